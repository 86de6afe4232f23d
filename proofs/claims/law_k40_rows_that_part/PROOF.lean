import PyProof.Rows.All
import Wide.All
import OpenK.AllK
import Wide.FinOn
import PyProof.EqAt
import PyProof.EqKinds
import PyProof.TupleCall
import Lean
import PySem.Challenge.RW_surewatch_k40_rows_that_part
section
set_option Elab.async false
set_option linter.all false
set_option maxRecDepth 100000
namespace L2
open PySem PySem.Spec PyProof.Rows

abbrev Key := Sum Int Str
def keyIs : Key → Value → Bool
  | .inl k, v => Value.isInt k v
  | .inr x, v => Value.isStrOf x v
def keyH (w : World) : Key → Int
  | .inl k => hashInt k
  | .inr x => hashStr w x
theorem keyIs_shape : ∀ {k : Key} {v : Value}, keyIs k v = true → (∃ i t, k = Sum.inl i ∧ v = Value.int i t) ∨ (∃ x t, k = Sum.inr x ∧ v = Value.str x t)
  | .inl i, v, h => by
    obtain ⟨t, e⟩ := Value.isInt_shape (k := i) (v := v) h
    exact .inl ⟨i, t, rfl, e⟩
  | .inr x, v, h => by
    obtain ⟨t, e⟩ := Value.isStrOf_shape (x := x) (v := v) h
    exact .inr ⟨x, t, rfl, e⟩
theorem keyIs_int (i : Int) (t : Tok) : keyIs (.inl i) (.int i t) = true := by simp [keyIs, Value.isInt]
theorem keyIs_str (x : Str) (t : Tok) : keyIs (.inr x) (.str x t) = true := by simp [keyIs, Value.isStrOf]
theorem key_ll (a b : Int) : decide ((Sum.inl a : Key) = Sum.inl b) = (a == b) := by
  by_cases e : a = b
  · subst e; simp
  · have h : ¬ (Sum.inl a : Key) = Sum.inl b := fun q => e (Sum.inl.inj q)
    rw [decide_eq_false h]
    exact (beq_eq_false_iff_ne.mpr e).symm
theorem key_rr (a b : Str) : decide ((Sum.inr a : Key) = Sum.inr b) = decide (a = b) := by
  by_cases e : a = b
  · subst e; simp
  · have h : ¬ (Sum.inr a : Key) = Sum.inr b := fun q => e (Sum.inr.inj q)
    rw [decide_eq_false h, decide_eq_false e]
theorem key_lr (a : Int) (b : Str) : decide ((Sum.inl a : Key) = Sum.inr b) = false := decide_eq_false (fun q => nomatch q)
theorem key_rl (a : Str) (b : Int) : decide ((Sum.inr a : Key) = Sum.inl b) = false := decide_eq_false (fun q => nomatch q)

def mixKind (prog : Program) (w : World) : PySem.KeyKind prog w Key where
  is := keyIs
  hash := keyH w
  inj := fun v a b ha hb => by
    rcases keyIs_shape ha with ⟨i, t, rfl, rfl⟩ | ⟨x, t, rfl, rfl⟩
    · rcases keyIs_shape hb with ⟨j, u, rfl, e⟩ | ⟨y, u, rfl, e⟩
      · injection e with e1 _; rw [e1]
      · exact nomatch e
    · rcases keyIs_shape hb with ⟨j, u, rfl, e⟩ | ⟨y, u, rfl, e⟩
      · exact nomatch e
      · injection e with e1 _; rw [e1]
  byValue := fun k v h => by
    rcases keyIs_shape h with ⟨i, t, rfl, rfl⟩ | ⟨x, t, rfl, rfl⟩ <;> rfl
  pyHash := fun hv h => by
    rcases keyIs_shape hv with ⟨i, t, rfl, rfl⟩ | ⟨x, t, rfl, rfl⟩
    · exact wpAny_pyHash_int h
    · exact wpAny_pyHash_str h
  eqBool := fun hu hv h => by
    rcases keyIs_shape hu with ⟨i, t, rfl, rfl⟩ | ⟨x, t, rfl, rfl⟩
    · rcases keyIs_shape hv with ⟨j, u, rfl, rfl⟩ | ⟨y, u, rfl, rfl⟩
      · rw [key_ll] at h; exact wpAny_eqBool_int h
      · rw [key_lr] at h; exact SeqAt.EqAt.int_str i t y u _ _ _ _ h
    · rcases keyIs_shape hv with ⟨j, u, rfl, rfl⟩ | ⟨y, u, rfl, rfl⟩
      · rw [key_rl] at h; exact SeqAt.EqAt.str_int x t j u _ _ _ _ h
      · rw [key_rr] at h; exact wpAny_eqBool_str h
  «strs» := fun k x t v h => by
    rcases keyIs_shape h with ⟨i, u, rfl, e⟩ | ⟨y, u, rfl, e⟩
    · exact nomatch e
    · injection e with e1 _
      subst e1
      cases v <;> rfl

theorem mixKind_int (prog : Program) (w : World) (i : Int) (t : Tok) : (mixKind prog w).is (.inl i) (.int i t) = true := keyIs_int i t
theorem mixKind_str (prog : Program) (w : World) (x : Str) (t : Tok) : (mixKind prog w).is (.inr x) (.str x t) = true := keyIs_str x t
end L2

namespace L2
open PySem PySem.Spec PyProof.Rows

inductive V where
  | non | bl (b : Bool) | int (i : Int) | str (x : Str) | byt (b : Array UInt8) | flt (b : UInt64) | ref (a : Addr) | ty (n : String)
  deriving DecidableEq

def RelV : V → Value → Prop
  | .non, u => u = Value.none
  | .bl b, u => u = Value.bool b
  | .int i, u => ∃ t, u = Value.int i t
  | .str x, u => ∃ t, u = Value.str x t
  | .byt b, u => ∃ t, u = Value.bytes b t
  | .flt b, u => ∃ t, u = Value.float b t
  | .ref a, u => u = Value.ref a
  | .ty n, u => u = Value.type n

abbrev Vals : List V → List Value → Prop := Paired RelV
theorem Vals.length {xs : List V} {us : List Value} (r : Vals xs us) : xs.length = us.length := Paired.length r
theorem Vals.get : ∀ {xs : List V} {us : List Value} {i : Nat} {x : V}, Vals xs us → xs[i]? = some x → ∃ u, us[i]? = some u ∧ RelV x u
  | _, _, _, _, .nil, e => by simp at e
  | _, _, 0, _, .cons r _, e => by simp at e; subst e; exact ⟨_, rfl, r⟩
  | _, _, i + 1, x, .cons _ t, e => by
    obtain ⟨u, h1, h2⟩ := Vals.get (i := i) (x := x) t (by simpa using e)
    exact ⟨u, by simpa using h1, h2⟩
theorem Vals.set {x : V} {u : Value} (r : RelV x u) : ∀ {xs : List V} {us : List Value} (i : Nat), Vals xs us → Vals (xs.set i x) (us.set i u)
  | _, _, _, .nil => .nil
  | _, _, 0, .cons _ t => .cons r t
  | _, _, i + 1, .cons q t => .cons q (Vals.set r i t)
theorem Vals.append : ∀ {xs ys : List V} {us ws : List Value}, Vals xs us → Vals ys ws → Vals (xs ++ ys) (us ++ ws)
  | _, _, _, _, .nil, s => s
  | _, _, _, _, .cons r t, s => .cons r (Vals.append t s)
theorem Vals.take : ∀ {xs : List V} {us : List Value} (n : Nat), Vals xs us → Vals (xs.take n) (us.take n)
  | _, _, 0, _ => .nil
  | _, _, _ + 1, .nil => .nil
  | _, _, n + 1, .cons r t => .cons r (Vals.take n t)
theorem Vals.drop : ∀ {xs : List V} {us : List Value} (n : Nat), Vals xs us → Vals (xs.drop n) (us.drop n)
  | _, _, 0, r => r
  | _, _, _ + 1, .nil => .nil
  | _, _, n + 1, .cons _ t => Vals.drop n t
theorem Vals.none_of : ∀ {xs : List V} {us : List Value} {i : Nat}, Vals xs us → xs[i]? = none → us[i]? = none := fun {xs us i} r e => by
  have h1 := r.length
  have h2 : xs.length ≤ i := List.getElem?_eq_none_iff.mp e
  exact List.getElem?_eq_none_iff.mpr (by omega)

def RelO : Option V → Option Value → Prop
  | some v, some u => RelV v u
  | none, none => True
  | _, _ => False
def KV {κ : Type} : List (κ × V) → List (κ × Value) → Prop := Paired fun (p : κ × V) (q : κ × Value) => p.1 = q.1 ∧ RelV p.2 q.2

def kV : Key → V
  | .inl i => .int i
  | .inr x => .str x

inductive HO where
  | lst (xs : List V)
  | tup (xs : List V)
  | dK (kvs : List (Key × V)) | dT (kvs : List (List Key × V))
  | set (S : Int → Bool) (n : Nat)
  | ins (C dx : Addr) (fs : List (Str × V))
  | own (x : Addr)
  | xd (fs : List (Str × V))
  | met (f x : Addr)
  | rng (lo hi : Int)
  | frz (o : Obj) (u : HO)
  | tbl (ps : Array Value)
  | ext (φ : Heap → Prop)

abbrev Hp := Addr → Option HO
def upd (H : Hp) (a : Addr) (o : HO) : Hp := fun b => if b = a then some o else H b
theorem upd_same {H : Hp} {a : Addr} {o : HO} : upd H a o a = some o := by unfold upd; rw [if_pos rfl]
theorem upd_ne {H : Hp} {a b : Addr} {o : HO} (h : b ≠ a) : upd H a o b = H b := by unfold upd; rw [if_neg h]
theorem ne_of {H : Hp} {a b : Addr} {o u : HO} (h : H a = some o) (h' : H b = some u) (d : o ≠ u) : a ≠ b := by
  intro e; subst e; rw [h] at h'; exact d (Option.some.inj h')
theorem ne_of_none {H : Hp} {a b : Addr} {o : HO} (h : H a = some o) (h' : H b = none) : a ≠ b := by
  intro e; subst e; rw [h] at h'; cases h'

section
variable (P : Program) (w : World)
def ObjOk (H : Hp) (h : Heap) (a : Addr) : HO → Prop
  | .lst xs => xs.length ≤ sizeLine ∧ ∃ (its : List Value) (n : Nat), Vals xs its ∧ h.get? a = some { cls := .type "list", data := .seq its.toArray n }
  | .tup xs => xs.length ≤ sizeLine ∧ ∃ its : List Value, Vals xs its ∧ IsTup h a its.toArray
  | .dK kvs => kvs.length ≤ sizeLine ∧ (a == sysModules) = false ∧ ∃ vs, KV kvs vs ∧ h.DictOf (mixKind P w) a vs
  | .dT kvs => kvs.length ≤ sizeLine ∧ (a == sysModules) = false ∧ ∃ xs : List (List Key × Addr × Value),
      Paired (fun (p : List Key × V) (q : List Key × Addr × Value) => p.1 = q.1 ∧ H q.2.1 = some (.tup (p.1.map kV)) ∧ RelV p.2 q.2.2) kvs xs ∧
      ∃ o es ep, h.get? a = some o ∧ o.ExactDict ∧ o.data = .dict es ep ∧ es.toList = xs.map (entryOfKey (tupleKind (mixKind P w))) ∧ (xs.map (·.1)).Nodup
  | .set S n => h.SetOf (intKind P w) a S n
  | .ins C dx fs => H dx = some (.own a) ∧ fs.length ≤ 1000 ∧ dx ≠ a ∧ h.get? a = some (PySem.W.instObj C dx) ∧
      ∃ mA, h.Ns1 dx mA ∧ (∀ f, RelO (fs.lookup f) (mA f)) ∧ PySem.Within mA (fs.map (·.1))
  | .own _ => ∃ o, h.get? a = some o
  | .xd fs => ∃ mA, h.Ns1 a mA ∧ ∀ f, RelO (fs.lookup f) (mA f)
  | .rng lo hi => ∃ t u v, h.get? a = some { cls := .type "range", data := .fields #[.int lo t, .int hi u, .int 1 v] }
  | .frz o u => h.get? a = some o ∧ ObjOk H h a u
  | .tbl ps => h.get? a = some { cls := .none, data := .fields ps }
  | .met f x => h.get? a = some (PySem.W.methodObj (.ref f) (.ref x))
  | .ext φ => φ h ∧ (∃ o, h.get? a = some o) ∧ ∀ h1 h2 : Heap, φ h1 → (∀ o, h1.get? a = some o → h2.get? a = some o) → φ h2
def HOk (H : Hp) (h : Heap) : Prop := ∀ a o, H a = some o → ObjOk P w H h a o
end

section
variable {P : Program} {w : World} {H H' : Hp} {h h' : Heap} {a : Addr} {o : HO}
theorem ObjOk.lt (x : ObjOk P w H h a o) : a < h.objs.size := by
  cases o with
  | lst xs => obtain ⟨_, _, _, _, e⟩ := x; exact Heap.lt_size e
  | tup xs => obtain ⟨_, _, _, p⟩ := x; exact p.lt
  | dK kvs => obtain ⟨_, _, _, _, o, _, _, e, _⟩ := x; exact Heap.lt_size e
  | dT kvs => obtain ⟨_, _, _, _, o, _, _, e, _⟩ := x; exact Heap.lt_size e
  | set S n => obtain ⟨o, _, _, _, e, _⟩ := x; exact Heap.lt_size e
  | ins C dx fs => obtain ⟨_, _, _, e, _⟩ := x; exact Heap.lt_size e
  | own y => obtain ⟨_, e⟩ := x; exact Heap.lt_size e
  | xd fs => obtain ⟨_, ⟨_, _, _, e, _⟩, _⟩ := x; exact Heap.lt_size e
  | rng lo hi => obtain ⟨_, _, _, e⟩ := x; exact Heap.lt_size e
  | frz ob u => obtain ⟨e, _⟩ := x; exact Heap.lt_size e
  | tbl ps => exact Heap.lt_size (show h.get? a = some _ from x)
  | met f y => exact Heap.lt_size (show h.get? a = some _ from x)
  | ext φ => obtain ⟨_, ⟨_, e⟩, _⟩ := x; exact Heap.lt_size e
theorem Paired.mapP {α β : Type} {F G : α → β → Prop} : ∀ {l₁ : List α} {l₂ : List β}, Paired F l₁ l₂ → (∀ a b, F a b → G a b) → Paired G l₁ l₂
  | _, _, .nil, _ => .nil
  | _, _, .cons r t, f => .cons (f _ _ r) (Paired.mapP t f)
theorem ObjOk.stay (x : ObjOk P w H h a o) (k : ∀ b u, (b = a ∨ H b = some (.own a)) → h.get? b = some u → h'.get? b = some u)
    (ho : ∀ b, H b = some (.own a) → H' b = some (.own a)) (ht : ∀ b xs, H b = some (.tup xs) → H' b = some (.tup xs)) : ObjOk P w H' h' a o := by
  induction o with
  | lst xs => obtain ⟨z, its, n, r, e⟩ := x; exact ⟨z, its, n, r, k _ _ (.inl rfl) e⟩
  | tup xs => obtain ⟨z, its, r, ob, e, c⟩ := x; exact ⟨z, its, r, ob, k _ _ (.inl rfl) e, c⟩
  | dK kvs => obtain ⟨z, y, vs, r, ob, es, ep, e, c⟩ := x; exact ⟨z, y, vs, r, ob, es, ep, k _ _ (.inl rfl) e, c⟩
  | dT kvs =>
    obtain ⟨z, y, xs, r, ob, es, ep, e, c⟩ := x
    exact ⟨z, y, xs, Paired.mapP r fun p q z => ⟨z.1, ht _ _ z.2.1, z.2.2⟩, ob, es, ep, k _ _ (.inl rfl) e, c⟩
  | set S n => obtain ⟨ob, es, ep, t, e, c⟩ := x; exact ⟨ob, es, ep, t, k _ _ (.inl rfl) e, c⟩
  | ins C dx fs =>
    obtain ⟨d, z, ne, e, mA, ⟨od, es, ep, e2, c⟩, r⟩ := x
    exact ⟨ho _ d, z, ne, k _ _ (.inl rfl) e, mA, ⟨od, es, ep, k _ _ (.inr d) e2, c⟩, r⟩
  | own y => obtain ⟨ob, e⟩ := x; exact ⟨ob, k _ _ (.inl rfl) e⟩
  | xd fs => obtain ⟨mA, ⟨od, es, ep, e, c⟩, r⟩ := x; exact ⟨mA, ⟨od, es, ep, k _ _ (.inl rfl) e, c⟩, r⟩
  | rng lo hi => obtain ⟨t, u, v, e⟩ := x; exact ⟨t, u, v, k _ _ (.inl rfl) e⟩
  | frz ob u ih => obtain ⟨e, q⟩ := x; exact ⟨k _ _ (.inl rfl) e, ih q⟩
  | tbl ps =>
    have e : h.get? a = some { cls := .none, data := .fields ps } := x
    show h'.get? a = some { cls := .none, data := .fields ps }
    exact k a _ (.inl rfl) e
  | met f y =>
    have e : h.get? a = some (PySem.W.methodObj (.ref f) (.ref y)) := x
    show h'.get? a = some (PySem.W.methodObj (.ref f) (.ref y))
    exact k a _ (.inl rfl) e
  | ext φ => obtain ⟨p, ⟨o, e⟩, st⟩ := x; exact ⟨st _ _ p fun o q => k _ _ (.inl rfl) q, ⟨o, k _ _ (.inl rfl) e⟩, st⟩
theorem HOk.lt (x : HOk P w H h) (e : H a = some o) : a < h.objs.size := (x a o e).lt
theorem HOk.fresh (x : HOk P w H h) (e : h.objs.size ≤ a) : H a = none := by
  cases q : H a with
  | none => rfl
  | some u => exact absurd (Nat.lt_of_lt_of_le (x.lt q) e) (Nat.lt_irrefl _)
theorem HOk.kept (x : HOk P w H h) (k : ∀ b u, h.get? b = some u → h'.get? b = some u) : HOk P w H h' := fun a o e =>
  (x a o e).stay (fun b u _ q => k b u q) (fun _ q => q) fun _ _ q => q
theorem HOk.laid (x : HOk P w H h) (k : ∀ b u, h.get? b = some u → h'.get? b = some u) (hp : h.objs.size ≤ a) (new : ObjOk P w (upd H a o) h' a o) : HOk P w (upd H a o) h' := fun b u e => by
  have hn := x.fresh hp
  by_cases hb : b = a
  · subst hb; rw [upd_same] at e; cases e; exact new
  · rw [upd_ne hb] at e
    exact (x b u e).stay (fun c v _ q => k c v q) (fun c q => by rw [upd_ne (ne_of_none q hn)]; exact q) fun c xs q => by rw [upd_ne (ne_of_none q hn)]; exact q
end

def Rd (H : Hp) (a : Addr) (u : HO) : Prop := H a = some u ∨ ∃ o, H a = some (.frz o u)
theorem Rd.of {H : Hp} {a : Addr} {u : HO} (h : H a = some u) : Rd H a u := .inl h
theorem Rd.ok {P : Program} {w : World} {H : Hp} {h : Heap} {a : Addr} {u : HO} (r : Rd H a u) (x : HOk P w H h) : ObjOk P w H h a u := by
  rcases r with r | ⟨o, r⟩
  · exact x a u r
  · obtain ⟨_, q⟩ := x a _ r
    exact q
def Mut : Option HO → Prop
  | some (.lst _) => True
  | some (.dK _) => True
  | some (.dT _) => True
  | some (.set _ _) => True
  | some (.ins _ _ _) => True
  | some (.ext _) => True
  | _ => False
section
variable {P : Program} {w : World} {H : Hp} {h h' : Heap} {x e : Addr} {o' : HO}
theorem HOk.write (ok : HOk P w H h) (mu : Mut (H x)) (he : e = x ∨ H e = some (.own x)) (k : ∀ b u, b ≠ e → h.get? b = some u → h'.get? b = some u) (heo : ∃ u, h'.get? e = some u)
    (new : ObjOk P w (upd H x o') h' x o') : HOk P w (upd H x o') h' := fun b u q => by
  have nown : ∀ c y, H c = some (.own y) → c ≠ x := fun c y r z => by subst z; rw [r] at mu; exact mu
  have ntup : ∀ c xs, H c = some (.tup xs) → c ≠ x := fun c xs r z => by subst z; rw [r] at mu; exact mu
  by_cases hb : b = x
  · subst hb; rw [upd_same] at q; cases q; exact new
  · rw [upd_ne hb] at q
    by_cases hbe : b = e
    · have q' : H b = some (.own x) := by
        rcases he with z | z
        · exact absurd (hbe.trans z) hb
        · rw [hbe]; exact z
      rw [q] at q'; cases q'
      obtain ⟨v, hv⟩ := heo
      exact ⟨v, by rw [hbe]; exact hv⟩
    · refine (ok b u q).stay (fun c v hc r => k c v ?_ r) (fun c r => by rw [upd_ne (nown c b r)]; exact r) fun c xs r => by rw [upd_ne (ntup c xs r)]; exact r
      rcases hc with rfl | hc
      · exact hbe
      · rintro rfl
        rcases he with z | z
        · exact nown c b hc z
        · rw [hc] at z; cases z; exact hb rfl
end

structure Un (fs ex : List Addr) (H H' : Hp) (h h' : Heap) : Prop where
  keep : ∀ b o, h.get? b = some o → H b = none → b ∉ fs → b ∉ ex → h'.get? b = some o
  slot : ∀ b o, h.get? b = some o → H b = none → b ∈ fs → b ∉ ex → ∃ sl, h'.get? b = some { o with slots := sl }
  free : ∀ b o, h.get? b = some o → H b = none → b ∉ ex → H' b = none
  there : ∀ b o, h.get? b = some o → b ∉ ex → ∃ o', h'.get? b = some o'
  tups : ∀ b xs, H b = some (.tup xs) → H' b = some (.tup xs)
  frzs : ∀ b o u, H b = some (.frz o u) → H' b = some (.frz o u)
  tbls : ∀ b ps, H b = some (.tbl ps) → ∃ more, H' b = some (.tbl (ps ++ more))
section
variable {fs fs' ex ex' : List Addr} {H H1 H2 : Hp} {h h1 h2 h' : Heap} {a x e : Addr} {o : HO}
theorem Un.any (u : Un fs ex H H1 h h1) {b : Addr} {ob : Obj} (q : h.get? b = some ob) (n : H b = none) (hx : b ∉ ex) : ∃ sl, h1.get? b = some { ob with slots := sl } := by
  by_cases hb : b ∈ fs
  · exact u.slot b ob q n hb hx
  · exact ⟨ob.slots, u.keep b ob q n hb hx⟩
theorem Un.trans (a : Un fs ex H H1 h h1) (b : Un fs ex H1 H2 h1 h2) : Un fs ex H H2 h h2 where
  keep := fun c ob q n hc hx => b.keep c ob (a.keep c ob q n hc hx) (a.free c ob q n hx) hc hx
  slot := fun c ob q n hc hx => by
    obtain ⟨sl, e1⟩ := a.slot c ob q n hc hx
    obtain ⟨sl', e2⟩ := b.slot c _ e1 (a.free c ob q n hx) hc hx
    exact ⟨sl', e2⟩
  free := fun c ob q n hx => by
    obtain ⟨o', e1⟩ := a.there c ob q hx
    exact b.free c o' e1 (a.free c ob q n hx) hx
  there := fun c ob q hx => by
    obtain ⟨o', e1⟩ := a.there c ob q hx
    exact b.there c o' e1 hx
  tups := fun c xs q => b.tups c xs (a.tups c xs q)
  frzs := fun c ob xs q => b.frzs c ob xs (a.frzs c ob xs q)
  tbls := fun c ps q => by
    obtain ⟨m1, e1⟩ := a.tbls c ps q
    obtain ⟨m2, e2⟩ := b.tbls c _ e1
    exact ⟨m1 ++ m2, by rw [e2, Array.append_assoc]⟩
theorem Un.kept (k : ∀ b u, h.get? b = some u → h'.get? b = some u) : Un fs ex H H h h' :=
  ⟨fun b ob q _ _ _ => k b ob q, fun b ob q _ _ _ => ⟨ob.slots, k b ob q⟩, fun _ _ _ n _ => n, fun b ob q _ => ⟨ob, k b ob q⟩, fun _ _ q => q, fun _ _ _ q => q, fun _ ps q => ⟨#[], by rw [q]; simp⟩⟩
theorem Un.refl : Un fs ex H H h h := Un.kept fun _ _ q => q
theorem Un.laid (k : ∀ b u, h.get? b = some u → h'.get? b = some u) (hp : h.objs.size ≤ a) (hn : H a = none) : Un fs ex H (upd H a o) h h' where
  keep := fun b u q _ _ _ => k b u q
  slot := fun b u q _ _ _ => ⟨u.slots, k b u q⟩
  free := fun b u q n _ => by rw [upd_ne (Nat.ne_of_lt (Nat.lt_of_lt_of_le (Heap.lt_size q) hp))]; exact n
  there := fun b u q _ => ⟨u, k b u q⟩
  tups := fun b xs q => by rw [upd_ne (ne_of_none q hn)]; exact q
  frzs := fun b u xs q => by rw [upd_ne (ne_of_none q hn)]; exact q
  tbls := fun b ps q => ⟨#[], by rw [upd_ne (ne_of_none q hn), q]; simp⟩
theorem Un.write (mu : Mut (H x)) (he : e = x ∨ H e = some (.own x)) (k : ∀ b u, b ≠ e → h.get? b = some u → h'.get? b = some u) (heo : ∃ u, h'.get? e = some u) : Un fs ex H (upd H x o) h h' := by
  have hx : ∀ b, H b = none → b ≠ x := fun b n z => by subst z; rw [n] at mu; exact mu
  have hb : ∀ b, H b = none → b ≠ e := fun b n z => by
    subst z
    rcases he with r | r
    · exact hx b n r
    · rw [n] at r; cases r
  have hm : ∀ b u, H b = some u → ¬ Mut (some u) → b ≠ x := fun b u q nm z => by subst z; rw [q] at mu; exact nm mu
  refine ⟨fun b u q n _ _ => k b u (hb b n) q, fun b u q n _ _ => ⟨u.slots, k b u (hb b n) q⟩, fun b u q n _ => by rw [upd_ne (hx b n)]; exact n, fun b u q _ => ?_,
    fun b xs q => by rw [upd_ne (hm b _ q fun z => z)]; exact q, fun b u xs q => by rw [upd_ne (hm b _ q fun z => z)]; exact q, fun b ps q => ⟨#[], by rw [upd_ne (hm b _ q fun z => z), q]; simp⟩⟩
  by_cases hbe : b = e
  · subst hbe; exact heo
  · exact ⟨u, k b u hbe q⟩
theorem Un.mono (u : Un fs ex H H1 h h1) (hs : ∀ b ∈ fs, b ∈ fs') (hx : ∀ b ∈ ex, b ∈ ex') : Un fs' ex' H H1 h h1 :=
  ⟨fun b ob q n hb he => u.keep b ob q n (fun z => hb (hs b z)) fun z => he (hx b z), fun _ _ q n _ he => u.any q n fun z => he (hx _ z), fun b ob q n he => u.free b ob q n fun z => he (hx b z), fun b ob q he => u.there b ob q fun z => he (hx b z), u.tups, u.frzs, u.tbls⟩
end

def trk (h : Heap) (H : Hp) : List Addr := (List.range h.objs.size).filter fun a => (H a).isSome
def hidT (h : Heap) (H : Hp) : Heap := PySem.W.hideAll h (trk h H)
theorem hidT_size (h : Heap) (H : Hp) : (hidT h H).objs.size = h.objs.size := PySem.W.hideAll_size _ _
theorem hidT_get {h : Heap} {H : Hp} {b : Addr} {o : Obj} (e : h.get? b = some o) (n : H b = none) : (hidT h H).get? b = some o :=
  PySem.W.hideAll_get _ e fun hm => by
    have q : (H b).isSome = true := (List.mem_filter.mp hm).2
    rw [n] at q; simp at q
theorem of_hidT {h : Heap} {H : Hp} {b : Addr} {o : Obj} (e : (hidT h H).get? b = some o) : h.get? b = some o ∧ H b = none := by
  have e' : h.get? b = some o := PySem.W.of_hideAll (trk h H) e
  refine ⟨e', ?_⟩
  cases q : H b with
  | none => rfl
  | some x =>
    have hm : b ∈ trk h H := List.mem_filter.mpr ⟨List.mem_range.mpr (Heap.lt_size e'), by simp [q]⟩
    have z : (hidT h H).get? b = none := PySem.W.hideAll_none (trk h H) hm
    rw [z] at e; cases e

def allNews (g h : Heap) (L : Addr) : List (Addr × Obj) := (List.range h.objs.size).filterMap fun a => if a = L ∨ (g.get? a).isSome = true then none else (h.get? a).map fun o => (a, o)
def rest (g h : Heap) (L d : Addr) : List (Addr × Obj) := (allNews g h L).filter fun p => decide (p.1 ≠ d)
end L2

namespace L2
open PySem PySem.Spec PyProof.Rows

structure Mod (K : PySem.W.Frag) (mg : Str → Option Value) (base : Heap) : Prop where
  kin : K.In base
  glob : base.Ns mainGlobals mg
  blt : ∃ mb, base.Ns builtinsNs mb ∧ ∀ x : Str, x ≠ "__name__" → mb x = bootBuiltins x
  nolimit : base.NoLimit

/-- the context: a def's body (or a comprehension's block) running. base: fixed through the whole law; s₀, H₀: the entry; outer: the frames whose slots others may change (a def's callers); stack: all frames that run;
   ex: iterators that were made ahead of the entry and are walked here (a comprehension's); fn: the names whose cells were made at the entry (a def: all; a comprehension's block: its own); calm: not within an except suite; pn: pins that every state bears; xe: what is wanted of an exception that leaves the code -/
structure Cx where
  prog : Program
  w : World
  K : PySem.W.Frag
  mg : Str → Option Value
  base : Heap
  A : Around
  N : List Str
  s₀ : Shared
  H₀ : Hp
  env : Env
  outer : List Env
  stack : List Env
  ex : List Addr
  fn : Str → Bool
  calm : Bool
  pn : List (Addr × Obj)
  xe : Value → Shared → Prop
def frs (l : List Env) : List Addr := l.filterMap (·.frame)
abbrev Cx.fs (X : Cx) : List Addr := frs X.outer

def Vis (sc : Scope) (x : Str) : Prop := sc.names.lookup x = some .local ∨ sc.names.lookup x = some .cell ∨ sc.names.lookup x = some .free
def Loc (sc : Scope) (x : Str) : Prop := sc.names.lookup x = some .local ∨ sc.names.lookup x = some .cell
def Look (env : Env) (h : Heap) (m : Str → Option Value) (x : Str) (u : Value) : Prop :=
  (env.kindOf x = some .local ∧ m x = some u) ∨ ((env.kindOf x = some .cell ∨ env.kindOf x = some .free) ∧ ∃ c, env.cells.lookup x = some c ∧ h.IsCell c (some u))

structure Cx.Ok (X : Cx) : Prop where
  mod : Mod X.K X.mg X.base
  kind : X.env.scope.kind = .function
  glob : X.env.globals = mainGlobals
  blt : X.env.builtins = builtinsNs
  above : X.s₀.heap.objs.size ≤ X.env.locals
  inj : ∀ x y c, X.env.cells.lookup x = some c → X.env.cells.lookup y = some c → x = y
  has : ∀ x, (X.env.kindOf x = some .cell ∨ X.env.kindOf x = some .free) → ∃ c, X.env.cells.lookup x = some c
  cab : ∀ x c, X.fn x = true → X.env.cells.lookup x = some c → X.s₀.heap.objs.size ≤ c
  hd : X.calm = true → X.A.handled = none
  frames : X.A.frames = some X.stack
  stk : X.stack = X.outer ∨ (X.stack = X.env :: X.outer ∧ X.env.frame = some X.env.locals)
  exf : ∀ b ∈ X.ex, b ≠ X.env.locals ∧ ∀ x c, X.env.cells.lookup x = some c → c ≠ b
  bs : ∀ b o, X.base.get? b = some o → X.s₀.heap.get? b = some o ∧ X.H₀ b = none
  bsz : X.base.objs.size ≤ X.s₀.heap.objs.size
  noex : ∀ b o, X.base.get? b = some o → b ∉ X.ex
  exfs : ∀ b ∈ X.ex, b ∉ X.fs
  funs : X.s₀.heap.FunFrames X.base X.outer
  frf : ∀ b ∈ X.fs, X.H₀ b = none

structure Inv (X : Cx) (pins : List (Addr × Obj)) (σ : List (Option V)) (H : Hp) (s : Shared) : Prop where
  ok : X.Ok
  os : s.os = X.s₀.os
  bare : AllBare s.gens
  base : Un X.fs X.ex X.H₀ H X.s₀.heap s.heap
  loc : ∃ m, s.heap.Ns X.env.locals m ∧ ∀ (i : Nat) (x : Str) (v : V), X.N[i]? = some x → σ[i]? = some (some v) → Vis X.env.scope x → ∃ u, RelV v u ∧ Look X.env s.heap m x u
  cell : ∀ x c, X.env.cells.lookup x = some c → ∃ v, s.heap.IsCell c v
  free : H X.env.locals = none
  freeC : ∀ x c, X.env.cells.lookup x = some c → H c = none
  pin : ∀ p ∈ X.pn ++ pins, s.heap.get? p.1 = some p.2 ∧ H p.1 = none ∧ p.1 ≠ X.env.locals ∧ p.1 ∉ X.fs ∧ ∀ v, p.2.data ≠ .cell v
  hok : HOk X.prog X.w H s.heap
  len : σ.length = X.N.length

section
variable {X : Cx} {pins : List (Addr × Obj)} {σ : List (Option V)} {H H' : Hp} {s : Shared} {h' : Heap}

theorem Cx.Ok.nofr (ok : X.Ok) {b : Addr} {o : Obj} (e : X.base.get? b = some o) : b ∉ X.fs := fun hb => by
  have := (ok.funs.mem hb).1
  rw [e] at this; cases this
theorem Inv.bs (I : Inv X pins σ H s) : ∀ b o, X.base.get? b = some o → s.heap.get? b = some o ∧ H b = none := fun b o e =>
  ⟨I.base.keep b o (I.ok.bs b o e).1 (I.ok.bs b o e).2 (I.ok.nofr e) (I.ok.noex b o e), I.base.free b o (I.ok.bs b o e).1 (I.ok.bs b o e).2 (I.ok.noex b o e)⟩
theorem Inv.bk (I : Inv X pins σ H s) : ∀ b o, X.base.get? b = some o → s.heap.get? b = some o := fun b o e => (I.bs b o e).1
theorem Inv.mod (I : Inv X pins σ H s) : Mod X.K X.mg X.base := I.ok.mod
theorem Inv.kIn (I : Inv X pins σ H s) : X.K.In s.heap := I.ok.mod.kin.keeps I.bk
theorem Inv.nolimit (I : Inv X pins σ H s) : s.heap.NoLimit := I.ok.mod.nolimit.keeps I.bk
theorem Inv.fr (I : Inv X pins σ H s) : ∃ m, Fr X.base X.env.locals s.heap m :=
  let ⟨m, hn, _⟩ := I.loc
  ⟨m, hn, I.bk, Nat.le_trans I.ok.bsz I.ok.above⟩
theorem Inv.lt (I : Inv X pins σ H s) : X.env.locals < s.heap.objs.size := let ⟨_, hn, _⟩ := I.loc; hn.lt
theorem Inv.sz (I : Inv X pins σ H s) : X.s₀.heap.objs.size ≤ s.heap.objs.size := Nat.le_trans I.ok.above (Nat.le_of_lt I.lt)
theorem Inv.nofs (I : Inv X pins σ H s) {a : Addr} (h : s.heap.objs.size ≤ a) : a ∉ X.fs := fun hb => by
  obtain ⟨_, o, ho, _⟩ := I.ok.funs.mem hb
  exact absurd (Nat.lt_of_lt_of_le (Heap.lt_size ho) (Nat.le_trans I.sz h)) (Nat.lt_irrefl _)
theorem Inv.cne (I : Inv X pins σ H s) : ∀ x c, X.env.cells.lookup x = some c → c ≠ X.env.locals := fun x c e z => by
  obtain ⟨v, o, ho, hd⟩ := I.cell x c e
  obtain ⟨m, ⟨o', es, ep, ho', hd', _⟩, _⟩ := I.loc
  rw [z, ho'] at ho; cases ho; rw [hd'] at hd; cases hd
theorem Inv.funs (I : Inv X pins σ H s) : s.heap.FunFrames X.base X.outer := by
  have all : ∀ (l : List Env), (∀ b ∈ frs l, b ∈ X.fs) → X.s₀.heap.FunFrames X.base l → s.heap.FunFrames X.base l := by
    intro l
    induction l with
    | nil => intro _ _; trivial
    | cons env r ih =>
      intro hs hl
      obtain ⟨hk, ⟨L, o, hf, hn, ho, hd⟩, hr⟩ := hl
      have hL : L ∈ X.fs := hs L (by unfold frs; rw [List.filterMap_cons, hf]; exact List.mem_cons_self)
      obtain ⟨sl, e⟩ := I.base.slot L o ho (I.ok.frf L hL) hL fun z => I.ok.exfs L z hL
      exact ⟨hk, ⟨L, _, hf, hn, e, hd⟩, ih (fun b hb => hs b (by unfold frs; rw [List.filterMap_cons, hf]; exact List.mem_cons_of_mem _ hb)) hr⟩
  exact all X.outer (fun _ hb => hb) I.ok.funs

theorem Inv.stack (I : Inv X pins σ H s) : s.heap.FunFrames X.base X.stack := by
  rcases I.ok.stk with e | ⟨e, hf⟩
  · rw [e]; exact I.funs
  · rw [e]
    obtain ⟨m, hn, _⟩ := I.loc
    refine .cons (by rw [I.ok.kind]; decide) hf hn ?_ I.funs
    exact Heap.get?_none_of_le (Nat.le_trans I.ok.bsz I.ok.above)
theorem Inv.stkSub (I : Inv X pins σ H s) : ∀ b ∈ frs X.stack, b ∈ X.env.locals :: X.fs := fun b hb => by
  rcases I.ok.stk with e | ⟨e, hf⟩
  · rw [e] at hb; exact List.mem_cons_of_mem _ hb
  · rw [e] at hb
    unfold frs at hb
    rw [List.filterMap_cons, hf] at hb
    exact hb
theorem Inv.stkFree (I : Inv X pins σ H s) : ∀ b ∈ frs X.stack, H b = none := fun b hb => by
  rcases List.mem_cons.mp (I.stkSub b hb) with e | hb
  · rw [e]; exact I.free
  · obtain ⟨_, o, ho, _⟩ := I.ok.funs.mem hb
    exact I.base.free b o ho (I.ok.frf b hb) fun z => I.ok.exfs b z hb

theorem Inv.step {g' : Array GenState} {t' : Nat} {d' : Drawn} {ch : List Addr} (I : Inv X pins σ H s)
    (hch : ∀ b ∈ ch, (b ∈ X.ex ∨ X.s₀.heap.objs.size ≤ b) ∧ b ≠ X.env.locals ∧ (∀ x c, X.env.cells.lookup x = some c → c ≠ b) ∧ ∀ p ∈ X.pn ++ pins, p.1 ≠ b)
    (keep : ∀ b o, b ≠ X.env.locals → b ∉ X.fs → b ∉ ch → s.heap.get? b = some o → H b = none → h'.get? b = some o)
    (slot : ∀ b o, b ≠ X.env.locals → b ∈ X.fs → b ∉ ch → s.heap.get? b = some o → H b = none → ∃ sl, h'.get? b = some { o with slots := sl }) (free : ∀ b o, b ∉ ch → s.heap.get? b = some o → H b = none → H' b = none)
    (there : ∀ b o, b ∉ ch → s.heap.get? b = some o → ∃ o', h'.get? b = some o')
    (tups : ∀ b xs, H b = some (.tup xs) → H' b = some (.tup xs)) (frzs : ∀ b o u, H b = some (.frz o u) → H' b = some (.frz o u)) (tbls : ∀ b ps, H b = some (.tbl ps) → ∃ more, H' b = some (.tbl (ps ++ more)))
    (ns : ∀ m, s.heap.Ns X.env.locals m → h'.Ns X.env.locals m) (hok : HOk X.prog X.w H' h') (hg : AllBare g') :
    Inv X pins σ H' { s with heap := h', gens := g', drawn := d', toks := t' } := by
  have neL : ∀ b o, X.s₀.heap.get? b = some o → b ≠ X.env.locals := fun b o e => Nat.ne_of_lt (Nat.lt_of_lt_of_le (Heap.lt_size e) I.ok.above)
  have neC : ∀ b o, X.s₀.heap.get? b = some o → b ∉ X.ex → b ∉ ch := fun b o e hx hb => by
    rcases (hch b hb).1 with z | z
    · exact hx z
    · exact absurd (Nat.lt_of_lt_of_le (Heap.lt_size e) z) (Nat.lt_irrefl _)
  have cellK : ∀ x c, X.env.cells.lookup x = some c → ∀ v, s.heap.IsCell c v → h'.IsCell c v := fun x c e v ⟨o, ho, hd⟩ => by
    have nch : c ∉ ch := fun z => (hch c z).2.2.1 x c e rfl
    by_cases hc : c ∈ X.fs
    · obtain ⟨sl, q⟩ := slot c o (I.cne x c e) hc nch ho (I.freeC x c e)
      exact ⟨_, q, hd⟩
    · exact ⟨o, keep c o (I.cne x c e) hc nch ho (I.freeC x c e), hd⟩
  refine ⟨I.ok, I.os, hg, ⟨fun b o e n hb hx => ?_, fun b o e n hb hx => ?_, fun b o e n hx => ?_, fun b o e hx => ?_, fun b xs e => tups b xs (I.base.tups b xs e), fun b o xs e => frzs b o xs (I.base.frzs b o xs e), fun b ps e => ?_⟩, ?_, fun x c e => ?_, ?_, fun x c e => ?_, fun p hp => ?_, hok, I.len⟩
  · exact keep b o (neL b o e) hb (neC b o e hx) (I.base.keep b o e n hb hx) (I.base.free b o e n hx)
  · obtain ⟨sl, e1⟩ := I.base.slot b o e n hb hx
    obtain ⟨sl', e2⟩ := slot b _ (neL b o e) hb (neC b o e hx) e1 (I.base.free b o e n hx)
    exact ⟨sl', e2⟩
  · obtain ⟨o', e1⟩ := I.base.there b o e hx
    exact free b o' (neC b o e hx) e1 (I.base.free b o e n hx)
  · obtain ⟨o', e1⟩ := I.base.there b o e hx
    exact there b o' (neC b o e hx) e1
  · obtain ⟨m1, e1⟩ := I.base.tbls b ps e
    obtain ⟨m2, e2⟩ := tbls b _ e1
    exact ⟨m1 ++ m2, by rw [e2, Array.append_assoc]⟩
  · obtain ⟨m, hn, hl⟩ := I.loc
    refine ⟨m, ns m hn, fun i x v e1 e2 e3 => ?_⟩
    obtain ⟨u, r, l⟩ := hl i x v e1 e2 e3
    refine ⟨u, r, ?_⟩
    rcases l with l | ⟨k, c, e, z⟩
    · exact .inl l
    · exact .inr ⟨k, c, e, cellK x c e _ z⟩
  · obtain ⟨v, z⟩ := I.cell x c e
    exact ⟨v, cellK x c e v z⟩
  · obtain ⟨m, ⟨o, _, _, ho, _⟩, _⟩ := I.loc
    exact free _ o (fun z => (hch _ z).2.1 rfl) ho I.free
  · obtain ⟨v, o, ho, hd⟩ := I.cell x c e
    exact free c o (fun z => (hch c z).2.2.1 x c e rfl) ho (I.freeC x c e)
  · obtain ⟨e, n, ne, nf, d⟩ := I.pin p hp
    have nch : p.1 ∉ ch := fun z => (hch p.1 z).2.2.2 p hp rfl
    exact ⟨keep p.1 p.2 ne nf nch e n, free p.1 p.2 nch e n, ne, nf, d⟩
theorem Inv.un {t' : Nat} (I : Inv X pins σ H s) (u : Un X.fs [] H H' s.heap h') (hok : HOk X.prog X.w H' h') : Inv X pins σ H' { s with heap := h', toks := t' } := by
  obtain ⟨m, ⟨o, es, ep, ho, r⟩, _⟩ := id I.loc
  obtain ⟨sl, hL⟩ := u.any ho I.free (by simp)
  exact I.step (g' := s.gens) (d' := s.drawn) (ch := []) (fun _ z => nomatch z) (fun b o _ hb _ e n => u.keep b o e n hb (by simp)) (fun b o _ hb _ e n => u.slot b o e n hb (by simp)) (fun b o _ e n => u.free b o e n (by simp)) (fun b o _ e => u.there b o e (by simp)) u.tups u.frzs u.tbls (fun m' hm => by
    obtain ⟨o', es', ep', ho', r'⟩ := hm
    rw [ho] at ho'; cases ho'
    exact ⟨_, es', ep', hL, r'⟩) hok I.bare
theorem Inv.call {g' : Array GenState} {t' : Nat} {d' : Drawn} {ch : List Addr} (I : Inv X pins σ H s) (u : Un (frs X.stack) ch H H' s.heap h') (hok : HOk X.prog X.w H' h') (hg : AllBare g')
    (hch : ∀ b ∈ ch, (b ∈ X.ex ∨ X.s₀.heap.objs.size ≤ b) ∧ b ≠ X.env.locals ∧ (∀ x c, X.env.cells.lookup x = some c → c ≠ b) ∧ ∀ p ∈ X.pn ++ pins, p.1 ≠ b) :
    Inv X pins σ H' { s with heap := h', gens := g', drawn := d', toks := t' } := by
  obtain ⟨m, ⟨o, es, ep, ho, r⟩, _⟩ := id I.loc
  obtain ⟨sl, hL⟩ := u.any ho I.free fun z => (hch _ z).2.1 rfl
  exact I.step (ch := ch) hch (fun b o hL hb hc e n => u.keep b o e n (fun z => (List.mem_cons.mp (I.stkSub b z)).elim hL hb) hc) (fun b o _ _ hc e n => u.any e n hc) (fun b o hc e n => u.free b o e n hc) (fun b o hc e => u.there b o e hc) u.tups u.frzs u.tbls (fun m' hm => by
    obtain ⟨o', es', ep', ho', r'⟩ := hm
    rw [ho] at ho'; cases ho'
    exact ⟨_, es', ep', hL, r'⟩) hok hg
theorem Inv.turned {t' : Nat} {it : Addr} (I : Inv X pins σ H s) (k : ∀ b o, b ≠ it → s.heap.get? b = some o → h'.get? b = some o) (hn : H it = none) (hL : it ≠ X.env.locals)
    (h1 : it ∈ X.ex ∨ X.s₀.heap.objs.size ≤ it) (h2 : ∀ x c, X.env.cells.lookup x = some c → c ≠ it) (h3 : ∀ p ∈ X.pn ++ pins, p.1 ≠ it) : Inv X pins σ H { s with heap := h', toks := t' } := by
  have nit : ∀ b u, H b = some u → b ≠ it := fun b u e z => by rw [z, hn] at e; cases e
  refine I.step (g' := s.gens) (d' := s.drawn) (ch := [it]) (fun b hb => ?_) (fun b o _ _ hc e _ => k b o (fun z => hc (by simp [z])) e) (fun b o _ _ hc e _ => ⟨o.slots, k b o (fun z => hc (by simp [z])) e⟩) (fun _ _ _ _ n => n)
    (fun b o hc e => ⟨o, k b o (fun z => hc (by simp [z])) e⟩) (fun _ _ e => e) (fun _ _ _ e => e) (fun b ps e => ⟨#[], by rw [e]; simp⟩) (fun m hm => ?_) (fun b u e => ?_) I.bare
  · have e : b = it := by simpa using hb
    subst e
    exact ⟨h1, hL, h2, h3⟩
  · obtain ⟨o, es, ep, ho, r⟩ := hm
    exact ⟨o, es, ep, k _ o (Ne.symm hL) ho, r⟩
  · refine (I.hok b u e).stay (fun c v hc q => k c v ?_ q) (fun _ q => q) fun _ _ q => q
    rcases hc with z | z
    · rw [z]; exact nit b u e
    · exact nit c _ z
theorem Inv.tok (I : Inv X pins σ H s) (t : Nat) : Inv X pins σ H { s with toks := t } := I.un (h' := s.heap) (t' := t) Un.refl I.hok
theorem Inv.kept {t' : Nat} (I : Inv X pins σ H s) (k : ∀ b u, s.heap.get? b = some u → h'.get? b = some u) : Inv X pins σ H { s with heap := h', toks := t' } := I.un (Un.kept k) (I.hok.kept k)
theorem Inv.laid {a : Addr} {o : HO} {t' : Nat} (I : Inv X pins σ H s) (k : ∀ b u, s.heap.get? b = some u → h'.get? b = some u) (hp : s.heap.objs.size ≤ a) (new : ObjOk X.prog X.w (upd H a o) h' a o) :
    Inv X pins σ (upd H a o) { s with heap := h', toks := t' } := I.un (Un.laid k hp (I.hok.fresh hp)) (I.hok.laid k hp new)
theorem Inv.write {x e : Addr} {o : HO} {t' : Nat} (I : Inv X pins σ H s) (mu : Mut (H x)) (he : e = x ∨ H e = some (.own x)) (k : ∀ b u, b ≠ e → s.heap.get? b = some u → h'.get? b = some u) (heo : ∃ u, h'.get? e = some u)
    (new : ObjOk X.prog X.w (upd H x o) h' x o) : Inv X pins σ (upd H x o) { s with heap := h', toks := t' } := I.un (Un.write mu he k heo) (I.hok.write mu he k heo new)
theorem Inv.weak {σ' : List (Option V)} (I : Inv X pins σ H s) (hl : σ'.length = σ.length) (w : ∀ (i : Nat) v, σ'[i]? = some (some v) → σ[i]? = some (some v)) : Inv X pins σ' H s :=
  ⟨I.ok, I.os, I.bare, I.base, let ⟨m, hn, hl'⟩ := I.loc; ⟨m, hn, fun i x v e1 e2 e3 => hl' i x v e1 (w i v e2) e3⟩, I.cell, I.free, I.freeC, I.pin, I.hok, hl.trans I.len⟩
theorem Inv.pins_of {pins' : List (Addr × Obj)} (I : Inv X pins σ H s) (h : ∀ p ∈ pins', s.heap.get? p.1 = some p.2 ∧ H p.1 = none ∧ p.1 ≠ X.env.locals ∧ p.1 ∉ X.fs ∧ ∀ v, p.2.data ≠ .cell v) : Inv X pins' σ H s :=
  ⟨I.ok, I.os, I.bare, I.base, I.loc, I.cell, I.free, I.freeC, fun p hp => (List.mem_append.mp hp).elim (fun z => I.pin p (List.mem_append_left _ z)) (h p), I.hok, I.len⟩

theorem nodup_ix {N : List Str} (hN : N.Nodup) {i j : Nat} {x : Str} (a : N[i]? = some x) (b : N[j]? = some x) : i = j := by
  obtain ⟨h1, e1⟩ := List.getElem?_eq_some_iff.mp a
  obtain ⟨h2, e2⟩ := List.getElem?_eq_some_iff.mp b
  exact (List.getElem_inj hN).mp (e1.trans e2.symm)

theorem store_ok2 {M : Model} {A : Around} {E : Value → Shared → Prop} {i : Nat} {x : Str} {v : V} {u : Value} {Q : Unit → Shared → Prop} (I : Inv X pins σ H s) (hN : X.N.Nodup) (hi : X.N[i]? = some x) (hx : Loc X.env.scope x) (r : RelV v u)
    (h : ∀ s', Inv X pins (σ.set i (some v)) H s' → (∃ a, Heap.SameBut a s.heap s'.heap ∧ (a = X.env.locals ∨ X.env.cells.lookup x = some a)) → Q () s') (hf : X.fn x = true ∨ X.env.scope.names.lookup x = some .local := by first | exact .inl rfl | exact .inr rfl | assumption) : wpAny M A (storeName X.env x u) Q E s := by
  obtain ⟨m, hn, hl⟩ := id I.loc
  have hcls : (X.env.scope.kind == .class || (X.env.scope.kind == .module && X.env.locals != X.env.globals)) = false := by rw [I.ok.kind]; rfl
  have hiσ : i < σ.length := by rw [I.len]; exact (List.getElem?_eq_some_iff.mp hi).1
  have cne := I.cne
  have tracked : ∀ {a : Addr} {h' : Heap}, (∃ o, s.heap.get? a = some o ∧ H a = none) → Heap.SameBut a s.heap h' → HOk X.prog X.w H h' := fun {a h'} ha hs b ob e => by
    obtain ⟨_, _, hfree⟩ := ha
    refine (I.hok b ob e).stay (fun c w' hc q => (hs.2 c ?_).trans q) (fun _ q => q) fun _ _ q => q
    rintro rfl
    rcases hc with rfl | hc
    · rw [hfree] at e; cases e
    · rw [hfree] at hc; cases hc
  rcases hx with hk | hk
  · refine wpAny_storeName_local hk hn (fun h' hn' hs => ?_) hcls
    obtain ⟨oL, _, _, hoL, _⟩ := id hn
    refine h _ ⟨I.ok, I.os, I.bare, ⟨fun b o e n hb hx => ?_, fun b o e n hb hx => ?_, I.base.free, fun b o e hx => ?_, I.base.tups, I.base.frzs, I.base.tbls⟩, ⟨_, hn', fun j y v' e1 e2 e3 => ?_⟩, fun y c e => ?_, I.free, I.freeC, fun p hp => ?_, tracked ⟨oL, hoL, I.free⟩ hs, by simpa using I.len⟩ ⟨_, hs, .inl rfl⟩
    · exact (hs.2 b (Nat.ne_of_lt (Nat.lt_of_lt_of_le (Heap.lt_size e) I.ok.above))).trans (I.base.keep b o e n hb hx)
    · obtain ⟨sl, e1⟩ := I.base.slot b o e n hb hx
      exact ⟨sl, (hs.2 b (Nat.ne_of_lt (Nat.lt_of_lt_of_le (Heap.lt_size e) I.ok.above))).trans e1⟩
    · obtain ⟨o', e1⟩ := I.base.there b o e hx
      exact ⟨o', (hs.2 b (Nat.ne_of_lt (Nat.lt_of_lt_of_le (Heap.lt_size e) I.ok.above))).trans e1⟩
    · by_cases hj : j = i
      · subst hj
        rw [hi] at e1; cases e1
        rw [List.getElem?_set_self hiσ] at e2
        cases e2
        exact ⟨u, r, .inl ⟨hk, by simp⟩⟩
      · rw [List.getElem?_set_ne (Ne.symm hj)] at e2
        obtain ⟨u', r', q⟩ := hl j y v' e1 e2 e3
        refine ⟨u', r', ?_⟩
        rcases q with ⟨k, e⟩ | ⟨k, c, e, z⟩
        · refine .inl ⟨k, ?_⟩
          have : y ≠ x := fun e => hj (nodup_ix hN e1 (e ▸ hi))
          simp [this, e]
        · exact .inr ⟨k, c, e, z.sameBut hs (cne y c e)⟩
    · obtain ⟨w', z⟩ := I.cell y c e
      exact ⟨w', z.sameBut hs (cne y c e)⟩
    · obtain ⟨e, n, ne, nf, d⟩ := I.pin p hp
      exact ⟨(hs.2 p.1 ne).trans e, n, ne, nf, d⟩
  · have hfn : X.fn x = true := by
      rcases hf with z | z
      · exact z
      · rw [z] at hk; cases hk
    obtain ⟨c, hc⟩ := I.ok.has x (.inl hk)
    obtain ⟨w', z⟩ := I.cell x c hc
    refine wpAny_storeName_cell I.ok.kind hk hc z (fun h' hc' hs => ?_)
    obtain ⟨oc, hoc, hocd⟩ := id z
    refine h { s with heap := h' } ⟨I.ok, I.os, I.bare, ⟨fun b o e n hb hx => ?_, fun b o e n hb hx => ?_, I.base.free, fun b o e hx => ?_, I.base.tups, I.base.frzs, I.base.tbls⟩, ⟨m, hn.sameBut hs (Ne.symm (cne x c hc)), fun j y v' e1 e2 e3 => ?_⟩, fun y c' e => ?_, I.free, I.freeC, fun p hp => ?_, tracked ⟨oc, hoc, I.freeC x c hc⟩ hs, by simpa using I.len⟩ ⟨c, hs, .inr hc⟩
    · exact (hs.2 b (Nat.ne_of_lt (Nat.lt_of_lt_of_le (Heap.lt_size e) (I.ok.cab x c hfn hc)))).trans (I.base.keep b o e n hb hx)
    · obtain ⟨sl, e1⟩ := I.base.slot b o e n hb hx
      exact ⟨sl, (hs.2 b (Nat.ne_of_lt (Nat.lt_of_lt_of_le (Heap.lt_size e) (I.ok.cab x c hfn hc)))).trans e1⟩
    · obtain ⟨o', e1⟩ := I.base.there b o e hx
      exact ⟨o', (hs.2 b (Nat.ne_of_lt (Nat.lt_of_lt_of_le (Heap.lt_size e) (I.ok.cab x c hfn hc)))).trans e1⟩
    · by_cases hj : j = i
      · subst hj
        rw [hi] at e1; cases e1
        rw [List.getElem?_set_self hiσ] at e2
        cases e2
        exact ⟨u, r, .inr ⟨.inl hk, c, hc, hc'⟩⟩
      · rw [List.getElem?_set_ne (Ne.symm hj)] at e2
        obtain ⟨u', r', q⟩ := hl j y v' e1 e2 e3
        refine ⟨u', r', ?_⟩
        rcases q with q | ⟨k, c', e, z'⟩
        · exact .inl q
        · refine .inr ⟨k, c', e, z'.sameBut hs ?_⟩
          rintro rfl
          exact hj (nodup_ix hN e1 (I.ok.inj _ _ _ e hc ▸ hi))
    · by_cases hcc : c' = c
      · subst hcc; exact ⟨_, hc'⟩
      · obtain ⟨w2, z2⟩ := I.cell y c' e
        exact ⟨w2, z2.sameBut hs hcc⟩
    · obtain ⟨e, n, ne, nf, d⟩ := I.pin p hp
      refine ⟨(hs.2 p.1 ?_).trans e, n, ne, nf, d⟩
      intro q
      rw [q, hoc] at e
      have q' : oc = p.2 := Option.some.inj e
      exact d w' (by rw [← q']; exact hocd)
theorem store_ok {M : Model} {A : Around} {E : Value → Shared → Prop} {i : Nat} {x : Str} {v : V} {u : Value} {Q : Unit → Shared → Prop} (I : Inv X pins σ H s) (hN : X.N.Nodup) (hi : X.N[i]? = some x) (hx : Loc X.env.scope x) (r : RelV v u)
    (h : ∀ s', Inv X pins (σ.set i (some v)) H s' → Q () s') (hf : X.fn x = true ∨ X.env.scope.names.lookup x = some .local := by first | exact .inl rfl | exact .inr rfl | assumption) : wpAny M A (storeName X.env x u) Q E s :=
  store_ok2 I hN hi hx r (fun s' I' _ => h s' I') hf
theorem Inv.call' {s' : Shared} {ch : List Addr} (I : Inv X pins σ H s) (ho : s'.os = s.os) (u : Un (frs X.stack) ch H H' s.heap s'.heap) (hok : HOk X.prog X.w H' s'.heap) (hg : AllBare s'.gens)
    (hch : ∀ b ∈ ch, (b ∈ X.ex ∨ X.s₀.heap.objs.size ≤ b) ∧ b ≠ X.env.locals ∧ (∀ x c, X.env.cells.lookup x = some c → c ≠ b) ∧ ∀ p ∈ X.pn ++ pins, p.1 ≠ b) : Inv X pins σ H' s' := by
  obtain ⟨h', g', d', t', o'⟩ := s'
  have e : o' = s.os := ho
  subst e
  exact I.call (g' := g') (t' := t') (d' := d') u hok hg hch
end

abbrev XK := Value → Option Addr → Hp → Prop
abbrev St := List (Option V)
abbrev VK := V → Hp → Prop
abbrev TE := St → Hp → VK → Prop
abbrev TT := St → Hp → (Bool → Hp → Prop) → Prop
abbrev TA := St → Hp → (List V → Hp → Prop) → Prop
structure Ends where
  nx : St → Hp → Prop
  rt : VK
  bk : St → Hp → Prop := fun _ _ => False
  ct : St → Hp → Prop := fun _ _ => False
abbrev TS := Ends → St → Hp → Prop

def EP (X : Cx) (pins : List (Addr × Obj)) (σ : St) (Q : VK) (u : Value) (s' : Shared) : Prop := ∃ v H', Inv X pins σ H' s' ∧ RelV v u ∧ Q v H'
def TP (X : Cx) (pins : List (Addr × Obj)) (σ : St) (Q : Bool → Hp → Prop) (b : Bool) (s' : Shared) : Prop := ∃ H', Inv X pins σ H' s' ∧ Q b H'
def AP (X : Cx) (pins : List (Addr × Obj)) (σ : St) (Q : List V → Hp → Prop) (us : List Value) (s' : Shared) : Prop := ∃ vs H', Inv X pins σ H' s' ∧ Vals vs us ∧ Q vs H'
def SP (X : Cx) (pins : List (Addr × Obj)) (D : Ends) (f : Flow) (s' : Shared) : Prop :=
  match f with
  | .next => ∃ σ' H', Inv X pins σ' H' s' ∧ D.nx σ' H'
  | .brk => ∃ σ' H', Inv X pins σ' H' s' ∧ D.bk σ' H'
  | .cont => ∃ σ' H', Inv X pins σ' H' s' ∧ D.ct σ' H'
  | .ret u => ∃ v σ' H', Inv X pins σ' H' s' ∧ RelV v u ∧ D.rt v H'

def PE (X : Cx) (e : Expr) (t : TE) : Prop :=
  ∀ (pins : List (Addr × Obj)) (s : Shared) (σ : St) (H : Hp) (Q : VK), Inv X pins σ H s → t σ H Q → wpAny (model X.prog X.w) X.A (eval e X.env) (EP X pins σ Q) X.xe s
def PT (X : Cx) (e : Expr) (t : TT) : Prop :=
  ∀ (pins : List (Addr × Obj)) (s : Shared) (σ : St) (H : Hp) (Q : Bool → Hp → Prop), Inv X pins σ H s → t σ H Q → wpAny (model X.prog X.w) X.A (isTrue e X.env (eval e X.env)) (TP X pins σ Q) X.xe s
def PW (X : Cx) (e : Expr) (t : TT) : Prop :=
  ∀ (whole : Sem Value) (pins : List (Addr × Obj)) (s : Shared) (σ : St) (H : Hp) (Q : Bool → Hp → Prop), Inv X pins σ H s → t σ H Q → wpAny (model X.prog X.w) X.A (isTrue e X.env whole) (TP X pins σ Q) X.xe s
theorem PW.pt {X : Cx} {e : Expr} {t : TT} (h : PW X e t) : PT X e t := h _
def PA (X : Cx) (es : List Expr) (t : TA) : Prop :=
  ∀ (pos : Pos) (pins : List (Addr × Obj)) (s : Shared) (σ : St) (H : Hp) (Q : List V → Hp → Prop), Inv X pins σ H s → t σ H Q → wpAny (model X.prog X.w) X.A (spliced (backTo pos (starEach es X.env))) (AP X pins σ Q) X.xe s
def PS (X : Cx) (st : Stmt) (t : TS) : Prop :=
  ∀ (pins : List (Addr × Obj)) (s : Shared) (σ : St) (H : Hp) (D : Ends), Inv X pins σ H s → t D σ H → wpAny (model X.prog X.w) X.A (exec st X.env) (SP X pins D) X.xe s
def PSs (X : Cx) (st : List Stmt) (t : TS) : Prop :=
  ∀ (pins : List (Addr × Obj)) (s : Shared) (σ : St) (H : Hp) (D : Ends), Inv X pins σ H s → t D σ H → wpAny (model X.prog X.w) X.A (execs st X.env) (SP X pins D) X.xe s
theorem thn {α : Type} {t : Sem α} {Q Q' : α → Shared → Prop} {M : Model} {A : Around} {E : Value → Shared → Prop} {s : Shared} (h : wpAny M A t Q E s) (hQ : ∀ a s, Q a s → Q' a s) : wpAny M A t Q' E s := wpAny_mono h hQ fun _ _ x => x
end L2

namespace L2
open PySem PySem.Spec PyProof.Rows
section
variable {X : Cx}


def tVar (i : Nat) : TE := fun σ H Q => ∃ v, σ[i]? = some (some v) ∧ Q v H
def tC (v : V) : TE := fun _ H Q => Q v H
theorem pe_var {i : Nat} {x : Str} {pos : Pos} (hN : X.N[i]? = some x) (hv : Vis X.env.scope x) (hd : (x == ("__debug__" : Str)) = false := by decide) (hcd : (x == ("__classdict__" : Str)) = false := by decide) : PE X (.Name x pos) (tVar i) := by
  intro pins s σ H Q I h
  obtain ⟨v, e, h⟩ := h
  obtain ⟨m, hn, hl⟩ := I.loc
  obtain ⟨u, r, l⟩ := hl i x v hN e hv
  have fin : EP X pins σ Q u s := ⟨v, H, I, r, h⟩
  rcases l with ⟨hk, hm⟩ | ⟨hk, c, hc, hcell⟩
  · exact wpAny_Name (wpAny_loadName_local I.ok.kind hk hn hm fin) hd
  · rcases hk with hk | hk
    · exact wpAny_Name (wpAny_loadName_cell I.ok.kind hk hc hcell fin) hd
    · exact wpAny_Name (wpAny_loadName_free I.ok.kind hk hc hcell fin hcd) hd
theorem pe_int {i j pos} : PE X (.Constant (.int i) j pos) (tC (.int i)) := fun _ _ _ H _ I h => wpAny_Constant_int ⟨.int i, H, I.tok _, ⟨_, rfl⟩, h⟩
theorem pe_bl {b j pos} : PE X (.Constant (.bool b) j pos) (tC (.bl b)) := fun _ _ _ H _ I h => Constant_bool ⟨.bl b, H, I, rfl, h⟩
theorem pe_non {j pos} : PE X (.Constant .none j pos) (tC .non) := fun _ _ _ H _ I h => Constant_none ⟨.non, H, I, rfl, h⟩
theorem pe_str {x j pos} : PE X (.Constant (.str x) j pos) (tC (.str x)) := fun _ _ _ H _ I h => Calls.Constant_str ⟨.str x, H, I.tok _, ⟨_, rfl⟩, h⟩

def Gl (X : Cx) (x : Str) : Prop := X.env.kindOf x = some .globalImplicit
theorem ld_glob {E : Value → Shared → Prop} {pins : List (Addr × Obj)} {s : Shared} {σ : St} {H : Hp} {x : Str} {u : Value} {pos : Pos} {Q : Value → Shared → Prop} (I : Inv X pins σ H s) (hg : Gl X x) (hm : X.mg x = some u) (h : Q u s)
    (hd : (x == ("__debug__" : Str)) = false := by decide) : wpAny (model X.prog X.w) X.A (eval (.Name x pos) X.env) Q E s :=
  Calls.Name_function_global I.ok.kind hg (Calls.loadGlobal_global (by rw [I.ok.glob]; exact I.mod.glob.keeps I.bk) hm h) hd
theorem ld_blt {E : Value → Shared → Prop} {pins : List (Addr × Obj)} {s : Shared} {σ : St} {H : Hp} {x : Str} {u : Value} {pos : Pos} {Q : Value → Shared → Prop} (I : Inv X pins σ H s) (hg : Gl X x) (hm : X.mg x = none) (hv : bootBuiltins x = some u) (h : Q u s)
    (hn : x ≠ "__name__" := by decide) (hd : (x == ("__debug__" : Str)) = false := by decide) : wpAny (model X.prog X.w) X.A (eval (.Name x pos) X.env) Q E s := by
  obtain ⟨mb, h1, h2⟩ := I.mod.blt
  exact Calls.Name_function_global I.ok.kind hg (Calls.loadGlobal_builtin (by rw [I.ok.glob]; exact I.mod.glob.keeps I.bk) hm (by rw [I.ok.blt]; exact h1.keeps I.bk) ((h2 x hn).trans hv) h) hd

variable {a b : Expr} {ta tb : TE} {pos : Pos}

def PC (X : Cx) (op : CmpOp) (a b : Expr) (t : TE) : Prop :=
  ∀ (pins : List (Addr × Obj)) (s : Shared) (σ : St) (H : Hp) (Q : VK), Inv X pins σ H s → t σ H Q →
    wpAny (model X.prog X.w) X.A (eval a X.env) (fun v s₁ => wpAny (model X.prog X.w) X.A (eval b X.env) (fun u s₂ => wpAny (model X.prog X.w) X.A (compareOp op v u) (EP X pins σ Q) X.xe s₂) X.xe s₁) X.xe s
theorem nobehind (b : Expr) {op : CmpOp} (h : op ≠ .In) (h2 : op ≠ .NotIn) : behindInMarks op b = false := by
  have e1 : (op == CmpOp.In) = false := by cases op <;> first | rfl | exact absurd rfl h
  have e2 : (op == CmpOp.NotIn) = false := by cases op <;> first | rfl | exact absurd rfl h2
  cases b <;> simp [behindInMarks, e1, e2]
def tB (t : TE) : TT := fun σ H Q => t σ H fun x H1 => ∃ c, x = .bl c ∧ Q c H1
theorem pt_cmp {op : CmpOp} {t : TE} (h : PC X op a b t) (h1 : behindInMarks op b = false := by first | exact nobehind _ (by decide) (by decide) | rfl) : PT X (.Compare a [op] [b] pos) (tB t) := by
  intro pins s σ H Q I hw
  refine wpAny_isTrue_Compare1 (thn (h pins s σ H _ I hw) fun v s1 h1 => thn h1 fun u s2 h2 => thn h2 fun c s3 ⟨x, H1, I1, r1, q1⟩ => ?_) h1
  obtain ⟨d, rfl, q⟩ := q1
  cases r1
  exact wpAny_truthy_bool ⟨H1, I1, q⟩

variable {tA tB' : TT} {rest : List Expr}
def tAnd (t u : TT) : TT := fun σ H Q => t σ H fun c H1 => if c = true then u σ H1 Q else Q false H1
theorem pw_and1 (ha : PT X a tA) : PW X (.BoolOp .And [a] pos) tA := by
  intro wh pins s σ H Q I h
  refine isTrue_and (thn (ha pins s σ H Q I h) fun c s1 e => ?_)
  cases c with
  | true => exact isTrue_and_nil e
  | false => exact e
theorem pw_and (ha : PT X a tA) (hb : PW X (.BoolOp .And (b :: rest) pos) tB') : PW X (.BoolOp .And (a :: b :: rest) pos) (tAnd tA tB') := by
  intro wh pins s σ H Q I h
  refine isTrue_and (thn (ha pins s σ H _ I h) fun c s1 ⟨H1, I1, q1⟩ => ?_)
  cases c with
  | true => exact hb wh pins s1 σ H1 Q I1 q1
  | false => exact ⟨H1, I1, q1⟩
end
end L2

namespace L2
open PySem PySem.Spec PyProof.Rows

def SqL (K : PySem.W.Frag) (H : Hp) (a : Addr) (xs : List V) : Prop :=
  Rd H a (.lst xs) ∨
    ∃ (o : Obj) (its : Array Value) (n : Nat), K.lookup a = some o ∧ o.cls = .type "list" ∧ o.dict = none ∧ o.data = .seq its n ∧ its.size ≤ sizeLine ∧ Vals xs its.toList
def SqT (K : PySem.W.Frag) (H : Hp) (a : Addr) (xs : List V) : Prop :=
  Rd H a (.tup xs) ∨
    ∃ (o : Obj) (its : Array Value) (n : Nat), K.lookup a = some o ∧ o.cls = .type "tuple" ∧ o.data = .seq its n ∧ its.size ≤ sizeLine ∧ Vals xs its.toList
def absV : Value → Option V
  | .none => some .non
  | .bool b => some (.bl b)
  | .int i _ => some (.int i)
  | .str x _ => some (.str x)
  | .bytes b _ => some (.byt b)
  | .float b _ => some (.flt b)
  | .ref a => some (.ref a)
  | .type n => some (.ty n)
  | _ => none
theorem RelV.abs {x : V} {u : Value} (r : RelV x u) : absV u = some x := by
  cases x with
  | non => cases r; rfl
  | bl _ => cases r; rfl
  | int _ => obtain ⟨t, rfl⟩ := r; rfl
  | str _ => obtain ⟨t, rfl⟩ := r; rfl
  | byt _ => obtain ⟨t, rfl⟩ := r; rfl
  | flt _ => obtain ⟨t, rfl⟩ := r; rfl
  | ref _ => cases r; rfl
  | ty _ => cases r; rfl
theorem RelV.inj {x y : V} {u : Value} (r : RelV x u) (q : RelV y u) : x = y := Option.some.inj (r.abs.symm.trans q.abs)
theorem Vals.inj : ∀ {xs ys : List V} {us : List Value}, Vals xs us → Vals ys us → xs = ys
  | _, _, _, .nil, .nil => rfl
  | _, _, _, .cons r t, .cons r' t' => by rw [r.inj r', Vals.inj t t']
section
variable {X : Cx} {pins : List (Addr × Obj)} {σ : St} {H : Hp} {s : Shared} {a : Addr} {xs ys : List V}
theorem SqL.of {K : PySem.W.Frag} (h : H a = some (.lst xs)) : SqL K H a xs := .inl (.inl h)
theorem SqT.of {K : PySem.W.Frag} (h : H a = some (.tup xs)) : SqT K H a xs := .inl (.inl h)
theorem Inv.list (I : Inv X pins σ H s) (h : SqL X.K H a xs) : ∃ its : List Value, Vals xs its ∧ PlainL s.heap a its.toArray ∧ xs.length ≤ sizeLine := by
  rcases h with h | ⟨o, its, n, hk, hc, hd, hs, hz, r⟩
  · obtain ⟨z, its, n, r, e⟩ := h.ok I.hok
    exact ⟨its, r, ⟨_, n, e, rfl, rfl, rfl⟩, z⟩
  · refine ⟨its.toList, r, ⟨o, n, I.kIn a o hk, hc, hd, by simpa using hs⟩, ?_⟩
    have e := r.length
    simp only [Array.length_toList] at e
    omega
theorem Inv.tuple (I : Inv X pins σ H s) (h : SqT X.K H a xs) : ∃ its : List Value, Vals xs its ∧ IsTup s.heap a its.toArray ∧ xs.length ≤ sizeLine := by
  rcases h with h | ⟨o, its, n, hk, hc, hs, hz, r⟩
  · obtain ⟨z, its, r, p⟩ := h.ok I.hok
    exact ⟨its, r, p, z⟩
  · refine ⟨its.toList, r, ⟨o, I.kIn a o hk, hc, n, by simpa using hs⟩, ?_⟩
    have e := r.length
    simp only [Array.length_toList] at e
    omega
theorem Inv.list_inj (I : Inv X pins σ H s) (h : SqL X.K H a xs) (h' : SqL X.K H a ys) : xs = ys := by
  obtain ⟨its, r, ⟨o, n, e, _, _, d⟩, _⟩ := I.list h
  obtain ⟨its', r', ⟨o', n', e', _, _, d'⟩, _⟩ := I.list h'
  rw [e] at e'; cases e'
  rw [d] at d'
  injection d' with d1 _
  have : its = its' := by simpa using congrArg Array.toList d1
  subst this
  exact r.inj r'
theorem Inv.tuple_inj (I : Inv X pins σ H s) (h : SqT X.K H a xs) (h' : SqT X.K H a ys) : xs = ys := by
  obtain ⟨its, r, ⟨o, e, _, n, d⟩, _⟩ := I.tuple h
  obtain ⟨its', r', ⟨o', e', _, n', d'⟩, _⟩ := I.tuple h'
  rw [e] at e'; cases e'
  rw [d] at d'
  injection d' with d1 _
  have : its = its' := by simpa using congrArg Array.toList d1
  subst this
  exact r.inj r'
end

abbrev Cx.wish (X : Cx) (E : Value → Shared → Prop) : Cx := { X with xe := E }
abbrev Cx.nox (X : Cx) : Cx := X.wish fun _ _ => False
theorem Cx.Ok.wish {X : Cx} (ok : X.Ok) (E : Value → Shared → Prop) : (X.wish E).Ok :=
  ⟨ok.mod, ok.kind, ok.glob, ok.blt, ok.above, ok.inj, ok.has, ok.cab, ok.hd, ok.frames, ok.stk, ok.exf, ok.bs, ok.bsz, ok.noex, ok.exfs, ok.funs, ok.frf⟩
theorem Cx.Ok.unwish {X : Cx} {E : Value → Shared → Prop} (ok : (X.wish E).Ok) : X.Ok :=
  ⟨ok.mod, ok.kind, ok.glob, ok.blt, ok.above, ok.inj, ok.has, ok.cab, ok.hd, ok.frames, ok.stk, ok.exf, ok.bs, ok.bsz, ok.noex, ok.exfs, ok.funs, ok.frf⟩
section
variable {X : Cx} {pins : List (Addr × Obj)} {σ : St} {H : Hp} {s : Shared} {E : Value → Shared → Prop}
theorem Inv.wish (I : Inv X pins σ H s) (E : Value → Shared → Prop) : Inv (X.wish E) pins σ H s := ⟨I.ok.wish E, I.os, I.bare, I.base, I.loc, I.cell, I.free, I.freeC, I.pin, I.hok, I.len⟩
theorem Inv.unwish (I : Inv (X.wish E) pins σ H s) : Inv X pins σ H s := ⟨I.ok.unwish, I.os, I.bare, I.base, I.loc, I.cell, I.free, I.freeC, I.pin, I.hok, I.len⟩
theorem SP.unwish {D : Ends} {f : Flow} {s' : Shared} (h : SP (X.wish E) pins D f s') : SP X pins D f s' := by
  cases f with
  | next => obtain ⟨σ', H', I, q⟩ := h; exact ⟨σ', H', I.unwish, q⟩
  | brk => obtain ⟨σ', H', I, q⟩ := h; exact ⟨σ', H', I.unwish, q⟩
  | cont => obtain ⟨σ', H', I, q⟩ := h; exact ⟨σ', H', I.unwish, q⟩
  | ret u => obtain ⟨v, σ', H', I, r, q⟩ := h; exact ⟨v, σ', H', I.unwish, r, q⟩
theorem PE.nox {e : Expr} {t : TE} (h : PE X.nox e t) : PE X e t := fun pins s σ H Q I hw =>
  wpAny_mono (h pins s σ H Q (I.wish _) hw) (fun _ _ ⟨v, H', I', r, q⟩ => ⟨v, H', I'.unwish, r, q⟩) fun _ _ z => False.elim z
theorem PT.nox {e : Expr} {t : TT} (h : PT X.nox e t) : PT X e t := fun pins s σ H Q I hw =>
  wpAny_mono (h pins s σ H Q (I.wish _) hw) (fun _ _ ⟨H', I', q⟩ => ⟨H', I'.unwish, q⟩) fun _ _ z => False.elim z
theorem PSs.nox {st : List Stmt} {t : TS} (h : PSs X.nox st t) : PSs X st t := fun pins s σ H D I hw =>
  wpAny_mono (h pins s σ H D (I.wish _) hw) (fun _ _ q => q.unwish) fun _ _ z => False.elim z
end

section
variable {X : Cx} {st : Stmt} {rest : List Stmt} {t u : TS} {e : Expr} {te : TE} {pos : Pos}
def tNext : TS := fun D σ H => D.nx σ H
def tSeq (t u : TS) : TS := fun D σ H => t { D with nx := u D } σ H
theorem pss_nil : PSs X [] tNext := fun _ _ σ H _ I h => wpAny_execs_nil ⟨σ, H, I, h⟩
theorem pss_cons (h1 : PS X st t) (h2 : PSs X rest u) : PSs X (st :: rest) (tSeq t u) := by
  intro pins s σ H D I h
  refine wpAny_execs_cons (thn (h1 pins s σ H { D with nx := u D } I h) fun f s1 q => ?_)
  cases f with
  | next =>
    obtain ⟨σ', H', I', q⟩ := q
    exact h2 pins s1 σ' H' D I' q
  | ret v => exact q
  | brk => exact q
  | cont => exact q
theorem pss_one (h1 : PS X st t) : PSs X [st] t := by
  intro pins s σ H D I h
  refine wpAny_execs_cons (thn (h1 pins s σ H D I h) fun f s1 q => ?_)
  cases f with
  | next => exact wpAny_execs_nil q
  | ret v => exact q
  | brk => exact q
  | cont => exact q
theorem Inv.quiet {pins : List (Addr × Obj)} {σ : St} {H : Hp} {s : Shared} (I : Inv X pins σ H s) : interactive X.env = false := by simp [interactive, I.ok.kind]
def tDrop (te : TE) : TS := fun D σ H => te σ H fun _ H1 => D.nx σ H1
theorem ps_expr (he : PE X e te) (hs : swapsWith e none pos.line X.env = pure false := by rfl) : PS X (.Expr e pos) (tDrop te) := by
  intro pins s σ H D I h
  exact wpAny_Expr_any (thn (he pins s σ H _ I h) fun v s1 ⟨x, H1, I1, r1, q1⟩ => ⟨σ, H1, I1, q1⟩) I.quiet hs
def tRet (te : TE) : TS := fun D σ H => te σ H D.rt
theorem ps_ret (he : PE X e te) : PS X (.Return (some e) pos) (tRet te) := by
  intro pins s σ H D I h
  exact wpAny_Return_some (thn (he pins s σ H _ I h) fun v s1 ⟨x, H1, I1, r1, q1⟩ => ⟨x, σ, H1, I1, r1, q1⟩)
def tIfS (c : TT) (t u : TS) : TS := fun D σ H => c σ H fun b H1 => if b = true then t D σ H1 else u D σ H1
theorem ps_if {c : Expr} {a b : List Stmt} {tc : TT} (hc : PT X c tc) (ha : PSs X a t) (hb : PSs X b u) : PS X (.If c a b pos) (tIfS tc t u) := by
  intro pins s σ H D I h
  refine wpAny_If (thn (hc pins s σ H _ I h) fun d s1 ⟨H1, I1, q1⟩ => ?_)
  cases d with
  | true => exact ha pins s1 σ H1 D I1 q1
  | false => exact hb pins s1 σ H1 D I1 q1
end

abbrev TG := V → St → Hp → (St → Hp → Prop) → Prop
abbrev TGs := List V → St → Hp → (St → Hp → Prop) → Prop
def PG (X : Cx) (target : Expr) (t : TG) : Prop :=
  ∀ (pins : List (Addr × Obj)) (s : Shared) (σ : St) (H : Hp) (v : V) (u : Value) (Q : St → Hp → Prop), Inv X pins σ H s → RelV v u → t v σ H Q →
    wpAny (model X.prog X.w) X.A (assign target X.env u) (fun _ s' => ∃ σ' H', Inv X pins σ' H' s' ∧ Q σ' H') X.xe s
def PGs (X : Cx) (ts : List Expr) (t : TGs) : Prop :=
  ∀ (pins : List (Addr × Obj)) (s : Shared) (σ : St) (H : Hp) (vs : List V) (us : List Value) (Q : St → Hp → Prop), Inv X pins σ H s → Vals vs us → t vs σ H Q →
    wpAny (model X.prog X.w) X.A (assignInOrder ((assignEach ts X.env).map (·.2)) us) (fun _ s' => ∃ σ' H', Inv X pins σ' H' s' ∧ Q σ' H') X.xe s
abbrev TSet := V → V → V → Hp → (Hp → Prop) → Prop
def PSet (X : Cx) (t : TSet) : Prop :=
  ∀ (pins : List (Addr × Obj)) (s : Shared) (σ : St) (H : Hp) (o i v : V) (ov iv u : Value) (Q : Hp → Prop), Inv X pins σ H s → RelV o ov → RelV i iv → RelV v u → t o i v H Q →
    wpAny (model X.prog X.w) X.A (setItem ov iv u) (fun _ s' => ∃ H', Inv X pins σ H' s' ∧ Q H') X.xe s
abbrev TIp := V → V → Hp → VK → Prop
def PIp (X : Cx) (op : Operator) (t : TIp) : Prop :=
  ∀ (pins : List (Addr × Obj)) (s : Shared) (σ : St) (H : Hp) (x y : V) (v u : Value) (Q : VK), Inv X pins σ H s → RelV x v → RelV y u → t x y H Q →
    wpAny (model X.prog X.w) X.A (inplaceOp op v u) (EP X pins σ Q) X.xe s
section
variable {X : Cx} {pos : Pos}
def gName (i : Nat) : TG := fun v σ H Q => Q (σ.set i (some v)) H
theorem pg_name {i : Nat} {x : Str} (hN : X.N.Nodup) (hi : X.N[i]? = some x) (hx : Loc X.env.scope x) (hf : X.fn x = true ∨ X.env.scope.names.lookup x = some .local := by first | exact .inl rfl | exact .inr rfl | assumption) : PG X (.Name x pos) (gName i) := by
  intro pins s σ H v u Q I r h
  exact wpAny_assign_Name (store_ok I hN hi hx r (fun s' I' => ⟨_, H, I', h⟩) hf)
def gNil : TGs := fun vs σ H Q => vs = [] ∧ Q σ H
def gCons (t : TG) (u : TGs) : TGs := fun vs σ H Q => ∃ v r, vs = v :: r ∧ t v σ H fun σ' H' => u r σ' H' Q
theorem pgs_nil : PGs X [] gNil := by
  intro pins s σ H vs us Q I r h
  obtain ⟨e, h⟩ := h
  subst e
  cases r
  exact assignInOrder_nil ⟨σ, H, I, h⟩
theorem pgs_cons {e : Expr} {es : List Expr} {t : TG} {u : TGs} (h1 : PG X e t) (h2 : PGs X es u)
    (hs : (assignEach (e :: es) X.env).map (·.2) = assign e X.env :: (assignEach es X.env).map (·.2) := by rfl) : PGs X (e :: es) (gCons t u) := by
  intro pins s σ H vs us Q I r h
  obtain ⟨v, vr, e1, h⟩ := h
  subst e1
  cases r with
  | cons r rr =>
    rw [hs]
    refine assignInOrder_cons (thn (h1 pins s σ H _ _ _ I r h) fun _ s1 ⟨σ1, H1, I1, q1⟩ => ?_)
    exact h2 pins s1 σ1 H1 _ _ Q I1 rr q1
def gTup (K : PySem.W.Frag) (n : Nat) (t : TGs) : TG := fun v σ H Q => ∃ a xs, v = .ref a ∧ SqT K H a xs ∧ xs.length = n ∧ t xs σ H Q
theorem pg_tup {es : List Expr} {k : Nat} {t : TGs} {n : Nat} (hc : X.calm = true) (h : PGs X es t)
    (hn : (assignEach es X.env).length = n := by rfl) (hst : (assignEach es X.env).findIdx? (·.1) = none := by rfl) : PG X (.Tuple es k pos) (gTup X.K n t) := by
  intro pins s σ H v u Q I r hw
  obtain ⟨a, xs, e1, hq, hl, hw⟩ := hw
  subst e1
  cases r
  obtain ⟨its, rv, ht, hz⟩ := I.tuple hq
  refine assign_Tuple_tuple (I.ok.hd hc) ht (by simp [hn, ← hl, rv.length]) hst fun h' hx => ?_
  have I1 : Inv X pins σ H { s with heap := h' } := I.kept (t' := s.toks) fun b o e => hx b o (Nat.ne_of_lt (Heap.lt_size e)) e
  exact h pins _ σ H xs _ Q I1 (by simpa using rv) hw
def gSub (to ti : TE) (t : TSet) : TG := fun v σ H Q => to σ H fun o H1 => ti σ H1 fun i H2 => t o i v H2 fun H3 => Q σ H3
theorem pg_sub {o i : Expr} {to ti : TE} {t : TSet} (ho : PE X o to) (hi : PE X i ti) (hs : PSet X t)
    (ha : ∀ v, assign (.Subscript o i pos) X.env v = (do
      let ov ← holding [v] (eval o X.env)
      let iv ← holding [v, ov] (eval i X.env)
      standAt pos
      holding [v, ov, iv] (setItem ov iv v)
      release [v, ov, iv] []) := by intro _; rfl) : PG X (.Subscript o i pos) (gSub to ti t) := by
  intro pins s σ H v u Q I r h
  rw [ha]
  refine wpAny_bind (wpAny_holding (thn (ho pins s σ H _ I h) fun ov s1 ⟨x, H1, I1, r1, q1⟩ => ?_))
  refine wpAny_bind (wpAny_holding (thn (hi pins s1 σ H1 _ I1 q1) fun iv s2 ⟨y, H2, I2, r2, q2⟩ => ?_))
  refine wpAny_bind (wpAny_standAt (wpAny_bind (wpAny_holding (thn (hs pins s2 σ H2 x y v ov iv u _ I2 r1 r2 r q2) fun _ s3 ⟨H3, I3, q3⟩ => ?_))))
  exact wpAny_release ⟨σ, H3, I3, q3⟩
def tAsg (te : TE) (g : TG) : TS := fun D σ H => te σ H fun x H1 => g x σ H1 D.nx
theorem ps_asg {tg e : Expr} {te : TE} {g : TG} (he : PE X e te) (hg : PG X tg g) (hs : swapsWithSole [tg] e pos.line X.env = pure false := by rfl) (hw : swappedStores [tg] e X.env = pure none := by rfl)
    (h1 : (assignEach [tg] X.env).map (·.2) = [assign tg X.env] := by rfl) : PS X (.Assign [tg] e pos) (tAsg te g) := by
  intro pins s σ H D I h
  refine wpAny_Assign_stores (thn (he pins s σ H _ I h) fun v s1 ⟨x, H1, I1, r1, q1⟩ => ?_) hs hw
  rw [h1]
  exact thn (hg pins s1 σ H1 x v _ I1 r1 q1) fun _ s2 q => q
theorem ps_set {i : Nat} {x : Str} {e : Expr} {te : TE} {pos' : Pos} (hN : X.N.Nodup) (hi : X.N[i]? = some x) (hx : Loc X.env.scope x) (he : PE X e te) (hs : swapsWith e (some (.Name x pos')) pos.line X.env = pure false := by rfl) (hf : X.fn x = true ∨ X.env.scope.names.lookup x = some .local := by first | exact .inl rfl | exact .inr rfl | assumption) :
    PS X (.Assign [.Name x pos'] e pos) (tAsg te (gName i)) := by
  intro pins s σ H D I h
  refine wpAny_Assign_Name (thn (he pins s σ H _ I h) fun v s1 ⟨y, H1, I1, r1, q1⟩ => ?_) hs
  exact store_ok I1 hN hi hx r1 (fun s2 I2 => ⟨_, H1, I2, q1⟩) hf
def tAug (i : Nat) (te : TE) (ti : TIp) : TS := fun D σ H => ∃ x, σ[i]? = some (some x) ∧ te σ H fun y H1 => ti x y H1 fun z H2 => D.nx (σ.set i (some z)) H2
theorem ps_aug {i : Nat} {x : Str} {e : Expr} {te : TE} {op : Operator} {ti : TIp} {pos' : Pos} (hN : X.N.Nodup) (hi : X.N[i]? = some x) (hx : Loc X.env.scope x) (he : PE X e te) (ho : PIp X op ti) (hf : X.fn x = true ∨ X.env.scope.names.lookup x = some .local := by first | exact .inl rfl | exact .inr rfl | assumption) :
    PS X (.AugAssign (.Name x pos') op e pos) (tAug i te ti) := by
  intro pins s σ H D I h
  obtain ⟨v, e1, h⟩ := h
  obtain ⟨m, hn, hl⟩ := I.loc
  have vis : Vis X.env.scope x := by rcases hx with k | k; exact .inl k; exact .inr (.inl k)
  obtain ⟨u, r, l⟩ := hl i x v hi e1 vis
  refine wpAny_AugAssign_Name ?_
  have go : wpAny (model X.prog X.w) X.A (eval e X.env) (fun w s₂ => wpAny (model X.prog X.w) X.A (inplaceOp op u w) (fun r s₃ => wpAny (model X.prog X.w) X.A (storeName X.env x r) (fun _ => SP X pins D .next) X.xe s₃) X.xe s₂) X.xe s := by
    refine thn (he pins s σ H _ I h) fun w s1 ⟨y, H1, I1, r1, q1⟩ => ?_
    refine thn (ho pins s1 σ H1 v y u w _ I1 r r1 q1) fun z s2 ⟨zv, H2, I2, r2, q2⟩ => ?_
    exact store_ok I2 hN hi hx r2 (fun s3 I3 => ⟨_, H2, I3, q2⟩) hf
  rcases l with ⟨hk, hm⟩ | ⟨hk, c, hc, hcell⟩
  · exact wpAny_loadName_local I.ok.kind hk hn hm go
  · rcases hk with hk | hk
    · exact wpAny_loadName_cell I.ok.kind hk hc hcell go
    · rcases hx with k | k
      · have : X.env.scope.names.lookup x = some .free := hk
        rw [k] at this; cases this
      · have : X.env.scope.names.lookup x = some .free := hk
        rw [k] at this; cases this
def ipI (f : Int → Int → Int) : TIp := fun x y H Q => ∃ i j, x = .int i ∧ y = .int j ∧ Q (.int (f i j)) H
theorem ip_add : PIp X .Add (ipI fun i j => i + j) := by
  intro pins s σ H x y v u Q I r1 r2 h
  obtain ⟨i, j, e1, e2, q⟩ := h
  subst e1; subst e2
  obtain ⟨t, rfl⟩ := r1
  obtain ⟨t', rfl⟩ := r2
  exact iadd_int ⟨.int _, H, I.tok _, ⟨_, rfl⟩, q⟩
end

section
variable {X : Cx} {pos : Pos}
def tWhile (c : TT) (tb : TS) : TS := fun D σ H => ∃ W : Nat → St → Hp → Prop, (∃ m, W m σ H) ∧ ∀ m σ H, W m σ H →
  c σ H fun b H1 => if b = true then ∃ N : St → Hp → Prop, (∀ σ' H', N σ' H' → ∃ m', m' < m ∧ W m' σ' H') ∧ tb { D with nx := N, ct := N, bk := D.nx } σ H1 else D.nx σ H1
theorem ps_while {c : Expr} {body : List Stmt} {tc : TT} {tb : TS} (hp : PassesOwn (model X.prog X.w) X.A X.env X.xe) (hc : PT X c tc) (hb : PSs X body tb) : PS X (.While c body [] pos) (tWhile tc tb) := by
  intro pins s σ H D I h
  obtain ⟨W, ⟨m0, w0⟩, turn⟩ := h
  refine wpAny_While (codeAny_whileLoop (fun n s' => ∃ σ' H', Inv X pins σ' H' s' ∧ W n σ' H') ?_ m0 ⟨σ, H, I, w0⟩)
  rintro n s1 ⟨σ1, H1, I1, w1⟩
  refine wpAny_passesOwn hp (thn (hc pins s1 σ1 H1 _ I1 (turn n σ1 H1 w1)) fun b s2 ⟨H2, I2, q2⟩ => ?_)
  cases b with
  | true =>
    obtain ⟨N, hN, q2⟩ := q2
    rw [if_pos rfl]
    refine wpAny_passesOwn hp (thn (hb pins s2 σ1 H2 _ I2 q2) fun f s3 q3 => ?_)
    cases f with
    | next =>
      obtain ⟨σ3, H3, I3, n3⟩ := q3
      obtain ⟨m', hm, w3⟩ := hN σ3 H3 n3
      exact ⟨m', hm, σ3, H3, I3, w3⟩
    | cont =>
      obtain ⟨σ3, H3, I3, n3⟩ := q3
      obtain ⟨m', hm, w3⟩ := hN σ3 H3 n3
      exact ⟨m', hm, σ3, H3, I3, w3⟩
    | brk => exact q3
    | ret v => exact q3
  | false =>
    rw [if_neg Bool.false_ne_true]
    exact wpAny_execs_nil ⟨σ1, H2, I2, q2⟩
end

structure It where
  go : Nat → Hp → Prop
  yld : Nat → Hp → V → Hp → Prop
  stop : Nat → Hp → Prop
def FpOk (X : Cx) (pins : List (Addr × Obj)) (H : Hp) (b : Addr) : Prop :=
  H b = none ∧ b ≠ X.env.locals ∧ b ∉ X.fs ∧ (b ∈ X.ex ∨ X.s₀.heap.objs.size ≤ b) ∧ (∀ x c, X.env.cells.lookup x = some c → c ≠ b) ∧ ∀ p ∈ X.pn ++ pins, p.1 ≠ b
theorem Inv.fpOk {X : Cx} {pins : List (Addr × Obj)} {σ : St} {H H' : Hp} {s : Shared} {b : Addr} (I : Inv X pins σ H s) (hb : s.heap.objs.size ≤ b) (hn : H' b = none) : FpOk X pins H' b := by
  refine ⟨hn, Nat.ne_of_gt (Nat.lt_of_lt_of_le I.lt hb), I.nofs hb, .inr (Nat.le_trans I.sz hb), fun x c e z => ?_, fun p hp z => ?_⟩
  · obtain ⟨v, q⟩ := I.cell x c e
    exact absurd (Nat.lt_of_lt_of_le q.lt (by rw [z]; exact hb)) (Nat.lt_irrefl _)
  · exact absurd (Nat.lt_of_lt_of_le (Heap.lt_size (I.pin p hp).1) (by rw [z]; exact hb)) (Nat.lt_irrefl _)
structure Turn (P : Program) (w : World) (K : PySem.W.Frag) (tg : Expr) (J : It) (fp : List Addr) (it : Addr) (tn : Nat → Heap → Prop) : Prop where
  mem : it ∈ fp
  obj : ∀ i h, tn i h → ∀ b ∈ fp, ∃ o, h.get? b = some o ∧ ∀ v, o.data ≠ .cell v
  keep : ∀ i h h', tn i h → (∀ b ∈ fp, ∀ o, h.get? b = some o → h'.get? b = some o) → tn i h'
  item : ∀ (X : Cx), X.prog = P → X.w = w → X.K = K → X.calm = true → ∀ (i : Nat) (pins : List (Addr × Obj)) (s : Shared) (σ : St) (H : Hp) (E : Value → Shared → Prop), Inv X pins σ H s → (∀ b ∈ fp, FpOk X pins H b) → tn i s.heap → J.go i H →
    wpAny (model P w) X.A (pyNext (.ref it)) (fun r s1 => ∃ u, r = some u ∧
      wpAny (model P w) X.A (letOwnedTupleGo tg (.ref it) u) (fun _ s2 => ∃ x H', Inv X pins σ H' s2 ∧ RelV x u ∧ J.yld i H x H' ∧ tn (i + 1) s2.heap ∧ ∀ b ∈ fp, H' b = none) E s1) E s
  done : ∀ (X : Cx), X.prog = P → X.w = w → X.K = K → X.calm = true → ∀ (i : Nat) (pins : List (Addr × Obj)) (s : Shared) (σ : St) (H : Hp) (E : Value → Shared → Prop), Inv X pins σ H s → (∀ b ∈ fp, FpOk X pins H b) → tn i s.heap → J.stop i H →
    wpAny (model P w) X.A (pyNext (.ref it)) (fun r s1 => r = none ∧ Inv X pins σ H s1) E s
  self : ∀ (A : Around) (i : Nat) (s : Shared) (Q : Value → Shared → Prop) (E : Value → Shared → Prop), tn i s.heap → Q (.ref it) s → wpAny (model P w) A (pyIter (.ref it)) Q E s
abbrev TI := St → Hp → (It → Hp → Prop) → Prop
def PIE (X : Cx) (pins : List (Addr × Obj)) (σ : St) (tg : Expr) (R : It → Hp → Prop) (itv : Value) (s2 : Shared) : Prop :=
  ∃ (it : Addr) (fp : List Addr) (tn : Nat → Heap → Prop) (J : It) (H' : Hp), itv = .ref it ∧ Inv X pins σ H' s2 ∧ Turn X.prog X.w X.K tg J fp it tn ∧ tn 0 s2.heap ∧ (∀ b ∈ fp, FpOk X pins H' b) ∧ R J H'
def PI (X : Cx) (tg iter : Expr) (wi : TI) : Prop :=
  ∀ (pins : List (Addr × Obj)) (s : Shared) (σ : St) (H : Hp) (R : It → Hp → Prop), Inv X pins σ H s → wi σ H R →
    wpAny (model X.prog X.w) X.A (eval iter X.env) (fun v s1 => wpAny (model X.prog X.w) X.A (pyIter v) (PIE X pins σ tg R) X.xe s1) X.xe s

theorem go_of {M : Model} {A : Around} {E : Value → Shared → Prop} {s : Shared} {tg : Expr} {it : Addr} {u : Value} {o : Obj} {n : String} {vs : Array Value} {Q : Unit → Shared → Prop} (ho : s.heap.get? it = some o) (hc : o.cls = .type n) (hd : o.data = .fields vs)
    (hn : ["enumerate", "zip", "dict_itemiterator", "dict_reverseitemiterator", "odict_iterator", "itertools.zip_longest", "itertools.pairwise"].contains n = false) (hQ : Q () s) : wpAny M A (letOwnedTupleGo tg (.ref it) u) Q E s := by
  unfold letOwnedTupleGo
  cases tg <;> first
    | exact wpAny_pure hQ
    | (cases u <;> first
        | exact wpAny_pure hQ
        | (refine wpAny_bind (wpAny_load ho ?_)
           rw [hc, hd]
           show wpAny M A (if (["enumerate", "zip", "dict_itemiterator", "dict_reverseitemiterator", "odict_iterator", "itertools.zip_longest", "itertools.pairwise"].contains n && vs[0]? == some (rawInt _)) = true then _ else _) Q E s
           rw [if_neg (by intro h; rw [hn, Bool.false_and] at h; cases h)]
           exact wpAny_pure hQ))

def Itl (K : PySem.W.Frag) (a : Addr) : It :=
  ⟨fun i H => ∃ xs x, SqL K H a xs ∧ xs[i]? = some x, fun i H x H' => H' = H ∧ ∀ xs, SqL K H a xs → xs[i]? = some x, fun i H => ∃ xs, SqL K H a xs ∧ xs.length ≤ i⟩
def Itt (K : PySem.W.Frag) (a : Addr) : It :=
  ⟨fun i H => ∃ xs x, SqT K H a xs ∧ xs[i]? = some x, fun i H x H' => H' = H ∧ ∀ xs, SqT K H a xs → xs[i]? = some x, fun i H => ∃ xs, SqT K H a xs ∧ xs.length ≤ i⟩
def Itr (lo : Int) (n : Nat) : It := ⟨fun i _ => i < n, fun i H x H' => H' = H ∧ x = .int (lo + i), fun i _ => n ≤ i⟩
theorem turn_list {P : Program} {w : World} {K : PySem.W.Frag} {tg : Expr} (a it : Addr) : Turn P w K tg (Itl K a) [it] it (fun i h => h.IsListIter it a i) where
  mem := by simp
  obj := fun i h st b hb => by
    have e : b = it := by simpa using hb
    subst e
    obtain ⟨o, e, c, d⟩ := st
    exact ⟨o, e, fun v z => by rw [d] at z; cases z⟩
  keep := fun i h h' st k => st.at fun o e => k it (by simp) o e
  item := by
    intro X hP hw hK hc i pins s σ H E I hf st hg
    subst hP hw hK
    obtain ⟨xs, x, hq, hx⟩ := hg
    obtain ⟨its, rv, p, hz⟩ := I.list hq
    obtain ⟨u, hu, ru⟩ := rv.get hx
    obtain ⟨f0, f1, f2, f3, f4, f5⟩ := hf it (by simp)
    refine wpAny_pyNext_list_item st p.isList (x := u) (by simpa using hu) fun h' st' sb => ?_
    have I1 : Inv X pins σ H { s with heap := h' } := I.turned (t' := s.toks) (fun b o hb e => (sb.2 b hb).trans e) f0 f1 f3 f4 f5
    obtain ⟨o, e, c, d⟩ := id st'
    exact ⟨u, rfl, go_of (s := { s with heap := h' }) e c d (by decide) ⟨x, H, I1, ru, ⟨rfl, fun ys hy => by rw [I.list_inj hy hq]; exact hx⟩, st', fun b hb => (hf b hb).1⟩⟩
  done := by
    intro X hP hw hK hc i pins s σ H E I hf st hg
    subst hP hw hK
    obtain ⟨xs, hq, hx⟩ := hg
    obtain ⟨its, rv, p, hz⟩ := I.list hq
    obtain ⟨f0, f1, f2, f3, f4, f5⟩ := hf it (by simp)
    have hl := rv.length
    exact wpAny_pyNext_list_end (I.ok.hd hc) st p.isList (by simp; omega) fun h' eb => ⟨rfl, I.turned (t' := s.toks) (fun b o hb e => eb b o hb e) f0 f1 f3 f4 f5⟩
  self := fun _ _ _ _ _ st h => wpAny_pyIter_listiter st h
theorem turn_tuple {P : Program} {w : World} {K : PySem.W.Frag} {tg : Expr} (a it : Addr) : Turn P w K tg (Itt K a) [it] it (fun i h => h.IsTupleIter it a i) where
  mem := by simp
  obj := fun i h st b hb => by
    have e : b = it := by simpa using hb
    subst e
    obtain ⟨o, e, c, d⟩ := st
    exact ⟨o, e, fun v z => by rw [d] at z; cases z⟩
  keep := fun i h h' st k => st.at fun o e => k it (by simp) o e
  item := by
    intro X hP hw hK hc i pins s σ H E I hf st hg
    subst hP hw hK
    obtain ⟨xs, x, hq, hx⟩ := hg
    obtain ⟨its, rv, p, hz⟩ := I.tuple hq
    obtain ⟨u, hu, ru⟩ := rv.get hx
    obtain ⟨f0, f1, f2, f3, f4, f5⟩ := hf it (by simp)
    refine wpAny_pyNext_tuple_item st (show s.heap.IsTuple a its.toArray from p) (x := u) (by simpa using hu) fun h' st' sb => ?_
    have I1 : Inv X pins σ H { s with heap := h' } := I.turned (t' := s.toks) (fun b o hb e => (sb.2 b hb).trans e) f0 f1 f3 f4 f5
    obtain ⟨o, e, c, d⟩ := id st'
    exact ⟨u, rfl, go_of (s := { s with heap := h' }) e c d (by decide) ⟨x, H, I1, ru, ⟨rfl, fun ys hy => by rw [I.tuple_inj hy hq]; exact hx⟩, st', fun b hb => (hf b hb).1⟩⟩
  done := by
    intro X hP hw hK hc i pins s σ H E I hf st hg
    subst hP hw hK
    obtain ⟨xs, hq, hx⟩ := hg
    obtain ⟨its, rv, p, hz⟩ := I.tuple hq
    obtain ⟨f0, f1, f2, f3, f4, f5⟩ := hf it (by simp)
    have hl := rv.length
    exact wpAny_pyNext_tuple_end (I.ok.hd hc) st (show s.heap.IsTuple a its.toArray from p) (by simp; omega) fun h' eb => ⟨rfl, I.turned (t' := s.toks) (fun b o hb e => eb b o hb e) f0 f1 f3 f4 f5⟩
  self := fun _ _ _ _ _ st h => wpAny_pyIter_tupleiter st h
theorem turn_range {P : Program} {w : World} {K : PySem.W.Frag} {tg : Expr} (it : Addr) (lo : Int) (n : Nat) : Turn P w K tg (Itr lo n) [it] it (fun i h => IsRangeIter h it (lo + (i : Nat) * 1) ((n : Int) - (i : Nat)) 1) where
  mem := by simp
  obj := fun i h st b hb => by
    have e : b = it := by simpa using hb
    subst e
    exact ⟨_, st, fun v z => by
      have z' : Data.fields _ = Data.cell v := z
      cases z'⟩
  keep := fun i h h' st k => k it (by simp) _ st
  item := by
    intro X hP hw hK hc i pins s σ H E I hf st hg
    subst hP hw hK
    obtain ⟨f0, f1, f2, f3, f4, f5⟩ := hf it (by simp)
    have W := Walks.range (prog := X.prog) (w := X.w) (I.ok.hd hc) it lo 1 n
    refine W.item i s _ _ hg st fun v h' tk hv st' kk => ?_
    obtain ⟨t, rfl⟩ := hv
    have I1 : Inv X pins σ H { s with heap := h', toks := tk } := I.turned (fun b o hb e => kk b o (by simpa using hb) e) f0 f1 f3 f4 f5
    refine ⟨_, rfl, go_of (s := { s with heap := h', toks := tk }) (n := "range_iterator") st' rfl rfl (by decide) ⟨.int (lo + i), H, I1, ⟨t, ?_⟩, ⟨rfl, rfl⟩, st', fun b hb => (hf b hb).1⟩⟩
    rw [Int.mul_one]
  done := by
    intro X hP hw hK hc i pins s σ H E I hf st hg
    subst hP hw hK
    obtain ⟨f0, f1, f2, f3, f4, f5⟩ := hf it (by simp)
    exact wpAny_pyNext_range_end (I.ok.hd hc) st (by have : n ≤ i := hg; omega) fun h' eb => ⟨rfl, I.turned (t' := s.toks) (fun b o hb e => eb b o hb e) f0 f1 f3 f4 f5⟩
  self := fun _ _ _ _ _ st h => wpAny_pyIter_rangeiter st h
end L2

namespace L2
open PySem PySem.Spec PyProof.Rows
section
variable {X : Cx} {tg : Expr}
def iList (K : PySem.W.Frag) (tl : TE) : TI := fun σ H R => tl σ H fun x H1 => ∃ a, x = .ref a ∧ (∃ xs, SqL K H1 a xs) ∧ R (Itl K a) H1
def iTup (K : PySem.W.Frag) (tl : TE) : TI := fun σ H R => tl σ H fun x H1 => ∃ a, x = .ref a ∧ (∃ xs, SqT K H1 a xs) ∧ R (Itt K a) H1
theorem pi_list {l : Expr} {tl : TE} (hl : PE X l tl) : PI X tg l (iList X.K tl) := by
  intro pins s σ H R I h
  refine thn (hl pins s σ H _ I h) fun v s1 ⟨x, H1, I1, r1, q1⟩ => ?_
  obtain ⟨a, e, ⟨xs, hq⟩, q⟩ := q1
  subst e
  cases r1
  obtain ⟨its, rv, p, hz⟩ := I1.list hq
  refine wpAny_pyIter_list p.isList ?_
  refine ⟨s1.heap.objs.size, [s1.heap.objs.size], _, _, H1, rfl, I1.kept (t' := s1.toks) fun b o e => Heap.get?_push_of_some _ e, turn_list a _, ⟨_, Heap.get?_push_size _ rfl, rfl, rfl⟩, fun b hb => ?_, q⟩
  have e : b = s1.heap.objs.size := by simpa using hb
  subst e
  exact I1.fpOk (Nat.le_refl _) (I1.hok.fresh (Nat.le_refl _))
theorem pi_tup {l : Expr} {tl : TE} (hl : PE X l tl) : PI X tg l (iTup X.K tl) := by
  intro pins s σ H R I h
  refine thn (hl pins s σ H _ I h) fun v s1 ⟨x, H1, I1, r1, q1⟩ => ?_
  obtain ⟨a, e, ⟨xs, hq⟩, q⟩ := q1
  subst e
  cases r1
  obtain ⟨its, rv, p, hz⟩ := I1.tuple hq
  refine wpAny_pyIter_tuple (show s1.heap.IsTuple a its.toArray from p) ?_
  refine ⟨s1.heap.objs.size, [s1.heap.objs.size], _, _, H1, rfl, I1.kept (t' := s1.toks) fun b o e => Heap.get?_push_of_some _ e, turn_tuple a _, ⟨_, Heap.get?_push_size _ rfl, rfl, rfl⟩, fun b hb => ?_, q⟩
  have e : b = s1.heap.objs.size := by simpa using hb
  subst e
  exact I1.fpOk (Nat.le_refl _) (I1.hok.fresh (Nat.le_refl _))
theorem range_it {pins : List (Addr × Obj)} {σ : St} {H : Hp} {s : Shared} {R : It → Hp → Prop} {E : Value → Shared → Prop} {lo hi : Int} {t u v : Tok} {tk : Nat} (I : Inv X pins σ H s) (h1 : -(2 ^ 62) ≤ lo) (h2 : lo < 2 ^ 62) (h3 : -(2 ^ 62) ≤ hi) (h4 : hi < 2 ^ 62)
    (q : R (Itr lo (hi - lo).toNat) H) : wpAny (model X.prog X.w) X.A (pyIter (.ref s.heap.objs.size)) (PIE X pins σ tg R) E { s with heap := s.heap.push { cls := .type "range", data := .fields #[.int lo t, .int hi u, .int 1 v] }, toks := tk } := by
  refine wpAny_pyIter_range (IsRange.new ..) (small_one h1 h2 h3 h4) ?_
  have I1 : Inv X pins σ H { s with heap := s.heap.push { cls := .type "range", data := .fields #[.int lo t, .int hi u, .int 1 v] }, toks := tk } := I.kept fun b o e => Heap.get?_push_of_some _ e
  refine ⟨(s.heap.push { cls := .type "range", data := .fields #[.int lo t, .int hi u, .int 1 v] }).objs.size, [(s.heap.push { cls := .type "range", data := .fields #[.int lo t, .int hi u, .int 1 v] }).objs.size], _, _, H, rfl,
    I1.kept (t' := tk) fun b o e => Heap.get?_push_of_some _ e, turn_range _ lo (hi - lo).toNat, ?_, fun b hb => ?_, q⟩
  · have e1 : lo + ((0 : Nat) : Int) * 1 = lo := by simp
    have e2 : (((hi - lo).toNat : Nat) : Int) - ((0 : Nat) : Int) = Builtin.Range.rangeSize lo hi 1 := by rw [rangeSize_one]; split <;> omega
    show IsRangeIter _ _ (lo + ((0 : Nat) : Int) * 1) ((((hi - lo).toNat : Nat) : Int) - ((0 : Nat) : Int)) 1
    rw [e1, e2]
    exact Heap.get?_push_size _ rfl
  · have e : b = (s.heap.push { cls := .type "range", data := .fields #[.int lo t, .int hi u, .int 1 v] }).objs.size := by simpa using hb
    subst e
    exact I1.fpOk (Nat.le_refl _) (I1.hok.fresh (Nat.le_refl _))
def iRng1 (ta : TA) : TI := fun σ H R => ta σ H fun vs H1 => ∃ j : Int, vs = [.int j] ∧ -(2 ^ 62) ≤ j ∧ j < 2 ^ 62 ∧ R (Itr 0 j.toNat) H1
theorem pi_range1 {a : Expr} {ta : TA} {p pos : Pos} (hg : Gl X "range") (hm : X.mg "range" = none) (ha : PA X [a] ta) (hs : starEach [a] X.env = [(false, eval a X.env)] := by rfl) : PI X tg (.Call (.Name "range" p) [a] [] pos) (iRng1 ta) := by
  intro pins s σ H R I h
  refine Call_ (ld_blt I hg hm boot_range (PyProof.Rows.callWith_type1 (thn (ha pos pins s σ H _ I h) fun us s1 ⟨vs, H1, I1, r1, q1⟩ => ?_) hs rfl))
  obtain ⟨j, e, q1, q2, q⟩ := q1
  subst e
  cases r1 with
  | cons r rr =>
    cases rr
    obtain ⟨t, rfl⟩ := r
    exact call_range_1 (range_it I1 (by omega) (by omega) q1 q2 (by simpa using q))

def tFor (wi : TI) (g : TG) (tb : TS) : TS := fun D σ H => wi σ H fun J H1 => ∃ W : Nat → Nat → St → Hp → Prop, (∃ m, W 0 m σ H1) ∧ ∀ i m σ H, W i m σ H →
  (J.stop i H ∧ D.nx σ H) ∨ (J.go i H ∧ ∃ N : St → Hp → Prop, (∀ σ' H', N σ' H' → ∃ m', m' < m ∧ W (i + 1) m' σ' H') ∧ ∀ x H', J.yld i H x H' → g x σ H' fun σ2 H2 => tb { D with nx := N, ct := N, bk := D.nx } σ2 H2)
def pinsAt (fp : List Addr) (h : Heap) : List (Addr × Obj) := fp.filterMap fun b => (h.get? b).map fun o => (b, o)
theorem mem_pinsAt {fp : List Addr} {h : Heap} {b : Addr} {o : Obj} (hb : b ∈ fp) (e : h.get? b = some o) : (b, o) ∈ pinsAt fp h := List.mem_filterMap.mpr ⟨b, hb, by rw [e]; rfl⟩
theorem of_pinsAt {fp : List Addr} {h : Heap} {p : Addr × Obj} (hp : p ∈ pinsAt fp h) : p.1 ∈ fp ∧ h.get? p.1 = some p.2 := by
  obtain ⟨b, hb, e⟩ := List.mem_filterMap.mp hp
  cases q : h.get? b with
  | none => rw [q] at e; cases e
  | some o =>
    rw [q] at e
    have e' : (b, o) = p := Option.some.inj e
    subst e'
    exact ⟨hb, q⟩
theorem Inv.pinned {pins : List (Addr × Obj)} {σ : St} {H : Hp} {s : Shared} {fp : List Addr} (I : Inv X pins σ H s) (hf : ∀ b ∈ fp, FpOk X pins H b) (ho : ∀ b ∈ fp, ∃ o, s.heap.get? b = some o ∧ ∀ v, o.data ≠ .cell v) : Inv X (pins ++ pinsAt fp s.heap) σ H s :=
  I.pins_of fun p hp => (List.mem_append.mp hp).elim (fun z => I.pin p (List.mem_append_right _ z)) fun z => by
    obtain ⟨hb, e⟩ := of_pinsAt z
    obtain ⟨f0, f1, f2, _⟩ := hf p.1 hb
    obtain ⟨o, e', d⟩ := ho p.1 hb
    rw [e] at e'; cases e'
    exact ⟨e, f0, f1, f2, d⟩
theorem Inv.unpinned {pins pl : List (Addr × Obj)} {σ : St} {H : Hp} {s : Shared} (I : Inv X (pins ++ pl) σ H s) : Inv X pins σ H s := I.pins_of fun p hp => I.pin p (List.mem_append_right _ (List.mem_append_left _ hp))
theorem ps_for {iter : Expr} {body : List Stmt} {wi : TI} {g : TG} {tb : TS} {pos : Pos} (hp : PassesOwn (model X.prog X.w) X.A X.env X.xe) (hc : X.calm = true) (hi : PI X tg iter wi) (hg : PG X tg g) (hb : PSs X body tb)
    (hs : ∀ x, foldedSetIterable iter X.env x = pure x := by intro _; rfl) : PS X (.For tg iter body [] pos) (tFor wi g tb) := by
  intro pins s σ H D I h
  refine wpAny_For (thn (hi pins s σ H _ I h) fun v s1 h1 => thn h1 fun itv s2 h2 => ?_) hs
  obtain ⟨it, fp, tn, J, H2, e, I2, T, st2, f2, W, ⟨m0, w0⟩, turn⟩ := h2
  subst e
  -- what stays true of the iterator's objects through the loop
  have stat : ∀ {H' : Hp}, (∀ b ∈ fp, H' b = none) → ∀ b ∈ fp, FpOk X pins H' b := fun hn b hb => ⟨hn b hb, (f2 b hb).2⟩
  refine codeAny_forLoop_any (fun n s' => ∃ i σ' H', Inv X pins σ' H' s' ∧ tn i s'.heap ∧ (∀ b ∈ fp, H' b = none) ∧ W i n σ' H') ?_ m0 ⟨0, σ, H2, I2, st2, fun b hb => (f2 b hb).1, w0⟩
  rintro n s3 ⟨i, σ3, H3, I3, st3, fr3, w3⟩
  rcases turn i n σ3 H3 w3 with ⟨stop, qn⟩ | ⟨go, N, hN, step⟩
  · refine wpAny_passesOwn hp (thn (T.done X rfl rfl rfl hc i pins s3 σ3 H3 X.xe I3 (stat fr3) st3 stop) fun r s4 ⟨hr, I4⟩ => ?_)
    subst hr
    exact wpAny_execs_nil ⟨σ3, H3, I4, qn⟩
  · refine wpAny_passesOwn hp (thn (T.item X rfl rfl rfl hc i pins s3 σ3 H3 X.xe I3 (stat fr3) st3 go) fun r s4 ⟨u, hr, h4⟩ => ?_)
    subst hr
    refine wpAny_passesOwn hp (thn h4 fun _ s5 ⟨x, H5, I5, r5, y5, st5, fr5⟩ => ?_)
    have I5' := I5.pinned (stat fr5) (T.obj _ _ st5)
    refine wpAny_passesOwn hp (thn (hg _ s5 σ3 H5 x u _ I5' r5 (step x H5 y5)) fun _ s6 ⟨σ6, H6, I6, q6⟩ => ?_)
    refine wpAny_passesOwn hp (thn (hb _ s6 σ6 H6 _ I6 q6) fun f s7 q7 => ?_)
    have again : ∀ {σ7 : St} {H7 : Hp}, Inv X (pins ++ pinsAt fp s5.heap) σ7 H7 s7 → N σ7 H7 → ∃ m, m < n ∧ ∃ i σ' H', Inv X pins σ' H' s7 ∧ tn i s7.heap ∧ (∀ b ∈ fp, H' b = none) ∧ W i m σ' H' := fun {σ7 H7} I7 n7 => by
      obtain ⟨m', hm, w7⟩ := hN σ7 H7 n7
      refine ⟨m', hm, i + 1, σ7, H7, I7.unpinned, T.keep _ _ _ st5 fun b hb o e => (I7.pin (b, o) (List.mem_append_right _ (List.mem_append_right _ (mem_pinsAt hb e)))).1, fun b hb => ?_, w7⟩
      obtain ⟨o, e, d⟩ := T.obj _ _ st5 b hb
      exact (I7.pin (b, o) (List.mem_append_right _ (List.mem_append_right _ (mem_pinsAt hb e)))).2.1
    cases f with
    | next => obtain ⟨σ7, H7, I7, n7⟩ := q7; exact again I7 n7
    | cont => obtain ⟨σ7, H7, I7, n7⟩ := q7; exact again I7 n7
    | brk => obtain ⟨σ7, H7, I7, q7⟩ := q7; exact ⟨σ7, H7, I7.unpinned, q7⟩
    | ret v => obtain ⟨x7, σ7, H7, I7, r7, q7⟩ := q7; exact ⟨x7, σ7, H7, I7.unpinned, r7, q7⟩
end

end L2

namespace L2
open PySem PySem.Spec PyProof.Rows

abbrev R2 := V → V → Hp → VK → Prop
def OpR (X : Cx) (f : Value → Value → Sem Value) (r : R2) : Prop :=
  ∀ (pins : List (Addr × Obj)) (s : Shared) (σ : St) (H : Hp) (x y : V) (v u : Value) (Q : VK), Inv X pins σ H s → RelV x v → RelV y u → r x y H Q →
    wpAny (model X.prog X.w) X.A (f v u) (EP X pins σ Q) X.xe s
def CallR (X : Cx) (f : Value) (r : List V → Hp → VK → Prop) : Prop :=
  ∀ (pins : List (Addr × Obj)) (s : Shared) (σ : St) (H : Hp) (xs : List V) (us : List Value) (Q : VK), Inv X pins σ H s → Vals xs us → r xs H Q →
    wpAny (model X.prog X.w) X.A (call f us) (EP X pins σ Q) X.xe s

def tOp (r : R2) (ta tb : TE) : TE := fun σ H Q => ta σ H fun x H1 => tb σ H1 fun y H2 => r x y H2 Q
def rI (C : Int → Int → Prop) (g : Int → Int → V) : R2 := fun x y H Q => ∃ i j, x = .int i ∧ y = .int j ∧ C i j ∧ Q (g i j) H
def rI0 (g : Int → Int → V) : R2 := fun x y H Q => ∃ i j, x = .int i ∧ y = .int j ∧ Q (g i j) H

section
variable {X : Cx} {a b c : Expr} {ta tb tc : TE} {pos : Pos}

theorem binT (ha : PE X a ta) (hb : PE X b tb) {pins : List (Addr × Obj)} {s : Shared} {σ : St} {H : Hp} {R : V → V → Hp → Prop} (I : Inv X pins σ H s)
    (h : ta σ H fun x H1 => tb σ H1 fun y H2 => R x y H2) {Q : Value → Shared → Prop} {f : Value → Value → Sem Value}
    (hf : ∀ v u s2 x y H2, Inv X pins σ H2 s2 → RelV x v → RelV y u → R x y H2 → wpAny (model X.prog X.w) X.A (f v u) Q X.xe s2) :
    wpAny (model X.prog X.w) X.A (eval a X.env) (fun v s₁ => wpAny (model X.prog X.w) X.A (eval b X.env) (fun u s₂ => wpAny (model X.prog X.w) X.A (f v u) Q X.xe s₂) X.xe s₁) X.xe s := by
  refine thn (ha pins s σ H _ I h) fun v s1 ⟨x, H1, I1, r1, q1⟩ => ?_
  refine thn (hb pins s1 σ H1 _ I1 q1) fun u s2 ⟨y, H2, I2, r2, q2⟩ => ?_
  exact hf v u s2 x y H2 I2 r1 r2 q2

theorem pe_op {op : Operator} {r : R2} (ho : OpR X (binaryOp op) r) (ha : PE X a ta) (hb : PE X b tb) : PE X (.BinOp a op b pos) (tOp r ta tb) := by
  intro pins s σ H Q I h
  exact wpAny_BinOp (binT ha hb I h fun v u s2 x y H2 I2 rx ry q => ho pins s2 σ H2 x y v u Q I2 rx ry q)

theorem opI {f : Value → Value → Sem Value} {C : Int → Int → Prop} {g : Int → Int → Int}
    (rule : ∀ (i j : Int) (t u : Tok) (s : Shared) (Q : Value → Shared → Prop) (E : Value → Shared → Prop), C i j → Q (.int (g i j) s.toks) { s with toks := s.toks + 1 } → wpAny (model X.prog X.w) X.A (f (.int i t) (.int j u)) Q E s) :
    OpR X f (rI C fun i j => .int (g i j)) := by
  intro pins s σ H x y v u Q I rx ry h
  obtain ⟨i, j, rfl, rfl, hc, q⟩ := h
  obtain ⟨t, rfl⟩ := rx
  obtain ⟨t', rfl⟩ := ry
  exact rule i j t t' s _ _ hc ⟨.int (g i j), H, I.tok _, ⟨_, rfl⟩, q⟩
theorem opI0 {f : Value → Value → Sem Value} {g : Int → Int → Int}
    (rule : ∀ (i j : Int) (t u : Tok) (s : Shared) (Q : Value → Shared → Prop) (E : Value → Shared → Prop), Q (.int (g i j) s.toks) { s with toks := s.toks + 1 } → wpAny (model X.prog X.w) X.A (f (.int i t) (.int j u)) Q E s) :
    OpR X f (rI0 fun i j => .int (g i j)) := by
  intro pins s σ H x y v u Q I rx ry h
  obtain ⟨i, j, rfl, rfl, q⟩ := h
  obtain ⟨t, rfl⟩ := rx
  obtain ⟨t', rfl⟩ := ry
  exact rule i j t t' s _ _ ⟨.int (g i j), H, I.tok _, ⟨_, rfl⟩, q⟩
theorem opB0 {f : Value → Value → Sem Value} {g : Int → Int → Bool}
    (rule : ∀ (i j : Int) (t u : Tok) (s : Shared) (Q : Value → Shared → Prop) (E : Value → Shared → Prop), Q (.bool (g i j)) s → wpAny (model X.prog X.w) X.A (f (.int i t) (.int j u)) Q E s) :
    OpR X f (rI0 fun i j => .bl (g i j)) := by
  intro pins s σ H x y v u Q I rx ry h
  obtain ⟨i, j, rfl, rfl, q⟩ := h
  obtain ⟨t, rfl⟩ := rx
  obtain ⟨t', rfl⟩ := ry
  exact rule i j t t' s _ _ ⟨.bl (g i j), H, I, rfl, q⟩

def CDiv (i j : Int) : Prop := 0 < j ∧ j < 1073741824
def CPow (i j : Int) : Prop := 0 ≤ j ∧ j ≤ 1000000 ∧ i.natAbs < 2 ^ 64
def CMul (i j : Int) : Prop := (-(2 ^ 64) < i ∧ i < 2 ^ 64) ∨ (-(2 ^ 64) < j ∧ j < 2 ^ 64)
theorem CMul.ok {i j : Int} (h : CMul i j) : IntMulOk i j := by
  rcases h with ⟨h1, h2⟩ | ⟨h1, h2⟩
  · exact .of_left (intBits_le_64 h1 h2)
  · exact .of_right (intBits_le_64 h1 h2)

theorem op_add : OpR X (binaryOp .Add) (rI0 fun i j => .int (i + j)) := opI0 fun _ _ _ _ _ _ _ q => add_int q
theorem op_sub : OpR X (binaryOp .Sub) (rI0 fun i j => .int (i - j)) := opI0 fun _ _ _ _ _ _ _ q => sub_int q
theorem op_mul : OpR X (binaryOp .Mult) (rI CMul fun i j => .int (i * j)) := opI fun _ _ _ _ _ _ _ hc q => mul_int q hc.ok
theorem op_fdiv : OpR X (binaryOp .FloorDiv) (rI CDiv fun i j => .int (i / j)) := opI fun i j _ _ _ _ _ hc q => by
  have h1 : (0 : Int) < j := hc.1
  have h2 : j < 1073741824 := hc.2
  exact floordiv_int (by omega) (by rw [Int.fdiv_eq_ediv_of_nonneg i (by omega)]; exact q) (.inl (PyProof.noPylong_small (by omega)))
theorem op_mod : OpR X (binaryOp .Mod) (rI (fun _ j => 0 < j) fun i j => .int (i % j)) := opI fun i j _ _ _ _ _ hc q => by
  have h1 : (0 : Int) < j := hc
  exact mod_int' (by omega) (by rw [Int.fmod_eq_emod_of_nonneg i (by omega)]; exact q)
theorem op_pow : OpR X (binaryOp .Pow) (rI CPow fun i j => .int (i ^ j.toNat)) := opI fun _ _ _ _ _ _ _ hc q => pow_int_small hc.1 hc.2.1 hc.2.2 q



end



section
variable {X : Cx} {a b c : Expr} {ta tb tc : TE} {pos : Pos}

theorem op_lt : OpR X (compareOp .Lt) (rI0 fun i j => .bl (decide (i < j))) := opB0 fun _ _ _ _ _ _ _ q => lt_int q
theorem op_gt : OpR X (compareOp .Gt) (rI0 fun i j => .bl (decide (j < i))) := opB0 fun _ _ _ _ _ _ _ q => gt_int q
theorem op_ge : OpR X (compareOp .GtE) (rI0 fun i j => .bl (decide (j ≤ i))) := opB0 fun _ _ _ _ _ _ _ q => ge_int q



theorem OpR.or {f : Value → Value → Sem Value} {r r' : R2} (h : OpR X f r) (h' : OpR X f r') : OpR X f (fun x y H Q => r x y H Q ∨ r' x y H Q) := by
  intro pins s σ H x y v u Q I rx ry q
  rcases q with q | q
  · exact h pins s σ H x y v u Q I rx ry q
  · exact h' pins s σ H x y v u Q I rx ry q

theorem nomark (b : Expr) {op : CmpOp} (h : op ≠ .In := by decide) (h2 : op ≠ .NotIn := by decide) : behindInMarks op b = false := by
  have e1 : (op == CmpOp.In) = false := by cases op <;> first | rfl | exact absurd rfl h
  have e2 : (op == CmpOp.NotIn) = false := by cases op <;> first | rfl | exact absurd rfl h2
  cases b <;> simp [behindInMarks, e1, e2]
theorem pe_cmpR {op : CmpOp} {r : R2} (ho : OpR X (compareOp op) r) (ha : PE X a ta) (hb : PE X b tb) (hm : behindInMarks op b = false) : PE X (.Compare a [op] [b] pos) (tOp r ta tb) := by
  intro pins s σ H Q I h
  exact wpAny_Compare1 (binT ha hb I h fun v u s2 x y H2 I2 rx ry q => ho pins s2 σ H2 x y v u Q I2 rx ry q) hm
def tTest (t : TE) : TT := fun σ H Q => t σ H fun x H' => ∃ k, x = .bl k ∧ Q k H'
theorem pt_cmpR {op : CmpOp} {r : R2} (ho : OpR X (compareOp op) r) (ha : PE X a ta) (hb : PE X b tb) (hm : behindInMarks op b = false) : PT X (.Compare a [op] [b] pos) (tTest (tOp r ta tb)) := by
  intro pins s σ H Q I h
  refine wpAny_isTrue_Compare1 (thn (ha pins s σ H _ I h) fun v s1 ⟨x, H1, I1, r1, q1⟩ => thn (hb pins s1 σ H1 _ I1 q1) fun u s2 ⟨y, H2, I2, r2, q2⟩ =>
    thn (ho pins s2 σ H2 x y v u _ I2 r1 r2 q2) fun c s3 ⟨z, H3, I3, r3, k, e, q3⟩ => ?_) hm
  subst e
  cases r3
  exact wpAny_truthy_bool ⟨H3, I3, q3⟩

theorem line63 : (sizeLine : Nat) < 2 ^ 63 := by rw [sizeLine_eq]; decide

theorem op_add_str : OpR X (binaryOp .Add) (fun x y H Q => ∃ i j, x = .str i ∧ y = .str j ∧ i.length + j.length ≤ sizeLine ∧ Q (.str (i ++ j)) H) := by
  intro pins s σ H x y v u Q I rx ry h
  obtain ⟨i, j, rfl, rfl, hz, q⟩ := h
  obtain ⟨t, rfl⟩ := rx
  obtain ⟨t', rfl⟩ := ry
  exact add_str (fun t' tk => ⟨.str (i ++ j), H, I.tok _, ⟨_, rfl⟩, q⟩) hz


theorem vals1 {x : V} {us : List Value} (r : Vals [x] us) : ∃ u, us = [u] ∧ RelV x u := by
  cases r with
  | cons r1 r2 => cases r2; exact ⟨_, rfl, r1⟩
theorem vals2 {x y : V} {us : List Value} (r : Vals [x, y] us) : ∃ u w', us = [u, w'] ∧ RelV x u ∧ RelV y w' := by
  cases r with
  | cons r1 r2 =>
    cases r2 with
    | cons r3 r4 => cases r4; exact ⟨_, _, rfl, r1, r3⟩
theorem call_min2 (hc : X.calm = true) : CallR X (.builtin "min") (fun xs H Q => ∃ i j, xs = [.int i, .int j] ∧ Q (.int (if j < i then j else i)) H) := by
  intro pins s σ H xs us Q I r h
  obtain ⟨i, j, rfl, q⟩ := h
  obtain ⟨u, w', rfl, ⟨t, rfl⟩, ⟨t', rfl⟩⟩ := vals2 r
  refine min_two_ints (I.ok.hd hc) fun h' tk k => ⟨_, H, I.kept k, ?_, q⟩
  by_cases hj : j < i
  · rw [if_pos hj, if_pos hj]; exact ⟨_, rfl⟩
  · rw [if_neg hj, if_neg hj]; exact ⟨_, rfl⟩
theorem call_int1 : CallR X (.type "int") (fun xs H Q => (∃ i, xs = [.int i] ∧ Q (.int i) H) ∨ ∃ k, xs = [.bl k] ∧ Q (.int (if k then 1 else 0)) H) := by
  intro pins s σ H xs us Q I r h
  rcases h with ⟨i, rfl, q⟩ | ⟨k, rfl, q⟩
  · obtain ⟨u, rfl, t, rfl⟩ := vals1 r
    exact call_int_int ⟨.int i, H, I, ⟨_, rfl⟩, q⟩
  · obtain ⟨u, rfl, r1⟩ := vals1 r
    cases r1
    exact call_int_bool ⟨.int (if k then 1 else 0), H, I.tok _, ⟨_, rfl⟩, q⟩
end
end L2

namespace L2
open PySem PySem.Spec PyProof.Rows

structure ObjM (h : Heap) (x dx C : Addr) (mA : Str → Option Value) : Prop where
  obj : h.get? x = some (PySem.W.instObj C dx)
  ns : h.Ns1 dx mA
  ne : dx ≠ x

theorem lookIn_ns {h : Heap} {dx : Addr} {mA : Str → Option Value} (n : h.Ns1 dx mA) : ∃ od, h.get? dx = some od ∧ ∀ name, PySem.W.lookIn name od = some (mA name) := by
  obtain ⟨o, es, ep, ho, hd, hk, _, hm⟩ := n
  refine ⟨o, ho, fun name => ?_⟩
  have e := hm name
  unfold nsFind findBy at e
  rw [← Array.find?_toList] at e
  unfold PySem.W.lookIn
  rw [hd]
  dsimp only
  split
  · rename_i y q
    rw [q] at e
    exact congrArg some e
  · rename_i q
    rw [q] at e
    have a : es.toList.any (·.refKey) = false := by
      rw [List.any_eq_false]
      intro y hy
      obtain ⟨z, t, hkey⟩ := hk y (Array.mem_toList_iff.mp hy)
      simp [DictEntry.refKey, hkey]
    have a' : ¬ es.toList.any (·.refKey) = true := by rw [a]; exact Bool.false_ne_true
    rw [if_neg a']
    exact congrArg some e

theorem ObjM.look {h : Heap} {x dx C : Addr} {mA : Str → Option Value} (I : ObjM h x dx C mA) : ∃ od, PySem.W.InstAt h x (PySem.W.instObj C dx) C (some od) ∧ ∀ name, PySem.W.lookIn name od = some (mA name) :=
  let ⟨od, ho, hl⟩ := lookIn_ns I.ns
  ⟨od, ⟨I.obj, rfl, rfl, ho⟩, hl⟩

section
variable {prog : Program} {w : World} {A : Around} {E : Value → Shared → Prop} {s : Shared} {K : PySem.W.Frag} {x dx C f : Addr} {mA : Str → Option Value} {name : Str} {v : Value}





end


theorem RelO.some_of {v : V} {o : Option Value} (r : RelO (some v) o) : ∃ u, o = some u ∧ RelV v u := by
  cases o with
  | none => exact (show False from r).elim
  | some u => exact ⟨u, rfl, r⟩
theorem RelO.none_of {o : Option Value} (r : RelO none o) : o = none := by
  cases o with
  | none => rfl
  | some u => exact (show False from r).elim

section
variable {P : Program} {w : World} {H H' : Hp} {h h' : Heap} {a C dx : Addr} {fs fs' : List (Str × V)}
end

structure Cls (K : PySem.W.Frag) (C : Addr) : Prop where
  pg : PySem.W.plainGet K C Str.empty = true
  hd : PySem.W.hasDictIn K C = true
  po : PySem.W.plainOver K C = true
  sa : PySem.W.findIn K (.ref C) "__setattr__" = some (some (.builtin "object.__setattr__"))
theorem Cls.get {K : PySem.W.Frag} {C : Addr} (c : Cls K C) (f : Str) : PySem.W.plainGet K C f = true := c.pg
structure Con (K : PySem.W.Frag) (C : Addr) (f : Str) (v : V) (u : Value) : Prop where
  at_ : PySem.W.findIn K (.ref C) f = some (some u)
  rel : RelV v u
  get : PySem.W.specialIn K u "__get__" = some none
  cp : PySem.W.copiedNames.contains f = false
structure Meth (K : PySem.W.Frag) (C : Addr) (m : Str) (f : Addr) : Prop where
  at_ : PySem.W.findIn K (.ref C) m = some (some (.ref f))
  fn : PySem.W.isFn K (.ref f) = true
  kp : PySem.W.keepIn K (.ref f) = true

section
variable {X : Cx} {pins : List (Addr × Obj)} {σ : St} {H : Hp} {s : Shared} {a C dx : Addr} {fs : List (Str × V)} {f : Str} {v : V} {A : Around} {E : Value → Shared → Prop}





theorem Inv.made (I : Inv X pins σ H s) : Inv X pins σ (upd (upd H s.heap.objs.size (.own (s.heap.objs.size + 1))) (s.heap.objs.size + 1) (.ins C s.heap.objs.size []))
    { s with heap := (s.heap.push PySem.W.emptyDict).push (PySem.W.instObj C s.heap.objs.size) } := by
  have e1 : (s.heap.push PySem.W.emptyDict).get? s.heap.objs.size = some PySem.W.emptyDict := Heap.get?_push_size s.heap rfl
  have e2 : ((s.heap.push PySem.W.emptyDict).push (PySem.W.instObj C s.heap.objs.size)).get? (s.heap.objs.size + 1) = some (PySem.W.instObj C s.heap.objs.size) := by
    have := Heap.get?_push_size (s.heap.push PySem.W.emptyDict) (o := PySem.W.instObj C s.heap.objs.size) rfl
    rwa [Heap.size_push] at this
  have e3 : (s.heap.push PySem.W.emptyDict).Ns s.heap.objs.size (fun _ => none) := ⟨PySem.W.emptyDict, #[], _, e1, rfl, (fun e he => absurd he (by simp)), fun _ => rfl⟩
  have I1 := I.laid (a := s.heap.objs.size) (o := .own (s.heap.objs.size + 1)) (h' := s.heap.push PySem.W.emptyDict) (t' := s.toks) (fun b u q => Heap.get?_push_of_some _ q) (Nat.le_refl _) ⟨_, e1⟩
  refine I1.laid (a := s.heap.objs.size + 1) (o := .ins C s.heap.objs.size []) (t' := s.toks) (fun b u q => Heap.get?_push_of_some _ q) (Nat.le_of_eq (Heap.size_push _ _)) ?_
  have ne : s.heap.objs.size ≠ s.heap.objs.size + 1 := Nat.ne_of_lt (Nat.lt_succ_self _)
  refine ⟨by rw [upd_ne ne, upd_same], Nat.zero_le _, ne, e2, fun _ => none, (Heap.Ns1.of_empty e3).at fun o q => Heap.get?_push_of_some _ q, fun _ => True.intro, fun y hy => absurd rfl hy⟩

end


section
variable {X : Cx} {o e value : Expr} {f : Str} {pos pos' tpos : Pos} {ta tv : TE}

end

section
variable {X : Cx} {pins : List (Addr × Obj)} {σ : St} {H : Hp} {s : Shared} {A : Around} {E : Value → Shared → Prop} {Q : Value → Shared → Prop} {c : Value} {b : Bool}
inductive TyOf (K : PySem.W.Frag) (H : Hp) : V → Value → Prop where
  | non : TyOf K H .non (.type "NoneType")
  | bl (x : Bool) : TyOf K H (.bl x) (.type "bool")
  | int (i : Int) : TyOf K H (.int i) (.type "int")
  | str (x : Str) : TyOf K H (.str x) (.type "str")
  | flt (x : UInt64) : TyOf K H (.flt x) (.type "float")
  | lst {a : Addr} {xs : List V} (e : H a = some (.lst xs)) : TyOf K H (.ref a) (.type "list")
  | frz {a : Addr} {o : Obj} {xs : List V} (e : H a = some (.frz o (.lst xs))) : TyOf K H (.ref a) (.type "list")
  | tup {a : Addr} {xs : List V} (e : H a = some (.tup xs)) : TyOf K H (.ref a) (.type "tuple")
  | dK {a : Addr} {kvs : List (Key × V)} (e : H a = some (.dK kvs)) : TyOf K H (.ref a) (.type "dict")
  | dT {a : Addr} {kvs : List (List Key × V)} (e : H a = some (.dT kvs)) : TyOf K H (.ref a) (.type "dict")
  | ins {a C dx : Addr} {fs : List (Str × V)} (e : H a = some (.ins C dx fs)) (cl : Cls K C) (ha : PySem.W.findIn K (.ref C) "__class__" = some (some (.builtin "object.__class__")))
      (hn : PySem.W.specialIn K (.builtin "object.__class__") "__get__" = some (some (.builtin "getset_descriptor.__get__"))) (htk : PySem.W.takesIn K (.builtin "object.__class__") = some true)
      (hm : PySem.W.mroIn K C (.type "object") = some true) : TyOf K H (.ref a) (.ref C)
end
end L2

namespace L2
open PySem PySem.Spec PyProof.Rows

structure Room (k : Nat) (A : Around) : Prop where
  hd : A.handled = none
  dp : A.depth + 3 * k + 5 < recursionLimit
  un : A.units + 16 * k + 200 < cLine
  gd : A.guards = some []
theorem Room.mono {j k : Nat} {A : Around} (r : Room k A) (h : j ≤ k) : Room j A := ⟨r.hd, by have := r.dp; omega, by have := r.un; omega, r.gd⟩
theorem Room.deeper {k : Nat} {A : Around} (r : Room (k + 1) A) (env : Env) : Room k (A.deeper env) :=
  ⟨r.hd, by have := r.dp; show A.depth + 1 + 3 * k + 5 < _; omega, by have := r.un; show A.units + 3 + 16 * k + 200 < _; omega, r.gd⟩
theorem Room.in1 {k : Nat} {A : Around} (r : Room (k + 1) A) : Room k A.in1 :=
  ⟨r.hd, by have := r.dp; show A.depth + 3 * k + 5 < _; omega, by have := r.un; show A.units + 1 + 16 * k + 200 < _; omega, r.gd⟩
theorem make_depth {A : Around} {C : Addr} {us : List Value} {kw : List (Str × Value)} : (A.under (.builtin "type.__call__" ⟨.ref C :: us, kw⟩)).depth = A.depth + 1 := by
  first | rfl | simp [Around.under, Code.weight, Code.isCreation, Code.isGuard, Code.isCaller, Code.frames, Code.isFrame, guardIds]
theorem make_units {A : Around} {C : Addr} {us : List Value} {kw : List (Str × Value)} : (A.under (.builtin "type.__call__" ⟨.ref C :: us, kw⟩)).units = A.units + 1 := by
  first | rfl | simp [Around.under, Code.cUnits, Code.frames, Code.isFrame]
theorem Room.make {k : Nat} {A : Around} (r : Room (k + 1) A) (C : Addr) (us : List Value) (kw : List (Str × Value)) : Room k (A.under (.builtin "type.__call__" ⟨.ref C :: us, kw⟩)) :=
  ⟨r.hd, by have := r.dp; rw [make_depth]; omega, by have := r.un; rw [make_units]; omega, r.gd⟩
theorem Room.depth {k : Nat} {A : Around} (r : Room k A) : A.depth < recursionLimit := by have := r.dp; omega
theorem Room.units {k : Nat} {A : Around} (r : Room k A) : A.units + 64 < cLine := by have := r.un; omega

def tNil : TA := fun _ H Q => Q [] H
def tCons (ta : TE) (tr : TA) : TA := fun σ H Q => ta σ H fun x H1 => tr σ H1 fun xs H2 => Q (x :: xs) H2
section
variable {X : Cx} {e : Expr} {es : List Expr} {te : TE} {t : TA} {pos : Pos}
theorem pa_nil : PA X [] tNil := fun _ _ _ _ H Q I h => Calls.spliced_nil ⟨[], H, I, .nil, h⟩
theorem pa_cons (ha : PE X e te) (hr : PA X es t) (hs : starEach (e :: es) X.env = (false, eval e X.env) :: starEach es X.env := by rfl) : PA X (e :: es) (tCons te t) := by
  intro pos pins s σ H Q I h
  rw [hs]
  show wpAny _ _ (spliced ((false, eval e X.env) :: backTo pos (starEach es X.env))) _ _ s
  refine Calls.spliced_cons (thn (ha pins s σ H _ I h) fun u s1 ⟨x, H1, I1, r1, q1⟩ => ?_)
  exact thn (hr pos pins s1 σ H1 _ I1 q1) fun us s2 ⟨xs, H2, I2, r2, q2⟩ => ⟨x :: xs, H2, I2, .cons r1 r2, q2⟩

def tTup (t : TA) : TE := fun σ H Q => t σ H fun xs H1 => xs.length ≤ sizeLine ∧ ∀ p, H1 p = none → Q (.ref p) (upd H1 p (.tup xs))
def tLst (t : TA) : TE := fun σ H Q => t σ H fun xs H1 => xs.length ≤ sizeLine ∧ ∀ p, H1 p = none → Q (.ref p) (upd H1 p (.lst xs))
theorem pe_tup {x1} (h : PA X es t) : PE X (.Tuple es x1 pos) (tTup t) := by
  intro pins s σ H Q I hq
  refine wpAny_Tuple_spliced (thn (h pos pins s σ H _ I hq) fun us s1 ⟨xs, H1, I1, r, z, q⟩ => ⟨by rw [← r.length]; exact z, ?_⟩)
  have hf : H1 s1.heap.objs.size = none := I1.hok.fresh (Nat.le_refl _)
  refine ⟨.ref s1.heap.objs.size, upd H1 s1.heap.objs.size (.tup xs), I1.laid (t' := s1.toks) (fun b u e => Heap.get?_push_of_some _ e) (Nat.le_refl _) ?_, rfl, q _ hf⟩
  exact ⟨z, us, r, ⟨_, Heap.get?_push_size _ rfl, rfl, _, rfl⟩⟩
theorem pe_lst (h : PA X es t) : PE X (.List es pos) (tLst t) := by
  intro pins s σ H Q I hq
  refine wpAny_List_spliced (thn (h pos pins s σ H _ I hq) fun us s1 ⟨xs, H1, I1, r, z, q⟩ => ⟨by rw [← r.length]; exact z, ?_⟩)
  have hf : H1 s1.heap.objs.size = none := I1.hok.fresh (Nat.le_refl _)
  refine ⟨.ref s1.heap.objs.size, upd H1 s1.heap.objs.size (.lst xs), I1.laid (t' := s1.toks) (fun b u e => Heap.get?_push_of_some _ e) (Nat.le_refl _) ?_, rfl, q _ hf⟩
  exact ⟨z, us, 0, r, Heap.get?_push_size _ rfl⟩
end

abbrev Sp := List V → Hp → VK → XK → Prop
abbrev CXT := List Env → Hp → Shared → XK → Value → Shared → Prop

structure Env0 (P : Program) (w : World) (K : PySem.W.Frag) (mg : Str → Option Value) (base : Heap) (A : Around) (outer : List Env) (s : Shared) (H : Hp) : Prop where
  frames : A.frames = some outer
  mod : Mod K mg base
  bs : ∀ b o, base.get? b = some o → s.heap.get? b = some o ∧ H b = none
  bsz : base.objs.size ≤ s.heap.objs.size
  funs : s.heap.FunFrames base outer
  frf : ∀ b ∈ frs outer, H b = none
  hok : HOk P w H s.heap
  bare : AllBare s.gens
def CE (outer : List Env) (P : Program) (w : World) (H : Hp) (s : Shared) (Q : VK) (u : Value) (s' : Shared) : Prop :=
  ∃ v H', s'.os = s.os ∧ AllBare s'.gens ∧ Un (frs outer) [] H H' s.heap s'.heap ∧ HOk P w H' s'.heap ∧ RelV v u ∧ Q v H'
def CR (CX : CXT) (outer : List Env) (P : Program) (w : World) (H : Hp) (s : Shared) (Q : VK) (E : XK) (r : Result) (s' : Shared) : Prop :=
  match r with
  | .ok (.ret u) => CE outer P w H s Q u s'
  | .ok _ => False
  | .error e => CX outer H s E e s'
structure FnOk (P : Program) (w : World) (K : PySem.W.Frag) (mg : Str → Option Value) (base : Heap) (CX : CXT) (k : Nat) (f : Addr) (fd : FuncData) (ps : List Str) (sp : Sp) : Prop where
  len : ∀ vs H Q E, sp vs H Q E → vs.length = ps.length
  run : ∀ (A : Around) (outer : List Env) (s : Shared) (H : Hp) (args : Args) (us : List Value) (vs : List V) (Q : VK) (E : XK), Room k A → Env0 P w K mg base A outer s H → BindsTo s fd args (ps.zip us) → Vals vs us → sp vs H Q E →
    codeAny (model P w) A (.call (.ref f) args) (CR CX outer P w H s Q E) s
theorem FnOk.mono {P : Program} {w : World} {K : PySem.W.Frag} {mg : Str → Option Value} {base : Heap} {CX : CXT} {j k : Nat} {f : Addr} {fd : FuncData} {ps : List Str} {sp : Sp} (F : FnOk P w K mg base CX j f fd ps sp) (h : j ≤ k) :
    FnOk P w K mg base CX k f fd ps sp := ⟨F.len, fun A outer s H args us vs Q E hr => F.run A outer s H args us vs Q E (hr.mono h)⟩
theorem FnOk.imp {P : Program} {w : World} {K : PySem.W.Frag} {mg : Str → Option Value} {base : Heap} {CX : CXT} {k : Nat} {f : Addr} {fd : FuncData} {ps : List Str} {sp sp' : Sp} (F : FnOk P w K mg base CX k f fd ps sp)
    (h : ∀ vs H Q E, sp' vs H Q E → sp vs H Q E) : FnOk P w K mg base CX k f fd ps sp' :=
  ⟨fun vs H Q E q => F.len vs H Q E (h _ _ _ _ q), fun A outer s H args us vs Q E hr he hb hv hs => F.run A outer s H args us vs Q E hr he hb hv (h _ _ _ _ hs)⟩

theorem Env0.make {P : Program} {w : World} {K : PySem.W.Frag} {mg : Str → Option Value} {base : Heap} {A : Around} {outer : List Env} {s : Shared} {H : Hp} (e : Env0 P w K mg base A outer s H) (C : Addr) (us : List Value) (kw : List (Str × Value)) :
    Env0 P w K mg base (A.under (.builtin "type.__call__" ⟨.ref C :: us, kw⟩)) outer s H := ⟨by first | exact e.frames | (simpa [Around.under, Code.envs, Code.isFrame, pushEnvs] using e.frames), e.mod, e.bs, e.bsz, e.funs, e.frf, e.hok, e.bare⟩
theorem Env0.in1 {P : Program} {w : World} {K : PySem.W.Frag} {mg : Str → Option Value} {base : Heap} {A : Around} {outer : List Env} {s : Shared} {H : Hp} (e : Env0 P w K mg base A outer s H) :
    Env0 P w K mg base A.in1 outer s H := ⟨e.frames, e.mod, e.bs, e.bsz, e.funs, e.frf, e.hok, e.bare⟩

section
variable {X : Cx} {pins : List (Addr × Obj)} {σ : St} {H : Hp} {s s' : Shared}
theorem Inv.env0 (I : Inv X pins σ H s) : Env0 X.prog X.w X.K X.mg X.base X.A X.stack s H :=
  ⟨I.ok.frames, I.ok.mod, I.bs, Nat.le_trans I.ok.bsz I.sz, I.stack, I.stkFree, I.hok, I.bare⟩
theorem Inv.after {Q : VK} {u : Value} (I : Inv X pins σ H s) (h : CE X.stack X.prog X.w H s Q u s') : EP X pins σ Q u s' := by
  obtain ⟨v, H', os, bare, un, hok, r, q⟩ := h
  obtain ⟨hh, g, d, t, os'⟩ := s'
  obtain rfl : os' = s.os := os
  exact ⟨v, H', I.call (h' := hh) (g' := g) (d' := d) (t' := t) (ch := []) un hok bare (fun b z => absurd z (by simp)), r, q⟩
end

def tCall (sp : Sp) (dvs : List V) (E : XK) (t : TA) : TE := fun σ H Q => t σ H fun vs H1 => sp (vs ++ dvs) H1 Q E

def Binds (K : PySem.W.Frag) (fd : FuncData) (ps : List Str) (ds : List Value) : Prop :=
  ∀ (s : Shared) (us : List Value), K.In s.heap → (us ++ ds).length = ps.length → BindsTo s fd ⟨us, []⟩ (ps.zip (us ++ ds))
theorem Binds.all {K : PySem.W.Frag} {fd : FuncData} {ps : List Str} (h : ∀ us : List Value, us.length = ps.length → bindArgs fd ⟨us, []⟩ = pure (ps.zip us)) : Binds K fd ps [] := fun s us _ hl => by
  rw [List.append_nil] at hl ⊢
  exact .of_eq (h us hl)

def Passes (CX : CXT) (X : Cx) (E : XK) : Prop := ∀ (pins : List (Addr × Obj)) (σ : St) (H : Hp) (s : Shared) (e : Value) (s' : Shared), Inv X pins σ H s → CX X.stack H s E e s' → X.xe e s'

section
variable {X : Cx} {CX : CXT} {k : Nat} {f C : Addr} {fd : FuncData} {ps : List Str} {sp : Sp} {dvs : List V} {ds : List Value} {E : XK} {x m : Str} {p pos apos : Pos} {e o : Expr} {es : List Expr} {ta : TE} {t : TA}

theorem run_fn {pins : List (Addr × Obj)} {σ : St} {H : Hp} {s : Shared} {Q : VK} {us : List Value} {vs : List V} (F : FnOk X.prog X.w X.K X.mg X.base CX k f fd ps sp) (hr : Room k X.A) (hb : Binds X.K fd ps ds) (hd : Vals dvs ds) (hx : Passes CX X E)
    (I : Inv X pins σ H s) (r : Vals vs us) (h : sp (vs ++ dvs) H Q E) : wpAny (model X.prog X.w) X.A (call (.ref f) us) (EP X pins σ Q) X.xe s := by
  have r2 : Vals (vs ++ dvs) (us ++ ds) := r.append hd
  have hl : (us ++ ds).length = ps.length := by rw [← r2.length]; exact F.len _ _ _ _ h
  refine wpAny_call (codeAny_mono (F.run X.A X.stack s H ⟨us, []⟩ (us ++ ds) (vs ++ dvs) Q E hr I.env0 (hb s us I.kIn hl) r2 h) fun r s' hq => ?_)
  cases r with
  | error e => exact hx pins σ H s e s' I hq
  | ok fl =>
    cases fl with
    | ret u => exact I.after hq
    | next => exact False.elim hq
    | brk => exact False.elim hq
    | cont => exact False.elim hq

theorem pe_call (F : FnOk X.prog X.w X.K X.mg X.base CX k f fd ps sp) (hr : Room k X.A) (hg : Gl X x) (hm : X.mg x = some (.ref f)) (hk : PySem.W.keepIn X.K (.ref f) = true) (hb : Binds X.K fd ps ds) (hd : Vals dvs ds) (hx : Passes CX X E)
    (ha : PA X (e :: es) t) (hdb : (x == ("__debug__" : Str)) = false := by decide) (he : starEach (e :: es) X.env = (false, eval e X.env) :: starEach es X.env := by rfl) (hpl : (backTo pos (starEach es X.env)).any (·.1) = false := by rfl) :
    PE X (.Call (.Name x p) (e :: es) [] pos) (tCall sp dvs E t) := by
  intro pins s σ H Q I h
  refine wpAny_Call_Name_kw (ld_glob I hg hm ?_ hdb)
  refine PySem.W.callWith_K (h₀ := X.base) I.ok.mod.kin hk (thn (ha pos pins s σ H _ I h) fun us s1 ⟨vs, H1, I1, r, q⟩ => ⟨I1.kIn, ?_⟩) he hpl
  exact run_fn F hr hb hd hx I1 r q


structure Mk (K : PySem.W.Frag) (C f : Addr) : Prop where
  makes : PySem.W.makesIn K C = true
  init : PySem.W.findIn K (.ref C) "__init__" = some (some (.ref f))
  fn : PySem.W.isFn K (.ref f) = true
  kp : PySem.W.keepIn K (.ref C) = true

end

section
variable {X : Cx} {CX : CXT} {k : Nat} {f C : Addr} {fd : FuncData} {ps ks : List Str} {sp : Sp} {E : XK} {x m : Str} {p pos apos kpos : Pos} {e o : Expr} {es : List Expr} {kws : List Keyword} {te ta : TE} {t tk : TA} {nm : Option Str}

structure KBinds (K : PySem.W.Frag) (fd : FuncData) (ps ks : List Str) (g : List Value → List Value → List Value) (gV : List V → List V → List V) : Prop where
  to : ∀ (s : Shared) (us ws : List Value), K.In s.heap → (g us ws).length = ps.length → BindsTo s fd ⟨us, ks.zip ws⟩ (ps.zip (g us ws))
  rel : ∀ {vs : List V} {us : List Value} {zs : List V} {ws : List Value}, Vals vs us → Vals zs ws → Vals (gV vs zs) (g us ws)
variable {g : List Value → List Value → List Value} {gV : List V → List V → List V}
end

structure FnScope (N P : List Str) (sc : Scope) : Prop where
  kind : sc.kind = .function
  co : sc.isCoroutine = false
  gen : sc.isGenerator = false
  nd : N.Nodup
  pre : N.take P.length = P
  par : ∀ x ∈ P, sc.names.lookup x = some .local ∨ sc.names.lookup x = some .cell
  nofree : ∀ y ∈ sc.names, y.2 ≠ .free

theorem bindL_out {kindOf : Str → Option NameKind} {x : Str} : ∀ {binds : List (Str × Value)} {m : Str → Option Value}, (∀ v, (x, v) ∉ binds) → bindL kindOf binds m x = m x
  | [], _, _ => rfl
  | (n, v) :: r, m, h => by
    unfold bindL
    rw [bindL_out fun w hw => h w (List.mem_cons_of_mem _ hw)]
    split
    · have : x ≠ n := by rintro rfl; exact h v List.mem_cons_self
      simp [this]
    · rfl
theorem bindC_out {kindOf : Str → Option NameKind} {x : Str} : ∀ {binds : List (Str × Value)} {m : Str → Option Value}, (∀ v, (x, v) ∉ binds) → bindC kindOf binds m x = m x
  | [], _, _ => rfl
  | (n, v) :: r, m, h => by
    unfold bindC
    rw [bindC_out fun w hw => h w (List.mem_cons_of_mem _ hw)]
    split
    · rfl
    · have : x ≠ n := by rintro rfl; exact h v List.mem_cons_self
      simp [this]
theorem bindL_get {kindOf : Str → Option NameKind} {x : Str} {v : Value} : ∀ {P : List Str} {vs : List Value} {i : Nat} {m : Str → Option Value}, P.Nodup → P[i]? = some x → vs[i]? = some v → kindOf x = some .local →
    bindL kindOf (P.zip vs) m x = some v
  | [], _, _, _, _, h, _, _ => by simp at h
  | _ :: _, [], _, _, _, _, h, _ => by simp at h
  | p :: P, w :: vs, 0, m, nd, h1, h2, hk => by
    simp at h1 h2; subst h1; subst h2
    show bindL kindOf ((p, w) :: P.zip vs) m p = _
    unfold bindL
    rw [bindL_out fun v hv => (List.nodup_cons.mp nd).1 (List.of_mem_zip hv).1, if_pos hk]
    simp
  | p :: P, w :: vs, i + 1, m, nd, h1, h2, hk => by
    show bindL kindOf ((p, w) :: P.zip vs) m x = _
    unfold bindL
    exact bindL_get (i := i) (List.nodup_cons.mp nd).2 (by simpa using h1) (by simpa using h2) hk
theorem bindC_get {kindOf : Str → Option NameKind} {x : Str} {v : Value} : ∀ {P : List Str} {vs : List Value} {i : Nat} {m : Str → Option Value}, P.Nodup → P[i]? = some x → vs[i]? = some v → kindOf x ≠ some .local →
    bindC kindOf (P.zip vs) m x = some v
  | [], _, _, _, _, h, _, _ => by simp at h
  | _ :: _, [], _, _, _, _, h, _ => by simp at h
  | p :: P, w :: vs, 0, m, nd, h1, h2, hk => by
    simp at h1 h2; subst h1; subst h2
    show bindC kindOf ((p, w) :: P.zip vs) m p = _
    unfold bindC
    rw [bindC_out fun v hv => (List.nodup_cons.mp nd).1 (List.of_mem_zip hv).1, if_neg hk]
    simp
  | p :: P, w :: vs, i + 1, m, nd, h1, h2, hk => by
    show bindC kindOf ((p, w) :: P.zip vs) m x = _
    unfold bindC
    exact bindC_get (i := i) (List.nodup_cons.mp nd).2 (by simpa using h1) (by simpa using h2) hk

def start (N : List Str) (vs : List V) : St := vs.map some ++ List.replicate (N.length - vs.length) none

def cxOf (CX : CXT) (P : Program) (w : World) (K : PySem.W.Frag) (mg : Str → Option Value) (base : Heap) (N : List Str) (qual : Str) (scope : Scope) (f : Addr) (cd : Value) (A : Around) (outer : List Env) (s : Shared) (H : Hp) (E : XK) : Cx where
  prog := P
  w := w
  K := K
  mg := mg
  base := base
  A := A.deeper (envOfC qual scope s.heap.objs.size f cd)
  N := N
  s₀ := s
  H₀ := H
  env := envOfC qual scope s.heap.objs.size f cd
  outer := outer
  stack := envOfC qual scope s.heap.objs.size f cd :: outer
  ex := []
  calm := true
  fn := fun _ => true
  pn := []
  xe := fun e s' => wpAny (model P w) (A.deeper (envOfC qual scope s.heap.objs.size f cd)) (leaving (envOfC qual scope s.heap.objs.size f cd) e) (fun _ s'' => CX outer H s E e s'') (fun e' s'' => CX outer H s E e' s'') s'

theorem cell_has {sc : Scope} {n : Nat} {x : Str} (h : sc.names.lookup x = some .cell) : ∃ c, (cellsFrom n sc.names []).lookup x = some c := by
  have q := PySem.W.cellsFrom_some sc.names n [] (.inl h)
  exact Option.isSome_iff_exists.mp q

theorem inv_start {CX : CXT} {P : Program} {w : World} {K : PySem.W.Frag} {mg : Str → Option Value} {base : Heap} {N ps : List Str} {qual : Str} {scope : Scope} {f : Addr} {cd : Value} {A : Around} {outer : List Env} {s s1 : Shared} {H : Hp} {E : XK} {us : List Value} {vs : List V}
    (S : FnScope N ps scope) (hd : A.handled = none) (e0 : Env0 P w K mg base A outer s H) (hl : vs.length = ps.length) (r : Vals vs us)
    (x : InCallC s s.heap.objs.size (bindL (envOfC qual scope s.heap.objs.size f cd).kindOf (ps.zip us) fun _ => none) (cellsFrom (s.heap.objs.size + 1) scope.names []) (bindC (envOfC qual scope s.heap.objs.size f cd).kindOf (ps.zip us) fun _ => none) s1) :
    Inv (cxOf CX P w K mg base N qual scope f cd A outer s H E) [] (start N vs) H s1 := by
  have hpl : ps.length ≤ N.length := by have := congrArg List.length S.pre; rw [List.length_take] at this; omega
  obtain ⟨h1, tk, rfl, hk⟩ := x.done
  have noA : ∀ b : Addr, b ∉ (cxOf CX P w K mg base N qual scope f cd A outer s H E).ex := fun b z => absurd (show b ∈ ([] : List Addr) from z) (by simp)
  refine ⟨⟨e0.mod, S.kind, rfl, rfl, Nat.le_refl _, fun y z c h1 h2 => ?_, fun y hy => ?_, fun y c _ h => ?_, fun _ => hd, Around.frames_deeper e0.frames, .inr ⟨rfl, rfl⟩, fun b z => absurd z (noA b), e0.bs, e0.bsz, fun b _ _ => noA b, fun b z => absurd z (noA b), e0.funs, e0.frf⟩,
    rfl, e0.bare, Un.kept hk, ⟨_, x.toInCall.ns, fun i y v h1 h2 h3 => ?_⟩, fun y c h => ⟨_, x.cell y c h⟩, e0.hok.fresh (Nat.le_refl _), fun y c h => ?_, fun p hp => absurd (show p ∈ ([] : List (Addr × Obj)) from hp) (by simp), e0.hok.kept hk, ?_⟩
  · exact name_of_addr x.apart (PySem.mem_of_lookup h1) (PySem.mem_of_lookup h2)
  · have hy : scope.names.lookup y = some .cell ∨ scope.names.lookup y = some .free := hy
    rcases hy with hy | hy
    · exact cell_has hy
    · exact absurd rfl (S.nofree _ (PySem.mem_of_lookup hy))
  · exact Nat.le_of_lt (x.above y c (PySem.mem_of_lookup h))
  · have hi : i < vs.length := by
      unfold start at h2
      by_cases hi : i < vs.length
      · exact hi
      · rw [List.getElem?_append_right (by simpa using hi)] at h2
        rw [List.getElem?_replicate] at h2
        split at h2 <;> cases h2
    have ha : vs[i]? = some v := by
      unfold start at h2
      rw [List.getElem?_append_left (by simpa using hi), List.getElem?_map] at h2
      cases e : vs[i]? with
      | none => rw [e] at h2; cases h2
      | some a => rw [e] at h2; cases h2; rfl
    obtain ⟨u, hu, rv⟩ := r.get ha
    have hp : ps[i]? = some y := by
      rw [← S.pre, List.getElem?_take_of_lt (by omega)]; exact h1
    have ndP : ps.Nodup := by rw [← S.pre]; exact S.nd.sublist (List.take_sublist _ _)
    refine ⟨u, rv, ?_⟩
    rcases S.par y (List.mem_of_getElem? hp) with k | k
    · exact .inl ⟨k, bindL_get ndP hp hu k⟩
    · obtain ⟨c, e⟩ := cell_has (n := s.heap.objs.size + 1) k
      refine .inr ⟨.inl k, c, e, ?_⟩
      have q := x.cell y c e
      rw [bindC_get ndP hp hu (by show scope.names.lookup y ≠ _; rw [k]; decide)] at q
      exact q
  · exact e0.hok.fresh (Nat.le_of_lt (x.above y c (PySem.mem_of_lookup h)))
  · unfold start
    show _ = N.length
    rw [List.length_append, List.length_map, List.length_replicate]
    omega

theorem fn_of {CX : CXT} {P : Program} {w : World} {K : PySem.W.Frag} {mg : Str → Option Value} {base : Heap} {k : Nat} {f : Addr} {name qual : Str} {params : Arguments} {body : List Stmt} {scope : Scope} {dV kV doc pm cdv ct oc : Value} {an od : Option Addr}
    {osl : Array (Option Value)} {N ps : List Str} {sp : Sp} (lk : K.lookup f = some ⟨oc, od, .func (PySem.W.fnOf name qual params body scope dV kV doc pm an cdv ct), osl⟩) (hcd : PySem.W.codeIn K cdv qual = true) (S : FnScope N ps scope)
    (len : ∀ vs H Q E, sp vs H Q E → vs.length = ps.length)
    (hbody : ∀ (A : Around) (outer : List Env) (s : Shared) (H : Hp) (vs : List V) (Q : VK) (E : XK), Room k (A.deeper (envOfC qual scope s.heap.objs.size f cdv)) → sp vs H Q E →
      ∃ t, PSs (cxOf CX P w K mg base N qual scope f cdv A outer s H E) body t ∧ t { nx := fun _ H' => Q .non H', rt := Q } (start N vs) H) :
    FnOk P w K mg base CX (k + 1) f (PySem.W.fnOf name qual params body scope dV kV doc pm an cdv ct) ps sp := by
  refine ⟨len, fun A outer s H args us vs Q E hr e0 hb r hsp => ?_⟩
  have hl := len _ _ _ _ hsp
  have KX : K.In s.heap := e0.mod.kin.keeps fun b o e => (e0.bs b o e).1
  have lim : s.heap.NoLimit := e0.mod.nolimit.keeps fun b o e => (e0.bs b o e).1
  have hkind : ∀ y ∈ ps.zip us, scope.names.lookup y.1 = some .local ∨ (scope.names.lookup y.1 = some .cell ∧ ((cellsFrom (s.heap.objs.size + 1) scope.names []).lookup y.1).isSome = true) := fun ⟨n, v⟩ hy => by
    rcases S.par n (List.of_mem_zip hy).1 with q | q
    · exact .inl q
    · exact .inr ⟨q, PySem.W.cellsFrom_some _ _ _ (.inl q)⟩
  refine codeAny_call_function hr.depth (KX _ _ lk) rfl S.co S.gen rfl (PySem.W.codeRec_of KX hcd) (hb _ _ _ _ ?_)
  refine wpAny_newFunctionEnv_cells S.kind hkind fun env he s1 x => ?_
  subst he
  refine ⟨lim.keeps x.toInCall.keep, codeAny_func ?_⟩
  obtain ⟨t, ht, hq⟩ := hbody A outer s H vs Q E (hr.deeper _) hsp
  have I : Inv (cxOf CX P w K mg base N qual scope f cdv A outer s H E) [] (start N vs) H s1 := inv_start S hr.hd e0 hl r x
  refine wpAny_mono (ht [] s1 (start N vs) H _ I hq) (fun fl s' hs => ?_) fun e s' hs => hs
  have fin : ∀ {σ' : St} {H' : Hp} {v : V} {u : Value}, Inv (cxOf CX P w K mg base N qual scope f cdv A outer s H E) [] σ' H' s' → RelV v u → Q v H' → CE outer P w H s Q u s' :=
    fun {σ' H' v u} J rv q => ⟨v, H', J.os, J.bare, J.base, J.hok, rv, q⟩
  cases fl with
  | ret u =>
    obtain ⟨v, σ', H', J, rv, q⟩ := hs
    exact fin J rv q
  | next =>
    obtain ⟨σ', H', J, q⟩ := hs
    exact fin (v := V.non) (u := Value.none) J rfl q
  | brk =>
    obtain ⟨_, _, _, q⟩ := hs
    exact False.elim q
  | cont =>
    obtain ⟨_, _, _, q⟩ := hs
    exact False.elim q
end L2

namespace L2
open PySem PySem.Spec PyProof.Rows
section
variable {X : Cx} {x : Str} {p pos : Pos} {e : Expr} {es : List Expr} {t : TA} {id T : String} {r : List V → Hp → VK → Prop}

def tCB (r : List V → Hp → VK → Prop) (t : TA) : TE := fun σ H Q => t σ H fun vs H1 => r vs H1 Q
theorem pe_callB (hc : CallR X (.builtin id) r) (hg : Gl X x) (hm : X.mg x = none) (hv : bootBuiltins x = some (.builtin id)) (ha : PA X (e :: es) t) (hn : x ≠ "__name__" := by decide) (hdb : (x == ("__debug__" : Str)) = false := by decide)
    (he : starEach (e :: es) X.env = (false, eval e X.env) :: starEach es X.env := by rfl) (hpl : (backTo pos (starEach es X.env)).any (·.1) = false := by rfl) : PE X (.Call (.Name x p) (e :: es) [] pos) (tCB r t) := by
  intro pins s σ H Q I h
  refine wpAny_Call_Name_kw (ld_blt I hg hm hv ?_ hn hdb)
  exact PyProof.Rows.callWith_builtin1 (thn (ha pos pins s σ H _ I h) fun us s1 ⟨vs, H1, I1, r1, q1⟩ => hc pins s1 σ H1 vs us Q I1 r1 q1) he hpl
theorem pe_callTy (hc : CallR X (.type T) r) (hg : Gl X x) (hm : X.mg x = none) (hv : bootBuiltins x = some (.type T)) (ha : PA X (e :: es) t) (hn : x ≠ "__name__" := by decide) (hdb : (x == ("__debug__" : Str)) = false := by decide)
    (he : starEach (e :: es) X.env = (false, eval e X.env) :: starEach es X.env := by rfl) (hpl : (backTo pos (starEach es X.env)).any (·.1) = false := by rfl) : PE X (.Call (.Name x p) (e :: es) [] pos) (tCB r t) := by
  intro pins s σ H Q I h
  refine wpAny_Call_Name_kw (ld_blt I hg hm hv ?_ hn hdb)
  exact PyProof.Rows.callWith_type1 (thn (ha pos pins s σ H _ I h) fun us s1 ⟨vs, H1, I1, r1, q1⟩ => hc pins s1 σ H1 vs us Q I1 r1 q1) he hpl
end
end L2

namespace L2
open PySem PySem.Spec PyProof.Rows

section
variable {κ : Type} [DecidableEq κ]
def valV (kvs : List (κ × V)) (k : κ) : Option V := (kvs.find? fun kv => decide (kv.1 = k)).map (·.2)
def putK (kvs : List (κ × V)) (k : κ) (v : V) : List (κ × V) :=
  if (kvs.any fun kv => decide (kv.1 = k)) = true then kvs.map (fun kv => if kv.1 = k then (kv.1, v) else kv) else kvs ++ [(k, v)]
def dropK (kvs : List (κ × V)) (k : κ) : List (κ × V) := kvs.filter fun kv => decide (kv.1 ≠ k)

theorem valV_pos {p : κ × V} {r : List (κ × V)} {k : κ} (e : p.1 = k) : valV (p :: r) k = some p.2 := by simp [valV, List.find?_cons, e]
theorem valV_neg {p : κ × V} {r : List (κ × V)} {k : κ} (e : ¬ p.1 = k) : valV (p :: r) k = valV r k := by simp [valV, List.find?_cons, e]
theorem valV_any (k : κ) : ∀ kvs : List (κ × V), (kvs.any fun kv => decide (kv.1 = k)) = (valV kvs k).isSome
  | [] => rfl
  | p :: r => by
    rw [List.any_cons]
    by_cases e : p.1 = k
    · simp only [valV_pos e, decide_eq_true e, Bool.true_or, Option.isSome_some]
    · rw [valV_neg e, decide_eq_false e, Bool.false_or]; exact valV_any k r
theorem length_putK (kvs : List (κ × V)) (k : κ) (v : V) : (putK kvs k v).length ≤ kvs.length + 1 := by
  unfold putK
  split
  · rw [List.length_map]; omega
  · rw [List.length_append, List.length_cons, List.length_nil]; omega

theorem RelO.isSome_eq {o : Option V} {u : Option Value} (r : RelO o u) : o.isSome = u.isSome := by
  cases o with
  | none => cases u with
    | none => rfl
    | some _ => exact (show False from r).elim
  | some _ => cases u with
    | none => exact (show False from r).elim
    | some _ => rfl
theorem RelO.getD {o : Option V} {u : Option Value} {d : V} {d' : Value} (r : RelO o u) (rd : RelV d d') : RelV (o.getD d) (u.getD d') := by
  cases o with
  | none => cases u with
    | none => exact rd
    | some _ => exact (show False from r).elim
  | some _ => cases u with
    | none => exact (show False from r).elim
    | some _ => exact r

theorem KV.val {kvs : List (κ × V)} {vs : List (κ × Value)} (r : KV kvs vs) (k : κ) : RelO (valV kvs k) (valueAt vs k) := by
  unfold KV at r
  induction r with
  | nil => exact True.intro
  | @cons p q ps qs h t ih =>
    obtain ⟨h1, h2⟩ := h
    by_cases e : p.1 = k
    · have e' : q.1 = k := h1.symm.trans e
      have b : valueAt (q :: qs) k = some q.2 := by simp [valueAt, List.find?_cons, e']
      rw [valV_pos e, b]; exact h2
    · have e' : ¬ q.1 = k := fun z => e (h1.trans z)
      have b : valueAt (q :: qs) k = valueAt qs k := by simp [valueAt, List.find?_cons, e']
      rw [valV_neg e, b]; exact ih
theorem KV.any {kvs : List (κ × V)} {vs : List (κ × Value)} (r : KV kvs vs) (k : κ) : (kvs.any fun kv => decide (kv.1 = k)) = vs.any fun kv => decide (kv.1 = k) := by
  unfold KV at r
  induction r with
  | nil => rfl
  | cons h t ih => rw [List.any_cons, List.any_cons, ih, h.1]
theorem KV.repl {kvs : List (κ × V)} {vs : List (κ × Value)} (r : KV kvs vs) (k : κ) {y : V} {u : Value} (ry : RelV y u) :
    KV (kvs.map fun kv => if kv.1 = k then (kv.1, y) else kv) (vs.map fun kv => if kv.1 = k then (kv.1, u) else kv) := by
  unfold KV at r ⊢
  induction r with
  | nil => exact .nil
  | @cons p q ps qs h t ih =>
    rw [List.map_cons, List.map_cons]
    refine .cons ?_ ih
    obtain ⟨h1, h2⟩ := h
    by_cases e : p.1 = k
    · rw [if_pos e, if_pos (h1.symm.trans e)]; exact ⟨h1, ry⟩
    · rw [if_neg e, if_neg (fun z => e (h1.trans z))]; exact ⟨h1, h2⟩
theorem KV.put {kvs : List (κ × V)} {vs : List (κ × Value)} (r : KV kvs vs) (k : κ) {y : V} {u : Value} (ry : RelV y u) : KV (putK kvs k y) (stored vs k u) := by
  unfold putK stored
  rw [r.any k]
  by_cases e : (vs.any fun kv => decide (kv.1 = k)) = true
  · rw [if_pos e, if_pos e]; exact r.repl k ry
  · rw [if_neg e, if_neg e]; exact Paired.snoc r ⟨rfl, ry⟩
theorem KV.drop {kvs : List (κ × V)} {vs : List (κ × Value)} (r : KV kvs vs) (k : κ) : KV (dropK kvs k) (without vs k) := by
  unfold KV at r ⊢
  unfold dropK without
  induction r with
  | nil => exact .nil
  | @cons p q ps qs h t ih =>
    obtain ⟨h1, h2⟩ := h
    rw [List.filter_cons, List.filter_cons]
    by_cases e : p.1 = k
    · have a : ¬ decide (p.1 ≠ k) = true := by simp [e]
      have b : ¬ decide (q.1 ≠ k) = true := by simp [h1.symm.trans e]
      rw [if_neg a, if_neg b]; exact ih
    · have e' : ¬ q.1 = k := fun z => e (h1.trans z)
      have a : decide (p.1 ≠ k) = true := by simp [e]
      have b : decide (q.1 ≠ k) = true := by simp [e']
      rw [if_pos a, if_pos b]; exact .cons ⟨h1, h2⟩ ih
theorem KV.keys {kvs : List (κ × V)} {vs : List (κ × Value)} (r : KV kvs vs) : kvs.map (·.1) = vs.map (·.1) := by
  unfold KV at r
  induction r with
  | nil => rfl
  | cons h t ih => rw [List.map_cons, List.map_cons, ih, h.1]
theorem KV.length {kvs : List (κ × V)} {vs : List (κ × Value)} (r : KV kvs vs) : kvs.length = vs.length := Paired.length r
end


theorem kV_is {P : Program} {w : World} {k : Key} {u : Value} (r : RelV (kV k) u) : (mixKind P w).is k u = true := by
  cases k with
  | inl i => obtain ⟨t, e⟩ := (show ∃ t, u = Value.int i t from r); subst e; exact mixKind_int P w i t
  | inr x => obtain ⟨t, e⟩ := (show ∃ t, u = Value.str x t from r); subst e; exact mixKind_str P w x t
theorem items_are {P : Program} {w : World} : ∀ {ks : List Key} {us : List Value}, Vals (ks.map kV) us → ItemsAre (mixKind P w) ks us
  | [], _, r => by rw [List.map_nil] at r; cases r; exact .nil
  | k :: ks, _, r => by
    rw [List.map_cons] at r
    cases r with
    | cons h t => exact .cons (kV_is h) (items_are t)

abbrev KT (H : Hp) : List (List Key × V) → List (List Key × Addr × Value) → Prop := Paired fun p q => p.1 = q.1 ∧ H q.2.1 = some (.tup (p.1.map kV)) ∧ RelV p.2 q.2.2
theorem KT.val {H : Hp} {kvs : List (List Key × V)} {xs : List (List Key × Addr × Value)} (r : KT H kvs xs) (k : List Key) : RelO (valV kvs k) ((atKey xs k).map (·.2)) := by
  induction r with
  | nil => exact True.intro
  | @cons p q ps qs h t ih =>
    obtain ⟨h1, _, h2⟩ := h
    by_cases e : p.1 = k
    · have e' : q.1 = k := h1.symm.trans e
      have b : atKey (q :: qs) k = some q.2 := by simp [atKey, List.find?_cons, e']
      rw [valV_pos e, b]; exact h2
    · have e' : ¬ q.1 = k := fun z => e (h1.trans z)
      have b : atKey (q :: qs) k = atKey qs k := by simp [atKey, List.find?_cons, e']
      rw [valV_neg e, b]; exact ih
theorem KT.repl {H : Hp} {kvs : List (List Key × V)} {xs : List (List Key × Addr × Value)} (r : KT H kvs xs) (k : List Key) {y : V} {u : Value} (ry : RelV y u) :
    KT H (kvs.map fun kv => if kv.1 = k then (kv.1, y) else kv) (xs.map (putAt k u)) := by
  induction r with
  | nil => exact .nil
  | @cons p q ps qs h t ih =>
    rw [List.map_cons, List.map_cons]
    refine .cons ?_ ih
    obtain ⟨h1, h2, h3⟩ := h
    unfold putAt
    by_cases e : p.1 = k
    · rw [if_pos e, if_pos (h1.symm.trans e)]; exact ⟨h1, h2, ry⟩
    · rw [if_neg e, if_neg (fun z => e (h1.trans z))]; exact ⟨h1, h2, h3⟩
theorem KT.put {H : Hp} {kvs : List (List Key × V)} {xs : List (List Key × Addr × Value)} (r : KT H kvs xs) (k : List Key) {b : Addr} {y : V} {u : Value} (hb : H b = some (.tup (k.map kV))) (ry : RelV y u) :
    KT H (putK kvs k y) (storedH xs k b u) := by
  have e : (kvs.any fun kv => decide (kv.1 = k)) = (atKey xs k).isSome := by
    rw [valV_any, (r.val k).isSome_eq, Option.isSome_map]
  unfold putK storedH
  rw [e]
  by_cases q : (atKey xs k).isSome = true
  · rw [if_pos q, if_pos q]; exact r.repl k ry
  · rw [if_neg q, if_neg q]; exact Paired.snoc r ⟨rfl, hb, ry⟩
theorem KT.keeps {H H' : Hp} {kvs : List (List Key × V)} {xs : List (List Key × Addr × Value)} (r : KT H kvs xs) (ht : ∀ b ys, H b = some (.tup ys) → H' b = some (.tup ys)) : KT H' kvs xs :=
  Paired.mapP r fun _ _ z => ⟨z.1, ht _ _ z.2.1, z.2.2⟩

section
variable {P : Program} {w : World} {H : Hp} {h : Heap} {a : Addr}
theorem rd_of {u : HO} (ok : HOk P w H h) (e : Rd H a u) : ObjOk P w H h a u := e.ok ok
theorem dk_rd {kvs : List (Key × V)} (ok : HOk P w H h) (e : Rd H a (.dK kvs)) : kvs.length ≤ sizeLine ∧ (a == sysModules) = false ∧ ∃ vs, KV kvs vs ∧ h.DictOf (mixKind P w) a vs :=
  show ObjOk P w H h a (.dK kvs) from rd_of ok e
theorem dk_of {kvs : List (Key × V)} (ok : HOk P w H h) (e : H a = some (.dK kvs)) : kvs.length ≤ sizeLine ∧ (a == sysModules) = false ∧ ∃ vs, KV kvs vs ∧ h.DictOf (mixKind P w) a vs := dk_rd ok (.inl e)
theorem key_of {ks : List Key} (ok : HOk P w H h) (e : H a = some (.tup (ks.map kV))) : (tupleKind (mixKind P w)).is h ks a := by
  obtain ⟨_, its, r, o, h1, h2, n, h3⟩ := (show ObjOk P w H h a (.tup (ks.map kV)) from ok a _ e)
  exact ⟨o, its.toArray, n, h1, h2, h3, by simpa using items_are r⟩
theorem dt_rd {kvs : List (List Key × V)} (ok : HOk P w H h) (e : Rd H a (.dT kvs)) : kvs.length ≤ sizeLine ∧ (a == sysModules) = false ∧
    ∃ xs, KT H kvs xs ∧ h.DictOfH (tupleKind (mixKind P w)) a xs := by
  obtain ⟨z, y, xs, r, o, es, ep, h1, h2, h3, h4, h5⟩ := (show ObjOk P w H h a (.dT kvs) from rd_of ok e)
  refine ⟨z, y, xs, r, o, es, ep, h1, h2, h3, h4, fun x hx => ?_, h5⟩
  have all : ∀ {l : List (List Key × V)} {m : List (List Key × Addr × Value)}, KT H l m → ∀ x ∈ m, (tupleKind (mixKind P w)).is h x.1 x.2.1 := by
    intro l m q
    induction q with
    | nil => intro x hx; exact nomatch hx
    | @cons p q ps qs hq t ih =>
      intro x hx
      rcases List.mem_cons.mp hx with e | hx
      · subst e
        exact key_of ok (by rw [← hq.1]; exact hq.2.1)
      · exact ih x hx
  exact all r x hx
theorem dt_of {kvs : List (List Key × V)} (ok : HOk P w H h) (e : H a = some (.dT kvs)) : kvs.length ≤ sizeLine ∧ (a == sysModules) = false ∧
    ∃ xs, KT H kvs xs ∧ h.DictOfH (tupleKind (mixKind P w)) a xs := dt_rd ok (.inl e)
end

def DGet (H : Hp) (a : Addr) (y : V) (r : Option V) : Prop :=
  (∃ kvs k, Rd H a (.dK kvs) ∧ y = kV k ∧ r = valV kvs k) ∨ ∃ kvs k b, Rd H a (.dT kvs) ∧ y = .ref b ∧ H b = some (.tup (k.map kV)) ∧ r = valV kvs k
def DPut (H : Hp) (a : Addr) (y v : V) (H' : Hp) : Prop :=
  (∃ kvs k, H a = some (.dK kvs) ∧ y = kV k ∧ kvs.length < sizeLine ∧ H' = upd H a (.dK (putK kvs k v))) ∨
  ∃ kvs k b, H a = some (.dT kvs) ∧ y = .ref b ∧ H b = some (.tup (k.map kV)) ∧ kvs.length < sizeLine ∧ H' = upd H a (.dT (putK kvs k v))
theorem DGet.k {H : Hp} {a : Addr} {kvs : List (Key × V)} {k : Key} (e : H a = some (.dK kvs)) : DGet H a (kV k) (valV kvs k) := .inl ⟨kvs, k, .inl e, rfl, rfl⟩
theorem DGet.t {H : Hp} {a b : Addr} {kvs : List (List Key × V)} {k : List Key} (e : H a = some (.dT kvs)) (eb : H b = some (.tup (k.map kV))) : DGet H a (.ref b) (valV kvs k) := .inr ⟨kvs, k, b, .inl e, rfl, eb, rfl⟩
theorem DPut.k {H : Hp} {a : Addr} {kvs : List (Key × V)} {k : Key} {v : V} (e : H a = some (.dK kvs)) (hl : kvs.length < sizeLine) : DPut H a (kV k) v (upd H a (.dK (putK kvs k v))) := .inl ⟨kvs, k, e, rfl, hl, rfl⟩
theorem DPut.t {H : Hp} {a b : Addr} {kvs : List (List Key × V)} {k : List Key} {v : V} (e : H a = some (.dT kvs)) (eb : H b = some (.tup (k.map kV))) (hl : kvs.length < sizeLine) :
    DPut H a (.ref b) v (upd H a (.dT (putK kvs k v))) := .inr ⟨kvs, k, b, e, rfl, eb, hl, rfl⟩


section
variable {X : Cx} {pins : List (Addr × Obj)} {σ : St} {H : Hp} {s : Shared} {a : Addr} {y v : V} {u r : Value} {o : Option V} {A : Around} {E : Value → Shared → Prop}

theorem Inv.big (I : Inv X pins σ H s) : sysModules < s.heap.objs.size := by
  have h : mainGlobals < s.heap.objs.size := (I.mod.glob.keeps I.bk).lt
  exact Nat.lt_trans (by decide) h

theorem d_getItem {Q : Value → Shared → Prop} (hu : A.units + 1 < cLine) (I : Inv X pins σ H s) (g : DGet H a y (some v)) (ry : RelV y u) (h : ∀ w' s', Inv X pins σ H s' → RelV v w' → Q w' s') :
    wpAny (model X.prog X.w) A (getItem (.ref a) u) Q E s := by
  rcases g with ⟨kvs, k, e, ey, l⟩ | ⟨kvs, k, b, e, ey, eb, l⟩
  · subst ey
    obtain ⟨z, hd, vs, rel, dd⟩ := dk_rd I.hok e
    obtain ⟨w', hw, rw'⟩ := RelO.some_of (v := v) (o := valueAt vs k) (by rw [l]; exact rel.val k)
    exact wpAny_getItem_of (kV_is ry) dd.mapOf hw (h w' _ (I.tok _) rw')
  · subst ey
    cases (show u = Value.ref b from ry)
    obtain ⟨z, hd, xs, rel, dd⟩ := dt_rd I.hok e
    obtain ⟨w', hw, rw'⟩ := RelO.some_of (v := v) (o := (atKey xs k).map (·.2)) (by rw [l]; exact rel.val k)
    obtain ⟨p, hp, hp2⟩ := Option.map_eq_some_iff.mp hw
    refine wpAny_getItem_heap (tupleKind_room_in1 hu) (key_of I.hok eb) dd hp ?_
    rw [hp2]
    exact h w' _ (I.tok _) rw'
theorem d_notIn {Q : Value → Shared → Prop} (hu : A.units + 1 < cLine) (I : Inv X pins σ H s) (g : DGet H a y o) (ry : RelV y u) (h : ∀ s', Inv X pins σ H s' → Q (.bool (!o.isSome)) s') :
    wpAny (model X.prog X.w) A (compareOp .NotIn u (.ref a)) Q E s := by
  rcases g with ⟨kvs, k, e, ey, l⟩ | ⟨kvs, k, b, e, ey, eb, l⟩
  · subst ey
    obtain ⟨z, hd, vs, rel, dd⟩ := dk_rd I.hok e
    refine wpAny_notIn_of (kV_is ry) hd dd.mapOf ?_
    rw [← (rel.val k).isSome_eq, ← l]
    exact h _ (I.tok _)
  · subst ey
    cases (show u = Value.ref b from ry)
    obtain ⟨z, hd, xs, rel, dd⟩ := dt_rd I.hok e
    refine wpAny_notIn_heap (tupleKind_room_in1 hu) (key_of I.hok eb) hd dd ?_
    have q := (rel.val k).isSome_eq
    rw [Option.isSome_map] at q
    rw [← q, ← l]
    exact h _ (I.tok _)
theorem d_write {h' : Heap} {t' : Nat} {ob : HO} (I : Inv X pins σ H s) (mu : Mut (H a)) (hs : Heap.SameBut a s.heap h') (he : ∃ q, h'.get? a = some q) (new : ObjOk X.prog X.w (upd H a ob) h' a ob) :
    Inv X pins σ (upd H a ob) { s with heap := h', toks := t' } :=
  I.write (x := a) (e := a) mu (.inl rfl) (fun b q hb z => (hs.2 b hb).trans z) he new
theorem dk_new {P : Program} {w : World} {H' : Hp} {h' : Heap} {kvs : List (Key × V)} {vs : List (Key × Value)} (z : kvs.length ≤ sizeLine) (hd : (a == sysModules) = false) (rel : KV kvs vs) (dd : h'.DictOf (mixKind P w) a vs) :
    ObjOk P w H' h' a (.dK kvs) := ⟨z, hd, vs, rel, dd⟩
theorem d_setItem {H' : Hp} {Q : Unit → Shared → Prop} (hu : A.units + 1 < cLine) (I : Inv X pins σ H s) (g : DPut H a y v H') (ry : RelV y u) (rv : RelV v r) (h : ∀ s', Inv X pins σ H' s' → Q () s') :
    wpAny (model X.prog X.w) A (setItem (.ref a) u r) Q E s := by
  rcases g with ⟨kvs, k, e, ey, l, eH⟩ | ⟨kvs, k, b, e, ey, eb, l, eH⟩
  · subst ey eH
    obtain ⟨z, hd, vs, rel, dd⟩ := dk_of I.hok e
    have hz : vs.length ≤ sizeLine := by rw [← rel.length]; exact z
    have hl : (putK kvs k v).length ≤ sizeLine := by have := length_putK kvs k v; omega
    refine wpAny_setItem_pairs (hsz := hz) (kV_is ry) dd fun h' dd' hs => h _ ?_
    have he : ∃ q, h'.get? a = some q := let ⟨q, _, _, hq, _⟩ := dd'; ⟨q, hq⟩
    exact d_write I (by rw [e]; exact True.intro) hs he (dk_new hl hd (rel.put k rv) dd')
  · subst ey eH
    cases (show u = Value.ref b from ry)
    obtain ⟨z, hd, xs, rel, dd⟩ := dt_of I.hok e
    have hz : xs.length ≤ sizeLine := by rw [← Paired.length rel]; exact z
    have hl : (putK kvs k v).length ≤ sizeLine := by have := length_putK kvs k v; omega
    refine wpAny_setItem_heap (hsz := hz) (tupleKind_room_in1 hu) (key_of I.hok eb) dd fun h' dd' hs => h _ ?_
    obtain ⟨q, es, ep, hq, h2, h3, h4, _, h5⟩ := dd'
    refine d_write I (by rw [e]; exact True.intro) hs ⟨q, hq⟩ ⟨hl, hd, _, (rel.put k eb rv).keeps fun c ys ec => ?_, q, es, ep, hq, h2, h3, h4, h5⟩
    rw [upd_ne (ne_of ec e (fun z => nomatch z))]
    exact ec
end

section
variable {X : Cx} {pins : List (Addr × Obj)} {σ : St} {H : Hp} {s : Shared} {a : Addr} {kvs : List (Key × V)} {k : Key} {u : Value} {A : Around} {E : Value → Shared → Prop}
theorem d_len {Q : Value → Shared → Prop} (I : Inv X pins σ H s) (e : Rd H a (.dK kvs)) (h : ∀ t s', Inv X pins σ H s' → Q (.int kvs.length t) s') : wpAny (model X.prog X.w) A (call (.builtin "len") [.ref a]) Q E s := by
  obtain ⟨z, hd, vs, rel, dd⟩ := dk_rd I.hok e
  refine call_len_dict hd dd (by rw [← rel.length]; rw [sizeLine_eq] at z; omega) ?_
  rw [← rel.length]
  exact h _ _ (I.tok _)
end


def NoSl (i : Expr) : Prop := ∀ ov iv, subscripted i false ov iv = operate [ov, iv] (getItem ov iv)
theorem subD_of {prog : Program} {w : World} {A : Around} {E : Value → Shared → Prop} {s : Shared} {env : Env} {value slice : Expr} {pos : Pos} {T id : String} {Q : Value → Shared → Prop}
    (hl : typeLookup (.type T) "__getitem__" = pure (some (.builtin id))) (hs : NoSl slice)
    (h : wpAny (model prog w) A (eval value env) (fun o s₁ => wpAny (model prog w) A (eval slice env) (fun i s₂ => s₂.TypeIs o T ∧ wpAny (model prog w) A (getItem o i) Q E s₂) E s₁) E s) :
    wpAny (model prog w) A (eval (.Subscript value slice pos) env) Q E s := by
  refine Subscript_ (wpAny_mono h (fun o s₁ h₁ => wpAny_mono h₁ (fun i s₂ h₂ => ?_) fun _ _ x => x) fun _ _ x => x)
  obtain ⟨hT, h₂⟩ := h₂
  unfold subscriptTail
  refine wpAny_bind ?_
  rw [getitemInPython_of_ne hT.not_modules]
  refine wpAny_bind (wpAny_specialOf hT hl ?_)
  have fin : wpAny (model prog w) A (subscripted slice false o i) (fun r s₃ => wpAny (model prog w) A (letTemporaryGo value o r >>= fun _ => pure r) Q E s₃) E s₂ := by
    rw [hs o i]
    exact wpAny_operating (wpAny_mono h₂ (fun r s₃ h₃ => wpAny_bind (wpAny_letTemporaryGo (wpAny_pure h₃))) fun _ _ x => x)
  first
    | exact wpAny_pure (wpAny_bind fin)
    | exact wpAny_bind (wpAny_pure (wpAny_bind fin))
    | exact wpAny_bind fin

theorem dict_typeIs {X : Cx} {pins : List (Addr × Obj)} {σ : St} {H : Hp} {s : Shared} {a : Addr} {y : V} {o : Option V} (I : Inv X pins σ H s) (g : DGet H a y o) : s.TypeIs (.ref a) "dict" := by
  rcases g with ⟨kvs, k, e, _, _⟩ | ⟨kvs, k, b, e, _, _, _⟩
  · obtain ⟨_, _, vs, _, dd⟩ := dk_rd I.hok e
    exact dd.typeIs
  · obtain ⟨_, _, xs, _, dd⟩ := dt_rd I.hok e
    exact dd.typeIs

def tDGet (td ty : TE) : TE := fun σ H Q => td σ H fun x H1 => ty σ H1 fun y H2 => ∃ a v, x = .ref a ∧ DGet H2 a y (some v) ∧ Q v H2
def tDNotIn (ty td : TE) : TE := fun σ H Q => ty σ H fun y H1 => td σ H1 fun x H2 => ∃ a o, x = .ref a ∧ DGet H2 a y o ∧ Q (.bl (!o.isSome)) H2
def sDPut (td ty tv : TE) : TS := fun D σ H => tv σ H fun v H1 => td σ H1 fun x H2 => ty σ H2 fun y H3 => ∃ a H4, x = .ref a ∧ DPut H3 a y v H4 ∧ D.nx σ H4

section
variable {X : Cx} {o i e value : Expr} {pos pos' tpos : Pos} {td ty tv : TE}
theorem pe_dget (hu : X.A.units + 1 < cLine) (ho : PE X o td) (hi : PE X i ty) (hs : NoSl i) : PE X (.Subscript o i pos) (tDGet td ty) := by
  intro pins s σ H Q I h
  refine subD_of PySem.F.slot_dict_getitem.lookup hs (thn (ho pins s σ H _ I h) fun u s1 ⟨x, H1, I1, rx, q1⟩ => thn (hi pins s1 σ H1 _ I1 q1) fun iv s2 ⟨y, H2, I2, ry, a, v, ex, g, q2⟩ => ?_)
  subst ex
  obtain rfl : u = Value.ref a := rx
  exact ⟨dict_typeIs I2 g, d_getItem hu I2 g ry fun w' s3 I3 rw' => ⟨v, H2, I3, rw', q2⟩⟩
theorem pc_dnotin (hu : X.A.units + 1 < cLine) (hi : PE X i ty) (ho : PE X o td) : PC X .NotIn i o (tDNotIn ty td) := by
  intro pins s σ H Q I h
  refine thn (hi pins s σ H _ I h) fun iv s1 ⟨y, H1, I1, ry, q1⟩ => thn (ho pins s1 σ H1 _ I1 q1) fun u s2 ⟨x, H2, I2, rx, a, ov, ex, g, q2⟩ => ?_
  subst ex
  obtain rfl : u = Value.ref a := rx
  exact d_notIn hu I2 g ry fun s3 I3 => ⟨.bl (!ov.isSome), H2, I3, rfl, q2⟩
theorem ps_dput (hu : X.A.units + 1 < cLine) (ho : PE X o td) (hi : PE X i ty) (hv : PE X value tv) (hs : swapsWith value (some (.Subscript o i pos')) pos.line X.env = pure false) :
    PS X (.Assign [.Subscript o i pos'] value pos) (sDPut td ty tv) := by
  intro pins s σ H D I h
  refine wpAny_Assign_Subscript (thn (hv pins s σ H _ I h) fun r s1 ⟨v, H1, I1, rv, q1⟩ => thn (ho pins s1 σ H1 _ I1 q1) fun u s2 ⟨x, H2, I2, rx, q2⟩ => thn (hi pins s2 σ H2 _ I2 q2) fun iv s3 ⟨y, H3, I3, ry, a, H4, ex, g, q3⟩ => ?_) hs
  subst ex
  obtain rfl : u = Value.ref a := rx
  exact d_setItem hu I3 g ry rv fun s4 I4 => ⟨σ, H4, I4, q3⟩
end


theorem dt_empty {P : Program} {w : World} {H : Hp} (h : Heap) (hb : sysModules < h.objs.size) : ObjOk P w H (h.push { cls := .type "dict", data := .dict #[] }) h.objs.size (.dT []) :=
  ⟨Nat.zero_le _, beq_eq_false_iff_ne.mpr (Ne.symm (Nat.ne_of_lt hb)), [], .nil, _, #[], 0, Heap.get?_push_size _ rfl, ⟨rfl, rfl, rfl⟩, rfl, rfl, List.nodup_nil⟩
section
variable {X : Cx} {pos : Pos}
end

def tPairs : List (TE × TE) → St → Hp → (List (V × V) → Hp → Prop) → Prop
  | [], _, H, Q => Q [] H
  | (tk, tv) :: r, σ, H, Q => tk σ H fun x H1 => tv σ H1 fun y H2 => tPairs r σ H2 fun ps H3 => Q ((x, y) :: ps) H3
abbrev VV : List (V × V) → List (Value × Value) → Prop := Paired fun p q => RelV p.1 q.1 ∧ RelV p.2 q.2
def PPs (X : Cx) (pos : Pos) (keys : List (Option Expr)) (values : List Expr) (trs : List (TE × TE)) : Prop :=
  ∀ (pins : List (Addr × Obj)) (s : Shared) (σ : St) (H : Hp) (Q : List (V × V) → Hp → Prop), Inv X pins σ H s → tPairs trs σ H Q →
    wpAny (model X.prog X.w) X.A (evalPairs (pairTrees keys values X.env pos)) (fun vs s' => ∃ ps H', Inv X pins σ H' s' ∧ VV ps vs ∧ Q ps H') X.xe s
theorem pps_nil {X : Cx} {pos : Pos} : PPs X pos [] [] [] := fun pins s σ H Q I h => pairTrees_nil_walk ⟨[], H, I, .nil, h⟩
theorem pps_cons {X : Cx} {pos : Pos} {k v : Expr} {ks : List (Option Expr)} {vs : List Expr} {tk tv : TE} {trs : List (TE × TE)} (hk : PE X k tk) (hv : PE X v tv) (hr : PPs X pos ks vs trs) :
    PPs X pos (some k :: ks) (v :: vs) ((tk, tv) :: trs) := fun pins s σ H Q I h =>
  pairTrees_cons_walk (thn (hk pins s σ H _ I h) fun u s1 ⟨x, H1, I1, rx, q1⟩ => thn (hv pins s1 σ H1 _ I1 q1) fun w2 s2 ⟨y, H2, I2, ry, q2⟩ =>
    thn (hr pins s2 σ H2 _ I2 q2) fun ws s3 ⟨ps, H3, I3, rel, q3⟩ => ⟨(x, y) :: ps, H3, I3, .cons ⟨rx, ry⟩ rel, q3⟩)



structure M1 (X : Cx) (o : Expr) (m : Str) (apos : Pos) (e : Expr) (cpos : Pos) : Prop where
  base : attributeBase o m X.env (eval o X.env) = eval o X.env
  few : ((backTo cpos (starEach [e] X.env)).all (fun x => !x.1) && (backToKw cpos (keywordEach [] X.env)).all (fun x => x.1.isSome)
    && decide (([e] : List Expr).length + ([] : List Keyword).length + (if ([] : List Keyword).isEmpty then 0 else 1) < 30)) = true
  line : (apos.endLine == cpos.line) = true
  trees : backTo cpos (starEach [e] X.env) = [(false, eval e X.env)]
structure M2 (X : Cx) (o : Expr) (m : Str) (apos : Pos) (e f : Expr) (cpos : Pos) : Prop where
  base : attributeBase o m X.env (eval o X.env) = eval o X.env
  few : ((backTo cpos (starEach [e, f] X.env)).all (fun x => !x.1) && (backToKw cpos (keywordEach [] X.env)).all (fun x => x.1.isSome)
    && decide (([e, f] : List Expr).length + ([] : List Keyword).length + (if ([] : List Keyword).isEmpty then 0 else 1) < 30)) = true
  line : (apos.endLine == cpos.line) = true
  trees : backTo cpos (starEach [e, f] X.env) = [(false, eval e X.env), (false, eval f X.env)]


section
variable {X : Cx} {pins : List (Addr × Obj)} {σ : St} {H : Hp} {s : Shared} {a : Addr} {y d : V} {u r : Value} {o : Option V} {A : Around} {E : Value → Shared → Prop}
end

section
variable {X : Cx} {o e f : Expr} {apos cpos : Pos} {td ty tx : TE}
end

section
variable {X : Cx} {pins : List (Addr × Obj)} {σ : St} {H : Hp} {s : Shared} {a : Addr} {kvs : List (Key × V)} {A : Around} {E : Value → Shared → Prop}
end


section
variable {X : Cx} {pins : List (Addr × Obj)} {σ : St} {H : Hp} {s : Shared} {a : Addr} {y : V} {u : Value} {A : Around} {E : Value → Shared → Prop}
end
end L2

namespace HT
open PySem PyProof.Rows



section
open PySem.SeqAt
open PySem.AutoSeq1 (wpAny_loadPart')
open PySem.MeetsSeq PySem.MeetsSeq2 PySem.MeetsSeq3

end

section
variable {prog : Program} {w : World} {A : Around} {E : Value → Shared → Prop} {s : Shared}


theorem cat_tup {t b : Addr} {vs ws : List Value} {Q : Value → Shared → Prop} (ht : IsTup s.heap t vs.toArray) (hb : IsTup s.heap b ws.toArray) (hv : vs ≠ [])
    (h1 : ws = [] → Q (.ref t) s) (h2 : ws ≠ [] → Q (.ref s.heap.objs.size) { s with heap := s.heap.push { cls := .type "tuple", data := .seq (vs ++ ws).toArray } })
    (hsz : vs.length + ws.length ≤ sizeLine) : wpAny (model prog w) A (binaryOp .Add (.ref t) (.ref b)) Q E s := by
  obtain ⟨⟨cls, dd, data, sl⟩, ho, hc, n, hd⟩ := id ht
  obtain ⟨⟨cls2, dd2, data2, sl2⟩, ho2, hc2, n2, hd2⟩ := id hb
  simp only at hc hd hc2 hd2
  subst hc hd hc2 hd2
  have e : vs.toArray ++ ws.toArray = (vs ++ ws).toArray := by simp
  by_cases hw : ws = []
  · exact concat_meets ⟨_, ho, rfl⟩ ⟨_, ho2, rfl⟩ noFill_tuple_add seq_tuple_add PySem.F.slot_tuple_add PySem.F.entry_tuple_add (PySem.F.args_tuple_add_2 _ _)
      (tuple_addW1 t b vs.toArray ws.toArray n n2 dd dd2 sl sl2 (by simpa using hv) (by simp [hw])) ⟨ho, ho2, h1 hw⟩
  · refine concat_meets ⟨_, ho, rfl⟩ ⟨_, ho2, rfl⟩ noFill_tuple_add seq_tuple_add PySem.F.slot_tuple_add PySem.F.entry_tuple_add (PySem.F.args_tuple_add_2 _ _)
      (tuple_addW2 t b vs.toArray ws.toArray n n2 dd dd2 sl sl2 (by simpa using hv) (by simpa using hw) (by rw [List.size_toArray, List.size_toArray]; exact hsz)) ⟨ho, ho2, ?_⟩
    rw [e]
    exact h2 hw

def sIx (n d : Nat) : Option Int → Nat
  | none => d
  | some v => if v < 0 then (v + (n : Int)).toNat else min v.toNat n

end
end HT

namespace L2
open PySem PySem.Spec PyProof.Rows

abbrev TO := St → Hp → (Option Int → Hp → Prop) → Prop
def PO (X : Cx) (e : Option Expr) (t : TO) : Prop :=
  ∀ (pins : List (Addr × Obj)) (s : Shared) (σ : St) (H : Hp) (Q : Option Int → Hp → Prop), Inv X pins σ H s → t σ H Q →
    wpAny (model X.prog X.w) X.A (evalPart e X.env) (fun u s' => ∃ o H', Inv X pins σ H' s' ∧ IsPart u o ∧ Q o H') X.xe s


section
variable {X : Cx} {e : Expr} {te : TE} {lo hi : Option Expr} {tl th : TO} {pos p2 : Pos}


def SlR (X : Cx) (r : V → Option Int → Option Int → Hp → VK → Prop) : Prop :=
  ∀ (pins : List (Addr × Obj)) (s : Shared) (σ : St) (H : Hp) (x : V) (v vl vu : Value) (lo hi : Option Int) (sl : Addr) (Q : VK), Inv X pins σ H s → RelV x v → s.heap.IsSliceOf sl vl vu .none → IsPart vl lo → IsPart vu hi → r x lo hi H Q →
    ∃ T id, typeLookup (.type T) "__getitem__" = pure (some (.builtin id)) ∧ s.TypeIs v T ∧ wpAny (model X.prog X.w) X.A (getItem v (.ref sl)) (EP X pins σ Q) X.xe s
theorem SlR.or {r r' : V → Option Int → Option Int → Hp → VK → Prop} (h : SlR X r) (h' : SlR X r') : SlR X (fun x lo hi H Q => r x lo hi H Q ∨ r' x lo hi H Q) := by
  intro pins s σ H x v vl vu lo hi sl Q I rx hs pl pu q
  rcases q with q | q
  · exact h pins s σ H x v vl vu lo hi sl Q I rx hs pl pu q
  · exact h' pins s σ H x v vl vu lo hi sl Q I rx hs pl pu q

def cutV (xs : List V) (lo hi : Option Int) : List V := (xs.drop (HT.sIx xs.length 0 lo)).take (HT.sIx xs.length xs.length hi - HT.sIx xs.length 0 lo)

def rCatT (K : PySem.W.Frag) : R2 := fun x y H Q => ∃ a b xs ys, x = .ref a ∧ y = .ref b ∧ SqT K H a xs ∧ SqT K H b ys ∧ xs ≠ [] ∧ xs.length + ys.length ≤ sizeLine ∧
  (ys = [] → Q (.ref a) H) ∧ (ys ≠ [] → ∀ p, H p = none → Q (.ref p) (upd H p (.tup (xs ++ ys))))
theorem Vals.nil_iff {xs : List V} {us : List Value} (r : Vals xs us) : us = [] ↔ xs = [] := by
  cases r with
  | nil => simp
  | cons _ _ => simp
theorem op_catT : OpR X (binaryOp .Add) (rCatT X.K) := by
  intro pins s σ H x y v u Q I rx ry h
  obtain ⟨a, b, xs, ys, rfl, rfl, ha, hb, hx, hz, q1, q2⟩ := h
  cases rx
  cases ry
  obtain ⟨its, r1, p1, _⟩ := I.tuple ha
  obtain ⟨its2, r2, p2, _⟩ := I.tuple hb
  refine HT.cat_tup p1 p2 (fun z => hx (r1.nil_iff.mp z)) (fun z => ⟨.ref a, H, I, rfl, q1 (r2.nil_iff.mp z)⟩) (fun z => ?_) (by rw [← r1.length, ← r2.length]; exact hz)
  refine ⟨.ref s.heap.objs.size, _, I.laid (t' := s.toks) (o := .tup (xs ++ ys)) (fun b ob q => Heap.get?_push_of_some _ q) (Nat.le_refl _) ?_, rfl, q2 (fun w => z (r2.nil_iff.mpr w)) _ (I.hok.fresh (Nat.le_refl _))⟩
  exact ⟨by rw [List.length_append]; exact hz, _, r1.append r2, IsTup.new _ _⟩
end
end L2

namespace L2
open PySem PySem.Spec PyProof.Rows

def ixN (n : Nat) (i : Int) : Option Nat := if 0 ≤ i then (if i < n then some i.toNat else none) else if -(n : Int) ≤ i then some (i + n).toNat else none
def atI {α : Type} (xs : List α) (i : Int) : Option α := (ixN xs.length i).bind fun j => xs[j]?
theorem ixN_seq {n : Nat} {i : Int} {j : Nat} (h : ixN n i = some j) : seqIndex? i n = some j ∧ j < n ∧ -(n : Int) ≤ i ∧ i < n := by
  unfold ixN at h
  by_cases h0 : 0 ≤ i
  · rw [if_pos h0] at h
    by_cases h1 : i < n
    · rw [if_pos h1] at h
      have e : i.toNat = j := Option.some.inj h
      exact ⟨by rw [seqIndex_of h0 h1, e], by omega, by omega, h1⟩
    · rw [if_neg h1] at h; cases h
  · rw [if_neg h0] at h
    by_cases h1 : -(n : Int) ≤ i
    · rw [if_pos h1] at h
      have e : (i + n).toNat = j := Option.some.inj h
      exact ⟨by rw [seqIndex_neg (by omega) h1, e], by omega, h1, by omega⟩
    · rw [if_neg h1] at h; cases h
theorem atI_get {α : Type} {xs : List α} {i : Int} {v : α} (h : atI xs i = some v) : ∃ j, seqIndex? i xs.length = some j ∧ xs[j]? = some v ∧ j < xs.length ∧ -(xs.length : Int) ≤ i ∧ i < xs.length := by
  unfold atI at h
  cases e : ixN xs.length i with
  | none => rw [e] at h; cases h
  | some j =>
    rw [e] at h
    obtain ⟨h1, h2, h3, h4⟩ := ixN_seq e
    exact ⟨j, h1, h, h2, h3, h4⟩

def PlainIx (b : Expr) : Prop := ∀ o i, subscripted b false o i = operate [o, i] (getItem o i)
def IxR (X : Cx) (r : R2) : Prop :=
  ∀ (value slice : Expr) (pins : List (Addr × Obj)) (s : Shared) (σ : St) (H : Hp) (x y : V) (v u : Value) (Q : VK), Inv X pins σ H s → RelV x v → RelV y u → r x y H Q →
    subscripted slice false v u = operate [v, u] (getItem v u) → wpAny (model X.prog X.w) X.A (subscriptTail value slice v u) (EP X pins σ Q) X.xe s
def MtR (X : Cx) (id : String) (r : V → List V → Hp → VK → Prop) : Prop :=
  ∀ (pins : List (Addr × Obj)) (s : Shared) (σ : St) (H : Hp) (x : V) (xs : List V) (v : Value) (us : List Value) (Q : VK), Inv X pins σ H s → RelV x v → Vals xs us → r x xs H Q →
    wpAny (model X.prog X.w) X.A (call (.builtin id) (v :: us)) (EP X pins σ Q) X.xe s
section
variable {X : Cx} {a b : Expr} {ta tb : TE} {pos : Pos}
theorem IxR.or {r r' : R2} (h : IxR X r) (h' : IxR X r') : IxR X (fun x y H Q => r x y H Q ∨ r' x y H Q) := by
  intro value slice pins s σ H x y v u Q I rx ry q hs
  rcases q with q | q
  · exact h value slice pins s σ H x y v u Q I rx ry q hs
  · exact h' value slice pins s σ H x y v u Q I rx ry q hs
theorem MtR.or {id : String} {r r' : V → List V → Hp → VK → Prop} (h : MtR X id r) (h' : MtR X id r') : MtR X id (fun x xs H Q => r x xs H Q ∨ r' x xs H Q) := by
  intro pins s σ H x xs v us Q I rx rs q
  rcases q with q | q
  · exact h pins s σ H x xs v us Q I rx rs q
  · exact h' pins s σ H x xs v us Q I rx rs q
theorem pe_ix {r : R2} (hr : IxR X r) (ha : PE X a ta) (hb : PE X b tb) (hs : PlainIx b) : PE X (.Subscript a b pos) (tOp r ta tb) := by
  intro pins s σ H Q I h
  exact Subscript_ (binT ha hb I h fun v u s2 x y H2 I2 rx ry q => hr a b pins s2 σ H2 x y v u Q I2 rx ry q (hs _ _))

def rIxL (K : PySem.W.Frag) : R2 := fun x y H Q => ∃ p xs i v, x = .ref p ∧ y = .int i ∧ SqL K H p xs ∧ atI xs i = some v ∧ Q v H
def rIxT (K : PySem.W.Frag) : R2 := fun x y H Q => ∃ p xs i v, x = .ref p ∧ y = .int i ∧ SqT K H p xs ∧ atI xs i = some v ∧ Q v H
def rIxS : R2 := fun x y H Q => ∃ z i c, x = .str z ∧ y = .int i ∧ z.length ≤ sizeLine ∧ atI z.cps.toList i = some c ∧ Q (.str ⟨#[c]⟩) H
theorem ix_list : IxR X (rIxL X.K) := by
  intro value slice pins s σ H x y v u Q I rx ry h hs
  obtain ⟨p, xs, i, z, rfl, rfl, hq, he, q⟩ := h
  cases rx
  obtain ⟨t, rfl⟩ := ry
  obtain ⟨its, r, pl, hz⟩ := I.list hq
  obtain ⟨j, h1, h2, h3, h4, h5⟩ := atI_get he
  obtain ⟨w, ew, rw'⟩ := r.get h2
  have hl := r.length
  have hn := line63
  have fin : EP X pins σ Q w s := ⟨z, H, I, rw', q⟩
  by_cases h0 : 0 ≤ i
  · have hj : i.toNat = j := by
      rw [seqIndex_of h0 h5] at h1
      exact Option.some.inj h1
    exact item_listR pl.isList h0 (by omega) (by rw [hj]; simpa using ew) fin hs
  · have hj : (i + (its.toArray.size : Int)).toNat = j := by
      rw [seqIndex_neg (by omega) h4] at h1
      rw [List.size_toArray, ← hl]
      exact Option.some.inj h1
    exact subscriptTail_builtinR (x := w) pl.isList.typeIs slot_list_getitem.lookup
      (wpAny_getItem_list_neg (Q := fun r s' => r = w ∧ EP X pins σ Q r s') pl.isList (by omega) (by rw [List.size_toArray] <;> omega) (by omega) (by rw [hj]; simpa using ew) ⟨rfl, fin⟩) hs
theorem ix_tup : IxR X (rIxT X.K) := by
  intro value slice pins s σ H x y v u Q I rx ry h hs
  obtain ⟨p, xs, i, z, rfl, rfl, hq, he, q⟩ := h
  cases rx
  obtain ⟨t, rfl⟩ := ry
  obtain ⟨its, r, pl, hz⟩ := I.tuple hq
  obtain ⟨j, h1, h2, h3, h4, h5⟩ := atI_get he
  obtain ⟨w, ew, rw'⟩ := r.get h2
  have hl := r.length
  have hn := line63
  have fin : EP X pins σ Q w s := ⟨z, H, I, rw', q⟩
  exact subscriptTail_builtinR (x := w) pl.typeIs slot_tuple_getitem.lookup
    (getItem_tuple (j := j) (Q := fun r s' => r = w ∧ EP X pins σ Q r s') pl (by omega) (by omega) (by rw [List.size_toArray, ← hl]; exact h1) (by simpa using ew) ⟨rfl, fin⟩) hs
theorem ix_str : IxR X rIxS := by
  intro value slice pins s σ H x y v u Q I rx ry h hs
  obtain ⟨z, i, c, rfl, rfl, hz, he, q⟩ := h
  obtain ⟨t, rfl⟩ := rx
  obtain ⟨t', rfl⟩ := ry
  obtain ⟨j, h1, h2, h3, h4, h5⟩ := atI_get he
  have hl : z.cps.toList.length = z.length := by simp [Str.length]
  rw [hl] at h1 h4 h5
  have hn := line63
  exact tail_any (typeIs_str s z t) slot_str_getitem.lookup (getItem_str (c := c) (by
    have e1 : decide (i < -(2 ^ 63 : Int)) = false := decide_eq_false (by omega)
    have e2 : decide (i ≥ 2 ^ 63) = false := decide_eq_false (by omega)
    rw [e1, e2, Bool.or_false]) (by rw [h1]; simpa using h2) ⟨.str ⟨#[c]⟩, H, I.tok _, ⟨_, rfl⟩, q⟩) hs
def rIx (K : PySem.W.Frag) : R2 := fun x y H Q => rIxL K x y H Q ∨ rIxT K x y H Q ∨ rIxS x y H Q
theorem ix_seq : IxR X (rIx X.K) := ix_list.or (ix_tup.or ix_str)

theorem mapSeq_set (its : List Value) (n j : Nat) (u : Value) : Obj.mapSeq (·.setIfInBounds j u) { cls := .type "list", data := .seq its.toArray n } = { cls := .type "list", data := .seq (its.set j u).toArray n } := by
  simp [Obj.mapSeq]
theorem Inv.lst {pins : List (Addr × Obj)} {σ : St} {H : Hp} {s : Shared} {p : Addr} {xs : List V} (I : Inv X pins σ H s) (h : H p = some (.lst xs)) :
    ∃ (its : List Value) (n : Nat), Vals xs its ∧ s.heap.get? p = some { cls := .type "list", data := .seq its.toArray n } ∧ xs.length ≤ sizeLine := by
  obtain ⟨z, its, n, r, e⟩ := I.hok p _ h
  exact ⟨its, n, r, e, z⟩
theorem Inv.lstUpd {pins : List (Addr × Obj)} {σ : St} {H : Hp} {s : Shared} {p : Addr} {xs ys : List V} {its its' : List Value} {n n' : Nat} {f : Obj → Obj} (I : Inv X pins σ H s) (h : H p = some (.lst xs))
    (ho : s.heap.get? p = some { cls := .type "list", data := .seq its.toArray n }) (hf : f { cls := .type "list", data := .seq its.toArray n } = { cls := .type "list", data := .seq its'.toArray n' }) (r : Vals ys its') (hz : ys.length ≤ sizeLine) (t : Nat) :
    Inv X pins σ (upd H p (.lst ys)) { s with heap := s.heap.update p f, toks := t } := by
  have e : (s.heap.update p f).get? p = some { cls := .type "list", data := .seq its'.toArray n' } := by
    rw [Heap.get?_update_self f ho (by rw [hf] <;> rfl), hf]
  refine I.write (x := p) (e := p) (by rw [h]; trivial) (.inl rfl) (fun b u hb q => (Heap.get?_update_other _ _ (Ne.symm hb)).trans q) ⟨_, e⟩ ?_
  exact ⟨hz, its', n', r, e⟩
def rSetL : V → V → V → Hp → (Hp → Prop) → Prop := fun o i v H Q => ∃ p xs k j, o = .ref p ∧ i = .int k ∧ H p = some (.lst xs) ∧ ixN xs.length k = some j ∧ Q (upd H p (.lst (xs.set j v)))
theorem set_list : PSet X rSetL := by
  intro pins s σ H o i v ov iv u Q I ro ri rv h
  obtain ⟨p, xs, k, j, rfl, rfl, hp, hj, q⟩ := h
  cases ro
  obtain ⟨t, rfl⟩ := ri
  obtain ⟨its, n, r, ho, hz⟩ := I.lst hp
  obtain ⟨h1, h2, h3, h4⟩ := ixN_seq hj
  have hl := r.length
  have hn := line63
  have I' : Inv X pins σ (upd H p (.lst (xs.set j v))) { s with heap := s.heap.update p (Obj.mapSeq (·.setIfInBounds j u)) } :=
    I.lstUpd hp ho (mapSeq_set its n j u) (r.set rv j) (by rw [List.length_set]; exact hz) s.toks
  by_cases h0 : 0 ≤ k
  · have hk : k.toNat = j := by
      rw [seqIndex_of h0 h4] at h1
      exact Option.some.inj h1
    exact PySem.W.ki_setAt ho h0 (by omega) (by rw [List.size_toArray, ← hl]; exact h4) (by rw [hk]; exact ⟨_, I', q⟩)
  · have hk : (k + (its.toArray.size : Int)).toNat = j := by
      rw [seqIndex_neg (by omega) h3] at h1
      rw [List.size_toArray, ← hl]
      exact Option.some.inj h1
    exact PySem.W.ki_setBack ho (by omega) (by rw [List.size_toArray, ← hl]; exact h3) (by omega) (by rw [hk]; exact ⟨_, I', q⟩)



theorem call_len_seq : CallR X (.builtin "len") (fun xs H Q => ∃ p ys, xs = [.ref p] ∧ (SqL X.K H p ys ∨ SqT X.K H p ys) ∧ Q (.int ys.length) H) := by
  intro pins s σ H xs us Q I r h
  obtain ⟨p, ys, rfl, hq, q⟩ := h
  obtain ⟨u, rfl, rx⟩ := vals1 r
  cases rx
  have hn := line63
  rcases hq with hq | hq
  · obtain ⟨its, r', pl, hz⟩ := I.list hq
    have hlen := r'.length
    exact Calls.call_len_list pl.isList (by simp only [List.size_toArray] <;> omega) ⟨.int ys.length, H, I.tok _, ⟨s.toks + 1, by rw [List.size_toArray, hlen]⟩, q⟩
  · obtain ⟨its, r', pl, hz⟩ := I.tuple hq
    have hlen := r'.length
    exact len_tuple pl (by simp only [List.size_toArray] <;> omega) ⟨.int ys.length, H, I.tok _, ⟨s.toks + 1, by rw [List.size_toArray, hlen]⟩, q⟩
theorem call_len_str : CallR X (.builtin "len") (fun xs H Q => ∃ z, xs = [.str z] ∧ z.length ≤ sizeLine ∧ Q (.int z.length) H) := by
  intro pins s σ H xs us Q I r h
  obtain ⟨z, rfl, hz, q⟩ := h
  obtain ⟨u, rfl, t, rfl⟩ := vals1 r
  have hn := line63
  exact len_str (by omega) ⟨.int z.length, H, I.tok _, ⟨_, rfl⟩, q⟩
theorem CallR.or {f : Value} {r r' : List V → Hp → VK → Prop} (h : CallR X f r) (h' : CallR X f r') : CallR X f (fun xs H Q => r xs H Q ∨ r' xs H Q) := by
  intro pins s σ H xs us Q I rs q
  rcases q with q | q
  · exact h pins s σ H xs us Q I rs q
  · exact h' pins s σ H xs us Q I rs q
theorem call_tuple_of : CallR X (.type "tuple") (fun xs H Q => ∃ p ys, xs = [.ref p] ∧ ((SqL X.K H p ys ∧ ∀ l, H l = none → Q (.ref l) (upd H l (.tup ys))) ∨ (SqT X.K H p ys ∧ Q (.ref p) H))) := by
  intro pins s σ H xs us Q I r h
  obtain ⟨p, ys, rfl, h⟩ := h
  obtain ⟨u, rfl, rx⟩ := vals1 r
  cases rx
  rcases h with ⟨hq, q⟩ | ⟨hq, q⟩
  · obtain ⟨its, r', pl, hz⟩ := I.list hq
    have hlen := r'.length
    refine call_tuple_list pl.isList (fun h' kp => ?_) (by simp only [List.size_toArray] <;> omega)
    have I1 : Inv X pins σ H { s with heap := h' } := I.kept (t' := s.toks) kp
    have I2 : Inv X pins σ (upd H h'.objs.size (.tup ys)) { s with heap := h'.push { cls := .type "tuple", data := .seq its.toArray } } :=
      I1.laid (t' := s.toks) (fun b o e => Heap.get?_push_of_some _ e) (Nat.le_refl _) (show ObjOk X.prog X.w _ _ _ (.tup ys) from ⟨hz, its, r', IsTup.new _ _⟩)
    exact ⟨.ref h'.objs.size, _, I2, rfl, q _ (I1.hok.fresh (Nat.le_refl _))⟩
  · obtain ⟨its, r', pl, hz⟩ := I.tuple hq
    exact call_tuple_same pl ⟨.ref p, H, I, rfl, q⟩

def tyV (K : PySem.W.Frag) (T : String) (x : V) (H : Hp) : Prop := match x with
  | .str _ => T = "str"
  | .int _ => T = "int"
  | .ref p => (T = "list" ∧ ∃ xs, SqL K H p xs) ∨ (T = "tuple" ∧ ∃ o, K.lookup p = some o ∧ o.cls = .type "tuple" ∧ o.dict = none) ∨
      (T = "dict" ∧ ((∃ kvs, H p = some (.dK kvs)) ∨ ∃ kvs, H p = some (.dT kvs))) ∨ (T = "set" ∧ ∃ S n, H p = some (.set S n))
  | _ => False
theorem tyV_is {pins : List (Addr × Obj)} {σ : St} {H : Hp} {s : Shared} {T : String} {x : V} {v : Value} (I : Inv X pins σ H s) (r : RelV x v) (ty : tyV X.K T x H) :
    s.TypeIs v T ∧ ∀ a, v = .ref a → ∃ ob, s.heap.get? a = some ob ∧ ob.dict = none := by
  cases x with
  | str z =>
    obtain ⟨t, rfl⟩ := r
    cases (show T = "str" from ty)
    exact ⟨typeIs_str s z t, fun _ e => nomatch e⟩
  | int i =>
    obtain ⟨t, rfl⟩ := r
    cases (show T = "int" from ty)
    exact ⟨typeIs_int s i t, fun _ e => nomatch e⟩
  | ref p =>
    cases r
    rcases ty with ⟨rfl, xs, hq⟩ | ⟨rfl, o, hk, hc, hd⟩ | ⟨rfl, hk⟩ | ⟨rfl, S, n, hk⟩
    · obtain ⟨its, _, pl, _⟩ := I.list hq
      refine ⟨pl.isList.typeIs, fun a e => ?_⟩
      cases e
      obtain ⟨o, n, e, c, hd, _⟩ := pl
      exact ⟨o, e, hd⟩
    · refine ⟨⟨o, I.kIn p o hk, hc⟩, fun a e => ?_⟩
      cases e
      exact ⟨o, I.kIn _ o hk, hd⟩
    · have z : ∃ o, s.heap.get? p = some o ∧ o.ExactDict := by
        rcases hk with ⟨kvs, hk⟩ | ⟨kvs, hk⟩
        · obtain ⟨_, _, _, _, o, _, _, e, ex, _⟩ := I.hok p _ hk
          exact ⟨o, e, ex⟩
        · obtain ⟨_, _, _, _, o, _, _, e, ex, _⟩ := I.hok p _ hk
          exact ⟨o, e, ex⟩
      obtain ⟨o, e, ex⟩ := z
      refine ⟨⟨o, e, ex.1⟩, fun a e2 => ?_⟩
      cases e2
      exact ⟨o, e, ex.2.1⟩
    · obtain ⟨o, _, _, _, e, ex, _⟩ := I.hok p _ hk
      refine ⟨⟨o, e, ex.1⟩, fun a e2 => ?_⟩
      cases e2
      exact ⟨o, e, ex.2.1⟩
  | _ => exact False.elim ty
def tBM (K : PySem.W.Frag) (T : String) (r : V → List V → Hp → VK → Prop) (to : TE) (t : TA) : TE := fun σ H Q => to σ H fun x H1 => tyV K T x H1 ∧ t σ H1 fun xs H2 => r x xs H2 Q
variable {o e : Expr} {es : List Expr} {to : TE} {t : TA} {name : Str} {apos cpos : Pos} {T id : String} {r : V → List V → Hp → VK → Prop}
theorem pe_bm (pa : PlainAttrs T) (slot : Slot T name id) (hty : typeOf (.builtin id) = pure (.type "method_descriptor")) (hm : MtR X id r) (ho : PE X o to) (ha : PA X (e :: es) t)
    (hbase : attributeBase o name X.env (eval o X.env) = eval o X.env := by rfl)
    (hfew : ((backTo cpos (starEach (e :: es) X.env)).all (fun x => !x.1) && (backToKw cpos (keywordEach [] X.env)).all (fun x => x.1.isSome)
      && decide ((e :: es).length + ([] : List Keyword).length + (if ([] : List Keyword).isEmpty then 0 else 1) < 30)) = true := by rfl)
    (hline : (apos.endLine == cpos.line) = true := by rfl) (hs : starEach (e :: es) X.env = (false, eval e X.env) :: starEach es X.env := by rfl) (hplain : (backTo cpos (starEach es X.env)).any (·.1) = false := by rfl) :
    PE X (.Call (.Attribute o name apos) (e :: es) [] cpos) (tBM X.K T r to t) := by
  intro pins s σ H Q I h
  refine wpAny_Call_method_late hbase hfew hline rfl (thn (ho pins s σ H _ I h) fun v s1 ⟨x, H1, I1, r1, ty, q1⟩ => ?_)
  obtain ⟨h1, h2⟩ := tyV_is I1 r1 ty
  refine ⟨T, id, pa, slot, hty, h1, h2, ?_⟩
  have hA := ha cpos pins s1 σ H1 _ I1 q1
  rw [hs] at hA ⊢
  refine Calls.callWith_builtin (by show (false || (backTo cpos (starEach es X.env)).any (·.1)) = false; rw [hplain] <;> rfl) (Calls.evalArgs_plain ?_)
  exact thn hA fun us s2 ⟨vs, H2, I2, r2, q2⟩ => hm pins s2 σ H2 x vs v us Q I2 r1 r2 q2
/- xs.append(e), list.index on a module's tuple .. are MtR facts of 06m -/
end
end L2

namespace L2
open PySem PySem.Spec PyProof.Rows

def MtM (X : Cx) (id : String) (r : V → List V → Hp → VK → Prop) : Prop :=
  ∀ (pins : List (Addr × Obj)) (s : Shared) (σ : St) (H : Hp) (x : V) (xs : List V) (v : Value) (us : List Value) (Q : VK), Inv X pins σ H s → RelV x v → Vals xs us → r x xs H Q →
    wpAny (model X.prog X.w) X.A (call (.builtin id) (v :: us)) (EP X pins σ Q) X.xe s

theorem Vals.one : ∀ {x : V} {us : List Value}, Vals [x] us → ∃ u, us = [u] ∧ RelV x u
  | _, _, .cons r .nil => ⟨_, rfl, r⟩
theorem Vals.zero : ∀ {us : List Value}, Vals [] us → us = []
  | _, .nil => rfl
theorem Vals.dropLast {xs : List V} {us : List Value} (h : Vals xs us) : Vals xs.dropLast us.dropLast := by
  induction h with
  | nil => exact .nil
  | cons r t ih =>
    cases t with
    | nil => exact .nil
    | cons q t' => exact .cons r ih
theorem Vals.eraseIdx : ∀ {xs : List V} {us : List Value} (i : Nat), Vals xs us → Vals (xs.eraseIdx i) (us.eraseIdx i)
  | _, _, _, .nil => .nil
  | _, _, 0, .cons _ t => t
  | _, _, i + 1, .cons r t => .cons r (Vals.eraseIdx i t)
theorem Vals.reverse {xs : List V} {us : List Value} (h : Vals xs us) : Vals xs.reverse us.reverse := by
  induction h with
  | nil => exact .nil
  | cons r t ih => rw [List.reverse_cons, List.reverse_cons]; exact Vals.append ih (.cons r .nil)
theorem Vals.rep {xs : List V} {us : List Value} (h : Vals xs us) : ∀ k : Nat, Vals (List.replicate k xs).flatten (List.replicate k us).flatten
  | 0 => .nil
  | k + 1 => by
    rw [List.replicate_succ, List.replicate_succ, List.flatten_cons, List.flatten_cons]
    exact Vals.append h (Vals.rep h k)
theorem foldl_rep (its : List Value) : ∀ (k : Nat) (acc : List Value),
    List.foldl (fun x1 x2 => x1 ++ x2) acc.toArray (List.replicate k its.toArray) = (acc ++ (List.replicate k its).flatten).toArray
  | 0, acc => by simp
  | k + 1, acc => by
    have e : acc.toArray ++ its.toArray = (acc ++ its).toArray := by simp
    have e2 : (acc ++ its) ++ (List.replicate k its).flatten = acc ++ (List.replicate (k + 1) its).flatten := by
      rw [List.replicate_succ, List.flatten_cons, List.append_assoc]
    rw [← e2, ← foldl_rep its k (acc ++ its), ← e, List.replicate_succ, List.foldl_cons]

section
variable {X : Cx} {pins : List (Addr × Obj)} {σ : St} {H : Hp} {s : Shared} {l b : Addr} {xs ys zs : List V}

theorem Inv.lset {its its' : List Value} {n : Nat} {f : Array Value → Array Value} {t' : Nat} (I : Inv X pins σ H s) (hH : H l = some (.lst xs))
    (e : s.heap.get? l = some { cls := .type "list", data := .seq its.toArray n }) (hf : f its.toArray = its'.toArray) (hv : Vals ys its') (hz : ys.length ≤ sizeLine) :
    Inv X pins σ (upd H l (.lst ys)) { s with heap := s.heap.update l (Obj.mapSeq f), toks := t' } := by
  have q := PySem.IsL.update e f
  rw [hf] at q
  refine I.write (x := l) (e := l) (by rw [hH]; exact trivial) (.inl rfl) (fun b' u hb hu => (Heap.get?_update_other s.heap (Obj.mapSeq f) (Ne.symm hb)).trans hu) ⟨_, q⟩ ?_
  exact ⟨hz, its', _, hv, q⟩
theorem Inv.lnew {its : List Value} {t' : Nat} (I : Inv X pins σ H s) (hv : Vals ys its) (hz : ys.length ≤ sizeLine) :
    Inv X pins σ (upd H s.heap.objs.size (.lst ys)) { s with heap := s.heap.push { cls := .type "list", data := .seq its.toArray }, toks := t' } :=
  I.laid (fun _ _ q => Heap.get?_push_of_some _ q) (Nat.le_refl _) ⟨hz, its, 0, hv, Heap.get?_push_size _ rfl⟩
theorem Inv.fresh (I : Inv X pins σ H s) : H s.heap.objs.size = none := I.hok.fresh (Nat.le_refl _)
theorem Inv.lstM (I : Inv X pins σ H s) (hH : H l = some (.lst xs)) : xs.length ≤ sizeLine ∧ ∃ (its : List Value) (n : Nat), Vals xs its ∧ xs.length = its.length ∧ s.heap.get? l = some { cls := .type "list", data := .seq its.toArray n } := by
  obtain ⟨z, its, n, r, e⟩ := I.hok l _ hH
  exact ⟨z, its, n, r, r.length, e⟩

theorem notLongL {n : Nat} (h : n ≤ sizeLine) : Builtin.List.listTooLong n = false := by
  unfold Builtin.List.listTooLong
  exact decide_eq_false (by omega)
end

section
variable {X : Cx}

def rAppend : V → List V → Hp → VK → Prop := fun x vs H Q => ∃ l xs y, x = .ref l ∧ vs = [y] ∧ H l = some (.lst xs) ∧ xs.length < sizeLine ∧ Q .non (upd H l (.lst (xs ++ [y])))
theorem mt_append : MtM X "list.append" rAppend := by
  intro pins s σ H x vs v us Q I rx rv h
  obtain ⟨l, xs, y, rfl, rfl, hH, hz, q⟩ := h
  cases rx
  obtain ⟨u, rfl, ru⟩ := rv.one
  obtain ⟨z, its, n, r, hl, e⟩ := I.lstM hH
  refine call_meets F.slot_list_append ⟨_, e, rfl⟩ F.entry_list_append (F.args_list_append_2 _ _) (PySem.list_append l its.toArray n u (by rw [List.size_toArray]; omega)) ⟨e, ?_⟩
  refine ⟨.non, _, I.lset (its' := its ++ [u]) hH e (by simp) (r.append (.cons ru .nil)) ?_, rfl, q⟩
  rw [List.length_append, List.length_singleton]
  omega






theorem len_rep {α : Type} (xs : List α) (k : Nat) : (List.replicate k xs).flatten.length = k * xs.length := by
  induction k with
  | zero => simp
  | succ k ih => rw [List.replicate_succ, List.flatten_cons, List.length_append, ih, Nat.succ_mul, Nat.add_comm]

end

section
variable {prog : Program} {w : World} {A : Around} {E : Value → Shared → Prop} {s : Shared}
theorem bounds_run {a c n : Nat} (hac : a ≤ c) (hc : c ≤ n) : sliceBounds (some (a : Int)) (some (c : Int)) none n = ((a : Int), (c : Int), 1) := by
  simp only [sliceBounds, Option.getD_none]
  have h1 : ¬ ((a : Int) < 0) := by omega
  have h2 : ¬ ((c : Int) < 0) := by omega
  simp only [h1, h2, if_false, show (1 : Int) > 0 by decide, if_true]
  congr 1
  · omega
  · congr 1; omega
set_option maxRecDepth 100000 in
theorem setItem_slice {l b sl : Addr} {items new : Array Value} {n n2 : Nat} {vl vu : Value} {a c : Nat} {Q : Unit → Shared → Prop}
    (e : s.heap.get? l = some { cls := .type "list", data := .seq items n }) (e2 : s.heap.get? b = some { cls := .type "list", data := .seq new n2 }) (hne : l ≠ b)
    (hs : s.heap.IsSliceOf sl vl vu .none) (pl : IsPart vl (some (a : Int))) (pu : IsPart vu (some (c : Int))) (hac : a ≤ c) (hc : c ≤ items.size)
    (hsz : items.size + new.size ≤ sizeLine) (h : Q () { s with heap := s.heap.update l (Obj.mapSeq fun xs => xs.extract 0 a ++ new ++ xs.extract c xs.size) }) :
    wpAny (model prog w) A (setItem (.ref l) (.ref sl) (.ref b)) Q E s := by
  have hl : s.heap.IsList l items := PySem.IsL.isList e
  have hb : s.heap.IsList b new := PySem.IsL.isList e2
  obtain ⟨os, hos, hcs, hds⟩ := id hs
  have hTs : s.TypeIs (.ref sl) "slice" := ⟨os, hos, hcs⟩
  have hstep : ¬ ((rawPart none == rawInt 0) = true) := Bool.false_ne_true
  have hsame : Builtin.List.listSameRef (.ref l) (.ref b) = false := by
    unfold Builtin.List.listSameRef
    exact beq_eq_false_iff_ne.mpr hne
  have hmax : (max (a : Int) (c : Int)).toNat = c := by omega
  have hz' : ((fun xs : Array Value => xs.extract 0 a ++ new ++ xs.extract c xs.size) items).size ≤ sizeLine + 1 := by
    simp only [Array.size_append, Array.size_extract]
    omega
  unfold setItem
  try with_reducible refine wpAny_holding ?_
  first | refine wpAny_bind (wpAny_pure ?_) | skip
  refine wpAny_bind (wpAny_sequenceKey hl.typeIs (by decide) ?_)
  refine wpAny_bind (wpAny_callSpecial?_slot (name := Str.ofString "__setitem__") hl.typeIs slot_list_setitem
    (wpAny_call_entry slot_list_setitem hl.typeIs entry_list_setitem ?_ (args_list_setitem _ _ _)))
  show wpAny _ _ (Builtin.List.listSubscript? (.ref sl) >>= _) _ _ s
  refine wpAny_bind ?_
  unfold Builtin.List.listSubscript?
  refine wpAny_bind (wpAny_specialOf hTs slice_no_index ?_)
  simp only [Option.isNone_none, if_true]
  refine wpAny_pure ?_
  show wpAny _ _ (typeOf (.ref sl) >>= _) _ _ s
  refine wpAny_bind (wpAny_typeOf hTs ?_)
  first
    | rw [if_neg (by decide)]
    | refine PySem.W.KFB.if_not (by decide) ?_
  rw [listSliceParts_eq]
  refine wpAny_bind (wpAny_bind (wpAny_field hos hds (x := .none) rfl (wpAny_bind (wpAny_listPart .none ?_))))
  rw [if_neg hstep]
  refine wpAny_bind (wpAny_field hos hds (x := vl) rfl (wpAny_bind (wpAny_listPart pl ?_)))
  refine wpAny_bind (wpAny_field hos hds (x := vu) rfl (wpAny_bind (wpAny_listPart pu (wpAny_pure ?_))))
  first
    | simp only [hsame, Bool.false_eq_true, if_false]
    | refine PySem.W.KFB.if_not hsame ?_
    | (dsimp only
       rw [if_neg (by rw [hsame]; exact Bool.false_ne_true)])
  refine wpAny_bind (m := Builtin.List.listAllItems (.ref b) "must assign iterable to extended slice") ?_
  unfold Builtin.List.listAllItems
  refine wpAny_bind (wpAny_typeOf hb.typeIs ?_)
  first
    | refine PySem.W.KFB.if_so (by decide) ?_
    | rw [if_pos (by decide)]
    | simp only [beq_self_eq_true, Bool.true_or, if_true]
  unfold Builtin.List.listItems
  refine wpAny_bind (wpAny_seqItems e2 rfl (wpAny_pure ?_))
  refine wpAny_bind (wpAny_bind (wpAny_seqItems e rfl (wpAny_pure ?_)))
  refine wpAny_bind (wpAny_of_eq ((sliceIndices_raw (some (a : Int)) (some (c : Int)) none items.size (by simp)).trans (congrArg (pure : Int × Int × Int → Sem (Int × Int × Int)) (bounds_run hac hc))) ?_)
  show wpAny _ _ (if ((1 : Int) == 1) = true then _ else _) _ _ s
  rw [if_pos (by decide)]
  refine wpAny_bind (wpAny_rule ?_)
  first
    | simp only [notLongL hsz, Bool.false_eq_true, if_false]
    | refine PySem.W.KFB.if_not (notLongL hsz) ?_
  first | refine wpAny_bind (wpAny_pure ?_) | skip
  show wpAny _ _ (updateSeq l (fun xs => xs.extract 0 ((a : Int)).toNat ++ new ++ xs.extract (max (a : Int) (c : Int)).toNat xs.size) >>= _) _ _ s
  rw [hmax, Int.toNat_natCast]
  refine wpAny_bind (wpAny_updateSeq (hz := Nat.le_trans (Nat.le_add_right _ _) hsz) (_hz' := hz') e rfl ?_)
  refine wpAny_bind (wpAny_letGo ?_)
  first
    | exact wpAny_bind (wpAny_pure (wpAny_pure ⟨.none, rfl, wpAny_pure h⟩))
    | exact wpAny_pure ⟨.none, rfl, wpAny_pure h⟩
end

section
variable {X : Cx}
end
end L2

namespace Att
open PySem PySem.W PySem.Calls PyProof.Rows

theorem ints_of_wellAll {P : Params} {h : Heap} : ∀ (ns : List Int) (vs : List Value), WellAll P h vs (ns.map WData.int) → IntsAre vs ns := by
  intro ns
  induction ns with
  | nil =>
    intro vs w
    rw [List.map_nil] at w
    cases w
    exact .nil
  | cons n ns ih =>
    intro vs w
    rw [List.map_cons] at w
    cases w with
    | cons a b =>
      cases a
      exact .cons _ _ (ih _ b)

theorem script_of {l : OpenLaw} {n : Nat} (hn : l.most = some n) {P : Params} {h : Heap} {args : List WData} {vals : List Value}
    (hpre : l.row.toRowW.claim.pre args = true) (hwl : WellAll P h vals args) :
    ∃ a vs ns, vals = [Value.ref a] ∧ args = [WData.list (ns.map WData.int)] ∧ h.get? a = some { cls := .type "list", data := .seq vs.toArray } ∧ IntsAre vs ns ∧ ns.length ≤ n := by
  have hsh : WShape.hasAll [] args [.list .int] = true := (pre_splitW hpre).1
  have hc : l.pre.holds [] { args := args } = true := (pre_splitW hpre).2
  obtain ⟨d, r, rfl, h1, h2⟩ := hasAllW_cons hsh
  obtain rfl := hasAllW_nil h2
  obtain ⟨xs, rfl, h3⟩ := hasW_list h1
  obtain ⟨ns, rfl⟩ := items_int h3
  have hlen : ns.length ≤ n := by
    unfold OpenLaw.pre at hc
    have h4 : (WTm.not (.lt (.lit (.int (n : Int))) (.len (.arg 0)))).holds [] { args := [.list (ns.map .int)] } = true := by
      have h4 := (holds_andW hc).1
      rw [hn] at h4
      exact h4
    have h5 := condW_of h4 (w_not (w_lt w_lit (w_len_list (w_arg rfl))))
    rw [List.length_map] at h5
    refine Nat.le_of_not_lt fun q => ?_
    have q' : (n : Int) < ((ns.length : Nat) : Int) := by omega
    first
      | (rw [decide_eq_true q'] at h5; exact absurd h5 (by decide))
      | (simp at h5; omega)
  cases hwl with
  | cons w1 w2 =>
    cases w2
    cases w1 with
    | list ho hall => exact ⟨_, _, ns, rfl, rfl, ho, ints_of_wellAll ns _ hall, hlen⟩

theorem post_true (l : OpenLaw) (args : List WData) : l.row.toRowW.claim.post args (.bool true) args = true :=
  postW_of (r := l.row.toRowW) (X := (true == true))
    (show WShape.has [] (.bool true) .bool = true by first | rfl | decide | simp [WShape.has, WShape.arms, WShape.armsAll])
    (show (WTm.eq .res (.lit (.bool true))).value [] { args := args, res := some (.bool true), after := args } = some (.bool (true == true)) from w_eq_bool (w_res rfl) w_lit) rfl


theorem attach_call {l : OpenLaw} {n : Nat} {q : Program} {loose : List Str} {XP : (Str → Option Value) → Heap → Prop} {YP : World → Heap → Prop} {d : DefRec}
    (hn : l.most = some n) (hdf : d.params.defaults = [])
    (call : ∀ (w : World) (s₀ s₁ : Shared) (mg mb : Str → Option Value) (fa : Addr) (o : Obj) (pm cd doc : Value) (a : Addr) (vs : List Value) (ns : List Int),
      Ground q loose [] XP w s₀ mg mb s₁.heap → YP w s₁.heap →
      s₁.heap.get? fa = some o → o.data = .func (docDef d.name d.params d.body d.scope pm cd doc) → s₁.heap.CodeRec cd d.name → mg d.name = some (.ref fa) →
      s₁.heap.get? a = some { cls := .type "list", data := .seq vs.toArray } → IntsAre vs ns → ns.length ≤ n → s₁.gens = #[] →
      codeAny (model l.prog w) callerA (.call (.ref fa) ⟨[.ref a], []⟩) (fun r s' => r = .ok (.ret (.bool true)) ∧ OldK s₁.heap s'.heap ∧ s'.os = s₁.os ∧ AllBare s'.gens) s₁) :
    WalkO q loose XP YP l.row.toRowW d [] (fun f vs => PySem.call f vs) := by
  intro w s₀ s₁ mg mb G Y fa o pm cd doc dV kV ho hd hcd hD hmg hg args vals as hpre hlay hrd hwl hlo
  obtain rfl : dV = .none := Dflts.none hD hdf
  obtain rfl : kV = .none := Dflts.noKw hD
  obtain ⟨a, vs, ns, rfl, rfl, hobj, hints, hlen⟩ := script_of hn hpre hwl
  refine enter_call (codeAny_mono (call w s₀ s₁ mg mb fa o pm cd doc a vs ns G Y ho (fd_plain hd) hcd hmg hobj hints hlen hg) fun r s' hq => ?_)
  obtain ⟨rfl, h2, h3, h4⟩ := hq
  exact ⟨.inl ⟨.bool true, .bool true, [], rfl, fun _ => rfl, .bool true, post_true l _, fun _ => ⟨List.Pairwise.nil, fun _ hm => (nomatch hm)⟩⟩, h2, h3, h4⟩


section
variable {prog : Program} {w : World} {A : Around} {E : Value → Shared → Prop} {s : Shared} {K : Frag}






end
end Att

namespace L2
open PySem PySem.Spec PyProof.Rows

theorem vals_ints : ∀ {vs : List Value} {ns : List Int}, IntsAre vs ns → Vals (ns.map V.int) vs
  | _, _, .nil => .nil
  | _, _, .cons n t h => .cons ⟨t, rfl⟩ (vals_ints h)

def Only (H : Hp) : Prop := ∀ b, H b = none ∨ ∃ o xs, H b = some (.frz o (.lst xs))

theorem law_call {P : Program} {w : World} {K : PySem.W.Frag} {mg mb : Str → Option Value} {CX : CXT} {k : Nat} {fa a : Addr} {fd : FuncData} {x : Str} {sp : Sp} {s₁ : Shared} {vs : List Value} {ns : List Int}
    (KX : K.In s₁.heap) (hns : s₁.heap.Ns mainGlobals mg) (hb : s₁.heap.Ns builtinsNs mb) (hbb : ∀ x : Str, x ≠ "__name__" → mb x = bootBuiltins x) (hlim : s₁.heap.NoLimit) (hg : s₁.gens = #[])
    (ha : s₁.heap.get? a = some { cls := .type "list", data := .seq vs.toArray }) (hi : IntsAre vs ns) (hl : ns.length ≤ sizeLine) (hr : Room k callerA)
    (F : ∀ base : Heap, K.In base → base.Ns mainGlobals mg → FnOk P w K mg base CX k fa fd [x] sp) (hbind : ∀ (s : Shared) (u : Value), BindsTo s fd ⟨[u], []⟩ [(x, u)])
    (hsp : ∀ H : Hp, Only H → SqL K H a (ns.map V.int) → sp [.ref a] H (fun v _ => v = .bl true) fun _ _ _ => False)
    (hCX : ∀ H e s', CX [] H s₁ (fun _ _ _ => False) e s' → False) :
    codeAny (model P w) callerA (.call (.ref fa) ⟨[.ref a], []⟩) (fun r s' => r = .ok (.ret (.bool true)) ∧ OldK s₁.heap s'.heap ∧ s'.os = s₁.os ∧ AllBare s'.gens) s₁ := by
  have rv := vals_ints hi
  have lenV := hi.length
  -- from an abstract heap in which nothing but the script may be tracked
  have core : ∀ H : Hp, Only H → SqL K H a (ns.map V.int) → HOk P w H s₁.heap → (∀ b, H b ≠ none → b = a) → (H a ≠ none → K.lookup a = none) →
      codeAny (model P w) callerA (.call (.ref fa) ⟨[.ref a], []⟩) (fun r s' => r = .ok (.ret (.bool true)) ∧ OldK s₁.heap s'.heap ∧ s'.os = s₁.os ∧ AllBare s'.gens) s₁ := by
    intro H hO hS hok hA hK
    have base_of : ∀ {b : Addr} {o : Obj}, s₁.heap.get? b = some o → H b = none → (hidT s₁.heap H).get? b = some o := fun e n => hidT_get e n
    have noA : ∀ {b : Addr} {o : Obj} {es : Array DictEntry} {ep : Nat}, s₁.heap.get? b = some o → o.data = .dict es ep → H b = none := fun {b o es ep} e d => by
      cases q : H b with
      | none => rfl
      | some u =>
        have e' : b = a := hA b (by rw [q]; simp)
        subst e'
        rw [ha] at e; cases e
        have d' : Data.seq vs.toArray _ = Data.dict es ep := d
        cases d'
    have nsK : ∀ {b : Addr} {m : Str → Option Value}, s₁.heap.Ns b m → (hidT s₁.heap H).Ns b m := fun {b m} ⟨o, es, ep, e, d, r⟩ => ⟨o, es, ep, base_of e (noA e d), d, r⟩
    have hKb : K.In (hidT s₁.heap H) := fun b o e => base_of (KX b o e) (by
      cases q : H b with
      | none => rfl
      | some u =>
        have e' : b = a := hA b (by rw [q]; simp)
        subst e'
        rw [hK (by rw [q]; simp)] at e; cases e)
    have hM : Mod K mg (hidT s₁.heap H) := ⟨hKb, nsK hns, ⟨mb, nsK hb, hbb⟩, let ⟨mc, h1, h2⟩ := hlim; ⟨mc, nsK h1, h2⟩⟩
    have e0 : Env0 P w K mg (hidT s₁.heap H) callerA [] s₁ H := ⟨rfl, hM, fun b o e => of_hidT e, Nat.le_of_eq (hidT_size _ _), trivial, fun b hb => absurd (show b ∈ ([] : List Addr) from hb) (by simp), hok, .of_eq hg⟩
    refine codeAny_mono ((F _ hKb (nsK hns)).run callerA [] s₁ H ⟨[.ref a], []⟩ [.ref a] [.ref a] _ _ hr e0 (hbind s₁ (.ref a)) (.cons rfl .nil) (hsp H hO hS)) fun r s' h => ?_
    cases r with
    | error e => exact (hCX H e s' h).elim
    | ok fl =>
      cases fl with
      | next => exact False.elim h
      | brk => exact False.elim h
      | cont => exact False.elim h
      | ret u =>
        obtain ⟨v, H', os, bare, un, hok', r', q⟩ := h
        have q' : v = .bl true := q
        subst q'
        obtain rfl : u = Value.bool true := r'
        refine ⟨rfl, OldK.of_keep fun b o e => ?_, os, bare⟩
        cases q : H b with
        | none => exact un.keep b o e q (by intro z; exact absurd (show b ∈ ([] : List Addr) from z) (by simp)) (by simp)
        | some u =>
          rcases hO b with z | ⟨ob, xs, z⟩
          · rw [q] at z; cases z
          · have z2 := un.frzs b ob _ z
            obtain ⟨e1, _⟩ := hok b _ z
            obtain ⟨e2, _⟩ := hok' b _ z2
            rw [e] at e1; cases e1
            exact e2
  cases hk : K.lookup a with
  | some o =>
    -- the script is one of the module's own objects
    have e := KX a o hk
    rw [ha] at e
    cases e
    refine core (fun _ => none) (fun _ => .inl rfl) (.inr ⟨_, vs.toArray, _, hk, rfl, rfl, rfl, by rw [List.size_toArray, lenV]; exact hl, by simpa using rv⟩) (fun b u z => by have z' : (none : Option HO) = some u := z; cases z') (fun b z => absurd rfl z) fun z => absurd rfl z
  | none =>
    refine core (fun b => if b = a then some (.frz { cls := .type "list", data := .seq vs.toArray } (.lst (ns.map V.int))) else none) (fun b => ?_) (.inl (.inr ⟨{ cls := .type "list", data := .seq vs.toArray }, if_pos rfl⟩)) (fun b u z => ?_) (fun b z => ?_) fun _ => hk
    · by_cases hb : b = a
      · exact .inr ⟨_, _, if_pos hb⟩
      · exact .inl (if_neg hb)
    · by_cases hb : b = a
      · have z' := (if_pos hb).symm.trans z
        cases z'
        subst hb
        exact ⟨ha, by rw [List.length_map]; exact hl, vs, _, rv, ha⟩
      · have z' := (if_neg hb).symm.trans z
        cases z'
    · by_cases hb : b = a
      · exact hb
      · exact absurd (if_neg hb) z
end L2

namespace L2
open PySem PySem.Spec PyProof.Rows

abbrev KOf {K : PySem.W.Frag} {h : Heap} (_ : K.In h) : PySem.W.Frag := K

theorem walk_of {l : PySem.W.OpenLaw} {n k : Nat} {q : Program} {loose : List Str} {XP : (Str → Option Value) → Heap → Prop} {YP : World → Heap → Prop} {d : DefRec} {K : Params → PySem.W.Frag} {CX : World → CXT} {sp : World → Sp} {x : Str}
    (hn : l.most = some n) (hn2 : n ≤ sizeLine) (hdf : d.params.defaults = []) (hr : Room k callerA)
    (hY : ∀ (w : World) (h : Heap), YP w h → (K w.params).In h)
    (F : ∀ (w : World) (mg : Str → Option Value) (fa : Addr) (h : Heap), (K w.params).In h → h.Ns mainGlobals mg → mg d.name = some (.ref fa) →
      ∃ fd : FuncData, (∀ (s : Shared) (u : Value), BindsTo s fd ⟨[u], []⟩ [(x, u)]) ∧
        ∀ base : Heap, (K w.params).In base → base.Ns mainGlobals mg → FnOk l.prog w (K w.params) mg base (CX w) k fa fd [x] (sp w))
    (hsp : ∀ (w : World) (H : Hp) (a : Addr) (ns : List Int), ns.length ≤ n → Only H → SqL (K w.params) H a (ns.map V.int) → sp w [.ref a] H (fun v _ => v = .bl true) fun _ _ _ => False)
    (hCX : ∀ (w : World) (H : Hp) (s : Shared) (e : Value) (s' : Shared), CX w [] H s (fun _ _ _ => False) e s' → False) :
    PySem.W.WalkO q loose XP YP l.row.toRowW d [] (fun f vs => PySem.call f vs) := by
  refine Att.attach_call hn hdf fun w s₀ s₁ mg mb fa o pm cd doc a vs ns G Y ho hd hcd hmg hobj hints hlen hg => ?_
  have KX := hY w _ Y
  obtain ⟨fd, hb, hF⟩ := F w mg fa _ KX G.T.g hmg
  exact law_call KX G.T.g G.T.b G.T.builtins G.T.nolimit hg hobj hints (Nat.le_trans hlen hn2) hr hF hb (fun H hO hS => hsp w H a ns hlen hO hS) fun H e s' => hCX w H s₁ e s'
end L2

/- THE LAST THEOREM (shape; LID, My.* are yours):
   My.Adr: a structure of the addresses that your layer names (classes, functions); My.Txt K t: a structure (Prop) of the equations over K;
   My.txt_mk : {K} {implicit addresses ..} (e1 : nsIn K mainGlobals "law" = some (some (.ref f))) (e2 : K.lookup f = some ⟨oc, od, .func (fnOf "law" "law" params body scope dV kV doc pm an cdv ct), sl⟩) (e3 : codeIn K cdv "law" = true) .. : ∃ t, My.Txt K t

set_option maxRecDepth 100000 in
set_option maxHeartbeats 0 in
theorem PySem.Challenge.cw_LID_holds : PySem.Challenge.rw_LID.Holds := by
  w_on; o_law; k_head; (case hw => w_witness2)
  k_fill
  refine L2.walk_of (l := PySem.Challenge.rw_LID) (n := 63) (k := 40) (x := "script") (CX := fun w => ..) (sp := fun _ => My.sp_law) rfl (by decide) rfl ⟨rfl, by decide, by decide⟩ (fun w h Y => PySem.W.kIn_of Y) ?F ?S ?C
  case F =>
    intro w mg fa h KX G hmg
    have T : ∃ t, My.Txt (L2.KOf KX) t := by
      dsimp only [L2.KOf]                          -- K must stand as «<heap const> w.params» for k_is
      refine' My.txt_mk ?e1 ?e2 ?e3 ..
      (case e1 => PySem.W.k_is)                    -- in the order: a name -> its address -> its object -> its parts
      (case e2 => PySem.W.k_is)
      ..
    obtain ⟨t, T⟩ := T
    have e0 := hmg.symm.trans (PySem.W.mg_of KX G T.law)
    cases e0                                       -- fa is the law's own address
    exact ⟨_, fun s u => .of_eq rfl, fun base kb nb => My.law_fn T kb nb⟩     -- if «.of_eq rfl» comes too early: refine' ⟨_, ?b, fun base kb nb => My.law_fn T kb nb⟩; exact fun s u => .of_eq rfl
  case S => exact fun w H a ns hl hO hS => ..
  case C => exact ..
(the tactic k_is has no namespace: write k_is) -/

namespace L2
open PySem PySem.Spec PyProof.Rows

def defArgs (s : Stmt) : Arguments := match s with
  | .FunctionDef _ a _ _ _ _ _ _ _ _ => a
  | _ => { posonlyargs := [], args := [], vararg := none, kwonlyargs := [], kw_defaults := [], kwarg := none, defaults := [] }
def defBody (s : Stmt) : List Stmt := match s with
  | .FunctionDef _ _ b _ _ _ _ _ _ _ => b
  | _ => []
def defScope (s : Stmt) : Scope := match s with
  | .FunctionDef _ _ _ _ _ _ sc _ _ _ => sc
  | _ => { kind := .function, names := [], isGenerator := false, isCoroutine := false }

abbrev CX0 : CXT := fun _ _ _ _ _ _ => False
abbrev E0 : XK := fun _ _ _ => False
theorem pass0 {X : Cx} : Passes CX0 X E0 := fun _ _ _ _ _ _ _ h => h.elim

structure Fun (K : PySem.W.Frag) (x qual : Str) (st : Stmt) (f : Addr) (fd : FuncData) : Prop where
  ex : ∃ (oc : Value) (od : Option Addr) (kV doc pm : Value) (an : Option Addr) (cdv ct : Value) (osl : Array (Option Value)),
    fd = PySem.W.fnOf x qual (defArgs st) (defBody st) (defScope st) .none kV doc pm an cdv ct ∧ K.lookup f = some ⟨oc, od, .func fd, osl⟩ ∧ PySem.W.codeIn K cdv qual = true
  kp : PySem.W.keepIn K (.ref f) = true
section
variable {P : Program} {w : World} {K : PySem.W.Frag} {mg : Str → Option Value} {base : Heap}
theorem Fun.ok {x qual : Str} {st : Stmt} {f : Addr} {fd : FuncData} {N ps : List Str} {k : Nat} {sp : Sp} (F : Fun K x qual st f fd) (S : FnScope N ps (defScope st)) (len : ∀ vs H Q E, sp vs H Q E → vs.length = ps.length)
    (hbody : ∀ (cdv : Value) (A : Around) (outer : List Env) (s : Shared) (H : Hp) (vs : List V) (Q : VK) (E : XK), Room k (A.deeper (envOfC qual (defScope st) s.heap.objs.size f cdv)) → sp vs H Q E →
      ∃ t, PSs (cxOf CX0 P w K mg base N qual (defScope st) f cdv A outer s H E).nox (defBody st) t ∧ t { nx := fun _ H' => Q .non H', rt := Q } (start N vs) H) : FnOk P w K mg base CX0 (k + 1) f fd ps sp := by
  obtain ⟨oc, od, kV, doc, pm, an, cdv, ct, osl, rfl, lk, hcd⟩ := F.ex
  refine fn_of lk hcd S len fun A outer s H vs Q E hr hsp => ?_
  obtain ⟨t, h, q⟩ := hbody cdv A outer s H vs Q E hr hsp
  exact ⟨t, h.nox, q⟩
theorem Fun.binds {x qual : Str} {st : Stmt} {f : Addr} {fd : FuncData} {ps : List Str} (F : Fun K x qual st f fd)
    (h : ∀ (kV doc pm : Value) (an : Option Addr) (cdv ct : Value) (us : List Value), us.length = ps.length → bindArgs (PySem.W.fnOf x qual (defArgs st) (defBody st) (defScope st) .none kV doc pm an cdv ct) ⟨us, []⟩ = pure (ps.zip us)) : Binds K fd ps [] := by
  obtain ⟨oc, od, kV, doc, pm, an, cdv, ct, osl, rfl, lk, hcd⟩ := F.ex
  exact .all (h kV doc pm an cdv ct)
theorem fun_mk {x qual : Str} {st : Stmt} {f : Addr} {oc : Value} {od an : Option Addr} {osl : Array (Option Value)} {kV doc pm cdv ct : Value} (l : K.lookup f = some ⟨oc, od, .func (PySem.W.fnOf x qual (defArgs st) (defBody st) (defScope st) .none kV doc pm an cdv ct), osl⟩)
    (c : PySem.W.codeIn K cdv qual = true) (k : PySem.W.keepIn K (.ref f) = true) : Fun K x qual st f (PySem.W.fnOf x qual (defArgs st) (defBody st) (defScope st) .none kV doc pm an cdv ct) := ⟨⟨oc, od, kV, doc, pm, an, cdv, ct, osl, rfl, l, c⟩, k⟩
end
theorem hu_of {A : Around} {k : Nat} (hr : Room k A) : A.units + 1 < cLine := Nat.lt_of_le_of_lt (Nat.add_le_add_left (by decide : 1 ≤ 64) _) hr.units

section
variable {X : Cx}
theorem call_lenD : CallR X (.builtin "len") (fun xs H Q => ∃ a kvs, xs = [V.ref a] ∧ H a = some (.dK kvs) ∧ Q (.int kvs.length) H) := by
  intro pins s σ H xs us Q I r h
  obtain ⟨a, kvs, rfl, ha, q⟩ := h
  obtain ⟨u, rfl, ru⟩ := vals1 r
  cases ru
  exact d_len I (.inl ha) fun t s' I' => ⟨.int kvs.length, H, I', ⟨t, rfl⟩, q⟩
end

theorem iteF {A B : Prop} (h : B) : if false = true then A else B := by
  rw [if_neg Bool.false_ne_true]
  exact h
theorem iteT {A B : Prop} (h : A) : if true = true then A else B := by
  rw [if_pos rfl]
  exact h

def Same (H H' : Hp) : Prop := ∀ b o, H b = some o → H' b = some o
theorem Same.refl (H : Hp) : Same H H := fun _ _ h => h
theorem Same.trans {H H1 H2 : Hp} (a : Same H H1) (b : Same H1 H2) : Same H H2 := fun c o h => b c o (a c o h)
theorem Same.free {H H' : Hp} (e : Same H H') {l : Addr} (h : H' l = Option.none) : H l = Option.none := by
  cases q : H l with
  | none => rfl
  | some o =>
    rw [e l o q] at h
    cases h
theorem Same.seq {K : PySem.W.Frag} {H H' : Hp} {a : Addr} {xs : List V} (e : Same H H') (h : SqL K H a xs) : SqL K H' a xs := by
  rcases h with (h | ⟨o, h⟩) | h
  · exact .inl (.inl (e _ _ h))
  · exact .inl (.inr ⟨o, e _ _ h⟩)
  · exact .inr h

section
variable {κ : Type} [DecidableEq κ]
end
end L2
end
section
set_option Elab.async false
set_option linter.all false
set_option maxRecDepth 100000
namespace L2
open PySem PySem.Spec PyProof.Rows
theorem HOk.track {P : Program} {w : World} {H : Hp} {h : Heap} {a : Addr} {o : HO} (x : HOk P w H h) (hn : H a = none) (new : ObjOk P w (upd H a o) h a o) : HOk P w (upd H a o) h := fun b u e => by
  by_cases hb : b = a
  · subst hb; rw [upd_same] at e; cases e; exact new
  · rw [upd_ne hb] at e
    exact (x b u e).stay (fun c v _ q => q) (fun c q => by rw [upd_ne (ne_of_none q hn)]; exact q) fun c xs q => by rw [upd_ne (ne_of_none q hn)]; exact q
def compCx (X : Cx) (N' : List Str) (scope : Scope) (cl : List (Str × Addr)) (C : Addr) (s : Shared) (H : Hp) (fp : List Addr) : Cx :=
  { X with N := N', s₀ := s, H₀ := H, env := compEnvC scope cl C X.env, outer := X.stack, stack := X.stack, ex := fp, fn := fun _ => false, pn := [], xe := fun _ _ => False }
def capOf (cap : List Nat) (σ : St) : St := cap.map fun i => (σ[i]?).join
structure CompTxt (X : Cx) (x : Str) (capN : List Str) (cap : List Nat) (scope : Scope) (cl : List (Str × Addr)) : Prop where
  clos : closureFor scope X.env = pure cl
  nocell : ∀ y ∈ scope.names, y.2 ≠ .cell
  kind : scope.kind = .function
  names : ∀ y ∈ scope.names, y.2 = .local → scope.names.lookup y.1 = some .local
  loc : scope.names.lookup x = some .local
  cells : ∀ n c, cl.lookup n = some c → X.env.cells.lookup n = some c
  has : ∀ n, ((relabel scope X.env).names.lookup n = some .cell ∨ (relabel scope X.env).names.lookup n = some .free) → ∃ c, cl.lookup n = some c
  nd : (x :: capN).Nodup
  len : cap.length = capN.length
  slot : ∀ (j : Nat) n, capN[j]? = some n → ∃ i : Nat, cap[j]? = some i ∧ X.N[i]? = some n ∧ Vis X.env.scope n
  vis : ∀ n, n ∈ capN → ((relabel scope X.env).names.lookup n = some .cell ∨ (relabel scope X.env).names.lookup n = some .free) ∧ (∃ c, cl.lookup n = some c) ∧ X.env.scope.names.lookup n ≠ some .local
def tLC (wi : TI) (cap : List Nat) (tc : TT) (te : TE) : TE := fun σ H Q => wi σ H fun J H1 => ∃ W : Nat → Nat → List V → Hp → Prop, (∃ m, W 0 m [] H1) ∧ ∀ i m ys H, W i m ys H → ys.length < sizeLine ∧
  ((J.stop i H ∧ ∀ p, H p = none → Q (.ref p) (upd H p (.lst ys))) ∨
   (J.go i H ∧ ∀ x H', J.yld i H x H' → tc (some x :: capOf cap σ) H' fun b H2 => if b = true then te (some x :: capOf cap σ) H2 fun y H3 => ∃ m', m' < m ∧ W (i + 1) m' (ys ++ [y]) H3 else ∃ m', m' < m ∧ W (i + 1) m' ys H2))
def tAll : TT := fun _ H Q => Q true H
def PTs (X : Cx) (ifs : List Expr) (tc : TT) : Prop :=
  ∀ (pins : List (Addr × Obj)) (s : Shared) (σ : St) (H : Hp) (Q : Bool → Hp → Prop), Inv X pins σ H s → tc σ H Q →
    wpAny (model X.prog X.w) X.A (forIn ifs true fun c r => if r = true then do let ok ← isTrue c X.env (eval c X.env); pure (ForInStep.yield ok) else pure (ForInStep.yield r)) (TP X pins σ Q) X.xe s
theorem pts_nil {X : Cx} : PTs X [] tAll := fun pins s σ H Q I h => wpAny_tests_nil ⟨H, I, h⟩

theorem lst_eq (ys : List Value) (y : Value) : ({ cls := .type "list", data := .seq (ys.toArray.push y) (ys.length + 1) } : Obj) = { cls := .type "list", data := .seq (ys ++ [y]).toArray (ys ++ [y]).length } := by
  rw [List.length_append, List.length_singleton, List.push_toArray]

theorem inv_comp {X : Cx} {pins : List (Addr × Obj)} {σ : St} {H : Hp} {s s4 : Shared} {x : Str} {capN : List Str} {cap : List Nat} {scope : Scope} {cl : List (Str × Addr)} {C : Addr} {fp : List Addr} {m' : Str → Option Value}
    (I : Inv X pins σ H s) (T : CompTxt X x capN cap scope cl) (hfp : ∀ b ∈ fp, FpOk X pins H b) (hfo : ∀ b ∈ fp, ∃ o, s.heap.get? b = some o)
    (hC : s.heap.objs.size ≤ C) (hns : s4.heap.Ns C m') (hos : s4.os = s.os) (hg : s4.gens = s.gens)
    (kept : ∀ b o, s.heap.get? b = some o → s4.heap.get? b = some o) :
    Inv (compCx X (x :: capN) scope cl C s H fp) [] (none :: capOf cap σ) H s4 := by
  have fr : ∀ b, s.heap.objs.size ≤ b → H b = none := fun b hb => I.hok.fresh hb
  refine ⟨⟨I.ok.mod, T.kind, I.ok.glob, I.ok.blt, hC, fun y z c h1 h2 => I.ok.inj y z c (T.cells _ _ h1) (T.cells _ _ h2), fun y hy => T.has y hy, fun y c h => (by cases h), I.ok.hd, I.ok.frames, .inl rfl, fun b hb => ⟨?_, fun y c e z => ?_⟩, I.bs, Nat.le_trans I.ok.bsz I.sz, fun b o e hb => ?_, fun b hb z => ?_, I.stack, I.stkFree⟩,
    hos, by rw [hg]; exact I.bare, Un.kept kept, ⟨m', hns, fun i y v h1 h2 h3 => ?_⟩, fun y c h => ?_, fr C hC, fun y c h => I.freeC y c (T.cells _ _ h), fun p hp => ?_, I.hok.kept kept, ?_⟩
  · obtain ⟨o, e⟩ := hfo b hb
    exact Nat.ne_of_lt (Nat.lt_of_lt_of_le (Heap.lt_size e) hC)
  · exact (hfp b hb).2.2.2.2.1 y c (T.cells _ _ e) z
  · rcases (hfp b hb).2.2.2.1 with z | z
    · exact I.ok.noex b o e z
    · exact absurd (Nat.lt_of_lt_of_le (Heap.lt_size e) (Nat.le_trans I.ok.bsz z)) (Nat.lt_irrefl _)
  · rcases List.mem_cons.mp (I.stkSub b z) with q | q
    · exact (hfp b hb).2.1 q
    · exact (hfp b hb).2.2.1 q
  · cases i with
    | zero => cases h2
    | succ j =>
      have h1 : capN[j]? = some y := by simpa [compCx] using h1
      have h2 : (capOf cap σ)[j]? = some (some v) := by simpa using h2
      obtain ⟨i, e1, e2, e3⟩ := T.slot j y h1
      have e4 : σ[i]? = some (some v) := by
        unfold capOf at h2
        rw [List.getElem?_map, e1] at h2
        have h2 : some ((σ[i]?).join) = some (some v) := h2
        have h2 := Option.some.inj h2
        cases q : σ[i]? with
        | none => rw [q] at h2; cases h2
        | some o => rw [q] at h2; cases h2; rfl
      obtain ⟨m, hn, hl⟩ := I.loc
      obtain ⟨u, r, l⟩ := hl i y v e2 e4 e3
      obtain ⟨k1, ⟨c, hc⟩, k3⟩ := T.vis y (List.mem_of_getElem? h1)
      refine ⟨u, r, .inr ⟨k1, c, hc, ?_⟩⟩
      rcases l with ⟨hk, _⟩ | ⟨hk, c', hc', z⟩
      · exact absurd hk k3
      · rw [T.cells _ _ hc] at hc'
        cases hc'
        obtain ⟨o, ho, hd⟩ := z
        exact ⟨o, kept _ _ ho, hd⟩
  · obtain ⟨v, o, ho, hd⟩ := I.cell y c (T.cells _ _ h)
    exact ⟨v, o, kept _ _ ho, hd⟩
  · exact absurd (show p ∈ ([] : List (Addr × Obj)) from hp) (by simp)
  · show (none :: capOf cap σ).length = (x :: capN).length
    simp [capOf, T.len]
end L2

end
section
set_option Elab.async false
set_option linter.all false
set_option maxRecDepth 100000
namespace L2
open PySem PySem.Spec PyProof.Rows
theorem use_pure {α : Type} {M : Model} {A : Around} {E E' : Value → Shared → Prop} {s : Shared} {t : Sem α} {Q : Unit → Shared → Prop} {Q' : α → Shared → Prop} (h : wpAny M A (pure () : Sem Unit) Q E s) (k : Q () s → wpAny M A t Q' E' s) : wpAny M A t Q' E' s :=
  fun Γ p hΓ => k (h Γ p hΓ) Γ p hΓ
theorem lcomp_core {X : Cx} {elt iter : Expr} {ifs : List Expr} {x : Str} {px pos : Pos} {scope : Scope} {cl : List (Str × Addr)} {capN : List Str} {cap : List Nat} {wi : TI} {tc : TT} {te : TE} {pins : List (Addr × Obj)} {s : Shared} {σ : St} {H : Hp} {Q : VK} {use : Option (Value → Sem Unit)} {Qf : Value → Shared → Prop} {pos2 : Pos}
    (T : CompTxt X x capN cap scope cl) (hc : X.calm = true) (hi : PI X (.Name x px) iter wi)
    (ht : ∀ C s H fp, PTs (compCx X (x :: capN) scope cl C s H fp) ifs tc) (he : ∀ C s H fp, PE (compCx X (x :: capN) scope cl C s H fp) elt te)
    (hs : ∀ x, foldedSetIterable iter X.env x = pure x) (I : Inv X pins σ H s) (h : tLC wi cap tc te σ H Q)
    (hend : ∀ (D C : Addr) (s7 : Shared) (H6 : Hp) (ys : List V), Inv X pins σ (upd H6 D (.lst ys)) s7 → (∃ m, s7.heap.Ns C m) → FpOk X pins (upd H6 D (.lst ys)) C → Q (.ref D) (upd H6 D (.lst ys)) → compPost (model X.prog X.w) X.A X.xe use Qf (.ref D) C (.ok .next) s7) :
    wpAny (model X.prog X.w) X.A (comprehension (.ListComp elt [⟨.Name x px, iter, ifs, 0⟩] scope pos) scope X.env pos2 (newList []) false (eval iter X.env) use) Qf X.xe s := by
  refine wpAny_comprehension_free (use := use) rfl hs T.clos T.kind T.names (thn (hi pins s σ H _ I h) fun v s1 h1 => thn h1 fun itv s2 h2 => ?_)
  obtain ⟨it, fp, tn, J, H2, rfl, I2, TT', st2, f2, W, ⟨m0, w0⟩, turn⟩ := h2
  refine wpAny_newObj_type (wpAny_newFunctionEnv T.nocell (by intro y hy; simp at hy) (fun h4 hns4 hsb4 => ?_) T.kind)
  dsimp only at hns4 hsb4 ⊢
  generalize hH3 : s2.heap.push { cls := .type "list", dict := none, data := .seq ([] : List Value).toArray } = H3 at hns4 hsb4 ⊢
  have eC : H3.objs.size = s2.heap.objs.size + 1 := by rw [← hH3, Heap.size_push]
  generalize eC' : H3.objs.size = C at eC hns4 hsb4 ⊢
  generalize eD : s2.heap.objs.size = D at eC ⊢
  have eC'' : C = D + 1 := eC
  have hDC : D ≠ C := by rw [eC'']; exact Nat.ne_of_lt (Nat.lt_succ_self D)
  have hC : s2.heap.objs.size ≤ C := by rw [eD, eC'']; exact Nat.le_succ D
  have hD : s2.heap.objs.size ≤ D := by rw [eD]; exact Nat.le_refl D
  have kept : ∀ b o, s2.heap.get? b = some o → h4.get? b = some o := fun b o e => hsb4.extBut b o (Nat.ne_of_lt (Nat.lt_of_lt_of_le (Heap.lt_size e) hC)) (Heap.get?_push_of_some _ (hH3 ▸ Heap.get?_push_of_some _ e))
  have hacc : h4.get? D = some { cls := .type "list", data := .seq ([] : List Value).toArray ([] : List Value).length } := hsb4.extBut _ _ hDC (Heap.get?_push_of_some _ (hH3 ▸ eD ▸ Heap.get?_push_size _ rfl))
  have fo2 : ∀ b ∈ fp, ∃ o, s2.heap.get? b = some o := fun b hb => let ⟨o, e, _⟩ := TT'.obj _ _ st2 b hb; ⟨o, e⟩
  have hDf : D ∉ fp := fun hb => by
    obtain ⟨o, e⟩ := fo2 D hb
    exact absurd (Nat.lt_of_lt_of_le (Heap.lt_size e) hD) (Nat.lt_irrefl _)
  have st4 : tn 0 h4 := TT'.keep _ _ _ st2 fun b _ o e => kept b o e
  have key : ∀ s5 : Shared, s5 = { s2 with heap := h4, toks := s2.toks + ([] : List (Str × Value)).length } →
      codeAny (model X.prog X.w) X.A (.compLoop (.ListComp elt [⟨.Name x px, iter, ifs, 0⟩] scope pos) 0 (.ref it) (.ref D) (compEnvC scope cl C X.env)) (compPost (model X.prog X.w) X.A X.xe use Qf (.ref D) C) s5 := by
    rintro s5 rfl
    have I4 : Inv (compCx X (x :: capN) scope cl C s2 H2 fp) [] (none :: capOf cap σ) H2 { s2 with heap := h4, toks := s2.toks + ([] : List (Str × Value)).length } :=
      inv_comp (s4 := { s2 with heap := h4, toks := s2.toks + ([] : List (Str × Value)).length }) I2 T f2 fo2 hC hns4 rfl rfl kept
    generalize hY : compCx X (x :: capN) scope cl C s2 H2 fp = Y at I4
    have fD : ∀ {H' : Hp}, H' D = none → FpOk Y [] H' D := fun {H'} hn => by
      subst hY
      refine ⟨hn, hDC, fun z => (List.mem_cons.mp (I2.stkSub D z)).elim (fun q => absurd (Nat.lt_of_lt_of_le (q ▸ I2.lt) hD) (Nat.lt_irrefl _)) fun q => I2.nofs hD q, .inr hD, fun y c e z => ?_, fun p hp => absurd (show p ∈ ([] : List (Addr × Obj)) from hp) (by simp)⟩
      obtain ⟨v, q⟩ := I2.cell y c (T.cells _ _ e)
      exact absurd (Nat.lt_of_lt_of_le q.lt (by rw [z]; exact hD)) (Nat.lt_irrefl _)
    have fF : ∀ {H' : Hp}, (∀ b ∈ fp, H' b = none) → ∀ b ∈ fp, FpOk Y [] H' b := fun {H'} hn b hb => by
      have q := I4.ok.exf b (by subst hY; exact hb)
      exact ⟨hn b hb, fun z => q.1 z, I4.ok.exfs b (by subst hY; exact hb), .inl (by subst hY; exact hb), fun y c e z => q.2 y c e z, fun p hp => absurd (show p ∈ ([] : List (Addr × Obj)) from (by subst hY; exact hp)) (by simp)⟩
    have eA : Y.A = X.A := by subst hY; rfl
    have eP : Y.prog = X.prog := by subst hY; rfl
    have eW : Y.w = X.w := by subst hY; rfl
    have eK : Y.K = X.K := by subst hY; rfl
    have eE : Y.env = compEnvC scope cl C X.env := by subst hY; rfl
    have eX : Y.xe = fun _ _ => False := by subst hY; rfl
    have eN : Y.N = x :: capN := by subst hY; rfl
    have hcY : Y.calm = true := by subst hY; exact hc
    have htY : PTs Y ifs tc := by subst hY; exact ht _ _ _ _
    have heY : PE Y elt te := by subst hY; exact he _ _ _ _
    have hgY : PG Y (.Name x px) (gName 0) := pg_name (by rw [eN]; exact T.nd) (by rw [eN]; rfl) (by rw [eE]; exact .inl (lookup_relabel_local T.loc)) (.inr (by rw [eE]; exact lookup_relabel_local T.loc))
    have nofail : ∀ (E' : Value → Shared → Prop) (e : Value) (s' : Shared), Y.xe e s' → E' e s' := fun E' e s' z => by rw [eX] at z; exact z.elim
    refine codeAny_compLoop_tests (fun n s' => ∃ i ys us H' o, Inv Y [] (o :: capOf cap σ) H' s' ∧ tn i s'.heap ∧ (∀ b ∈ fp, H' b = none) ∧ H' D = none ∧ s'.heap.get? D = some { cls := .type "list", data := .seq us.toArray us.length } ∧ Vals ys us ∧ W i n ys H') ?_ m0
      ⟨0, [], [], H2, none, I4, st4, fun b hb => (f2 b hb).1, I2.hok.fresh hD, hacc, .nil, w0⟩
    rintro n s6 ⟨i, ys, us, H6, o6, I6, st6, fr6, d6, a6, v6, w6⟩
    have hul : us.length = ys.length := v6.length.symm
    obtain ⟨hz, turn6⟩ := turn i n ys H6 w6
    rcases turn6 with ⟨stop, qn⟩ | ⟨go, step⟩
    · have q := TT'.done Y eP eW eK hcY i [] s6 (o6 :: capOf cap σ) H6 (notedBy (model X.prog X.w) X.A (compEnvC scope cl C X.env) fun e s' => compPost (model X.prog X.w) X.A X.xe use Qf (.ref D) C (.error e) s') I6 (fF fr6) st6 stop
      rw [eA] at q
      have I6p := I6.pinned (fp := [D]) (fun b hb => by rw [List.mem_singleton.mp hb]; exact fD d6) (fun b hb => by rw [List.mem_singleton.mp hb]; exact ⟨_, a6, fun v z => by cases z⟩)
      have q := TT'.done Y eP eW eK hcY i _ s6 (o6 :: capOf cap σ) H6 (notedBy (model X.prog X.w) X.A (compEnvC scope cl C X.env) fun e s' => compPost (model X.prog X.w) X.A X.xe use Qf (.ref D) C (.error e) s') I6p (fun b hb => ?_) st6 stop
      · rw [eA] at q
        refine thn q fun r s7 ⟨hr, I7⟩ => ?_
        subst hr
        have a7 : s7.heap.get? D = _ := (I7.pin (D, { cls := .type "list", data := .seq us.toArray us.length }) (List.mem_append_right _ (List.mem_append_right _ (mem_pinsAt (List.mem_singleton.mpr rfl) a6)))).1
        obtain ⟨m7, hn7, _⟩ := I7.loc
        rw [eE] at hn7
        have hDn : H6 D = none := d6
        have hCn : H6 C = none := by have := I7.free; rw [eE] at this; exact this
        have hok8 : HOk X.prog X.w H6 s7.heap := by have q := I7.hok; rw [eP, eW] at q; exact q
        have new : ObjOk X.prog X.w (upd H6 D (.lst ys)) s7.heap D (.lst ys) := ⟨Nat.le_of_lt hz, us, us.length, v6, a7⟩
        have u7 : Un (frs X.stack) fp H2 H6 s2.heap s7.heap := by have := I7.base; subst hY; exact this
        have neD : ∀ b o, s2.heap.get? b = some o → b ≠ D := fun b o e => Nat.ne_of_lt (Nat.lt_of_lt_of_le (Heap.lt_size e) hD)
        have u8 : Un (frs X.stack) fp H2 (upd H6 D (.lst ys)) s2.heap s7.heap :=
          ⟨u7.keep, u7.slot, fun b o e n hx => by rw [upd_ne (neD b o e)]; exact u7.free b o e n hx, u7.there,
           fun b xs e => by have z := u7.tups b xs e; rw [upd_ne (ne_of_none z hDn)]; exact z, fun b o u e => by have z := u7.frzs b o u e; rw [upd_ne (ne_of_none z hDn)]; exact z,
           fun b ps e => by obtain ⟨more, z⟩ := u7.tbls b ps e; exact ⟨more, by rw [upd_ne (ne_of_none z hDn)]; exact z⟩⟩
        have os7 : s7.os = s2.os := by have := I7.os; subst hY; exact this
        have I9 : Inv X pins σ (upd H6 D (.lst ys)) s7 := I2.call' (ch := fp) os7 u8 (hok8.track hDn new) I7.bare fun b hb => ⟨(f2 b hb).2.2.2.1, (f2 b hb).2.1, (f2 b hb).2.2.2.2.1, (f2 b hb).2.2.2.2.2⟩
        exact hend D C s7 H6 ys I9 ⟨m7, hn7⟩ (I2.fpOk hC (by rw [upd_ne (Ne.symm hDC)]; exact hCn)) (qn D hDn)
      · obtain ⟨f0, f1, f2', f3, f4, f5⟩ := fF fr6 b hb
        refine ⟨f0, f1, f2', f3, f4, fun p hp z => ?_⟩
        rcases List.mem_append.mp hp with q' | q'
        · exact f5 p (List.mem_append_left _ q') z
        · rcases List.mem_append.mp q' with q' | q'
          · exact absurd q' (by simp)
          · have := (of_pinsAt q').1
            rw [List.mem_singleton.mp this] at z
            exact hDf (z ▸ hb)
    · have I6p := I6.pinned (fp := [D]) (fun b hb => by rw [List.mem_singleton.mp hb]; exact fD d6) (fun b hb => by rw [List.mem_singleton.mp hb]; exact ⟨_, a6, fun v z => by cases z⟩)
      have fF' : ∀ {H' : Hp}, (∀ b ∈ fp, H' b = none) → ∀ b ∈ fp, FpOk Y ([] ++ pinsAt [D] s6.heap) H' b := fun {H'} hn b hb => by
        obtain ⟨f0, f1, f2', f3, f4, f5⟩ := fF hn b hb
        refine ⟨f0, f1, f2', f3, f4, fun p hp z => ?_⟩
        rcases List.mem_append.mp hp with q' | q'
        · exact f5 p (List.mem_append_left _ q') z
        · rcases List.mem_append.mp q' with q' | q'
          · exact absurd q' (by simp)
          · have := (of_pinsAt q').1
            rw [List.mem_singleton.mp this] at z
            exact hDf (z ▸ hb)
      have q := TT'.item Y eP eW eK hcY i _ s6 (o6 :: capOf cap σ) H6 (notedBy (model X.prog X.w) X.A (compEnvC scope cl C X.env) fun e s' => compPost (model X.prog X.w) X.A X.xe use Qf (.ref D) C (.error e) s') I6p (fF' fr6) st6 go
      rw [eA] at q
      refine thn q fun r s7 ⟨u, hr, h7⟩ => ?_
      subst hr
      refine use_pure h7 fun ⟨xv, H8, I8, r8, y8, st8, fr8⟩ => ?_
      have I8' := I8.pinned (fF' fr8) (TT'.obj _ _ st8)
      have qa := hgY _ s7 (o6 :: capOf cap σ) H8 xv u _ I8' r8 (show gName 0 xv (o6 :: capOf cap σ) H8 (fun σ' H' => σ' = some xv :: capOf cap σ ∧ H' = H8) from ⟨rfl, rfl⟩)
      rw [eP, eW, eA, eE] at qa
      refine wpAny_mono qa (fun _ s9 h9 => ?_) (nofail _)
      obtain ⟨σ9, H9, I9, e9, e9'⟩ := h9
      subst e9 e9'
      have qt := htY _ s9 _ _ _ I9 (step xv _ y8)
      rw [eP, eW, eA, eE] at qt
      refine wpAny_mono qt (fun ok s10 h10 => ?_) (nofail _)
      obtain ⟨H10, I10, q10⟩ := h10
      have back : ∀ {s' : Shared} {H' : Hp}, Inv Y (([] ++ pinsAt [D] s6.heap) ++ pinsAt fp s7.heap) (some xv :: capOf cap σ) H' s' → Inv Y [] (some xv :: capOf cap σ) H' s' ∧ tn (i + 1) s'.heap ∧ (∀ b ∈ fp, H' b = none) ∧ H' D = none ∧ s'.heap.get? D = some { cls := .type "list", data := .seq us.toArray us.length } := fun {s' H'} J => by
        refine ⟨J.unpinned.unpinned, TT'.keep _ _ _ st8 fun b hb o e => (J.pin (b, o) (List.mem_append_right _ (List.mem_append_right _ (mem_pinsAt hb e)))).1, fun b hb => ?_, ?_, ?_⟩
        · obtain ⟨o, e, d⟩ := TT'.obj _ _ st8 b hb
          exact (J.pin (b, o) (List.mem_append_right _ (List.mem_append_right _ (mem_pinsAt hb e)))).2.1
        · exact (J.pin (D, _) (List.mem_append_right _ (List.mem_append_left _ (List.mem_append_right _ (mem_pinsAt (List.mem_singleton.mpr rfl) a6))))).2.1
        · exact (J.pin (D, _) (List.mem_append_right _ (List.mem_append_left _ (List.mem_append_right _ (mem_pinsAt (List.mem_singleton.mpr rfl) a6))))).1
      cases ok with
      | false =>
        rw [if_neg (by decide)] at q10 ⊢
        obtain ⟨m', hm, w10⟩ := q10
        obtain ⟨b1, b2, b3, b4, b5⟩ := back I10
        exact ⟨m', hm, i + 1, ys, us, H10, some xv, b1, b2, b3, b4, b5, v6, w10⟩
      | true =>
        rw [if_pos rfl] at q10 ⊢
        have qe := heY _ s10 _ _ _ I10 q10
        rw [eP, eW, eA, eE] at qe
        refine wpAny_mono qe (fun y s11 h11 => ?_) (nofail _)
        obtain ⟨yv, H11, I11, r11, m', hm, w11⟩ := h11
        obtain ⟨b1, b2, b3, b4, b5⟩ := back I11
        refine append_at (hsz := by rw [List.size_toArray, hul]; exact Nat.le_of_lt hz) b5 fun h12 hs12 hD12 => ?_
        have k12 : ∀ b o, b ≠ D → s11.heap.get? b = some o → h12.get? b = some o := fun b o hb e => hs12.extBut b o hb e
        obtain ⟨g0, g1, g2, g3, g4, g5⟩ := fD b4
        have I12 : Inv Y [] (some xv :: capOf cap σ) H11 { s11 with heap := h12 } := b1.turned (t' := s11.toks) k12 g0 g1 g3 g4 g5
        refine ⟨m', hm, i + 1, ys ++ [yv], us ++ [y], H11, some xv, I12, TT'.keep _ _ _ b2 fun b hb o e => k12 b o (fun z => hDf (z ▸ hb)) e, b3, b4, hD12.trans (congrArg some (lst_eq us y)), v6.append (.cons r11 .nil), w11⟩
  exact codeAny_compStart_list (key _ rfl) (TT'.self _ 0 _ _ _ st4 (key _ rfl))
theorem pe_lcomp {X : Cx} {elt iter : Expr} {ifs : List Expr} {x : Str} {px pos : Pos} {scope : Scope} {cl : List (Str × Addr)} {capN : List Str} {cap : List Nat} {wi : TI} {tc : TT} {te : TE}
    (T : CompTxt X x capN cap scope cl) (hc : X.calm = true) (hi : PI X (.Name x px) iter wi)
    (ht : ∀ C s H fp, PTs (compCx X (x :: capN) scope cl C s H fp) ifs tc) (he : ∀ C s H fp, PE (compCx X (x :: capN) scope cl C s H fp) elt te)
    (hs : ∀ x, foldedSetIterable iter X.env x = pure x := by intro _; rfl) :
    PE X (.ListComp elt [⟨.Name x px, iter, ifs, 0⟩] scope pos) (tLC wi cap tc te) := by
  intro pins s σ H Q I h
  rw [eval_ListComp]
  refine lcomp_core T hc hi ht he hs I h ?_
  rintro p C s7 H6 ys I9 ⟨m7, hn7⟩ ⟨g0, g1, g2, g3, g4, g5⟩ q
  exact ⟨m7, hn7, fun h' hs' => ⟨.ref p, _, I9.turned (t' := s7.toks) (fun b o hb e => hs'.extBut b o hb e) g0 g1 g3 g4 g5, rfl, q⟩⟩
theorem ps_setLC {X : Cx} {elt iter : Expr} {ifs : List Expr} {x : Str} {px pos : Pos} {scope : Scope} {cl : List (Str × Addr)} {capN : List Str} {cap : List Nat} {wi : TI} {tc : TT} {te : TE} {i : Nat} {y : Str} {py spos : Pos}
    (T : CompTxt X x capN cap scope cl) (hc : X.calm = true) (hi : PI X (.Name x px) iter wi)
    (ht : ∀ C s H fp, PTs (compCx X (x :: capN) scope cl C s H fp) ifs tc) (he : ∀ C s H fp, PE (compCx X (x :: capN) scope cl C s H fp) elt te)
    (hs : ∀ x, foldedSetIterable iter X.env x = pure x) (hN : X.N.Nodup) (hy : X.N[i]? = some y) (hx : Loc X.env.scope y)
    (hsw : swapsWith (.ListComp elt [⟨.Name x px, iter, ifs, 0⟩] scope pos) (some (.Name y py)) spos.line X.env = pure true) (hf : X.fn y = true ∨ X.env.scope.names.lookup y = some .local) :
    PS X (.Assign [.Name y py] (.ListComp elt [⟨.Name x px, iter, ifs, 0⟩] scope pos) spos) (tAsg (tLC wi cap tc te) (gName i)) := by
  intro pins s σ H D I h
  rw [exec_Assign_Name_used _ _ _ _ hsw]
  refine wpAny_bind (wpAny_standAt (wpAny_bind ?_))
  show wpAny _ X.A (do let _ ← comprehension (.ListComp elt [⟨.Name x px, iter, ifs, 0⟩] scope pos) scope X.env _ (newList []) false (eval iter X.env) (some (assign (.Name y py) X.env))) _ _ s
  refine wpAny_bind (wpAny_mono (lcomp_core (Qf := fun _ s' => SP X pins D .next s') T hc hi ht he hs I h ?_) (fun _ s' hq => wpAny_pure (wpAny_pure hq)) fun _ _ e => e)
  rintro p C s7 H6 ys I9 ⟨m7, hn7⟩ ⟨g0, g1, g2, g3, g4, g5⟩ q
  refine wpAny_assign_Name (store_ok2 I9 hN hy hx (v := .ref p) (show RelV (.ref p) (.ref p) from rfl) (fun s8 I8 ⟨a, hsb, ha⟩ => ?_) hf)
  have hne : C ≠ a := ha.elim (fun z => by rw [z]; exact g1) fun z => Ne.symm (g4 _ _ z)
  refine ⟨m7, hn7.sameBut hsb hne, fun h' hs' => ?_⟩
  exact ⟨_, _, I8.turned (t' := s8.toks) (fun b o hb e => hs'.extBut b o hb e) g0 g1 g3 g4 g5, q⟩
end L2

end
section
set_option Elab.async false
set_option linter.all false
set_option maxRecDepth 100000
namespace L2
open PySem PySem.Spec PyProof.Rows
def Its (z : Str) : It := ⟨fun i _ => i < z.cps.size, fun i H x H' => H' = H ∧ ∃ c, z.cps[i]? = some c ∧ x = .str ⟨#[c]⟩, fun i _ => z.cps.size ≤ i⟩
theorem turn_str {P : Program} {w : World} {K : PySem.W.Frag} {x : Str} {px : Pos} (z : Str) (it : Addr) (t : Tok) (ty : String) (hW : ∀ A' : Around, A'.handled = none → Walks P w A' it [it] [it] z.cps.size (SignAt z) fun i h => h.IsStrIter it ty z t i)
    (hself : ∀ (A : Around) (i : Nat) (s : Shared) (Q : Value → Shared → Prop) (E : Value → Shared → Prop), s.heap.IsStrIter it ty z t i → Q (.ref it) s → wpAny (model P w) A (pyIter (.ref it)) Q E s) :
    Turn P w K (.Name x px) (Its z) [it] it (fun i h => i ≤ z.cps.size ∧ h.IsStrIter it ty z t i) where
  mem := by simp
  obj := fun i h st b hb => by
    obtain rfl : b = it := by simpa using hb
    obtain ⟨o, e, c, d⟩ := st.2
    exact ⟨o, e, fun v q => by rw [d] at q; cases q⟩
  keep := fun i h h' st k => by
    obtain ⟨o, e, r⟩ := st.2
    exact ⟨st.1, o, k it (by simp) o e, r⟩
  item := by
    intro X hP hw hK hc i pins s σ H E I hf st hg
    subst hP hw hK
    obtain ⟨f0, f1, f2, f3, f4, f5⟩ := hf it (by simp)
    refine (hW X.A (I.ok.hd hc)).item i s _ _ hg st.2 fun v h' tk hv st' kk => ?_
    obtain ⟨c, u, hc', rfl⟩ := hv
    exact ⟨_, rfl, wpAny_pure ⟨.str ⟨#[c]⟩, H, I.turned (fun b o hb e => kk b o (by simpa using hb) e) f0 f1 f3 f4 f5, ⟨u, rfl⟩, ⟨rfl, c, hc', rfl⟩, ⟨hg, st'⟩, fun b hb => (hf b hb).1⟩⟩
  done := by
    intro X hP hw hK hc i pins s σ H E I hf st hg
    subst hP hw hK
    obtain ⟨f0, f1, f2, f3, f4, f5⟩ := hf it (by simp)
    obtain ⟨s1, s2⟩ := st
    have e : i = z.cps.size := Nat.le_antisymm s1 hg
    subst e
    exact (hW X.A (I.ok.hd hc)).done s _ _ s2 fun h' tk kk => ⟨rfl, I.turned (fun b o hb e => kk b o (by simpa using hb) e) f0 f1 f3 f4 f5⟩
  self := fun A i s Q E st h => hself A i s Q E st.2 h
def iStr (tl : TE) : TI := fun σ H R => tl σ H fun x H1 => ∃ z, x = .str z ∧ R (Its z) H1
theorem pi_str {X : Cx} {x : Str} {px : Pos} {l : Expr} {tl : TE} (hl : PE X l tl) : PI X (.Name x px) l (iStr tl) := by
  intro pins s σ H R I h
  refine thn (hl pins s σ H _ I h) fun v s1 ⟨y, H1, I1, r1, q1⟩ => ?_
  obtain ⟨z, rfl, q⟩ := q1
  obtain ⟨t, rfl⟩ := r1
  refine wpAny_pyIter_strU ?_
  have hst : ∀ ty, strIterType z = ty → (s1.heap.push { cls := .type (strIterType z), data := .fields #[.str z t, .int 0 0] }).IsStrIter s1.heap.objs.size ty z t 0 := fun ty e => ⟨_, Heap.get?_push_size _ rfl, by rw [← e], rfl⟩
  have go : ∀ ty, strIterType z = ty → (∀ A' : Around, A'.handled = none → Walks X.prog X.w A' s1.heap.objs.size [s1.heap.objs.size] [s1.heap.objs.size] z.cps.size (SignAt z) fun i h => h.IsStrIter s1.heap.objs.size ty z t i) →
      (∀ (A : Around) (i : Nat) (s : Shared) (Q : Value → Shared → Prop) (E : Value → Shared → Prop), s.heap.IsStrIter s1.heap.objs.size ty z t i → Q (.ref s1.heap.objs.size) s → wpAny (model X.prog X.w) A (pyIter (.ref s1.heap.objs.size)) Q E s) →
      PIE X pins σ (.Name x px) R (.ref s1.heap.objs.size) { s1 with heap := s1.heap.push { cls := .type (strIterType z), data := .fields #[.str z t, .int 0 0] } } := fun ty e hW hself => by
    refine ⟨s1.heap.objs.size, [s1.heap.objs.size], _, _, H1, rfl, I1.kept (t' := s1.toks) fun b o e => Heap.get?_push_of_some _ e, turn_str z _ t ty hW hself, ⟨Nat.zero_le _, hst ty e⟩, fun b hb => ?_, q⟩
    obtain rfl : b = s1.heap.objs.size := by simpa using hb
    exact I1.fpOk (Nat.le_refl _) (I1.hok.fresh (Nat.le_refl _))
  cases ha : z.cps.all (· < 128)
  · exact go "str_iterator" (by simp [strIterType, ha]) (fun A' hA => Walks.strWide hA _ z t) fun A i s Q E st h => wpAny_pyIter_striter_wide st h
  · exact go "str_ascii_iterator" (by simp [strIterType, ha]) (fun A' hA => Walks.strAscii hA _ z t) fun A i s Q E st h => wpAny_pyIter_striter_ascii st h
end L2

end
section
set_option Elab.async false
set_option linter.all false
set_option maxRecDepth 100000
namespace L2
open PySem PySem.Spec PyProof.Rows
inductive D where
  | non | bl (b : Bool) | int (i : Int) | str (z : Str) | tup (ds : List D) | lst (ds : List D)
mutual
inductive Rep (H : Hp) : V → D → Prop
  | non : Rep H .non .non
  | bl (b : Bool) : Rep H (.bl b) (.bl b)
  | int (i : Int) : Rep H (.int i) (.int i)
  | str (z : Str) : Rep H (.str z) (.str z)
  | tup {a : Addr} {vs : List V} {ds : List D} (e : H a = some (.tup vs)) (r : Reps H vs ds) : Rep H (.ref a) (.tup ds)
  | lst {a : Addr} {vs : List V} {ds : List D} (e : H a = some (.lst vs)) (r : Reps H vs ds) : Rep H (.ref a) (.lst ds)
inductive Reps (H : Hp) : List V → List D → Prop
  | nil : Reps H [] []
  | cons {v : V} {d : D} {vs : List V} {ds : List D} (r : Rep H v d) (rs : Reps H vs ds) : Reps H (v :: vs) (d :: ds)
end
def isSq : HO → Bool
  | .lst _ => true
  | .tup _ => true
  | .frz _ _ => true
  | _ => false
def Grow (H H' : Hp) : Prop := ∀ b o, isSq o = true → H b = some o → H' b = some o
theorem Grow.refl (H : Hp) : Grow H H := fun _ _ _ h => h
theorem Grow.trans {H H1 H2 : Hp} (x : Grow H H1) (y : Grow H1 H2) : Grow H H2 := fun b o s h => y b o s (x b o s h)
theorem Grow.seq {K : PySem.W.Frag} {H H' : Hp} {a : Addr} {xs : List V} (e : Grow H H') (h : SqL K H a xs) : SqL K H' a xs := by
  rcases h with (h | ⟨o, h⟩) | h
  · exact .inl (.inl (e _ _ rfl h))
  · exact .inl (.inr ⟨o, e _ _ rfl h⟩)
  · exact .inr h
theorem Grow.of {H H' : Hp} (x : Same H H') : Grow H H' := fun b o _ h => x b o h
mutual
theorem Rep.grow {H H' : Hp} (g : Grow H H') : ∀ {v : V} {d : D}, Rep H v d → Rep H' v d
  | _, _, .non => .non
  | _, _, .bl b => .bl b
  | _, _, .int i => .int i
  | _, _, .str z => .str z
  | _, _, .tup e r => .tup (g _ _ rfl e) (Reps.grow g r)
  | _, _, .lst e r => .lst (g _ _ rfl e) (Reps.grow g r)
theorem Reps.grow {H H' : Hp} (g : Grow H H') : ∀ {vs : List V} {ds : List D}, Reps H vs ds → Reps H' vs ds
  | _, _, .nil => .nil
  | _, _, .cons r rs => .cons (Rep.grow g r) (Reps.grow g rs)
end
theorem Reps.length {H : Hp} : ∀ {vs : List V} {ds : List D}, Reps H vs ds → vs.length = ds.length
  | _, _, .nil => rfl
  | _, _, .cons _ rs => congrArg Nat.succ (Reps.length rs)
theorem Reps.get {H : Hp} : ∀ {vs : List V} {ds : List D} {i : Nat} {d : D}, Reps H vs ds → ds[i]? = some d → ∃ v, vs[i]? = some v ∧ Rep H v d
  | _, _, _, _, .nil, e => by simp at e
  | _, _, 0, _, .cons r _, e => by simp at e; subst e; exact ⟨_, rfl, r⟩
  | _, _, i + 1, _, .cons _ rs, e => by
    obtain ⟨v, h1, h2⟩ := Reps.get (i := i) rs (by simpa using e)
    exact ⟨v, by simpa using h1, h2⟩
theorem Reps.append {H : Hp} : ∀ {vs ws : List V} {ds es : List D}, Reps H vs ds → Reps H ws es → Reps H (vs ++ ws) (ds ++ es)
  | _, _, _, _, .nil, s => s
  | _, _, _, _, .cons r rs, s => .cons r (Reps.append rs s)
theorem Reps.take {H : Hp} : ∀ {vs : List V} {ds : List D} (n : Nat), Reps H vs ds → Reps H (vs.take n) (ds.take n)
  | _, _, 0, _ => .nil
  | _, _, _ + 1, .nil => .nil
  | _, _, n + 1, .cons r rs => .cons r (Reps.take n rs)
theorem Reps.drop {H : Hp} : ∀ {vs : List V} {ds : List D} (n : Nat), Reps H vs ds → Reps H (vs.drop n) (ds.drop n)
  | _, _, 0, rs => rs
  | _, _, _ + 1, .nil => .nil
  | _, _, n + 1, .cons _ rs => Reps.drop n rs
def tyN : D → String
  | .non => "NoneType" | .bl _ => "bool" | .int _ => "int" | .str _ => "str" | .tup _ => "tuple" | .lst _ => "list"
open PySem.W in
def kitD (T U : String) : Option Bool := if (Value.type T == Value.type U) = true then some true else if kitMeta U = true then (fastBuiltinMro T).map (·.contains (Value.type U)) else none
theorem Rep.ty {K : PySem.W.Frag} {H : Hp} {v : V} {d : D} (r : Rep H v d) : TyOf K H v (.type (tyN d)) := by
  cases r with
  | non => exact .non
  | bl b => exact .bl b
  | int i => exact .int i
  | str z => exact .str z
  | tup e _ => exact .tup e
  | lst e _ => exact .lst e
def isTupD : D → Bool
  | .tup _ => true
  | _ => false
def isLstD : D → Bool
  | .lst _ => true
  | _ => false
def isStrD : D → Bool
  | .str _ => true
  | _ => false
def isBlD : D → Bool
  | .bl _ => true
  | _ => false
def isIntD : D → Bool
  | .int _ => true
  | .bl _ => true
  | _ => false
end L2

end
section
set_option Elab.async false
set_option linter.all false
set_option maxRecDepth 100000
namespace HT
open PySem PySem.Spec PyProof.Rows
section
variable {prog : Program} {w : World} {A : Around} {E : Value → Shared → Prop} {s : Shared}
end
end HT

end
section
set_option Elab.async false
set_option linter.all false
set_option maxRecDepth 100000
namespace L2
open PySem PySem.Spec PyProof.Rows
section
variable {X : Cx}
theorem Rep.tupAt {H : Hp} {v : V} {ds : List D} (r : Rep H v (.tup ds)) : ∃ a vs, v = .ref a ∧ H a = some (.tup vs) ∧ Reps H vs ds := by
  cases r with
  | tup e rs => exact ⟨_, _, rfl, e, rs⟩
theorem Rep.lstAt {H : Hp} {v : V} {ds : List D} (r : Rep H v (.lst ds)) : ∃ a vs, v = .ref a ∧ H a = some (.lst vs) ∧ Reps H vs ds := by
  cases r with
  | lst e rs => exact ⟨_, _, rfl, e, rs⟩
def cutD (ds : List D) (lo hi : Option Int) : List D := (ds.drop (HT.sIx ds.length 0 lo)).take (HT.sIx ds.length ds.length hi - HT.sIx ds.length 0 lo)
theorem Reps.atI {H : Hp} {vs : List V} {ds : List D} {i : Int} {d : D} (r : Reps H vs ds) (h : L2.atI ds i = some d) : ∃ v, L2.atI vs i = some v ∧ Rep H v d := by
  have hl := r.length
  unfold L2.atI at h ⊢
  rw [hl]
  cases e : ixN ds.length i with
  | none => rw [e] at h; cases h
  | some j =>
    rw [e] at h
    exact r.get h
end
end L2

end
section
set_option Elab.async false
set_option linter.all false
set_option maxRecDepth 100000
namespace L2
open PySem PySem.Spec PyProof.Rows
mutual
def Fit (n : Nat) : D → Prop
  | .str z => z.length ≤ n
  | .tup ds => ds.length ≤ n ∧ Fits n ds
  | .lst ds => ds.length ≤ n ∧ Fits n ds
  | .non => True
  | .bl _ => True
  | .int _ => True
def Fits (n : Nat) : List D → Prop
  | [] => True
  | d :: ds => Fit n d ∧ Fits n ds
end
mutual
theorem Fit.mono {n m : Nat} (l : n ≤ m) : ∀ {d : D}, Fit n d → Fit m d
  | .str _, h => Nat.le_trans h l
  | .tup _, h => ⟨Nat.le_trans h.1 l, Fits.mono l h.2⟩
  | .lst _, h => ⟨Nat.le_trans h.1 l, Fits.mono l h.2⟩
  | .non, _ => True.intro
  | .bl _, _ => True.intro
  | .int _, _ => True.intro
theorem Fits.mono {n m : Nat} (l : n ≤ m) : ∀ {ds : List D}, Fits n ds → Fits m ds
  | [], _ => True.intro
  | _ :: _, h => ⟨Fit.mono l h.1, Fits.mono l h.2⟩
end
theorem Fits.append {n : Nat} : ∀ {ds es : List D}, Fits n ds → Fits n es → Fits n (ds ++ es)
  | [], _, _, h => h
  | _ :: _, _, h, k => ⟨h.1, Fits.append h.2 k⟩
theorem Fits.take {n : Nat} : ∀ {ds : List D} (k : Nat), Fits n ds → Fits n (ds.take k)
  | _, 0, _ => True.intro
  | [], _ + 1, _ => True.intro
  | _ :: _, k + 1, h => ⟨h.1, Fits.take k h.2⟩
theorem Fits.drop {n : Nat} : ∀ {ds : List D} (k : Nat), Fits n ds → Fits n (ds.drop k)
  | _, 0, h => h
  | [], _ + 1, _ => True.intro
  | _ :: _, k + 1, h => Fits.drop k h.2
theorem Fits.get {n : Nat} : ∀ {ds : List D} {i : Nat} {d : D}, Fits n ds → ds[i]? = some d → Fit n d
  | [], _, _, _, e => by simp at e
  | _ :: _, 0, _, h, e => by simp at e; subst e; exact h.1
  | _ :: _, i + 1, _, h, e => Fits.get (i := i) h.2 (by simpa using e)
theorem cutD_length (ds : List D) (lo hi : Option Int) : (cutD ds lo hi).length ≤ ds.length := by
  unfold cutD
  rw [List.length_take, List.length_drop]
  omega
theorem Fits.cut {n : Nat} {ds : List D} (h : Fits n ds) (lo hi : Option Int) : Fits n (cutD ds lo hi) := (h.drop _).take _
def wholeD (d : D) (l m : Int) : Bool := match d with
  | .int i => decide (l ≤ i) && decide (i ≤ m)
  | _ => false
end L2

end
section
set_option Elab.async false
set_option linter.all false
set_option maxRecDepth 100000
namespace L2
open PySem PySem.Spec PyProof.Rows
theorem lookup_some {α : Type} : ∀ {l : List (Str × α)} {n : Str}, n ∈ l.map (·.1) → ∃ c, l.lookup n = some c
  | [], _, h => by simp at h
  | (m, c) :: l, n, h => by
    rw [List.lookup_cons]
    cases e : n == m with
    | true => exact ⟨c, rfl⟩
    | false =>
      rcases List.mem_cons.mp h with h | h
      · have h : n = m := h
        rw [h, beq_self_eq_true] at e
        cases e
      · exact lookup_some h
theorem vals3 {x y z : V} {us : List Value} (r : Vals [x, y, z] us) : ∃ u v w', us = [u, v, w'] ∧ RelV x u ∧ RelV y v ∧ RelV z w' := by
  cases r with
  | cons r1 r =>
    obtain ⟨v, w', rfl, r2, r3⟩ := vals2 r
    exact ⟨_, _, _, rfl, r1, r2, r3⟩
end L2

end
section
set_option Elab.async false
set_option linter.all false
set_option maxRecDepth 100000
namespace L2
open PySem PySem.Spec PyProof.Rows
end L2

end
section
set_option Elab.async false
set_option linter.all false
set_option maxRecDepth 100000
namespace L2
open PySem PySem.Spec PyProof.Rows
mutual
def toPy : D → PyData
  | .non => .none
  | .bl b => .bool b
  | .int i => .int i
  | .str z => .str z
  | .tup ds => .tuple (toPys ds)
  | .lst ds => .list (toPys ds)
def toPys : List D → List PyData
  | [] => []
  | d :: ds => toPy d :: toPys ds
end
section
variable {X : Cx} {pins : List (Addr × Obj)} {σ : St} {H : Hp} {s : Shared}
mutual
theorem Rep.reads (I : Inv X pins σ H s) : ∀ {v : V} {d : D} {u : Value}, Rep H v d → RelV v u → ∃ as, Reads s.heap u (toPy d) as
  | _, _, _, .non, r => by cases r; exact ⟨[], .none⟩
  | _, _, _, .bl b, r => by cases r; exact ⟨[], .bool b⟩
  | _, _, _, .int i, r => by obtain ⟨t, rfl⟩ := r; exact ⟨[], .int i t⟩
  | _, _, _, .str z, r => by obtain ⟨t, rfl⟩ := r; exact ⟨[], .str z t⟩
  | _, _, _, .tup e rs, r => by
    cases r
    obtain ⟨its, rv, p, hz⟩ := I.tuple (SqT.of (K := X.K) e)
    obtain ⟨as, h⟩ := Reps.reads I rs rv
    obtain ⟨o, ho, hc, n, hd⟩ := p
    exact ⟨as, .tuple ho hc hd (by simpa using h)⟩
  | _, _, _, .lst e rs, r => by
    cases r
    obtain ⟨its, rv, p, hz⟩ := I.list (SqL.of (K := X.K) e)
    obtain ⟨as, h⟩ := Reps.reads I rs rv
    obtain ⟨o, ho, hc, n, hd⟩ := p.isList
    exact ⟨_ :: as, .list ho hc hd (by simpa using h)⟩
theorem Reps.reads (I : Inv X pins σ H s) : ∀ {vs : List V} {ds : List D} {us : List Value}, Reps H vs ds → Vals vs us → ∃ as, ReadsAll s.heap us (toPys ds) as
  | _, _, _, .nil, r => by cases r; exact ⟨[], .nil⟩
  | _, _, _, .cons q qs, r => by
    cases r with
    | cons r rs =>
      obtain ⟨as, h⟩ := Rep.reads I q r
      obtain ⟨bs, k⟩ := Reps.reads I qs rs
      exact ⟨as ++ bs, .cons h k⟩
end
end
mutual
theorem toPy_noDict : ∀ d : D, (toPy d).hasDict = false
  | .non => rfl
  | .bl _ => rfl
  | .int _ => rfl
  | .str _ => rfl
  | .tup ds => toPys_noDict ds
  | .lst ds => toPys_noDict ds
theorem toPys_noDict : ∀ ds : List D, PyData.hasDictAll (toPys ds) = false
  | [] => rfl
  | d :: ds => by
    show ((toPy d).hasDict || PyData.hasDictAll (toPys ds)) = false
    rw [toPy_noDict d, toPys_noDict ds]
    rfl
end
end L2

end
section
set_option Elab.async false
set_option linter.all false
set_option maxRecDepth 100000
/-! Programs over trees. A slot holds a tree that nobody writes to (t), an object of its own (m), or one that was lent (b).
A text's meaning is a function of the slots; what the function tells is what the text does (JE, JS below). -/
namespace L2
open PySem PySem.Spec PyProof.Rows
inductive MO where
  | lst (ds : List D)
  | dct (kvs : List (Key × D))
  | dtt (kvs : List (List Key × D))
inductive U where
  | t (d : D) | m (o : MO) | b (o : MO) | v (i : Nat) | s (ns : List Int)
abbrev SS := List (Option U)
def Sub (F H : Hp) : Prop := ∀ a o, F a = some o → H a = some o
def PairD {κ : Type} (F : Hp) (p : κ × V) (q : κ × D) : Prop := p.1 = q.1 ∧ Rep F p.2 q.2
def At (F H : Hp) (a : Addr) : MO → Prop
  | .lst ds => ∃ vs, H a = some (.lst vs) ∧ Reps F vs ds
  | .dct kvs => ∃ ws, H a = some (.dK ws) ∧ Paired (PairD F) ws kvs
  | .dtt kvs => ∃ ws, H a = some (.dT ws) ∧ Paired (PairD F) ws kvs
def isMut : U → Bool
  | .m _ => true
  | .b _ => true
  | _ => false
def mutAt (S : SS) (σ : St) (a : Addr) : Prop := ∃ (i : Nat) (u : U), S[i]? = some (some u) ∧ isMut u = true ∧ σ[i]? = some (some (.ref a))
def Scr (K : PySem.W.Frag) (H : Hp) (a : Addr) (ns : List Int) : Prop :=
  (∃ o, H a = some (.frz o (.lst (ns.map V.int)))) ∨ ∃ (o : Obj) (its : Array Value) (n : Nat), K.lookup a = some o ∧ o.cls = .type "list" ∧ o.dict = none ∧ o.data = .seq its n ∧ its.size ≤ sizeLine ∧ Vals (ns.map V.int) its.toList
theorem Scr.sq {K : PySem.W.Frag} {H : Hp} {a : Addr} {ns : List Int} : Scr K H a ns → SqL K H a (ns.map V.int)
  | .inl h => .inl (.inr h)
  | .inr h => .inr h
def RepU (K : PySem.W.Frag) (F H : Hp) (v : V) : U → Prop
  | .t d => Rep F v d
  | .m o => ∃ a, v = .ref a ∧ F a = none ∧ At F H a o
  | .b o => ∃ a, v = .ref a ∧ F a = none ∧ At F H a o
  | .v _ => False
  | .s ns => ∃ a, v = .ref a ∧ Scr K H a ns
structure Ext (M : Addr → Prop) (F H F' H' : Hp) : Prop where
  le : ∀ b o, F b = some o → F' b = some o
  keep : ∀ b o, H b = some o → ¬ M b → H' b = some o
  nofr : ∀ b o, H b = some o → ¬ M b → F b = none → F' b = none
  there : ∀ b o, H b = some o → ∃ o', H' b = some o'
  frz : ∀ b o u, H b = some (.frz o u) → H' b = some (.frz o u)
structure Base where
  P : List (Option Addr)
  F : Hp
  H : Hp
def Base.M (B : Base) (a : Addr) : Prop := some a ∈ B.P
structure Rel (K : PySem.W.Frag) (B : Base) (S : SS) (σ : St) (F H : Hp) : Prop where
  sub : Sub F H
  len : S.length = σ.length
  rep : ∀ (i : Nat) u, S[i]? = some (some u) → ∃ v, σ[i]? = some (some v) ∧ RepU K F H v u
  dis : ∀ (i j : Nat) u w a, S[i]? = some (some u) → isMut u = true → S[j]? = some (some w) → isMut w = true → σ[i]? = some (some (.ref a)) → σ[j]? = some (some (.ref a)) → i = j
  own : ∀ (i : Nat) o a, S[i]? = some (some (.m o)) → σ[i]? = some (some (.ref a)) → B.H a = none
  bor : ∀ (i : Nat) o a, S[i]? = some (some (.b o)) → σ[i]? = some (some (.ref a)) → B.M a
  par : ∀ (i : Nat) a, B.P[i]? = some (some a) → σ[i]? = some (some (.ref a)) ∧ ∃ o, S[i]? = some (some (.b o))
  ext : Ext B.M B.F B.H F H
structure Step (S S' : SS) (σ : St) (F H F' H' : Hp) : Prop where
  ext : Ext (mutAt S σ) F H F' H'
  mu : ∀ a, mutAt S' σ a → mutAt S σ a
  slots : ∀ (i : Nat) u, S[i]? = some (some u) → ∃ u', S'[i]? = some (some u')
theorem Ext.refl (M : Addr → Prop) (F H : Hp) : Ext M F H F H := ⟨fun _ _ h => h, fun _ _ h _ => h, fun _ _ _ _ h => h, fun _ o h => ⟨o, h⟩, fun _ _ _ h => h⟩
theorem Ext.trans {M M' : Addr → Prop} {F H F1 H1 F2 H2 : Hp} (x : Ext M F H F1 H1) (y : Ext M' F1 H1 F2 H2) (s : ∀ b, M' b → M b ∨ H b = none) : Ext M F H F2 H2 where
  le := fun b o h => y.le b o (x.le b o h)
  keep := fun b o h n => y.keep b o (x.keep b o h n) fun q => (s b q).elim n fun z => by rw [h] at z; cases z
  nofr := fun b o h n f => y.nofr b o (x.keep b o h n) (fun q => (s b q).elim n fun z => by rw [h] at z; cases z) (x.nofr b o h n f)
  there := fun b o h => let ⟨o', h'⟩ := x.there b o h; y.there b o' h'
  frz := fun b o u h => y.frz b o u (x.frz b o u h)
theorem Step.refl (S : SS) (σ : St) (F H : Hp) : Step S S σ F H F H := ⟨Ext.refl _ _ _, fun _ h => h, fun _ u h => ⟨u, h⟩⟩
theorem Step.trans {S S1 S2 : SS} {σ : St} {F H F1 H1 F2 H2 : Hp} (x : Step S S1 σ F H F1 H1) (y : Step S1 S2 σ F1 H1 F2 H2) : Step S S2 σ F H F2 H2 :=
  ⟨x.ext.trans y.ext fun b q => .inl (x.mu b q), fun a q => x.mu a (y.mu a q), fun i u h => let ⟨u', h'⟩ := x.slots i u h; y.slots i u' h'⟩
mutual
theorem Rep.le {F F' : Hp} (g : ∀ b o, F b = some o → F' b = some o) : ∀ {v : V} {d : D}, Rep F v d → Rep F' v d
  | _, _, .non => .non
  | _, _, .bl b => .bl b
  | _, _, .int i => .int i
  | _, _, .str z => .str z
  | _, _, .tup e r => .tup (g _ _ e) (Reps.le g r)
  | _, _, .lst e r => .lst (g _ _ e) (Reps.le g r)
theorem Reps.le {F F' : Hp} (g : ∀ b o, F b = some o → F' b = some o) : ∀ {vs : List V} {ds : List D}, Reps F vs ds → Reps F' vs ds
  | _, _, .nil => .nil
  | _, _, .cons r rs => .cons (Rep.le g r) (Reps.le g rs)
end
theorem pairs_le {κ : Type} {F F' : Hp} (g : ∀ b o, F b = some o → F' b = some o) {ws : List (κ × V)} {kvs : List (κ × D)} (r : Paired (PairD F) ws kvs) : Paired (PairD F') ws kvs :=
  Paired.mapP r fun _ _ z => ⟨z.1, z.2.le g⟩
theorem At.le {F F' H H' : Hp} {a : Addr} (g : ∀ b o, F b = some o → F' b = some o) (k : ∀ o, H a = some o → H' a = some o) : ∀ {o : MO}, At F H a o → At F' H' a o
  | .lst _, ⟨vs, e, r⟩ => ⟨vs, k _ e, r.le g⟩
  | .dct _, ⟨ws, e, r⟩ => ⟨ws, k _ e, pairs_le g r⟩
  | .dtt _, ⟨ws, e, r⟩ => ⟨ws, k _ e, pairs_le g r⟩
theorem At.has {F H : Hp} {a : Addr} : ∀ {o : MO}, At F H a o → ∃ u, H a = some u
  | .lst _, ⟨_, e, _⟩ => ⟨_, e⟩
  | .dct _, ⟨_, e, _⟩ => ⟨_, e⟩
  | .dtt _, ⟨_, e, _⟩ => ⟨_, e⟩
def RepR (K : PySem.W.Frag) (B : Base) (S : SS) (σ : St) (H0 F H : Hp) (v : V) : U → Prop
  | .t d => Rep F v d
  | .m o => ∃ a, v = .ref a ∧ H0 a = none ∧ F a = none ∧ At F H a o ∧ ¬ mutAt S σ a ∧ B.H a = none
  | .v i => σ[i]? = some (some v) ∧ ∃ u, S[i]? = some (some u)
  | .b _ => False
  | .s ns => ∃ a, v = .ref a ∧ Scr K H a ns
theorem PE.imp {X : Cx} {e : Expr} {t t' : TE} (h : PE X e t) (k : ∀ σ H Q, t' σ H Q → t σ H Q) : PE X e t' := fun pins s σ H Q I q => h pins s σ H Q I (k σ H Q q)
theorem PT.imp {X : Cx} {e : Expr} {t t' : TT} (h : PT X e t) (k : ∀ σ H Q, t' σ H Q → t σ H Q) : PT X e t' := fun pins s σ H Q I q => h pins s σ H Q I (k σ H Q q)
theorem PW.imp {X : Cx} {e : Expr} {t t' : TT} (h : PW X e t) (k : ∀ σ H Q, t' σ H Q → t σ H Q) : PW X e t' := fun w pins s σ H Q I q => h w pins s σ H Q I (k σ H Q q)
theorem PA.imp {X : Cx} {e : List Expr} {t t' : TA} (h : PA X e t) (k : ∀ σ H Q, t' σ H Q → t σ H Q) : PA X e t' := fun p pins s σ H Q I q => h p pins s σ H Q I (k σ H Q q)
theorem PS.imp {X : Cx} {e : Stmt} {t t' : TS} (h : PS X e t) (k : ∀ D σ H, t' D σ H → t D σ H) : PS X e t' := fun pins s σ H Q I q => h pins s σ H Q I (k Q σ H q)
theorem PSs.imp {X : Cx} {e : List Stmt} {t t' : TS} (h : PSs X e t) (k : ∀ D σ H, t' D σ H → t D σ H) : PSs X e t' := fun pins s σ H Q I q => h pins s σ H Q I (k Q σ H q)
theorem PE.orelse {X : Cx} {e : Expr} {t : TE} (h : ∀ σ H Q, t σ H Q → ∃ t', PE X e t' ∧ t' σ H Q) : PE X e t := fun pins s σ H Q I q => let ⟨_, h1, h2⟩ := h σ H Q q; h1 pins s σ H Q I h2
theorem PS.orelse {X : Cx} {e : Stmt} {t : TS} (h : ∀ D σ H, t D σ H → ∃ t', PS X e t' ∧ t' D σ H) : PS X e t := fun pins s σ H Q I q => let ⟨_, h1, h2⟩ := h Q σ H q; h1 pins s σ H Q I h2
abbrev GE := SS → Option (U × SS)
abbrev GD := SS → Option (D × SS)
abbrev GT := SS → Option (Bool × SS)
abbrev GA := SS → Option (List D × SS)
inductive Out where
  | nx (S : SS) | rt (u : U) (S : SS) | bk (S : SS) | ct (S : SS)
abbrev GS := SS → Option Out
def tE (K : PySem.W.Frag) (B : Base) (g : GE) : TE := fun σ H Q => ∃ S F u S', Rel K B S σ F H ∧ g S = some (u, S') ∧ ∀ v F' H', Rel K B S' σ F' H' → Step S S' σ F H F' H' → RepR K B S' σ H F' H' v u → Q v H'
def tD (K : PySem.W.Frag) (B : Base) (g : GD) : TE := fun σ H Q => ∃ S F d S', Rel K B S σ F H ∧ g S = some (d, S') ∧ ∀ v F' H', Rel K B S' σ F' H' → Step S S' σ F H F' H' → Rep F' v d → Q v H'
def tQ (K : PySem.W.Frag) (B : Base) (g : GT) : TT := fun σ H Q => ∃ S F b S', Rel K B S σ F H ∧ g S = some (b, S') ∧ ∀ F' H', Rel K B S' σ F' H' → Step S S' σ F H F' H' → Q b H'
def tAs (K : PySem.W.Frag) (B : Base) (g : GA) : TA := fun σ H Q => ∃ S F ds S', Rel K B S σ F H ∧ g S = some (ds, S') ∧ ∀ vs F' H', Rel K B S' σ F' H' → Step S S' σ F H F' H' → Reps F' vs ds → Q vs H'
def OutOk (K : PySem.W.Frag) (B : Base) (F : Hp) (D : Ends) : Out → Prop
  | .nx S => ∀ σ' F' H', Rel K B S σ' F' H' → (∀ b o, F b = some o → F' b = some o) → D.nx σ' H'
  | .bk S => ∀ σ' F' H', Rel K B S σ' F' H' → (∀ b o, F b = some o → F' b = some o) → D.bk σ' H'
  | .ct S => ∀ σ' F' H', Rel K B S σ' F' H' → (∀ b o, F b = some o → F' b = some o) → D.ct σ' H'
  | .rt u S => ∀ v σ' F' H', Rel K B S σ' F' H' → (∀ b o, F b = some o → F' b = some o) → RepR K B S σ' B.H F' H' v u → D.rt v H'
def tO (K : PySem.W.Frag) (B : Base) (g : GS) : TS := fun D σ H => ∃ S F o, Rel K B S σ F H ∧ g S = some o ∧ OutOk K B F D o
structure JE (X : Cx) (e : Expr) (g : GE) : Prop where
  h : ∀ B, PE X e (tE X.K B g)
structure JD (X : Cx) (e : Expr) (g : GD) : Prop where
  h : ∀ B, PE X e (tD X.K B g)
structure JT (X : Cx) (e : Expr) (g : GT) : Prop where
  h : ∀ B, PT X e (tQ X.K B g)
structure JW (X : Cx) (e : Expr) (g : GT) : Prop where
  h : ∀ B, PW X e (tQ X.K B g)
structure JA (X : Cx) (es : List Expr) (g : GA) : Prop where
  h : ∀ B, PA X es (tAs X.K B g)
structure JS (X : Cx) (st : Stmt) (g : GS) : Prop where
  h : ∀ B, PS X st (tO X.K B g)
structure JB (X : Cx) (st : List Stmt) (g : GS) : Prop where
  h : ∀ B, PSs X st (tO X.K B g)
def fz : U → SS → Option (D × SS)
  | .t d, S => some (d, S)
  | .m (.lst ds), S => some (.lst ds, S)
  | .v i, S => match S[i]? with
    | some (some (.t d)) => some (d, S)
    | some (some (.m (.lst ds))) => some (.lst ds, S.set i (some (.t (.lst ds))))
    | _ => none
  | _, _ => none
theorem get_set {α : Type} {l : List α} {i j : Nat} {x y : α} (h : (l.set i x)[j]? = some y) : (i = j ∧ x = y ∧ i < l.length) ∨ (i ≠ j ∧ l[j]? = some y) := by
  by_cases e : i = j
  · subst e
    by_cases hl : i < l.length
    · rw [List.getElem?_set_self hl] at h; exact .inl ⟨rfl, Option.some.inj h, hl⟩
    · rw [List.getElem?_eq_none (by simpa using hl)] at h; cases h
  · rw [List.getElem?_set_ne e] at h; exact .inr ⟨e, h⟩
theorem Sub.frz {F H : Hp} {a : Addr} {o : HO} (s : Sub F H) (h : H a = some o) : Sub (upd F a o) H := fun b u e => by
  by_cases hb : b = a
  · subst hb; rw [upd_same] at e; cases e; exact h
  · rw [upd_ne hb] at e; exact s b u e
theorem Sub.fresh {F H : Hp} {p : Addr} (s : Sub F H) (h : H p = Option.none) : F p = Option.none := by
  cases e : F p with
  | none => rfl
  | some o => have q := s p o e; rw [h] at q; cases q
theorem le_upd {F : Hp} {a : Addr} {o : HO} (h : F a = none) : ∀ b u, F b = some u → upd F a o b = some u := fun b u e => by rw [upd_ne (ne_of_none e h)]; exact e
theorem Scr.le {K : PySem.W.Frag} {H H' : Hp} {a : Addr} {ns : List Int} (k : ∀ b o u, H b = some (.frz o u) → H' b = some (.frz o u)) : Scr K H a ns → Scr K H' a ns
  | .inl ⟨o, h⟩ => .inl ⟨o, k _ _ _ h⟩
  | .inr h => .inr h
theorem RepU.le {K : PySem.W.Frag} {F F' H H' : Hp} {v : V} (g : ∀ b o, F b = some o → F' b = some o) (kf : ∀ b o u, H b = some (.frz o u) → H' b = some (.frz o u)) : ∀ {u : U}, RepU K F H v u → (∀ a, isMut u = true → v = .ref a → (∀ o, H a = some o → H' a = some o) ∧ F' a = none) → RepU K F' H' v u
  | .t _, h, _ => Rep.le g h
  | .m _, ⟨a, e, _, h⟩, k => let ⟨k1, k2⟩ := k a rfl e; ⟨a, e, k2, h.le g k1⟩
  | .b _, ⟨a, e, _, h⟩, k => let ⟨k1, k2⟩ := k a rfl e; ⟨a, e, k2, h.le g k1⟩
  | .v _, h, _ => h
  | .s _, ⟨a, e, h⟩, _ => ⟨a, e, h.le kf⟩
theorem fz_ok {K : PySem.W.Frag} {B : Base} {S S' : SS} {σ : St} {H0 F0 F H : Hp} {v : V} {u : U} {d : D} {S0 : SS} (R : Rel K B S σ F H) (st : Step S0 S σ F0 H0 F H) (r : RepR K B S σ H0 F H v u) (e : fz u S = some (d, S')) :
    ∃ F', Rel K B S' σ F' H ∧ Step S0 S' σ F0 H0 F' H ∧ Rep F' v d := by
  cases u with
  | t d' => cases e; exact ⟨F, R, st, r⟩
  | b o => cases r
  | s o => cases e
  | m o =>
    cases o with
    | dct kvs => cases e
    | dtt kvs => cases e
    | lst ds =>
      cases e
      obtain ⟨a, rfl, h0, hf, ⟨vs, ha, rs⟩, nm, hB⟩ := r
      have g := le_upd (o := .lst vs) hf
      refine ⟨upd F a (.lst vs), ⟨R.sub.frz ha, R.len, fun i u h => ?_, R.dis, R.own, R.bor, R.par, ?_⟩, ⟨⟨fun b o h => g b o (st.ext.le b o h), st.ext.keep, fun b o h n f => ?_, st.ext.there, st.ext.frz⟩, st.mu, st.slots⟩, .lst upd_same (rs.le g)⟩
      · obtain ⟨w, h1, h2⟩ := R.rep i u h
        refine ⟨w, h1, h2.le g (fun _ _ _ z => z) fun c hm hc => ⟨fun o q => q, ?_⟩⟩
        have hca : c ≠ a := fun z => nm ⟨i, u, h, hm, by rw [h1, hc, z]⟩
        rw [upd_ne hca]
        cases u with
        | m o => obtain ⟨c', e', f', _⟩ := h2; rw [hc] at e'; cases e'; exact f'
        | b o => obtain ⟨c', e', f', _⟩ := h2; rw [hc] at e'; cases e'; exact f'
        | t d => cases hm
        | v j => cases hm
        | s j => cases hm
      · exact ⟨fun b o h => g b o (R.ext.le b o h), R.ext.keep, fun b o h n f => by rw [upd_ne (fun z => by rw [z, hB] at h; cases h)]; exact R.ext.nofr b o h n f, R.ext.there, R.ext.frz⟩
      · rw [upd_ne (fun z => by rw [z, h0] at h; cases h)]
        exact st.ext.nofr b o h n f
  | v i =>
    obtain ⟨hv, u, hu⟩ := r
    unfold fz at e
    simp only [hu] at e
    cases u with
    | t d' =>
      cases e
      obtain ⟨w, h1, h2⟩ := R.rep i _ hu
      rw [hv] at h1
      cases h1
      exact ⟨F, R, st, h2⟩
    | b o => cases e
    | v j => cases e
    | s j => cases e
    | m o =>
      cases o with
      | dct kvs => cases e
      | dtt kvs => cases e
      | lst ds =>
        cases e
        obtain ⟨w, h1, a, rfl, hf, ⟨vs, ha, rs⟩⟩ := R.rep i _ hu
        have hiv : σ[i]? = some (some (.ref a)) := h1
        rw [hv] at h1
        cases h1
        have hB := R.own i _ a hu hiv
        have g := le_upd (o := .lst vs) hf
        have back : ∀ j w, (S.set i (some (.t (.lst ds))))[j]? = some (some w) → isMut w = true → i ≠ j ∧ S[j]? = some (some w) := fun j w h hm => by
          rcases get_set h with ⟨_, q, _⟩ | q
          · cases q; cases hm
          · exact q
        have mu : ∀ c, mutAt (S.set i (some (.t (.lst ds)))) σ c → mutAt S σ c := fun c ⟨j, w, h, hm, z⟩ => ⟨j, w, (back j w h hm).2, hm, z⟩
        refine ⟨upd F a (.lst vs), ⟨R.sub.frz ha, by rw [List.length_set]; exact R.len, fun j u h => ?_, fun j k u w c h1 m1 h2 m2 => R.dis j k u w c (back j u h1 m1).2 m1 (back k w h2 m2).2 m2, fun j o c h => R.own j o c (back j _ h rfl).2, fun j o c h => R.bor j o c (back j _ h rfl).2, fun j c h => ?_, ?_⟩,
          ⟨⟨fun b o h => g b o (st.ext.le b o h), st.ext.keep, fun b o h n f => ?_, st.ext.there, st.ext.frz⟩, fun c q => st.mu c (mu c q), fun j u h => ?_⟩, .lst upd_same (rs.le g)⟩
        · rcases get_set h with ⟨rfl, q, _⟩ | ⟨ne, q⟩
          · cases q
            exact ⟨.ref a, hiv, .lst upd_same (rs.le g)⟩
          · obtain ⟨w, h1, h2⟩ := R.rep j u q
            refine ⟨w, h1, h2.le g (fun _ _ _ z => z) fun c hm hc => ⟨fun o q => q, ?_⟩⟩
            have hca : c ≠ a := fun z => ne (R.dis i j _ u a hu rfl q hm hiv (by rw [h1, hc, z]))
            rw [upd_ne hca]
            cases u with
            | m o => obtain ⟨c', e', f', _⟩ := h2; rw [hc] at e'; cases e'; exact f'
            | b o => obtain ⟨c', e', f', _⟩ := h2; rw [hc] at e'; cases e'; exact f'
            | t d => cases hm
            | v j => cases hm
            | s j => cases hm
        · obtain ⟨h1, o, h2⟩ := R.par j c h
          refine ⟨h1, o, ?_⟩
          have ne : i ≠ j := fun z => by subst z; rw [hu] at h2; cases h2
          rw [List.getElem?_set_ne ne]
          exact h2
        · exact ⟨fun b o h => g b o (R.ext.le b o h), R.ext.keep, fun b o h n f => by rw [upd_ne (fun z => by rw [z, hB] at h; cases h)]; exact R.ext.nofr b o h n f, R.ext.there, R.ext.frz⟩
        · have hb : b ≠ a := fun z => n (st.mu b ⟨i, _, hu, rfl, by rw [z]; exact hiv⟩)
          rw [upd_ne hb]
          exact st.ext.nofr b o h n f
        · obtain ⟨u', h'⟩ := st.slots j u h
          by_cases hj : i = j
          · subst hj
            exact ⟨.t (.lst ds), List.getElem?_set_self (List.getElem?_eq_some_iff.mp h').1⟩
          · exact ⟨u', by rw [List.getElem?_set_ne hj]; exact h'⟩
def eF (g : GE) : GD := fun S => (g S).bind fun p => fz p.1 p.2
theorem JE.d {X : Cx} {e : Expr} {g : GE} (h : JE X e g) : JD X e (eF g) := ⟨fun B => (h.h B).imp fun σ H Q ⟨S, F, d, S', R, hg, q⟩ => by
  unfold eF at hg
  cases e1 : g S with
  | none => rw [e1] at hg; cases hg
  | some p =>
    obtain ⟨u, S1⟩ := p
    rw [e1] at hg
    refine ⟨S, F, u, S1, R, e1, fun v F1 H1 R1 st1 r1 => ?_⟩
    obtain ⟨F2, R2, st2, r2⟩ := fz_ok R1 st1 r1 hg
    exact q v F2 H1 R2 st2 r2⟩
def eT (g : GD) : GE := fun S => (g S).map fun p => (.t p.1, p.2)
theorem JD.e {X : Cx} {e : Expr} {g : GD} (h : JD X e g) : JE X e (eT g) := ⟨fun B => (h.h B).imp fun σ H Q ⟨S, F, u, S', R, hg, q⟩ => by
  unfold eT at hg
  cases e1 : g S with
  | none => rw [e1] at hg; cases hg
  | some p =>
    obtain ⟨d, S1⟩ := p
    rw [e1] at hg
    cases hg
    exact ⟨S, F, d, S1, R, e1, fun v F1 H1 R1 st1 r1 => q v F1 H1 R1 st1 r1⟩⟩
end L2

end
section
set_option Elab.async false
set_option linter.all false
set_option maxRecDepth 100000
namespace L2
open PySem PySem.Spec PyProof.Rows
structure New (F H F' H' : Hp) : Prop where
  le : ∀ b o, F b = some o → F' b = some o
  same : ∀ b o, H b = some o → H' b = some o
  nofr : ∀ b o, H b = some o → F b = none → F' b = none
theorem New.refl (F H : Hp) : New F H F H := ⟨fun _ _ h => h, fun _ _ h => h, fun _ _ _ h => h⟩
theorem New.trans {F H F1 H1 F2 H2 : Hp} (x : New F H F1 H1) (y : New F1 H1 F2 H2) : New F H F2 H2 :=
  ⟨fun b o h => y.le b o (x.le b o h), fun b o h => y.same b o (x.same b o h), fun b o h f => y.nofr b o (x.same b o h) (x.nofr b o h f)⟩
theorem New.step {S : SS} {σ : St} {F H F' H' : Hp} (n : New F H F' H') : Step S S σ F H F' H' :=
  ⟨⟨n.le, fun b o h _ => n.same b o h, fun b o h _ f => n.nofr b o h f, fun b o h => ⟨o, n.same b o h⟩, fun b o u h => n.same b _ h⟩, fun _ h => h, fun _ u h => ⟨u, h⟩⟩
theorem New.obj {F H : Hp} {p : Addr} (h : H p = none) (o : HO) : New F H F (upd H p o) :=
  ⟨fun _ _ q => q, fun b u q => by rw [upd_ne (ne_of_none q h)]; exact q, fun _ _ _ q => q⟩
theorem Rd.same {H H' : Hp} {a : Addr} {u : HO} (k : ∀ b o, H b = some o → H' b = some o) : Rd H a u → Rd H' a u
  | .inl h => .inl (k _ _ h)
  | .inr ⟨o, h⟩ => .inr ⟨o, k _ _ h⟩
theorem Sub.same {F H H' : Hp} (s : Sub F H) (k : ∀ b o, H b = some o → H' b = some o) : Sub F H' := fun a o e => k a o (s a o e)
theorem Sub.tupNew {F H : Hp} {p : Addr} {o : HO} (s : Sub F H) (h : H p = none) : Sub (upd F p o) (upd H p o) := fun b u e => by
  by_cases hb : b = p
  · subst hb; rw [upd_same] at e; cases e; exact upd_same
  · rw [upd_ne hb] at e; have q := s b u e; rw [upd_ne (ne_of_none q h)]; exact q
theorem New.root {F H : Hp} {p : Addr} (s : Sub F H) (h : H p = none) (o : HO) : New F H (upd F p o) (upd H p o) :=
  ⟨le_upd (s.fresh h), fun b u q => by rw [upd_ne (ne_of_none q h)]; exact q, fun b u q f => by rw [upd_ne (ne_of_none q h)]; exact f⟩
theorem Rel.has {K : PySem.W.Frag} {B : Base} {S : SS} {σ : St} {F H : Hp} (R : Rel K B S σ F H) {a : Addr} (m : mutAt S σ a) : ∃ o, H a = some o := by
  obtain ⟨i, u, h, hm, hv⟩ := m
  obtain ⟨v, h1, h2⟩ := R.rep i u h
  rw [hv] at h1
  cases h1
  cases u with
  | t d => cases hm
  | v j => cases hm
  | s j => cases hm
  | m o => obtain ⟨b, e, _, h⟩ := h2; cases e; exact h.has
  | b o => obtain ⟨b, e, _, h⟩ := h2; cases e; exact h.has
theorem Rel.new {K : PySem.W.Frag} {B : Base} {S : SS} {σ : St} {F H F' H' : Hp} (R : Rel K B S σ F H) (n : New F H F' H') (s : Sub F' H') : Rel K B S σ F' H' where
  sub := s
  len := R.len
  rep := fun i u h => by
    obtain ⟨v, h1, h2⟩ := R.rep i u h
    refine ⟨v, h1, h2.le n.le (fun b o u z => n.same b _ z) fun a hm ha => ⟨fun o q => n.same a o q, ?_⟩⟩
    obtain ⟨o, ho⟩ := R.has ⟨i, u, h, hm, by rw [h1, ha]⟩
    refine n.nofr a o ho ?_
    cases u with
    | t d => cases hm
    | v j => cases hm
    | s j => cases hm
    | m o => obtain ⟨b, e, f, _⟩ := h2; rw [ha] at e; cases e; exact f
    | b o => obtain ⟨b, e, f, _⟩ := h2; rw [ha] at e; cases e; exact f
  dis := R.dis
  own := R.own
  bor := R.bor
  par := R.par
  ext := ⟨fun b o h => n.le b o (R.ext.le b o h), fun b o h m => n.same b o (R.ext.keep b o h m), fun b o h m f => n.nofr b o (R.ext.keep b o h m) (R.ext.nofr b o h m f), fun b o h => let ⟨o', h'⟩ := R.ext.there b o h; ⟨o', n.same b o' h'⟩, fun b o u h => n.same b _ (R.ext.frz b o u h)⟩
def RepN (H0 F H : Hp) (v : V) : U → Prop
  | .t d => Rep F v d
  | .m o => ∃ a, v = .ref a ∧ H0 a = none ∧ F a = none ∧ At F H a o
  | _ => False
theorem none_of {H H' : Hp} {a : Addr} (t : ∀ b o, H b = some o → ∃ o', H' b = some o') (h : H' a = none) : H a = none := by
  cases e : H a with
  | none => rfl
  | some o => obtain ⟨o', h'⟩ := t a o e; rw [h] at h'; cases h'
theorem RepN.repR {K : PySem.W.Frag} {B : Base} {S S0 : SS} {σ : St} {H0 F0 F1 H1 F H : Hp} {v : V} {u : U} (R : Rel K B S σ F1 H1) (st : Step S0 S σ F0 H0 F1 H1) (r : RepN H1 F H v u) : RepR K B S σ H0 F H v u := by
  cases u with
  | t d => exact r
  | b o => cases r
  | v i => cases r
  | s i => cases r
  | m o =>
    obtain ⟨a, e, h0, f, h⟩ := r
    refine ⟨a, e, none_of st.ext.there h0, f, h, fun m => ?_, none_of R.ext.there h0⟩
    obtain ⟨o, ho⟩ := R.has m
    rw [h0] at ho
    cases ho
def rP (f : List D → Option U) : List V → Hp → VK → Prop := fun xs H Q => ∃ F ds u, Sub F H ∧ Reps F xs ds ∧ f ds = some u ∧ ∀ v F' H', New F H F' H' → Sub F' H' → RepN H F' H' v u → Q v H'
def flatD : D → Bool
  | .tup _ => false
  | .lst _ => false
  | _ => true
def toV : D → V
  | .bl b => .bl b
  | .int i => .int i
  | .str z => .str z
  | _ => .non
theorem rep_flat {F : Hp} : ∀ {d : D}, flatD d = true → Rep F (toV d) d
  | .non, _ => .non
  | .bl b, _ => .bl b
  | .int i, _ => .int i
  | .str z, _ => .str z
  | .tup _, h => by cases h
  | .lst _, h => by cases h
def eVar (i : Nat) : GE := fun S => match S[i]? with
  | some (some (.t d)) => some (.t d, S)
  | some (some (.s d)) => some (.s d, S)
  | some (some _) => some (.v i, S)
  | _ => none
def eC (d : D) : GD := fun S => some (d, S)
def aNil : GA := fun S => some ([], S)
def aCons (g : GD) (ga : GA) : GA := fun S => (g S).bind fun p => (ga p.2).map fun q => (p.1 :: q.1, q.2)
def eP (f : List D → Option U) (ga : GA) : GE := fun S => (ga S).bind fun p => (f p.1).map fun u => (u, p.2)
section
variable {X : Cx} {a b c e : Expr} {es : List Expr} {pos p p2 : Pos} {x : Str} {g ga gb gc : GD} {gA : GA} {f f' : List D → Option U}
theorem je_var (i : Nat) (hN : X.N[i]? = some x := by rfl) (hv : Vis X.env.scope x := by first | exact Or.inl rfl | exact Or.inr (Or.inl rfl) | exact Or.inr (Or.inr rfl)) (hd : (x == ("__debug__" : Str)) = false := by decide)
    (hcd : (x == ("__classdict__" : Str)) = false := by decide) : JE X (.Name x pos) (eVar i) := ⟨fun B => (pe_var hN hv hd hcd).imp fun σ H Q ⟨S, F, u, S', R, hg, q⟩ => by
  unfold eVar at hg
  cases hs : S[i]? with
  | none => rw [hs] at hg; cases hg
  | some o =>
    cases o with
    | none => rw [hs] at hg; cases hg
    | some w =>
      rw [hs] at hg
      obtain ⟨v, h1, h2⟩ := R.rep i w hs
      refine ⟨v, h1, ?_⟩
      cases w with
      | t d => cases hg; exact q v F H R (Step.refl ..) h2
      | m o => cases hg; exact q v F H R (Step.refl ..) ⟨h1, _, hs⟩
      | b o => cases hg; exact q v F H R (Step.refl ..) ⟨h1, _, hs⟩
      | s j => cases hg; exact q v F H R (Step.refl ..) h2
      | v j => cases hg; exact q v F H R (Step.refl ..) ⟨h1, _, hs⟩⟩
theorem jd_c {d : D} (hf : flatD d = true) (h : PE X e (tC (toV d))) : JD X e (eC d) := ⟨fun B => h.imp fun σ H Q ⟨S, F, u, S', R, hg, q⟩ => by
  cases hg
  exact q _ F H R (Step.refl ..) (rep_flat hf)⟩
theorem jd_int {i j} : JD X (.Constant (.int i) j pos) (eC (.int i)) := jd_c rfl pe_int
theorem jd_bl {i j} : JD X (.Constant (.bool i) j pos) (eC (.bl i)) := jd_c rfl pe_bl
theorem jd_non {j} : JD X (.Constant .none j pos) (eC .non) := jd_c rfl pe_non
theorem jd_str {i j} : JD X (.Constant (.str i) j pos) (eC (.str i)) := jd_c rfl pe_str
theorem ja_nil : JA X [] aNil := ⟨fun B => pa_nil.imp fun σ H Q ⟨S, F, u, S', R, hg, q⟩ => by
  cases hg
  exact q [] F H R (Step.refl ..) .nil⟩
theorem bind_some' {α β : Type} {o : Option α} {f : α → Option β} {y : β} (h : o.bind f = some y) : ∃ z, o = some z ∧ f z = some y := by
  cases o with
  | none => cases h
  | some z => exact ⟨z, rfl, h⟩
theorem map_some' {α β : Type} {o : Option α} {f : α → β} {y : β} (h : o.map f = some y) : ∃ z, o = some z ∧ f z = y := by
  cases o with
  | none => cases h
  | some z => exact ⟨z, rfl, Option.some.inj h⟩
theorem ja_cons (h : JD X e g) (hr : JA X es gA) (hs : starEach (e :: es) X.env = (false, eval e X.env) :: starEach es X.env := by rfl) : JA X (e :: es) (aCons g gA) :=
  ⟨fun B => (pa_cons (h.h B) (hr.h B) hs).imp fun σ H Q ⟨S, F, u, S', R, hg, q⟩ => by
  obtain ⟨⟨d, S1⟩, h1, hg⟩ := bind_some' hg
  obtain ⟨⟨ds, S2⟩, h2, hg⟩ := map_some' hg
  cases hg
  exact ⟨S, F, d, S1, R, h1, fun v F1 H1 R1 st1 r1 => ⟨S1, F1, ds, S2, R1, h2, fun vs F2 H2 R2 st2 r2 => q _ F2 H2 R2 (st1.trans st2) (.cons (r1.le st2.ext.le) r2)⟩⟩⟩
theorem after_args {K : PySem.W.Frag} {B : Base} {σ : St} {H : Hp} {Q : VK} {r : List V → Hp → VK → Prop} (hr : ∀ vs H1 Q1, rP f vs H1 Q1 → r vs H1 Q1) (h : tE K B (eP f gA) σ H Q) : tAs K B gA σ H fun vs H1 => r vs H1 Q := by
  obtain ⟨S, F, u, S', R, hg, q⟩ := h
  obtain ⟨⟨ds, S1⟩, h1, hg⟩ := bind_some' hg
  obtain ⟨u', h2, hg⟩ := map_some' hg
  cases hg
  exact ⟨S, F, ds, S1, R, h1, fun vs F1 H1 R1 st1 r1 => hr _ _ _ ⟨F1, ds, _, R1.sub, r1, h2, fun v F2 H2 n s2 r2 => q v F2 H2 (R1.new n s2) (st1.trans n.step) (r2.repR R1 st1)⟩⟩
theorem je_callB {id : String} (hc : CallR X (.builtin id) (rP f)) (hg : Gl X x) (hm : X.mg x = none) (hv : bootBuiltins x = some (.builtin id)) (ha : JA X (e :: es) gA) (hn : x ≠ "__name__" := by decide) (hdb : (x == ("__debug__" : Str)) = false := by decide)
    (he : starEach (e :: es) X.env = (false, eval e X.env) :: starEach es X.env := by rfl) (hpl : (backTo pos (starEach es X.env)).any (·.1) = false := by rfl) : JE X (.Call (.Name x p) (e :: es) [] pos) (eP f gA) :=
  ⟨fun B => (pe_callB hc hg hm hv (ha.h B) hn hdb he hpl).imp fun σ H Q h => after_args (fun _ _ _ z => z) h⟩
theorem je_callTy {T : String} (hc : CallR X (.type T) (rP f)) (hg : Gl X x) (hm : X.mg x = none) (hv : bootBuiltins x = some (.type T)) (ha : JA X (e :: es) gA) (hn : x ≠ "__name__" := by decide) (hdb : (x == ("__debug__" : Str)) = false := by decide)
    (he : starEach (e :: es) X.env = (false, eval e X.env) :: starEach es X.env := by rfl) (hpl : (backTo pos (starEach es X.env)).any (·.1) = false := by rfl) : JE X (.Call (.Name x p) (e :: es) [] pos) (eP f gA) :=
  ⟨fun B => (pe_callTy hc hg hm hv (ha.h B) hn hdb he hpl).imp fun σ H Q h => after_args (fun _ _ _ z => z) h⟩
abbrev OpP (X : Cx) (o : Value → Value → Sem Value) (f : List D → Option U) : Prop := OpR X o (fun x y H Q => rP f [x, y] H Q)
theorem two_args {K : PySem.W.Frag} {B : Base} {σ : St} {H : Hp} {Q : VK} (h : tE K B (eP f (aCons ga (aCons gb aNil))) σ H Q) : tOp (fun x y H Q => rP f [x, y] H Q) (tD K B ga) (tD K B gb) σ H Q := by
  obtain ⟨S, F, u, S', R, hg, q⟩ := h
  obtain ⟨⟨ds, S1⟩, h1, hg⟩ := bind_some' hg
  obtain ⟨u', h2, hg⟩ := map_some' hg
  cases hg
  obtain ⟨⟨d1, T1⟩, k1, h1⟩ := bind_some' h1
  obtain ⟨⟨ds2, T2⟩, k2, h1⟩ := map_some' h1
  cases h1
  obtain ⟨⟨d2, T3⟩, k3, k2⟩ := bind_some' k2
  obtain ⟨⟨ds3, T4⟩, k4, k2⟩ := map_some' k2
  cases k2
  cases k4
  exact ⟨S, F, d1, T1, R, k1, fun v1 F1 H1 R1 st1 r1 => ⟨T1, F1, d2, _, R1, k3, fun v2 F2 H2 R2 st2 r2 => ⟨F2, _, _, R2.sub, .cons (r1.le st2.ext.le) (.cons r2 .nil), h2, fun v F3 H3 n s3 r3 => q v F3 H3 (R2.new n s3) ((st1.trans st2).trans n.step) (r3.repR R2 (st1.trans st2))⟩⟩⟩
theorem je_op {op : Operator} (ho : OpP X (binaryOp op) f) (ha : JD X a ga) (hb : JD X b gb) : JE X (.BinOp a op b pos) (eP f (aCons ga (aCons gb aNil))) :=
  ⟨fun B => (pe_op ho (ha.h B) (hb.h B)).imp fun σ H Q h => two_args h⟩
theorem je_cmp {op : CmpOp} (ho : OpP X (compareOp op) f) (ha : JD X a ga) (hb : JD X b gb) (hm : behindInMarks op b = false := by first | exact nomark _ | rfl) : JE X (.Compare a [op] [b] pos) (eP f (aCons ga (aCons gb aNil))) :=
  ⟨fun B => (pe_cmpR ho (ha.h B) (hb.h B) hm).imp fun σ H Q h => two_args h⟩
theorem je_ix (hr : IxR X (fun x y H Q => rP f [x, y] H Q)) (ha : JD X a ga) (hb : JD X b gb) (hs : PlainIx b) : JE X (.Subscript a b pos) (eP f (aCons ga (aCons gb aNil))) :=
  ⟨fun B => (pe_ix hr (ha.h B) (hb.h B) hs).imp fun σ H Q h => two_args h⟩
def fTup : List D → Option U := fun ds => if ds.length ≤ 100000 then some (.t (.tup ds)) else none
def fLst : List D → Option U := fun ds => if ds.length ≤ 100000 then some (.m (.lst ds)) else none
theorem line_of {n : Nat} (h : n ≤ 100000) : n ≤ sizeLine := Nat.le_trans h (by decide)
end
end L2

end
section
set_option Elab.async false
set_option linter.all false
set_option maxRecDepth 100000
namespace L2
open PySem PySem.Spec PyProof.Rows
section
variable {X : Cx} {a b c e : Expr} {es : List Expr} {pos p p2 : Pos} {x : Str} {g ga gb gc : GD} {gA : GA} {f f' : List D → Option U}
theorem je_tup {x1} (h : JA X es gA) : JE X (.Tuple es x1 pos) (eP fTup gA) :=
  ⟨fun B => (pe_tup (h.h B)).imp fun σ H Q z => after_args (r := fun xs H1 Q => xs.length ≤ sizeLine ∧ ∀ p, H1 p = none → Q (.ref p) (upd H1 p (.tup xs))) (fun vs H1 Q1 ⟨F, ds, u, sb, rs, hf, q⟩ => by
  unfold fTup at hf
  split at hf
  · rename_i hl
    cases hf
    refine ⟨by rw [rs.length]; exact line_of hl, fun p hp => ?_⟩
    exact q _ _ _ (New.root sb hp _) (sb.tupNew hp) (.tup upd_same (rs.le (le_upd (sb.fresh hp))))
  · cases hf) z⟩
theorem je_lst (h : JA X es gA) : JE X (.List es pos) (eP fLst gA) :=
  ⟨fun B => (pe_lst (h.h B)).imp fun σ H Q z => after_args (r := fun xs H1 Q => xs.length ≤ sizeLine ∧ ∀ p, H1 p = none → Q (.ref p) (upd H1 p (.lst xs))) (fun vs H1 Q1 ⟨F, ds, u, sb, rs, hf, q⟩ => by
  unfold fLst at hf
  split at hf
  · rename_i hl
    cases hf
    refine ⟨by rw [rs.length]; exact line_of hl, fun p hp => ?_⟩
    exact q _ F _ (New.obj hp _) (sb.same (New.obj (F := F) hp _).same) ⟨p, rfl, hp, sb.fresh hp, vs, upd_same, rs⟩
  · cases hf) z⟩
def qB (g : GD) : GT := fun S => (g S).bind fun p => match p.1 with
  | .bl k => some (k, p.2)
  | _ => none
def qNot (g : GT) : GT := fun S => (g S).map fun p => (!p.1, p.2)
def qAnd (g h : GT) : GT := fun S => (g S).bind fun p => if p.1 then h p.2 else some (false, p.2)
def qOr (g h : GT) : GT := fun S => (g S).bind fun p => if p.1 then some (true, p.2) else h p.2
def eQ (g : GT) : GD := fun S => (g S).map fun p => (.bl p.1, p.2)
theorem qB_some {S : SS} {k : Bool} {S' : SS} (h : qB g S = some (k, S')) : g S = some (.bl k, S') := by
  obtain ⟨⟨d, S1⟩, h1, h⟩ := bind_some' h
  cases d <;> cases h
  exact h1
theorem rep_bl {F : Hp} {v : V} {k : Bool} (r : Rep F v (.bl k)) : v = .bl k := by cases r; rfl
theorem rep_int {F : Hp} {v : V} {i : Int} (r : Rep F v (.int i)) : v = .int i := by cases r; rfl
theorem rep_str {F : Hp} {v : V} {i : Str} (r : Rep F v (.str i)) : v = .str i := by cases r; rfl
theorem tE_tD {K : PySem.W.Frag} {B : Base} {gE : GE} {σ : St} {H : Hp} {Q : VK} (h : tD K B (eF gE) σ H Q) : tE K B gE σ H Q := by
  obtain ⟨S, F, d, S', R, hg, q⟩ := h
  obtain ⟨⟨u, S1⟩, h1, hg⟩ := bind_some' hg
  refine ⟨S, F, u, S1, R, h1, fun v F1 H1 R1 st1 r1 => ?_⟩
  obtain ⟨F2, R2, st2, r2⟩ := fz_ok R1 st1 r1 hg
  exact q v F2 H1 R2 st2 r2
theorem jt_cmp {op : CmpOp} (ho : OpP X (compareOp op) f) (ha : JD X a ga) (hb : JD X b gb) (hm : behindInMarks op b = false := by first | exact nomark _ | rfl) : JT X (.Compare a [op] [b] pos) (qB (eF (eP f (aCons ga (aCons gb aNil))))) :=
  ⟨fun B => (pt_cmpR ho (ha.h B) (hb.h B) hm).imp fun σ H Q ⟨S, F, k, S', R, hg, q⟩ => two_args (tE_tD ⟨S, F, .bl k, S', R, qB_some hg, fun v F' H' R' st r => ⟨k, rep_bl r, q F' H' R' st⟩⟩)⟩
theorem jw_one_and {q1 : GT} (h : JT X a q1) : JW X (.BoolOp .And [a] pos) q1 := ⟨fun B => pw_and1 (h.h B)⟩
theorem jw_and {r : List Expr} {q1 q2 : GT} (h : JT X a q1) (hr : JW X (.BoolOp .And (b :: r) pos) q2) : JW X (.BoolOp .And (a :: b :: r) pos) (qAnd q1 q2) :=
  ⟨fun B => (pw_and (h.h B) (hr.h B)).imp fun σ H Q ⟨S, F, k, S', R, hg, q⟩ => by
  obtain ⟨⟨d, S1⟩, h1, hg⟩ := bind_some' hg
  refine ⟨S, F, d, S1, R, h1, fun F1 H1 R1 st1 => ?_⟩
  cases d with
  | true => exact iteT ⟨S1, F1, k, S', R1, hg, fun F2 H2 R2 st2 => q F2 H2 R2 (st1.trans st2)⟩
  | false => cases hg; exact iteF (q F1 H1 R1 st1)⟩
theorem JW.t {q1 : GT} (h : JW X e q1) : JT X e q1 := ⟨fun B => (h.h B).pt⟩
def eIf (q : GT) (g h : GE) : GE := fun S => (q S).bind fun p => if p.1 then g p.2 else h p.2
theorem RepR.weak {K : PySem.W.Frag} {B : Base} {S : SS} {σ : St} {H0 H1 F H : Hp} {v : V} (t : ∀ b o, H0 b = some o → ∃ o', H1 b = some o') : ∀ {u : U}, RepR K B S σ H1 F H v u → RepR K B S σ H0 F H v u
  | .t _, h => h
  | .s _, h => h
  | .m _, ⟨a, e, h0, h⟩ => ⟨a, e, none_of t h0, h⟩
  | .v _, h => h
  | .b _, h => h
def eCh (f f' : List D → Option U) (ga gb gc : GD) : GD := fun S => (ga S).bind fun p => (gb p.2).bind fun q => match f [p.1, q.1] with
  | some (.t (.bl k)) => if k then (gc q.2).bind fun r => match f' [q.1, r.1] with
      | some (.t (.bl k')) => some (.bl k', r.2)
      | _ => none
    else some (.bl false, q.2)
  | _ => none
end
end L2

end
section
set_option Elab.async false
set_option linter.all false
set_option maxRecDepth 100000
namespace L2
open PySem PySem.Spec PyProof.Rows
theorem ite_some {α : Type} {c : Prop} {i : Decidable c} {x w : α} (h : (@ite _ c i (some x) none) = some w) : c ∧ x = w := by
  by_cases hc : c
  · rw [if_pos hc] at h; exact ⟨hc, Option.some.inj h⟩
  · rw [if_neg hc] at h; cases h
theorem ite_some2 {α : Type} {c : Prop} {i : Decidable c} {x : Option α} {w : α} (h : (@ite _ c i x none) = some w) : c ∧ x = some w := by
  by_cases hc : c
  · rw [if_pos hc] at h; exact ⟨hc, h⟩
  · rw [if_neg hc] at h; cases h
theorem reps1 {F : Hp} {x : V} {ds : List D} (r : Reps F [x] ds) : ∃ d, ds = [d] ∧ Rep F x d := by
  cases r with
  | cons r rs => cases rs; exact ⟨_, rfl, r⟩
theorem reps2 {F : Hp} {x y : V} {ds : List D} (r : Reps F [x, y] ds) : ∃ d e, ds = [d, e] ∧ Rep F x d ∧ Rep F y e := by
  cases r with
  | cons r rs => obtain ⟨e, rfl, r2⟩ := reps1 rs; exact ⟨_, e, rfl, r, r2⟩
def fI2 (C : Int → Int → Bool) (h : Int → Int → D) : List D → Option U
  | [.int i, .int j] => if C i j then some (.t (h i j)) else none
  | _ => none
section
variable {X : Cx}
theorem opP_I {o : Value → Value → Sem Value} {C : Int → Int → Bool} {h : Int → Int → D} {r : R2} (hr : OpR X o r) (k : ∀ i j H Q, C i j = true → Q (toV (h i j)) H → r (.int i) (.int j) H Q) (hf : ∀ i j, flatD (h i j) = true) : OpP X o (fI2 C h) := by
  intro pins s σ H x y v u Q I rx ry ⟨F, ds, w, sb, rs, hw, q⟩
  obtain ⟨d, e, rfl, r1, r2⟩ := reps2 rs
  cases r1 <;> cases r2 <;> try (simp [fI2] at hw; done)
  rename_i i j
  obtain ⟨hc, rfl⟩ := ite_some hw
  exact hr pins s σ H _ _ v u Q I rx ry (k i j H Q hc (q _ F H (New.refl ..) sb (rep_flat (hf i j))))
abbrev fSub := fI2 (fun _ _ => true) fun i j => .int (i - j)
abbrev fLt := fI2 (fun _ _ => true) fun i j => .bl (decide (i < j))
abbrev fGt := fI2 (fun _ _ => true) fun i j => .bl (decide (j < i))
abbrev fGe := fI2 (fun _ _ => true) fun i j => .bl (decide (j ≤ i))
abbrev fDiv := fI2 (fun _ j => decide (0 < j) && decide (j < 1073741824)) fun i j => .int (i / j)
abbrev fMod := fI2 (fun _ j => decide (0 < j)) fun i j => .int (i % j)
abbrev fPow := fI2 (fun i j => decide (0 ≤ j) && (decide (j ≤ 1000) && decide (i.natAbs < 2 ^ 64))) fun i j => .int (i ^ j.toNat)
theorem op_subP : OpP X (binaryOp .Sub) fSub := opP_I op_sub (fun i j H Q _ q => ⟨i, j, rfl, rfl, q⟩) fun _ _ => rfl
theorem op_ltP : OpP X (compareOp .Lt) fLt := opP_I op_lt (fun i j H Q _ q => ⟨i, j, rfl, rfl, q⟩) fun _ _ => rfl
theorem op_gtP : OpP X (compareOp .Gt) fGt := opP_I op_gt (fun i j H Q _ q => ⟨i, j, rfl, rfl, q⟩) fun _ _ => rfl
theorem op_geP : OpP X (compareOp .GtE) fGe := opP_I op_ge (fun i j H Q _ q => ⟨i, j, rfl, rfl, q⟩) fun _ _ => rfl
theorem op_divP : OpP X (binaryOp .FloorDiv) fDiv := opP_I op_fdiv (fun i j H Q c q => ⟨i, j, rfl, rfl, by simpa [CDiv] using c, q⟩) fun _ _ => rfl
theorem op_modP : OpP X (binaryOp .Mod) fMod := opP_I op_mod (fun i j H Q c q => ⟨i, j, rfl, rfl, by simpa using c, q⟩) fun _ _ => rfl
theorem op_powP : OpP X (binaryOp .Pow) fPow := opP_I op_pow (fun i j H Q c q => ⟨i, j, rfl, rfl, by
  simp only [Bool.and_eq_true, decide_eq_true_eq] at c
  exact ⟨c.1, Int.le_trans c.2.1 (by decide), c.2.2⟩, q⟩) fun _ _ => rfl
theorem Sub.tupAt {F H : Hp} {v : V} {ds : List D} (s : Sub F H) (r : Rep F v (.tup ds)) : ∃ a vs, v = .ref a ∧ F a = some (.tup vs) ∧ Rd H a (.tup vs) ∧ Reps F vs ds := by
  cases r with
  | tup e rs => exact ⟨_, _, rfl, e, Rd.of (s _ _ e), rs⟩
theorem Sub.lstAt {F H : Hp} {v : V} {ds : List D} (s : Sub F H) (r : Rep F v (.lst ds)) : ∃ a vs, v = .ref a ∧ F a = some (.lst vs) ∧ Rd H a (.lst vs) ∧ Reps F vs ds := by
  cases r with
  | lst e rs => exact ⟨_, _, rfl, e, Rd.of (s _ _ e), rs⟩
theorem _root_.L2.Rd.lstM {pins : List (Addr × Obj)} {σ : St} {H : Hp} {s : Shared} (I : Inv X pins σ H s) {l : Addr} {xs : List V} (h : Rd H l (.lst xs)) :
    xs.length ≤ sizeLine ∧ ∃ its n, Vals xs its ∧ xs.length = its.length ∧ s.heap.get? l = some { cls := .type "list", data := .seq its.toArray n } := by
  obtain ⟨z, its, n, r, e⟩ := (h.ok I.hok : ObjOk X.prog X.w H s.heap l (.lst xs))
  exact ⟨z, its, n, r, r.length, e⟩
def fAdd : List D → Option U
  | [.int i, .int j] => some (.t (.int (i + j)))
  | [.str i, .str j] => if i.length + j.length ≤ 100000 then some (.t (.str (i ++ j))) else none
  | [.tup i, .tup j] => if i.length + j.length ≤ 100000 then some (.t (.tup (i ++ j))) else none
  | [.lst i, .lst j] => if i.length + j.length ≤ 100000 then some (.m (.lst (i ++ j))) else none
  | _ => none
theorem op_addP : OpP X (binaryOp .Add) fAdd := by
  intro pins s σ H x y v u Q I rx ry ⟨F, ds, w, sb, rs, hw, q⟩
  obtain ⟨d, e, rfl, r1, r2⟩ := reps2 rs
  cases d <;> cases e <;> try (simp [fAdd] at hw; done)
  · rename_i i j
    cases hw
    cases r1
    cases r2
    exact op_add pins s σ H _ _ v u Q I rx ry ⟨i, j, rfl, rfl, q _ F H (New.refl ..) sb (.int _)⟩
  · rename_i i j
    obtain ⟨hl, rfl⟩ := ite_some hw
    cases r1
    cases r2
    exact op_add_str pins s σ H _ _ v u Q I rx ry ⟨i, j, rfl, rfl, line_of hl, q _ F H (New.refl ..) sb (.str _)⟩
  · rename_i i j
    obtain ⟨hl, rfl⟩ := ite_some hw
    have rb2 := r2
    have rb1 := r1
    obtain ⟨a, xs, rfl, fa, ha, rs1⟩ := sb.tupAt r1
    obtain ⟨b, ys, rfl, fb, hb, rs2⟩ := sb.tupAt r2
    by_cases hx : xs = []
    · subst hx
      cases rs1
      cases rx
      cases ry
      obtain ⟨its, r1', p1, _⟩ := I.tuple (.inl ha)
      obtain ⟨its2, r2', p2, _⟩ := I.tuple (.inl hb)
      cases r1'
      obtain ⟨⟨cls, dd, data, sl⟩, ho, hc, n, hd⟩ := id p1
      obtain ⟨⟨cls2, dd2, data2, sl2⟩, ho2, hc2, n2, hd2⟩ := id p2
      simp only at hc hd hc2 hd2
      subst hc hd hc2 hd2
      exact concat_meets ⟨_, ho, rfl⟩ ⟨_, ho2, rfl⟩ noFill_tuple_add seq_tuple_add PySem.F.slot_tuple_add PySem.F.entry_tuple_add (PySem.F.args_tuple_add_2 _ _)
        (tuple_addW0 a b _ _ n n2 dd dd2 sl sl2 (by simp)) ⟨ho, ho2, ⟨.ref b, H, I, rfl, q _ F H (New.refl ..) sb rb2⟩⟩
    · refine op_catT pins s σ H (.ref a) (.ref b) v u Q I rx ry ⟨a, b, xs, ys, rfl, rfl, .inl ha, .inl hb, hx, ?_, fun hy => ?_, fun hy p hp => ?_⟩
      · rw [rs1.length, rs2.length]; exact line_of hl
      · subst hy
        cases rs2
        exact q _ F H (New.refl ..) sb (by show Rep F (.ref a) (.tup (i ++ [])); rw [List.append_nil]; exact rb1)
      · exact q _ _ _ (New.root sb hp _) (sb.tupNew hp) (.tup upd_same ((rs1.append rs2).le (le_upd (sb.fresh hp))))
  · rename_i i j
    obtain ⟨hl, rfl⟩ := ite_some hw
    obtain ⟨a, xs, rfl, fa, ha, rs1⟩ := sb.lstAt r1
    obtain ⟨b, ys, rfl, fb, hb, rs2⟩ := sb.lstAt r2
    cases rx
    cases ry
    obtain ⟨z, its, n, r, hl1, e⟩ := Rd.lstM I ha
    obtain ⟨z2, its2, n2, r2, hl2, e2⟩ := Rd.lstM I hb
    have hlen : xs.length + ys.length ≤ sizeLine := by rw [rs1.length, rs2.length]; exact line_of hl
    refine PySem.P.add_list e e2 ?_ (by rw [List.size_toArray, List.size_toArray]; omega)
    have ea : its.toArray ++ its2.toArray = (its ++ its2).toArray := by simp
    rw [ea]
    have hp : H s.heap.objs.size = none := I.fresh
    refine ⟨.ref _, _, I.lnew (t' := s.toks) (r.append r2) (by rw [List.length_append]; omega), rfl, ?_⟩
    exact q _ F _ (New.obj hp _) (sb.same (New.obj (F := F) hp _).same) ⟨_, rfl, hp, sb.fresh hp, _, upd_same, rs1.append rs2⟩
def fMul : List D → Option U := fI2 (fun i j => (decide (-(2 ^ 64) < i) && decide (i < 2 ^ 64)) || (decide (-(2 ^ 64) < j) && decide (j < 2 ^ 64))) fun i j => .int (i * j)
theorem op_mulP : OpP X (binaryOp .Mult) fMul := opP_I op_mul (fun i j H Q c q => ⟨i, j, rfl, rfl, by
  simp only [Bool.or_eq_true, Bool.and_eq_true, decide_eq_true_eq] at c
  exact c, q⟩) fun _ _ => rfl
def fNeg : List D → Option U
  | [.int i] => some (.t (.int (-i)))
  | _ => none
def fIx : List D → Option U
  | [.tup ds, .int i] => (atI ds i).map .t
  | [.lst ds, .int i] => (atI ds i).map .t
  | [.str z, .int i] => if z.length ≤ 100000 then (atI z.cps.toList i).map fun c => .t (.str ⟨#[c]⟩) else none
  | _ => none
theorem ix_P : IxR X (fun x y H Q => rP fIx [x, y] H Q) := by
  intro value slice pins s σ H x y v u Q I rx ry ⟨F, ds, w, sb, rs, hw, q⟩ hsb
  obtain ⟨d, e, rfl, r1, r2⟩ := reps2 rs
  cases d <;> cases e <;> try (simp [fIx] at hw; done)
  · rename_i z i
    obtain ⟨hl, hw⟩ := ite_some2 hw
    obtain ⟨c, hc, hw⟩ := map_some' hw
    subst hw
    cases r1
    cases r2
    exact ix_str value slice pins s σ H _ _ v u Q I rx ry ⟨z, i, c, rfl, rfl, line_of hl, hc, q _ F H (New.refl ..) sb (.str _)⟩ hsb
  · rename_i ds i
    obtain ⟨c, hc, hw⟩ := map_some' (show (atI ds i).map U.t = some w from hw)
    subst hw
    obtain ⟨a, xs, rfl, fa, ha, rs1⟩ := sb.tupAt r1
    cases r2
    obtain ⟨w', h1, h2⟩ := rs1.atI hc
    exact ix_tup value slice pins s σ H _ _ v u Q I rx ry ⟨a, xs, i, w', rfl, rfl, .inl ha, h1, q _ F H (New.refl ..) sb h2⟩ hsb
  · rename_i ds i
    obtain ⟨c, hc, hw⟩ := map_some' (show (atI ds i).map U.t = some w from hw)
    subst hw
    obtain ⟨a, xs, rfl, fa, ha, rs1⟩ := sb.lstAt r1
    cases r2
    obtain ⟨w', h1, h2⟩ := rs1.atI hc
    exact ix_list value slice pins s σ H _ _ v u Q I rx ry ⟨a, xs, i, w', rfl, rfl, .inl ha, h1, q _ F H (New.refl ..) sb h2⟩ hsb
def fLen : List D → Option U
  | [.tup ds] => some (.t (.int ds.length))
  | [.lst ds] => some (.t (.int ds.length))
  | [.str z] => if z.length ≤ 100000 then some (.t (.int z.length)) else none
  | _ => none
theorem call_lenP : CallR X (.builtin "len") (rP fLen) := by
  intro pins s σ H xs us Q I r ⟨F, ds, w, sb, rs, hw, q⟩
  match xs, ds, rs with
  | [], [], _ => exact absurd hw (by simp [fLen])
  | [x], _, rs =>
    obtain ⟨d, rfl, r1⟩ := reps1 rs
    cases d <;> try (simp [fLen] at hw; done)
    · rename_i z
      obtain ⟨hl, rfl⟩ := ite_some hw
      cases r1
      exact call_len_str pins s σ H _ us Q I r ⟨z, rfl, line_of hl, q _ F H (New.refl ..) sb (.int _)⟩
    · cases hw
      obtain ⟨a, xs, rfl, fa, ha, rs1⟩ := sb.tupAt r1
      exact call_len_seq pins s σ H _ us Q I r ⟨a, xs, rfl, .inr (.inl ha), by rw [rs1.length]; exact q _ F H (New.refl ..) sb (.int _)⟩
    · cases hw
      obtain ⟨a, xs, rfl, fa, ha, rs1⟩ := sb.lstAt r1
      exact call_len_seq pins s σ H _ us Q I r ⟨a, xs, rfl, .inl (.inl ha), by rw [rs1.length]; exact q _ F H (New.refl ..) sb (.int _)⟩
  | _ :: _ :: _, [], rs => cases rs
  | _ :: _ :: _, [_], rs => cases rs with | cons _ rs => cases rs
  | _ :: _ :: _, _ :: _ :: _, _ => exact absurd hw (by simp [fLen])
end
end L2

end
section
set_option Elab.async false
set_option linter.all false
set_option maxRecDepth 100000
namespace L2
open PySem PySem.Spec PyProof.Rows
def setU (i : Nat) (u : U) (S : SS) : Option SS := match S[i]? with
  | some (some (.b _)) => none
  | some _ => some (S.set i (some u))
  | none => none
theorem setU_some {i : Nat} {u : U} {S S' : SS} (h : setU i u S = some S') : S' = S.set i (some u) ∧ i < S.length ∧ ∀ o, S[i]? ≠ some (some (.b o)) := by
  unfold setU at h
  cases e : S[i]? with
  | none => rw [e] at h; cases h
  | some w =>
    have hl : i < S.length := (List.getElem?_eq_some_iff.mp e).1
    rw [e] at h
    cases w with
    | none => cases h; exact ⟨rfl, hl, fun o z => by cases z⟩
    | some w =>
      cases w with
      | b o => cases h
      | t d => cases h; exact ⟨rfl, hl, fun o z => by cases z⟩
      | m d => cases h; exact ⟨rfl, hl, fun o z => by cases z⟩
      | v d => cases h; exact ⟨rfl, hl, fun o z => by cases z⟩
      | s d => cases h; exact ⟨rfl, hl, fun o z => by cases z⟩
def PutOk (B : Base) (S : SS) (σ : St) (F H : Hp) (v : V) : U → Prop
  | .t d => Rep F v d
  | .m o => ∃ a, v = .ref a ∧ F a = none ∧ At F H a o ∧ ¬ mutAt S σ a ∧ B.H a = none
  | _ => False
theorem Rel.put {K : PySem.W.Frag} {B : Base} {S S' : SS} {σ : St} {F H : Hp} {i : Nat} {u : U} {v : V} (R : Rel K B S σ F H) (h : setU i u S = some S') (p : PutOk B S σ F H v u) : Rel K B S' (σ.set i (some v)) F H := by
  obtain ⟨rfl, hl, nb⟩ := setU_some h
  have hl' : i < σ.length := by rw [← R.len]; exact hl
  have out : ∀ {j : Nat}, i ≠ j → (σ.set i (some v))[j]? = σ[j]? := fun ne => List.getElem?_set_ne ne
  have inn : (σ.set i (some v))[i]? = some (some v) := List.getElem?_set_self hl'
  have clash : ∀ j w a, i ≠ j → S[j]? = some (some w) → isMut w = true → isMut u = true → σ[j]? = some (some (.ref a)) → v ≠ .ref a := fun j w a ne hj hm hu hv z => by
    cases u with
    | t d => cases hu
    | v k => cases hu
    | s k => cases hu
    | b o => exact p
    | m o =>
      obtain ⟨c, e, _, _, nm, _⟩ := p
      rw [z] at e
      cases e
      exact nm ⟨j, w, hj, hm, hv⟩
  refine ⟨R.sub, by rw [List.length_set, List.length_set]; exact R.len, fun j w hj => ?_, fun j k w1 w2 a h1 m1 h2 m2 v1 v2 => ?_, fun j o a hj hv => ?_, fun j o a hj hv => ?_, fun j a hj => ?_, R.ext⟩
  · rcases get_set hj with ⟨rfl, q, _⟩ | ⟨ne, q⟩
    · cases q
      refine ⟨v, inn, ?_⟩
      cases u with
      | t d => exact p
      | m o => obtain ⟨a, e, f, h, _⟩ := p; exact ⟨a, e, f, h⟩
      | b o => cases p
      | v k => cases p
      | s k => cases p
    · rw [out ne]; exact R.rep j w q
  · rcases get_set h1 with ⟨rfl, q1, _⟩ | ⟨ne1, q1⟩
    · rcases get_set h2 with ⟨rfl, q2, _⟩ | ⟨ne2, q2⟩
      · rfl
      · cases q1
        rw [inn] at v1
        rw [out ne2] at v2
        cases v1
        exact absurd rfl (clash k w2 a ne2 q2 m2 m1 v2)
    · rcases get_set h2 with ⟨rfl, q2, _⟩ | ⟨ne2, q2⟩
      · cases q2
        rw [inn] at v2
        rw [out ne1] at v1
        cases v2
        exact absurd rfl (clash j w1 a ne1 q1 m1 m2 v1)
      · rw [out ne1] at v1
        rw [out ne2] at v2
        exact R.dis j k w1 w2 a q1 m1 q2 m2 v1 v2
  · rcases get_set hj with ⟨rfl, q, _⟩ | ⟨ne, q⟩
    · cases q
      rw [inn] at hv
      cases hv
      obtain ⟨c, e, _, _, _, hB⟩ := p
      cases e
      exact hB
    · rw [out ne] at hv; exact R.own j o a q hv
  · rcases get_set hj with ⟨rfl, q, _⟩ | ⟨ne, q⟩
    · cases q; cases p
    · rw [out ne] at hv; exact R.bor j o a q hv
  · obtain ⟨h1, o, h2⟩ := R.par j a hj
    have ne : i ≠ j := fun z => by subst z; exact nb o h2
    exact ⟨by rw [out ne]; exact h1, o, by rw [List.getElem?_set_ne ne]; exact h2⟩
def sNil : GS := fun S => some (.nx S)
def sSeq (a b : GS) : GS := fun S => (a S).bind fun o => match o with
  | .nx S1 => b S1
  | o => some o
def sSet (i : Nat) (g : GE) : GS := fun S => (g S).bind fun p => match p.1 with
  | .m o => (setU i (.m o) p.2).map .nx
  | u => (fz u p.2).bind fun q => (setU i (.t q.1) q.2).map .nx
def sExpr (g : GE) : GS := fun S => (g S).map fun p => .nx p.2
def sRet (g : GE) : GS := fun S => (g S).bind fun p => match p.1 with
  | .v i => match p.2[i]? with
    | some (some (.t d)) => some (.rt (.t d) p.2)
    | some (some (.m o)) => some (.rt (.m o) (p.2.set i none))
    | _ => none
  | .s _ => none
  | u => some (.rt u p.2)
def sRetN : GS := fun S => some (.rt (.t .non) S)
def sIf (q : GT) (a b : GS) : GS := fun S => (q S).bind fun p => if p.1 then a p.2 else b p.2
theorem OutOk.mono {K : PySem.W.Frag} {B : Base} {F F1 : Hp} {D : Ends} (g : ∀ b o, F b = some o → F1 b = some o) : ∀ {o : Out}, OutOk K B F D o → OutOk K B F1 D o
  | .nx _, h => fun σ' F' H' R le => h σ' F' H' R fun b o z => le b o (g b o z)
  | .bk _, h => fun σ' F' H' R le => h σ' F' H' R fun b o z => le b o (g b o z)
  | .ct _, h => fun σ' F' H' R le => h σ' F' H' R fun b o z => le b o (g b o z)
  | .rt _ _, h => fun v σ' F' H' R le => h v σ' F' H' R fun b o z => le b o (g b o z)
section
variable {X : Cx} {a b c e : Expr} {pos p p2 : Pos} {x : Str} {st : Stmt} {rest b1 b2 body : List Stmt} {g : GE} {s1 s2 : GS} {q1 : GT}
theorem jb_nil : JB X [] sNil := ⟨fun B => pss_nil.imp fun D σ H ⟨S, F, o, R, h, k⟩ => by cases h; exact k σ F H R fun _ _ z => z⟩
theorem jb_cons (h1 : JS X st s1) (h2 : JB X rest s2) : JB X (st :: rest) (sSeq s1 s2) := ⟨fun B => (pss_cons (h1.h B) (h2.h B)).imp fun D σ H ⟨S, F, o, R, h, k⟩ => by
  obtain ⟨o1, e1, h⟩ := bind_some' h
  refine ⟨S, F, o1, R, e1, ?_⟩
  cases o1 with
  | nx S1 => exact fun σ' F' H' R' le => ⟨S1, F', o, R', h, k.mono le⟩
  | rt u S1 => cases h; exact k
  | bk S1 => cases h; exact k
  | ct S1 => cases h; exact k⟩
theorem jb_one (h1 : JS X st s1) : JB X [st] s1 := ⟨fun B => pss_one (h1.h B)⟩
theorem RepR.put {K : PySem.W.Frag} {B : Base} {S : SS} {σ : St} {H0 F H : Hp} {v : V} {o : MO} (r : RepR K B S σ H0 F H v (.m o)) : PutOk B S σ F H v (.m o) := by
  obtain ⟨a, e, _, f, h, n, hB⟩ := r
  exact ⟨a, e, f, h, n, hB⟩
theorem set_imp {i : Nat} {K : PySem.W.Frag} {B : Base} {D : Ends} {σ : St} {H : Hp} (h : tO K B (sSet i g) D σ H) : tAsg (tE K B g) (gName i) D σ H := by
  obtain ⟨S, F, o, R, h, k⟩ := h
  obtain ⟨⟨u, S1⟩, h1, h⟩ := bind_some' h
  refine ⟨S, F, u, S1, R, h1, fun v F1 H1 R1 st1 r1 => ?_⟩
  have go : (∀ o', u ≠ .m o') → (fz u S1).bind (fun q => (setU i (.t q.1) q.2).map Out.nx) = some o → D.nx (σ.set i (some v)) H1 := fun _ h => by
    obtain ⟨⟨d, S2⟩, h2, h⟩ := bind_some' h
    obtain ⟨S3, h3, h⟩ := map_some' h
    subst h
    obtain ⟨F2, R2, st2, r2⟩ := fz_ok R1 st1 r1 h2
    exact k _ F2 H1 (R2.put h3 r2) st2.ext.le
  cases u with
  | m o' =>
    obtain ⟨S3, h3, h⟩ := map_some' (show (setU i (.m o') S1).map Out.nx = some o from h)
    subst h
    exact k _ F1 H1 (R1.put h3 r1.put) st1.ext.le
  | t d => exact go (fun _ z => by cases z) h
  | b d => exact go (fun _ z => by cases z) h
  | s d => exact go (fun _ z => by cases z) h
  | v d => exact go (fun _ z => by cases z) h
theorem js_set {i : Nat} {pos' : Pos} (hN : X.N.Nodup) (hi : X.N[i]? = some x) (hx : Loc X.env.scope x) (he : JE X e g) (hs : swapsWith e (some (.Name x pos')) pos.line X.env = pure false := by rfl)
    (hf : X.fn x = true ∨ X.env.scope.names.lookup x = some .local := by first | exact .inl rfl | exact .inr rfl | assumption) : JS X (.Assign [.Name x pos'] e pos) (sSet i g) :=
  ⟨fun B => (ps_set hN hi hx (he.h B) hs hf).imp fun D σ H h => set_imp h⟩
theorem js_expr (he : JE X e g) (hs : swapsWith e none pos.line X.env = pure false := by rfl) : JS X (.Expr e pos) (sExpr g) := ⟨fun B => (ps_expr (he.h B) hs).imp fun D σ H ⟨S, F, o, R, h, k⟩ => by
  obtain ⟨⟨u, S1⟩, h1, h⟩ := map_some' h
  subst h
  exact ⟨S, F, u, S1, R, h1, fun v F1 H1 R1 st1 r1 => k σ F1 H1 R1 st1.ext.le⟩⟩
theorem Rel.drop {K : PySem.W.Frag} {B : Base} {S : SS} {σ : St} {F H : Hp} {i : Nat} {o : MO} (R : Rel K B S σ F H) (h : S[i]? = some (some (.m o))) : Rel K B (S.set i none) σ F H := by
  have back : ∀ {j w}, (S.set i none)[j]? = some (some w) → i ≠ j ∧ S[j]? = some (some w) := fun {j w} z => by
    rcases get_set z with ⟨_, q, _⟩ | q
    · cases q
    · exact q
  refine ⟨R.sub, by rw [List.length_set]; exact R.len, fun j w z => R.rep j w (back z).2, fun j k w1 w2 a h1 m1 h2 m2 => R.dis j k w1 w2 a (back h1).2 m1 (back h2).2 m2, fun j o a z => R.own j o a (back z).2, fun j o a z => R.bor j o a (back z).2, fun j a z => ?_, R.ext⟩
  obtain ⟨k1, o', k2⟩ := R.par j a z
  have ne : i ≠ j := fun z => by subst z; rw [h] at k2; cases k2
  exact ⟨k1, o', by rw [List.getElem?_set_ne ne]; exact k2⟩
theorem js_ret (he : JE X e g) : JS X (.Return (some e) pos) (sRet g) := ⟨fun B => (ps_ret (he.h B)).imp fun D σ H ⟨S, F, o, R, h, k⟩ => by
  obtain ⟨⟨u, S1⟩, h1, h⟩ := bind_some' h
  refine ⟨S, F, u, S1, R, h1, fun v F1 H1 R1 st1 r1 => ?_⟩
  cases u with
  | t d => cases h; exact k v σ F1 H1 R1 st1.ext.le r1
  | b d => cases h; cases r1
  | s d => cases h
  | m o' => cases h; exact k v σ F1 H1 R1 st1.ext.le (by obtain ⟨a, e, h0, f, h, n, hB⟩ := r1; exact ⟨a, e, hB, f, h, n, hB⟩)
  | v i =>
    obtain ⟨hv, w, hw⟩ := r1
    dsimp only at h
    rw [hw] at h
    obtain ⟨v', z1, z2⟩ := R1.rep i w hw
    rw [hv] at z1
    cases z1
    cases w with
    | t d => cases h; exact k v σ F1 H1 R1 st1.ext.le z2
    | b d => cases h
    | v d => cases h
    | s d => cases h
    | m o' =>
      cases h
      obtain ⟨a, rfl, f, ha⟩ := z2
      have hB := R1.own i o' a hw hv
      refine k _ σ F1 H1 (R1.drop hw) st1.ext.le ⟨a, rfl, hB, f, ha, fun ⟨j, w, z, hm, hj⟩ => ?_, hB⟩
      rcases get_set z with ⟨_, q, _⟩ | ⟨ne, q⟩
      · cases q
      · exact ne (R1.dis i j _ w a hw rfl q hm hv hj)⟩
theorem js_if (hc : JT X c q1) (ha : JB X b1 s1) (hb : JB X b2 s2) : JS X (.If c b1 b2 pos) (sIf q1 s1 s2) := ⟨fun B => (ps_if (hc.h B) (ha.h B) (hb.h B)).imp fun D σ H ⟨S, F, o, R, h, k⟩ => by
  obtain ⟨⟨d, S1⟩, h1, h⟩ := bind_some' h
  refine ⟨S, F, d, S1, R, h1, fun F1 H1 R1 st1 => ?_⟩
  cases d with
  | true => exact iteT ⟨S1, F1, o, R1, h, k.mono st1.ext.le⟩
  | false => exact iteF ⟨S1, F1, o, R1, h, k.mono st1.ext.le⟩⟩
abbrev GB := D → SS → Option SS
def tBd (K : PySem.W.Frag) (B : Base) (bd : GB) : TG := fun v σ H Q => ∃ S F d S', Rel K B S σ F H ∧ Rep F v d ∧ bd d S = some S' ∧ ∀ σ', Rel K B S' σ' F H → Q σ' H
structure JG (X : Cx) (tg : Expr) (bd : GB) : Prop where
  h : ∀ B, PG X tg (tBd X.K B bd)
abbrev GBs := List D → SS → Option SS
def tBds (K : PySem.W.Frag) (B : Base) (bd : GBs) : TGs := fun vs σ H Q => ∃ S F ds S', Rel K B S σ F H ∧ Reps F vs ds ∧ bd ds S = some S' ∧ ∀ σ', Rel K B S' σ' F H → Q σ' H
structure JGs (X : Cx) (tgs : List Expr) (bd : GBs) : Prop where
  h : ∀ B, PGs X tgs (tBds X.K B bd)
theorem PG.imp {tg : Expr} {t t' : TG} (h : PG X tg t) (k : ∀ v σ H Q, t' v σ H Q → t v σ H Q) : PG X tg t' := fun pins s σ H v u Q I r q => h pins s σ H v u Q I r (k v σ H Q q)
theorem PGs.imp {tg : List Expr} {t t' : TGs} (h : PGs X tg t) (k : ∀ v σ H Q, t' v σ H Q → t v σ H Q) : PGs X tg t' := fun pins s σ H v u Q I r q => h pins s σ H v u Q I r (k v σ H Q q)
def bName (i : Nat) : GB := fun d S => setU i (.t d) S
theorem jg_name {i : Nat} (hN : X.N.Nodup) (hi : X.N[i]? = some x) (hx : Loc X.env.scope x) (hf : X.fn x = true ∨ X.env.scope.names.lookup x = some .local := by first | exact .inl rfl | exact .inr rfl | assumption) : JG X (.Name x pos) (bName i) :=
  ⟨fun B => (pg_name hN hi hx hf).imp fun v σ H Q ⟨S, F, d, S', R, r, h, k⟩ => k _ (R.put h r)⟩
def bNil : GBs := fun ds S => match ds with
  | [] => some S
  | _ => none
def bCons (b : GB) (bs : GBs) : GBs := fun ds S => match ds with
  | d :: r => (b d S).bind fun S1 => bs r S1
  | [] => none
theorem jgs_nil : JGs X [] bNil := ⟨fun B => pgs_nil.imp fun vs σ H Q ⟨S, F, ds, S', R, r, h, k⟩ => by
  cases r with
  | nil => cases h; exact ⟨rfl, k σ R⟩
  | cons _ _ => cases h⟩
theorem jgs_cons {tg : Expr} {tgs : List Expr} {bd : GB} {bds : GBs} (h1 : JG X tg bd) (h2 : JGs X tgs bds) (hs : (assignEach (tg :: tgs) X.env).map (·.2) = assign tg X.env :: (assignEach tgs X.env).map (·.2) := by rfl) : JGs X (tg :: tgs) (bCons bd bds) :=
  ⟨fun B => (pgs_cons (h1.h B) (h2.h B) hs).imp fun vs σ H Q ⟨S, F, ds, S', R, r, h, k⟩ => by
  cases r with
  | nil => cases h
  | cons r rs =>
    obtain ⟨S1, e1, h⟩ := bind_some' h
    exact ⟨_, _, rfl, S, F, _, S1, R, r, e1, fun σ1 R1 => ⟨S1, F, _, S', R1, rs, h, k⟩⟩⟩
def bTup (n : Nat) (bs : GBs) : GB := fun d S => match d with
  | .tup ds => if ds.length = n then bs ds S else none
  | _ => none
theorem jg_tup {tgs : List Expr} {k0 : Nat} {bds : GBs} {n : Nat} (hc : X.calm = true) (h : JGs X tgs bds) (hn : (assignEach tgs X.env).length = n := by rfl) (hst : (assignEach tgs X.env).findIdx? (·.1) = none := by rfl) : JG X (.Tuple tgs k0 pos) (bTup n bds) :=
  ⟨fun B => (pg_tup hc (h.h B) hn hst).imp fun v σ H Q ⟨S, F, d, S', R, r, h, k⟩ => by
  cases d <;> try (cases h)
  rename_i ds
  unfold bTup at h
  dsimp only at h
  split at h
  · rename_i hl
    obtain ⟨a, vs, rfl, fa, ha, rs⟩ := R.sub.tupAt r
    exact ⟨a, vs, rfl, .inl ha, by rw [rs.length]; exact hl, S, F, ds, S', R, rs, h, k⟩
  · cases h⟩
def sAsg (bd : GB) (g : GD) : GS := fun S => (g S).bind fun p => (bd p.1 p.2).map .nx
theorem js_asg {tg : Expr} {bd : GB} {gd : GD} (he : JD X e gd) (hg : JG X tg bd) (hs : swapsWithSole [tg] e pos.line X.env = pure false := by rfl) (hw : swappedStores [tg] e X.env = pure none := by rfl)
    (h1 : (assignEach [tg] X.env).map (·.2) = [assign tg X.env] := by rfl) : JS X (.Assign [tg] e pos) (sAsg bd gd) :=
  ⟨fun B => (ps_asg (he.h B) (hg.h B) hs hw h1).imp fun D σ H ⟨S, F, o, R, h, k⟩ => by
  obtain ⟨⟨d, S1⟩, e1, h⟩ := bind_some' h
  obtain ⟨S2, e2, h⟩ := map_some' h
  subst h
  exact ⟨S, F, d, S1, R, e1, fun v F1 H1 R1 st1 r1 => ⟨S1, F1, d, S2, R1, r1, e2, fun σ' R2 => k σ' F1 H1 R2 st1.ext.le⟩⟩⟩
def Walk (J : It) (F : Hp) (ds : List D) : Prop := ∀ F' H', (∀ b o, F b = some o → F' b = some o) → Sub F' H' → ∀ i, (∀ d, ds[i]? = some d → J.go i H' ∧ ∀ x H2, J.yld i H' x H2 → H2 = H' ∧ Rep F' x d) ∧ (ds.length ≤ i → J.stop i H')
abbrev GI := SS → Option (List D × SS)
def tIt (K : PySem.W.Frag) (B : Base) (gi : GI) : TI := fun σ H R => ∃ S F ds S', Rel K B S σ F H ∧ gi S = some (ds, S') ∧ ∀ J F' H', Rel K B S' σ F' H' → Step S S' σ F H F' H' → Walk J F' ds → R J H'
structure JI (X : Cx) (tg e : Expr) (gi : GI) : Prop where
  h : ∀ B, PI X tg e (tIt X.K B gi)
theorem PI.orelse {tg : Expr} {wi : TI} (h : ∀ σ H R, wi σ H R → ∃ wi', PI X tg e wi' ∧ wi' σ H R) : PI X tg e wi := fun pins s σ H R I q => let ⟨_, h1, h2⟩ := h σ H R q; h1 pins s σ H R I h2
def iSeq (g : GD) : GI := fun S => (g S).bind fun p => match p.1 with
  | .tup ds => some (ds, p.2)
  | .lst ds => some (ds, p.2)
  | _ => none
def iAny (g : GD) : GI := fun S => (g S).bind fun p => match p.1 with
  | .tup ds => some (ds, p.2)
  | .lst ds => some (ds, p.2)
  | .str z => some (z.cps.toList.map fun c => .str ⟨#[c]⟩, p.2)
  | _ => none
theorem walk_list {K : PySem.W.Frag} {F : Hp} {a : Addr} {vs : List V} {ds : List D} (fa : F a = some (.lst vs)) (rs : Reps F vs ds) : Walk (Itl K a) F ds := fun F' H' le sb i => by
  have ha : SqL K H' a vs := .inl (Rd.of (sb a _ (le _ _ fa)))
  refine ⟨fun d hd => ?_, fun hl => ⟨vs, ha, by rw [rs.length]; exact hl⟩⟩
  obtain ⟨v, h1, h2⟩ := rs.get hd
  refine ⟨⟨vs, v, ha, h1⟩, fun x H2 y => ⟨y.1, ?_⟩⟩
  have := y.2 vs ha
  rw [h1] at this
  cases this
  exact h2.le le
theorem walk_tup {K : PySem.W.Frag} {F : Hp} {a : Addr} {vs : List V} {ds : List D} (fa : F a = some (.tup vs)) (rs : Reps F vs ds) : Walk (Itt K a) F ds := fun F' H' le sb i => by
  have ha : SqT K H' a vs := .inl (Rd.of (sb a _ (le _ _ fa)))
  refine ⟨fun d hd => ?_, fun hl => ⟨vs, ha, by rw [rs.length]; exact hl⟩⟩
  obtain ⟨v, h1, h2⟩ := rs.get hd
  refine ⟨⟨vs, v, ha, h1⟩, fun x H2 y => ⟨y.1, ?_⟩⟩
  have := y.2 vs ha
  rw [h1] at this
  cases this
  exact h2.le le
theorem walk_str {F : Hp} {z : Str} : Walk (Its z) F (z.cps.toList.map fun c => .str ⟨#[c]⟩) := fun F' H' le sb i => by
  refine ⟨fun d hd => ?_, fun hl => (show z.cps.size ≤ i by simpa using hl)⟩
  rw [List.getElem?_map] at hd
  obtain ⟨c, hc, rfl⟩ := map_some' hd
  have hc' : z.cps[i]? = some c := by rw [← Array.getElem?_toList]; exact hc
  refine ⟨(Array.getElem?_eq_some_iff.mp hc').1, fun x H2 y => ⟨y.1, ?_⟩⟩
  obtain ⟨c2, k1, rfl⟩ := y.2
  rw [hc'] at k1
  cases k1
  exact .str _
theorem ji_seq {tg : Expr} {gd : GD} (h : JD X e gd) : JI X tg e (iSeq gd) := ⟨fun B => PI.orelse fun σ H R0 ⟨S, F, ds, S', R, hg, k⟩ => by
  obtain ⟨⟨d, S1⟩, h1, hg⟩ := bind_some' hg
  cases d <;> try (cases hg)
  · refine ⟨_, pi_tup (h.h B), S, F, _, _, R, h1, fun v F1 H1 R1 st1 r1 => ?_⟩
    obtain ⟨a, vs, rfl, fa, ha, rs⟩ := R1.sub.tupAt r1
    exact ⟨a, rfl, ⟨vs, .inl ha⟩, k _ F1 H1 R1 st1 (walk_tup fa rs)⟩
  · refine ⟨_, pi_list (h.h B), S, F, _, _, R, h1, fun v F1 H1 R1 st1 r1 => ?_⟩
    obtain ⟨a, vs, rfl, fa, ha, rs⟩ := R1.sub.lstAt r1
    exact ⟨a, rfl, ⟨vs, .inl ha⟩, k _ F1 H1 R1 st1 (walk_list fa rs)⟩⟩
theorem ji_any {gd : GD} (h : JD X e gd) : JI X (.Name x pos) e (iAny gd) := ⟨fun B => PI.orelse fun σ H R0 ⟨S, F, ds, S', R, hg, k⟩ => by
  obtain ⟨⟨d, S1⟩, h1, hg⟩ := bind_some' hg
  cases d <;> try (cases hg)
  · refine ⟨_, pi_str (h.h B), S, F, _, _, R, h1, fun v F1 H1 R1 st1 r1 => ?_⟩
    exact ⟨_, rep_str r1, k _ F1 H1 R1 st1 walk_str⟩
  · refine ⟨_, pi_tup (h.h B), S, F, _, _, R, h1, fun v F1 H1 R1 st1 r1 => ?_⟩
    obtain ⟨a, vs, rfl, fa, ha, rs⟩ := R1.sub.tupAt r1
    exact ⟨a, rfl, ⟨vs, .inl ha⟩, k _ F1 H1 R1 st1 (walk_tup fa rs)⟩
  · refine ⟨_, pi_list (h.h B), S, F, _, _, R, h1, fun v F1 H1 R1 st1 r1 => ?_⟩
    obtain ⟨a, vs, rfl, fa, ha, rs⟩ := R1.sub.lstAt r1
    exact ⟨a, rfl, ⟨vs, .inl ha⟩, k _ F1 H1 R1 st1 (walk_list fa rs)⟩⟩
def rng (lo : Int) (n : Nat) : List D := (List.range n).map fun (k : Nat) => D.int (lo + (k : Int))
def gRng1 (gA : GA) : GI := fun S => (gA S).bind fun p => match p.1 with
  | [.int j] => if j < 1000000 ∧ -1000000 < j then some (rng 0 j.toNat, p.2) else none
  | _ => none
def gRng2 (gA : GA) : GI := fun S => (gA S).bind fun p => match p.1 with
  | [.int i, .int j] => if i < 1000000 ∧ -1000000 < i ∧ j < 1000000 ∧ -1000000 < j then some (rng i (j - i).toNat, p.2) else none
  | _ => none
theorem walk_rng {F : Hp} {lo : Int} {n : Nat} : Walk (Itr lo n) F (rng lo n) := fun F' H' le sb i => by
  refine ⟨fun d hd => ?_, fun hl => (show n ≤ i by simpa [rng] using hl)⟩
  unfold rng at hd
  rw [List.getElem?_map] at hd
  obtain ⟨c, hc, rfl⟩ := map_some' hd
  obtain ⟨hl, e⟩ := List.getElem?_eq_some_iff.mp hc
  rw [List.getElem_range] at e
  subst e
  refine ⟨show i < n by simpa using hl, fun x H2 y => ⟨y.1, ?_⟩⟩
  rw [y.2]
  exact .int _
theorem ji_range1 {tg : Expr} {gA : GA} (hg : Gl X "range") (hm : X.mg "range" = none) (ha : JA X [a] gA) (hs : starEach [a] X.env = [(false, eval a X.env)] := by rfl) : JI X tg (.Call (.Name "range" p) [a] [] pos) (gRng1 gA) :=
  ⟨fun B => PI.orelse fun σ H R0 ⟨S, F, ds, S', R, hg', k⟩ => by
  obtain ⟨⟨d, S1⟩, h1, hg'⟩ := bind_some' hg'
  refine ⟨_, pi_range1 hg hm (ha.h B) hs, S, F, d, S1, R, h1, fun vs F1 H1 R1 st1 r1 => ?_⟩
  dsimp only at hg'
  split at hg'
  · split at hg'
    · rename_i j hj
      cases hg'
      cases r1 with
      | cons r rs =>
        cases rs
        exact ⟨j, by rw [rep_int r], by omega, by omega, k _ F1 H1 R1 st1 walk_rng⟩
    · cases hg'
  · cases hg'⟩
def loop (bd : GB) (body : GS) : List D → SS → Option Out
  | [], S => some (.nx S)
  | d :: ds, S => (bd d S).bind fun S1 => (body S1).bind fun o => match o with
    | .nx S2 => loop bd body ds S2
    | .ct S2 => loop bd body ds S2
    | .bk S2 => some (.nx S2)
    | .rt u S2 => some (.rt u S2)
def sFor (bd : GB) (gi : GI) (body : GS) : GS := fun S => (gi S).bind fun p => loop bd body p.1 p.2
theorem js_for {tg iter : Expr} {bd : GB} {gi : GI} (hp : PassesOwn (model X.prog X.w) X.A X.env X.xe) (hc : X.calm = true) (hi : JI X tg iter gi) (hg : JG X tg bd) (hb : JB X body s1) (hs : ∀ x, foldedSetIterable iter X.env x = pure x := by intro _; rfl) :
    JS X (.For tg iter body [] pos) (sFor bd gi s1) := ⟨fun B => (ps_for hp hc (hi.h B) (hg.h B) (hb.h B) hs).imp fun D σ H ⟨S, F, o, R, h, k⟩ => by
  obtain ⟨⟨ds, S1⟩, h1, h⟩ := bind_some' h
  refine ⟨S, F, ds, S1, R, h1, fun J F1 H1 R1 st1 w => ?_⟩
  refine ⟨fun i m σ' H' => ∃ S' F', Rel X.K B S' σ' F' H' ∧ (∀ b o, F1 b = some o → F' b = some o) ∧ i ≤ ds.length ∧ m = ds.length - i ∧ loop bd s1 (ds.drop i) S' = some o, ⟨_, S1, F1, R1, fun _ _ z => z, Nat.zero_le _, rfl, h⟩, ?_⟩
  rintro i m σ' H' ⟨S', F', R', le, hl, rfl, hlp⟩
  have w' := w F' H' le R'.sub i
  by_cases hlt : i < ds.length
  · have hd : ds[i]? = some ds[i] := List.getElem?_eq_getElem hlt
    obtain ⟨go, yl⟩ := w'.1 _ hd
    rw [List.drop_eq_getElem_cons hlt] at hlp
    obtain ⟨S2, e2, hlp⟩ := bind_some' hlp
    obtain ⟨o2, e3, hlp⟩ := bind_some' hlp
    refine .inr ⟨go, _, fun σ2 H2 n => ⟨ds.length - (i + 1), by omega, n⟩, fun x H2 y => ?_⟩
    obtain ⟨rfl, rx⟩ := yl x H2 y
    refine ⟨S', F', _, S2, R', rx, e2, fun σ3 R3 => ⟨S2, F', o2, R3, e3, ?_⟩⟩
    cases o2 with
    | nx S3 => exact fun σ4 F4 H4 R4 le4 => ⟨S3, F4, R4, fun b o z => le4 b o (le b o z), hlt, rfl, hlp⟩
    | ct S3 => exact fun σ4 F4 H4 R4 le4 => ⟨S3, F4, R4, fun b o z => le4 b o (le b o z), hlt, rfl, hlp⟩
    | bk S3 => cases hlp; exact fun σ4 F4 H4 R4 le4 => k σ4 F4 H4 R4 fun b o z => le4 b o (le b o (st1.ext.le b o z))
    | rt u S3 => cases hlp; exact fun v σ4 F4 H4 R4 le4 => k v σ4 F4 H4 R4 fun b o z => le4 b o (le b o (st1.ext.le b o z))
  · have e : i = ds.length := by omega
    subst e
    rw [List.drop_length] at hlp
    cases hlp
    exact .inl ⟨w'.2 (Nat.le_refl _), k σ' F' H' R' fun b o z => le b o (st1.ext.le b o z)⟩⟩
def wloop (q : GT) (body : GS) : Nat → SS → Option Out
  | 0, _ => none
  | n + 1, S => (q S).bind fun p => if p.1 then (body p.2).bind fun o => match o with
    | .nx S2 => wloop q body n S2
    | .ct S2 => wloop q body n S2
    | .bk S2 => some (.nx S2)
    | .rt u S2 => some (.rt u S2)
  else some (.nx p.2)
def sWhile (fuel : Nat) (q : GT) (body : GS) : GS := fun S => wloop q body fuel S
theorem js_while {fuel : Nat} (hp : PassesOwn (model X.prog X.w) X.A X.env X.xe) (hc : JT X c q1) (hb : JB X body s1) : JS X (.While c body [] pos) (sWhile fuel q1 s1) := ⟨fun B => (ps_while hp (hc.h B) (hb.h B)).imp fun D σ H ⟨S, F, o, R, h, k⟩ => by
  refine ⟨fun m σ' H' => ∃ S' F', Rel X.K B S' σ' F' H' ∧ (∀ b o, F b = some o → F' b = some o) ∧ wloop q1 s1 m S' = some o, ⟨fuel, S, F, R, fun _ _ z => z, h⟩, ?_⟩
  rintro m σ' H' ⟨S', F', R', le, h⟩
  cases m with
  | zero => cases h
  | succ m =>
    obtain ⟨⟨d, S1⟩, h1, h⟩ := bind_some' h
    refine ⟨S', F', d, S1, R', h1, fun F1 H1 R1 st1 => ?_⟩
    cases d with
    | false =>
      cases h
      exact iteF (k σ' F1 H1 R1 fun b o z => st1.ext.le b o (le b o z))
    | true =>
      obtain ⟨o2, e3, h⟩ := bind_some' (show (s1 S1).bind _ = some o from h)
      refine iteT ⟨_, fun σ2 H2 n => ⟨m, Nat.lt_succ_self m, n⟩, S1, F1, o2, R1, e3, ?_⟩
      have le1 : ∀ b o, F b = some o → F1 b = some o := fun b o z => st1.ext.le b o (le b o z)
      cases o2 with
      | nx S3 => exact fun σ4 F4 H4 R4 le4 => ⟨S3, F4, R4, fun b o z => le4 b o (le1 b o z), h⟩
      | ct S3 => exact fun σ4 F4 H4 R4 le4 => ⟨S3, F4, R4, fun b o z => le4 b o (le1 b o z), h⟩
      | bk S3 => cases h; exact fun σ4 F4 H4 R4 le4 => k σ4 F4 H4 R4 fun b o z => le4 b o (le1 b o z)
      | rt u S3 => cases h; exact fun v σ4 F4 H4 R4 le4 => k v σ4 F4 H4 R4 fun b o z => le4 b o (le1 b o z)⟩
end
end L2

end
section
set_option Elab.async false
set_option linter.all false
set_option maxRecDepth 100000
namespace L2
open PySem PySem.Spec PyProof.Rows
def reU : U → MO → Option U
  | .m _, o => some (.m o)
  | .b _, o => some (.b o)
  | _, _ => none
def inU : U → Option MO
  | .m o => some o
  | .b o => some o
  | _ => none
def mutU (S : SS) (i : Nat) (f : MO → Option (D × MO)) : Option (D × SS) := match S[i]? with
  | some (some (.m o)) => (f o).map fun r => (r.1, S.set i (some (.m r.2)))
  | some (some (.b o)) => (f o).map fun r => (r.1, S.set i (some (.b r.2)))
  | _ => none
theorem At.upd {F H : Hp} {a : Addr} {h1 : HO} {o : MO} (k : At F (L2.upd H a h1) a o) (H' : Hp) : At F (L2.upd H' a h1) a o := by
  cases o with
  | lst ds => obtain ⟨vs, e, r⟩ := k; rw [upd_same] at e; exact ⟨vs, by rw [upd_same]; exact e, r⟩
  | dct ds => obtain ⟨vs, e, r⟩ := k; rw [upd_same] at e; exact ⟨vs, by rw [upd_same]; exact e, r⟩
  | dtt ds => obtain ⟨vs, e, r⟩ := k; rw [upd_same] at e; exact ⟨vs, by rw [upd_same]; exact e, r⟩
theorem At.nofrz {F H : Hp} {a : Addr} {o : MO} {ob : Obj} {u : HO} (h : At F H a o) : H a ≠ some (.frz ob u) := fun z => by
  cases o with
  | lst ds => obtain ⟨vs, e, _⟩ := h; rw [z] at e; cases e
  | dct ds => obtain ⟨vs, e, _⟩ := h; rw [z] at e; cases e
  | dtt ds => obtain ⟨vs, e, _⟩ := h; rw [z] at e; cases e
theorem RepU.mutAt {K : PySem.W.Frag} {F H : Hp} {v : V} {u : U} (r : RepU K F H v u) (hm : isMut u = true) : ∃ a o, v = .ref a ∧ F a = none ∧ inU u = some o ∧ At F H a o := by
  cases u with
  | t d => cases hm
  | v d => cases hm
  | s d => cases hm
  | m o => obtain ⟨a, e, f, h⟩ := r; exact ⟨a, o, e, f, rfl, h⟩
  | b o => obtain ⟨a, e, f, h⟩ := r; exact ⟨a, o, e, f, rfl, h⟩
theorem Rel.write {K : PySem.W.Frag} {B : Base} {S : SS} {σ : St} {F H : Hp} {i : Nat} {u u' : U} {a : Addr} {ho : HO} {o : MO} (R : Rel K B S σ F H) (hS : S[i]? = some (some u)) (hu : reU u o = some u') (hv : σ[i]? = some (some (.ref a))) (ha : At F (upd H a ho) a o) :
    Rel K B (S.set i (some u')) σ F (upd H a ho) ∧ Step S (S.set i (some u')) σ F H F (upd H a ho) := by
  have hm : isMut u = true ∧ isMut u' = true := by cases u <;> cases hu <;> exact ⟨rfl, rfl⟩
  have hfa' : F a = none ∧ ∀ b ob w, H b = some (.frz ob w) → b ≠ a := by
    obtain ⟨v, h1, h2⟩ := R.rep i u hS
    rw [hv] at h1
    cases h1
    obtain ⟨b, _, e, f, _, k⟩ := h2.mutAt hm.1
    cases e
    exact ⟨f, fun b ob w z e => k.nofrz (by rw [e] at z; exact z)⟩
  have hfa := hfa'.1
  have kfz : ∀ b ob w, H b = some (.frz ob w) → upd H a ho b = some (.frz ob w) := fun b ob w z => by rw [upd_ne (hfa'.2 b ob w z)]; exact z
  have mAt : L2.mutAt S σ a := ⟨i, u, hS, hm.1, hv⟩
  have hl : i < S.length := (List.getElem?_eq_some_iff.mp hS).1
  have kb : ∀ {j w}, (S.set i (some u'))[j]? = some (some w) → (i = j ∧ u' = w) ∨ (i ≠ j ∧ S[j]? = some (some w)) := fun {j w} z => by
    rcases get_set z with ⟨e, q, _⟩ | q
    · exact .inl ⟨e, Option.some.inj q⟩
    · exact .inr q
  have orig : ∀ {j w}, (S.set i (some u'))[j]? = some (some w) → isMut w = true → ∃ w0, S[j]? = some (some w0) ∧ isMut w0 = true := fun {j w} z hw => by
    rcases kb z with ⟨rfl, rfl⟩ | ⟨_, q⟩
    · exact ⟨u, hS, hm.1⟩
    · exact ⟨w, q, hw⟩
  have keepR : ∀ b o, b ≠ a → Rd H b o → Rd (upd H a ho) b o := fun b o ne r => by
    rcases r with r | ⟨ob, r⟩
    · exact .inl (by rw [upd_ne ne]; exact r)
    · exact .inr ⟨ob, by rw [upd_ne ne]; exact r⟩
  refine ⟨⟨fun b o z => by rw [upd_ne (fun e => by rw [e, hfa] at z; cases z)]; exact R.sub b o z, by rw [List.length_set]; exact R.len, fun j w z => ?_, fun j k w1 w2 c z1 m1 z2 m2 => ?_, fun j o' c z hc => ?_, fun j o' c z hc => ?_, fun j c z => ?_, ?_⟩, ⟨?_, fun c ⟨j, w, z, hw, hc⟩ => ?_, fun j w z => ?_⟩⟩
  · rcases kb z with ⟨rfl, rfl⟩ | ⟨ne, q⟩
    · refine ⟨.ref a, hv, ?_⟩
      cases u <;> cases hu
      · exact ⟨a, rfl, hfa, ha⟩
      · exact ⟨a, rfl, hfa, ha⟩
    · obtain ⟨v, h1, h2⟩ := R.rep j w q
      refine ⟨v, h1, ?_⟩
      by_cases hw : isMut w = true
      · obtain ⟨c, o', rfl, f, e, h⟩ := h2.mutAt hw
        have hca : c ≠ a := fun z => ne (R.dis i j u w a hS hm.1 q hw hv (by rw [h1, z]))
        have h' : At F (upd H a ho) c o' := h.le (fun _ _ z => z) fun o z => by rw [upd_ne hca]; exact z
        cases w <;> cases hw <;> cases e
        · exact ⟨c, rfl, f, h'⟩
        · exact ⟨c, rfl, f, h'⟩
      · cases w with
        | t d => exact h2
        | v d => exact h2
        | s d => obtain ⟨c, e, h⟩ := h2; exact ⟨c, e, h.le kfz⟩
        | m o => exact absurd rfl hw
        | b o => exact absurd rfl hw
  · obtain ⟨w1', q1, n1⟩ := orig z1 m1
    obtain ⟨w2', q2, n2⟩ := orig z2 m2
    exact R.dis j k w1' w2' c q1 n1 q2 n2
  · rcases kb z with ⟨rfl, rfl⟩ | ⟨_, q⟩
    · cases u <;> cases hu
      exact R.own _ _ c hS hc
    · exact R.own j o' c q hc
  · rcases kb z with ⟨rfl, rfl⟩ | ⟨_, q⟩
    · cases u <;> cases hu
      exact R.bor _ _ c hS hc
    · exact R.bor j o' c q hc
  · obtain ⟨k1, o', k2⟩ := R.par j c z
    refine ⟨k1, ?_⟩
    by_cases e : i = j
    · subst e
      rw [hS] at k2
      cases k2
      cases hu
      exact ⟨o, List.getElem?_set_self hl⟩
    · exact ⟨o', by rw [List.getElem?_set_ne e]; exact k2⟩
  · refine ⟨R.ext.le, fun b o z n => ?_, R.ext.nofr, fun b o z => ?_, fun b o w z => kfz b o w (R.ext.frz b o w z)⟩
    · have hb : b ≠ a := fun e => by
        subst e
        cases u with
        | m o' => rw [R.own i o' b hS hv] at z; cases z
        | b o' => exact n (R.bor i o' b hS hv)
        | t d => cases hu
        | v d => cases hu
        | s d => cases hu
      rw [upd_ne hb]
      exact R.ext.keep b o z n
    · by_cases hb : b = a
      · exact ⟨ho, by rw [hb, upd_same]⟩
      · rw [upd_ne hb]; exact R.ext.there b o z
  · refine ⟨fun _ _ z => z, fun b o z n => ?_, fun _ _ _ _ z => z, fun b o z => ?_, kfz⟩
    · rw [upd_ne (fun e => n (by rw [e]; exact mAt))]; exact z
    · by_cases hb : b = a
      · exact ⟨ho, by rw [hb, upd_same]⟩
      · exact ⟨o, by rw [upd_ne hb]; exact z⟩
  · obtain ⟨w0, q, n⟩ := orig z hw
    exact ⟨j, w0, q, n, hc⟩
  · by_cases e : i = j
    · subst e; exact ⟨u', List.getElem?_set_self hl⟩
    · exact ⟨w, by rw [List.getElem?_set_ne e]; exact z⟩
theorem mutU_some {S S' : SS} {i : Nat} {f : MO → Option (D × MO)} {d : D} (h : mutU S i f = some (d, S')) : ∃ u u' o o', S[i]? = some (some u) ∧ isMut u = true ∧ inU u = some o ∧ f o = some (d, o') ∧ reU u o' = some u' ∧ S' = S.set i (some u') := by
  unfold mutU at h
  split at h
  · rename_i o e
    obtain ⟨⟨d', o'⟩, h1, h⟩ := map_some' h
    cases h
    exact ⟨_, _, o, o', e, rfl, rfl, h1, rfl, rfl⟩
  · rename_i o e
    obtain ⟨⟨d', o'⟩, h1, h⟩ := map_some' h
    cases h
    exact ⟨_, _, o, o', e, rfl, rfl, h1, rfl, rfl⟩
  · cases h
def MtP (r : V → List V → Hp → VK → Prop) (h : List D → MO → Option (D × MO)) : Prop :=
  ∀ F H a vs xs ds args res o', Sub F H → H a = some (.lst vs) → F a = none → Reps F vs ds → Reps F xs args → h args (.lst ds) = some (res, o') →
    ∀ Q : VK, (∀ rv ho, Rep F rv res → At F (upd H a ho) a o' → Q rv (upd H a ho)) → r (.ref a) xs H Q
def isLst : MO → Bool
  | .lst _ => true
  | _ => false
def isL (S : SS) (i : Nat) : Bool := match S[i]? with
  | some (some (.m (.lst _))) => true
  | some (some (.b (.lst _))) => true
  | _ => false
theorem isL_at {K : PySem.W.Frag} {B : Base} {S : SS} {σ : St} {F H : Hp} {i : Nat} (R : Rel K B S σ F H) (h : isL S i = true) : ∃ u a vs ds, S[i]? = some (some u) ∧ isMut u = true ∧ inU u = some (.lst ds) ∧ σ[i]? = some (some (.ref a)) ∧ F a = none ∧ H a = some (.lst vs) ∧ Reps F vs ds := by
  unfold isL at h
  split at h
  · rename_i ds e
    obtain ⟨v, k1, a, rfl, f, vs, k2, k3⟩ := R.rep i _ e
    exact ⟨_, a, vs, ds, e, rfl, rfl, k1, f, k2, k3⟩
  · rename_i ds e
    obtain ⟨v, k1, a, rfl, f, vs, k2, k3⟩ := R.rep i _ e
    exact ⟨_, a, vs, ds, e, rfl, rfl, k1, f, k2, k3⟩
  · cases h
def eM (i : Nat) (h : List D → MO → Option (D × MO)) (gA : GA) : GD := fun S => if isL S i then (gA S).bind fun p => mutU p.2 i (h p.1) else none
theorem lst_same {K : PySem.W.Frag} {B : Base} {S : SS} {σ : St} {F H : Hp} {i : Nat} {a : Addr} {u : U} {ds : List D} (R : Rel K B S σ F H) (hS : S[i]? = some (some u)) (hm : isMut u = true) (hi : inU u = some (.lst ds)) (hv : σ[i]? = some (some (.ref a))) : F a = none ∧ ∃ vs, H a = some (.lst vs) ∧ Reps F vs ds := by
  obtain ⟨v, k1, k2⟩ := R.rep i u hS
  rw [hv] at k1
  cases k1
  obtain ⟨b, o2, e1, f, e2, k⟩ := k2.mutAt hm
  cases e1
  rw [hi] at e2
  cases e2
  exact ⟨f, k⟩
section
variable {X : Cx} {a b c e : Expr} {es : List Expr} {pos p p2 apos cpos px : Pos} {x name : Str} {g ga gb gc : GD} {gA : GA} {id : String}
theorem jd_meth {i : Nat} {r : V → List V → Hp → VK → Prop} {h : List D → MO → Option (D × MO)} (slot : Slot "list" name id) (hty : typeOf (.builtin id) = pure (.type "method_descriptor")) (hm : MtR X id r) (hh : MtP r h) (hl : ∀ args o, isLst o = false → h args o = none) (ha : JA X (e :: es) gA)
    (hN : X.N[i]? = some x := by rfl) (hv : Vis X.env.scope x := by first | exact Or.inl rfl | exact Or.inr (Or.inl rfl) | exact Or.inr (Or.inr rfl))
    (hbase : attributeBase (.Name x px) name X.env (eval (.Name x px) X.env) = eval (.Name x px) X.env := by rfl)
    (hfew : ((backTo cpos (starEach (e :: es) X.env)).all (fun x => !x.1) && (backToKw cpos (keywordEach [] X.env)).all (fun x => x.1.isSome)
      && decide ((e :: es).length + ([] : List Keyword).length + (if ([] : List Keyword).isEmpty then 0 else 1) < 30)) = true := by rfl)
    (hline : (apos.endLine == cpos.line) = true := by rfl) (hs : starEach (e :: es) X.env = (false, eval e X.env) :: starEach es X.env := by rfl) (hplain : (backTo cpos (starEach es X.env)).any (·.1) = false := by rfl)
    (hd : (x == ("__debug__" : Str)) = false := by decide) (hcd : (x == ("__classdict__" : Str)) = false := by decide) :
    JD X (.Call (.Attribute (.Name x px) name apos) (e :: es) [] cpos) (eM i h gA) :=
  ⟨fun B => (pe_bm PySem.F.plainAttrs_list slot hty hm (pe_var hN hv hd hcd) (ha.h B) hbase hfew hline hs hplain).imp fun σ H Q ⟨S, F, d, S', R, hg, q⟩ => by
  unfold eM at hg
  split at hg
  · rename_i hL
    obtain ⟨⟨args, S1⟩, h1, hg⟩ := bind_some' hg
    obtain ⟨u, u', o, o', hS, hmu, hio, hf, hre, rfl⟩ := mutU_some hg
    obtain ⟨u0, a, vs0, ds0, _, _, _, hv0, _, hH, _⟩ := isL_at R hL
    cases o with
    | dct kvs => rw [hl _ _ rfl] at hf; cases hf
    | dtt kvs => rw [hl _ _ rfl] at hf; cases hf
    | lst ds =>
      refine ⟨.ref a, hv0, .inl ⟨rfl, vs0, SqL.of hH⟩, S, F, args, S1, R, h1, fun xs F1 H1 R1 st1 r1 => ?_⟩
      obtain ⟨hf1, vs, hH1, rs⟩ := lst_same R1 hS hmu hio hv0
      refine hh F1 H1 a vs xs ds args d o' R1.sub hH1 hf1 rs r1 hf Q fun rv ho rr ha => ?_
      obtain ⟨R2, st2⟩ := R1.write hS hre hv0 ha
      exact q rv F1 _ R2 (st1.trans st2) rr
  · cases hg⟩
def hAppend : List D → MO → Option (D × MO)
  | [d], .lst ds => if ds.length < 100000 then some (.non, .lst (ds ++ [d])) else none
  | _, _ => none
theorem mp_append : MtP rAppend hAppend := by
  intro F H a vs xs ds args res o' sb hH fa rs rx hw Q q
  unfold hAppend at hw
  split at hw
  · rename_i d ds' e2
    cases e2
    split at hw
    · rename_i hl
      cases hw
      cases rx with
      | cons r rr =>
        cases rr
        exact ⟨a, vs, _, rfl, rfl, hH, by rw [rs.length]; exact Nat.lt_of_lt_of_le hl (by decide), q .non _ .non ⟨_, upd_same, rs.append (.cons r .nil)⟩⟩
    · cases hw
  · cases hw
theorem Reps.dropLast {F : Hp} {vs : List V} {ds : List D} (r : Reps F vs ds) : Reps F vs.dropLast ds.dropLast := by
  rw [List.dropLast_eq_take, List.dropLast_eq_take, r.length]
  exact r.take _
def hPopAt : List D → MO → Option (D × MO)
  | [.int i], .lst ds => if -(2 ^ 63) ≤ i ∧ i < 2 ^ 63 then (seqIndex? i ds.length).bind fun k => (ds[k]?).map fun d => (d, .lst (ds.eraseIdx k)) else none
  | _, _ => none
theorem Reps.eraseIdx {F : Hp} : ∀ {vs : List V} {ds : List D} (k : Nat), Reps F vs ds → Reps F (vs.eraseIdx k) (ds.eraseIdx k)
  | _, _, _, .nil => .nil
  | _, _, 0, .cons _ rs => rs
  | _, _, k + 1, .cons r rs => .cons r (Reps.eraseIdx k rs)
def hReverse : List D → MO → Option (D × MO)
  | [], .lst ds => some (.non, .lst ds.reverse)
  | _, _ => none
theorem Reps.reverse {F : Hp} : ∀ {vs : List V} {ds : List D}, Reps F vs ds → Reps F vs.reverse ds.reverse
  | _, _, .nil => .nil
  | _, _, .cons r rs => by rw [List.reverse_cons, List.reverse_cons]; exact (Reps.reverse rs).append (.cons r .nil)
end
end L2

end
section
set_option Elab.async false
set_option linter.all false
set_option maxRecDepth 100000
namespace L2
open PySem PySem.Spec PyProof.Rows
theorem RepR.step {K : PySem.W.Frag} {B : Base} {S S' : SS} {σ : St} {H0 F H F' H' : Hp} {v : V} {u : U} (r : RepR K B S σ H0 F H v u) (st : Step S S' σ F H F' H') : RepR K B S' σ H0 F' H' v u := by
  cases u with
  | t d => exact r.le st.ext.le
  | b o => exact r
  | v i => obtain ⟨h1, u, h2⟩ := r; exact ⟨h1, st.slots i u h2⟩
  | s i => obtain ⟨a, e, h⟩ := r; exact ⟨a, e, h.le st.ext.frz⟩
  | m o =>
    obtain ⟨a, e, h0, f, h, n, hB⟩ := r
    obtain ⟨ho, hh⟩ := h.has
    exact ⟨a, e, h0, st.ext.nofr a ho hh n f, h.le st.ext.le fun o z => st.ext.keep a o z n, fun m => n (st.mu a m), hB⟩
abbrev GU := SS → Option (List U × SS)
def tAU (K : PySem.W.Frag) (B : Base) (gu : GU) : TA := fun σ H Q => ∃ S F us S', Rel K B S σ F H ∧ gu S = some (us, S') ∧ ∀ vs F' H', Rel K B S' σ F' H' → Step S S' σ F H F' H' → Paired (fun v u => RepR K B S' σ H F' H' v u) vs us → Q vs H'
structure JU (X : Cx) (es : List Expr) (gu : GU) : Prop where
  h : ∀ B, PA X es (tAU X.K B gu)
  len : ∀ S us S', gu S = some (us, S') → us.length = es.length
def uNil : GU := fun S => some ([], S)
def uVal (g : GD) (gu : GU) : GU := fun S => (g S).bind fun p => (gu p.2).map fun q => (.t p.1 :: q.1, q.2)
def uMut (g : GE) (gu : GU) : GU := fun S => (g S).bind fun p => (gu p.2).map fun q => (p.1 :: q.1, q.2)
section
variable {X : Cx} {e : Expr} {es : List Expr} {g : GD} {ge : GE} {gu : GU}
theorem ju_nil : JU X [] uNil := ⟨fun B => pa_nil.imp fun σ H Q ⟨S, F, us, S', R, hg, q⟩ => by
  cases hg
  exact q [] F H R (Step.refl ..) .nil, fun S us S' h => by cases h; rfl⟩
theorem ju_val (h : JD X e g) (hr : JU X es gu) (hs : starEach (e :: es) X.env = (false, eval e X.env) :: starEach es X.env := by rfl) : JU X (e :: es) (uVal g gu) :=
  ⟨fun B => (pa_cons (h.h B) (hr.h B) hs).imp fun σ H Q ⟨S, F, us, S', R, hg, q⟩ => by
  obtain ⟨⟨d, S1⟩, h1, hg⟩ := bind_some' hg
  obtain ⟨⟨us2, S2⟩, h2, hg⟩ := map_some' hg
  cases hg
  exact ⟨S, F, d, S1, R, h1, fun v F1 H1 R1 st1 r1 => ⟨S1, F1, us2, S2, R1, h2, fun vs F2 H2 R2 st2 r2 => q _ F2 H2 R2 (st1.trans st2) (.cons (r1.le st2.ext.le) (Paired.mapP r2 fun _ _ z => z.weak st1.ext.there))⟩⟩,
  fun S us S' hg => by
    obtain ⟨⟨d, S1⟩, h1, hg⟩ := bind_some' hg
    obtain ⟨⟨us2, S2⟩, h2, hg⟩ := map_some' hg
    cases hg
    show us2.length + 1 = es.length + 1
    rw [hr.len _ _ _ h2]⟩
theorem ju_mut (h : JE X e ge) (hr : JU X es gu) (hs : starEach (e :: es) X.env = (false, eval e X.env) :: starEach es X.env := by rfl) : JU X (e :: es) (uMut ge gu) :=
  ⟨fun B => (pa_cons (h.h B) (hr.h B) hs).imp fun σ H Q ⟨S, F, us, S', R, hg, q⟩ => by
  obtain ⟨⟨d, S1⟩, h1, hg⟩ := bind_some' hg
  obtain ⟨⟨us2, S2⟩, h2, hg⟩ := map_some' hg
  cases hg
  exact ⟨S, F, d, S1, R, h1, fun v F1 H1 R1 st1 r1 => ⟨S1, F1, us2, S2, R1, h2, fun vs F2 H2 R2 st2 r2 => q _ F2 H2 R2 (st1.trans st2) (.cons (r1.step st2) (Paired.mapP r2 fun _ _ z => z.weak st1.ext.there))⟩⟩,
  fun S us S' hg => by
    obtain ⟨⟨d, S1⟩, h1, hg⟩ := bind_some' hg
    obtain ⟨⟨us2, S2⟩, h2, hg⟩ := map_some' hg
    cases hg
    show us2.length + 1 = es.length + 1
    rw [hr.len _ _ _ h2]⟩
end
def resolve (S : SS) : U → Option U
  | .t d => some (.t d)
  | .v i => match S[i]? with
    | some (some (.m o)) => some (.b o)
    | some (some (.b o)) => some (.b o)
    | _ => none
  | .m o => some (.b o)
  | .b _ => none
  | .s ns => some (.s ns)
def resolves (S : SS) : List U → Option (List U)
  | [] => some []
  | u :: us => (resolve S u).bind fun w => (resolves S us).map fun ws => w :: ws
def slotsOf : List U → List Nat
  | [] => []
  | .v i :: us => i :: slotsOf us
  | _ :: us => slotsOf us
def freshes : List U → Nat
  | [] => 0
  | .m _ :: us => freshes us + 1
  | _ :: us => freshes us
def wb : List U → List MO → SS → Option SS
  | [], [], S => some S
  | .v i :: us, o :: outs, S => match S[i]? with
    | some (some (.m _)) => wb us outs (S.set i (some (.m o)))
    | some (some (.b _)) => wb us outs (S.set i (some (.b o)))
    | _ => none
  | .m _ :: us, _ :: outs, S => wb us outs S
  | .t _ :: us, outs, S => wb us outs S
  | .s _ :: us, outs, S => wb us outs S
  | _, _, _ => none
abbrev FM := List U → Option (U × List MO)
def eCall (f : FM) (gu : GU) : GE := fun S => (gu S).bind fun p =>
  if (slotsOf p.1).Nodup ∧ freshes p.1 ≤ 1 then (resolves p.2 p.1).bind fun us => (f us).bind fun r => (wb p.1 r.2 p.2).map fun S2 => (r.1, S2) else none
def ArgS (K : PySem.W.Frag) (F H : Hp) (v : V) : U → Prop
  | .s ns => ∃ a, v = .ref a ∧ Scr K H a ns
  | .t d => Rep F v d
  | .b o => ∃ a, v = .ref a ∧ F a = none ∧ At F H a o
  | _ => False
def addrs : List V → List U → List Addr
  | .ref a :: vs, .b _ :: us => a :: addrs vs us
  | _ :: vs, _ :: us => addrs vs us
  | _, _ => []
structure Post (F H F' H' : Hp) (as : List Addr) (outs : List MO) : Prop where
  sub : Sub F' H'
  ext : Ext (fun a => a ∈ as) F H F' H'
  out : Paired (fun a o => F' a = none ∧ At F' H' a o) as outs
def spT (K : PySem.W.Frag) (n : Nat) (f : FM) : Sp := fun vs H Q _ => vs.length = n ∧ ∃ F us r outs, Sub F H ∧ Paired (ArgS K F H) vs us ∧ (addrs vs us).Nodup ∧ f us = some (r, outs) ∧ ∀ v F' H', Post F H F' H' (addrs vs us) outs → RepN H F' H' v r → Q v H'
section
variable {K : PySem.W.Frag} {B : Base} {S S1 S2 : SS} {σ : St} {H0 F H F' H' : Hp}
theorem resolve_v {i : Nat} {w : U} (h : resolve S (.v i) = some w) : ∃ u o, S[i]? = some (some u) ∧ isMut u = true ∧ inU u = some o ∧ w = .b o := by
  unfold resolve at h
  dsimp only at h
  split at h
  · rename_i o e; cases h; exact ⟨_, o, e, rfl, rfl, rfl⟩
  · rename_i o e; cases h; exact ⟨_, o, e, rfl, rfl, rfl⟩
  · cases h
theorem args_ok (R : Rel K B S σ F H) : ∀ {vs : List V} {us ws : List U}, Paired (fun v u => RepR K B S σ H0 F H v u) vs us → resolves S us = some ws → Paired (ArgS K F H) vs ws
  | _, _, _, .nil, h => by cases h; exact .nil
  | _, _, _, @Paired.cons _ _ _ v u vs us r rs, h => by
    obtain ⟨w, h1, h⟩ := bind_some' h
    obtain ⟨ws, h2, h⟩ := map_some' h
    subst h
    refine .cons ?_ (args_ok R rs h2)
    cases u with
    | t d => cases h1; exact r
    | s d => cases h1; exact r
    | b o => cases h1
    | m o => cases h1; obtain ⟨a, e, _, f, k, _⟩ := r; exact ⟨a, e, f, k⟩
    | v i =>
      obtain ⟨u, o, hu, hm, hi, rfl⟩ := resolve_v h1
      obtain ⟨hv, _⟩ := r
      obtain ⟨v', k1, k2⟩ := R.rep i u hu
      rw [hv] at k1
      cases k1
      obtain ⟨a, o2, e, f, e2, k⟩ := k2.mutAt hm
      rw [hi] at e2
      cases e2
      exact ⟨a, e, f, k⟩
theorem addrs_at (R : Rel K B S σ F H) : ∀ {vs : List V} {us ws : List U}, Paired (fun v u => RepR K B S σ H0 F H v u) vs us → resolves S us = some ws → ∀ a ∈ addrs vs ws,
    (∃ i u, i ∈ slotsOf us ∧ S[i]? = some (some u) ∧ isMut u = true ∧ σ[i]? = some (some (.ref a))) ∨ (0 < freshes us ∧ H0 a = none ∧ B.H a = none ∧ ¬ mutAt S σ a)
  | _, _, _, .nil, h, a, ha => by cases h; cases ha
  | _, _, _, @Paired.cons _ _ _ v u vs us r rs, h, a, ha => by
    obtain ⟨w, h1, h⟩ := bind_some' h
    obtain ⟨ws, h2, h⟩ := map_some' h
    subst h
    have ih := addrs_at R rs h2
    cases u with
    | t d =>
      cases h1
      have ha : a ∈ addrs vs ws := by cases v <;> exact ha
      exact ih a ha
    | s d =>
      cases h1
      have ha : a ∈ addrs vs ws := by cases v <;> exact ha
      exact ih a ha
    | b o => cases h1
    | m o =>
      cases h1
      obtain ⟨c, rfl, k0, f, k, n, hB⟩ := r
      rcases List.mem_cons.mp (show a ∈ c :: addrs vs ws from ha) with rfl | ha
      · exact .inr ⟨Nat.succ_pos _, k0, hB, n⟩
      · rcases ih a ha with z | ⟨_, z⟩
        · exact .inl z
        · exact .inr ⟨Nat.succ_pos _, z⟩
    | v i =>
      obtain ⟨u, o, hu, hm, hi, rfl⟩ := resolve_v h1
      obtain ⟨hv, _⟩ := r
      obtain ⟨v', k1, k2⟩ := R.rep i u hu
      rw [hv] at k1
      cases k1
      obtain ⟨c, o2, rfl, f, e2, k⟩ := k2.mutAt hm
      rcases List.mem_cons.mp (show a ∈ c :: addrs vs ws from ha) with rfl | ha
      · exact .inl ⟨i, u, List.mem_cons_self, hu, hm, hv⟩
      · rcases ih a ha with ⟨j, w, z, z2⟩ | z
        · exact .inl ⟨j, w, List.mem_cons_of_mem _ z, z2⟩
        · exact .inr z
theorem addrs_nodup (R : Rel K B S σ F H) : ∀ {vs : List V} {us ws : List U}, Paired (fun v u => RepR K B S σ H0 F H v u) vs us → resolves S us = some ws → (slotsOf us).Nodup → freshes us ≤ 1 → (addrs vs ws).Nodup
  | _, _, _, .nil, h, _, _ => by cases h; exact List.nodup_nil
  | _, _, _, @Paired.cons _ _ _ v u vs us r rs, h, nd, fr => by
    obtain ⟨w, h1, h⟩ := bind_some' h
    obtain ⟨ws, h2, h⟩ := map_some' h
    subst h
    cases u with
    | t d =>
      cases h1
      have := addrs_nodup R rs h2 nd fr
      cases v <;> exact this
    | s d =>
      cases h1
      have := addrs_nodup R rs h2 nd fr
      cases v <;> exact this
    | b o => cases h1
    | m o =>
      cases h1
      have fr0 : freshes us = 0 := by have : freshes us + 1 ≤ 1 := fr; omega
      obtain ⟨c, rfl, k0, f, k, n, hB⟩ := r
      refine List.nodup_cons.mpr ⟨fun hc => ?_, addrs_nodup R rs h2 nd (by omega)⟩
      rcases addrs_at R rs h2 c hc with ⟨j, w, _, z1, z2, z3⟩ | ⟨z, _⟩
      · exact n ⟨j, w, z1, z2, z3⟩
      · omega
    | v i =>
      obtain ⟨u, o, hu, hm, hi, rfl⟩ := resolve_v h1
      obtain ⟨hv, _⟩ := r
      obtain ⟨v', k1, k2⟩ := R.rep i u hu
      rw [hv] at k1
      cases k1
      obtain ⟨c, o2, rfl, f, e2, k⟩ := k2.mutAt hm
      obtain ⟨nd1, nd2⟩ := List.nodup_cons.mp (show (i :: slotsOf us).Nodup from nd)
      refine List.nodup_cons.mpr ⟨fun hc => ?_, addrs_nodup R rs h2 nd2 fr⟩
      rcases addrs_at R rs h2 c hc with ⟨j, w, z0, z1, z2, z3⟩ | ⟨_, _, _, z⟩
      · have := R.dis i j u w c hu hm z1 z2 hv z3
        subst this
        exact nd1 z0
      · exact z ⟨i, u, hu, hm, hv⟩
theorem wb_spec (R : Rel K B S σ F H) (P : Addr → MO → Prop) : ∀ {vs : List V} {us ws : List U} {outs : List MO} {S1 S2 : SS}, Paired (fun v u => RepR K B S σ H0 F H v u) vs us → resolves S us = some ws → wb us outs S1 = some S2 → (slotsOf us).Nodup → Paired P (addrs vs ws) outs →
    S2.length = S1.length ∧ (∀ j, j ∉ slotsOf us → S2[j]? = S1[j]?) ∧ ∀ j ∈ slotsOf us, ∃ u u' o a, S1[j]? = some (some u) ∧ reU u o = some u' ∧ S2[j]? = some (some u') ∧ σ[j]? = some (some (.ref a)) ∧ P a o
  | _, _, _, _, _, _, .nil, h, hw, _, hp => by
    cases h
    cases hp
    cases hw
    exact ⟨rfl, fun _ _ => rfl, fun j hj => by cases hj⟩
  | _, _, _, outs, S1, S2, @Paired.cons _ _ _ v u vs us r rs, h, hw, nd, hp => by
    obtain ⟨w, h1, h⟩ := bind_some' h
    obtain ⟨ws, h2, h⟩ := map_some' h
    subst h
    cases u with
    | t d =>
      cases h1
      have hp : Paired P (addrs vs ws) outs := by cases v <;> exact hp
      have hw : wb us outs S1 = some S2 := by
        cases outs <;> exact hw
      have ih := wb_spec R P rs h2 hw nd hp
      exact ih
    | s d =>
      cases h1
      have hp : Paired P (addrs vs ws) outs := by cases v <;> exact hp
      have hw : wb us outs S1 = some S2 := by
        cases outs <;> exact hw
      have ih := wb_spec R P rs h2 hw nd hp
      exact ih
    | b o => cases h1
    | m o =>
      cases h1
      obtain ⟨c, rfl, k0, f, k, n, hB⟩ := r
      cases hp with
      | cons p1 p2 =>
        have ih := wb_spec R P rs h2 (show wb us _ S1 = some S2 from hw) nd p2
        exact ih
    | v i =>
      obtain ⟨u0, o0, hu, hm, hi, rfl⟩ := resolve_v h1
      obtain ⟨hv, _⟩ := r
      obtain ⟨v', k1, k2⟩ := R.rep i u0 hu
      rw [hv] at k1
      cases k1
      obtain ⟨c, o2, rfl, f, e2, k⟩ := k2.mutAt hm
      obtain ⟨nd1, nd2⟩ := List.nodup_cons.mp (show (i :: slotsOf us).Nodup from nd)
      cases hp with
      | @cons _ o _ outs p1 p2 =>
        have go : ∀ u u', S1[i]? = some (some u) → reU u o = some u' → wb us outs (S1.set i (some u')) = some S2 → S2.length = S1.length ∧ (∀ j, j ∉ i :: slotsOf us → S2[j]? = S1[j]?) ∧ ∀ j ∈ i :: slotsOf us, ∃ u u' o a, S1[j]? = some (some u) ∧ reU u o = some u' ∧ S2[j]? = some (some u') ∧ σ[j]? = some (some (.ref a)) ∧ P a o := fun u u' e1 e2 hw => by
          obtain ⟨l, out, inn⟩ := wb_spec R P rs h2 hw nd2 p2
          refine ⟨by rw [l, List.length_set], fun j hj => ?_, fun j hj => ?_⟩
          · rw [out j fun z => hj (List.mem_cons_of_mem _ z), List.getElem?_set_ne fun z => hj (by rw [z]; exact List.mem_cons_self)]
          · by_cases e : i = j
            · subst e
              exact ⟨u, u', o, c, e1, e2, by rw [out i nd1]; exact List.getElem?_set_self (List.getElem?_eq_some_iff.mp e1).1, hv, p1⟩
            · rcases List.mem_cons.mp hj with z | z
              · exact absurd z.symm e
              · obtain ⟨w, w', o', a', q1, q2, q3, q4, q5⟩ := inn j z
                rw [List.getElem?_set_ne e] at q1
                exact ⟨w, w', o', a', q1, q2, q3, q4, q5⟩
        unfold wb at hw
        split at hw
        · rename_i o' e; exact go _ _ e rfl hw
        · rename_i o' e; exact go _ _ e rfl hw
        · cases hw
end
theorem after_call {K : PySem.W.Frag} {B : Base} {S0 S S2 : SS} {σ : St} {F0 H0 F H F' H' : Hp} {vs : List V} {us ws : List U} {outs : List MO} (R : Rel K B S σ F H) (st : Step S0 S σ F0 H0 F H) (rr : Paired (fun v u => RepR K B S σ H0 F H v u) vs us) (hr : resolves S us = some ws) (hw : wb us outs S = some S2) (nd : (slotsOf us).Nodup) (p : Post F H F' H' (addrs vs ws) outs) :
    Rel K B S2 σ F' H' ∧ Step S0 S2 σ F0 H0 F' H' ∧ ∀ a, mutAt S2 σ a → mutAt S σ a := by
  obtain ⟨hl, out, inn⟩ := wb_spec R (fun a o => F' a = none ∧ At F' H' a o) rr hr hw nd p.out
  have reM : ∀ {u : U} {o : MO} {u' : U}, reU u o = some u' → isMut u = true ∧ isMut u' = true ∧ inU u' = some o := fun {u o u'} h => by cases u <;> cases h <;> exact ⟨rfl, rfl, rfl⟩
  have orig : ∀ {j w}, S2[j]? = some (some w) → isMut w = true → ∃ w0, S[j]? = some (some w0) ∧ isMut w0 = true := fun {j w} z hm => by
    by_cases hj : j ∈ slotsOf us
    · obtain ⟨u, u', o, a, q1, q2, q3, q4, q5⟩ := inn j hj
      exact ⟨u, q1, (reM q2).1⟩
    · rw [out j hj] at z; exact ⟨w, z, hm⟩
  have mu : ∀ a, mutAt S2 σ a → mutAt S σ a := fun a ⟨j, w, z, hm, hv⟩ => let ⟨w0, q, n⟩ := orig z hm; ⟨j, w0, q, n, hv⟩
  have at1 := addrs_at R rr hr
  refine ⟨⟨p.sub, by rw [hl]; exact R.len, fun j w z => ?_, fun j k w1 w2 c z1 m1 z2 m2 => ?_, fun j o a z hv => ?_, fun j o a z hv => ?_, fun j a z => ?_, ?_⟩, ⟨⟨?_, ?_, ?_, ?_, fun b o u z => p.ext.frz b o u (st.ext.frz b o u z)⟩, fun a m => st.mu a (mu a m), fun j u z => ?_⟩, mu⟩
  · by_cases hj : j ∈ slotsOf us
    · obtain ⟨u, u', o, a, q1, q2, q3, q4, q5, q6⟩ := inn j hj
      rw [q3] at z
      cases z
      refine ⟨.ref a, q4, ?_⟩
      cases u <;> cases q2
      · exact ⟨a, rfl, q5, q6⟩
      · exact ⟨a, rfl, q5, q6⟩
    · rw [out j hj] at z
      obtain ⟨v, h1, h2⟩ := R.rep j w z
      refine ⟨v, h1, h2.le p.ext.le p.ext.frz fun a hm ha => ?_⟩
      have hna : a ∉ addrs vs ws := fun hc => by
        rcases at1 a hc with ⟨i, u, q0, q1, q2, q3⟩ | ⟨_, _, _, q⟩
        · have := R.dis i j u w a q1 q2 z hm q3 (by rw [h1, ha])
          subst this
          exact hj q0
        · exact q ⟨j, w, z, hm, by rw [h1, ha]⟩
      obtain ⟨c, o, e, f, _, k⟩ := h2.mutAt hm
      rw [ha] at e
      cases e
      obtain ⟨ho, hh⟩ := k.has
      exact ⟨fun o q => p.ext.keep a o q hna, p.ext.nofr a ho hh hna f⟩
  · obtain ⟨w1', q1, n1⟩ := orig z1 m1
    obtain ⟨w2', q2, n2⟩ := orig z2 m2
    exact R.dis j k w1' w2' c q1 n1 q2 n2
  · by_cases hj : j ∈ slotsOf us
    · obtain ⟨u, u', o', a', q1, q2, q3, q4, q5⟩ := inn j hj
      rw [q3] at z
      cases z
      cases u <;> cases q2
      exact R.own j _ a q1 hv
    · rw [out j hj] at z; exact R.own j o a z hv
  · by_cases hj : j ∈ slotsOf us
    · obtain ⟨u, u', o', a', q1, q2, q3, q4, q5⟩ := inn j hj
      rw [q3] at z
      cases z
      cases u <;> cases q2
      exact R.bor j _ a q1 hv
    · rw [out j hj] at z; exact R.bor j o a z hv
  · obtain ⟨k1, o, k2⟩ := R.par j a z
    refine ⟨k1, ?_⟩
    by_cases hj : j ∈ slotsOf us
    · obtain ⟨u, u', o', a', q1, q2, q3, q4, q5⟩ := inn j hj
      rw [k2] at q1
      cases q1
      cases q2
      exact ⟨_, q3⟩
    · exact ⟨o, by rw [out j hj]; exact k2⟩
  · refine R.ext.trans p.ext fun b hb => ?_
    rcases at1 b hb with ⟨i, u, q0, q1, q2, q3⟩ | ⟨_, _, q, _⟩
    · cases u with
      | t d => cases q2
      | v d => cases q2
      | s d => cases q2
      | m o => exact .inr (R.own i o b q1 q3)
      | b o => exact .inl (R.bor i o b q1 q3)
    · exact .inr q
  · exact fun b o h => p.ext.le b o (st.ext.le b o h)
  · intro b o h n
    refine p.ext.keep b o (st.ext.keep b o h n) fun hb => ?_
    rcases at1 b hb with ⟨i, u, q0, q1, q2, q3⟩ | ⟨_, q, _⟩
    · exact n (st.mu b ⟨i, u, q1, q2, q3⟩)
    · rw [h] at q; cases q
  · intro b o h n f
    refine p.ext.nofr b o (st.ext.keep b o h n) (fun hb => ?_) (st.ext.nofr b o h n f)
    rcases at1 b hb with ⟨i, u, q0, q1, q2, q3⟩ | ⟨_, q, _⟩
    · exact n (st.mu b ⟨i, u, q1, q2, q3⟩)
    · rw [h] at q; cases q
  · intro b o h
    obtain ⟨o', h'⟩ := st.ext.there b o h
    exact p.ext.there b o' h'
  · obtain ⟨u', h'⟩ := st.slots j u z
    by_cases hj : j ∈ slotsOf us
    · obtain ⟨_, u2, _, _, _, _, q3, _⟩ := inn j hj
      exact ⟨u2, q3⟩
    · exact ⟨u', by rw [out j hj]; exact h'⟩
section
variable {X : Cx} {e : Expr} {es : List Expr} {gu : GU} {x : Str} {p pos : Pos} {f : FM} {fa : Addr} {fd : FuncData} {ps : List Str} {k n : Nat}
theorem je_call (F : FnOk X.prog X.w X.K X.mg X.base CX0 k fa fd ps (spT X.K n f)) (hr : Room k X.A) (hg : Gl X x) (hm : X.mg x = some (.ref fa)) (hk : PySem.W.keepIn X.K (.ref fa) = true) (hb : Binds X.K fd ps []) (ha : JU X (e :: es) gu) (hn : (e :: es).length = n := by rfl)
    (hdb : (x == ("__debug__" : Str)) = false := by decide) (he : starEach (e :: es) X.env = (false, eval e X.env) :: starEach es X.env := by rfl) (hpl : (backTo pos (starEach es X.env)).any (·.1) = false := by rfl) :
    JE X (.Call (.Name x p) (e :: es) [] pos) (eCall f gu) := ⟨fun B => (pe_call F hr hg hm hk hb .nil pass0 (ha.h B) hdb he hpl).imp fun σ H Q ⟨S, F0, u, S', R, hg, q⟩ => by
  obtain ⟨⟨us, S1⟩, h1, hg⟩ := bind_some' hg
  dsimp only at hg
  split at hg
  · rename_i hc
    obtain ⟨ws, h2, hg⟩ := bind_some' hg
    obtain ⟨⟨r, outs⟩, h3, hg⟩ := bind_some' hg
    obtain ⟨S2, h4, hg⟩ := map_some' hg
    cases hg
    refine ⟨S, F0, us, S1, R, h1, fun vs F1 H1 R1 st1 rr => ?_⟩
    show spT X.K n f (vs ++ []) H1 Q E0
    rw [List.append_nil]
    have hlen : vs.length = n := by rw [rr.length, ha.len _ _ _ h1]; exact hn
    refine ⟨hlen, F1, ws, r, outs, R1.sub, args_ok R1 rr h2, addrs_nodup R1 rr h2 hc.1 hc.2, h3, fun v F2 H2 po rn => ?_⟩
    obtain ⟨R2, st2, mu⟩ := after_call R1 st1 rr h2 h4 hc.1 po
    refine q v F2 H2 R2 st2 ?_
    cases r with
    | t d => exact rn
    | b o => cases rn
    | v i => cases rn
    | s i => cases rn
    | m o =>
      obtain ⟨a, e, h0, f, h⟩ := rn
      refine ⟨a, e, none_of st1.ext.there h0, f, h, fun m => ?_, none_of R1.ext.there h0⟩
      obtain ⟨o', ho⟩ := R1.has (mu a m)
      rw [h0] at ho
      cases ho
  · cases hg⟩
end
end L2

end
section
set_option Elab.async false
set_option linter.all false
set_option maxRecDepth 100000
namespace L2
open PySem PySem.Spec PyProof.Rows
def outsOf : List U → SS → Option (List MO)
  | [], _ => some []
  | .b _ :: us, some (.b o) :: S => (outsOf us S).map fun os => o :: os
  | .b _ :: _, _ => none
  | _ :: us, _ :: S => outsOf us S
  | _ :: _, [] => none
def runB (n : Nat) (g : GS) : FM := fun us => (g (us.map some ++ List.replicate (n - us.length) none)).bind fun o => match o with
  | .rt (.t d) S => (outsOf us S).map fun os => (.t d, os)
  | .rt (.m o) S => (outsOf us S).map fun os => (.m o, os)
  | .nx S => (outsOf us S).map fun os => (.t .non, os)
  | _ => none
def lent : List V → List U → List (Option Addr)
  | .ref a :: vs, .b _ :: us => some a :: lent vs us
  | _ :: vs, _ :: us => none :: lent vs us
  | _, _ => []
theorem lent_mem : ∀ (vs : List V) (us : List U) (a : Addr), some a ∈ lent vs us ↔ a ∈ addrs vs us
  | [], us, a => by cases us <;> simp [lent, addrs]
  | v :: vs, [], a => by cases v <;> simp [lent, addrs]
  | v :: vs, u :: us, a => by
    have ih := lent_mem vs us a
    cases v <;> cases u <;> simp [lent, addrs, ih]
theorem lent_get : ∀ {vs : List V} {us : List U} {i : Nat} {a : Addr}, (lent vs us)[i]? = some (some a) → vs[i]? = some (.ref a) ∧ ∃ o, us[i]? = some (.b o)
  | [], us, i, a, h => by cases us <;> simp [lent] at h
  | v :: vs, [], i, a, h => by cases v <;> simp [lent] at h
  | v :: vs, u :: us, 0, a, h => by
    cases v <;> cases u <;> simp [lent] at h
    subst h
    exact ⟨rfl, _, rfl⟩
  | v :: vs, u :: us, i + 1, a, h => by
    have h' : (lent vs us)[i]? = some (some a) := by cases v <;> cases u <;> simpa [lent] using h
    simpa using lent_get h'
theorem lent_of {K : PySem.W.Frag} : ∀ {F H : Hp} {vs : List V} {us : List U} {i : Nat} {o : MO}, Paired (ArgS K F H) vs us → us[i]? = some (.b o) → ∃ a, vs[i]? = some (.ref a) ∧ (lent vs us)[i]? = some (some a) ∧ F a = none ∧ At F H a o
  | _, _, _, _, _, _, .nil, h => by simp at h
  | _, _, _, _, 0, o, @Paired.cons _ _ _ v u vs us r rs, h => by
    simp at h
    subst h
    obtain ⟨a, rfl, f, k⟩ := r
    exact ⟨a, rfl, rfl, f, k⟩
  | _, _, _, _, i + 1, o, @Paired.cons _ _ _ v u vs us r rs, h => by
    obtain ⟨a, h1, h2, h3⟩ := lent_of (i := i) rs (by simpa using h)
    refine ⟨a, by simpa using h1, ?_, h3⟩
    cases v <;> cases u <;> simpa [lent] using h2
theorem addrs_inj : ∀ {vs : List V} {us : List U} {i j : Nat} {a : Addr}, (addrs vs us).Nodup → (lent vs us)[i]? = some (some a) → (lent vs us)[j]? = some (some a) → i = j
  | [], us, i, j, a, _, h, _ => by cases us <;> simp [lent] at h
  | v :: vs, [], i, j, a, _, h, _ => by cases v <;> simp [lent] at h
  | v :: vs, u :: us, i, j, a, nd, h1, h2 => by
    have ih : ∀ {i j}, (addrs vs us).Nodup → (lent vs us)[i]? = some (some a) → (lent vs us)[j]? = some (some a) → i = j := fun {i j} => addrs_inj (i := i) (j := j)
    by_cases hvu : ∃ c o, v = .ref c ∧ u = .b o
    · obtain ⟨c, o, rfl, rfl⟩ := hvu
      obtain ⟨n1, n2⟩ := List.nodup_cons.mp (show (c :: addrs vs us).Nodup from nd)
      cases i with
      | zero =>
        cases j with
        | zero => rfl
        | succ j =>
          have e1 : c = a := by simpa [lent] using h1
          have e2 : (lent vs us)[j]? = some (some a) := by simpa [lent] using h2
          subst e1
          exact absurd ((lent_mem vs us c).mp (List.mem_of_getElem? e2)) n1
      | succ i =>
        have e1 : (lent vs us)[i]? = some (some a) := by simpa [lent] using h1
        cases j with
        | zero =>
          have e2 : c = a := by simpa [lent] using h2
          subst e2
          exact absurd ((lent_mem vs us c).mp (List.mem_of_getElem? e1)) n1
        | succ j => exact congrArg Nat.succ (ih n2 e1 (by simpa [lent] using h2))
    · have e1 : lent (v :: vs) (u :: us) = none :: lent vs us := by cases v <;> cases u <;> first | rfl | exact absurd ⟨_, _, rfl, rfl⟩ hvu
      have e2 : addrs (v :: vs) (u :: us) = addrs vs us := by cases v <;> cases u <;> first | rfl | exact absurd ⟨_, _, rfl, rfl⟩ hvu
      rw [e1] at h1 h2
      rw [e2] at nd
      cases i with
      | zero => simp at h1
      | succ i =>
        cases j with
        | zero => simp at h2
        | succ j => exact congrArg Nat.succ (ih nd (by simpa using h1) (by simpa using h2))
theorem paired_get {α β : Type} {P : α → β → Prop} : ∀ {l : List α} {r : List β} {i : Nat} {y : β}, Paired P l r → r[i]? = some y → ∃ x, l[i]? = some x ∧ P x y
  | _, _, _, _, .nil, h => by simp at h
  | _, _, 0, _, .cons p _, h => by simp at h; subst h; exact ⟨_, rfl, p⟩
  | _, _, i + 1, _, .cons _ ps, h => by
    obtain ⟨x, h1, h2⟩ := paired_get (i := i) ps (by simpa using h)
    exact ⟨x, by simpa using h1, h2⟩
theorem rel_start {K : PySem.W.Frag} {F H : Hp} {vs : List V} {us : List U} {n : Nat} (sb : Sub F H) (ar : Paired (ArgS K F H) vs us) (nd : (addrs vs us).Nodup) (N : List Str) (hN : N.length = n) :
    Rel K ⟨lent vs us, F, H⟩ (us.map some ++ List.replicate (n - us.length) none) (start N vs) F H := by
  have hl : vs.length = us.length := ar.length
  have gS : ∀ {i : Nat} {u : U}, (us.map some ++ List.replicate (n - us.length) none)[i]? = some (some u) → us[i]? = some u := fun {i u} h => by
    rw [List.getElem?_append] at h
    split at h
    · rw [List.getElem?_map] at h
      obtain ⟨w, h1, h2⟩ := map_some' h
      cases h2
      exact h1
    · rw [List.getElem?_replicate] at h
      split at h <;> cases h
  have gσ : ∀ {i : Nat} {v : V}, vs[i]? = some v → (start N vs)[i]? = some (some v) := fun {i v} h => by
    unfold start
    have hi := (List.getElem?_eq_some_iff.mp h).1
    rw [List.getElem?_append_left (by simpa using hi), List.getElem?_map, h]
    rfl
  have vb : ∀ {i : Nat} {v w : V}, vs[i]? = some v → (start N vs)[i]? = some (some w) → v = w := fun {i v w} h k => by
    rw [gσ h] at k
    cases k
    rfl
  have mutB : ∀ {i : Nat} {u : U}, us[i]? = some u → isMut u = true → ∃ o a, u = .b o ∧ vs[i]? = some (.ref a) ∧ (lent vs us)[i]? = some (some a) ∧ F a = none ∧ At F H a o := fun {i u} h hm => by
    obtain ⟨v, h1, h2⟩ := paired_get ar h
    cases u with
    | t d => cases hm
    | v d => cases hm
    | s d => cases hm
    | m o => cases h2
    | b o => obtain ⟨a, k1, k2, k3, k4⟩ := lent_of ar h; exact ⟨o, a, rfl, k1, k2, k3, k4⟩
  refine ⟨sb, ?_, fun i u h => ?_, fun i j u w a h1 m1 h2 m2 v1 v2 => ?_, fun i o a h hv => ?_, fun i o a h hv => ?_, fun i a h => ?_, Ext.refl ..⟩
  · unfold start; simp [hl, hN]
  · obtain ⟨v, h1, h2⟩ := paired_get ar (gS h)
    refine ⟨v, gσ h1, ?_⟩
    cases u with
    | t d => exact h2
    | s d => exact h2
    | v d => cases h2
    | m o => cases h2
    | b o => exact h2
  · obtain ⟨_, a1, _, k1, k2, _⟩ := mutB (gS h1) m1
    obtain ⟨_, a2, _, l1, l2, _⟩ := mutB (gS h2) m2
    have e1 := vb k1 v1
    have e2 := vb l1 v2
    cases e1
    cases e2
    exact addrs_inj nd k2 l2
  · obtain ⟨_, _, e, _⟩ := mutB (gS h) rfl
    cases e
  · obtain ⟨_, a1, _, k1, k2, _⟩ := mutB (gS h) rfl
    have e1 := vb k1 hv
    cases e1
    exact List.mem_of_getElem? k2
  · obtain ⟨k1, o, k2⟩ := lent_get h
    refine ⟨gσ k1, o, ?_⟩
    have hi := (List.getElem?_eq_some_iff.mp k2).1
    rw [List.getElem?_append_left (by simpa using hi), List.getElem?_map, k2]
    rfl
theorem outs_ok {F' H' : Hp} : ∀ {vs : List V} {us : List U} {S : SS} {os : List MO}, outsOf us S = some os → vs.length = us.length → (∀ (i : Nat) (o : MO) (a : Addr), (lent vs us)[i]? = some (some a) → S[i]? = some (some (.b o)) → F' a = none ∧ At F' H' a o) → (∀ (i : Nat) (o : MO), us[i]? = some (.b o) → ∃ a, vs[i]? = some (.ref a)) →
    Paired (fun a o => F' a = none ∧ At F' H' a o) (addrs vs us) os
  | [], [], S, os, h, _, _, _ => by cases S <;> (simp [outsOf] at h; subst h; exact .nil)
  | [], _ :: _, _, _, _, l, _, _ => by cases l
  | _ :: _, [], _, _, _, l, _, _ => by cases l
  | v :: vs, u :: us, S, os, h, l, k, kb => by
    have l' : vs.length = us.length := by simpa using l
    have kb' : ∀ (i : Nat) (o : MO), us[i]? = some (.b o) → ∃ a, vs[i]? = some (.ref a) := fun i o z => by simpa using kb (i + 1) o (by simpa using z)
    by_cases hu : ∃ o, u = .b o
    · obtain ⟨o, rfl⟩ := hu
      obtain ⟨a, ha⟩ := kb 0 o rfl
      have ha : v = .ref a := by simpa using ha
      subst ha
      cases S with
      | nil => simp [outsOf] at h
      | cons s S =>
        cases s with
        | none => simp [outsOf] at h
        | some s =>
          cases s with
          | b o' =>
            obtain ⟨os', h1, h2⟩ := map_some' (show (outsOf us S).map (fun os => o' :: os) = some os from h)
            subst h2
            exact .cons (k 0 o' a rfl rfl) (outs_ok h1 l' (fun i o a z1 z2 => k (i + 1) o a (by simpa [lent] using z1) (by simpa using z2)) kb')
          | t d => simp [outsOf] at h
          | m d => simp [outsOf] at h
          | v d => simp [outsOf] at h
          | s d => simp [outsOf] at h
    · cases S with
      | nil => cases u <;> first | (simp [outsOf] at h; done) | exact absurd ⟨_, rfl⟩ hu
      | cons s S =>
        have h' : outsOf us S = some os := by cases u <;> first | exact absurd ⟨_, rfl⟩ hu | simpa [outsOf] using h
        have e2 : addrs (v :: vs) (u :: us) = addrs vs us := by cases v <;> cases u <;> first | rfl | exact absurd ⟨_, rfl⟩ hu
        have e1 : lent (v :: vs) (u :: us) = none :: lent vs us := by cases v <;> cases u <;> first | rfl | exact absurd ⟨_, rfl⟩ hu
        rw [e2]
        exact outs_ok h' l' (fun i o a z1 z2 => k (i + 1) o a (by rw [e1]; simpa using z1) (by simpa using z2)) kb'
theorem post_of {K : PySem.W.Frag} {F0 H : Hp} {vs : List V} {us : List U} (ar : Paired (ArgS K F0 H) vs us) (S' : SS) (σ' : St) (F' H' : Hp) (os : List MO) (R' : Rel K ⟨lent vs us, F0, H⟩ S' σ' F' H') (ho' : outsOf us S' = some os) : Post F0 H F' H' (addrs vs us) os := by
  refine ⟨R'.sub, ⟨R'.ext.le, fun b o z n => R'.ext.keep b o z fun m => n ((lent_mem vs us b).mp m), fun b o z n => R'.ext.nofr b o z fun m => n ((lent_mem vs us b).mp m), R'.ext.there, R'.ext.frz⟩, outs_ok ho' ar.length (fun i o a z1 z2 => ?_) fun i o z => ?_⟩
  · obtain ⟨k1, o2, k2⟩ := R'.par i a z1
    obtain ⟨v, j1, j2⟩ := R'.rep i _ z2
    rw [k1] at j1
    cases j1
    obtain ⟨c, e, f, k⟩ := j2
    cases e
    exact ⟨f, k⟩
  · obtain ⟨a, h1, _⟩ := lent_of ar z
    exact ⟨a, h1⟩
section
variable {P : Program} {w : World} {K : PySem.W.Frag} {mg : Str → Option Value} {base : Heap}
theorem okT {x qual : Str} {st : Stmt} {f : Addr} {fd : FuncData} {N ps : List Str} {k : Nat} {fm : FM} {g : GS} (F : Fun K x qual st f fd) (Sc : FnScope N ps (defScope st))
    (hb : ∀ (cdv : Value) (A : Around) (outer : List Env) (s : Shared) (H : Hp) (E : XK), Room k (A.deeper (envOfC qual (defScope st) s.heap.objs.size f cdv)) → JB (cxOf CX0 P w K mg base N qual (defScope st) f cdv A outer s H E).nox (defBody st) g)
    (hf : ∀ us r, fm us = some r → runB N.length g us = some r) : FnOk P w K mg base CX0 (k + 1) f fd ps (spT K ps.length fm) := by
  refine F.ok Sc (fun vs H Q E h => h.1) fun cdv A outer s H vs Q E hr h => ?_
  obtain ⟨hlen, F0, us, r, outs, sb, ar, nd, hfm, q⟩ := h
  have hrun := hf us (r, outs) hfm
  have J := hb cdv A outer s H E hr
  refine ⟨_, J.h ⟨lent vs us, F0, H⟩, ?_⟩
  have R0 := rel_start sb ar nd N rfl
  obtain ⟨o, ho, hrun⟩ := bind_some' hrun
  refine ⟨_, F0, o, R0, ho, ?_⟩
  have post := post_of ar
  cases o with
  | bk S' => cases hrun
  | ct S' => cases hrun
  | nx S' =>
    obtain ⟨os, h1, h2⟩ := map_some' (show (outsOf us S').map _ = some (r, outs) from hrun)
    cases h2
    exact fun σ' F' H' R' le => q .non F' H' (post S' σ' F' H' outs R' h1) .non
  | rt u S' =>
    cases u with
    | b o => cases hrun
    | v i => cases hrun
    | s i => cases hrun
    | t d =>
      obtain ⟨os, h1, h2⟩ := map_some' (show (outsOf us S').map _ = some (r, outs) from hrun)
      cases h2
      exact fun v σ' F' H' R' le rr => q v F' H' (post S' σ' F' H' outs R' h1) rr
    | m o =>
      obtain ⟨os, h1, h2⟩ := map_some' (show (outsOf us S').map _ = some (r, outs) from hrun)
      cases h2
      exact fun v σ' F' H' R' le rr => q v F' H' (post S' σ' F' H' outs R' h1) (by obtain ⟨a, e, h0, f, h, n, hB⟩ := rr; exact ⟨a, e, hB, f, h⟩)
end
end L2

end
section
set_option Elab.async false
set_option linter.all false
set_option maxRecDepth 100000
namespace L2
open PySem PySem.Spec PyProof.Rows
def capArg (S : SS) (i : Nat) : Option U := match S[i]? with
  | some (some (.t d)) => some (.t d)
  | some (some (.s d)) => some (.s d)
  | some (some (.m _)) => some (.v i)
  | some (some (.b _)) => some (.v i)
  | _ => none
def capArgs (S : SS) : List Nat → Option (List U)
  | [] => some []
  | i :: cap => (capArg S i).bind fun u => (capArgs S cap).map fun us => u :: us
def qTrue : GT := fun S => some (true, S)
def compL (cap : List Nat) (q : GT) (g : GD) : List D → SS → List D → Option (List D × SS)
  | [], S, acc => some (acc, S)
  | d :: ds, S, acc => (capArgs S cap).bind fun us =>
    if (slotsOf us).Nodup ∧ freshes us ≤ 1 then (resolves S us).bind fun ws => (q (some (.t d) :: ws.map some)).bind fun p =>
      if p.1 then (g p.2).bind fun r => (outsOf (.t d :: ws) r.2).bind fun outs => (wb us outs S).bind fun S' => compL cap q g ds S' (acc ++ [r.1])
      else (outsOf (.t d :: ws) p.2).bind fun outs => (wb us outs S).bind fun S' => compL cap q g ds S' acc
    else none
def eComp (cap : List Nat) (gi : GI) (q : GT) (g : GD) : GE := fun S => (gi S).bind fun p => if p.1.length ≤ 100000 then (compL cap q g p.1 p.2 []).map fun r => (.m (.lst r.1), r.2) else none
structure JTs (X : Cx) (es : List Expr) (q : GT) : Prop where
  h : ∀ B, PTs X es (tQ X.K B q)
theorem jts_nil {X : Cx} : JTs X [] qTrue := ⟨fun B pins s σ H Q I ⟨S, F, b, S', R, hg, q⟩ => by cases hg; exact pts_nil pins s σ H Q I (q F H R (Step.refl ..))⟩
theorem cap_ok {K : PySem.W.Frag} {B : Base} {S : SS} {σ : St} {F H : Hp} (R : Rel K B S σ F H) : ∀ {cap : List Nat} {us : List U}, capArgs S cap = some us → ∃ vs : List V, capOf cap σ = vs.map some ∧ Paired (fun v u => RepR K B S σ H F H v u) vs us
  | [], us, h => by cases h; exact ⟨[], rfl, .nil⟩
  | i :: cap, us, h => by
    obtain ⟨u, h1, h⟩ := bind_some' h
    obtain ⟨us', h2, h⟩ := map_some' h
    subst h
    obtain ⟨vs, k1, k2⟩ := cap_ok R h2
    have one : ∀ w, S[i]? = some (some w) → ∃ v, σ[i]? = some (some v) ∧ RepU K F H v w := R.rep i
    unfold capArg at h1
    have fin : ∀ v, σ[i]? = some (some v) → RepR K B S σ H F H v u → ∃ vs : List V, capOf (i :: cap) σ = vs.map some ∧ Paired (fun v u => RepR K B S σ H F H v u) vs (u :: us') := fun v e r =>
      ⟨v :: vs, by show (σ[i]?).join :: capOf cap σ = _; rw [e, k1]; rfl, .cons r k2⟩
    split at h1
    · rename_i d e
      cases h1
      obtain ⟨v, e1, r⟩ := one _ e
      exact fin v e1 r
    · rename_i d e
      cases h1
      obtain ⟨v, e1, r⟩ := one _ e
      exact fin v e1 r
    · rename_i o e
      cases h1
      obtain ⟨v, e1, r⟩ := one _ e
      exact fin v e1 ⟨e1, _, e⟩
    · rename_i o e
      cases h1
      obtain ⟨v, e1, r⟩ := one _ e
      exact fin v e1 ⟨e1, _, e⟩
    · cases h1
theorem slots_lt {K : PySem.W.Frag} {B : Base} {S : SS} {σ : St} {F H : Hp} (R : Rel K B S σ F H) (d : D) {us ws : List U} (h : resolves S us = some ws) : resolves S (.t d :: us) = some (.t d :: ws) := by
  show (some (U.t d)).bind _ = _
  show (resolves S us).map _ = _
  rw [h]
  rfl
theorem comp_imp {K : PySem.W.Frag} {B : Base} {cap : List Nat} {gi : GI} {q : GT} {g : GD} {σ : St} {H : Hp} {Q : VK} (h : tE K B (eComp cap gi q g) σ H Q) : tLC (tIt K B gi) cap (fun σ H Q => ∃ B, tQ K B q σ H Q) (fun σ H Q => ∃ B, tD K B g σ H Q) σ H Q := by
  obtain ⟨x, _⟩ : ∃ x : Str, True := ⟨"", trivial⟩
  obtain ⟨S, F, u, S', R, hg, k⟩ := h
  obtain ⟨⟨ds, S1⟩, h1, hg⟩ := bind_some' hg
  dsimp only at hg
  split at hg
  · rename_i hlen
    obtain ⟨⟨res, Sf⟩, h2, hg⟩ := map_some' hg
    cases hg
    refine ⟨S, F, ds, S1, R, h1, fun J F1 H1 R1 st1 w => ?_⟩
    refine ⟨fun i m ys H' => ∃ S2 F2 acc, Rel K B S2 σ F2 H' ∧ Step S S2 σ F H F2 H' ∧ (∀ b o, F1 b = some o → F2 b = some o) ∧ Reps F2 ys acc ∧ acc.length ≤ i ∧ i ≤ ds.length ∧ m = ds.length - i ∧ compL cap q g (ds.drop i) S2 acc = some (res, Sf),
      ⟨_, S1, F1, [], R1, st1, fun _ _ z => z, .nil, Nat.le_refl _, Nat.zero_le _, rfl, h2⟩, ?_⟩
    rintro i m ys H' ⟨S2, F2, acc, R2, st2, le, ry, ha, hl, rfl, hlp⟩
    refine ⟨by rw [ry.length]; exact Nat.lt_of_le_of_lt (Nat.le_trans ha (Nat.le_trans hl hlen)) (by decide), ?_⟩
    have w' := w F2 H' le R2.sub i
    by_cases hlt : i < ds.length
    · have hd : ds[i]? = some ds[i] := List.getElem?_eq_getElem hlt
      obtain ⟨go, yl⟩ := w'.1 _ hd
      rw [List.drop_eq_getElem_cons hlt] at hlp
      refine .inr ⟨go, fun xv H3 y => ?_⟩
      obtain ⟨rfl, rx⟩ := yl xv H3 y
      obtain ⟨us, e1, hlp⟩ := bind_some' hlp
      skip
      split at hlp
      · rename_i hnd
        obtain ⟨ws, e2, hlp⟩ := bind_some' hlp
        obtain ⟨⟨bk, T1⟩, e3, hlp⟩ := bind_some' hlp
        obtain ⟨vs, k1, k2⟩ := cap_ok R2 e1
        have rr : Paired (fun v u => RepR K B S2 σ H3 F2 H3 v u) (xv :: vs) (.t ds[i] :: us) := .cons rx k2
        have er := slots_lt R2 ds[i] e2
        have ar := args_ok R2 rr er
        have nd := addrs_nodup R2 rr er hnd.1 hnd.2
        have R3 := rel_start (n := ws.length + 1) R2.sub ar nd (List.replicate (ws.length + 1) x) (by simp)
        have hvl : vs.length = ws.length := by have := ar.length; simpa using this
        have es : start (List.replicate (ws.length + 1) x) (xv :: vs) = some xv :: capOf cap σ := by
          unfold start; rw [k1]; simp [hvl]
        have eS : (U.t ds[i] :: ws).map some ++ List.replicate (ws.length + 1 - (U.t ds[i] :: ws).length) none = some (U.t ds[i]) :: ws.map some := by simp
        rw [es, eS] at R3
        -- behind the turn
        have back : ∀ (T2 : SS) (F3 H4 : Hp) (outs : List MO) (S3 : SS), Rel K ⟨lent (xv :: vs) (U.t ds[i] :: ws), F2, H3⟩ T2 (some xv :: capOf cap σ) F3 H4 → outsOf (U.t ds[i] :: ws) T2 = some outs → wb us outs S2 = some S3 → Rel K B S3 σ F3 H4 ∧ Step S S3 σ F H F3 H4 ∧ (∀ b o, F2 b = some o → F3 b = some o) := fun T2 F3 H4 outs S3 RT ho hw => by
          have po := post_of ar T2 _ F3 H4 outs RT ho
          obtain ⟨Ra, sta, _⟩ := after_call (S0 := S2) (F0 := F2) (H0 := H3) R2 (Step.refl ..) rr er (show wb (U.t ds[i] :: us) outs S2 = some S3 by cases outs <;> exact hw) hnd.1 po
          exact ⟨Ra, st2.trans sta, sta.ext.le⟩
        refine ⟨_, _, F2, bk, T1, R3, e3, fun F3 H4 RT1 stT1 => ?_⟩
        cases bk with
        | true =>
          obtain ⟨⟨yd, T2⟩, e4, hlp⟩ := bind_some' (show (g T1).bind _ = _ from hlp)
          obtain ⟨outs, e5, hlp⟩ := bind_some' hlp
          obtain ⟨S3, e6, hlp⟩ := bind_some' hlp
          refine iteT ⟨_, T1, F3, yd, T2, RT1, e4, fun yv F4 H5 RT2 stT2 ry2 => ?_⟩
          obtain ⟨Ra, sta, lea⟩ := back T2 F4 H5 outs S3 RT2 e5 e6
          refine ⟨ds.length - (i + 1), by omega, S3, F4, acc ++ [yd], Ra, sta, fun b o z => lea b o (le b o z), (ry.le lea).append (.cons ry2 .nil), by simp; omega, hlt, rfl, hlp⟩
        | false =>
          obtain ⟨outs, e5, hlp⟩ := bind_some' (show (outsOf (U.t ds[i] :: ws) T1).bind _ = _ from hlp)
          obtain ⟨S3, e6, hlp⟩ := bind_some' hlp
          obtain ⟨Ra, sta, lea⟩ := back T1 F3 H4 outs S3 RT1 e5 e6
          exact iteF ⟨ds.length - (i + 1), by omega, S3, F3, acc, Ra, sta, fun b o z => lea b o (le b o z), ry.le lea, by omega, hlt, rfl, hlp⟩
      · cases hlp
    · have e : i = ds.length := by omega
      subst e
      rw [List.drop_length] at hlp
      cases hlp
      refine .inl ⟨w'.2 (Nat.le_refl _), fun p hp => ?_⟩
      have n := New.obj (F := F2) hp (.lst ys)
      refine k (.ref p) F2 _ (R2.new n (R2.sub.same n.same)) (st2.trans n.step) ⟨p, rfl, none_of st2.ext.there hp, R2.sub.fresh hp, ⟨ys, upd_same, ry⟩, fun m => ?_, none_of R2.ext.there hp⟩
      obtain ⟨o, ho⟩ := R2.has m
      rw [hp] at ho
      cases ho
  · cases hg
theorem je_comp {X : Cx} {elt iter : Expr} {ifs : List Expr} {x : Str} {px pos : Pos} {scope : Scope} {cl : List (Str × Addr)} {capN : List Str} {cap : List Nat} {gi : GI} {q : GT} {g : GD} (T : CompTxt X x capN cap scope cl) (hc : X.calm = true) (hi : JI X (.Name x px) iter gi)
    (ht : ∀ C s H fp, JTs (compCx X (x :: capN) scope cl C s H fp) ifs q) (he : ∀ C s H fp, JD (compCx X (x :: capN) scope cl C s H fp) elt g)
    (hs : ∀ x, foldedSetIterable iter X.env x = pure x := by intro _; rfl) : JE X (.ListComp elt [⟨.Name x px, iter, ifs, 0⟩] scope pos) (eComp cap gi q g) := ⟨fun B => by
  exact (pe_lcomp (tc := fun σ H Q => ∃ B, tQ X.K B q σ H Q) (te := fun σ H Q => ∃ B, tD X.K B g σ H Q) T hc (hi.h B) (fun C s H fp pins s' σ H' Q I ⟨B', z⟩ => (ht C s H fp).h B' pins s' σ H' Q I z) (fun C s H fp pins s' σ H' Q I ⟨B', z⟩ => (he C s H fp).h B' pins s' σ H' Q I z) hs).imp fun σ H Q h => comp_imp h⟩
theorem js_setLC {X : Cx} {elt iter : Expr} {ifs : List Expr} {x y : Str} {px pos py spos : Pos} {scope : Scope} {cl : List (Str × Addr)} {capN : List Str} {cap : List Nat} {gi : GI} {q : GT} {g : GD} {i : Nat} (hN : X.N.Nodup) (hy : X.N[i]? = some y) (hx : Loc X.env.scope y) (T : CompTxt X x capN cap scope cl) (hc : X.calm = true) (hi : JI X (.Name x px) iter gi)
    (ht : ∀ C s H fp, JTs (compCx X (x :: capN) scope cl C s H fp) ifs q) (he : ∀ C s H fp, JD (compCx X (x :: capN) scope cl C s H fp) elt g)
    (hsw : swapsWith (.ListComp elt [⟨.Name x px, iter, ifs, 0⟩] scope pos) (some (.Name y py)) spos.line X.env = pure true := by rfl) (hf : X.fn y = true ∨ X.env.scope.names.lookup y = some .local := by first | exact .inl rfl | exact .inr rfl | assumption)
    (hs : ∀ x, foldedSetIterable iter X.env x = pure x := by intro _; rfl) : JS X (.Assign [.Name y py] (.ListComp elt [⟨.Name x px, iter, ifs, 0⟩] scope pos) spos) (sSet i (eComp cap gi q g)) := ⟨fun B =>
  (ps_setLC (tc := fun σ H Q => ∃ B, tQ X.K B q σ H Q) (te := fun σ H Q => ∃ B, tD X.K B g σ H Q) T hc (hi.h B) (fun C s H fp pins s' σ H' Q I ⟨B', z⟩ => (ht C s H fp).h B' pins s' σ H' Q I z) (fun C s H fp pins s' σ H' Q I ⟨B', z⟩ => (he C s H fp).h B' pins s' σ H' Q I z) hs hN hy hx hsw hf).imp fun D σ H h => comp_imp (set_imp h)⟩
end L2

end
section
set_option Elab.async false
set_option linter.all false
set_option maxRecDepth 100000
namespace L2
open PySem PySem.Spec PyProof.Rows
mutual
def eqD : D → D → Bool
  | .non, .non => true
  | .bl a, .bl b => a == b
  | .int a, .int b => a == b
  | .bl a, .int b => (if a then 1 else 0) == b
  | .int a, .bl b => a == (if b then 1 else 0)
  | .str a, .str b => a == b
  | .tup a, .tup b => eqDs a b
  | .lst a, .lst b => eqDs a b
  | _, _ => false
def eqDs : List D → List D → Bool
  | [], [] => true
  | a :: as, b :: bs => eqD a b && eqDs as bs
  | _, _ => false
end
mutual
def depD : D → Nat
  | .tup ds => depDs ds + 1
  | .lst ds => depDs ds + 1
  | _ => 0
def depDs : List D → Nat
  | [] => 0
  | d :: ds => max (depD d) (depDs ds)
end
mutual
theorem eqD_refl : ∀ d : D, eqD d d = true
  | .non => rfl
  | .bl a => by simp [eqD]
  | .int a => by simp [eqD]
  | .str a => by simp [eqD]
  | .tup a => by unfold eqD; exact eqDs_refl a
  | .lst a => by unfold eqD; exact eqDs_refl a
theorem eqDs_refl : ∀ ds : List D, eqDs ds ds = true
  | [] => rfl
  | d :: ds => by unfold eqDs; rw [eqD_refl d, eqDs_refl ds]; rfl
end
def eqAtI (as bs : List D) (j : Nat) : Bool := match as[j]?, bs[j]? with
  | some a, some b => eqD a b
  | _, _ => true
theorem range_succ_all (n : Nat) (e : Nat → Bool) : (List.range (n + 1)).all e = (e 0 && (List.range n).all fun j => e (j + 1)) := by
  rw [List.range_succ_eq_map, List.all_cons, List.all_map]
  rfl
theorem eqDs_len : ∀ {as bs : List D}, as.length ≠ bs.length → eqDs as bs = false
  | [], [], h => absurd rfl h
  | [], _ :: _, _ => rfl
  | _ :: _, [], _ => rfl
  | a :: as, b :: bs, h => by
    unfold eqDs
    rw [eqDs_len (as := as) (bs := bs) (fun z => h (by simp [z])), Bool.and_false]
theorem eqDs_range : ∀ {as bs : List D}, as.length = bs.length → (List.range as.length).all (eqAtI as bs) = eqDs as bs
  | [], [], _ => rfl
  | [], _ :: _, h => by cases h
  | _ :: _, [], h => by cases h
  | a :: as, b :: bs, h => by
    have h' : as.length = bs.length := by simpa using h
    show (List.range (as.length + 1)).all _ = _
    rw [range_succ_all]
    unfold eqDs
    have ih := eqDs_range h'
    have e : (fun j => eqAtI (a :: as) (b :: bs) (j + 1)) = eqAtI as bs := by funext j; simp [eqAtI]
    rw [e, ih]
    rfl
mutual
theorem Rep.uniq {F : Hp} : ∀ {v : V} {d e : D}, Rep F v d → Rep F v e → d = e
  | _, _, _, .non, r => by cases r; rfl
  | _, _, _, .bl b, r => by cases r; rfl
  | _, _, _, .int b, r => by cases r; rfl
  | _, _, _, .str b, r => by cases r; rfl
  | _, _, _, .tup e1 r1, r => by
    cases r with
    | tup e2 r2 => rw [e1] at e2; cases e2; rw [Reps.uniq r1 r2]
    | lst e2 r2 => rw [e1] at e2; cases e2
  | _, _, _, .lst e1 r1, r => by
    cases r with
    | tup e2 r2 => rw [e1] at e2; cases e2
    | lst e2 r2 => rw [e1] at e2; cases e2; rw [Reps.uniq r1 r2]
theorem Reps.uniq {F : Hp} : ∀ {vs : List V} {ds es : List D}, Reps F vs ds → Reps F vs es → ds = es
  | _, _, _, .nil, r => by cases r; rfl
  | _, _, _, .cons r1 s1, r => by
    cases r with
    | cons r2 s2 => rw [Rep.uniq r1 r2, Reps.uniq s1 s2]
end
section
variable {X : Cx} {pins : List (Addr × Obj)} {σ : St} {F H : Hp} {s : Shared}
theorem Sub.isTup (I : Inv X pins σ H s) (sb : Sub F H) {a : Addr} {vs : List V} (h : F a = some (.tup vs)) : ∃ its : List Value, Vals vs its ∧ s.heap.IsTuple a its.toArray := by
  obtain ⟨its, rv, p, _⟩ := I.tuple (.inl (Rd.of (sb a _ h)))
  exact ⟨its, rv, p⟩
theorem Sub.isLst (I : Inv X pins σ H s) (sb : Sub F H) {a : Addr} {vs : List V} (h : F a = some (.lst vs)) : ∃ its : List Value, Vals vs its ∧ s.heap.IsList a its.toArray := by
  obtain ⟨its, rv, p, _⟩ := I.list (.inl (Rd.of (sb a _ h)))
  exact ⟨its, rv, p.isList⟩

def ItemsAt (A : Around) (s : Shared) (its itsb : List Value) (ds es : List D) : Prop := ∀ j (h1 : j < its.toArray.size) (h2 : j < itsb.toArray.size), SeqAt.EqAt A.in1 s its.toArray[j] itsb.toArray[j] (eqAtI ds es j)
theorem min_all {n m : Nat} (h : n = m) (e : Nat → Bool) : ((List.range (min n m)).all e && n == m) = (List.range n).all e := by
  subst h; simp
theorem rcat_tuplesI {A : Around} {ca cb : Addr} {itsa itsb : List Value} {ds es : List D} (hu : A.units < cLine) (pa : s.heap.IsTuple ca itsa.toArray) (pb : s.heap.IsTuple cb itsb.toArray) (la : itsa.length = ds.length) (lb : itsb.length = es.length) (h : ItemsAt A s itsa itsb ds es) :
    SeqAt.RcAt A s (.ref ca) (.ref cb) (eqDs ds es) := by
  have q := SeqAt.RcAt.tuples (e := eqAtI ds es) pa pb hu h
  rw [List.size_toArray, List.size_toArray, la, lb] at q
  by_cases hl : ds.length = es.length
  · rw [min_all hl, eqDs_range hl] at q; exact q
  · rw [eqDs_len hl]
    have : (ds.length == es.length) = false := by simpa using hl
    rw [this, Bool.and_false] at q
    exact q
theorem rcneat_tuplesI {A : Around} {ca cb : Addr} {itsa itsb : List Value} {ds es : List D} (hu : A.units < cLine) (pa : s.heap.IsTuple ca itsa.toArray) (pb : s.heap.IsTuple cb itsb.toArray) (la : itsa.length = ds.length) (lb : itsb.length = es.length) (h : ItemsAt A s itsa itsb ds es) :
    SeqAt.RcNeAt A s (.ref ca) (.ref cb) (!eqDs ds es) := by
  have q := SeqAt.RcNeAt.tuples (e := eqAtI ds es) pa pb hu h
  rw [List.size_toArray, List.size_toArray, la, lb] at q
  by_cases hl : ds.length = es.length
  · rw [min_all hl, eqDs_range hl] at q; exact q
  · rw [eqDs_len hl]
    have : (ds.length == es.length) = false := by simpa using hl
    rw [this, Bool.and_false] at q
    exact q
theorem rcat_listsI {A : Around} {ca cb : Addr} {itsa itsb : List Value} {ds es : List D} (hu : A.units < cLine) (pa : s.heap.IsList ca itsa.toArray) (pb : s.heap.IsList cb itsb.toArray) (la : itsa.length = ds.length) (lb : itsb.length = es.length) (h : ItemsAt A s itsa itsb ds es) :
    SeqAt.RcAt A s (.ref ca) (.ref cb) (eqDs ds es) := by
  by_cases hl : ds.length = es.length
  · have q := SeqAt.RcAt.lists (e := eqAtI ds es) pa pb (by rw [List.size_toArray, List.size_toArray, la, lb]; exact hl) hu h
    rw [List.size_toArray, la, eqDs_range hl] at q; exact q
  · rw [eqDs_len hl]
    exact SeqAt.RcAt.lists_lengths pa pb (by rw [List.size_toArray, List.size_toArray, la, lb]; simpa using hl) hu
theorem rcneat_listsI {A : Around} {ca cb : Addr} {itsa itsb : List Value} {ds es : List D} (hu : A.units < cLine) (pa : s.heap.IsList ca itsa.toArray) (pb : s.heap.IsList cb itsb.toArray) (la : itsa.length = ds.length) (lb : itsb.length = es.length) (h : ItemsAt A s itsa itsb ds es) :
    SeqAt.RcNeAt A s (.ref ca) (.ref cb) (!eqDs ds es) := by
  by_cases hl : ds.length = es.length
  · have q := SeqAt.RcNeAt.lists (e := eqAtI ds es) pa pb (by rw [List.size_toArray, List.size_toArray, la, lb]; exact hl) hu h
    rw [List.size_toArray, la, eqDs_range hl] at q; exact q
  · rw [eqDs_len hl]
    exact SeqAt.RcNeAt.lists_lengths pa pb (by rw [List.size_toArray, List.size_toArray, la, lb]; simpa using hl) hu
theorem toArr_get {α : Type} (l : List α) (j : Nat) (h : j < l.toArray.size) : l[j]? = some l.toArray[j] := by
  have z : j < l.length := by simpa using h
  simp [z]
mutual
theorem eqAtD (I : Inv X pins σ H s) (sb : Sub F H) : ∀ (d : D) {e : D} {A : Around} {x y : V} {u w' : Value}, Rep F x d → Rep F y e → RelV x u → RelV y w' → A.units + depD d < cLine → SeqAt.EqAt A s u w' (eqD d e) := fun d {e A x y u w'} r1 r2 rx ry hu => by
  cases r1 with
  | non =>
    cases rx
    cases r2 with
    | non => cases ry; exact SeqAt.EqAt.same _
    | bl b => cases ry; exact SeqAt.EqAt.none_bool b
    | int b => obtain ⟨tb, rfl⟩ := ry; exact SeqAt.EqAt.none_int b tb
    | str b => obtain ⟨tb, rfl⟩ := ry; exact SeqAt.EqAt.none_str b tb
    | @tup cb vsb dsb eb rb => cases ry; obtain ⟨itsb, rvb, pb⟩ := sb.isTup I eb; exact SeqAt.EqAt.none_tuple pb (by omega)
    | @lst cb vsb dsb eb rb => cases ry; obtain ⟨itsb, rvb, pb⟩ := sb.isLst I eb; exact SeqAt.EqAt.none_list pb (by omega)
  | bl a =>
    cases rx
    cases r2 with
    | non => cases ry; exact SeqAt.EqAt.bool_none a
    | bl b => cases ry; exact SeqAt.EqAt.bool_bool a b
    | int b => obtain ⟨tb, rfl⟩ := ry; exact SeqAt.EqAt.bool_int a b tb
    | str b => obtain ⟨tb, rfl⟩ := ry; exact SeqAt.EqAt.bool_str a b tb
    | @tup cb vsb dsb eb rb => cases ry; obtain ⟨itsb, rvb, pb⟩ := sb.isTup I eb; exact SeqAt.EqAt.bool_tuple a pb (by omega)
    | @lst cb vsb dsb eb rb => cases ry; obtain ⟨itsb, rvb, pb⟩ := sb.isLst I eb; exact SeqAt.EqAt.bool_list a pb (by omega)
  | int a =>
    obtain ⟨ta, rfl⟩ := rx
    cases r2 with
    | non => cases ry; exact SeqAt.EqAt.int_none a ta
    | bl b => cases ry; exact SeqAt.EqAt.int_bool a ta b
    | int b => obtain ⟨tb, rfl⟩ := ry; exact SeqAt.EqAt.int_int a ta b tb
    | str b => obtain ⟨tb, rfl⟩ := ry; exact SeqAt.EqAt.int_str a ta b tb
    | @tup cb vsb dsb eb rb => cases ry; obtain ⟨itsb, rvb, pb⟩ := sb.isTup I eb; exact SeqAt.EqAt.int_tuple a ta pb (by omega)
    | @lst cb vsb dsb eb rb => cases ry; obtain ⟨itsb, rvb, pb⟩ := sb.isLst I eb; exact SeqAt.EqAt.int_list a ta pb (by omega)
  | str a =>
    obtain ⟨ta, rfl⟩ := rx
    cases r2 with
    | non => cases ry; exact SeqAt.EqAt.str_none a ta
    | bl b => cases ry; exact SeqAt.EqAt.str_bool a ta b
    | int b => obtain ⟨tb, rfl⟩ := ry; exact SeqAt.EqAt.str_int a ta b tb
    | str b => obtain ⟨tb, rfl⟩ := ry; exact SeqAt.EqAt.str_str a ta b tb
    | @tup cb vsb dsb eb rb => cases ry; obtain ⟨itsb, rvb, pb⟩ := sb.isTup I eb; exact SeqAt.EqAt.str_tuple a ta pb (by omega)
    | @lst cb vsb dsb eb rb => cases ry; obtain ⟨itsb, rvb, pb⟩ := sb.isLst I eb; exact SeqAt.EqAt.str_list a ta pb (by omega)
  | @tup ca vsa dsa ea ra =>
    cases rx; obtain ⟨itsa, rva, pa⟩ := sb.isTup I ea
    cases r2 with
    | non => cases ry; exact SeqAt.EqAt.tuple_none pa (by omega)
    | bl b => cases ry; exact SeqAt.EqAt.tuple_bool b pa (by omega)
    | int b => obtain ⟨tb, rfl⟩ := ry; exact SeqAt.EqAt.tuple_int b tb pa (by omega)
    | str b => obtain ⟨tb, rfl⟩ := ry; exact SeqAt.EqAt.tuple_str b tb pa (by omega)
    | @tup cb vsb dsb eb rb => cases ry; obtain ⟨itsb, rvb, pb⟩ := sb.isTup I eb; exact (by
      have hd : A.units + (depDs dsa + 1) < cLine := hu
      have items : ItemsAt A s itsa itsb dsa dsb := fun j h1 h2 => itemsAtD I sb dsa (A := A.in1) ra rb rva rvb (by show A.units + 1 + depDs dsa < cLine; omega) (toArr_get itsa j h1) (toArr_get itsb j h2)
      by_cases hc : ca = cb
      · subst hc
        rw [ea] at eb
        cases eb
        obtain rfl := Reps.uniq ra rb
        show SeqAt.EqAt A s _ _ (eqDs dsa dsa)
        rw [eqDs_refl]
        exact SeqAt.EqAt.same _
      · exact SeqAt.EqAt.of_refs hc (rcat_tuplesI (by omega) pa pb (rva.length.symm.trans ra.length) (rvb.length.symm.trans rb.length) items))
    | @lst cb vsb dsb eb rb => cases ry; obtain ⟨itsb, rvb, pb⟩ := sb.isLst I eb; exact SeqAt.EqAt.tuple_list pa pb (by omega)
  | @lst ca vsa dsa ea ra =>
    cases rx; obtain ⟨itsa, rva, pa⟩ := sb.isLst I ea
    cases r2 with
    | non => cases ry; exact SeqAt.EqAt.list_none pa (by omega)
    | bl b => cases ry; exact SeqAt.EqAt.list_bool b pa (by omega)
    | int b => obtain ⟨tb, rfl⟩ := ry; exact SeqAt.EqAt.list_int b tb pa (by omega)
    | str b => obtain ⟨tb, rfl⟩ := ry; exact SeqAt.EqAt.list_str b tb pa (by omega)
    | @tup cb vsb dsb eb rb => cases ry; obtain ⟨itsb, rvb, pb⟩ := sb.isTup I eb; exact SeqAt.EqAt.list_tuple pa pb (by omega)
    | @lst cb vsb dsb eb rb => cases ry; obtain ⟨itsb, rvb, pb⟩ := sb.isLst I eb; exact (by
      have hd : A.units + (depDs dsa + 1) < cLine := hu
      have items : ItemsAt A s itsa itsb dsa dsb := fun j h1 h2 => itemsAtD I sb dsa (A := A.in1) ra rb rva rvb (by show A.units + 1 + depDs dsa < cLine; omega) (toArr_get itsa j h1) (toArr_get itsb j h2)
      by_cases hc : ca = cb
      · subst hc
        rw [ea] at eb
        cases eb
        obtain rfl := Reps.uniq ra rb
        show SeqAt.EqAt A s _ _ (eqDs dsa dsa)
        rw [eqDs_refl]
        exact SeqAt.EqAt.same _
      · exact SeqAt.EqAt.of_refs hc (rcat_listsI (by omega) pa pb (rva.length.symm.trans ra.length) (rvb.length.symm.trans rb.length) items))
theorem itemsAtD (I : Inv X pins σ H s) (sb : Sub F H) : ∀ (ds : List D) {es : List D} {A : Around} {vs ws : List V} {us us' : List Value} {j : Nat} {u w' : Value}, Reps F vs ds → Reps F ws es → Vals vs us → Vals ws us' → A.units + depDs ds < cLine → us[j]? = some u → us'[j]? = some w' → SeqAt.EqAt A s u w' (eqAtI ds es j) := fun ds {es A vs ws us us' j u w'} r1 r2 v1 v2 hu h1 h2 => by
  cases r1 with
  | nil => cases v1; simp at h1
  | @cons v d vs ds r rs =>
    cases v1 with
    | cons q qs =>
      cases r2 with
      | nil => cases v2; simp at h2
      | @cons w e ws es r' rs' =>
        cases v2 with
        | cons q' qs' =>
          have hd : A.units + max (depD d) (depDs ds) < cLine := hu
          cases j with
          | zero =>
            simp at h1 h2
            subst h1 h2
            exact eqAtD I sb d r r' q q' (by omega)
          | succ j =>
            simp at h1 h2
            have := itemsAtD I sb ds (A := A) rs rs' qs qs' (j := j) (by omega) h1 h2
            simpa [eqAtI] using this
end
end
end L2

end
section
set_option Elab.async false
set_option linter.all false
set_option maxRecDepth 100000
namespace L2
open PySem PySem.Spec PyProof.Rows
section
variable {X : Cx} {pins : List (Addr × Obj)} {σ : St} {F H : Hp} {s : Shared}
theorem rcAtD (I : Inv X pins σ H s) (sb : Sub F H) {d e : D} {A : Around} {x y : V} {u w' : Value} (r1 : Rep F x d) (r2 : Rep F y e) (rx : RelV x u) (ry : RelV y w') (hu : A.units + depD d < cLine) : SeqAt.RcAt A s u w' (eqD d e) := by
  cases r1 with
  | non =>
    cases rx
    cases r2 with
    | non => cases ry; exact SeqAt.RcAt.none_none 
    | bl b => cases ry; exact SeqAt.RcAt.none_bool b
    | int b => obtain ⟨tb, rfl⟩ := ry; exact SeqAt.RcAt.none_int b tb
    | str b => obtain ⟨tb, rfl⟩ := ry; exact SeqAt.RcAt.none_str b tb
    | @tup cb vsb dsb eb rb => cases ry; obtain ⟨itsb, rvb, pb⟩ := sb.isTup I eb; exact SeqAt.RcAt.none_tuple pb (by omega)
    | @lst cb vsb dsb eb rb => cases ry; obtain ⟨itsb, rvb, pb⟩ := sb.isLst I eb; exact SeqAt.RcAt.none_list pb (by omega)
  | bl a =>
    cases rx
    cases r2 with
    | non => cases ry; exact SeqAt.RcAt.bool_none a
    | bl b => cases ry; exact SeqAt.RcAt.bool_bool a b
    | int b => obtain ⟨tb, rfl⟩ := ry; exact SeqAt.RcAt.bool_int a b tb
    | str b => obtain ⟨tb, rfl⟩ := ry; exact SeqAt.RcAt.bool_str a b tb
    | @tup cb vsb dsb eb rb => cases ry; obtain ⟨itsb, rvb, pb⟩ := sb.isTup I eb; exact SeqAt.RcAt.bool_tuple a pb (by omega)
    | @lst cb vsb dsb eb rb => cases ry; obtain ⟨itsb, rvb, pb⟩ := sb.isLst I eb; exact SeqAt.RcAt.bool_list a pb (by omega)
  | int a =>
    obtain ⟨ta, rfl⟩ := rx
    cases r2 with
    | non => cases ry; exact SeqAt.RcAt.int_none a ta
    | bl b => cases ry; exact SeqAt.RcAt.int_bool a ta b
    | int b => obtain ⟨tb, rfl⟩ := ry; exact SeqAt.RcAt.int_int a ta b tb
    | str b => obtain ⟨tb, rfl⟩ := ry; exact SeqAt.RcAt.int_str a ta b tb
    | @tup cb vsb dsb eb rb => cases ry; obtain ⟨itsb, rvb, pb⟩ := sb.isTup I eb; exact SeqAt.RcAt.int_tuple a ta pb (by omega)
    | @lst cb vsb dsb eb rb => cases ry; obtain ⟨itsb, rvb, pb⟩ := sb.isLst I eb; exact SeqAt.RcAt.int_list a ta pb (by omega)
  | str a =>
    obtain ⟨ta, rfl⟩ := rx
    cases r2 with
    | non => cases ry; exact SeqAt.RcAt.str_none a ta
    | bl b => cases ry; exact SeqAt.RcAt.str_bool a ta b
    | int b => obtain ⟨tb, rfl⟩ := ry; exact SeqAt.RcAt.str_int a ta b tb
    | str b => obtain ⟨tb, rfl⟩ := ry; exact SeqAt.RcAt.str_str a ta b tb
    | @tup cb vsb dsb eb rb => cases ry; obtain ⟨itsb, rvb, pb⟩ := sb.isTup I eb; exact SeqAt.RcAt.str_tuple a ta pb (by omega)
    | @lst cb vsb dsb eb rb => cases ry; obtain ⟨itsb, rvb, pb⟩ := sb.isLst I eb; exact SeqAt.RcAt.str_list a ta pb (by omega)
  | @tup ca vsa dsa ea ra =>
    cases rx; obtain ⟨itsa, rva, pa⟩ := sb.isTup I ea
    cases r2 with
    | non => cases ry; exact SeqAt.RcAt.tuple_none pa (by omega)
    | bl b => cases ry; exact SeqAt.RcAt.tuple_bool b pa (by omega)
    | int b => obtain ⟨tb, rfl⟩ := ry; exact SeqAt.RcAt.tuple_int b tb pa (by omega)
    | str b => obtain ⟨tb, rfl⟩ := ry; exact SeqAt.RcAt.tuple_str b tb pa (by omega)
    | @tup cb vsb dsb eb rb => cases ry; obtain ⟨itsb, rvb, pb⟩ := sb.isTup I eb; exact (by
      have hd : A.units + (depDs dsa + 1) < cLine := hu
      have items : ItemsAt A s itsa itsb dsa dsb := fun j h1 h2 => itemsAtD I sb dsa (A := A.in1) ra rb rva rvb (by show A.units + 1 + depDs dsa < cLine; omega) (toArr_get itsa j h1) (toArr_get itsb j h2)
      exact rcat_tuplesI (by omega) pa pb (rva.length.symm.trans ra.length) (rvb.length.symm.trans rb.length) items)
    | @lst cb vsb dsb eb rb => cases ry; obtain ⟨itsb, rvb, pb⟩ := sb.isLst I eb; exact SeqAt.RcAt.tuple_list pa pb (by omega)
  | @lst ca vsa dsa ea ra =>
    cases rx; obtain ⟨itsa, rva, pa⟩ := sb.isLst I ea
    cases r2 with
    | non => cases ry; exact SeqAt.RcAt.list_none pa (by omega)
    | bl b => cases ry; exact SeqAt.RcAt.list_bool b pa (by omega)
    | int b => obtain ⟨tb, rfl⟩ := ry; exact SeqAt.RcAt.list_int b tb pa (by omega)
    | str b => obtain ⟨tb, rfl⟩ := ry; exact SeqAt.RcAt.list_str b tb pa (by omega)
    | @tup cb vsb dsb eb rb => cases ry; obtain ⟨itsb, rvb, pb⟩ := sb.isTup I eb; exact SeqAt.RcAt.list_tuple pa pb (by omega)
    | @lst cb vsb dsb eb rb => cases ry; obtain ⟨itsb, rvb, pb⟩ := sb.isLst I eb; exact (by
      have hd : A.units + (depDs dsa + 1) < cLine := hu
      have items : ItemsAt A s itsa itsb dsa dsb := fun j h1 h2 => itemsAtD I sb dsa (A := A.in1) ra rb rva rvb (by show A.units + 1 + depDs dsa < cLine; omega) (toArr_get itsa j h1) (toArr_get itsb j h2)
      exact rcat_listsI (by omega) pa pb (rva.length.symm.trans ra.length) (rvb.length.symm.trans rb.length) items)
theorem rcneAtD (I : Inv X pins σ H s) (sb : Sub F H) {d e : D} {A : Around} {x y : V} {u w' : Value} (r1 : Rep F x d) (r2 : Rep F y e) (rx : RelV x u) (ry : RelV y w') (hu : A.units + depD d < cLine) : SeqAt.RcNeAt A s u w' (!eqD d e) := by
  cases r1 with
  | non =>
    cases rx
    cases r2 with
    | non => cases ry; exact SeqAt.RcNeAt.none_none 
    | bl b => cases ry; exact SeqAt.RcNeAt.none_bool b
    | int b => obtain ⟨tb, rfl⟩ := ry; exact SeqAt.RcNeAt.none_int b tb
    | str b => obtain ⟨tb, rfl⟩ := ry; exact SeqAt.RcNeAt.none_str b tb
    | @tup cb vsb dsb eb rb => cases ry; obtain ⟨itsb, rvb, pb⟩ := sb.isTup I eb; exact SeqAt.RcNeAt.none_tuple pb (by omega)
    | @lst cb vsb dsb eb rb => cases ry; obtain ⟨itsb, rvb, pb⟩ := sb.isLst I eb; exact SeqAt.RcNeAt.none_list pb (by omega)
  | bl a =>
    cases rx
    cases r2 with
    | non => cases ry; exact SeqAt.RcNeAt.bool_none a
    | bl b => cases ry; exact SeqAt.RcNeAt.bool_bool a b
    | int b => obtain ⟨tb, rfl⟩ := ry; exact SeqAt.RcNeAt.bool_int a b tb
    | str b => obtain ⟨tb, rfl⟩ := ry; exact SeqAt.RcNeAt.bool_str a b tb
    | @tup cb vsb dsb eb rb => cases ry; obtain ⟨itsb, rvb, pb⟩ := sb.isTup I eb; exact SeqAt.RcNeAt.bool_tuple a pb (by omega)
    | @lst cb vsb dsb eb rb => cases ry; obtain ⟨itsb, rvb, pb⟩ := sb.isLst I eb; exact SeqAt.RcNeAt.bool_list a pb (by omega)
  | int a =>
    obtain ⟨ta, rfl⟩ := rx
    cases r2 with
    | non => cases ry; exact SeqAt.RcNeAt.int_none a ta
    | bl b => cases ry; exact SeqAt.RcNeAt.int_bool a ta b
    | int b => obtain ⟨tb, rfl⟩ := ry; exact SeqAt.RcNeAt.int_int a ta b tb
    | str b => obtain ⟨tb, rfl⟩ := ry; exact SeqAt.RcNeAt.int_str a ta b tb
    | @tup cb vsb dsb eb rb => cases ry; obtain ⟨itsb, rvb, pb⟩ := sb.isTup I eb; exact SeqAt.RcNeAt.int_tuple a ta pb (by omega)
    | @lst cb vsb dsb eb rb => cases ry; obtain ⟨itsb, rvb, pb⟩ := sb.isLst I eb; exact SeqAt.RcNeAt.int_list a ta pb (by omega)
  | str a =>
    obtain ⟨ta, rfl⟩ := rx
    cases r2 with
    | non => cases ry; exact SeqAt.RcNeAt.str_none a ta
    | bl b => cases ry; exact SeqAt.RcNeAt.str_bool a ta b
    | int b => obtain ⟨tb, rfl⟩ := ry; exact SeqAt.RcNeAt.str_int a ta b tb
    | str b => obtain ⟨tb, rfl⟩ := ry; exact SeqAt.RcNeAt.str_str a ta b tb
    | @tup cb vsb dsb eb rb => cases ry; obtain ⟨itsb, rvb, pb⟩ := sb.isTup I eb; exact SeqAt.RcNeAt.str_tuple a ta pb (by omega)
    | @lst cb vsb dsb eb rb => cases ry; obtain ⟨itsb, rvb, pb⟩ := sb.isLst I eb; exact SeqAt.RcNeAt.str_list a ta pb (by omega)
  | @tup ca vsa dsa ea ra =>
    cases rx; obtain ⟨itsa, rva, pa⟩ := sb.isTup I ea
    cases r2 with
    | non => cases ry; exact SeqAt.RcNeAt.tuple_none pa (by omega)
    | bl b => cases ry; exact SeqAt.RcNeAt.tuple_bool b pa (by omega)
    | int b => obtain ⟨tb, rfl⟩ := ry; exact SeqAt.RcNeAt.tuple_int b tb pa (by omega)
    | str b => obtain ⟨tb, rfl⟩ := ry; exact SeqAt.RcNeAt.tuple_str b tb pa (by omega)
    | @tup cb vsb dsb eb rb => cases ry; obtain ⟨itsb, rvb, pb⟩ := sb.isTup I eb; exact (by
      have hd : A.units + (depDs dsa + 1) < cLine := hu
      have items : ItemsAt A s itsa itsb dsa dsb := fun j h1 h2 => itemsAtD I sb dsa (A := A.in1) ra rb rva rvb (by show A.units + 1 + depDs dsa < cLine; omega) (toArr_get itsa j h1) (toArr_get itsb j h2)
      exact rcneat_tuplesI (by omega) pa pb (rva.length.symm.trans ra.length) (rvb.length.symm.trans rb.length) items)
    | @lst cb vsb dsb eb rb => cases ry; obtain ⟨itsb, rvb, pb⟩ := sb.isLst I eb; exact SeqAt.RcNeAt.tuple_list pa pb (by omega)
  | @lst ca vsa dsa ea ra =>
    cases rx; obtain ⟨itsa, rva, pa⟩ := sb.isLst I ea
    cases r2 with
    | non => cases ry; exact SeqAt.RcNeAt.list_none pa (by omega)
    | bl b => cases ry; exact SeqAt.RcNeAt.list_bool b pa (by omega)
    | int b => obtain ⟨tb, rfl⟩ := ry; exact SeqAt.RcNeAt.list_int b tb pa (by omega)
    | str b => obtain ⟨tb, rfl⟩ := ry; exact SeqAt.RcNeAt.list_str b tb pa (by omega)
    | @tup cb vsb dsb eb rb => cases ry; obtain ⟨itsb, rvb, pb⟩ := sb.isTup I eb; exact SeqAt.RcNeAt.list_tuple pa pb (by omega)
    | @lst cb vsb dsb eb rb => cases ry; obtain ⟨itsb, rvb, pb⟩ := sb.isLst I eb; exact (by
      have hd : A.units + (depDs dsa + 1) < cLine := hu
      have items : ItemsAt A s itsa itsb dsa dsb := fun j h1 h2 => itemsAtD I sb dsa (A := A.in1) ra rb rva rvb (by show A.units + 1 + depDs dsa < cLine; omega) (toArr_get itsa j h1) (toArr_get itsb j h2)
      exact rcneat_listsI (by omega) pa pb (rva.length.symm.trans ra.length) (rvb.length.symm.trans rb.length) items)
def fEq : List D → Option U
  | [a, b] => if depD a ≤ 40 then some (.t (.bl (eqD a b))) else none
  | _ => none
def fNe : List D → Option U
  | [a, b] => if depD a ≤ 40 then some (.t (.bl (!eqD a b))) else none
  | _ => none
theorem op_eqP (hu : X.A.units + 64 < cLine) : OpP X (compareOp .Eq) fEq := by
  intro pins s σ H x y v u Q I rx ry ⟨F, ds, w, sb, rs, hw, q⟩
  obtain ⟨d, e, rfl, r1, r2⟩ := reps2 rs
  obtain ⟨hd, rfl⟩ := ite_some (show (if depD d ≤ 40 then some (U.t (.bl (eqD d e))) else none) = some w from hw)
  exact rcAtD I sb r1 r2 rx ry (by omega) _ _ _ _ ⟨.bl _, H, I, rfl, q _ F H (New.refl ..) sb (.bl _)⟩
theorem op_neP (hu : X.A.units + 64 < cLine) : OpP X (compareOp .NotEq) fNe := by
  intro pins s σ H x y v u Q I rx ry ⟨F, ds, w, sb, rs, hw, q⟩
  obtain ⟨d, e, rfl, r1, r2⟩ := reps2 rs
  obtain ⟨hd, rfl⟩ := ite_some (show (if depD d ≤ 40 then some (U.t (.bl (!eqD d e))) else none) = some w from hw)
  exact rcneAtD I sb r1 r2 rx ry (by omega) _ _ _ _ ⟨.bl _, H, I, rfl, q _ F H (New.refl ..) sb (.bl _)⟩
def inD (x : D) (ds : List D) : Bool := ds.any fun y => eqD y x
theorem RelV.uniq {v w' : V} {u : Value} (a : RelV v u) (b : RelV w' u) : v = w' := by
  cases v <;> cases w' <;> simp only [RelV] at a b <;> first
    | rfl
    | (subst a; cases b; done)
    | (subst a; cases b; rfl)
    | (obtain ⟨t, rfl⟩ := a; obtain ⟨t', e⟩ := b; cases e; done)
    | (obtain ⟨t, rfl⟩ := a; obtain ⟨t', e⟩ := b; cases e; rfl)
    | (obtain ⟨t, rfl⟩ := a; cases b; done)
    | (obtain ⟨t, rfl⟩ := b; cases a; done)
open Classical in
noncomputable def inE (F : Hp) (d : D) (y : Value) : Bool := if h : ∃ (v : V) (dd : D), RelV v y ∧ Rep F v dd then eqD (Classical.choose (Classical.choose_spec h)) d else false
theorem inE_eq {v : V} {dd d : D} {y : Value} (a : RelV v y) (r : Rep F v dd) : inE F d y = eqD dd d := by
  unfold inE
  have h : ∃ (v : V) (dd : D), RelV v y ∧ Rep F v dd := ⟨v, dd, a, r⟩
  rw [dif_pos h]
  have k := Classical.choose_spec (Classical.choose_spec h)
  have e1 := RelV.uniq k.1 a
  have r' : Rep F (Classical.choose h) dd := by rw [e1]; exact r
  rw [Rep.uniq k.2 r']
theorem in_items (I : Inv X pins σ H s) (sb : Sub F H) {A : Around} {x : V} {u : Value} {d : D} (r : Rep F x d) (rx : RelV x u) : ∀ {vs : List V} {ds : List D} {its : List Value}, Reps F vs ds → Vals vs its → A.units + depDs ds < cLine →
    (∀ y ∈ its, SeqAt.EqAt A s y u (inE F d y)) ∧ its.any (inE F d) = inD d ds
  | _, _, _, .nil, .nil, _ => ⟨(fun y hy => absurd hy (by simp)), rfl⟩
  | _, _, _, @Reps.cons _ v dd vs ds r1 rs, .cons q qs, hu => by
    have hd : A.units + max (depD dd) (depDs ds) < cLine := hu
    obtain ⟨h1, h2⟩ := in_items I sb (A := A) r rx rs qs (by omega)
    refine ⟨fun y hy => ?_, ?_⟩
    · rcases List.mem_cons.mp hy with rfl | hy
      · rw [inE_eq q r1]; exact eqAtD I sb dd r1 r q rx (by omega)
      · exact h1 y hy
    · rw [List.any_cons, h2, inE_eq q r1]
      rfl
end
end L2

end
section
set_option Elab.async false
set_option linter.all false
set_option maxRecDepth 100000
namespace L2
open PySem PySem.Spec PyProof.Rows
def isTy (T : String) (d : D) : Option Bool := match T with
  | "tuple" => some (isTupD d)
  | "list" => some (isLstD d)
  | "str" => some (isStrD d)
  | "bool" => some (isBlD d)
  | "int" => some (isIntD d)
  | _ => none
def isTys : List String → D → Option Bool
  | [], _ => some false
  | T :: Ts, d => match isTy T d with
    | some true => some true
    | some false => isTys Ts d
    | none => none
section
variable {X : Cx} {pins : List (Addr × Obj)} {σ : St} {F H : Hp} {s : Shared}
end
def eIs (Ts : List String) (g : GD) : GD := fun S => (g S).bind fun p => (isTys Ts p.1).map fun b => (.bl b, p.2)
section
variable {X : Cx} {a b c e : Expr} {es : List Expr} {pos p p2 px : Pos} {x y : Str} {g ga gb gc : GD} {gA : GA}
def boolsD : List D → Option (List Bool)
  | [] => some []
  | .bl b :: ds => (boolsD ds).map fun bs => b :: bs
  | _ => none
def fAll : List D → Option U
  | [.lst ds] => (boolsD ds).map fun bs => .t (.bl (bs.all id))
  | _ => none
def fAny : List D → Option U
  | [.lst ds] => (boolsD ds).map fun bs => .t (.bl (bs.any id))
  | _ => none
theorem one_arg {P : D → Prop} {F : Hp} {xs : List V} {ds : List D} {f : List D → Option U} {w' : U} (rs : Reps F xs ds) (h : f ds = some w') (hn : f [] = none) (h2 : ∀ a b r, f (a :: b :: r) = none) : ∃ x d, xs = [x] ∧ ds = [d] ∧ Rep F x d := by
  cases rs with
  | nil => rw [hn] at h; cases h
  | cons r rs =>
    cases rs with
    | nil => exact ⟨_, _, rfl, rfl, r⟩
    | cons _ _ => rw [h2] at h; cases h
def fMin3 : List D → Option U
  | [.int i, .int j, .int k] => some (.t (.int (if j < i then (if k < j then k else j) else if k < i then k else i)))
  | _ => none
def fMin2 : List D → Option U
  | [.int i, .int j] => some (.t (.int (if j < i then j else i)))
  | _ => none
def fMax2 : List D → Option U
  | [.int i, .int j] => some (.t (.int (if j > i then j else i)))
  | _ => none
theorem call_min2P (hc : X.calm = true) : CallR X (.builtin "min") (rP fMin2) := by
  intro pins s σ H xs us Q I r ⟨F, ds, w, sb, rs, hw, q⟩
  unfold fMin2 at hw
  split at hw
  · rename_i i j
    cases hw
    cases rs with
    | cons r1 rs => cases rs with
      | cons r2 rs =>
        cases rs
        rw [rep_int r1, rep_int r2] at r
        exact call_min2 hc pins s σ H _ us Q I r ⟨i, j, rfl, q _ F H (New.refl ..) sb (.int _)⟩
  · cases hw
def fList : List D → Option U
  | [.tup ds] => some (.m (.lst ds))
  | [.lst ds] => some (.m (.lst ds))
  | _ => none
def fTuple : List D → Option U
  | [.tup ds] => some (.t (.tup ds))
  | [.lst ds] => some (.t (.tup ds))
  | _ => none
theorem call_tupleP : CallR X (.type "tuple") (rP fTuple) := by
  intro pins s σ H xs us Q I r ⟨F, ds, w, sb, rs, hw, q⟩
  obtain ⟨x, d, rfl, rfl, r1⟩ := one_arg (P := fun _ => True) rs hw rfl (fun d _ _ => by cases d <;> rfl)
  cases d <;> try (simp [fTuple] at hw; done)
  · cases hw
    have r0 := r1
    obtain ⟨a, vs, rfl, fa, ha, rs1⟩ := sb.tupAt r1
    exact call_tuple_of pins s σ H _ us Q I r ⟨a, vs, rfl, .inr ⟨.inl ha, q _ F H (New.refl ..) sb r0⟩⟩
  · cases hw
    obtain ⟨a, vs, rfl, fa, ha, rs1⟩ := sb.lstAt r1
    exact call_tuple_of pins s σ H _ us Q I r ⟨a, vs, rfl, .inl ⟨.inl ha, fun p hp => q _ _ _ (New.root sb hp _) (sb.tupNew hp) (.tup upd_same (rs1.le (le_upd (sb.fresh hp))))⟩⟩
end
end L2

end
section
set_option Elab.async false
set_option linter.all false
set_option maxRecDepth 100000
namespace L2
open PySem PySem.Spec PyProof.Rows
def keyOf : D → Option Key
  | .int i => some (.inl i)
  | .str z => some (.inr z)
  | _ => none
theorem keyOf_rep {F : Hp} {v : V} {d : D} {k : Key} (r : Rep F v d) (h : keyOf d = some k) : v = kV k := by
  cases r <;> cases h <;> rfl
def lookD {κ : Type} [DecidableEq κ] (kvs : List (κ × D)) (k : κ) : Option D := (kvs.find? fun kv => decide (kv.1 = k)).map (·.2)
def putD {κ : Type} [DecidableEq κ] (kvs : List (κ × D)) (k : κ) (d : D) : List (κ × D) :=
  if (kvs.any fun kv => decide (kv.1 = k)) = true then kvs.map (fun kv => if kv.1 = k then (kv.1, d) else kv) else kvs ++ [(k, d)]
theorem look_pair {κ : Type} [DecidableEq κ] {F : Hp} {k : κ} {d : D} : ∀ {ws : List (κ × V)} {kvs : List (κ × D)}, Paired (PairD F) ws kvs → lookD kvs k = some d → ∃ v, valV ws k = some v ∧ Rep F v d
  | _, _, .nil, h => by cases h
  | _, _, @Paired.cons _ _ _ p q ws kvs r rs, h => by
    by_cases e : q.1 = k
    · have e' : p.1 = k := r.1.trans e
      refine ⟨p.2, valV_pos e', ?_⟩
      have : lookD (q :: kvs) k = some q.2 := by simp [lookD, List.find?_cons, e]
      rw [this] at h
      cases h
      exact r.2
    · have e' : ¬ p.1 = k := fun z => e (r.1.symm.trans z)
      have : lookD (q :: kvs) k = lookD kvs k := by simp [lookD, List.find?_cons, e]
      rw [this] at h
      obtain ⟨v, h1, h2⟩ := look_pair rs h
      exact ⟨v, by rw [valV_neg e']; exact h1, h2⟩
theorem look_none {κ : Type} [DecidableEq κ] {F : Hp} {k : κ} : ∀ {ws : List (κ × V)} {kvs : List (κ × D)}, Paired (PairD F) ws kvs → lookD kvs k = none → valV ws k = none
  | _, _, .nil, h => rfl
  | _, _, @Paired.cons _ _ _ p q ws kvs r rs, h => by
    by_cases e : q.1 = k
    · have : lookD (q :: kvs) k = some q.2 := by simp [lookD, List.find?_cons, e]
      rw [this] at h
      cases h
    · have e' : ¬ p.1 = k := fun z => e (r.1.symm.trans z)
      have : lookD (q :: kvs) k = lookD kvs k := by simp [lookD, List.find?_cons, e]
      rw [this] at h
      rw [valV_neg e']
      exact look_none rs h
theorem any_pair {κ : Type} [DecidableEq κ] {F : Hp} {k : κ} : ∀ {ws : List (κ × V)} {kvs : List (κ × D)}, Paired (PairD F) ws kvs → (ws.any fun kv => decide (kv.1 = k)) = (kvs.any fun kv => decide (kv.1 = k))
  | _, _, .nil => rfl
  | _, _, .cons r rs => by rw [List.any_cons, List.any_cons, any_pair rs, r.1]
theorem map_pair {κ : Type} [DecidableEq κ] {F : Hp} {k : κ} {v : V} {d : D} (r : Rep F v d) : ∀ {ws : List (κ × V)} {kvs : List (κ × D)}, Paired (PairD F) ws kvs → Paired (PairD F) (ws.map fun kv => if kv.1 = k then (kv.1, v) else kv) (kvs.map fun kv => if kv.1 = k then (kv.1, d) else kv)
  | _, _, .nil => .nil
  | _, _, @Paired.cons _ _ _ p q ws kvs h hs => by
    refine .cons ?_ (map_pair r hs)
    show PairD F (if p.1 = k then (p.1, v) else p) (if q.1 = k then (q.1, d) else q)
    rw [h.1]
    by_cases e : q.1 = k
    · rw [if_pos e, if_pos e]; exact ⟨rfl, r⟩
    · rw [if_neg e, if_neg e]; exact h
theorem paired_snoc {α β : Type} {P : α → β → Prop} {x : α} {y : β} (p : P x y) : ∀ {l : List α} {r : List β}, Paired P l r → Paired P (l ++ [x]) (r ++ [y])
  | _, _, .nil => .cons p .nil
  | _, _, .cons q qs => .cons q (paired_snoc p qs)
theorem put_pair {κ : Type} [DecidableEq κ] {F : Hp} {k : κ} {v : V} {d : D} {ws : List (κ × V)} {kvs : List (κ × D)} (h : Paired (PairD F) ws kvs) (r : Rep F v d) : Paired (PairD F) (putK ws k v) (putD kvs k d) := by
  unfold putK putD
  rw [any_pair h]
  by_cases e : (kvs.any fun kv => decide (kv.1 = k)) = true
  · rw [if_pos e, if_pos e]; exact map_pair r h
  · rw [if_neg e, if_neg e]; exact paired_snoc ⟨rfl, r⟩ h
def keysOf : List D → Option (List Key)
  | [] => some []
  | d :: ds => (keyOf d).bind fun k => (keysOf ds).map fun ks => k :: ks
def keyT : D → Option (List Key)
  | .tup ds => keysOf ds
  | _ => none
theorem keysOf_reps {F : Hp} : ∀ {vs : List V} {ds : List D} {ks : List Key}, Reps F vs ds → keysOf ds = some ks → vs = ks.map kV
  | _, _, _, .nil, h => by cases h; rfl
  | _, _, _, .cons r rs, h => by
    obtain ⟨k, h1, h⟩ := bind_some' h
    obtain ⟨ks, h2, rfl⟩ := map_some' h
    rw [keyOf_rep r h1, keysOf_reps rs h2]
    rfl
theorem keyT_rep {F H : Hp} {v : V} {d : D} {ks : List Key} (sb : Sub F H) (r : Rep F v d) (h : keyT d = some ks) : ∃ b, v = .ref b ∧ H b = some (.tup (ks.map kV)) := by
  cases r with
  | tup e rs => exact ⟨_, rfl, by rw [← keysOf_reps rs h]; exact sb _ _ e⟩
  | non => cases h
  | bl _ => cases h
  | int _ => cases h
  | str _ => cases h
  | lst _ _ => cases h
def readU : U → D → Option D
  | .t (.tup ds), .int i => atI ds i
  | .t (.lst ds), .int i => atI ds i
  | .m (.lst ds), .int i => atI ds i
  | .b (.lst ds), .int i => atI ds i
  | .s ns, .int i => (atI ns i).map D.int
  | .m (.dct kvs), k => (keyOf k).bind (lookD kvs)
  | .b (.dct kvs), k => (keyOf k).bind (lookD kvs)
  | .m (.dtt kvs), k => (keyT k).bind (lookD kvs)
  | .b (.dtt kvs), k => (keyT k).bind (lookD kvs)
  | _, _ => none
def eSub (i : Nat) (gb : GD) : GD := fun S => match S[i]? with
  | some (some _) => (gb S).bind fun p => match p.2[i]? with
    | some (some u) => (readU u p.1).map fun d => (d, p.2)
    | _ => none
  | _ => none
theorem atI_map {α β : Type} (f : α → β) {l : List α} {i : Int} {x : α} (h : atI l i = some x) : atI (l.map f) i = some (f x) := by
  unfold atI at h ⊢
  rw [List.length_map]
  obtain ⟨j, h1, h2⟩ := bind_some' h
  rw [h1]
  show (l.map f)[j]? = _
  rw [List.getElem?_map, h2]
  rfl
section
variable {X : Cx} {a b c e value : Expr} {es : List Expr} {pos p p2 px pos' : Pos} {x y : Str} {g ga gb gc gk gv : GD} {gA : GA}
theorem jd_sub {i : Nat} (hu : X.A.units + 1 < cLine) (hb : JD X b gb) (hs : PlainIx b := by first | (intro _ _; rfl)) (hN : X.N[i]? = some x := by rfl) (hv : Vis X.env.scope x := by first | exact Or.inl rfl | exact Or.inr (Or.inl rfl) | exact Or.inr (Or.inr rfl))
    (hd : (x == ("__debug__" : Str)) = false := by decide) (hcd : (x == ("__classdict__" : Str)) = false := by decide) : JD X (.Subscript (.Name x px) b pos) (eSub i gb) := ⟨fun B => PE.orelse fun σ H Q ⟨S, F, d, S', R, hg, q⟩ => by
  unfold eSub at hg
  split at hg
  · rename_i u0 hS0
    obtain ⟨v0, hv0, _⟩ := R.rep i u0 hS0
    obtain ⟨⟨k, S1⟩, h1, hg⟩ := bind_some' hg
    dsimp only at hg
    split at hg
    · rename_i u hS
      obtain ⟨d', hr, hg⟩ := map_some' hg
      cases hg
      have at1 : ∀ F1 H1, Rel X.K B S' σ F1 H1 → RepU X.K F1 H1 v0 u := fun F1 H1 R1 => by
        obtain ⟨v, k1, k2⟩ := R1.rep i u hS
        rw [hv0] at k1
        cases k1
        exact k2
      have seq : ∀ (Y : V → V → Hp → VK → Prop), PE X (.Subscript (.Name x px) b pos) (tOp Y (tVar i) (tD X.K B gb)) → (∀ v F1 H1, Rel X.K B S' σ F1 H1 → Step S S' σ F H F1 H1 → Rep F1 v k → Y v0 v H1 Q) → ∃ t', PE X (.Subscript (.Name x px) b pos) t' ∧ t' σ H Q := fun Y hY h =>
        ⟨_, hY, v0, hv0, S, F, k, S', R, h1, fun v F1 H1 R1 st1 r1 => h v F1 H1 R1 st1 r1⟩
      have dict : ∀ kvs, (∀ F1 H1, Rel X.K B S' σ F1 H1 → ∃ a ws, v0 = .ref a ∧ H1 a = some (.dK ws) ∧ Paired (PairD F1) ws kvs) → (keyOf k).bind (lookD kvs) = some d → ∃ t', PE X (.Subscript (.Name x px) b pos) t' ∧ t' σ H Q := fun kvs hat hr => by
        obtain ⟨kk, e1, e2⟩ := bind_some' hr
        refine ⟨_, pe_dget hu (pe_var hN hv hd hcd) (hb.h B) hs, v0, hv0, S, F, k, S', R, h1, fun v F1 H1 R1 st1 r1 => ?_⟩
        obtain ⟨a, ws, rfl, ha, pr⟩ := hat F1 H1 R1
        obtain ⟨w', z1, z2⟩ := look_pair pr e2
        rw [keyOf_rep r1 e1]
        exact ⟨a, w', rfl, by rw [← z1]; exact DGet.k ha, q w' F1 H1 R1 st1 z2⟩
      have dictT : ∀ kvs, (∀ F1 H1, Rel X.K B S' σ F1 H1 → ∃ a ws, v0 = .ref a ∧ H1 a = some (.dT ws) ∧ Paired (PairD F1) ws kvs) → (keyT k).bind (lookD kvs) = some d → ∃ t', PE X (.Subscript (.Name x px) b pos) t' ∧ t' σ H Q := fun kvs hat hr => by
        obtain ⟨kk, e1, e2⟩ := bind_some' hr
        refine ⟨_, pe_dget hu (pe_var hN hv hd hcd) (hb.h B) hs, v0, hv0, S, F, k, S', R, h1, fun v F1 H1 R1 st1 r1 => ?_⟩
        obtain ⟨a, ws, rfl, ha, pr⟩ := hat F1 H1 R1
        obtain ⟨w', z1, z2⟩ := look_pair pr e2
        obtain ⟨b', rfl, hb'⟩ := keyT_rep R1.sub r1 e1
        exact ⟨a, w', rfl, by rw [← z1]; exact DGet.t ha hb', q w' F1 H1 R1 st1 z2⟩
      have list : ∀ ds ii, k = .int ii → atI ds ii = some d → (∀ F1 H1, Rel X.K B S' σ F1 H1 → ∃ a vs, v0 = .ref a ∧ (SqL X.K H1 a vs ∨ SqT X.K H1 a vs) ∧ Reps F1 vs ds) → ∃ t', PE X (.Subscript (.Name x px) b pos) t' ∧ t' σ H Q := fun ds ii ek hrr hat => by
        subst ek
        refine seq _ (pe_ix ix_seq (pe_var hN hv hd hcd) (hb.h B) hs) fun v F1 H1 R1 st1 r1 => ?_
        obtain ⟨a, vs, rfl, ha, rs⟩ := hat F1 H1 R1
        obtain ⟨w', z1, z2⟩ := rs.atI hrr
        rw [rep_int r1]
        rcases ha with ha | ha
        · exact .inl ⟨a, vs, ii, w', rfl, rfl, ha, z1, q w' F1 H1 R1 st1 z2⟩
        · exact .inr (.inl ⟨a, vs, ii, w', rfl, rfl, ha, z1, q w' F1 H1 R1 st1 z2⟩)
      unfold readU at hr
      split at hr
      · rename_i ds ii
        exact list ds ii rfl hr fun F1 H1 R1 => let ⟨a, vs, e1, fa, ha, rs⟩ := R1.sub.tupAt (at1 F1 H1 R1); ⟨a, vs, e1, .inr (.inl ha), rs⟩
      · rename_i ds ii
        exact list ds ii rfl hr fun F1 H1 R1 => let ⟨a, vs, e1, fa, ha, rs⟩ := R1.sub.lstAt (at1 F1 H1 R1); ⟨a, vs, e1, .inl (.inl ha), rs⟩
      · rename_i ds ii
        exact list ds ii rfl hr fun F1 H1 R1 => let ⟨a, e1, fa, vs, ha, rs⟩ := at1 F1 H1 R1; ⟨a, vs, e1, .inl (SqL.of ha), rs⟩
      · rename_i ds ii
        exact list ds ii rfl hr fun F1 H1 R1 => let ⟨a, e1, fa, vs, ha, rs⟩ := at1 F1 H1 R1; ⟨a, vs, e1, .inl (SqL.of ha), rs⟩
      · rename_i ns ii
        obtain ⟨n, z1, z2⟩ := map_some' hr
        subst z2
        refine seq _ (pe_ix ix_seq (pe_var hN hv hd hcd) (hb.h B) hs) fun v F1 H1 R1 st1 r1 => ?_
        obtain ⟨a, e1, ha⟩ := at1 F1 H1 R1
        rw [rep_int r1]
        exact .inl ⟨a, ns.map V.int, ii, .int n, e1, rfl, ha.sq, atI_map V.int z1, q _ F1 H1 R1 st1 (.int n)⟩
      · rename_i kvs
        exact dict kvs (fun F1 H1 R1 => let ⟨a, e1, fa, ws, ha, pr⟩ := at1 F1 H1 R1; ⟨a, ws, e1, ha, pr⟩) hr
      · rename_i kvs
        exact dict kvs (fun F1 H1 R1 => let ⟨a, e1, fa, ws, ha, pr⟩ := at1 F1 H1 R1; ⟨a, ws, e1, ha, pr⟩) hr
      · rename_i kvs
        exact dictT kvs (fun F1 H1 R1 => let ⟨a, e1, fa, ws, ha, pr⟩ := at1 F1 H1 R1; ⟨a, ws, e1, ha, pr⟩) hr
      · rename_i kvs
        exact dictT kvs (fun F1 H1 R1 => let ⟨a, e1, fa, ws, ha, pr⟩ := at1 F1 H1 R1; ⟨a, ws, e1, ha, pr⟩) hr
      · cases hr
    · cases hg
  · cases hg⟩
def lenU : U → Option Nat
  | .t (.tup ds) => some ds.length
  | .t (.lst ds) => some ds.length
  | .t (.str z) => if z.length ≤ 100000 then some z.length else none
  | .m (.lst ds) => some ds.length
  | .b (.lst ds) => some ds.length
  | .m (.dct ds) => some ds.length
  | .b (.dct ds) => some ds.length
  | .s ns => some ns.length
  | _ => none
def eLen (i : Nat) : GD := fun S => match S[i]? with
  | some (some u) => (lenU u).map fun n => (.int (n : Nat), S)
  | _ => none
theorem paired_length {α β : Type} {P : α → β → Prop} : ∀ {l : List α} {r : List β}, Paired P l r → l.length = r.length
  | _, _, .nil => rfl
  | _, _, .cons _ ps => congrArg Nat.succ (paired_length ps)
theorem jd_len {i : Nat} (hg : Gl X "len") (hm : X.mg "len" = none) (hN : X.N[i]? = some x := by rfl) (hv : Vis X.env.scope x := by first | exact Or.inl rfl | exact Or.inr (Or.inl rfl) | exact Or.inr (Or.inr rfl))
    (hd : (x == ("__debug__" : Str)) = false := by decide) (hcd : (x == ("__classdict__" : Str)) = false := by decide) (he : starEach [.Name x px] X.env = (false, eval (.Name x px) X.env) :: starEach [] X.env := by rfl) (hpl : (backTo pos (starEach [] X.env)).any (·.1) = false := by rfl) :
    JD X (.Call (.Name "len" p) [.Name x px] [] pos) (eLen i) := ⟨fun B => PE.orelse fun σ H Q ⟨S, F, d, S', R, hg', q⟩ => by
  unfold eLen at hg'
  split at hg'
  · rename_i u hS
    obtain ⟨n, hn, hg'⟩ := map_some' hg'
    cases hg'
    obtain ⟨v0, hv0, r0⟩ := R.rep i u hS
    have fin := q (.int n) F H R (Step.refl ..) (.int _)
    have arg : PA X [.Name x px] (tCons (tVar i) tNil) := pa_cons (pe_var hN hv hd hcd) pa_nil he
    have list : ∀ a vs, v0 = .ref a → (SqL X.K H a vs ∨ SqT X.K H a vs) → vs.length = n → ∃ t', PE X (.Call (.Name "len" p) [.Name x px] [] pos) t' ∧ t' σ H Q := fun a vs e1 ha hl =>
      ⟨_, pe_callB call_len_seq hg hm PySem.boot_len arg (by decide) (by decide) he hpl, v0, hv0, a, vs, by rw [e1], ha, by rw [hl]; exact fin⟩
    have dict : ∀ a ws, v0 = .ref a → H a = some (.dK ws) → ws.length = n → ∃ t', PE X (.Call (.Name "len" p) [.Name x px] [] pos) t' ∧ t' σ H Q := fun a vs e1 ha hl =>
      ⟨_, pe_callB call_lenD hg hm PySem.boot_len arg (by decide) (by decide) he hpl, v0, hv0, a, vs, by rw [e1], ha, by rw [hl]; exact fin⟩
    unfold lenU at hn
    split at hn
    · cases hn; obtain ⟨a, vs, e1, fa, ha, rs⟩ := R.sub.tupAt r0; exact list a vs e1 (.inr (.inl ha)) rs.length
    · cases hn; obtain ⟨a, vs, e1, fa, ha, rs⟩ := R.sub.lstAt r0; exact list a vs e1 (.inl (.inl ha)) rs.length
    · rename_i z
      obtain ⟨hl, rfl⟩ := ite_some hn
      exact ⟨_, pe_callB call_len_str hg hm PySem.boot_len arg (by decide) (by decide) he hpl, v0, hv0, z, by rw [rep_str r0], line_of hl, fin⟩
    · cases hn; obtain ⟨a, e1, fa, vs, ha, rs⟩ := r0; exact list a vs e1 (.inl (SqL.of ha)) rs.length
    · cases hn; obtain ⟨a, e1, fa, vs, ha, rs⟩ := r0; exact list a vs e1 (.inl (SqL.of ha)) rs.length
    · cases hn; obtain ⟨a, e1, fa, ws, ha, pr⟩ := r0; exact dict a ws e1 ha (paired_length pr)
    · cases hn; obtain ⟨a, e1, fa, ws, ha, pr⟩ := r0; exact dict a ws e1 ha (paired_length pr)
    · cases hn; obtain ⟨a, e1, ha⟩ := r0; exact list a _ e1 (.inl ha.sq) (by simp)
    · cases hn
  · cases hg'⟩
end
end L2

end
section
set_option Elab.async false
set_option linter.all false
set_option maxRecDepth 100000
namespace L2
open PySem PySem.Spec PyProof.Rows
def writeU (o : MO) (k d : D) : Option MO := match o with
  | .dct kvs => (keyOf k).bind fun kk => if kvs.length < 100000 then some (.dct (putD kvs kk d)) else none
  | .dtt kvs => (keyT k).bind fun kk => if kvs.length < 100000 then some (.dtt (putD kvs kk d)) else none
  | .lst ds => match k with
    | .int i => (ixN ds.length i).map fun j => .lst (ds.set j d)
    | _ => none
def sPut (i : Nat) (gk gv : GD) : GS := fun S => (gv S).bind fun p => match p.2[i]? with
  | some (some _) => (gk p.2).bind fun r => (mutU r.2 i fun o => (writeU o r.1 p.1).map fun o' => (.non, o')).map fun z => .nx z.2
  | _ => none
theorem Reps.set {F : Hp} {v : V} {d : D} (r : Rep F v d) : ∀ {vs : List V} {ds : List D} (j : Nat), Reps F vs ds → Reps F (vs.set j v) (ds.set j d)
  | _, _, _, .nil => .nil
  | _, _, 0, .cons _ rs => .cons r rs
  | _, _, j + 1, .cons q rs => .cons q (Reps.set r j rs)
section
variable {X : Cx} {a b c e value k : Expr} {es : List Expr} {pos p p2 px pos' : Pos} {x y : Str} {g ga gb gc gk gv : GD} {gA : GA}
theorem js_put {i : Nat} (hu : X.A.units + 1 < cLine) (hk : JD X k gk) (hval : JD X value gv) (hN : X.N[i]? = some x := by rfl) (hv : Vis X.env.scope x := by first | exact Or.inl rfl | exact Or.inr (Or.inl rfl) | exact Or.inr (Or.inr rfl))
    (hd : (x == ("__debug__" : Str)) = false := by decide) (hcd : (x == ("__classdict__" : Str)) = false := by decide)
    (hs : swapsWith value (some (.Subscript (.Name x px) k pos')) pos.line X.env = pure false := by rfl)
    (hs1 : swapsWithSole [.Subscript (.Name x px) k pos'] value pos.line X.env = pure false := by rfl) (hs2 : swappedStores [.Subscript (.Name x px) k pos'] value X.env = pure none := by rfl)
    (hs3 : (assignEach [.Subscript (.Name x px) k pos'] X.env).map (·.2) = [assign (.Subscript (.Name x px) k pos') X.env] := by rfl)
    (hs4 : ∀ v, assign (.Subscript (.Name x px) k pos') X.env v = (do
      let ov ← holding [v] (eval (.Name x px) X.env)
      let iv ← holding [v, ov] (eval k X.env)
      standAt pos'
      holding [v, ov, iv] (setItem ov iv v)
      release [v, ov, iv] []) := by intro _; rfl) :
    JS X (.Assign [.Subscript (.Name x px) k pos'] value pos) (sPut i gk gv) := ⟨fun B => PS.orelse fun D σ H ⟨S, F, o, R, hg, q⟩ => by
  obtain ⟨⟨d, S1⟩, h1, hg⟩ := bind_some' hg
  dsimp only at hg
  split at hg
  · rename_i u0 hS0
    obtain ⟨⟨kd, S2⟩, h2, hg⟩ := bind_some' hg
    obtain ⟨⟨nd, S3⟩, h3, hg⟩ := map_some' hg
    subst hg
    obtain ⟨u, u', mo, mo', hS, hmu, hio, hf, hre, rfl⟩ := mutU_some h3
    obtain ⟨mo2, hw, hf2⟩ := map_some' hf
    cases hf2
    have hv0 : ∀ F1 H1, Rel X.K B S1 σ F1 H1 → ∃ v, σ[i]? = some (some v) := fun F1 H1 R1 => let ⟨v, k1, _⟩ := R1.rep i u0 hS0; ⟨v, k1⟩
    cases mo with
    | dct kvs =>
      obtain ⟨kk, e1, hw⟩ := bind_some' hw
      obtain ⟨hl, rfl⟩ := ite_some hw
      refine ⟨_, ps_dput hu (pe_var hN hv hd hcd) (hk.h B) (hval.h B) hs, S, F, d, S1, R, h1, fun v F1 H1 R1 st1 r1 => ?_⟩
      obtain ⟨v0, hv0⟩ := hv0 F1 H1 R1
      refine ⟨v0, hv0, S1, F1, kd, S2, R1, h2, fun y F2 H2 R2 st2 r2 => ?_⟩
      obtain ⟨v', k1, k2⟩ := R2.rep i u hS
      rw [hv0] at k1
      cases k1
      obtain ⟨a, o2, rfl, fa, eo, k3⟩ := k2.mutAt hmu
      rw [hio] at eo
      cases eo
      obtain ⟨ws, ha, pr⟩ := k3
      rw [keyOf_rep r2 e1]
      refine ⟨a, _, rfl, DPut.k ha (by rw [paired_length pr]; exact Nat.lt_of_lt_of_le hl (by decide)), ?_⟩
      obtain ⟨R3, st3⟩ := R2.write (ho := .dK (putK ws kk v)) hS hre hv0 ⟨_, upd_same, put_pair pr (r1.le st2.ext.le)⟩
      exact q σ F2 _ R3 fun b o z => st2.ext.le b o (st1.ext.le b o z)
    | dtt kvs =>
      obtain ⟨kk, e1, hw⟩ := bind_some' hw
      obtain ⟨hl, rfl⟩ := ite_some hw
      refine ⟨_, ps_dput hu (pe_var hN hv hd hcd) (hk.h B) (hval.h B) hs, S, F, d, S1, R, h1, fun v F1 H1 R1 st1 r1 => ?_⟩
      obtain ⟨v0, hv0⟩ := hv0 F1 H1 R1
      refine ⟨v0, hv0, S1, F1, kd, S2, R1, h2, fun y F2 H2 R2 st2 r2 => ?_⟩
      obtain ⟨v', k1, k2⟩ := R2.rep i u hS
      rw [hv0] at k1
      cases k1
      obtain ⟨a, o2, rfl, fa, eo, k3⟩ := k2.mutAt hmu
      rw [hio] at eo
      cases eo
      obtain ⟨ws, ha, pr⟩ := k3
      obtain ⟨b', rfl, hb'⟩ := keyT_rep R2.sub r2 e1
      refine ⟨a, _, rfl, DPut.t ha hb' (by rw [paired_length pr]; exact Nat.lt_of_lt_of_le hl (by decide)), ?_⟩
      obtain ⟨R3, st3⟩ := R2.write (ho := .dT (putK ws kk v)) hS hre hv0 ⟨_, upd_same, put_pair pr (r1.le st2.ext.le)⟩
      exact q σ F2 _ R3 fun b o z => st2.ext.le b o (st1.ext.le b o z)
    | lst ds =>
      unfold writeU at hw
      dsimp only at hw
      split at hw
      · rename_i ii
        obtain ⟨j, e1, rfl⟩ := map_some' hw
        refine ⟨_, ps_asg (hval.h B) (pg_sub (pe_var hN hv hd hcd) (hk.h B) set_list hs4) hs1 hs2 hs3, S, F, d, S1, R, h1, fun v F1 H1 R1 st1 r1 => ?_⟩
        obtain ⟨v0, hv0⟩ := hv0 F1 H1 R1
        refine ⟨v0, hv0, S1, F1, _, S2, R1, h2, fun y F2 H2 R2 st2 r2 => ?_⟩
        obtain ⟨v', k1, k2⟩ := R2.rep i u hS
        rw [hv0] at k1
        cases k1
        obtain ⟨a, o2, rfl, fa, eo, k3⟩ := k2.mutAt hmu
        rw [hio] at eo
        cases eo
        obtain ⟨vs, ha, rs⟩ := k3
        rw [rep_int r2]
        refine ⟨a, vs, _, j, rfl, rfl, ha, by rw [rs.length]; exact e1, ?_⟩
        obtain ⟨R3, st3⟩ := R2.write (ho := .lst (vs.set j v)) hS hre hv0 ⟨_, upd_same, rs.set (r1.le st2.ext.le) j⟩
        exact q σ F2 _ R3 fun b o z => st2.ext.le b o (st1.ext.le b o z)
      · cases hw
  · cases hg⟩
theorem Rel.poke {K : PySem.W.Frag} {B : Base} {S : SS} {σ : St} {F H : Hp} {a : Addr} {o o' : HO} (R : Rel K B S σ F H) (hn : ¬ mutAt S σ a) (hf : F a = none) (hB : B.H a = none) (hh : H a = some o) (hz : ∀ ob u, o ≠ .frz ob u) : Rel K B S σ F (upd H a o') := by
  have kfz : ∀ b ob w, H b = some (.frz ob w) → upd H a o' b = some (.frz ob w) := fun b ob w z => by
    rw [upd_ne (fun e => by rw [e, hh] at z; cases z; exact hz _ _ rfl)]; exact z
  refine ⟨fun b u z => ?_, R.len, fun j w z => ?_, R.dis, R.own, R.bor, R.par, ⟨R.ext.le, fun b u z n => ?_, R.ext.nofr, fun b u z => ?_, fun b ob w z => kfz b ob w (R.ext.frz b ob w z)⟩⟩
  · have hb : b ≠ a := fun e => by rw [e, hf] at z; cases z
    rw [upd_ne hb]; exact R.sub b u z
  · obtain ⟨v, h1, h2⟩ := R.rep j w z
    refine ⟨v, h1, h2.le (fun _ _ z => z) kfz fun c hm hc => ?_⟩
    have hca : c ≠ a := fun e => hn ⟨j, w, z, hm, by rw [h1, hc, e]⟩
    obtain ⟨c', _, e, f, _⟩ := h2.mutAt hm
    rw [hc] at e
    cases e
    exact ⟨fun o z => by rw [upd_ne hca]; exact z, f⟩
  · rw [upd_ne (fun e => by rw [e, hB] at z; cases z)]; exact R.ext.keep b u z n
  · by_cases hb : b = a
    · exact ⟨o', by rw [hb, upd_same]⟩
    · rw [upd_ne hb]; exact R.ext.there b u z
def ePairs : List (Str × GD) → SS → Option (List (Key × D) × SS)
  | [], S => some ([], S)
  | (z, g) :: r, S => (g S).bind fun p => (ePairs r p.2).map fun q => ((.inr z, p.1) :: q.1, q.2)
def mergeD (kvs more : List (Key × D)) : List (Key × D) := more.foldl (fun acc kv => putD acc kv.1 kv.2) kvs
def eDict (kgs : List (Str × GD)) : GE := fun S => (ePairs kgs S).map fun p => (.m (.dct (mergeD [] p.1)), p.2)
structure JPs (X : Cx) (pos : Pos) (keys : List (Option Expr)) (values : List Expr) (kgs : List (Str × GD)) : Prop where
  h : ∀ B, PPs X pos keys values (kgs.map fun p => (tC (.str p.1), tD X.K B p.2))
end
end L2

end
section
set_option Elab.async false
set_option linter.all false
set_option maxRecDepth 100000
namespace L2
open PySem PySem.Spec PyProof.Rows
def oPart (g : Option GD) (S : SS) : Option (Option Int × SS) := match g with
  | none => some (none, S)
  | some g => (g S).bind fun p => match p.1 with
    | .int i => some (some i, p.2)
    | _ => none
def tPO (K : PySem.W.Frag) (B : Base) (g : Option GD) : TO := fun σ H Q => ∃ S F o S', Rel K B S σ F H ∧ oPart g S = some (o, S') ∧ ∀ F' H', Rel K B S' σ F' H' → Step S S' σ F H F' H' → Q o H'
structure JO (X : Cx) (e : Option Expr) (g : Option GD) : Prop where
  h : ∀ B, PO X e (tPO X.K B g)
theorem PO.imp {X : Cx} {e : Option Expr} {t t' : TO} (h : PO X e t) (k : ∀ σ H Q, t' σ H Q → t σ H Q) : PO X e t' := fun pins s σ H Q I q => h pins s σ H Q I (k σ H Q q)
def fSl (d : D) (lo hi : Option Int) : Option U := match d with
  | .tup ds => some (.t (.tup (cutD ds lo hi)))
  | .lst ds => some (.m (.lst (cutD ds lo hi)))
  | .str z => if z.length ≤ 100000 then some (.t (.str (Txt.slice z lo hi))) else none
  | _ => none
theorem Reps.cut {F : Hp} {vs : List V} {ds : List D} (rs : Reps F vs ds) (lo hi : Option Int) : Reps F (cutV vs lo hi) (cutD ds lo hi) := by
  unfold cutV cutD
  rw [rs.length]
  exact (rs.drop _).take _
def eSl (g : GD) (lo hi : Option GD) : GE := fun S => (g S).bind fun p => (oPart lo p.2).bind fun l => (oPart hi l.2).bind fun h => (fSl p.1 l.1 h.1).map fun u => (u, h.2)
section
variable {X : Cx} {a b c e : Expr} {lo hi : Option Expr} {pos p p2 px : Pos} {x y : Str} {g ga : GD} {gA : GA} {gl gh : Option GD}
def okR (d : D) : Prop := (toPy d).showable = true ∧ (toPy d).depth ≤ 20 ∧ (toPy d).shown.length ≤ sizeLine
instance (d : D) : Decidable (okR d) := by unfold okR; infer_instance
def fRepr : List D → Option U
  | [d] => if okR d then some (.t (.str (toPy d).shown)) else none
  | _ => none
mutual
theorem Rep.readsF {pins : List (Addr × Obj)} {σ : St} {F H : Hp} {s : Shared} (I : Inv X pins σ H s) (sb : Sub F H) : ∀ {v : V} {d : D} {u : Value}, Rep F v d → RelV v u → ∃ as, Reads s.heap u (toPy d) as
  | _, _, _, .non, r => by cases r; exact ⟨[], .none⟩
  | _, _, _, .bl b, r => by cases r; exact ⟨[], .bool b⟩
  | _, _, _, .int i, r => by obtain ⟨t, rfl⟩ := r; exact ⟨[], .int i t⟩
  | _, _, _, .str z, r => by obtain ⟨t, rfl⟩ := r; exact ⟨[], .str z t⟩
  | _, _, _, .tup e rs, r => by
    cases r
    obtain ⟨its, rv, p⟩ := sb.isTup I e
    obtain ⟨as, h⟩ := Reps.readsF I sb rs rv
    obtain ⟨o, ho, hc, n, hd⟩ := p
    exact ⟨as, .tuple ho hc hd (by simpa using h)⟩
  | _, _, _, .lst e rs, r => by
    cases r
    obtain ⟨its, rv, p⟩ := sb.isLst I e
    obtain ⟨as, h⟩ := Reps.readsF I sb rs rv
    obtain ⟨o, ho, hc, n, hd⟩ := p
    exact ⟨_ :: as, .list ho hc hd (by simpa using h)⟩
theorem Reps.readsF {pins : List (Addr × Obj)} {σ : St} {F H : Hp} {s : Shared} (I : Inv X pins σ H s) (sb : Sub F H) : ∀ {vs : List V} {ds : List D} {us : List Value}, Reps F vs ds → Vals vs us → ∃ as, ReadsAll s.heap us (toPys ds) as
  | _, _, _, .nil, r => by cases r; exact ⟨[], .nil⟩
  | _, _, _, .cons q qs, r => by
    cases r with
    | cons r rs =>
      obtain ⟨as, h⟩ := Rep.readsF I sb q r
      obtain ⟨bs, k⟩ := Reps.readsF I sb qs rs
      exact ⟨as ++ bs, .cons h k⟩
end
theorem call_reprP (hg : X.A.guards = some []) (hu : X.A.units + 64 < cLine) : CallR X (.builtin "repr") (rP fRepr) := by
  intro pins s σ H xs us Q I r ⟨F, ds, w, sb, rs, hw, q⟩
  obtain ⟨x, d, rfl, rfl, r1⟩ := one_arg (P := fun _ => True) rs hw rfl (fun d _ _ => rfl)
  obtain ⟨hok, rfl⟩ := ite_some (show (if okR d then some (U.t (.str (toPy d).shown)) else none) = some w from hw)
  have fin := q (.str (toPy d).shown) F H (New.refl ..) sb (.str _)
  obtain ⟨u, rfl, ru⟩ := vals1 r
  obtain ⟨h1, h2, h3⟩ := hok
  have seq : ∀ a, x = .ref a → wpAny (model X.prog X.w) X.A (call (.builtin "repr") [u]) (EP X pins σ Q) X.xe s := fun a e1 => by
    subst e1
    cases ru
    obtain ⟨as, hr⟩ := Rep.readsF I sb r1 (u := .ref a) rfl
    exact repr_of_reads' hr h1 (fun z => by rw [toPy_noDict] at z; cases z) hg (by omega) (fun _ _ e => e) (fun h' u tk hk => ⟨.str _, H, I.kept (t' := tk) hk, ⟨u, rfl⟩, fin⟩) h3
  cases r1 with
  | non => cases ru; exact PySem.P.repr_of_none ⟨.str _, H, I.tok _, ⟨_, rfl⟩, fin⟩
  | bl b => cases ru; exact PySem.P.repr_of_bool ⟨.str _, H, I.tok _, ⟨_, rfl⟩, fin⟩
  | int i => obtain ⟨t, rfl⟩ := ru; exact PySem.P.repr_of_int (by simpa [toPy, PyData.showable] using h1) ⟨.str _, H, I.tok _, ⟨_, rfl⟩, fin⟩
  | str z => obtain ⟨t, rfl⟩ := ru; exact PySem.P.repr_of_str ⟨.str _, H, I.tok _, ⟨_, rfl⟩, fin⟩ h3
  | tup e rs => exact seq _ rfl
  | lst e rs => exact seq _ rfl
end
end L2

end
section
set_option Elab.async false
set_option linter.all false
set_option maxRecDepth 100000
namespace L2
open PySem PySem.Spec PyProof.Rows
theorem comp_cap {X : Cx} {x y : Str} {scope : Scope} {c : Addr} {i : Nat} (clos : closureFor scope X.env = pure [(y, c)]) (nocell : ∀ z ∈ scope.names, z.2 ≠ .cell) (kind : scope.kind = .function) (names : ∀ z ∈ scope.names, z.2 = .local → scope.names.lookup z.1 = some .local)
    (loc : scope.names.lookup x = some .local) (hc : X.env.cells.lookup y = some c) (only : ∀ z ∈ scope.names, z.2 = .free → z.1 = y) (ne : x ≠ y) (hN : X.N[i]? = some y) (vis : X.env.scope.names.lookup y = some .cell) (rel : (relabel scope X.env).names.lookup y = some .cell) :
    CompTxt X x [y] [i] scope [(y, c)] := by
  have look : ∀ n c', ([(y, c)] : List (Str × Addr)).lookup n = some c' → n = y ∧ c' = c := fun n c' h => by
    rw [List.lookup_cons] at h
    cases e : n == y with
    | true => rw [e] at h; cases h; exact ⟨eq_of_beq e, rfl⟩
    | false => rw [e] at h; cases h
  have self : ([(y, c)] : List (Str × Addr)).lookup y = some c := by rw [List.lookup_cons, beq_self_eq_true]
  refine ⟨clos, nocell, kind, names, loc, fun n c' h => ?_, fun n h => ?_, ?_, rfl, fun j n h => ?_, fun n h => ?_⟩
  · obtain ⟨rfl, rfl⟩ := look n c' h
    exact hc
  · have key : n = y := by
      have go : ∀ k, (k = NameKind.cell ∨ k = NameKind.free) → (relabel scope X.env).names.lookup n = some k → n = y := fun k hk e => by
        have m := PySem.mem_of_lookup e
        unfold relabel at m
        obtain ⟨⟨n', k'⟩, hm, q⟩ := List.mem_map.mp m
        by_cases hf : k' = .free
        · have h0 : n' = y := only _ hm hf
          have e1 : n' = n := by
            have h1 := congrArg Prod.fst q
            dsimp only at h1
            split at h1 <;> exact h1
          exact e1.symm.trans h0
        · have z : (k' == NameKind.free) = false := by simpa using hf
          simp only [z, Bool.false_and] at q
          have q2 : k' = k := by
            have := congrArg Prod.snd q
            simpa using this
          rcases hk with rfl | rfl
          · exact absurd q2 (nocell _ hm)
          · exact absurd q2 hf
      rcases h with h | h
      · exact go _ (.inl rfl) h
      · exact go _ (.inr rfl) h
    subst key
    exact ⟨c, self⟩
  · simp [ne]
  · cases j with
    | zero => cases h; exact ⟨i, rfl, hN, .inr (.inl vis)⟩
    | succ j => simp at h
  · have e : n = y := by simpa using h
    subst e
    exact ⟨.inl rel, ⟨c, self⟩, by rw [vis]; decide⟩
end L2

end
section
set_option Elab.async false
set_option linter.all false
set_option maxRecDepth 100000
namespace L2
open PySem PySem.Spec PyProof.Rows
section
variable {X : Cx} {a b c e : Expr} {es : List Expr} {pos p p2 px : Pos} {x y : Str} {f : FM} {fa : Addr} {fd : FuncData} {ps : List Str} {k n : Nat}
theorem hd_append (a : List D) (o : MO) (h : isLst o = false) : hAppend a o = none := by
  cases o with
  | lst ds => cases h
  | dct k => unfold hAppend; split <;> first | rfl | (rename_i e; cases e)
  | dtt k => unfold hAppend; split <;> first | rfl | (rename_i e; cases e)
end
end L2

end
section
set_option Elab.async false
set_option linter.all false
set_option maxRecDepth 100000
namespace L2
open PySem PySem.Spec PyProof.Rows
def intsD : List D → Option (List Int)
  | [] => some []
  | .int b :: ds => (intsD ds).map fun bs => b :: bs
  | _ => none
def fSum : List D → Option U
  | [.lst ds] => (intsD ds).map fun bs => .t (.int (preSum (fun i => bs.getD i 0) bs.length))
  | _ => none
section
variable {X : Cx}
end
end L2

end
section
set_option Elab.async false
set_option linter.all false
set_option maxRecDepth 100000
namespace L2
open PySem PySem.Spec PyProof.Rows
def metS (val : Nat → Str) (i : Nat) : List Str := ((List.range i).map val).foldl step_dedup []
theorem metS_succ (val : Nat → Str) (i : Nat) : metS val (i + 1) = step_dedup (metS val i) (val i) := by
  unfold metS; rw [List.range_succ, List.map_append, List.foldl_append]; rfl
theorem metS_le (val : Nat → Str) (i : Nat) : (metS val i).length ≤ i := by
  have := foldl_step_dedup_nil_length_le ((List.range i).map val)
  simpa [metS] using this
theorem dd_any (l : List Str) (v k : Str) : (step_dedup l v).any (· == k) = (l.any (· == k) || decide (k = v)) := by
  unfold step_dedup
  split
  · rename_i h
    by_cases e : k = v
    · subst e; simp [h]
    · simp [e]
  · rw [List.any_append]
    have : (List.any [v] fun x => x == k) = decide (k = v) := by
      by_cases e : k = v
      · subst e; simp
      · simp [e]; exact fun z => e z.symm
    rw [this]
theorem dd_len (l : List Str) (v : Str) : (step_dedup l v).length = if l.any (· == v) then l.length else l.length + 1 := by
  unfold step_dedup; split <;> simp
section
variable {prog : Program} {w : World} {A : Around} {R : Result → Shared → Prop} {I : Addr} {fp wr : List Addr} {G : Array GenState → Array GenState → Prop} {n : Nat} {P : Nat → Value → Prop} {St : Nat → Shared → Prop}
theorem set_loopT (W : WalksS prog w A.in1 I fp wr G n P St) (S : Addr) (hSf : S ∉ fp) (val : Nat → Str) (hval : ∀ i v, P i v → ∃ t, v = .str (val i) t) (hb : n + 1 < scanBound) :
    ∀ (k i : Nat) (s : Shared), n - i = k → i ≤ n → St i s → s.heap.SetOf (strKind prog w) S (fun z => (metS val i).any (· == z)) (metS val i).length →
      (∀ s', Moved (S :: wr) G s s' → s'.heap.SetOf (strKind prog w) S (fun z => (metS val n).any (· == z)) (metS val n).length → R (.ok (.ret .none)) s') →
      codeAny (model prog w) A (.builtin "set.update.loop" ⟨[.ref S, .ref I], []⟩) R s := by
  have hSw : S ∉ wr := fun h => hSf (W.sub _ h)
  have hsub : ∀ b ∈ wr, b ∈ S :: wr := fun b hb => List.mem_cons_of_mem _ hb
  have keep : ∀ {i : Nat} {s s' : Shared}, Moved wr G s s' → s.heap.SetOf (strKind prog w) S (fun z => (metS val i).any (· == z)) (metS val i).length → s'.heap.SetOf (strKind prog w) S (fun z => (metS val i).any (· == z)) (metS val i).length :=
    fun hm ⟨o, es, ep, t, ho, rest⟩ => ⟨o, es, ep, t, hm.heap S _ hSw ho, rest⟩
  intro k
  induction k with
  | zero =>
    intro i s hk hi hst hS hR
    obtain rfl : i = n := by omega
    refine codeAny_builtin F.entry_set_update_loop ?_
    rw [Around.under_plainId F.plain_set_update_loop _]
    show wpAny _ A.in1 (pyNext (.ref I) >>= _) _ _ s
    refine wpAny_bind (W.done s _ _ hst fun s' hm => ?_)
    show wpAny _ A.in1 (ret Value.none) _ _ s'
    exact wpAny_pure (hR s' (hm.mono hsub) (keep hm hS))
  | succ k ih =>
    intro i s hk hi hst hS hR
    have hlt : i < n := by omega
    refine codeAny_builtin F.entry_set_update_loop ?_
    rw [Around.under_plainId F.plain_set_update_loop _]
    show wpAny _ A.in1 (pyNext (.ref I) >>= _) _ _ s
    refine wpAny_bind (W.item i s _ _ hlt hst fun v s' hP hst' hm => ?_)
    obtain ⟨t, rfl⟩ := hval i v hP
    have hS' := keep hm hS
    show wpAny _ A.in1 (holding [Value.str (val i) t] (setAdd S (.str (val i) t)) >>= _) _ _ s'
    refine wpAny_bind (wpAny_holding ?_)
    unfold setAdd
    refine wpAny_holding ?_
    have his : (strKind prog w).is (val i) (.str (val i) t) = true := by show Value.isStrOf (val i) (.str (val i) t) = true; simp [Value.isStrOf]
    refine wpAny_bind ((strKind prog w).pyHash (k := val i) his ?_)
    have hroom : (metS val i).length + 1 < scanBound := by have := metS_le val i; omega
    refine wpAny_setAddHashed_of (knd := strKind prog w) his rfl hS' hroom fun h' hsb hS2 => ?_
    have hSi : h'.SetOf (strKind prog w) S (fun z => (metS val (i + 1)).any (· == z)) (metS val (i + 1)).length :=
      SetOf_congr hS2 (fun z => by rw [metS_succ, dd_any]) (by rw [metS_succ, dd_len])
    refine wpAny_pure ⟨plainId_quiet F.plain_set_update_loop _, ih (i + 1) _ (by omega) hlt (W.frame _ s' _ _ hst' (Nat.le_succ _) fun b hb o e => ?_) hSi fun s'' hm'' hS'' => ?_⟩
    · rw [hsb.2 b (fun h : b = S => hSf (by rw [← h]; exact hb))]; exact e
    · refine hR s'' (Moved.trans W.gtrans ((hm.mono hsub).then_heap (Nat.le_succ _) fun b o hb e => ?_) hm'') hS''
      rw [hsb.2 b (fun h : b = S => hb (by rw [h]; exact List.mem_cons_self))]; exact e
end
section
variable {prog : Program} {w : World} {A : Around} {E : Value → Shared → Prop} {s : Shared}
def emptySet (led : Bool) : Obj := { cls := .type "set", dict := none, data := .set #[] 0 (.fresh 0 0 led) }
theorem code_set_newT (a : Value) {Q₁ : Value → Shared → Prop} (h : ∀ led : Bool, Q₁ (.ref s.heap.objs.size) { s with heap := s.heap.push (emptySet led) }) :
    codeAny (model prog w) A (.call (.builtin "set.__new__") ⟨[.type "set", a], []⟩) (wants Q₁ E) s := code_set_new_1 a h
set_option maxHeartbeats 3200000 in
theorem call_set_listT {l : Addr} {its : List Value} {zs : List Str} {Q : Value → Shared → Prop} (hh : A.handled = none) (hl : s.heap.IsList l its.toArray) (hi : ∀ (i : Nat) (v : Value), its[i]? = some v → ∃ t, v = Value.str (zs.getD i ⟨#[]⟩) t) (hb : its.length + 1 < scanBound)
    (h : ∀ (h' : Heap) (tk : Nat), h'.SetOf (strKind prog w) s.heap.objs.size (fun z => (metS (fun i => zs.getD i ⟨#[]⟩) its.length).any (· == z)) (metS (fun i => zs.getD i ⟨#[]⟩) its.length).length →
      (∀ b o, b < s.heap.objs.size → s.heap.get? b = some o → h'.get? b = some o) → Q (.ref s.heap.objs.size) { s with heap := h', toks := tk }) :
    wpAny (model prog w) A (call (.type "set") [.ref l]) Q E s := by
  obtain ⟨c, tl, hmro⟩ := F.called_set.mro
  have hmade := F.called_set.made
  have hsub := F.called_set.sub
  refine wpAny_call (codeAny_of_tree ?_)
  show wpAny _ _ (callAny (.type "set") _) _ _ _
  refine wpAny_pure ⟨Code.quiet_builtin _ (by decide +kernel), codeAny_builtin F.entry_type_call ?_⟩
  rw [Around.under_plain (weight_type_call_type "set" [.ref l] []) rfl]
  have h1 := F.called_set.notType
  have h2 := F.called_set.canCreate
  have hct := F.typeCall_set_1 (.ref l)
  repeat (any_goals (first | assumption | wp_step))
  refine codeAny_mono (code_set_newT (.ref l) (E := E) (Q₁ := fun obj s₁ => ∃ led : Bool, obj = .ref s.heap.objs.size ∧ s₁ = { s with heap := s.heap.push (emptySet led) }) fun led => ⟨led, rfl, rfl⟩) fun r s₁ hr => ?_
  cases r with
  | error e => exact hr
  | ok fl =>
    cases fl with
    | ret obj =>
      obtain ⟨led, rfl, rfl⟩ := hr
      have hS : (s.heap.push (emptySet led)).get? s.heap.objs.size = some (emptySet led) := Heap.get?_push_size _ rfl
      have hT : Shared.TypeIs { s with heap := s.heap.push (emptySet led) } (.ref s.heap.objs.size) "set" := ⟨_, hS, rfl⟩
      have hli := F.called_set.init.lookup
      have hbi := F.called_set.init.bind (.ref s.heap.objs.size)
      repeat (any_goals (first | assumption | wp_step))
      refine codeAny_mono (codeAny_call_builtin (R := wants (fun r s₂ => r = .none ∧ ∃ h' tk, s₂ = { s with heap := h', toks := tk } ∧
          h'.SetOf (strKind prog w) s.heap.objs.size (fun z => (metS (fun i => zs.getD i ⟨#[]⟩) its.length).any (· == z)) (metS (fun i => zs.getD i ⟨#[]⟩) its.length).length ∧
          (∀ b o, b < s.heap.objs.size → s.heap.get? b = some o → h'.get? b = some o)) E) F.called_set.init.plain F.entry_set_init (check_set_init_1 hT ?_)) fun r₂ s₂ hr₂ => ?_
      · obtain ⟨ol, hol, hcl, nl, hdl⟩ := hl
        obtain ⟨ocls, odict, odata, oslots⟩ := ol
        simp only at hcl hdl
        subst hcl; subst hdl
        have hol' : (s.heap.push (emptySet led)).get? l = some { cls := .type "list", dict := odict, data := .seq its.toArray nl, slots := oslots } := Heap.get?_push_of_some _ hol
        have hsls := F.sub_list_set
        have hslf := F.sub_list_frozenset
        have hne : (Value.type "list" == Value.type "dict") = false := by decide
        have hl1 : (s.heap.push (emptySet led)).IsList l its.toArray := ⟨_, hol', rfl, nl, rfl⟩
        unfold Builtin.«set.__init__» noKeywords Builtin.Frozenset.updateFrom
        generalize hPI : pyIter = PI
        wp_walk
        subst hPI
        refine wpAny_pyIter_list hl1 ?_
        refine wpAny_bind (wpAny_runValue ?_)
        have hlS : l < s.heap.objs.size := Heap.lt_size hol
        have hh3 : A.in1.in1.in1.handled = none := by simp [hh]
        have hneI : l ≠ (s.heap.push (emptySet led)).objs.size := by
          rw [Heap.size_push]; exact Nat.ne_of_lt (Nat.lt_succ_of_lt hlS)
        have hSf : s.heap.objs.size ∉ [(s.heap.push (emptySet led)).objs.size, l] := by
          rw [Heap.size_push]; simp only [List.mem_cons, List.mem_singleton, List.not_mem_nil, or_false, not_or]
          exact ⟨Nat.ne_of_lt (Nat.lt_succ_self _), Nat.ne_of_gt hlS⟩
        have hb' : its.toArray.size + 1 < scanBound := by rw [List.size_toArray]; exact hb
        have hval : ∀ (i : Nat) (v : Value), its.toArray[i]? = some v → ∃ t, v = .str ((fun i => zs.getD i ⟨#[]⟩) i) t := fun i v hv => hi i v (by simpa using hv)
        refine set_loopT ((Walks.list hh3 _ l hneI its.toArray).toS) s.heap.objs.size
          hSf (fun i => zs.getD i ⟨#[]⟩) hval hb' (its.toArray.size - 0) 0 _ (by omega) (Nat.zero_le _)
          ⟨⟨_, Heap.get?_push_size _ rfl, rfl, rfl⟩, (hl1.push _)⟩ ?hS0 ?hR
        case hS0 =>
          have hget : ((s.heap.push (emptySet led)).push { cls := .type "list_iterator", data := .fields #[.ref l, .int 0 0] }).get? s.heap.objs.size = some (emptySet led) := Heap.get?_push_of_some _ hS
          exact SetOf_congr ((setObjOf_fresh (knd := strKind prog w) led).setOf hget (by unfold scanBound; omega)) (fun _ => rfl) rfl
        case hR =>
          intro s' hm hS'
          rw [List.size_toArray] at hS'
          obtain ⟨h', g', d', tk', os'⟩ := s'
          have eg : g' = s.gens := hm.gens
          have ed : d' = s.drawn := hm.drawn
          have eo : os' = s.os := hm.os
          subst eg; subst ed; subst eo
          show wpAny _ _ _ _ _ _
          refine wpAny_pure ?_
          show wpAny _ _ (ret Value.none) _ _ _
          refine wpAny_pure ⟨rfl, h', tk', rfl, hS', fun b o hb e => ?_⟩
          have hb1 : b ≠ s.heap.objs.size := Nat.ne_of_lt hb
          have hb2 : b ≠ (s.heap.push (emptySet led)).objs.size := by
            rw [Heap.size_push]; exact Nat.ne_of_lt (Nat.lt_succ_of_lt hb)
          exact hm.heap b o (by simp only [List.mem_cons, List.mem_singleton, List.not_mem_nil, or_false, not_or]; exact ⟨hb1, hb2⟩) (Heap.get?_push_of_some _ (Heap.get?_push_of_some _ e))
      · cases r₂ with
        | error e => exact hr₂
        | ok fl₂ =>
          cases fl₂ with
          | ret r =>
            obtain ⟨rfl, h', tk, rfl, hS', hk'⟩ := hr₂
            repeat (any_goals (first | assumption | wp_step))
            exact h _ _ hS' hk'
          | _ => exact hr₂.elim
    | _ => exact hr.elim
end
end L2

end
section
set_option Elab.async false
set_option linter.all false
set_option maxRecDepth 100000
namespace L2
open PySem PySem.Spec PyProof.Rows
section
variable {X : Cx} {a : Expr} {pos p p1 p2 : Pos} {ga : GD}
end
end L2

end
section
set_option Elab.async false
set_option linter.all false
set_option maxRecDepth 100000
namespace L2
open PySem PySem.Spec PyProof.Rows
def listU : U → Option (List D)
  | .t (.lst ds) => some ds
  | .m (.lst ds) => some ds
  | .b (.lst ds) => some ds
  | _ => none
def eInS (n : Bool) (i : Nat) (g : GD) : GD := fun S => (g S).bind fun p => match p.2[i]? with
  | some (some u) => (listU u).bind fun ds => if depDs ds ≤ 40 then some (.bl (n != inD p.1 ds), p.2) else none
  | _ => none
section
variable {X : Cx} {a : Expr} {x : Str} {px pos : Pos} {ga : GD}
abbrev rInS (X : Cx) (n : Bool) : V → V → Hp → VK → Prop := fun x y H Q => ∃ F d ds p vs, y = .ref p ∧ Sub F H ∧ Rep F x d ∧ SqL X.K H p vs ∧ Reps F vs ds ∧ depDs ds ≤ 40 ∧ Q (.bl (n != inD d ds)) H
theorem op_notInS (hu : X.A.units + 64 < cLine) : OpR X (compareOp .NotIn) (rInS X true) := by
  rintro pins s σ H x y v u Q I rx ry ⟨F, d, ds, p, vs, rfl, sb, r1, hp, rs, hd, q⟩
  cases ry
  obtain ⟨its, rv, pl, hz⟩ := I.list hp
  obtain ⟨h1, h2⟩ := in_items I sb (A := X.A.in1) r1 rx rs rv (by show X.A.units + 1 + depDs ds < cLine; omega)
  refine SeqAt.notIn_listAt (inE F d) pl.isList (fun y hy => h1 y (by simpa using hy)) ⟨.bl _, H, I, rfl, ?_⟩
  rw [show its.toArray.any (inE F d) = its.any (inE F d) by simp, h2]
  simpa using q
theorem inS_imp {B : Base} {n : Bool} {i : Nat} {σ : St} {H : Hp} {Q : VK} (h : tD X.K B (eInS n i ga) σ H Q) : tOp (rInS X n) (tD X.K B ga) (tVar i) σ H Q := by
  obtain ⟨S, F, d, S', R, hg, q⟩ := h
  obtain ⟨⟨d1, S1⟩, h1, hg⟩ := bind_some' hg
  dsimp only at hg
  split at hg
  · rename_i u hS
    obtain ⟨ds, h2, hg⟩ := bind_some' hg
    obtain ⟨hd, hg⟩ := ite_some hg
    cases hg
    refine ⟨S, F, d1, _, R, h1, fun v F1 H1 R1 st1 r1 => ?_⟩
    obtain ⟨v0, hv0, r0⟩ := R1.rep i u hS
    have fin := q (.bl _) F1 H1 R1 st1 (.bl _)
    have go : ∀ a vs, v0 = .ref a → SqL X.K H1 a vs → Reps F1 vs ds → tVar i σ H1 fun y H2 => rInS X n v y H2 Q := fun a vs e ha rs => ⟨v0, hv0, F1, d1, ds, a, vs, e, R1.sub, r1, ha, rs, hd, fin⟩
    unfold listU at h2
    split at h2
    · cases h2; obtain ⟨a, vs, e1, fa, ha, rs⟩ := R1.sub.lstAt r0; exact go a vs e1 (.inl ha) rs
    · cases h2; obtain ⟨a, e1, fa, vs, ha, rs⟩ := r0; exact go a vs e1 (SqL.of ha) rs
    · cases h2; obtain ⟨a, e1, fa, vs, ha, rs⟩ := r0; exact go a vs e1 (SqL.of ha) rs
    · cases h2
  · cases hg
theorem jt_notInS {i : Nat} (hu : X.A.units + 64 < cLine) (ha : JD X a ga) (hN : X.N[i]? = some x := by rfl) (hv : Vis X.env.scope x := by first | exact Or.inl rfl | exact Or.inr (Or.inl rfl) | exact Or.inr (Or.inr rfl)) (hd : (x == ("__debug__" : Str)) = false := by decide) (hcd : (x == ("__classdict__" : Str)) = false := by decide)
    (hm : behindInMarks .NotIn (.Name x px) = false := by with_unfolding_all rfl) : JT X (.Compare a [.NotIn] [.Name x px] pos) (qB (eInS true i ga)) := ⟨fun B => (pt_cmpR (op_notInS hu) (ha.h B) (pe_var hN hv hd hcd) hm).imp fun σ H Q ⟨S, F, k, S', R, hg, q⟩ => inS_imp ⟨S, F, .bl k, S', R, qB_some hg, fun v F' H' R' st r => ⟨k, rep_bl r, q F' H' R' st⟩⟩⟩
end
end L2

end
section
set_option Elab.async false
set_option linter.all false
set_option maxRecDepth 100000
namespace L2
open PySem PySem.Spec PyProof.Rows
def look : U → Option D
  | .t d => some d
  | .m (.lst ds) => some (.lst ds)
  | .b (.lst ds) => some (.lst ds)
  | _ => none
def eLook (f : List D → Option U) (i : Nat) : GD := fun S => match S[i]? with
  | some (some u) => (look u).bind fun d => match f [d] with
    | some (.t e) => if flatD e = true then some (e, S) else none
    | _ => none
  | _ => none
def eIsS (Ts : List String) (i : Nat) : GD := fun S => match S[i]? with
  | some (some u) => (look u).bind fun d => (isTys Ts d).map fun b => (.bl b, S)
  | _ => none
section
variable {X : Cx} {x y : Str} {p px py pos : Pos} {f : List D → Option U}
end
section
variable (S : SS) (i : Nat) (g : GD)
@[simp] theorem m_eLook (f : List D → Option U) : eLook f i S = match S[i]? with
  | some (some u) => (look u).bind fun d => match f [d] with
    | some (.t e) => if flatD e = true then some (e, S) else none
    | _ => none
  | _ => none := rfl
@[simp] theorem m_eIsS (Ts : List String) : eIsS Ts i S = match S[i]? with | some (some u) => (look u).bind fun d => (isTys Ts d).map fun b => (.bl b, S) | _ => none := rfl
@[simp] theorem m_eInS (n : Bool) : eInS n i g S = (g S).bind fun p => match p.2[i]? with | some (some u) => (listU u).bind fun ds => if depDs ds ≤ 40 then some (.bl (n != inD p.1 ds), p.2) else none | _ => none := rfl
@[simp] theorem m_look_t (d : D) : look (.t d) = some d := rfl
@[simp] theorem m_look_m (ds : List D) : look (.m (.lst ds)) = some (.lst ds) := rfl
@[simp] theorem m_look_b (ds : List D) : look (.b (.lst ds)) = some (.lst ds) := rfl
@[simp] theorem m_listU_t (ds : List D) : listU (.t (.lst ds)) = some ds := rfl
@[simp] theorem m_listU_m (ds : List D) : listU (.m (.lst ds)) = some ds := rfl
@[simp] theorem m_listU_b (ds : List D) : listU (.b (.lst ds)) = some ds := rfl
theorem m_fSum (ds : List D) : fSum [.lst ds] = (intsD ds).map fun bs => .t (.int (preSum (fun i => bs.getD i 0) bs.length)) := rfl
@[simp] theorem m_reverse (ds : List D) : hReverse [] (.lst ds) = some (.non, .lst ds.reverse) := rfl
end
end L2

end
section
set_option Elab.async false
set_option linter.all false
set_option maxRecDepth 100000
namespace L2
open PySem PySem.Spec PyProof.Rows
section
variable {X : Cx} {a b c e : Expr} {es : List Expr} {pos p p2 px : Pos} {x y : Str}
def rRepR : R2 := fun x y H Q => ∃ l k xs, x = .ref l ∧ y = .int k ∧ Rd H l (.lst xs) ∧ -(2 ^ 63) ≤ k ∧ k < 2 ^ 63 ∧ xs.length * k.toNat ≤ sizeLine ∧
  ∀ p, H p = none → Q (.ref p) (upd H p (.lst (List.replicate k.toNat xs).flatten))
theorem op_repR : OpR X (binaryOp .Mult) rRepR := by
  intro pins s σ H x y v u Q I rx ry h
  obtain ⟨l, k, xs, rfl, rfl, hH, h1, h2, hz, q⟩ := h
  cases rx
  obtain ⟨t, rfl⟩ := ry
  obtain ⟨z, its, n, r, hl, e⟩ := hH.lstM I
  have hlen : its.toArray.size * k.toNat ≤ sizeLine := by rw [List.size_toArray, ← hl]; exact hz
  have hcap : ¬ its.toArray.size * k.toNat > (2 ^ 63 - 1) / 8 := by
    have : (sizeLine : Nat) ≤ (2 ^ 63 - 1) / 8 := by decide
    omega
  have hfit : ¬ (!Builtin.List.listFitsIndex k) = true := by
    rw [fitsIndex_both h1 h2]
    exact Bool.false_ne_true
  have hlong : ¬ Builtin.List.listTooLong (its.toArray.size * k.toNat) = true := by
    rw [notLongL hlen]
    exact Bool.false_ne_true
  have hnew : List.foldl (fun x1 x2 => x1 ++ x2) #[] (List.replicate (if its.toArray.isEmpty = true then 0 else k.toNat) its.toArray) = (List.replicate k.toNat its).flatten.toArray := by
    have f0 : ∀ m : Nat, List.foldl (fun x1 x2 => x1 ++ x2) #[] (List.replicate m its.toArray) = (List.replicate m its).flatten.toArray := fun m => by
      have := foldl_rep its m []
      rw [List.nil_append] at this
      exact this
    rw [f0]
    cases its with
    | nil => simp
    | cons a r' => rw [if_neg (by simp)]
  refine wpAny_binaryOp_repeat_ref (T := "list") (U := "int") (by decide) ⟨_, e, rfl⟩ (fun s' => typeIs_int s' k t) noFill_list_mul F.fills_int_mul F.slot_int_rmul repeat_list F.slot_int_index.lookup
    (call_meets F.slot_int_rmul (typeIs_int s k t) F.entry_int_rmul (F.args_int_rmul_2 _ _) (int___rmul___int_list k t l its.toArray n)
      ⟨e, rfl, ⟨_, e, rfl⟩, call_meets F.slot_list_mul ⟨_, e, rfl⟩ F.entry_list_mul (F.args_list_mul_2 _ _) (AutoListH.list___mul___list_int_3 l its.toArray n k t hfit hcap hlong) ⟨e, ?_⟩⟩)
  rw [hnew]
  exact ⟨.ref _, _, I.lnew (t' := s.toks) (r.rep k.toNat) (by rw [len_rep, Nat.mul_comm]; exact hz), rfl, q _ I.fresh⟩
theorem Reps.rep {F : Hp} {vs : List V} {ds : List D} (r : Reps F vs ds) : ∀ k : Nat, Reps F (List.replicate k vs).flatten (List.replicate k ds).flatten
  | 0 => .nil
  | k + 1 => by rw [List.replicate_succ, List.replicate_succ, List.flatten_cons, List.flatten_cons]; exact r.append (Reps.rep r k)
def fRep : List D → Option U
  | [.lst ds, .int k] => if 0 ≤ k ∧ k.toNat ≤ 100000 ∧ ds.length * k.toNat ≤ 100000 then some (.m (.lst (List.replicate k.toNat ds).flatten)) else none
  | _ => none
theorem op_repP : OpP X (binaryOp .Mult) fRep := by
  intro pins s σ H x y v u Q I rx ry ⟨F, ds, w, sb, rs, hw, q⟩
  obtain ⟨d, e, rfl, r1, r2⟩ := reps2 rs
  cases d <;> cases e <;> try (simp [fRep] at hw; done)
  rename_i ds k
  obtain ⟨⟨h1, h2, h3⟩, rfl⟩ := ite_some hw
  obtain ⟨a, vs, rfl, fa, ha, rs1⟩ := sb.lstAt r1
  have hy := rep_int r2
  subst hy
  exact op_repR pins s σ H _ _ v u Q I rx ry ⟨a, k, vs, rfl, rfl, ha, by omega, by omega, by rw [rs1.length]; exact Nat.le_trans h3 (by decide),
    fun p hp => q _ F _ (New.obj hp _) (sb.same (New.obj (F := F) hp _).same) ⟨p, rfl, hp, sb.fresh hp, _, upd_same, rs1.rep _⟩⟩
def fInt : List D → Option U
  | [.int i] => some (.t (.int i))
  | [.bl k] => some (.t (.int (if k then 1 else 0)))
  | _ => none
theorem call_intP : CallR X (.type "int") (rP fInt) := by
  intro pins s σ H xs us Q I r ⟨F, ds, w, sb, rs, hw, q⟩
  obtain ⟨x, d, rfl, rfl, r1⟩ := one_arg (P := fun _ => True) rs hw rfl (fun d _ _ => by cases d <;> rfl)
  cases d <;> try (simp [fInt] at hw; done)
  · cases hw
    have hx := rep_bl r1
    subst hx
    exact call_int1 pins s σ H _ us Q I r (.inr ⟨_, rfl, q _ F H (New.refl ..) sb (.int _)⟩)
  · cases hw
    have hx := rep_int r1
    subst hx
    exact call_int1 pins s σ H _ us Q I r (.inl ⟨_, rfl, q _ F H (New.refl ..) sb (.int _)⟩)
def rExtendR : V → List V → Hp → VK → Prop := fun x vs H Q => ∃ l b xs zs, x = .ref l ∧ vs = [.ref b] ∧ H l = some (.lst xs) ∧ Rd H b (.lst zs) ∧ xs.length + zs.length ≤ sizeLine ∧ Q .non (upd H l (.lst (xs ++ zs)))
theorem mt_extendR : MtR X "list.extend" rExtendR := by
  intro pins s σ H x vs v us Q I rx rv h
  obtain ⟨l, b, xs, zs, rfl, rfl, hH, hB, hz, q⟩ := h
  cases rx
  obtain ⟨u, rfl, ru⟩ := rv.one
  cases ru
  obtain ⟨z, its, n, r, hl, e⟩ := I.lstM hH
  obtain ⟨z2, its2, n2, r2, hl2, e2⟩ := hB.lstM I
  have hsz : its.toArray.size + its2.toArray.size ≤ sizeLine := by rw [List.size_toArray, List.size_toArray]; omega
  have hlong : ¬ (!its.toArray.isEmpty && Builtin.List.listTooLong (its.toArray.size + its2.toArray.size)) = true := by
    rw [notLongL hsz, Bool.and_false]
    exact Bool.false_ne_true
  refine call_meets F.slot_list_extend ⟨_, e, rfl⟩ F.entry_list_extend (F.args_list_extend_2 _ _)
    (AutoSeq1.list_extend_list_list_0 l its.toArray n b its2.toArray n2 hlong (by rw [List.size_toArray]; omega) (by omega)) ⟨e, e2, ?_⟩
  refine ⟨.non, _, I.lset (its' := its ++ its2) hH e (by simp) (r.append r2) ?_, rfl, q⟩
  rw [List.length_append]
  omega
def hExtend : List D → MO → Option (D × MO)
  | [.lst es], .lst ds => if ds.length + es.length ≤ 100000 then some (.non, .lst (ds ++ es)) else none
  | _, _ => none
theorem mp_extend : MtP rExtendR hExtend := by
  intro F H a vs xs ds args res o' sb hH fa rs rx hw Q q
  unfold hExtend at hw
  split at hw
  · rename_i es ds' e2
    cases e2
    obtain ⟨hl, hw⟩ := ite_some hw
    cases hw
    cases rx with
    | cons r rr =>
      cases rr
      obtain ⟨b, zs, rfl, fb, hb, rs2⟩ := sb.lstAt r
      exact ⟨a, b, vs, zs, rfl, rfl, hH, hb, by rw [rs.length, rs2.length]; exact Nat.le_trans hl (by decide), q .non _ .non ⟨_, upd_same, rs.append rs2⟩⟩
  · cases hw
theorem hd_extend (a : List D) (o : MO) (h : isLst o = false) : hExtend a o = none := by
  cases o with
  | lst ds => cases h
  | dct k => unfold hExtend; split <;> first | rfl | (rename_i e; cases e)
  | dtt k => unfold hExtend; split <;> first | rfl | (rename_i e; cases e)
def isNon : D → Bool
  | .non => true
  | _ => false
def fIsN : List D → Option U
  | [d, .non] => some (.t (.bl (isNon d)))
  | _ => none
def sAug (f : Int → Int → Int) (i : Nat) (g : GD) : GS := fun S => match S[i]? with
  | some (some (.t (.int n))) => (g S).bind fun p => match p.1 with
    | .int m => (setU i (.t (.int (f n m))) p.2).map .nx
    | _ => none
  | _ => none
theorem js_aug {i : Nat} {pos' : Pos} {op : Operator} {f : Int → Int → Int} {g : GD} (ho : PIp X op (ipI f)) (hN : X.N.Nodup) (hi : X.N[i]? = some x) (hx : Loc X.env.scope x) (he : JD X e g)
    (hf : X.fn x = true ∨ X.env.scope.names.lookup x = some .local := by first | exact .inl rfl | exact .inr rfl | assumption) : JS X (.AugAssign (.Name x pos') op e pos) (sAug f i g) :=
  ⟨fun B => (ps_aug hN hi hx (he.h B) ho hf).imp fun D σ H ⟨S, F, o, R, h, k⟩ => by
  unfold sAug at h
  split at h
  · rename_i n hS
    obtain ⟨⟨d, S1⟩, h1, h⟩ := bind_some' h
    dsimp only at h
    split at h
    · rename_i m
      obtain ⟨S2, h2, h⟩ := map_some' h
      subst h
      obtain ⟨v, k1, k2⟩ := R.rep i _ hS
      have hv : v = .int n := rep_int k2
      subst hv
      refine ⟨_, k1, S, F, _, S1, R, h1, fun y F1 H1 R1 st1 r1 => ⟨n, m, rfl, rep_int r1, ?_⟩⟩
      exact k _ F1 H1 (R1.put h2 (.int _)) st1.ext.le
    · cases h
  · cases h⟩
theorem comp_capsD {x : Str} {capN : List Str} {cap : List Nat} {scope : Scope} {cl : List (Str × Addr)} (clos : closureFor scope X.env = pure cl) (nocell : ∀ z ∈ scope.names, z.2 ≠ .cell) (kind : scope.kind = .function) (names : ∀ z ∈ scope.names, z.2 = .local → scope.names.lookup z.1 = some .local)
    (loc : scope.names.lookup x = some .local) (hc : cl.map (fun p => X.env.cells.lookup p.1) = cl.map (fun p => some p.2)) (only : ∀ z ∈ scope.names, z.2 = .free → z.1 ∈ capN) (hcl : cl.map (·.1) = capN.reverse ∨ cl.map (·.1) = capN) (nd : (x :: capN).Nodup)
    (slot : cap.map (fun i => X.N[i]?) = capN.map some) (vis : capN.map (fun n => X.env.scope.names.lookup n) = capN.map fun _ => some .cell) (rel : capN.map (fun n => (relabel scope X.env).names.lookup n) = capN.map fun _ => some .cell) :
    CompTxt X x capN cap scope cl := by
  have all : ∀ {α β : Type} {f g : α → β} {l : List α}, l.map f = l.map g → ∀ a ∈ l, f a = g a := fun {α β f g l} h => by
    induction l with
    | nil => intro a m; cases m
    | cons b r ih =>
      intro a m
      rw [List.map_cons, List.map_cons] at h
      injection h with h1 h2
      rcases List.mem_cons.mp m with z | z
      · rw [z]; exact h1
      · exact ih h2 a z
  have inCl : ∀ n, n ∈ capN → ∃ c, cl.lookup n = some c := fun n hn => lookup_some (hcl.elim (fun z => by rw [z]; exact List.mem_reverse.mpr hn) fun z => by rw [z]; exact hn)
  have len : cap.length = capN.length := by have := congrArg List.length slot; simpa using this
  refine ⟨clos, nocell, kind, names, loc, fun n c h => all hc (n, c) (PySem.mem_of_lookup h), fun n h => ?_, nd, len, fun j n h => ?_, fun n h => ⟨.inl (all rel n h), inCl n h, by rw [all vis n h]; decide⟩⟩
  · refine inCl n ?_
    have go : ∀ k, (k = NameKind.cell ∨ k = NameKind.free) → (relabel scope X.env).names.lookup n = some k → n ∈ capN := fun k hk e => by
      have m := PySem.mem_of_lookup e
      unfold relabel at m
      obtain ⟨⟨n', k'⟩, hm, q⟩ := List.mem_map.mp m
      by_cases hf : k' = .free
      · have h0 : n' ∈ capN := only _ hm hf
        have e1 : n' = n := by
          have h1 := congrArg Prod.fst q
          dsimp only at h1
          split at h1 <;> exact h1
        rw [← e1]
        exact h0
      · have z : (k' == NameKind.free) = false := by simpa using hf
        simp only [z, Bool.false_and] at q
        have q2 : k' = k := by
          have := congrArg Prod.snd q
          simpa using this
        rcases hk with rfl | rfl
        · exact absurd q2 (nocell _ hm)
        · exact absurd q2 hf
    rcases h with h | h
    · exact go _ (.inl rfl) h
    · exact go _ (.inr rfl) h
  · have e := congrArg (fun l => l[j]?) slot
    simp only [List.getElem?_map, h, Option.map_some] at e
    cases q : cap[j]? with
    | none => rw [q] at e; cases e
    | some i =>
      rw [q] at e
      exact ⟨i, rfl, Option.some.inj e, .inr (.inl (all vis n (List.mem_of_getElem? h)))⟩
end
end L2

end
section
set_option Elab.async false
set_option linter.all false
set_option maxRecDepth 100000
namespace L2
open PySem PySem.Spec PyProof.Rows
open AutoSeq1 (wpAny_loadPart')
def SqK (k : Bool) (h : Heap) (a : Addr) (its : Array Value) : Prop := match k with
  | true => h.IsList a its
  | false => h.IsTuple a its
def ItK (k : Bool) (h : Heap) (it a : Addr) (i : Nat) : Prop := match k with
  | true => h.IsListIter it a i
  | false => h.IsTupleIter it a i
def itN : Bool → String
  | true => "list_iterator"
  | false => "tuple_iterator"
def itO (k : Bool) (a : Addr) : Obj := { cls := .type (itN k), data := .fields #[.ref a, .int 0 0] }
theorem SqK.at {k : Bool} {h h' : Heap} {a : Addr} {its : Array Value} (x : SqK k h a its) (g : ∀ o, h.get? a = some o → h'.get? a = some o) : SqK k h' a its := by
  cases k <;> exact let ⟨o, ho, r⟩ := x; ⟨o, g o ho, r⟩
theorem ItK.at {k : Bool} {h h' : Heap} {it a : Addr} {i : Nat} (x : ItK k h it a i) (g : ∀ o, h.get? it = some o → h'.get? it = some o) : ItK k h' it a i := by
  cases k <;> exact let ⟨o, ho, r⟩ := x; ⟨o, g o ho, r⟩
theorem ItK.obj {k : Bool} {h : Heap} {it a : Addr} {i : Nat} (x : ItK k h it a i) : ∃ o, h.get? it = some o ∧ ∀ v, o.data ≠ .cell v := by
  cases k <;> exact let ⟨o, ho, _, r⟩ := x; ⟨o, ho, fun v z => by rw [r] at z; cases z⟩
theorem ItK.new (k : Bool) (h : Heap) (a : Addr) : ItK k (h.push (itO k a)) h.objs.size a 0 := by
  cases k <;> exact ⟨_, Heap.get?_push_size _ rfl, rfl, rfl⟩
section
variable {prog : Program} {w : World} {A : Around} {E : Value → Shared → Prop} {s : Shared}
theorem iterK {k : Bool} {a : Addr} {its : Array Value} {Q : Value → Shared → Prop} (h : SqK k s.heap a its) (q : Q (.ref s.heap.objs.size) { s with heap := s.heap.push (itO k a) }) : wpAny (model prog w) A (pyIter (.ref a)) Q E s := by
  cases k with
  | true => exact wpAny_pyIter_list h q
  | false => exact wpAny_pyIter_tuple h q
theorem tupNext {ad t : Addr} {n : Nat} {vals : Array Value} {y : Value} {Q : Value → Shared → Prop} (st : s.heap.IsTupleIter ad t n) (hv : s.heap.IsTuple t vals) (hy : vals[n]? = some y)
    (q : ∀ h', h'.IsTupleIter ad t (n + 1) → Heap.SameBut ad s.heap h' → Q y { s with heap := h' }) : wpAny (model prog w) A (Builtin.SmallTypes.nextOf (.ref ad)) Q E s := by
  obtain ⟨ob, hob, hcl, hdat⟩ := id st
  obtain ⟨ob2, hob2, _, nn, hdat2⟩ := hv
  unfold Builtin.SmallTypes.nextOf
  refine wpAny_bind (wpAny_callSpecial?_slot (name := Str.ofString "__next__") st.typeIs F.slot_tuple_iterator_next (wpAny_call_entry F.slot_tuple_iterator_next st.typeIs F.entry_tuple_iterator_next ?_ (F.args_tuple_iterator_next_1 _)))
  show wpAny _ _ (field (.ref ad) 0 >>= _) _ _ s
  refine wpAny_bind (wpAny_field hob hdat (x := .ref t) rfl ?_)
  show wpAny _ _ (if (Value.ref t == Value.none) = true then _ else _) _ _ s; rw [if_neg (show ¬ ((Value.ref t == Value.none) = true) from Bool.false_ne_true)]
  show wpAny _ _ (field (.ref ad) 1 >>= _) _ _ s
  refine wpAny_bind (wpAny_field hob hdat (x := .int n 0) rfl ?_)
  show wpAny _ _ (seqItems? (.ref t) >>= _) _ _ s; refine wpAny_bind (wpAny_seqItems hob2 hdat2 ?_)
  simp only [Int.toNat_natCast, hy]
  refine wpAny_bind (wpAny_setField hob hdat (by simp) (wpAny_pure ⟨y, rfl, wpAny_pure (q _ ?_ (Heap.SameBut.update ..))⟩))
  exact ⟨_, Heap.get?_update_self _ hob (Obj.isFreed_of_fields (Obj.data_mapFields hdat _)), (Obj.cls_mapFields ..).trans hcl, by rw [Obj.data_mapFields hdat]; simp [rawInt]⟩
theorem tupEnd {ad t : Addr} {n : Nat} {vals : Array Value} {Q : Value → Shared → Prop} (hn : A.handled = none) (st : s.heap.IsTupleIter ad t n) (hv : s.heap.IsTuple t vals) (hy : vals[n]? = none)
    (q : ∀ h' e, Heap.ExtBut ad s.heap h' → (∃ o, h'.get? e = some o ∧ o.cls = .type "StopIteration") → E (.ref e) { s with heap := h' }) : wpAny (model prog w) A (Builtin.SmallTypes.nextOf (.ref ad)) Q E s := by
  obtain ⟨ob, hob, hcl, hdat⟩ := id st
  obtain ⟨ob2, hob2, _, nn, hdat2⟩ := hv
  unfold Builtin.SmallTypes.nextOf
  refine wpAny_bind (wpAny_callSpecial?_slot (name := Str.ofString "__next__") st.typeIs F.slot_tuple_iterator_next (wpAny_call_entry F.slot_tuple_iterator_next st.typeIs F.entry_tuple_iterator_next ?_ (F.args_tuple_iterator_next_1 _)))
  show wpAny _ _ (field (.ref ad) 0 >>= _) _ _ s
  refine wpAny_bind (wpAny_field hob hdat (x := .ref t) rfl ?_)
  show wpAny _ _ (if (Value.ref t == Value.none) = true then _ else _) _ _ s; rw [if_neg (show ¬ ((Value.ref t == Value.none) = true) from Bool.false_ne_true)]
  show wpAny _ _ (field (.ref ad) 1 >>= _) _ _ s
  refine wpAny_bind (wpAny_field hob hdat (x := .int n 0) rfl ?_)
  show wpAny _ _ (seqItems? (.ref t) >>= _) _ _ s; refine wpAny_bind (wpAny_seqItems hob2 hdat2 ?_)
  simp only [Int.toNat_natCast, hy]
  refine wpAny_bind (wpAny_rule (wpAny_bind (wpAny_setField hob hdat (by simp) ?_)))
  show wpAny _ _ (newExc (.type "StopIteration") [] >>= _) _ _ _; refine wpAny_bind ?_; simp only [newExc, newTuple]
  refine wpAny_bind (wpAny_newObj_type ?_ (by size_fits)); refine wpAny_bind (m := firstArgMember _ _) (wpAny_of_eq (a := Value.none) (by first | rfl | (simp only [firstArgMember]; rfl)) ?_)
  refine wpAny_newObj_type ?_ (by size_fits); simp only [raiseNew]; refine wpAny_bind (wpAny_handled ?_)
  first | rw [show A.in1.handled = none from hn] | rw [hn]
  refine wpAny_bind (wpAny_pure (wpAny_throw ?_)); exact q _ _ (((Heap.SameBut.update ..).extBut.push _).push _) ⟨_, Heap.get?_push_size _ rfl, rfl⟩
theorem nextK {k : Bool} {ad t : Addr} {n : Nat} {vals : Array Value} {y : Value} {Q : Value → Shared → Prop} (st : ItK k s.heap ad t n) (hv : SqK k s.heap t vals) (hy : vals[n]? = some y)
    (q : ∀ h', ItK k h' ad t (n + 1) → Heap.SameBut ad s.heap h' → Q y { s with heap := h' }) : wpAny (model prog w) A (Builtin.SmallTypes.nextOf (.ref ad)) Q E s := by
  cases k with
  | true => exact wpAny_nextOf_list_item st hv hy q
  | false => exact tupNext st hv hy q
theorem endK {k : Bool} {ad t : Addr} {n : Nat} {vals : Array Value} {Q : Value → Shared → Prop} (hn : A.handled = none) (st : ItK k s.heap ad t n) (hv : SqK k s.heap t vals) (hy : vals[n]? = none)
    (q : ∀ h' e, Heap.ExtBut ad s.heap h' → (∃ o, h'.get? e = some o ∧ o.cls = .type "StopIteration") → E (.ref e) { s with heap := h' }) : wpAny (model prog w) A (Builtin.SmallTypes.nextOf (.ref ad)) Q E s := by
  cases k with
  | true => exact wpAny_nextOf_list_end hn st hv hy q
  | false => exact tupEnd hn st hv hy q
theorem drawsK {k : Bool} (hn : A.handled = none) (ad t : Addr) (hne : t ≠ ad) (vals : Array Value) : Draws prog w A ad [ad, t] vals.size (fun i v => vals[i]? = some v) (fun i h => ItK k h ad t i ∧ SqK k h t vals) where
  live := fun _ _ st => let ⟨o, ho, _⟩ := st.1.obj; ⟨o, ho⟩
  frame := fun _ _ _ st hk => ⟨st.1.at fun o e => hk ad (by simp) o e, st.2.at fun o e => hk t (by simp) o e⟩
  item := fun i s Q E hi st hQ => nextK st.1 st.2 (y := vals[i]) (by simp [hi]) fun h' hit' hs' => hQ _ h' s.toks (by simp [hi]) ⟨hit', st.2.at fun o e => hs'.extBut _ _ hne e⟩ hs'
  done := fun s Q E st hE => endK hn st.1 st.2 (by simp) hE
end
theorem enumNewT (l : Addr) (vals : Array Value) (n : Nat) (dct : Option Addr) (sl : Array (Option Value)) :
    Meets (Builtin.«enumerate.__new__» ⟨[.type "enumerate", .ref l], []⟩) (fun _ R s => s.heap.get? l = some { cls := .type "tuple", dict := dct, data := .seq vals n, slots := sl } ∧
      R (.ok (.ret (.ref (s.heap.push (itO false l)).objs.size))) { s with heap := (s.heap.push (itO false l)).push { cls := .type "enumerate", data := .fields #[.none, .bool false, .ref s.heap.objs.size, rawInt 0, .none, .none] } }) :=
  .of_wp fun prog w A R s h => by
    obtain ⟨hp, g, d, tk, os⟩ := s; obtain ⟨hl, h⟩ := h
    have hsub := sub_enumerate
    have hT : Heap.IsTuple (Shared.heap ⟨hp, g, d, tk, os⟩) l vals := ⟨_, hl, rfl, n, rfl⟩
    wp_walk using wpAny_loadPart' hl
    refine wpAny_stack_any fun st => wpAny_pure ?_
    split
    · rename_i c _ _ _ _ _
      cases (c == Value.type "enumerate")
      · wp_walk using wpAny_loadPart' hl, wpAny_pyIter_tuple hT; exact ⟨_, rfl, h⟩
      · wp_walk using wpAny_loadPart' hl, wpAny_pyIter_tuple hT; exact ⟨_, rfl, h⟩
    · wp_walk using wpAny_loadPart' hl, wpAny_pyIter_tuple hT; exact ⟨_, rfl, h⟩
end L2

end
section
set_option Elab.async false
set_option linter.all false
set_option maxRecDepth 100000
namespace L2
open PySem PySem.Spec PyProof.Rows
section
variable {prog : Program} {w : World} {A : Around} {E : Value → Shared → Prop} {s : Shared}
theorem call_enumK {k : Bool} {l : Addr} {vals : Array Value} {Q : Value → Shared → Prop} (hL : SqK k s.heap l vals)
    (h : ∀ h', IsEnum h' (s.heap.objs.size + 1) s.heap.objs.size 0 .none → ItK k h' s.heap.objs.size l 0 → (∀ b o, s.heap.get? b = some o → h'.get? b = some o) → Q (.ref (s.heap.objs.size + 1)) { s with heap := h' }) :
    wpAny (model prog w) A (call (.type "enumerate") [.ref l]) Q E s := by
  cases k with
  | true => exact call_enumerate_list hL fun h' a b _ c => h h' a b c
  | false =>
    obtain ⟨⟨c, dct, dt, sl⟩, hl, hc, n, hd⟩ := hL
    have hc : c = .type "tuple" := hc
    have hd : dt = .seq vals n := hd
    subst hc hd
    refine callType_new F.called_enumerate (by decide) (F.typeCall_enumerate_1 _) (F.newCall_enumerate_1 _) (fun obj => F.args_object_init_2 obj _) F.entry_enumerate_new (enumNewT l vals n dct sl) ⟨hl, ?_⟩
    have hz : (s.heap.push (itO false l)).objs.size = s.heap.objs.size + 1 := Heap.size_push ..
    show _ ∧ _
    rw [hz]
    have he : IsEnum ((s.heap.push (itO false l)).push { cls := .type "enumerate", data := .fields #[.none, .bool false, .ref s.heap.objs.size, rawInt 0, .none, .none] }) (s.heap.objs.size + 1) s.heap.objs.size 0 .none := by
      have := Heap.get?_push_size (s.heap.push (itO false l)) (o := { cls := .type "enumerate", data := .fields #[.none, .bool false, .ref s.heap.objs.size, rawInt 0, .none, .none] }) rfl
      rw [hz] at this; exact this
    exact ⟨⟨_, he, rfl⟩, h _ he ((ItK.new false s.heap l).at fun o e => Heap.get?_push_of_some _ e) fun b o x => Heap.get?_push_of_some _ (Heap.get?_push_of_some _ x)⟩
end
theorem drawsE {prog : Program} {w : World} {A : Around} {k : Bool} (hn : A.handled = none) (ad t : Addr) (vals : Array Value) (n : Nat) (he : vals[n]? = none) : Draws prog w A ad [ad, t] n (fun _ _ => True) (fun i h => ItK k h ad t i ∧ SqK k h t vals ∧ i = n) where
  live := fun _ _ st => let ⟨o, ho, _⟩ := st.1.obj; ⟨o, ho⟩
  frame := fun _ _ _ st hk => ⟨st.1.at fun o e => hk ad (by simp) o e, st.2.1.at fun o e => hk t (by simp) o e, st.2.2⟩
  item := fun i s Q E hi st hQ => absurd hi (by rw [st.2.2]; exact Nat.lt_irrefl _)
  done := fun s Q E st hE => endK hn st.1 st.2.1 he hE
def SqH (K : PySem.W.Frag) (H : Hp) (k : Bool) (a : Addr) (xs : List V) : Prop := match k with
  | true => SqL K H a xs
  | false => SqT K H a xs
section
variable {X : Cx} {pins : List (Addr × Obj)} {σ : St} {H : Hp} {s : Shared}
theorem Inv.sqK (I : Inv X pins σ H s) {k : Bool} {a : Addr} {xs : List V} (h : SqH X.K H k a xs) : ∃ its : List Value, Vals xs its ∧ SqK k s.heap a its.toArray ∧ xs.length ≤ sizeLine := by
  cases k with
  | true => obtain ⟨its, r, p, z⟩ := I.list h; exact ⟨its, r, p.isList, z⟩
  | false => obtain ⟨its, r, p, z⟩ := I.tuple h; exact ⟨its, r, p, z⟩
theorem Inv.sqK_inj (I : Inv X pins σ H s) {k : Bool} {a : Addr} {xs ys : List V} (h : SqH X.K H k a xs) (h' : SqH X.K H k a ys) : xs = ys := by
  cases k with
  | true => exact I.list_inj h h'
  | false => exact I.tuple_inj h h'
theorem Inv.turnedN {t' : Nat} {h' : Heap} {fp : List Addr} (I : Inv X pins σ H s) (k : ∀ b o, b ∉ fp → s.heap.get? b = some o → h'.get? b = some o) (hf : ∀ b ∈ fp, FpOk X pins H b) : Inv X pins σ H { s with heap := h', toks := t' } := by
  have nit : ∀ b u, H b = some u → b ∉ fp := fun b u e z => by rw [(hf b z).1] at e; cases e
  refine I.step (g' := s.gens) (d' := s.drawn) (ch := fp) (fun b hb => ?_) (fun b o _ _ hc e _ => k b o hc e) (fun b o _ _ hc e _ => ⟨o.slots, k b o hc e⟩) (fun _ _ _ _ n => n)
    (fun b o hc e => ⟨o, k b o hc e⟩) (fun _ _ e => e) (fun _ _ _ e => e) (fun b ps e => ⟨#[], by rw [e]; simp⟩) (fun m hm => ?_) (fun b u e => ?_) I.bare
  · obtain ⟨_, f1, _, f3, f4, f5⟩ := hf b hb
    exact ⟨f3, f1, f4, f5⟩
  · obtain ⟨o, es, ep, ho, r⟩ := hm
    exact ⟨o, es, ep, k _ o (fun z => (hf _ z).2.1 rfl) ho, r⟩
  · refine (I.hok b u e).stay (fun c v hc q => k c v ?_ q) (fun _ q => q) fun _ _ q => q
    rcases hc with z | z
    · rw [z]; exact nit b u e
    · exact nit c _ z
theorem Inv.handed {t' : Nat} {h' : Heap} {fp : List Addr} {xs : List V} {its : List Value} (I : Inv X pins σ H s) (hf : ∀ b ∈ fp, FpOk X pins H b) (hlt : ∀ b ∈ fp, b < s.heap.objs.size) (k : ∀ b o, b ∉ fp → s.heap.get? b = some o → h'.get? b = some o)
    (ht : h'.get? s.heap.objs.size = some { cls := .type "tuple", data := .seq its.toArray }) (hv : Vals xs its) (hz : xs.length ≤ sizeLine) : Inv X pins σ (upd H s.heap.objs.size (.tup xs)) { s with heap := h', toks := t' } := by
  have I1 : Inv X pins σ (upd H s.heap.objs.size (.tup xs)) { s with heap := s.heap.push { cls := .type "tuple", data := .seq its.toArray }, toks := t' } :=
    I.laid (fun _ _ q => Heap.get?_push_of_some _ q) (Nat.le_refl _) ⟨hz, its, hv, IsTup.new s.heap _⟩
  refine Inv.turnedN (s := { s with heap := s.heap.push { cls := .type "tuple", data := .seq its.toArray }, toks := t' }) (t' := t') (fp := fp) I1 (fun b o hb e => ?_) fun b hb => ?_
  · rcases Heap.get?_push_cases (show (s.heap.push { cls := .type "tuple", data := .seq its.toArray }).get? b = some o from e) with ⟨z1, z2⟩ | z
    · rw [z1, z2]; exact ht
    · exact k b o hb z
  · obtain ⟨f0, f1, f2, f3, f4, f5⟩ := hf b hb
    exact ⟨by rw [upd_ne (Nat.ne_of_lt (hlt b hb))]; exact f0, f1, f2, f3, f4, f5⟩
end
def Ite (K : PySem.W.Frag) (k : Bool) (a : Addr) : It :=
  ⟨fun i H => ∃ xs x, SqH K H k a xs ∧ xs[i]? = some x, fun i H x H' => ∃ p y, H p = none ∧ x = .ref p ∧ H' = upd H p (.tup [.int i, y]) ∧ ∀ xs, SqH K H k a xs → xs[i]? = some y, fun i H => ∃ xs, SqH K H k a xs ∧ xs.length ≤ i⟩
theorem turn_enum {P : Program} {w : World} {K : PySem.W.Frag} {elts : List Expr} {j : Nat} {pos : Pos} (k : Bool) (a it e : Addr) (hai : a ≠ it) (hae : e ≠ a) (hei : e ≠ it) : Turn P w K (.Tuple elts j pos) (Ite K k a) [e, it] e (fun i h => (∃ old, IsEnum h e it (i : Int) old) ∧ ItK k h it a i) where
  mem := by simp
  obj := fun i h ⟨⟨old, he⟩, st⟩ b hb => by
    rcases List.mem_cons.mp hb with z | z
    · subst z; exact ⟨_, he, fun v z => by cases z⟩
    · have z : b = it := by simpa using z
      subst z
      exact st.obj
  keep := fun i h h' ⟨⟨old, he⟩, st⟩ g => ⟨⟨old, g e (by simp) _ he⟩, st.at fun o q => g it (by simp) o q⟩
  item := by
    intro X hP hw hK hc i pins s σ H E I hf st hg
    subst hP hw hK
    obtain ⟨xs, x, hq, hx⟩ := hg
    obtain ⟨its, rv, p, hz⟩ := I.sqK hq
    obtain ⟨u, hu, ru⟩ := rv.get hx
    obtain ⟨⟨old, he⟩, hit⟩ := st
    have hsz : i < its.toArray.size := by rw [List.size_toArray]; exact (List.getElem?_eq_some_iff.mp hu).1
    refine wpAny_pyNext_enum_itemD (drawsK (k := k) (A := X.A.in1) (I.ok.hd hc) it a hai its.toArray) he ⟨hit, p⟩ hsz hei (by simp [hae, hei]) fun y h' tk hy ho hs' hT hzz hk => ?_
    obtain ⟨hit', p'⟩ := hs'
    have ey : y = u := by
      have h1 : its.toArray[i]? = some u := by simpa using hu
      rw [h1] at hy; exact (Option.some.inj hy).symm
    subst ey
    refine ⟨_, rfl, wpAny_letOwnedTupleGo_enum ho fun h2 he2 hs2 => ?_⟩
    have hs2 : Heap.SameBut e h' h2 := hs2
    have elt : e < s.heap.objs.size := Heap.lt_size he
    obtain ⟨oi, hoi, _⟩ := hit.obj
    have ilt : it < s.heap.objs.size := Heap.lt_size hoi
    have fplt : ∀ b ∈ [e, it], b < s.heap.objs.size := fun b hb => by
      rcases List.mem_cons.mp hb with z | z
      · rw [z]; exact elt
      · rw [show b = it by simpa using z]; exact ilt
    have I2 : Inv X pins σ (upd H s.heap.objs.size (.tup [.int i, x])) { s with heap := h2, toks := tk + 1 } :=
      I.handed (its := [.int i tk, y]) hf fplt (fun b o hb q => (hs2.2 b fun z => hb (by simp [z])).trans (hk b o (fun z => hb (by simp [z])) (fun z => hb (by simp [z])) q))
        ((hs2.2 _ (Nat.ne_of_gt elt)).trans hT) (.cons ⟨tk, rfl⟩ (.cons ru .nil)) (show 2 ≤ sizeLine by decide)
    refine ⟨.ref s.heap.objs.size, _, I2, rfl, ⟨_, x, I.fresh, rfl, rfl, fun ys hy2 => by rw [I.sqK_inj hy2 hq]; exact hx⟩, ⟨⟨y, by simpa using he2⟩, hit'.at fun o q => (hs2.2 _ (Ne.symm hei)).trans q⟩, fun b hb => ?_⟩
    rw [upd_ne (Nat.ne_of_lt (fplt b hb))]
    exact (hf b hb).1
  done := by
    intro X hP hw hK hc i pins s σ H E I hf st hg
    subst hP hw hK
    obtain ⟨xs, hq, hx⟩ := hg
    obtain ⟨its, rv, p, hz⟩ := I.sqK hq
    obtain ⟨⟨old, he⟩, hit⟩ := st
    have hl := rv.length
    refine wpAny_pyNext_enum_endD (n := i) (drawsE (k := k) (A := X.A.in1) (I.ok.hd hc) it a its.toArray i (by simp; omega)) he ⟨hit, p, rfl⟩ fun h' hx => ?_
    exact ⟨rfl, I.turnedN (t' := s.toks) (fun b o hb q => hx b o (fun z => hb (by simp [z])) q) hf⟩
  self := fun _ _ _ _ _ st h => by
    obtain ⟨⟨old, he⟩, _⟩ := st
    exact wpAny_pyIter_enum he h
end L2

end
section
set_option Elab.async false
set_option linter.all false
set_option maxRecDepth 100000
namespace L2
open PySem PySem.Spec PyProof.Rows
abbrev TupAt (h : Heap) (T : Addr) (vals : Array Value) : Prop := h.get? T = some { cls := .type "tuple", data := .seq vals }
section
variable {prog : Program} {w : World} {A : Around} {E : Value → Shared → Prop} {s : Shared}
theorem updT {T : Addr} {vals : Array Value} {x : Value} {k : Nat} {Q : Unit → Shared → Prop} (hT : TupAt s.heap T vals) (hz : vals.size ≤ sizeLine) (h : ∀ h', TupAt h' T (vals.setIfInBounds k x) → Heap.SameBut T s.heap h' → Q () { s with heap := h' }) :
    wpAny (model prog w) A (updateSeq T (·.setIfInBounds k x)) Q E s := by
  refine wpAny_updateSeq hT rfl (h _ ?_ (Heap.SameBut.update ..)) hz (by simp only [Array.size_setIfInBounds]; omega); rw [TupAt, Heap.get?_update_self _ hT rfl]; simp [Obj.mapSeq]
structure Zip2 (N : Nat) (k0 k1 : Bool) (l0 l1 : Nat) (i : Nat) (f0 : Value) (h : Heap) : Prop where
  z : IsZip h (N + 4) (N + 2) (N + 3) f0
  ti : TupAt h (N + 2) #[.ref N, .ref (N + 1)]
  to : ∃ v : List Value, v.length = 2 ∧ TupAt h (N + 3) v.toArray
  c0 : ItK k0 h N l0 i
  c1 : ItK k1 h (N + 1) l1 i
structure Zip3 (N : Nat) (k0 k1 k2 : Bool) (l0 l1 l2 : Nat) (i : Nat) (f0 : Value) (h : Heap) : Prop where
  z : IsZip h (N + 5) (N + 3) (N + 4) f0
  ti : TupAt h (N + 3) #[.ref N, .ref (N + 1), .ref (N + 2)]
  to : ∃ v : List Value, v.length = 3 ∧ TupAt h (N + 4) v.toArray
  c0 : ItK k0 h N l0 i
  c1 : ItK k1 h (N + 1) l1 i
  c2 : ItK k2 h (N + 2) l2 i
def zfp3 (N : Nat) : List Addr := [(N + 5), (N + 3), (N + 4), N, (N + 1), (N + 2)]
theorem zfp3_mem {N b : Nat} : b ∈ zfp3 N ↔ N ≤ b ∧ b ≤ N + 5 := by
  unfold zfp3
  simp only [List.mem_cons, List.not_mem_nil, or_false]
  omega
theorem zipItem3 {N i : Nat} {k0 k1 k2 : Bool} {l0 l1 l2 : Nat} {v0 v1 v2 : Array Value} {x0 x1 x2 : Value} {Q : Option Value → Shared → Prop} (st : Zip3 N k0 k1 k2 l0 l1 l2 i .none s.heap)
    (sq0 : SqK k0 s.heap l0 v0) (hx0 : v0[i]? = some x0) (lt0 : l0 < N)
    (sq1 : SqK k1 s.heap l1 v1) (hx1 : v1[i]? = some x1) (lt1 : l1 < N)
    (sq2 : SqK k2 s.heap l2 v2) (hx2 : v2[i]? = some x2) (lt2 : l2 < N)
    (q : ∀ h', Zip3 N k0 k1 k2 l0 l1 l2 (i + 1) (rawInt s.heap.objs.size) h' → TupAt h' s.heap.objs.size #[x0, x1, x2] → (∀ (b : Nat) o, b ∉ zfp3 N → s.heap.get? b = some o → h'.get? b = some o) → Q (some (.ref s.heap.objs.size)) { s with heap := h' }) :
    wpAny (model prog w) A (pyNext (.ref (N + 5))) Q E s := by
  obtain ⟨hz, hTI, ⟨w0, hw0, hTO⟩, d0, d1, d2⟩ := st
  obtain ⟨a0, a1, a2, rfl⟩ : ∃ a0 a1 a2, w0 = [a0, a1, a2] := by
    match w0, hw0 with
    | [a0, a1, a2], _ => exact ⟨_, _, _, rfl⟩
  have hT : s.TypeIs (.ref (N + 5)) "zip" := ⟨_, hz, rfl⟩
  unfold pyNext
  refine wpAny_bind (wpAny_attempt (wpAny_callSpecial?_slot (name := Str.ofString "__next__") hT F.slot_zip_next (wpAny_call_entry F.slot_zip_next hT F.entry_zip_next ?_ (F.args_zip_next_1 _))))
  show wpAny _ _ (field (.ref (N + 5)) 2 >>= _) _ _ _; refine wpAny_bind (wpAny_field hz rfl (x := .bool false) rfl ?_)
  show wpAny _ _ (field (.ref (N + 5)) 3 >>= _) _ _ _; refine wpAny_bind (wpAny_field hz rfl (x := .ref (N + 3)) rfl ?_)
  refine wpAny_bind (wpAny_seqItems hTI rfl ?_); show wpAny _ _ (Builtin.SmallTypes.ownedTupleIsFree (.ref (N + 5)) >>= _) _ _ _
  refine wpAny_bind ?_; unfold Builtin.SmallTypes.ownedTupleIsFree; refine wpAny_bind (wpAny_field hz rfl (x := .none) rfl (wpAny_pure ?_))
  simp only [if_true]; refine wpAny_bind (wpAny_rule ?_); refine wpAny_bind (wpAny_field hz rfl (x := .ref (N + 4)) rfl ?_)
  refine wpAny_bind (wpAny_setField_rec hz (by simp) fun g0 z0 e0 => ?_)
  have z0 : IsZip g0 (N + 5) (N + 3) (N + 4) .ellipsis := z0
  have e0 : Heap.SameBut (N + 5) s.heap g0 := e0
  refine wpAny_bind ?_; simp only [List.zipIdx_cons, List.zipIdx_nil, List.forIn_cons, List.forIn_nil]
  have t0 : TupAt g0 (N + 4) #[a0, a1, a2] := (e0.2 _ (by first | omega | (show @Ne Nat _ _; omega))).trans hTO
  have m0 : ∀ (b : Nat) o, b ∉ zfp3 N → s.heap.get? b = some o → g0.get? b = some o := fun b o hb y => (e0.2 b fun z => hb (zfp3_mem.mpr (by have z : @Eq Nat b _ := z; omega))).trans y
  have d0' : ItK k0 g0 N l0 i := d0.at fun o y => (e0.2 _ (by first | omega | (show @Ne Nat _ _; omega))).trans y
  have d1' : ItK k1 g0 (N + 1) l1 i := d1.at fun o y => (e0.2 _ (by first | omega | (show @Ne Nat _ _; omega))).trans y
  have d2' : ItK k2 g0 (N + 2) l2 i := d2.at fun o y => (e0.2 _ (by first | omega | (show @Ne Nat _ _; omega))).trans y
  refine wpAny_bind (wpAny_bind (wpAny_onRaise ?_)); show wpAny _ _ (Builtin.SmallTypes.nextOf (.ref N) >>= _) _ _ _
  refine wpAny_bind (nextK d0' (sq0.at fun o y => m0 _ o (fun z => by have := zfp3_mem.mp z; omega) y) hx0 fun g1 c0 e1 => wpAny_pure ?_)
  have e1 : Heap.SameBut N g0 g1 := e1
  have t1 : TupAt g1 (N + 4) #[a0, a1, a2] := (e1.2 _ (by first | omega | (show @Ne Nat _ _; omega))).trans t0
  refine wpAny_bind (wpAny_seqItems t1 rfl ?_); refine wpAny_bind (updT t1 (show 3 ≤ sizeLine by decide) fun g2 t2 e2 => ?_)
  have t2 : TupAt g2 (N + 4) #[x0, a1, a2] := t2
  have e2 : Heap.SameBut (N + 4) g1 g2 := e2
  have z1 : IsZip g2 (N + 5) (N + 3) (N + 4) .ellipsis := (e2.2 _ (by first | omega | (show @Ne Nat _ _; omega))).trans ((e1.2 _ (by first | omega | (show @Ne Nat _ _; omega))).trans z0)
  have m2 : ∀ (b : Nat) o, b ∉ zfp3 N → s.heap.get? b = some o → g2.get? b = some o := fun b o hb y => (e2.2 b fun z => hb (zfp3_mem.mpr (by have z : @Eq Nat b _ := z; omega))).trans ((e1.2 b fun z => hb (zfp3_mem.mpr (by have z : @Eq Nat b _ := z; omega))).trans (m0 b o hb y))
  refine wpAny_bind (wpAny_letGo (wpAny_pure ?_))
  have c0 : ItK k0 g2 N l0 (i + 1) := c0.at fun o y => (e2.2 _ (by first | omega | (show @Ne Nat _ _; omega))).trans y
  have d1' : ItK k1 g2 (N + 1) l1 i := d1'.at fun o y => (e2.2 _ (by first | omega | (show @Ne Nat _ _; omega))).trans ((e1.2 _ (by first | omega | (show @Ne Nat _ _; omega))).trans y)
  have d2' : ItK k2 g2 (N + 2) l2 i := d2'.at fun o y => (e2.2 _ (by first | omega | (show @Ne Nat _ _; omega))).trans ((e1.2 _ (by first | omega | (show @Ne Nat _ _; omega))).trans y)
  have i0 : g2.get? (N + 3) = s.heap.get? (N + 3) := by rw [e2.2 _ (by first | omega | (show @Ne Nat _ _; omega)), e1.2 _ (by first | omega | (show @Ne Nat _ _; omega)), e0.2 _ (by first | omega | (show @Ne Nat _ _; omega))]
  have s0 : g2.objs.size = s.heap.objs.size := by rw [e2.1, e1.1, e0.1]
  refine wpAny_bind (wpAny_bind (wpAny_onRaise ?_)); show wpAny _ _ (Builtin.SmallTypes.nextOf (.ref (N + 1)) >>= _) _ _ _
  refine wpAny_bind (nextK d1' (sq1.at fun o y => m2 _ o (fun z => by have := zfp3_mem.mp z; omega) y) hx1 fun g3 c1 e3 => wpAny_pure ?_)
  have e3 : Heap.SameBut (N + 1) g2 g3 := e3
  have t3 : TupAt g3 (N + 4) #[x0, a1, a2] := (e3.2 _ (by first | omega | (show @Ne Nat _ _; omega))).trans t2
  refine wpAny_bind (wpAny_seqItems t3 rfl ?_); refine wpAny_bind (updT t3 (show 3 ≤ sizeLine by decide) fun g4 t4 e4 => ?_)
  have t4 : TupAt g4 (N + 4) #[x0, x1, a2] := t4
  have e4 : Heap.SameBut (N + 4) g3 g4 := e4
  have z2 : IsZip g4 (N + 5) (N + 3) (N + 4) .ellipsis := (e4.2 _ (by first | omega | (show @Ne Nat _ _; omega))).trans ((e3.2 _ (by first | omega | (show @Ne Nat _ _; omega))).trans z1)
  have m4 : ∀ (b : Nat) o, b ∉ zfp3 N → s.heap.get? b = some o → g4.get? b = some o := fun b o hb y => (e4.2 b fun z => hb (zfp3_mem.mpr (by have z : @Eq Nat b _ := z; omega))).trans ((e3.2 b fun z => hb (zfp3_mem.mpr (by have z : @Eq Nat b _ := z; omega))).trans (m2 b o hb y))
  refine wpAny_bind (wpAny_letGo (wpAny_pure ?_))
  have c0 : ItK k0 g4 N l0 (i + 1) := c0.at fun o y => (e4.2 _ (by first | omega | (show @Ne Nat _ _; omega))).trans ((e3.2 _ (by first | omega | (show @Ne Nat _ _; omega))).trans y)
  have c1 : ItK k1 g4 (N + 1) l1 (i + 1) := c1.at fun o y => (e4.2 _ (by first | omega | (show @Ne Nat _ _; omega))).trans y
  have d2' : ItK k2 g4 (N + 2) l2 i := d2'.at fun o y => (e4.2 _ (by first | omega | (show @Ne Nat _ _; omega))).trans ((e3.2 _ (by first | omega | (show @Ne Nat _ _; omega))).trans y)
  have i1 : g4.get? (N + 3) = s.heap.get? (N + 3) := by rw [e4.2 _ (by first | omega | (show @Ne Nat _ _; omega)), e3.2 _ (by first | omega | (show @Ne Nat _ _; omega)), i0]
  have s1 : g4.objs.size = s.heap.objs.size := by rw [e4.1, e3.1, s0]
  refine wpAny_bind (wpAny_bind (wpAny_onRaise ?_)); show wpAny _ _ (Builtin.SmallTypes.nextOf (.ref (N + 2)) >>= _) _ _ _
  refine wpAny_bind (nextK d2' (sq2.at fun o y => m4 _ o (fun z => by have := zfp3_mem.mp z; omega) y) hx2 fun g5 c2 e5 => wpAny_pure ?_)
  have e5 : Heap.SameBut (N + 2) g4 g5 := e5
  have t5 : TupAt g5 (N + 4) #[x0, x1, a2] := (e5.2 _ (by first | omega | (show @Ne Nat _ _; omega))).trans t4
  refine wpAny_bind (wpAny_seqItems t5 rfl ?_); refine wpAny_bind (updT t5 (show 3 ≤ sizeLine by decide) fun g6 t6 e6 => ?_)
  have t6 : TupAt g6 (N + 4) #[x0, x1, x2] := t6
  have e6 : Heap.SameBut (N + 4) g5 g6 := e6
  have z3 : IsZip g6 (N + 5) (N + 3) (N + 4) .ellipsis := (e6.2 _ (by first | omega | (show @Ne Nat _ _; omega))).trans ((e5.2 _ (by first | omega | (show @Ne Nat _ _; omega))).trans z2)
  have m6 : ∀ (b : Nat) o, b ∉ zfp3 N → s.heap.get? b = some o → g6.get? b = some o := fun b o hb y => (e6.2 b fun z => hb (zfp3_mem.mpr (by have z : @Eq Nat b _ := z; omega))).trans ((e5.2 b fun z => hb (zfp3_mem.mpr (by have z : @Eq Nat b _ := z; omega))).trans (m4 b o hb y))
  refine wpAny_bind (wpAny_letGo (wpAny_pure (wpAny_pure ?_)))
  have c0 : ItK k0 g6 N l0 (i + 1) := c0.at fun o y => (e6.2 _ (by first | omega | (show @Ne Nat _ _; omega))).trans ((e5.2 _ (by first | omega | (show @Ne Nat _ _; omega))).trans y)
  have c1 : ItK k1 g6 (N + 1) l1 (i + 1) := c1.at fun o y => (e6.2 _ (by first | omega | (show @Ne Nat _ _; omega))).trans ((e5.2 _ (by first | omega | (show @Ne Nat _ _; omega))).trans y)
  have c2 : ItK k2 g6 (N + 2) l2 (i + 1) := c2.at fun o y => (e6.2 _ (by first | omega | (show @Ne Nat _ _; omega))).trans y
  have i2 : g6.get? (N + 3) = s.heap.get? (N + 3) := by rw [e6.2 _ (by first | omega | (show @Ne Nat _ _; omega)), e5.2 _ (by first | omega | (show @Ne Nat _ _; omega)), i1]
  have s2 : g6.objs.size = s.heap.objs.size := by rw [e6.1, e5.1, s1]
  refine wpAny_bind (wpAny_seqItems t6 rfl ?_); refine wpAny_bind (wpAny_newTuple ?_)
  have zlt : (N + 5) < g6.objs.size := Heap.lt_size z3
  show wpAny _ _ (Builtin.SmallTypes.ownedTupleHandOut (.ref (N + 5)) (.ref g6.objs.size) >>= _) _ _ _; refine wpAny_bind ?_; unfold Builtin.SmallTypes.ownedTupleHandOut
  have y0 : IsZip (g6.push { cls := .type "tuple", data := .seq #[x0, x1, x2] }) (N + 5) (N + 3) (N + 4) .ellipsis := Heap.get?_push_of_some _ z3
  refine wpAny_bind (wpAny_setField_rec y0 (by simp) fun f1 y1 r1 => ?_)
  have y1 : IsZip f1 (N + 5) (N + 3) (N + 4) (rawInt g6.objs.size) := y1
  refine wpAny_setField_rec y1 (by simp) fun f2 y2 r2 => ?_
  have y2 : IsZip f2 (N + 5) (N + 3) (N + 4) (rawInt g6.objs.size) := y2
  have up : ∀ b o, b ≠ (N + 5) → g6.get? b = some o → f2.get? b = some o := fun b o hb y => r2.extBut _ _ hb (r1.extBut _ _ hb (Heap.get?_push_of_some _ y))
  have tt : TupAt f2 g6.objs.size #[x0, x1, x2] := r2.extBut _ _ (Nat.ne_of_gt zlt) (r1.extBut _ _ (Nat.ne_of_gt zlt) (Heap.get?_push_size _ rfl))
  rw [s2] at y2 tt
  refine wpAny_pure ⟨_, rfl, wpAny_pure ?_⟩
  rw [s2]
  exact q f2 ⟨y2, up _ _ (by first | omega | (show @Ne Nat _ _; omega)) (i2.trans hTI), ⟨[x0, x1, x2], rfl, up _ _ (by first | omega | (show @Ne Nat _ _; omega)) t6⟩, c0.at fun o y => up _ o (by first | omega | (show @Ne Nat _ _; omega)) y, c1.at fun o y => up _ o (by first | omega | (show @Ne Nat _ _; omega)) y, c2.at fun o y => up _ o (by first | omega | (show @Ne Nat _ _; omega)) y⟩ tt fun b o hb y => up b o (fun z => hb (zfp3_mem.mpr (by have z : @Eq Nat b _ := z; omega))) (m6 b o hb y)
theorem zipEnd3 {N i : Nat} {k0 k1 k2 : Bool} {l0 l1 l2 : Nat} {v0 v1 v2 : Array Value} {Q : Option Value → Shared → Prop} (hn : A.handled = none) (st : Zip3 N k0 k1 k2 l0 l1 l2 i .none s.heap)
    (sq0 : SqK k0 s.heap l0 v0) (lt0 : l0 < N)
    (sq1 : SqK k1 s.heap l1 v1) (lt1 : l1 < N)
    (sq2 : SqK k2 s.heap l2 v2) (lt2 : l2 < N)
    (hend : v0[i]? = none ∨ v1[i]? = none ∨ v2[i]? = none)
    (q : ∀ h', (∀ (b : Nat) o, b ∉ zfp3 N → s.heap.get? b = some o → h'.get? b = some o) → Q none { s with heap := h' }) :
    wpAny (model prog w) A (pyNext (.ref (N + 5))) Q E s := by
  obtain ⟨hz, hTI, ⟨w0, hw0, hTO⟩, d0, d1, d2⟩ := st
  obtain ⟨a0, a1, a2, rfl⟩ : ∃ a0 a1 a2, w0 = [a0, a1, a2] := by
    match w0, hw0 with
    | [a0, a1, a2], _ => exact ⟨_, _, _, rfl⟩
  have hT : s.TypeIs (.ref (N + 5)) "zip" := ⟨_, hz, rfl⟩
  unfold pyNext
  refine wpAny_bind (wpAny_attempt (wpAny_callSpecial?_slot (name := Str.ofString "__next__") hT F.slot_zip_next (wpAny_call_entry F.slot_zip_next hT F.entry_zip_next ?_ (F.args_zip_next_1 _))))
  show wpAny _ _ (field (.ref (N + 5)) 2 >>= _) _ _ _; refine wpAny_bind (wpAny_field hz rfl (x := .bool false) rfl ?_)
  show wpAny _ _ (field (.ref (N + 5)) 3 >>= _) _ _ _; refine wpAny_bind (wpAny_field hz rfl (x := .ref (N + 3)) rfl ?_)
  refine wpAny_bind (wpAny_seqItems hTI rfl ?_); show wpAny _ _ (Builtin.SmallTypes.ownedTupleIsFree (.ref (N + 5)) >>= _) _ _ _
  refine wpAny_bind ?_; unfold Builtin.SmallTypes.ownedTupleIsFree; refine wpAny_bind (wpAny_field hz rfl (x := .none) rfl (wpAny_pure ?_))
  simp only [if_true]; refine wpAny_bind (wpAny_rule ?_); refine wpAny_bind (wpAny_field hz rfl (x := .ref (N + 4)) rfl ?_)
  refine wpAny_bind (wpAny_setField_rec hz (by simp) fun g0 z0 e0 => ?_)
  have z0 : IsZip g0 (N + 5) (N + 3) (N + 4) .ellipsis := z0
  have e0 : Heap.SameBut (N + 5) s.heap g0 := e0
  refine wpAny_bind ?_; simp only [List.zipIdx_cons, List.zipIdx_nil, List.forIn_cons, List.forIn_nil]
  have t0 : TupAt g0 (N + 4) #[a0, a1, a2] := (e0.2 _ (by first | omega | (show @Ne Nat _ _; omega))).trans hTO
  have m0 : ∀ (b : Nat) o, b ∉ zfp3 N → s.heap.get? b = some o → g0.get? b = some o := fun b o hb y => (e0.2 b fun z => hb (zfp3_mem.mpr (by have z : @Eq Nat b _ := z; omega))).trans y
  have d0' : ItK k0 g0 N l0 i := d0.at fun o y => (e0.2 _ (by first | omega | (show @Ne Nat _ _; omega))).trans y
  have d1' : ItK k1 g0 (N + 1) l1 i := d1.at fun o y => (e0.2 _ (by first | omega | (show @Ne Nat _ _; omega))).trans y
  have d2' : ItK k2 g0 (N + 2) l2 i := d2.at fun o y => (e0.2 _ (by first | omega | (show @Ne Nat _ _; omega))).trans y
  refine wpAny_bind (wpAny_bind (wpAny_onRaise ?_)); show wpAny _ _ (Builtin.SmallTypes.nextOf (.ref N) >>= _) _ _ _
  have sq0' : SqK k0 g0 l0 v0 := sq0.at fun o y => m0 _ o (fun z => by have := zfp3_mem.mp z; omega) y
  cases hx0 : v0[i]? with
  | none =>
    refine wpAny_bind (endK hn d0' sq0' hx0 fun u1 e r1 he => ?_)
    have r1 : Heap.ExtBut N g0 u1 := r1
    obtain ⟨oe, hoe, hce⟩ := he
    have y1 : IsZip u1 (N + 5) (N + 3) (N + 4) .ellipsis := r1 _ _ (by first | omega | (show @Ne Nat _ _; omega)) z0
    have hez : e ≠ (N + 5) := fun x => by subst x; rw [y1] at hoe; cases hoe; simp at hce
    refine wpAny_setField_rec y1 (by simp) fun u2 _ r2 => ?_
    have r2 : Heap.SameBut (N + 5) u1 u2 := r2
    refine wpAny_bind (wpAny_isInstance (T := "StopIteration") (b := true) ⟨oe, r2.extBut _ _ hez hoe, hce⟩ isSubtype_stop (wpAny_pure (q _ fun b o hb y => r2.extBut _ _ (fun z => hb (zfp3_mem.mpr (by have z : @Eq Nat b _ := z; omega))) (r1 _ _ (fun z => hb (zfp3_mem.mpr (by have z : @Eq Nat b _ := z; omega))) (m0 b o hb y)))))
  | some x0 =>
    refine wpAny_bind (nextK d0' sq0' hx0 fun g1 c0 e1 => wpAny_pure ?_)
    have e1 : Heap.SameBut N g0 g1 := e1
    have t1 : TupAt g1 (N + 4) #[a0, a1, a2] := (e1.2 _ (by first | omega | (show @Ne Nat _ _; omega))).trans t0
    refine wpAny_bind (wpAny_seqItems t1 rfl ?_); refine wpAny_bind (updT t1 (show 3 ≤ sizeLine by decide) fun g2 t2 e2 => ?_)
    have t2 : TupAt g2 (N + 4) #[x0, a1, a2] := t2
    have e2 : Heap.SameBut (N + 4) g1 g2 := e2
    have z1 : IsZip g2 (N + 5) (N + 3) (N + 4) .ellipsis := (e2.2 _ (by first | omega | (show @Ne Nat _ _; omega))).trans ((e1.2 _ (by first | omega | (show @Ne Nat _ _; omega))).trans z0)
    have m2 : ∀ (b : Nat) o, b ∉ zfp3 N → s.heap.get? b = some o → g2.get? b = some o := fun b o hb y => (e2.2 b fun z => hb (zfp3_mem.mpr (by have z : @Eq Nat b _ := z; omega))).trans ((e1.2 b fun z => hb (zfp3_mem.mpr (by have z : @Eq Nat b _ := z; omega))).trans (m0 b o hb y))
    refine wpAny_bind (wpAny_letGo (wpAny_pure ?_))
    have d1' : ItK k1 g2 (N + 1) l1 i := d1'.at fun o y => (e2.2 _ (by first | omega | (show @Ne Nat _ _; omega))).trans ((e1.2 _ (by first | omega | (show @Ne Nat _ _; omega))).trans y)
    have d2' : ItK k2 g2 (N + 2) l2 i := d2'.at fun o y => (e2.2 _ (by first | omega | (show @Ne Nat _ _; omega))).trans ((e1.2 _ (by first | omega | (show @Ne Nat _ _; omega))).trans y)
    refine wpAny_bind (wpAny_bind (wpAny_onRaise ?_)); show wpAny _ _ (Builtin.SmallTypes.nextOf (.ref (N + 1)) >>= _) _ _ _
    have sq1' : SqK k1 g2 l1 v1 := sq1.at fun o y => m2 _ o (fun z => by have := zfp3_mem.mp z; omega) y
    cases hx1 : v1[i]? with
    | none =>
      refine wpAny_bind (endK hn d1' sq1' hx1 fun u1 e r1 he => ?_)
      have r1 : Heap.ExtBut (N + 1) g2 u1 := r1
      obtain ⟨oe, hoe, hce⟩ := he
      have y1 : IsZip u1 (N + 5) (N + 3) (N + 4) .ellipsis := r1 _ _ (by first | omega | (show @Ne Nat _ _; omega)) z1
      have hez : e ≠ (N + 5) := fun x => by subst x; rw [y1] at hoe; cases hoe; simp at hce
      refine wpAny_setField_rec y1 (by simp) fun u2 _ r2 => ?_
      have r2 : Heap.SameBut (N + 5) u1 u2 := r2
      refine wpAny_bind (wpAny_isInstance (T := "StopIteration") (b := true) ⟨oe, r2.extBut _ _ hez hoe, hce⟩ isSubtype_stop (wpAny_pure (q _ fun b o hb y => r2.extBut _ _ (fun z => hb (zfp3_mem.mpr (by have z : @Eq Nat b _ := z; omega))) (r1 _ _ (fun z => hb (zfp3_mem.mpr (by have z : @Eq Nat b _ := z; omega))) (m2 b o hb y)))))
    | some x1 =>
      refine wpAny_bind (nextK d1' sq1' hx1 fun g3 c1 e3 => wpAny_pure ?_)
      have e3 : Heap.SameBut (N + 1) g2 g3 := e3
      have t3 : TupAt g3 (N + 4) #[x0, a1, a2] := (e3.2 _ (by first | omega | (show @Ne Nat _ _; omega))).trans t2
      refine wpAny_bind (wpAny_seqItems t3 rfl ?_); refine wpAny_bind (updT t3 (show 3 ≤ sizeLine by decide) fun g4 t4 e4 => ?_)
      have t4 : TupAt g4 (N + 4) #[x0, x1, a2] := t4
      have e4 : Heap.SameBut (N + 4) g3 g4 := e4
      have z2 : IsZip g4 (N + 5) (N + 3) (N + 4) .ellipsis := (e4.2 _ (by first | omega | (show @Ne Nat _ _; omega))).trans ((e3.2 _ (by first | omega | (show @Ne Nat _ _; omega))).trans z1)
      have m4 : ∀ (b : Nat) o, b ∉ zfp3 N → s.heap.get? b = some o → g4.get? b = some o := fun b o hb y => (e4.2 b fun z => hb (zfp3_mem.mpr (by have z : @Eq Nat b _ := z; omega))).trans ((e3.2 b fun z => hb (zfp3_mem.mpr (by have z : @Eq Nat b _ := z; omega))).trans (m2 b o hb y))
      refine wpAny_bind (wpAny_letGo (wpAny_pure ?_))
      have d2' : ItK k2 g4 (N + 2) l2 i := d2'.at fun o y => (e4.2 _ (by first | omega | (show @Ne Nat _ _; omega))).trans ((e3.2 _ (by first | omega | (show @Ne Nat _ _; omega))).trans y)
      refine wpAny_bind (wpAny_bind (wpAny_onRaise ?_)); show wpAny _ _ (Builtin.SmallTypes.nextOf (.ref (N + 2)) >>= _) _ _ _
      have sq2' : SqK k2 g4 l2 v2 := sq2.at fun o y => m4 _ o (fun z => by have := zfp3_mem.mp z; omega) y
      cases hx2 : v2[i]? with
      | none =>
        refine wpAny_bind (endK hn d2' sq2' hx2 fun u1 e r1 he => ?_)
        have r1 : Heap.ExtBut (N + 2) g4 u1 := r1
        obtain ⟨oe, hoe, hce⟩ := he
        have y1 : IsZip u1 (N + 5) (N + 3) (N + 4) .ellipsis := r1 _ _ (by first | omega | (show @Ne Nat _ _; omega)) z2
        have hez : e ≠ (N + 5) := fun x => by subst x; rw [y1] at hoe; cases hoe; simp at hce
        refine wpAny_setField_rec y1 (by simp) fun u2 _ r2 => ?_
        have r2 : Heap.SameBut (N + 5) u1 u2 := r2
        refine wpAny_bind (wpAny_isInstance (T := "StopIteration") (b := true) ⟨oe, r2.extBut _ _ hez hoe, hce⟩ isSubtype_stop (wpAny_pure (q _ fun b o hb y => r2.extBut _ _ (fun z => hb (zfp3_mem.mpr (by have z : @Eq Nat b _ := z; omega))) (r1 _ _ (fun z => hb (zfp3_mem.mpr (by have z : @Eq Nat b _ := z; omega))) (m4 b o hb y)))))
      | some x2 =>
          exact absurd hend (by simp only [hx0, hx1, hx2]; rintro (h | h | h) <;> cases h)
end
abbrev zH3_0 (h : Heap) (k0 k1 k2 : Bool) (l0 l1 l2 : Nat) : Heap := (((h.push (itO k0 l0)).push (itO k1 l1)).push (itO k2 l2))
abbrev zH3_1 (h : Heap) (k0 k1 k2 : Bool) (l0 l1 l2 : Nat) : Heap := (zH3_0 h k0 k1 k2 l0 l1 l2).push { cls := .type "tuple", data := .seq #[.ref h.objs.size, .ref (h.push (itO k0 l0)).objs.size, .ref ((h.push (itO k0 l0)).push (itO k1 l1)).objs.size] }
abbrev zH3_2 (h : Heap) (k0 k1 k2 : Bool) (l0 l1 l2 : Nat) : Heap := (zH3_1 h k0 k1 k2 l0 l1 l2).push { cls := .type "tuple", data := .seq #[.none, .none, .none] }
abbrev zH3_3 (h : Heap) (k0 k1 k2 : Bool) (l0 l1 l2 : Nat) : Heap := (zH3_2 h k0 k1 k2 l0 l1 l2).push { cls := .type "zip", data := .fields #[.none, .bool false, .bool false, .ref (zH3_0 h k0 k1 k2 l0 l1 l2).objs.size, .ref (zH3_1 h k0 k1 k2 l0 l1 l2).objs.size] }
theorem zipNew3 (k0 k1 k2 : Bool) (l0 l1 l2 : Nat) (v0 v1 v2 : Array Value) : Meets (Builtin.«zip.__new__» ⟨[.type "zip", .ref l0, .ref l1, .ref l2], []⟩) (fun _ R s => SqK k0 s.heap l0 v0 ∧ SqK k1 s.heap l1 v1 ∧ SqK k2 s.heap l2 v2 ∧ R (.ok (.ret (.ref (zH3_2 s.heap k0 k1 k2 l0 l1 l2).objs.size))) { s with heap := zH3_3 s.heap k0 k1 k2 l0 l1 l2 }) :=
  .of_wp fun prog w A R s h => by
    obtain ⟨hp, g, d, tk, os⟩ := s; obtain ⟨q0, q1, q2, h⟩ := h
    have hsub := sub_zip
    have p0 : SqK k0 (Shared.heap ⟨hp, g, d, tk, os⟩) l0 v0 := q0.at fun o e => e
    have p1 : SqK k1 (Shared.heap ⟨(hp.push (itO k0 l0)), g, d, tk, os⟩) l1 v1 := q1.at fun o e => Heap.get?_push_of_some _ (e)
    have p2 : SqK k2 (Shared.heap ⟨((hp.push (itO k0 l0)).push (itO k1 l1)), g, d, tk, os⟩) l2 v2 := q2.at fun o e => Heap.get?_push_of_some _ (Heap.get?_push_of_some _ (e))
    wp_walk using iterK p0, iterK p1, iterK p2
    exact ⟨_, rfl, h⟩
theorem typeCall_zip3 (a b c : Value) : checkTypeCall "zip" ⟨[a, b, c], []⟩ = pure () := by kernel_rfl
theorem newCall_zip3 (a b c : Value) : checkBuiltinCall "zip.__new__" ⟨[.type "zip", a, b, c], []⟩ = pure () := by kernel_rfl
theorem args_init4 (a b c d : Value) : argsOk "object.__init__" ⟨[a, b, c, d], []⟩ := by
  unfold argsOk; rw [signature?_of (id := "object.__init__") (n := ['_', '_', 't', 'i', 'n', 'i', '_', '_']) (o := ['t', 'c', 'e', 'j', 'b', 'o']) (by kernel_rfl) F.owner_object]; kernel_rfl
theorem callZip3 {prog : Program} {w : World} {A : Around} {E : Value → Shared → Prop} {s : Shared} {k0 k1 k2 : Bool} {l0 l1 l2 : Nat} {v0 v1 v2 : Array Value} {Q : Value → Shared → Prop} (q0 : SqK k0 s.heap l0 v0) (q1 : SqK k1 s.heap l1 v1) (q2 : SqK k2 s.heap l2 v2)
    (h : ∀ h', Zip3 s.heap.objs.size k0 k1 k2 l0 l1 l2 0 .none h' → (∀ c o, s.heap.get? c = some o → h'.get? c = some o) → Q (.ref (s.heap.objs.size + 5)) { s with heap := h' }) : wpAny (model prog w) A (call (.type "zip") [.ref l0, .ref l1, .ref l2]) Q E s := by
  refine callType_new F.called_zip (by decide) (typeCall_zip3 _ _ _) (newCall_zip3 _ _ _) (fun obj => args_init4 obj _ _ _) F.entry_zip_new (zipNew3 k0 k1 k2 l0 l1 l2 v0 v1 v2) ⟨q0, q1, q2, ?_⟩
  have e0 : (zH3_0 s.heap k0 k1 k2 l0 l1 l2).objs.size = s.heap.objs.size + 3 := by simp only [Heap.size_push]
  have e1 : (zH3_1 s.heap k0 k1 k2 l0 l1 l2).objs.size = s.heap.objs.size + 4 := by rw [Heap.size_push, e0]
  have e2 : (zH3_2 s.heap k0 k1 k2 l0 l1 l2).objs.size = s.heap.objs.size + 5 := by rw [Heap.size_push, e1]
  have g2 : (zH3_3 s.heap k0 k1 k2 l0 l1 l2).get? (zH3_2 s.heap k0 k1 k2 l0 l1 l2).objs.size = some _ := Heap.get?_push_size _ rfl
  have g1 : (zH3_3 s.heap k0 k1 k2 l0 l1 l2).get? (zH3_1 s.heap k0 k1 k2 l0 l1 l2).objs.size = some _ := Heap.get?_push_of_some _ (Heap.get?_push_size _ rfl)
  have g0 : (zH3_3 s.heap k0 k1 k2 l0 l1 l2).get? (zH3_0 s.heap k0 k1 k2 l0 l1 l2).objs.size = some _ := Heap.get?_push_of_some _ (Heap.get?_push_of_some _ (Heap.get?_push_size _ rfl))
  rw [e2, e0, e1] at g2
  rw [e1] at g1
  rw [e0] at g0
  simp only [Heap.size_push] at g0
  show _ ∧ _
  rw [e2]
  refine ⟨⟨_, g2, rfl⟩, h _ ⟨g2, g0, ⟨[.none, .none, .none], rfl, g1⟩, ?_, ?_, ?_⟩ fun c o x => Heap.get?_push_of_some _ (Heap.get?_push_of_some _ (Heap.get?_push_of_some _ (Heap.get?_push_of_some _ (Heap.get?_push_of_some _ (Heap.get?_push_of_some _ (x))))))⟩
  · have := (ItK.new k0 (s.heap) l0).at (h' := zH3_3 s.heap k0 k1 k2 l0 l1 l2) fun o e => Heap.get?_push_of_some _ (Heap.get?_push_of_some _ (Heap.get?_push_of_some _ (Heap.get?_push_of_some _ (Heap.get?_push_of_some _ (e)))))
    simpa only [Heap.size_push] using this
  · have := (ItK.new k1 ((s.heap).push (itO k0 l0)) l1).at (h' := zH3_3 s.heap k0 k1 k2 l0 l1 l2) fun o e => Heap.get?_push_of_some _ (Heap.get?_push_of_some _ (Heap.get?_push_of_some _ (Heap.get?_push_of_some _ (e))))
    simpa only [Heap.size_push] using this
  · have := (ItK.new k2 (((s.heap).push (itO k0 l0)).push (itO k1 l1)) l2).at (h' := zH3_3 s.heap k0 k1 k2 l0 l1 l2) fun o e => Heap.get?_push_of_some _ (Heap.get?_push_of_some _ (Heap.get?_push_of_some _ (e)))
    simpa only [Heap.size_push] using this
def Itz3 (K : PySem.W.Frag) (k0 k1 k2 : Bool) (l0 l1 l2 : Nat) : It :=
  ⟨fun i H => ∃ a0 x0 a1 x1 a2 x2, (SqH K H k0 l0 a0 ∧ a0[i]? = some x0) ∧ (SqH K H k1 l1 a1 ∧ a1[i]? = some x1) ∧ (SqH K H k2 l2 a2 ∧ a2[i]? = some x2),
   fun i H x H' => ∃ p y0 y1 y2, H p = none ∧ x = .ref p ∧ H' = upd H p (.tup [y0, y1, y2]) ∧ (∀ xs, SqH K H k0 l0 xs → xs[i]? = some y0) ∧ (∀ xs, SqH K H k1 l1 xs → xs[i]? = some y1) ∧ (∀ xs, SqH K H k2 l2 xs → xs[i]? = some y2),
   fun i H => ∃ a0 a1 a2, SqH K H k0 l0 a0 ∧ SqH K H k1 l1 a1 ∧ SqH K H k2 l2 a2 ∧ (a0.length ≤ i ∨ a1.length ≤ i ∨ a2.length ≤ i)⟩
theorem goZip3 {prog : Program} {w : World} {A : Around} {E : Value → Shared → Prop} {s : Shared} {elts : List Expr} {j : Nat} {pos : Pos} {N i : Nat} {k0 k1 k2 : Bool} {l0 l1 l2 : Nat} {T : Nat} {Q : Unit → Shared → Prop} (st : Zip3 N k0 k1 k2 l0 l1 l2 i (rawInt T) s.heap)
    (q : ∀ h', Zip3 N k0 k1 k2 l0 l1 l2 i .none h' → Heap.SameBut (N + 5) s.heap h' → Q () { s with heap := h' }) : wpAny (model prog w) A (letOwnedTupleGo (.Tuple elts j pos) (.ref (N + 5)) (.ref T)) Q E s := by
  obtain ⟨hz, hTI, ⟨w0, hw0, hTO⟩, d0, d1, d2⟩ := st
  refine wpAny_letOwnedTupleGo_zip hz fun h' hz' hs' => q h' ⟨hz', hs'.extBut _ _ (by first | omega | (show @Ne Nat _ _; omega)) hTI, ⟨w0, hw0, hs'.extBut _ _ (by first | omega | (show @Ne Nat _ _; omega)) hTO⟩, d0.at fun o e => hs'.extBut _ _ (by first | omega | (show @Ne Nat _ _; omega)) e, d1.at fun o e => hs'.extBut _ _ (by first | omega | (show @Ne Nat _ _; omega)) e, d2.at fun o e => hs'.extBut _ _ (by first | omega | (show @Ne Nat _ _; omega)) e⟩ hs'
theorem turn_zip3 {P : Program} {w : World} {K : PySem.W.Frag} {elts : List Expr} {j : Nat} {pos : Pos} (k0 k1 k2 : Bool) (l0 l1 l2 : Nat) (N : Nat) (lt0 : l0 < N) (lt1 : l1 < N) (lt2 : l2 < N) : Turn P w K (.Tuple elts j pos) (Itz3 K k0 k1 k2 l0 l1 l2) (zfp3 N) (N + 5) (fun i h => Zip3 N k0 k1 k2 l0 l1 l2 i .none h) where
  mem := by rw [zfp3_mem]; omega
  obj := fun i h ⟨hz, hTI, ⟨w0, hw0, hTO⟩, d0, d1, d2⟩ b hb => by
    unfold zfp3 at hb
    simp only [List.mem_cons, List.not_mem_nil, or_false] at hb
    rcases hb with rfl | rfl | rfl | rfl | rfl | rfl
    · exact ⟨_, hz, fun v z => by cases z⟩
    · exact ⟨_, hTI, fun v z => by cases z⟩
    · exact ⟨_, hTO, fun v z => by cases z⟩
    · exact d0.obj
    · exact d1.obj
    · exact d2.obj
  keep := fun i h h' ⟨hz, hTI, ⟨w0, hw0, hTO⟩, d0, d1, d2⟩ g => ⟨g _ (by rw [zfp3_mem]; omega) _ hz, g _ (by rw [zfp3_mem]; omega) _ hTI, ⟨w0, hw0, g _ (by rw [zfp3_mem]; omega) _ hTO⟩, d0.at fun o q => g _ (by rw [zfp3_mem]; omega) o q, d1.at fun o q => g _ (by rw [zfp3_mem]; omega) o q, d2.at fun o q => g _ (by rw [zfp3_mem]; omega) o q⟩
  item := by
    intro X hP hw hK hc i pins s σ H E I hf st hg
    subst hP hw hK
    obtain ⟨a0, x0, a1, x1, a2, x2, ⟨b0, hx0⟩, ⟨b1, hx1⟩, ⟨b2, hx2⟩⟩ := hg
    obtain ⟨its0, rv0, p0, hz0⟩ := I.sqK b0
    obtain ⟨u0, hu0, ru0⟩ := rv0.get hx0
    obtain ⟨its1, rv1, p1, hz1⟩ := I.sqK b1
    obtain ⟨u1, hu1, ru1⟩ := rv1.get hx1
    obtain ⟨its2, rv2, p2, hz2⟩ := I.sqK b2
    obtain ⟨u2, hu2, ru2⟩ := rv2.get hx2
    have slt : ∀ b ∈ zfp3 N, b < s.heap.objs.size := fun b hb => by have h1 := zfp3_mem.mp hb; have h2 : @LT.lt Nat _ (N + 5) s.heap.objs.size := Heap.lt_size st.z; show @LT.lt Nat _ b s.heap.objs.size; omega
    refine zipItem3 st p0 (by simpa using hu0) lt0 p1 (by simpa using hu1) lt1 p2 (by simpa using hu2) lt2 fun h' st' hT hk => ?_
    refine ⟨_, rfl, goZip3 st' fun h2 st2 hs2 => ?_⟩
    have hs2 : Heap.SameBut (N + 5) h' h2 := hs2
    have zlt := slt (N + 5) (zfp3_mem.mpr (by first | omega | (show @Ne Nat _ _; omega)))
    have I2 : Inv X pins σ (upd H s.heap.objs.size (.tup [x0, x1, x2])) { s with heap := h2, toks := s.toks } :=
      I.handed (its := [u0, u1, u2]) hf slt (fun b o hb q => (hs2.2 b fun z => hb (zfp3_mem.mpr (by have z : @Eq Nat b _ := z; omega))).trans (hk b o hb q)) ((hs2.2 _ (Nat.ne_of_gt zlt)).trans hT) (.cons ru0 (.cons ru1 (.cons ru2 (.nil)))) (show 3 ≤ sizeLine by decide)
    refine ⟨.ref s.heap.objs.size, _, I2, rfl, ⟨_, x0, x1, x2, I.fresh, rfl, rfl, fun ys hy => by rw [I.sqK_inj hy b0]; exact hx0, fun ys hy => by rw [I.sqK_inj hy b1]; exact hx1, fun ys hy => by rw [I.sqK_inj hy b2]; exact hx2⟩, st2, fun b hb => ?_⟩
    rw [upd_ne (Nat.ne_of_lt (slt b hb))]
    exact (hf b hb).1
  done := by
    intro X hP hw hK hc i pins s σ H E I hf st hg
    subst hP hw hK
    obtain ⟨a0, a1, a2, b0, b1, b2, hend⟩ := hg
    obtain ⟨its0, rv0, p0, hz0⟩ := I.sqK b0
    have hl0 := rv0.length
    obtain ⟨its1, rv1, p1, hz1⟩ := I.sqK b1
    have hl1 := rv1.length
    obtain ⟨its2, rv2, p2, hz2⟩ := I.sqK b2
    have hl2 := rv2.length
    refine zipEnd3 (I.ok.hd hc) st p0 lt0 p1 lt1 p2 lt2 ?_ fun h' hk => ⟨rfl, I.turnedN (t' := s.toks) hk hf⟩
    simp only [List.getElem?_toArray, List.getElem?_eq_none_iff]
    omega
  self := fun _ _ _ _ _ st h => wpAny_pyIter_zip st.z h
end L2

end
section
set_option Elab.async false
set_option linter.all false
set_option maxRecDepth 100000
namespace L2
open PySem PySem.Spec PyProof.Rows
section
variable {X : Cx} {a b c e : Expr} {body elts : List Expr} {pos p tpos : Pos} {jt : Nat}
theorem SqK.lt {k : Bool} {h : Heap} {a : Addr} {its : Array Value} (x : SqK k h a its) : a < h.objs.size := by
  cases k <;> exact let ⟨o, ho, _⟩ := x; Heap.lt_size ho
def iEnum (K : PySem.W.Frag) (ta : TA) : TI := fun σ H R => ta σ H fun vs H1 => ∃ k a xs, vs = [.ref a] ∧ SqH K H1 k a xs ∧ R (Ite K k a) H1
theorem pi_enum {ta : TA} (hg : Gl X "enumerate") (hm : X.mg "enumerate" = none) (ha : PA X [a] ta) (hs : starEach [a] X.env = [(false, eval a X.env)] := by rfl) : PI X (.Tuple elts jt tpos) (.Call (.Name "enumerate" p) [a] [] pos) (iEnum X.K ta) := by
  intro pins s σ H R I h
  refine Call_ (ld_blt I hg hm boot_enumerate (PyProof.Rows.callWith_type1 (thn (ha pos pins s σ H _ I h) fun us s1 ⟨vs, H1, I1, r1, q1⟩ => ?_) hs rfl))
  obtain ⟨k, a, xs, rfl, hq, q⟩ := q1
  cases r1 with
  | cons r rr =>
    cases rr
    cases r
    obtain ⟨its, rv, p, hz⟩ := I1.sqK hq
    refine call_enumK p fun h' he hit hk => wpAny_pyIter_enum he ?_
    have lt := p.lt
    refine ⟨s1.heap.objs.size + 1, [s1.heap.objs.size + 1, s1.heap.objs.size], _, _, H1, rfl, I1.kept (t' := s1.toks) hk, turn_enum k a s1.heap.objs.size (s1.heap.objs.size + 1) (Nat.ne_of_lt lt) (Nat.ne_of_gt (Nat.lt_succ_of_lt lt)) (Nat.succ_ne_self _), ⟨⟨.none, he⟩, hit⟩, fun b hb => ?_, q⟩
    have hb : s1.heap.objs.size ≤ b := by
      rcases List.mem_cons.mp hb with z | z
      · rw [z]; exact Nat.le_succ _
      · rw [show b = s1.heap.objs.size by simpa using z]; exact Nat.le_refl _
    exact I1.fpOk hb (I1.hok.fresh hb)
def iZip3 (K : PySem.W.Frag) (ta : TA) : TI := fun σ H R => ta σ H fun vs H1 => ∃ k0 k1 k2 a0 a1 a2 xs0 xs1 xs2, vs = [.ref a0, .ref a1, .ref a2] ∧ SqH K H1 k0 a0 xs0 ∧ SqH K H1 k1 a1 xs1 ∧ SqH K H1 k2 a2 xs2 ∧ R (Itz3 K k0 k1 k2 a0 a1 a2) H1
theorem pi_zip3 {ta : TA} (hg : Gl X "zip") (hm : X.mg "zip" = none) (ha : PA X [a, b, c] ta) (hs : starEach [a, b, c] X.env = [(false, eval a X.env), (false, eval b X.env), (false, eval c X.env)] := by rfl)
    (hs2 : starEach [b, c] X.env = [(false, eval b X.env), (false, eval c X.env)] := by rfl) :
    PI X (.Tuple elts jt tpos) (.Call (.Name "zip" p) [a, b, c] [] pos) (iZip3 X.K ta) := by
  intro pins s σ H R I h
  refine Call_ (ld_blt I hg hm boot_zip (PyProof.Rows.callWith_type1 (thn (ha pos pins s σ H _ I h) fun us s1 ⟨vs, H1, I1, r1, q1⟩ => ?_) (by rw [hs, hs2]) (by rw [hs2]; rfl)))
  obtain ⟨k0, k1, k2, a0, a1, a2, xs0, xs1, xs2, rfl, h0, h1, h2, q⟩ := q1
  obtain ⟨u0, u1, u2, rfl, e0, e1, e2⟩ := vals3 r1
  cases e0
  cases e1
  cases e2
  obtain ⟨its0, rv0, p0, hz0⟩ := I1.sqK h0
  obtain ⟨its1, rv1, p1, hz1⟩ := I1.sqK h1
  obtain ⟨its2, rv2, p2, hz2⟩ := I1.sqK h2
  refine callZip3 p0 p1 p2 fun h' st hk => wpAny_pyIter_zip st.z ?_
  refine ⟨_, zfp3 s1.heap.objs.size, _, _, H1, rfl, I1.kept (t' := s1.toks) hk, turn_zip3 k0 k1 k2 a0 a1 a2 s1.heap.objs.size p0.lt p1.lt p2.lt, st, fun b hb => ?_, q⟩
  have hb : s1.heap.objs.size ≤ b := (zfp3_mem.mp hb).1
  exact I1.fpOk hb (I1.hok.fresh hb)
def WalkN (J : It) (F : Hp) (ds : List D) : Prop := ∀ F' H', (∀ b o, F b = some o → F' b = some o) → Sub F' H' → ∀ i, (∀ d, ds[i]? = some d → J.go i H' ∧ ∀ x H2, J.yld i H' x H2 → ∃ F2, New F' H' F2 H2 ∧ Sub F2 H2 ∧ Rep F2 x d) ∧ (ds.length ≤ i → J.stop i H')
def tItN (K : PySem.W.Frag) (B : Base) (gi : GI) : TI := fun σ H R => ∃ S F ds S', Rel K B S σ F H ∧ gi S = some (ds, S') ∧ ∀ J F' H', Rel K B S' σ F' H' → Step S S' σ F H F' H' → WalkN J F' ds → R J H'
structure JIN (X : Cx) (tg e : Expr) (gi : GI) : Prop where
  h : ∀ B, PI X tg e (tItN X.K B gi)
def seqD : D → Option (Bool × List D)
  | .lst ds => some (true, ds)
  | .tup ds => some (false, ds)
  | _ => none
theorem Sub.seqAt {K : PySem.W.Frag} {F H : Hp} {v : V} {d : D} {k : Bool} {ds : List D} (sb : Sub F H) (r : Rep F v d) (e : seqD d = some (k, ds)) :
    ∃ a vs, v = .ref a ∧ Reps F vs ds ∧ ∀ F' H', (∀ b o, F b = some o → F' b = some o) → Sub F' H' → SqH K H' k a vs := by
  cases d <;> try (cases e; done)
  · cases e
    obtain ⟨a, vs, rfl, fa, ha, rs⟩ := sb.tupAt r
    exact ⟨a, vs, rfl, rs, fun F' H' le sb' => .inl (Rd.of (sb' a _ (le _ _ fa)))⟩
  · cases e
    obtain ⟨a, vs, rfl, fa, ha, rs⟩ := sb.lstAt r
    exact ⟨a, vs, rfl, rs, fun F' H' le sb' => .inl (Rd.of (sb' a _ (le _ _ fa)))⟩
def enumD (ds : List D) : List D := ds.mapIdx fun i d => .tup [.int i, d]
def gEnum (gA : GA) : GI := fun S => (gA S).bind fun p => match p.1 with
  | [d] => (seqD d).map fun q => (enumD q.2, p.2)
  | _ => none
theorem ji_enum {gA : GA} (hg : Gl X "enumerate") (hm : X.mg "enumerate" = none) (ha : JA X [a] gA) (hs : starEach [a] X.env = [(false, eval a X.env)] := by rfl) : JIN X (.Tuple elts jt tpos) (.Call (.Name "enumerate" p) [a] [] pos) (gEnum gA) :=
  ⟨fun B => PI.orelse fun σ H R0 ⟨S, F, ds, S', R, hg', k⟩ => by
  obtain ⟨⟨args, S1⟩, h1, hg'⟩ := bind_some' hg'
  refine ⟨_, pi_enum hg hm (ha.h B) hs, S, F, args, S1, R, h1, fun vs F1 H1 R1 st1 r1 => ?_⟩
  dsimp only at hg'
  split at hg'
  · obtain ⟨⟨kk, es⟩, h2, hg'⟩ := map_some' hg'
    cases hg'
    cases r1 with
    | cons r rr =>
      cases rr
      obtain ⟨a, ws, rfl, rs, sq⟩ := R1.sub.seqAt (K := X.K) r h2
      refine ⟨kk, a, ws, rfl, sq F1 H1 (fun _ _ z => z) R1.sub, k _ F1 H1 R1 st1 fun F' H' le sb i => ⟨fun d hd => ?_, fun hl => ⟨ws, sq F' H' le sb, by rw [rs.length]; simpa [enumD] using hl⟩⟩⟩
      unfold enumD at hd
      rw [List.getElem?_mapIdx] at hd
      obtain ⟨d0, hd0, rfl⟩ := map_some' hd
      obtain ⟨v, k1, k2⟩ := rs.get hd0
      refine ⟨⟨ws, v, sq F' H' le sb, k1⟩, fun x H2 y => ?_⟩
      obtain ⟨p, y, hp, rfl, rfl, hy⟩ := y
      have ey := hy ws (sq F' H' le sb)
      rw [k1] at ey
      cases ey
      exact ⟨_, New.root sb hp _, sb.tupNew hp, .tup upd_same (.cons (.int _) (.cons (k2.le fun b o z => le_upd (sb.fresh hp) b o (le b o z)) .nil))⟩
  · cases hg'⟩
def gZip2 (gA : GA) : GI := fun S => (gA S).bind fun p => match p.1 with
  | [d, e] => (seqD d).bind fun q => (seqD e).map fun r => (List.zipWith (fun a b => .tup [a, b]) q.2 r.2, p.2)
  | _ => none
def zip3D (a b c : List D) : List D := List.zipWith (fun x y => .tup (x :: y)) a (List.zipWith (fun y z => [y, z]) b c)
def gZip3 (gA : GA) : GI := fun S => (gA S).bind fun p => match p.1 with
  | [d, e, f] => (seqD d).bind fun q => (seqD e).bind fun r => (seqD f).map fun t => (zip3D q.2 r.2 t.2, p.2)
  | _ => none
theorem ji_zip3 {gA : GA} (hg : Gl X "zip") (hm : X.mg "zip" = none) (ha : JA X [a, b, c] gA) (hs : starEach [a, b, c] X.env = [(false, eval a X.env), (false, eval b X.env), (false, eval c X.env)] := by rfl)
    (hs2 : starEach [b, c] X.env = [(false, eval b X.env), (false, eval c X.env)] := by rfl) :
    JIN X (.Tuple elts jt tpos) (.Call (.Name "zip" p) [a, b, c] [] pos) (gZip3 gA) :=
  ⟨fun B => PI.orelse fun σ H R0 ⟨S, F, ds, S', R, hg', k⟩ => by
  obtain ⟨⟨args, S1⟩, h1, hg'⟩ := bind_some' hg'
  refine ⟨_, pi_zip3 hg hm (ha.h B) hs hs2, S, F, args, S1, R, h1, fun vs F1 H1 R1 st1 r1 => ?_⟩
  dsimp only at hg'
  split at hg'
  · obtain ⟨⟨k0, es0⟩, h2, hg'⟩ := bind_some' hg'
    obtain ⟨⟨k1, es1⟩, h3, hg'⟩ := bind_some' hg'
    obtain ⟨⟨k2, es2⟩, h4, hg'⟩ := map_some' hg'
    cases hg'
    cases r1 with
    | cons r rr =>
      cases rr with
      | cons r' rr =>
        cases rr with
        | cons r'' rr =>
          cases rr
          obtain ⟨a0, ws0, rfl, rs0, sq0⟩ := R1.sub.seqAt (K := X.K) r h2
          obtain ⟨a1, ws1, rfl, rs1, sq1⟩ := R1.sub.seqAt (K := X.K) r' h3
          obtain ⟨a2, ws2, rfl, rs2, sq2⟩ := R1.sub.seqAt (K := X.K) r'' h4
          refine ⟨k0, k1, k2, a0, a1, a2, ws0, ws1, ws2, rfl, sq0 F1 H1 (fun _ _ z => z) R1.sub, sq1 F1 H1 (fun _ _ z => z) R1.sub, sq2 F1 H1 (fun _ _ z => z) R1.sub, k _ F1 H1 R1 st1 fun F' H' le sb i => ⟨fun d hd => ?_, fun hl => ⟨ws0, ws1, ws2, sq0 F' H' le sb, sq1 F' H' le sb, sq2 F' H' le sb, ?_⟩⟩⟩
          · unfold zip3D at hd
            rw [List.getElem?_zipWith, List.getElem?_zipWith] at hd
            cases q0 : es0[i]? with
            | none => rw [q0] at hd; cases hd
            | some d0 =>
              cases q1 : es1[i]? with
              | none => rw [q0, q1] at hd; cases hd
              | some d1 =>
                cases q2 : es2[i]? with
                | none => rw [q0, q1, q2] at hd; cases hd
                | some d2 =>
                  rw [q0, q1, q2] at hd
                  cases hd
                  obtain ⟨v0, m0, n0⟩ := rs0.get q0
                  obtain ⟨v1, m1, n1⟩ := rs1.get q1
                  obtain ⟨v2, m2, n2⟩ := rs2.get q2
                  refine ⟨⟨ws0, v0, ws1, v1, ws2, v2, ⟨sq0 F' H' le sb, m0⟩, ⟨sq1 F' H' le sb, m1⟩, sq2 F' H' le sb, m2⟩, fun x H2 y => ?_⟩
                  obtain ⟨p, y0, y1, y2, hp, rfl, rfl, hy0, hy1, hy2⟩ := y
                  have e0 := hy0 ws0 (sq0 F' H' le sb)
                  have e1 := hy1 ws1 (sq1 F' H' le sb)
                  have e2 := hy2 ws2 (sq2 F' H' le sb)
                  rw [m0] at e0
                  rw [m1] at e1
                  rw [m2] at e2
                  cases e0
                  cases e1
                  cases e2
                  have le2 := fun b o z => le_upd (o := .tup [v0, v1, v2]) (sb.fresh hp) b o (le b o z)
                  exact ⟨_, New.root sb hp _, sb.tupNew hp, .tup upd_same (.cons (n0.le le2) (.cons (n1.le le2) (.cons (n2.le le2) .nil)))⟩
          · unfold zip3D at hl
            rw [List.length_zipWith, List.length_zipWith, ← rs0.length, ← rs1.length, ← rs2.length] at hl
            omega
  · cases hg'⟩
theorem js_forN {tg iter : Expr} {stmts : List Stmt} {s1 : GS} {bd : GB} {gi : GI} (hp : PassesOwn (model X.prog X.w) X.A X.env X.xe) (hc : X.calm = true) (hi : JIN X tg iter gi) (hg : JG X tg bd) (hb : JB X stmts s1) (hs : ∀ x, foldedSetIterable iter X.env x = pure x := by intro _; rfl) :
    JS X (.For tg iter stmts [] pos) (sFor bd gi s1) := ⟨fun B => (ps_for hp hc (hi.h B) (hg.h B) (hb.h B) hs).imp fun D σ H ⟨S, F, o, R, h, k⟩ => by
  obtain ⟨⟨ds, S1⟩, h1, h⟩ := bind_some' h
  refine ⟨S, F, ds, S1, R, h1, fun J F1 H1 R1 st1 w => ?_⟩
  refine ⟨fun i m σ' H' => ∃ S' F', Rel X.K B S' σ' F' H' ∧ (∀ b o, F1 b = some o → F' b = some o) ∧ i ≤ ds.length ∧ m = ds.length - i ∧ loop bd s1 (ds.drop i) S' = some o, ⟨_, S1, F1, R1, fun _ _ z => z, Nat.zero_le _, rfl, h⟩, ?_⟩
  rintro i m σ' H' ⟨S', F', R', le, hl, rfl, hlp⟩
  have w' := w F' H' le R'.sub i
  by_cases hlt : i < ds.length
  · have hd : ds[i]? = some ds[i] := List.getElem?_eq_getElem hlt
    obtain ⟨go, yl⟩ := w'.1 _ hd
    rw [List.drop_eq_getElem_cons hlt] at hlp
    obtain ⟨S2, e2, hlp⟩ := bind_some' hlp
    obtain ⟨o2, e3, hlp⟩ := bind_some' hlp
    refine .inr ⟨go, _, fun σ2 H2 n => ⟨ds.length - (i + 1), by omega, n⟩, fun x H2 y => ?_⟩
    obtain ⟨F2, nw, sb2, rx⟩ := yl x H2 y
    have R2 := R'.new nw sb2
    have le : ∀ b o, F1 b = some o → F2 b = some o := fun b o z => nw.le b o (le b o z)
    refine ⟨S', F2, _, S2, R2, rx, e2, fun σ3 R3 => ⟨S2, F2, o2, R3, e3, ?_⟩⟩
    cases o2 with
    | nx S3 => exact fun σ4 F4 H4 R4 le4 => ⟨S3, F4, R4, fun b o z => le4 b o (le b o z), hlt, rfl, hlp⟩
    | ct S3 => exact fun σ4 F4 H4 R4 le4 => ⟨S3, F4, R4, fun b o z => le4 b o (le b o z), hlt, rfl, hlp⟩
    | bk S3 => cases hlp; exact fun σ4 F4 H4 R4 le4 => k σ4 F4 H4 R4 fun b o z => le4 b o (le b o (st1.ext.le b o z))
    | rt u S3 => cases hlp; exact fun v σ4 F4 H4 R4 le4 => k v σ4 F4 H4 R4 fun b o z => le4 b o (le b o (st1.ext.le b o z))
  · have e : i = ds.length := by omega
    subst e
    rw [List.drop_length] at hlp
    cases hlp
    exact .inl ⟨w'.2 (Nat.le_refl _), k σ' F' H' R' fun b o z => le b o (st1.ext.le b o z)⟩⟩
end
end L2

end
section
set_option Elab.async false
set_option linter.all false
set_option maxRecDepth 100000
namespace L2
open PySem PySem.Spec PyProof.Rows
section
variable {X : Cx} {a b c e : Expr} {x y : Str} {p px py pos pos' tpos : Pos} {f : List D → Option U} {gb : GD}
theorem Vals.repl {v : V} {u : Value} (r : RelV v u) : ∀ m : Nat, Vals (List.replicate m v) (List.replicate m u)
  | 0 => .nil
  | m + 1 => .cons r (Vals.repl r m)
theorem Reps.repl {F : Hp} {v : V} {d : D} (r : Rep F v d) : ∀ m : Nat, Reps F (List.replicate m v) (List.replicate m d)
  | 0 => .nil
  | m + 1 => .cons r (Reps.repl r m)
end
end L2

end
section
set_option Elab.async false
set_option linter.all false
set_option maxRecDepth 100000
namespace L2
open PySem PySem.Spec PyProof.Rows
def eNewT : GE := fun S => some (.m (.dtt []), S)
def eNewK : GE := fun S => some (.m (.dct []), S)
section
variable {X : Cx} {a b c e k : Expr} {x y : Str} {p px py pos pos' tpos apos cpos : Pos} {gk : GD}
def hasD : U → D → Option Bool
  | .m (.dct kvs), k => (keyOf k).map fun kk => (lookD kvs kk).isSome
  | .b (.dct kvs), k => (keyOf k).map fun kk => (lookD kvs kk).isSome
  | .m (.dtt kvs), k => (keyT k).map fun kk => (lookD kvs kk).isSome
  | .b (.dtt kvs), k => (keyT k).map fun kk => (lookD kvs kk).isSome
  | _, _ => none
def eInD (n : Bool) (i : Nat) (g : GD) : GD := fun S => (g S).bind fun p => match p.2[i]? with
  | some (some u) => (hasD u p.1).map fun h => (.bl (n != h), p.2)
  | _ => none
theorem look_val {κ : Type} [DecidableEq κ] {F : Hp} {ws : List (κ × V)} {kvs : List (κ × D)} (pr : Paired (PairD F) ws kvs) (k : κ) : (valV ws k).isSome = (lookD kvs k).isSome := by
  cases e : lookD kvs k with
  | none => rw [look_none pr e]; rfl
  | some d => obtain ⟨v, h, _⟩ := look_pair pr e; rw [h]; rfl
theorem has_get {K : PySem.W.Frag} {F H : Hp} {v w : V} {u : U} {d : D} {h : Bool} (sb : Sub F H) (r : RepU K F H v u) (rk : Rep F w d) (e : hasD u d = some h) : ∃ a o, v = .ref a ∧ DGet H a w o ∧ o.isSome = h := by
  unfold hasD at e
  split at e
  · obtain ⟨kk, e1, rfl⟩ := map_some' e
    obtain ⟨a, rfl, fa, ws, ha, pr⟩ := r
    rw [keyOf_rep rk e1]
    exact ⟨a, _, rfl, DGet.k ha, look_val pr kk⟩
  · obtain ⟨kk, e1, rfl⟩ := map_some' e
    obtain ⟨a, rfl, fa, ws, ha, pr⟩ := r
    rw [keyOf_rep rk e1]
    exact ⟨a, _, rfl, DGet.k ha, look_val pr kk⟩
  · obtain ⟨kk, e1, rfl⟩ := map_some' e
    obtain ⟨a, rfl, fa, ws, ha, pr⟩ := r
    obtain ⟨b, rfl, hb⟩ := keyT_rep sb rk e1
    exact ⟨a, _, rfl, DGet.t ha hb, look_val pr kk⟩
  · obtain ⟨kk, e1, rfl⟩ := map_some' e
    obtain ⟨a, rfl, fa, ws, ha, pr⟩ := r
    obtain ⟨b, rfl, hb⟩ := keyT_rep sb rk e1
    exact ⟨a, _, rfl, DGet.t ha hb, look_val pr kk⟩
  · cases e
theorem inD_imp {B : Base} {n : Bool} {i : Nat} {σ : St} {H : Hp} {Q : VK} (h : tD X.K B (eInD n i gk) σ H Q) : tD X.K B gk σ H fun y H1 => tVar i σ H1 fun x H2 => ∃ a o, x = .ref a ∧ DGet H2 a y o ∧ Q (.bl (n != o.isSome)) H2 := by
  obtain ⟨S, F, d, S', R, hg, q⟩ := h
  obtain ⟨⟨d1, S1⟩, h1, hg⟩ := bind_some' hg
  dsimp only at hg
  split at hg
  · rename_i u hS
    obtain ⟨h, h2, hg⟩ := map_some' hg
    cases hg
    refine ⟨S, F, d1, _, R, h1, fun v F1 H1 R1 st1 r1 => ?_⟩
    obtain ⟨v0, hv0, r0⟩ := R1.rep i u hS
    obtain ⟨a, o, e1, g1, e2⟩ := has_get R1.sub r0 r1 h2
    refine ⟨v0, hv0, a, o, e1, g1, ?_⟩
    rw [e2]
    exact q (.bl _) F1 H1 R1 st1 (.bl _)
  · cases hg
def idxD (d : D) : List D → Option Nat
  | [] => none
  | e :: ds => if eqD e d then some 0 else (idxD d ds).map (· + 1)
def hIndex : List D → MO → Option (D × MO)
  | [d], .lst ds => if depDs ds ≤ 40 ∧ ds.length < 100000 then (idxD d ds).map fun j => (.int (j : Nat), .lst ds) else none
  | _, _ => none
end
end L2

end
section
set_option Elab.async false
set_option linter.all false
set_option maxRecDepth 100000
namespace L2
open PySem PySem.Spec PyProof.Rows
def tDispT (tk tv : TE) : TE := fun σ H Q => ∀ p, H p = none → tk σ (upd H p (.dT [])) fun x H1 => tv σ H1 fun y H2 => ∃ x' y', [(x, y)] = [(x', y')] ∧ H2 p = some (.dT []) ∧ ∃ (b : Addr) (ks : List Key), x' = .ref b ∧ H2 b = some (.tup (ks.map kV)) ∧ Q (.ref p) (upd H2 p (.dT [(ks, y')]))
def eDictT (gk gv : GD) : GE := fun S => (gk S).bind fun p => (keyT p.1).bind fun kk => (gv p.2).map fun q => (.m (.dtt [(kk, q.1)]), q.2)
section
variable {X : Cx} {k v : Expr} {pos : Pos} {tk tv : TE} {gk gv : GD}
theorem pe_dispT (hu : X.A.units + 1 < cLine) (hk : PE X k tk) (hv : PE X v tv) : PE X (.Dict [some k] [v] pos) (tDispT tk tv) := by
  intro pins s σ H Q I q
  have hn := I.hok.fresh (Nat.le_refl s.heap.objs.size)
  have I1 := I.laid (a := s.heap.objs.size) (o := .dT []) (h' := s.heap.push { cls := .type "dict", data := .dict #[] }) (t' := s.toks) (fun _ _ q => Heap.get?_push_of_some _ q) (Nat.le_refl _) (dt_empty s.heap I.big)
  have q0 := q _ hn
  refine wpAny_Dict_any rfl rfl (by simp) (by simp) (thn (pps_cons hk hv (pps_nil (pos := pos)) pins _ σ _ (fun ps H2 => ∃ x y, ps = [(x, y)] ∧ H2 s.heap.objs.size = some (.dT []) ∧ ∃ (b : Addr) (ks : List Key), x = .ref b ∧ H2 b = some (.tup (ks.map kV)) ∧ Q (.ref s.heap.objs.size) (upd H2 s.heap.objs.size (.dT [(ks, y)]))) I1 q0) fun ws s2 ⟨ps, H2, I2, rel, x, y, ep, e, b, ks, ex, eb, q2⟩ => ?_)
  subst ep ex
  cases rel with
  | @cons p w0 ps ws r rr =>
    cases rr
    obtain ⟨u, w2⟩ := w0
    obtain ⟨r1, r2⟩ := r
    cases (show u = Value.ref b from r1)
    obtain ⟨z, hd, xs, rel, dd⟩ := dt_of I2.hok e
    have kt := KT.put rel ks eb r2
    cases rel
    unfold storeAll
    rw [List.forIn_cons]
    refine wpAny_bind (wpAny_bind (wpAny_dictSet_heap (hsz := Nat.zero_le _) (Nat.lt_of_succ_lt hu : X.A.units < cLine) (key_of I2.hok eb) dd fun h' dd' hs => wpAny_pure ?_))
    dsimp only
    rw [List.forIn_nil]
    refine wpAny_pure ⟨.ref s.heap.objs.size, _, ?_, rfl, q2⟩
    obtain ⟨q, es, ep, hq, h2, h3, h4, _, h5⟩ := dd'
    refine d_write I2 (by rw [e]; exact True.intro) hs ⟨q, hq⟩ ⟨by rw [sizeLine_eq]; show 1 ≤ _; omega, hd, _, kt.keeps fun c ys ec => ?_, q, es, ep, hq, h2, h3, h4, h5⟩
    rw [upd_ne (ne_of ec e (fun z => nomatch z))]
    exact ec
theorem je_dictT (hu : X.A.units + 1 < cLine) (hk : JD X k gk) (hv : JD X v gv) : JE X (.Dict [some k] [v] pos) (eDictT gk gv) := ⟨fun B => (pe_dispT hu (hk.h B) (hv.h B)).imp fun σ H Q ⟨S, F, u, S', R, hg, q⟩ => by
  obtain ⟨⟨d1, S1⟩, h1, hg⟩ := bind_some' hg
  obtain ⟨ks, hk1, hg⟩ := bind_some' hg
  obtain ⟨⟨d2, S2⟩, h2, hg⟩ := map_some' hg
  cases hg
  intro p hp
  have n := New.obj (F := F) hp (.dT [])
  have hn : ¬ mutAt S σ p := fun m => by obtain ⟨o, ho⟩ := R.has m; rw [hp] at ho; cases ho
  refine ⟨S, F, d1, S1, R.new n (R.sub.same n.same), h1, fun v1 F1 H1 R1 st0 r1 => ⟨S1, F1, d2, S2, R1, h2, fun v2 F2 H2 R2 st2 r2 => ?_⟩⟩
  have st1 := st0.trans st2
  have hp1 : H2 p = some (.dT []) := st1.ext.keep p _ upd_same hn
  have hf1 : F2 p = none := st1.ext.nofr p _ upd_same hn (R.sub.fresh hp)
  have hn1 : ¬ mutAt S2 σ p := fun m => hn (st1.mu p m)
  have hB : B.H p = none := none_of R.ext.there hp
  obtain ⟨b, rfl, hb⟩ := keyT_rep R2.sub (r1.le st2.ext.le) hk1
  refine ⟨_, _, rfl, hp1, b, ks, rfl, hb, ?_⟩
  have R3 := R2.poke (o' := .dT [(ks, v2)]) hn1 hf1 hB hp1 (fun _ _ z => by cases z)
  refine q (.ref p) F2 _ R3 ⟨⟨st1.ext.le, fun b o z m => ?_, fun b o z m f => ?_, fun b o z => ?_, fun b ob w z => ?_⟩, st1.mu, st1.slots⟩ ⟨p, rfl, hp, hf1, ⟨_, upd_same, .cons ⟨rfl, r2⟩ .nil⟩, hn1, hB⟩
  · have hb : b ≠ p := ne_of_none z hp
    rw [upd_ne hb]
    exact st1.ext.keep b o (by rw [upd_ne hb]; exact z) m
  · have hb : b ≠ p := ne_of_none z hp
    exact st1.ext.nofr b o (by rw [upd_ne hb]; exact z) m f
  · have hb : b ≠ p := ne_of_none z hp
    rw [upd_ne hb]
    exact st1.ext.there b o (by rw [upd_ne hb]; exact z)
  · have hb : b ≠ p := ne_of_none z hp
    rw [upd_ne hb]
    exact st1.ext.frz b ob w (by rw [upd_ne hb]; exact z)⟩
theorem jt_notInD {i : Nat} {x : Str} {px : Pos} (hu : X.A.units + 1 < cLine) (hk : JD X k gk) (hN : X.N[i]? = some x := by rfl) (hv : Vis X.env.scope x := by first | exact Or.inl rfl | exact Or.inr (Or.inl rfl) | exact Or.inr (Or.inr rfl)) (hd : (x == ("__debug__" : Str)) = false := by decide) (hcd : (x == ("__classdict__" : Str)) = false := by decide)
    (hm : behindInMarks .NotIn (.Name x px) = false := by with_unfolding_all rfl) : JT X (.Compare k [.NotIn] [.Name x px] pos) (qB (eInD true i gk)) := ⟨fun B => (pt_cmp (pc_dnotin hu (hk.h B) (pe_var hN hv hd hcd)) hm).imp fun σ H Q ⟨S, F, kk, S', R, hg, q⟩ => by
  have h : tD X.K B (eInD true i gk) σ H (fun v H' => ∃ d, v = .bl d ∧ Q d H') := ⟨S, F, .bl kk, S', R, qB_some hg, fun v F' H' R' st r => ⟨kk, rep_bl r, q F' H' R' st⟩⟩
  have h2 := inD_imp h
  simpa [tB, tDNotIn] using h2⟩
end
end L2

end
section
set_option Elab.async false
set_option linter.all false
set_option maxRecDepth 100000
namespace L2
open PySem PySem.Spec PyProof.Rows
section
variable (S : SS) (d e : D) (o : MO) (i j : Nat) (g ga gb gc : GD) (ge : GE) (q q1 q2 : GT) (gA : GA) (gu : GU) (a b : GS) (f f' : List D → Option U) (fm : FM) (bd : GB) (gi : GI)
@[simp] theorem m_eVar : eVar i S = match S[i]? with | some (some (.t d)) => some (.t d, S) | some (some (.s d)) => some (.s d, S) | some (some _) => some (.v i, S) | _ => none := rfl
@[simp] theorem m_eC : eC d S = some (d, S) := rfl
@[simp] theorem m_aNil : aNil S = some ([], S) := rfl
@[simp] theorem m_aCons : aCons g gA S = (g S).bind fun p => (gA p.2).map fun q => (p.1 :: q.1, q.2) := rfl
@[simp] theorem m_eP : eP f gA S = (gA S).bind fun p => (f p.1).map fun u => (u, p.2) := rfl
@[simp] theorem m_eF : eF ge S = (ge S).bind fun p => fz p.1 p.2 := rfl
@[simp] theorem m_eT : eT g S = (g S).map fun p => (.t p.1, p.2) := rfl
@[simp] theorem m_fz_t : fz (.t d) S = some (d, S) := rfl
@[simp] theorem m_fz_m (ds : List D) : fz (.m (.lst ds)) S = some (.lst ds, S) := rfl
@[simp] theorem m_fz_v : fz (.v i) S = match S[i]? with | some (some (.t d)) => some (d, S) | some (some (.m (.lst ds))) => some (.lst ds, S.set i (some (.t (.lst ds)))) | _ => none := rfl
@[simp] theorem m_qB : qB g S = (g S).bind fun p => match p.1 with | .bl k => some (k, p.2) | _ => none := rfl
@[simp] theorem m_qNot : qNot q S = (q S).map fun p => (!p.1, p.2) := rfl
@[simp] theorem m_qAnd : qAnd q1 q2 S = (q1 S).bind fun p => if p.1 then q2 p.2 else some (false, p.2) := rfl
@[simp] theorem m_qOr : qOr q1 q2 S = (q1 S).bind fun p => if p.1 then some (true, p.2) else q2 p.2 := rfl
@[simp] theorem m_eQ : eQ q S = (q S).map fun p => (.bl p.1, p.2) := rfl
@[simp] theorem m_qTrue : qTrue S = some (true, S) := rfl
@[simp] theorem m_eCh : eCh f f' ga gb gc S = (ga S).bind fun p => (gb p.2).bind fun q => match f [p.1, q.1] with
  | some (.t (.bl k)) => if k then (gc q.2).bind fun r => match f' [q.1, r.1] with
      | some (.t (.bl k')) => some (.bl k', r.2)
      | _ => none
    else some (.bl false, q.2)
  | _ => none := rfl
@[simp] theorem m_eIf (g1 g2 : GE) : eIf q g1 g2 S = (q S).bind fun p => if p.1 then g1 p.2 else g2 p.2 := rfl
@[simp] theorem m_sNil : sNil S = some (.nx S) := rfl
@[simp] theorem m_sSeq : sSeq a b S = (a S).bind fun o => match o with | .nx S1 => b S1 | o => some o := rfl
@[simp] theorem m_sSet : sSet i ge S = (ge S).bind fun p => match p.1 with | .m o => (setU i (.m o) p.2).map .nx | u => (fz u p.2).bind fun q => (setU i (.t q.1) q.2).map .nx := rfl
@[simp] theorem m_setU (u : U) : setU i u S = match S[i]? with | some (some (.b _)) => none | some _ => some (S.set i (some u)) | none => none := rfl
@[simp] theorem m_sExpr : sExpr ge S = (ge S).map fun p => .nx p.2 := rfl
@[simp] theorem m_sRet : sRet ge S = (ge S).bind fun p => match p.1 with
  | .v i => match p.2[i]? with
    | some (some (.t d)) => some (.rt (.t d) p.2)
    | some (some (.m o)) => some (.rt (.m o) (p.2.set i none))
    | _ => none
  | .s _ => none
  | u => some (.rt u p.2) := rfl
@[simp] theorem m_sRetN : sRetN S = some (.rt (.t .non) S) := rfl
@[simp] theorem m_sIf : sIf q a b S = (q S).bind fun p => if p.1 then a p.2 else b p.2 := rfl
@[simp] theorem m_sAsg : sAsg bd g S = (g S).bind fun p => (bd p.1 p.2).map .nx := rfl
@[simp] theorem m_bName : bName i d S = setU i (.t d) S := rfl
@[simp] theorem m_sFor : sFor bd gi a S = (gi S).bind fun p => loop bd a p.1 p.2 := rfl
@[simp] theorem m_iAny_t (h : g S = some (.tup ds, S')) : iAny g S = some (ds, S') := by unfold iAny; rw [h]; rfl
@[simp] theorem m_iSeq : iSeq g S = (g S).bind fun p => match p.1 with | .tup ds => some (ds, p.2) | .lst ds => some (ds, p.2) | _ => none := rfl
@[simp] theorem m_gRng1 : gRng1 gA S = (gA S).bind fun p => match p.1 with | [.int j] => if j < 1000000 ∧ -1000000 < j then some (rng 0 j.toNat, p.2) else none | _ => none := rfl
@[simp] theorem m_gRng2 : gRng2 gA S = (gA S).bind fun p => match p.1 with | [.int i, .int j] => if i < 1000000 ∧ -1000000 < i ∧ j < 1000000 ∧ -1000000 < j then some (rng i (j - i).toNat, p.2) else none | _ => none := rfl
@[simp] theorem m_loop_nil : loop bd a [] S = some (.nx S) := rfl
@[simp] theorem m_uNil : uNil S = some ([], S) := rfl
@[simp] theorem m_uVal : uVal g gu S = (g S).bind fun p => (gu p.2).map fun q => (.t p.1 :: q.1, q.2) := rfl
@[simp] theorem m_uMut : uMut ge gu S = (ge S).bind fun p => (gu p.2).map fun q => (p.1 :: q.1, q.2) := rfl
@[simp] theorem m_eCall : eCall fm gu S = (gu S).bind fun p => if (slotsOf p.1).Nodup ∧ freshes p.1 ≤ 1 then (resolves p.2 p.1).bind fun us => (fm us).bind fun r => (wb p.1 r.2 p.2).map fun S2 => (r.1, S2) else none := rfl
@[simp] theorem m_res_nil : resolves S [] = some [] := rfl
@[simp] theorem m_res_cons (u : U) (us : List U) : resolves S (u :: us) = (resolve S u).bind fun w => (resolves S us).map fun ws => w :: ws := rfl
@[simp] theorem m_res_t : resolve S (.t d) = some (.t d) := rfl
@[simp] theorem m_res_m : resolve S (.m o) = some (.b o) := rfl
@[simp] theorem m_res_s (ns : List Int) : resolve S (.s ns) = some (.s ns) := rfl
@[simp] theorem m_res_v : resolve S (.v i) = match S[i]? with | some (some (.m o)) => some (.b o) | some (some (.b o)) => some (.b o) | _ => none := rfl
@[simp] theorem m_sl_nil : slotsOf [] = [] := rfl
@[simp] theorem m_sl_t (us : List U) : slotsOf (.t d :: us) = slotsOf us := rfl
@[simp] theorem m_sl_m (us : List U) : slotsOf (.m o :: us) = slotsOf us := rfl
@[simp] theorem m_sl_s (ns : List Int) (us : List U) : slotsOf (.s ns :: us) = slotsOf us := rfl
@[simp] theorem m_sl_v (us : List U) : slotsOf (.v i :: us) = i :: slotsOf us := rfl
@[simp] theorem m_fr_nil : freshes [] = 0 := rfl
@[simp] theorem m_fr_t (us : List U) : freshes (.t d :: us) = freshes us := rfl
@[simp] theorem m_fr_m (us : List U) : freshes (.m o :: us) = freshes us + 1 := rfl
@[simp] theorem m_fr_s (ns : List Int) (us : List U) : freshes (.s ns :: us) = freshes us := rfl
@[simp] theorem m_fr_v (us : List U) : freshes (.v i :: us) = freshes us := rfl
@[simp] theorem m_wb_nil : wb [] [] S = some S := rfl
@[simp] theorem m_wb_t (us : List U) (os : List MO) : wb (.t d :: us) os S = wb us os S := by cases os <;> rfl
@[simp] theorem m_wb_s (ns : List Int) (us : List U) (os : List MO) : wb (.s ns :: us) os S = wb us os S := by cases os <;> rfl
@[simp] theorem m_wb_m (us : List U) (os : List MO) : wb (.m o :: us) (o' :: os) S = wb us os S := rfl
@[simp] theorem m_wb_v (us : List U) (os : List MO) : wb (.v i :: us) (o :: os) S = match S[i]? with | some (some (.m _)) => wb us os (S.set i (some (.m o))) | some (some (.b _)) => wb us os (S.set i (some (.b o))) | _ => none := rfl
@[simp] theorem m_eSub : eSub i gb S = match S[i]? with | some (some _) => (gb S).bind fun p => (match p.2[i]? with | some (some u) => (readU u p.1).map fun d => (d, p.2) | _ => none) | _ => none := rfl
@[simp] theorem m_eLen : eLen i S = match S[i]? with | some (some u) => (lenU u).map fun n => (.int (n : Nat), S) | _ => none := rfl
@[simp] theorem m_eM (h : List D → MO → Option (D × MO)) : eM i h gA S = if isL S i then (gA S).bind fun p => mutU p.2 i (h p.1) else none := rfl
@[simp] theorem m_sPut (gk gv : GD) : sPut i gk gv S = (gv S).bind fun p => match p.2[i]? with | some (some _) => (gk p.2).bind fun r => (mutU r.2 i fun o => (writeU o r.1 p.1).map fun o' => (.non, o')).map fun z => .nx z.2 | _ => none := rfl
@[simp] theorem m_eIs (Ts : List String) : eIs Ts g S = (g S).bind fun p => (isTys Ts p.1).map fun b => (.bl b, p.2) := rfl
@[simp] theorem m_readU_tt (ds : List D) (k : Int) : readU (.t (.tup ds)) (.int k) = atI ds k := rfl
@[simp] theorem m_readU_tl (ds : List D) (k : Int) : readU (.t (.lst ds)) (.int k) = atI ds k := rfl
@[simp] theorem m_readU_ml (ds : List D) (k : Int) : readU (.m (.lst ds)) (.int k) = atI ds k := rfl
@[simp] theorem m_readU_bl (ds : List D) (k : Int) : readU (.b (.lst ds)) (.int k) = atI ds k := rfl
@[simp] theorem m_readU_md (kvs : List (Key × D)) (k : D) : readU (.m (.dct kvs)) k = (keyOf k).bind (lookD kvs) := by cases k <;> rfl
@[simp] theorem m_readU_bd (kvs : List (Key × D)) (k : D) : readU (.b (.dct kvs)) k = (keyOf k).bind (lookD kvs) := by cases k <;> rfl
@[simp] theorem m_readU_s (ns : List Int) (k : Int) : readU (.s ns) (.int k) = (atI ns k).map D.int := rfl
@[simp] theorem m_key_i (k : Int) : keyOf (.int k) = some (.inl k) := rfl
@[simp] theorem m_key_s (k : Str) : keyOf (.str k) = some (.inr k) := rfl
@[simp] theorem m_lenU_tt (ds : List D) : lenU (.t (.tup ds)) = some ds.length := rfl
@[simp] theorem m_lenU_tl (ds : List D) : lenU (.t (.lst ds)) = some ds.length := rfl
@[simp] theorem m_lenU_ml (ds : List D) : lenU (.m (.lst ds)) = some ds.length := rfl
@[simp] theorem m_lenU_bl (ds : List D) : lenU (.b (.lst ds)) = some ds.length := rfl
@[simp] theorem m_lenU_s (ns : List Int) : lenU (.s ns) = some ns.length := rfl
@[simp] theorem m_fI2 (C : Int → Int → Bool) (h : Int → Int → D) (x y : Int) : fI2 C h [.int x, .int y] = if C x y then some (.t (h x y)) else none := rfl
@[simp] theorem m_fAdd_i (x y : Int) : fAdd [.int x, .int y] = some (.t (.int (x + y))) := rfl
@[simp] theorem m_fAdd_s (x y : Str) : fAdd [.str x, .str y] = if x.length + y.length ≤ 100000 then some (.t (.str (x ++ y))) else none := rfl
@[simp] theorem m_fAdd_t (x y : List D) : fAdd [.tup x, .tup y] = if x.length + y.length ≤ 100000 then some (.t (.tup (x ++ y))) else none := rfl
@[simp] theorem m_fAdd_l (x y : List D) : fAdd [.lst x, .lst y] = if x.length + y.length ≤ 100000 then some (.m (.lst (x ++ y))) else none := rfl
@[simp] theorem m_fMul (x y : Int) : fMul [.int x, .int y] = if ((decide (-(2 ^ 64) < x) && decide (x < 2 ^ 64)) || (decide (-(2 ^ 64) < y) && decide (y < 2 ^ 64))) then some (.t (.int (x * y))) else none := rfl
@[simp] theorem m_fNeg (x : Int) : fNeg [.int x] = some (.t (.int (-x))) := rfl
@[simp] theorem m_fTup (ds : List D) : fTup ds = if ds.length ≤ 100000 then some (.t (.tup ds)) else none := rfl
@[simp] theorem m_fLst (ds : List D) : fLst ds = if ds.length ≤ 100000 then some (.m (.lst ds)) else none := rfl
@[simp] theorem m_fIx_t (ds : List D) (k : Int) : fIx [.tup ds, .int k] = (atI ds k).map .t := rfl
@[simp] theorem m_fIx_l (ds : List D) (k : Int) : fIx [.lst ds, .int k] = (atI ds k).map .t := rfl
@[simp] theorem m_fEq : fEq [d, e] = if depD d ≤ 40 then some (.t (.bl (eqD d e))) else none := rfl
@[simp] theorem m_fNe : fNe [d, e] = if depD d ≤ 40 then some (.t (.bl (!eqD d e))) else none := rfl
@[simp] theorem m_fMin3 (x y z : Int) : fMin3 [.int x, .int y, .int z] = some (.t (.int (if y < x then (if z < y then z else y) else if z < x then z else x))) := rfl
@[simp] theorem m_fMax2 (x y : Int) : fMax2 [.int x, .int y] = some (.t (.int (if y > x then y else x))) := rfl
@[simp] theorem m_fLen_t (ds : List D) : fLen [.tup ds] = some (.t (.int ds.length)) := rfl
@[simp] theorem m_fLen_l (ds : List D) : fLen [.lst ds] = some (.t (.int ds.length)) := rfl
@[simp] theorem m_fList_t (ds : List D) : fList [.tup ds] = some (.m (.lst ds)) := rfl
@[simp] theorem m_fList_l (ds : List D) : fList [.lst ds] = some (.m (.lst ds)) := rfl
@[simp] theorem m_fTuple_t (ds : List D) : fTuple [.tup ds] = some (.t (.tup ds)) := rfl
@[simp] theorem m_fTuple_l (ds : List D) : fTuple [.lst ds] = some (.t (.tup ds)) := rfl
@[simp] theorem m_fAll (ds : List D) : fAll [.lst ds] = (boolsD ds).map fun bs => .t (.bl (bs.all id)) := rfl
@[simp] theorem m_fAny (ds : List D) : fAny [.lst ds] = (boolsD ds).map fun bs => .t (.bl (bs.any id)) := rfl
@[simp] theorem m_fRepr : fRepr [d] = if okR d then some (.t (.str (toPy d).shown)) else none := rfl
@[simp] theorem m_eqD_s (x y : Str) : eqD (.str x) (.str y) = (x == y) := by simp [eqD]
@[simp] theorem m_eqD_i (x y : Int) : eqD (.int x) (.int y) = (x == y) := by simp [eqD]
@[simp] theorem m_eqD_b (x y : Bool) : eqD (.bl x) (.bl y) = (x == y) := by simp [eqD]
@[simp] theorem m_dep_s (x : Str) : depD (.str x) = 0 := by simp [depD]
@[simp] theorem m_dep_i (x : Int) : depD (.int x) = 0 := by simp [depD]
@[simp] theorem m_dep_b (x : Bool) : depD (.bl x) = 0 := by simp [depD]
@[simp] theorem m_dep_n : depD .non = 0 := by simp [depD]
@[simp] theorem m_mutU (h : MO → Option (D × MO)) : mutU S i h = match S[i]? with | some (some (.m o)) => (h o).map fun r => (r.1, S.set i (some (.m r.2))) | some (some (.b o)) => (h o).map fun r => (r.1, S.set i (some (.b r.2))) | _ => none := rfl
@[simp] theorem m_isL : isL S i = match S[i]? with | some (some (.m (.lst _))) => true | some (some (.b (.lst _))) => true | _ => false := rfl
@[simp] theorem m_write_d (kvs : List (Key × D)) (k : D) : writeU (.dct kvs) k d = (keyOf k).bind fun kk => if kvs.length < 100000 then some (.dct (putD kvs kk d)) else none := rfl
@[simp] theorem m_write_l (ds : List D) (k : Int) : writeU (.lst ds) (.int k) d = (ixN ds.length k).map fun j => .lst (ds.set j d) := rfl
@[simp] theorem m_append (ds : List D) : hAppend [d] (.lst ds) = if ds.length < 100000 then some (.non, .lst (ds ++ [d])) else none := rfl
@[simp] theorem m_out_nil : outsOf [] S = some [] := by cases S <;> rfl
@[simp] theorem m_out_b (us : List U) (o2 : MO) : outsOf (.b o2 :: us) (some (.b o) :: S) = (outsOf us S).map fun os => o :: os := rfl
@[simp] theorem m_out_t (us : List U) (x : Option U) : outsOf (.t d :: us) (x :: S) = outsOf us S := by cases x <;> rfl
@[simp] theorem m_out_s (ns : List Int) (us : List U) (x : Option U) : outsOf (.s ns :: us) (x :: S) = outsOf us S := by cases x <;> rfl
end
structure Tape where
  c : Int
  l : Int
  n : Int
def tapeKvs (t : Tape) : List (Key × D) := [(.inr "cell", .int t.c), (.inr "left", .int t.l), (.inr "turn", .int t.n)]
def tapeOf : List (Key × D) → Option Tape
  | [(k1, .int c), (k2, .int l), (k3, .int n)] => if k1 = .inr "cell" ∧ k2 = .inr "left" ∧ k3 = .inr "turn" then some ⟨c, l, n⟩ else none
  | _ => none
@[simp] theorem tapeOf_kvs (t : Tape) : tapeOf (tapeKvs t) = some t := by simp [tapeOf, tapeKvs]
theorem tapeOf_some {kvs : List (Key × D)} {t : Tape} (h : tapeOf kvs = some t) : kvs = tapeKvs t := by
  unfold tapeOf at h
  split at h
  · obtain ⟨⟨rfl, rfl, rfl⟩, rfl⟩ := ite_some h
    rfl
  · cases h
@[simp] theorem tape_c (t : Tape) : lookD (tapeKvs t) (.inr "cell") = some (.int t.c) := by rfl
@[simp] theorem tape_l (t : Tape) : lookD (tapeKvs t) (.inr "left") = some (.int t.l) := by rfl
@[simp] theorem tape_n (t : Tape) : lookD (tapeKvs t) (.inr "turn") = some (.int t.n) := by rfl
@[simp] theorem tape_pn (t : Tape) (x : Int) : putD (tapeKvs t) (.inr "turn") (.int x) = tapeKvs { t with n := x } := by rfl
@[simp] theorem tape_pl (t : Tape) (x : Int) : putD (tapeKvs t) (.inr "left") (.int x) = tapeKvs { t with l := x } := by rfl
@[simp] theorem tape_len (t : Tape) : (tapeKvs t).length = 3 := rfl
def mixed (c n : Int) : Int := (((c % 2147483647 + 31 * (n + 1) * (n + 1) + 1) * 48271) % 2147483629 + 7 * (n + 1)) * 69621 % 2147483587 / 7
def pickV (t : Tape) (m : Int) : Int := if 0 < t.l then t.l % m else mixed t.c t.n % m
def pickT (t : Tape) (m : Int) : Tape := if 0 < t.l then ⟨t.c, t.l / m, t.n + 1⟩ else ⟨t.c, t.l, t.n + 1⟩
def pickF : FM
  | [.b (.dct kvs), .t (.int m)] => (tapeOf kvs).bind fun t => if 0 < m ∧ m < 1000000 ∧ 0 ≤ t.n ∧ t.n < 1000000 then some (.t (.int (pickV t m)), [.dct (tapeKvs (pickT t m))]) else none
  | _ => none

end L2

end
section
set_option Elab.async false
set_option linter.all false
set_option maxRecDepth 100000
namespace L2
open PySem PySem.Spec PyProof.Rows



def wholeToF : FM
  | [.t d, .t (.int m)] => some (.t (.bl (wholeD d 0 m)), [])
  | _ => none

def namesL : List Str := ["a", "ab", "abc", "b", "any", "name", "x", "zzzzzzzz"]
def namesF : FM
  | [] => some (.m (.lst (namesL.map D.str)), [])
  | _ => none

@[simp] theorem m_eDict3 (k1 k2 k3 : Str) (g1 g2 g3 : GD) (S : SS) : eDict [(k1, g1), (k2, g2), (k3, g3)] S = (g1 S).bind fun a => (g2 a.2).bind fun b => (g3 b.2).map fun c => (.m (.dct (mergeD [] [(.inr k1, a.1), (.inr k2, b.1), (.inr k3, c.1)])), c.2) := by
  simp only [eDict, ePairs]
  cases g1 S with
  | none => rfl
  | some a =>
    simp only [Option.bind_some]
    cases g2 a.2 with
    | none => rfl
    | some b =>
      simp only [Option.bind_some]
      cases g3 b.2 with
      | none => rfl
      | some c => rfl
end L2

end
section
set_option Elab.async false
set_option linter.all false
set_option maxRecDepth 100000
namespace Sw
open PySem PySem.Spec PyProof.Rows L2
theorem pickV_range {t : Tape} {m : Int} (h : 0 < m) : 0 ≤ pickV t m ∧ pickV t m < m := by
  unfold pickV
  split
  · exact ⟨Int.emod_nonneg _ (by omega), Int.emod_lt_of_pos _ h⟩
  · exact ⟨Int.emod_nonneg _ (by omega), Int.emod_lt_of_pos _ h⟩
@[simp] theorem pickT_n (t : Tape) (m : Int) : (pickT t m).n = t.n + 1 := by unfold pickT; split <;> rfl
theorem pickF_eq {t : Tape} {m : Int} (h1 : 0 < m) (h2 : m < 1000000) (h3 : 0 ≤ t.n) (h4 : t.n < 1000000) : pickF [.b (.dct (tapeKvs t)), .t (.int m)] = some (.t (.int (pickV t m)), [.dct (tapeKvs (pickT t m))]) := by
  simp [pickF, h1, h2, h3, h4]
theorem atI_getI {α : Type} {l : List α} {i : Int} (h0 : 0 ≤ i) (h1 : i < l.length) : atI l i = some (l[i.toNat]'(by omega)) := by
  unfold atI ixN
  rw [if_pos h0, if_pos h1]
  exact List.getElem?_eq_getElem (by omega)
def tabT (T : List (Str × Int)) : D := .tup (T.map fun p => .tup [.str p.1, .int p.2])
structure TbS where
  names : List Str
  tab : List (Str × Int)
  left : Int
  t : Tape
def min3 (i j k : Int) : Int := if j < i then (if k < j then k else j) else if k < i then k else i
def tabStep (s : TbS) (k : Int) : TbS :=
  let i := (pickV s.t s.names.length).toNat
  let t1 := pickT s.t s.names.length
  let most := min3 5 (s.left - 4 + k) (pickV t1 6)
  ⟨s.names.eraseIdx i, s.tab ++ [(s.names.getD i "", most)], s.left - most - 1, pickT t1 6⟩
def w1__law_table (f_law_names : FM) (f_law_pick : FM) : GS :=
  (sSeq (sSet 5 (eT (eM 1 hPopAt (aCons (eF (eCall f_law_pick (uMut (eVar 0) (uVal (eLen 1) uNil)))) aNil))))
  (sSeq (sSet 6 (eP fMin3 (aCons (eC (.int 5)) (aCons (eF (eP fAdd (aCons (eF (eP fSub (aCons (eF (eVar 3)) (aCons (eC (.int 4)) aNil)))) (aCons (eF (eVar 4)) aNil)))) (aCons (eF (eCall f_law_pick (uMut (eVar 0) (uVal (eC (.int 6)) uNil)))) aNil)))))
  (sSeq (sSet 2 (eP fAdd (aCons (eF (eVar 2)) (aCons (eF (eP fTup (aCons (eF (eP fTup (aCons (eF (eVar 5)) (aCons (eF (eVar 6)) aNil)))) aNil))) aNil))))
  (sSet 3 (eP fSub (aCons (eF (eP fSub (aCons (eF (eVar 3)) (aCons (eF (eVar 6)) aNil)))) (aCons (eC (.int 1)) aNil)))))))
def g__law_table (f_law_names : FM) (f_law_pick : FM) : GS :=
  (sSeq (sSet 1 (eCall f_law_names uNil))
  (sSeq (sSet 2 (eP fTup aNil))
  (sSeq (sSet 3 (eT (eC (.int 12))))
  (sSeq (sFor (bName 4) (gRng1 (aCons (eF (eP fIx (aCons (eF (eP fLst (aCons (eC (.int 1)) (aCons (eC (.int 2)) (aCons (eC (.int 2)) (aCons (eC (.int 3)) (aCons (eC (.int 4)) aNil))))))) (aCons (eF (eCall f_law_pick (uMut (eVar 0) (uVal (eC (.int 5)) uNil)))) aNil)))) aNil)) (w1__law_table f_law_names f_law_pick))
  (sRet (eVar 2))))))

def tabSlots (s : TbS) (x y z : Option U) : SS := [some (.b (.dct (tapeKvs s.t))), some (.m (.lst (s.names.map D.str))), some (.t (tabT s.tab)), some (.t (.int s.left)), x, y, z]
theorem seqIx_nat {i : Int} {n : Nat} (h0 : 0 ≤ i) (h1 : i < n) : seqIndex? i n = some i.toNat := by
  unfold seqIndex?
  simp [h0, h1]
  try omega
theorem eraseIdx_map' {α β : Type} (f : α → β) : ∀ (l : List α) (k : Nat), (l.map f).eraseIdx k = (l.eraseIdx k).map f
  | [], _ => rfl
  | _ :: _, 0 => rfl
  | a :: l, k + 1 => by simp [eraseIdx_map' f l k]
theorem tab_turn {s : TbS} {k : Int} {x y z : Option U} (hn : 0 < s.names.length) (hn2 : s.names.length ≤ 8) (ht : s.tab.length ≤ 100) (h3 : 0 ≤ s.t.n) (h4 : s.t.n < 900000) (hx : (x = none ∧ y = none ∧ z = none) ∨ ∃ a b c, x = some (.t a) ∧ y = some (.t b) ∧ z = some (.t c)) :
    ∃ a b c, (bName 4 (.int k) (tabSlots s x y z)).bind (w1__law_table namesF pickF) = some (.nx (tabSlots (tabStep s k) (some (.t a)) (some (.t b)) (some (.t c)))) := by
  have p1 := pickV_range (t := s.t) (m := s.names.length) (by omega)
  have e1 := pickF_eq (t := s.t) (m := s.names.length) (by omega) (by omega) h3 (by omega)
  have e2 := pickF_eq (t := pickT s.t s.names.length) (m := 6) (by omega) (by omega) (by simp; omega) (by simp; omega)
  have e3 := seqIx_nat p1.1 p1.2
  have e4 : (pickV s.t s.names.length).toNat < s.names.length := by omega
  have e5 : -9223372036854775808 ≤ pickV s.t s.names.length := by omega
  have e6 : pickV s.t s.names.length < 9223372036854775808 := by omega
  have e7 : s.tab.length + 1 ≤ 100000 := by omega
  refine ⟨.int k, .str s.names[(pickV s.t s.names.length).toNat], .int (min3 5 (s.left - 4 + k) (pickV (pickT s.t s.names.length) 6)), ?_⟩
  rcases hx with ⟨rfl, rfl, rfl⟩ | ⟨a, b, c, rfl, rfl, rfl⟩
  · simp [w1__law_table, tabSlots, tabT, e1, e2, hPopAt, e3, e4, e5, e6, e7, tabStep, min3, eraseIdx_map']
  · simp [w1__law_table, tabSlots, tabT, e1, e2, hPopAt, e3, e4, e5, e6, e7, tabStep, min3, eraseIdx_map']
@[simp] theorem step_n (s : TbS) (k : Int) : (tabStep s k).t.n = s.t.n + 2 := by
  show (pickT (pickT s.t _) 6).n = _
  simp; omega
@[simp] theorem step_tab (s : TbS) (k : Int) : (tabStep s k).tab.length = s.tab.length + 1 := by
  show (s.tab ++ [_]).length = _
  simp
def upTo (n : Nat) : List Int := (List.range n).map fun (k : Nat) => (k : Int)
theorem rng_ints (n : Nat) : rng 0 n = (upTo n).map D.int := by
  unfold rng upTo
  simp
end Sw

end
section
set_option Elab.async false
set_option linter.all false
set_option maxRecDepth 100000
namespace Sw
open PySem PySem.Spec PyProof.Rows L2
def prOf : D → Option (Str × Int)
  | .tup [.str z, .int i] => some (z, i)
  | _ => none
def prsOf : List D → Option (List (Str × Int))
  | [] => some []
  | d :: ds => (prOf d).bind fun p => (prsOf ds).map fun ps => p :: ps
def tabOf : D → Option (List (Str × Int))
  | .tup ds => prsOf ds
  | _ => none
@[simp] theorem prsOf_map (T : List (Str × Int)) : prsOf (T.map fun p => .tup [.str p.1, .int p.2]) = some T := by
  induction T with
  | nil => rfl
  | cons p T ih => simp [prsOf, prOf, ih]
@[simp] theorem tabOf_T (T : List (Str × Int)) : tabOf (tabT T) = some T := prsOf_map T
theorem prsOf_some : ∀ {ds : List D} {T : List (Str × Int)}, prsOf ds = some T → ds = T.map fun p => .tup [.str p.1, .int p.2]
  | [], T, h => by cases h; rfl
  | d :: ds, T, h => by
    obtain ⟨p, h1, h⟩ := bind_some' h
    obtain ⟨ps, h2, h⟩ := map_some' h
    subst h
    unfold prOf at h1
    split at h1
    · cases h1
      rw [prsOf_some h2]
      rfl
    · cases h1
theorem tabOf_some {d : D} {T : List (Str × Int)} (h : tabOf d = some T) : d = tabT T := by
  unfold tabOf at h
  split at h
  · rw [prsOf_some h]; rfl
  · cases h
def w1__law_row (f_law_pick : FM) : GS :=
  (sSeq (sAsg (bTup 2 (bCons (bName 5) (bCons (bName 6) bNil))) (eSub 1 (eF (eCall f_law_pick (uMut (eVar 0) (uVal (eLen 1) uNil))))))
  (sSet 3 (eP fAdd (aCons (eF (eVar 3)) (aCons (eF (eP fTup (aCons (eF (eP fTup (aCons (eF (eVar 5)) (aCons (eF (eCall f_law_pick (uMut (eVar 0) (uVal (eF (eP fAdd (aCons (eF (eVar 6)) (aCons (eC (.int 1)) aNil)))) uNil)))) aNil)))) aNil))) aNil)))))
def g__law_row (f_law_pick : FM) : GS :=
  (sSeq (sSet 3 (eP fTup aNil))
  (sSeq (sFor (bName 4) (gRng1 (aCons (eF (eCall f_law_pick (uMut (eVar 0) (uVal (eF (eP fAdd (aCons (eF (eVar 2)) (aCons (eC (.int 1)) aNil)))) uNil)))) aNil)) (w1__law_row f_law_pick))
  (sRet (eVar 3))))

def rowStep (T : List (Str × Int)) (s : List (Str × Int) × Tape) (_ : Int) : List (Str × Int) × Tape :=
  let p := T.getD (pickV s.2 T.length).toNat ("", 0)
  let t1 := pickT s.2 T.length
  (s.1 ++ [(p.1, pickV t1 (p.2 + 1))], pickT t1 (p.2 + 1))
def rowSlots (T : List (Str × Int)) (most : D) (s : List (Str × Int) × Tape) (x y z : Option U) : SS := [some (.b (.dct (tapeKvs s.2))), some (.t (tabT T)), some (.t most), some (.t (tabT s.1)), x, y, z]
structure TabOk (T : List (Str × Int)) : Prop where
  pos : 0 < T.length
  len : T.length ≤ 10
  mst : ∀ p ∈ T, 0 ≤ p.2 ∧ p.2 ≤ 10
theorem row_turn {T : List (Str × Int)} {most : D} {s : List (Str × Int) × Tape} {k : Int} {x y z : Option U} (ok : TabOk T) (hr : s.1.length ≤ 1000) (h3 : 0 ≤ s.2.n) (h4 : s.2.n < 900000) (hx : (x = none ∧ y = none ∧ z = none) ∨ ∃ a b c, x = some (.t a) ∧ y = some (.t b) ∧ z = some (.t c)) :
    ∃ a b c, (bName 4 (.int k) (rowSlots T most s x y z)).bind (w1__law_row pickF) = some (.nx (rowSlots T most (rowStep T s k) (some (.t a)) (some (.t b)) (some (.t c)))) := by
  have p0 := ok.pos
  have p00 := ok.len
  have p1 := pickV_range (t := s.2) (m := T.length) (by omega)
  have e1 := pickF_eq (t := s.2) (m := T.length) (by omega) (by omega) h3 (by omega)
  have e4 : (pickV s.2 T.length).toNat < T.length := by omega
  have e5 : T.getD (pickV s.2 T.length).toNat ("", 0) = T[(pickV s.2 T.length).toNat] := by simp [List.getD, e4]
  have hm := ok.mst _ (List.getElem_mem e4)
  have e2 := pickF_eq (t := pickT s.2 T.length) (m := T[(pickV s.2 T.length).toNat].2 + 1) (by omega) (by omega) (by simp; omega) (by simp; omega)
  have e3 : atI (T.map fun p => D.tup [.str p.1, .int p.2]) (pickV s.2 T.length) = some (.tup [.str T[(pickV s.2 T.length).toNat].1, .int T[(pickV s.2 T.length).toNat].2]) := atI_map _ (by rw [atI_getI p1.1 p1.2])
  have e7 : s.1.length + 1 ≤ 100000 := by omega
  refine ⟨.int k, .str T[(pickV s.2 T.length).toNat].1, .int T[(pickV s.2 T.length).toNat].2, ?_⟩
  rcases hx with ⟨rfl, rfl, rfl⟩ | ⟨a, b, c, rfl, rfl, rfl⟩
  · simp [w1__law_row, rowSlots, tabT, e1, e2, e3, e7, rowStep, e4, bTup, bCons, bNil]
  · simp [w1__law_row, rowSlots, tabT, e1, e2, e3, e7, rowStep, e4, bTup, bCons, bNil]
@[simp] theorem rowStep_len (T : List (Str × Int)) (s : List (Str × Int) × Tape) (k : Int) : (rowStep T s k).1.length = s.1.length + 1 := by simp [rowStep]
@[simp] theorem rowStep_n (T : List (Str × Int)) (s : List (Str × Int) × Tape) (k : Int) : (rowStep T s k).2.n = s.2.n + 2 := by simp [rowStep]; omega
theorem row_loop {T : List (Str × Int)} {most : D} (ok : TabOk T) : ∀ (ks : List Int) (s : List (Str × Int) × Tape) (x y z : Option U), s.1.length + ks.length ≤ 1000 → 0 ≤ s.2.n → s.2.n + 2 * ks.length < 900000 → ((x = none ∧ y = none ∧ z = none) ∨ ∃ a b c, x = some (.t a) ∧ y = some (.t b) ∧ z = some (.t c)) →
    ∃ x' y' z', loop (bName 4) (w1__law_row pickF) (ks.map D.int) (rowSlots T most s x y z) = some (.nx (rowSlots T most (ks.foldl (rowStep T) s) x' y' z'))
  | [], s, x, y, z, _, _, _, _ => ⟨x, y, z, rfl⟩
  | k :: ks, s, x, y, z, h3, h4, h5, hx => by
    have l3 : s.1.length + (ks.length + 1) ≤ 1000 := h3
    have l5 : s.2.n + 2 * ((ks.length + 1 : Nat) : Int) < 900000 := h5
    obtain ⟨a, b, c, e⟩ := row_turn (k := k) (most := most) ok (by omega) h4 (by omega) hx
    obtain ⟨x', y', z', ih⟩ := row_loop ok ks (rowStep T s k) (some (.t a)) (some (.t b)) (some (.t c)) (by simp; omega) (by simp; omega) (by simp; omega) (.inr ⟨a, b, c, rfl, rfl, rfl⟩)
    refine ⟨x', y', z', ?_⟩
    show (bName 4 (.int k) (rowSlots T most s x y z)).bind (fun S1 => (w1__law_row pickF S1).bind fun o => match o with
      | .nx S2 => loop (bName 4) (w1__law_row pickF) (ks.map D.int) S2
      | .ct S2 => loop (bName 4) (w1__law_row pickF) (ks.map D.int) S2
      | .bk S2 => some (.nx S2)
      | .rt u S2 => some (.rt u S2)) = _
    rw [← Option.bind_assoc, e]
    exact ih
end Sw

end
section
set_option Elab.async false
set_option linter.all false
set_option maxRecDepth 100000
namespace Sw
open PySem PySem.Spec PyProof.Rows L2

def oddL : List D := [.non, .bl true, .bl false, .int 0, .int (-1), .int 6, .int 10000000000000000000, .str "", .str "A", .str "a.b", .str "a1", .str "ninesigns", .tup [], .lst [], .tup [.str "a"], .lst [.str "a", .int 0], .tup [.str "a", .int 0]]
def oddM (t : Tape) : D := oddL.getD (pickV t 17).toNat .non
def oddF : FM
  | [.b (.dct kvs)] => (tapeOf kvs).bind fun t => if 0 ≤ t.n ∧ t.n < 900000 then some (.t (oddM t), [.dct (tapeKvs (pickT t 17))]) else none
  | _ => none
theorem atI_getD {α : Type} {l : List α} {i : Int} {x : α} (h0 : 0 ≤ i) (h1 : i < l.length) : atI l i = some (l.getD i.toNat x) := by
  rw [atI_getI h0 h1]
  have : i.toNat < l.length := by omega
  simp [List.getD, this]
def bentWay (t : Tape) (d : D) : D × Tape :=
  match d with
  | .tup ds => if pickV t 8 < 5 then
      (([.tup (cutD ds none (some (pickV (pickT t 8) (ds.length + 1)))), .tup (ds ++ cutD ds (some (pickV (pickT t 8) (ds.length + 1))) none), .tup (cutD ds none (some (pickV (pickT t 8) (ds.length + 1))) ++ cutD ds (some (pickV (pickT t 8) (ds.length + 1) + 1)) none), .lst ds, .tup (ds ++ [.tup ds])] : List D).getD (pickV t 8).toNat .non, pickT (pickT t 8) (ds.length + 1))
    else (oddM (pickT t 8), pickT (pickT t 8) 17)
  | .int i => if wholeD (.int i) 0 100000000000000000000 = true ∧ pickV t 8 < 5 then (([.int (i + 1), .int (i - 1), .int 5, .int 9, .int 10] : List D).getD (pickV t 8).toNat .non, pickT t 8) else (oddM (pickT t 8), pickT (pickT t 8) 17)
  | .str z => if pickV t 8 < 6 then (([.str (z ++ ("a" : Str)), .str (Txt.slice z (some 1) none), .str (z ++ ("A" : Str)), .str "x", .str "now", .str "less"] : List D).getD (pickV t 8).toNat .non, pickT t 8) else (oddM (pickT t 8), pickT (pickT t 8) 17)
  | _ => (oddM (pickT t 8), pickT (pickT t 8) 17)
def bentM : Nat → Tape → D → D × Tape
  | k + 1, t, .tup ds => if ds.length = 0 then bentWay t (.tup ds) else if 0 < pickV t 4 then
      (.tup (cutD ds none (some (pickV (pickT t 4) ds.length)) ++ [(bentM k (pickT (pickT t 4) ds.length) (ds.getD (pickV (pickT t 4) ds.length).toNat .non)).1] ++ cutD ds (some (pickV (pickT t 4) ds.length + 1)) none), (bentM k (pickT (pickT t 4) ds.length) (ds.getD (pickV (pickT t 4) ds.length).toNat .non)).2)
    else bentWay (pickT t 4) (.tup ds)
  | _, t, d => bentWay t d

open Classical in
noncomputable def bentFn (j : Nat) : FM
  | [.b (.dct kvs), .t d, .t (.int k)] => (tapeOf kvs).bind fun t => if 0 ≤ k ∧ k < j ∧ Fit 5000 d ∧ 0 ≤ t.n ∧ t.n + 2 * k < 600000 then some (.t (bentM k.toNat t d).1, [.dct (tapeKvs (bentM k.toNat t d).2)]) else none
  | _ => none
def bent_tail (f_law_pick : FM) (f_law_bent : FM) (f_law_whole_to : FM) (f_law_odd : FM) : GS :=
  (sSeq (sSet 4 (eCall f_law_pick (uMut (eVar 0) (uVal (eC (.int 8)) uNil))))
  (sSeq (sIf (qAnd (qB (eIs ["tuple"] (eF (eVar 1)))) (qB (eF (eP fLt (aCons (eF (eVar 4)) (aCons (eC (.int 5)) aNil)))))) (sSeq (sSet 3 (eCall f_law_pick (uMut (eVar 0) (uVal (eF (eP fAdd (aCons (eLen 1) (aCons (eC (.int 1)) aNil)))) uNil))))
  (sRet (eP fIx (aCons (eF (eP fLst (aCons (eF (eSl (eF (eVar 1)) none (some (eF (eVar 3))))) (aCons (eF (eP fAdd (aCons (eF (eVar 1)) (aCons (eF (eSl (eF (eVar 1)) (some (eF (eVar 3))) none)) aNil)))) (aCons (eF (eP fAdd (aCons (eF (eSl (eF (eVar 1)) none (some (eF (eVar 3))))) (aCons (eF (eSl (eF (eVar 1)) (some (eF (eP fAdd (aCons (eF (eVar 3)) (aCons (eC (.int 1)) aNil))))) none)) aNil)))) (aCons (eF (eP fList (aCons (eF (eVar 1)) aNil))) (aCons (eF (eP fAdd (aCons (eF (eVar 1)) (aCons (eF (eP fTup (aCons (eF (eVar 1)) aNil))) aNil)))) aNil))))))) (aCons (eF (eVar 4)) aNil))))) sNil)
  (sSeq (sIf (qAnd (qB (eF (eCall f_law_whole_to (uVal (eF (eVar 1)) (uVal (eF (eP fPow (aCons (eC (.int 10)) (aCons (eC (.int 20)) aNil)))) uNil))))) (qB (eF (eP fLt (aCons (eF (eVar 4)) (aCons (eC (.int 5)) aNil)))))) (sRet (eP fIx (aCons (eF (eP fLst (aCons (eF (eP fAdd (aCons (eF (eVar 1)) (aCons (eC (.int 1)) aNil)))) (aCons (eF (eP fSub (aCons (eF (eVar 1)) (aCons (eC (.int 1)) aNil)))) (aCons (eC (.int 5)) (aCons (eC (.int 9)) (aCons (eC (.int 10)) aNil))))))) (aCons (eF (eVar 4)) aNil)))) sNil)
  (sSeq (sIf (qAnd (qB (eIs ["str"] (eF (eVar 1)))) (qB (eF (eP fLt (aCons (eF (eVar 4)) (aCons (eC (.int 6)) aNil)))))) (sRet (eP fIx (aCons (eF (eP fLst (aCons (eF (eP fAdd (aCons (eF (eVar 1)) (aCons (eC (.str "a")) aNil)))) (aCons (eF (eSl (eF (eVar 1)) (some (eC (.int 1))) none)) (aCons (eF (eP fAdd (aCons (eF (eVar 1)) (aCons (eC (.str "A")) aNil)))) (aCons (eC (.str "x")) (aCons (eC (.str "now")) (aCons (eC (.str "less")) aNil)))))))) (aCons (eF (eVar 4)) aNil)))) sNil)
  (sRet (eCall f_law_odd (uMut (eVar 0) uNil)))))))


@[simp] theorem m_eSl (g : GD) (lo hi : Option GD) (S : SS) : eSl g lo hi S = (g S).bind fun p => (oPart lo p.2).bind fun l => (oPart hi l.2).bind fun h => (fSl p.1 l.1 h.1).map fun u => (u, h.2) := rfl
@[simp] theorem m_oP_n (S : SS) : oPart none S = some (none, S) := rfl
@[simp] theorem m_oP_s (g : GD) (S : SS) : oPart (some g) S = (g S).bind fun p => match p.1 with | .int i => some (some i, p.2) | _ => none := rfl
@[simp] theorem m_fSl_t (ds : List D) (lo hi : Option Int) : fSl (.tup ds) lo hi = some (.t (.tup (cutD ds lo hi))) := rfl
@[simp] theorem m_fSl_l (ds : List D) (lo hi : Option Int) : fSl (.lst ds) lo hi = some (.m (.lst (cutD ds lo hi))) := rfl
@[simp] theorem m_fSl_s (z : Str) (lo hi : Option Int) : fSl (.str z) lo hi = if z.length ≤ 100000 then some (.t (.str (Txt.slice z lo hi))) else none := rfl
theorem bent_tail_run {t : Tape} {d k : D} {x3 : Option U} {f2 : FM} (hf : Fit 5000 d) (h3 : 0 ≤ t.n) (h4 : t.n < 700000) (hx : x3 = none ∨ ∃ a, x3 = some (.t a)) :
    ∃ y z w, bent_tail pickF f2 wholeToF oddF [some (.b (.dct (tapeKvs t))), some (.t d), some (.t k), x3, none] = some (.rt (.t (bentWay t d).1) [some (.b (.dct (tapeKvs (bentWay t d).2))), y, z, w, some (.t (.int (pickV t 8)))]) := by
  have e1 := pickF_eq (t := t) (m := 8) (by omega) (by omega) h3 (by omega)
  have p1 := pickV_range (t := t) (m := 8) (by omega)
  have o1 : oddF [.b (.dct (tapeKvs (pickT t 8)))] = some (.t (oddM (pickT t 8)), [.dct (tapeKvs (pickT (pickT t 8) 17))]) := by
    have a1 : 0 ≤ t.n + 1 := by omega
    have a2 : t.n + 1 < 900000 := by omega
    simp [oddF, a1, a2]
  cases d with
  | tup ds =>
    have hl : ds.length ≤ 5000 := hf.1
    have e2 := pickF_eq (t := pickT t 8) (m := ds.length + 1) (by omega) (by omega) (by simp; omega) (by simp; omega)
    by_cases hw : pickV t 8 < 5
    · have e3 := atI_getD (α := D) (x := .non) (l := [.tup (cutD ds none (some (pickV (pickT t 8) (ds.length + 1)))), .tup (ds ++ cutD ds (some (pickV (pickT t 8) (ds.length + 1))) none), .tup (cutD ds none (some (pickV (pickT t 8) (ds.length + 1))) ++ cutD ds (some (pickV (pickT t 8) (ds.length + 1) + 1)) none), .lst ds, .tup (ds ++ [.tup ds])]) p1.1 (by simpa using hw)
      have c1 := cutD_length ds none (some (pickV (pickT t 8) (ds.length + 1)))
      have c2 := cutD_length ds (some (pickV (pickT t 8) (ds.length + 1))) none
      have c3 := cutD_length ds (some (pickV (pickT t 8) (ds.length + 1) + 1)) none
      have g1 : ds.length + (cutD ds (some (pickV (pickT t 8) (ds.length + 1))) none).length ≤ 100000 := by omega
      have g2 : (cutD ds none (some (pickV (pickT t 8) (ds.length + 1)))).length + (cutD ds (some (pickV (pickT t 8) (ds.length + 1) + 1)) none).length ≤ 100000 := by omega
      have g3 : ds.length + 1 ≤ 100000 := by omega
      refine ⟨some (.t (.tup ds)), some (.t k), some (.t (.int (pickV (pickT t 8) (ds.length + 1)))), ?_⟩
      rcases hx with rfl | ⟨a, rfl⟩
      · simp [bent_tail, e1, e2, hw, isTys, isTy, isTupD, e3, g1, g2, g3, bentWay]
      · simp [bent_tail, e1, e2, hw, isTys, isTy, isTupD, e3, g1, g2, g3, bentWay]
    · refine ⟨some (.t (.tup ds)), some (.t k), x3, ?_⟩
      simp [bent_tail, e1, hw, isTys, isTy, isTupD, isStrD, bentWay, wholeToF, wholeD, o1]
  | int i =>
    by_cases hw : wholeD (.int i) 0 100000000000000000000 = true ∧ pickV t 8 < 5
    · have e3 := atI_getD (α := D) (x := .non) (l := [.int (i + 1), .int (i - 1), .int 5, .int 9, .int 10]) p1.1 (by simpa using hw.2)
      refine ⟨some (.t (.int i)), some (.t k), x3, ?_⟩
      simp [bent_tail, e1, hw.1, hw.2, isTys, isTy, isTupD, e3, bentWay, wholeToF]
    · refine ⟨some (.t (.int i)), some (.t k), x3, ?_⟩
      by_cases h1 : wholeD (.int i) 0 100000000000000000000 = true
      · have h2 : ¬ pickV t 8 < 5 := fun z => hw ⟨h1, z⟩
        simp [bent_tail, e1, h1, h2, isTys, isTy, isTupD, isStrD, bentWay, wholeToF, o1]
      · simp [bent_tail, e1, h1, isTys, isTy, isTupD, isStrD, bentWay, wholeToF, o1]
  | str z =>
    have hl : z.length ≤ 5000 := hf
    by_cases hw : pickV t 8 < 6
    · have e3 := atI_getD (α := D) (x := .non) (l := [.str (z ++ ("a" : Str)), .str (Txt.slice z (some 1) none), .str (z ++ ("A" : Str)), .str "x", .str "now", .str "less"]) p1.1 (by simpa using hw)
      have g1 : z.length + ("a" : Str).length ≤ 100000 := by show z.length + 1 ≤ 100000; omega
      have g2 : z.length + ("A" : Str).length ≤ 100000 := by show z.length + 1 ≤ 100000; omega
      have g3 : z.length ≤ 100000 := by omega
      refine ⟨some (.t (.str z)), some (.t k), x3, ?_⟩
      simp [bent_tail, e1, hw, isTys, isTy, isTupD, isStrD, e3, bentWay, wholeToF, wholeD, g1, g2, g3]
    · refine ⟨some (.t (.str z)), some (.t k), x3, ?_⟩
      simp [bent_tail, e1, hw, isTys, isTy, isTupD, isStrD, bentWay, wholeToF, wholeD, o1]
  | non => exact ⟨some (.t .non), some (.t k), x3, by simp [bent_tail, e1, isTys, isTy, isTupD, isStrD, bentWay, wholeToF, wholeD, o1]⟩
  | bl b => exact ⟨some (.t (.bl b)), some (.t k), x3, by simp [bent_tail, e1, isTys, isTy, isTupD, isStrD, bentWay, wholeToF, wholeD, o1]⟩
  | lst ds => exact ⟨some (.t (.lst ds)), some (.t k), x3, by simp [bent_tail, e1, isTys, isTy, isTupD, isStrD, bentWay, wholeToF, wholeD, o1]⟩
theorem Fits.mem {n : Nat} : ∀ {ds : List D} {d : D}, Fits n ds → d ∈ ds → Fit n d
  | _ :: _, _, h, m => by
    rcases List.mem_cons.mp m with rfl | m
    · exact h.1
    · exact Fits.mem h.2 m
end Sw

end
section
set_option Elab.async false
set_option linter.all false
set_option maxRecDepth 100000
namespace Sw
open PySem PySem.Spec PyProof.Rows L2
theorem outs_t : ∀ (ts : List D) (S : SS), S.length = ts.length → outsOf (ts.map U.t) S = some []
  | [], S, _ => by cases S <;> rfl
  | d :: ts, [], h => by cases h
  | d :: ts, x :: S, h => by
    show outsOf (U.t d :: ts.map U.t) (x :: S) = _
    rw [m_out_t]
    exact outs_t ts S (by simpa using h)
theorem res_t (S : SS) : ∀ ts : List D, resolves S (ts.map U.t) = some (ts.map U.t)
  | [] => rfl
  | d :: ts => by
    show (some (U.t d)).bind _ = _
    rw [res_t S ts]
    rfl
theorem sl_t : ∀ ts : List D, slotsOf (ts.map U.t) = []
  | [] => rfl
  | d :: ts => sl_t ts
theorem fr_t : ∀ ts : List D, freshes (ts.map U.t) = 0
  | [] => rfl
  | d :: ts => fr_t ts
theorem wb_t (S : SS) : ∀ ts : List D, wb (ts.map U.t) [] S = some S
  | [] => rfl
  | d :: ts => wb_t S ts
theorem compL_t {cap : List Nat} {q : GT} {g : GD} {S : SS} {ts : List D} (hc : capArgs S cap = some (ts.map U.t)) (p : D → Bool) (f : D → D) : ∀ (ds acc : List D),
    (∀ d ∈ ds, q (some (.t d) :: ts.map fun x => some (.t x)) = some (p d, some (.t d) :: ts.map fun x => some (.t x))) → (∀ d ∈ ds, p d = true → g (some (.t d) :: ts.map fun x => some (.t x)) = some (f d, some (.t d) :: ts.map fun x => some (.t x))) →
    compL cap q g ds S acc = some (acc ++ (ds.filter p).map f, S)
  | [], acc, _, _ => by simp [compL]
  | d :: ds, acc, hq, hg => by
    have em : (ts.map U.t).map some = ts.map fun x => some (U.t x) := by simp
    have eo : outsOf (.t d :: ts.map U.t) (some (.t d) :: ts.map fun x => some (.t x)) = some [] := by rw [m_out_t]; exact outs_t ts _ (by simp)
    have q0 := hq d (List.mem_cons_self)
    unfold compL
    rw [hc]
    simp only [Option.bind_some]
    rw [if_pos ⟨by rw [sl_t]; exact List.nodup_nil, by rw [fr_t]; exact Nat.zero_le _⟩, res_t]
    simp only [Option.bind_some]
    rw [em, q0]
    simp only [Option.bind_some]
    by_cases hp : p d = true
    · rw [if_pos hp, hg d List.mem_cons_self hp]
      simp only [Option.bind_some]
      rw [eo]
      simp only [Option.bind_some]
      rw [wb_t]
      simp only [Option.bind_some]
      rw [compL_t hc p f ds (acc ++ [f d]) (fun e he => hq e (List.mem_cons_of_mem _ he)) (fun e he => hg e (List.mem_cons_of_mem _ he)), List.filter_cons_of_pos hp]
      simp
    · rw [if_neg hp, eo]
      simp only [Option.bind_some]
      rw [wb_t]
      simp only [Option.bind_some]
      rw [compL_t hc p f ds acc (fun e he => hq e (List.mem_cons_of_mem _ he)) (fun e he => hg e (List.mem_cons_of_mem _ he)), List.filter_cons_of_neg hp]
@[simp] theorem m_eComp (cap : List Nat) (gi : GI) (q : GT) (g : GD) (S : SS) : eComp cap gi q g S = (gi S).bind fun p => if p.1.length ≤ 100000 then (compL cap q g p.1 p.2 []).map fun r => (.m (.lst r.1), r.2) else none := rfl
theorem m_iAny (g : GD) (S : SS) : iAny g S = (g S).bind fun p => match p.1 with | .tup ds => some (ds, p.2) | .lst ds => some (ds, p.2) | .str z => some (z.cps.toList.map fun c => .str ⟨#[c]⟩, p.2) | _ => none := rfl

def prD (p : Str × Int) : D := .tup [.str p.1, .int p.2]
end Sw

end
section
set_option Elab.async false
set_option linter.all false
set_option maxRecDepth 100000
namespace Sw
open PySem PySem.Spec PyProof.Rows L2



theorem filter_nil (g : D → Bool) (ds : List D) : eqD (.lst (ds.filter fun d => !g d)) (.lst []) = ds.all g := by
  induction ds with
  | nil => rfl
  | cons d ds ih =>
    cases h : g d with
    | true =>
      rw [List.filter_cons_of_neg (by simp [h]), List.all_cons, h, Bool.true_and]
      exact ih
    | false =>
      rw [List.filter_cons_of_pos (by simp [h]), List.all_cons, h, Bool.false_and]
      rfl

end Sw

end
section
set_option Elab.async false
set_option linter.all false
set_option maxRecDepth 100000
namespace Sw
open PySem PySem.Spec PyProof.Rows L2
mutual
def Sane : D → Prop
  | .int i => i.natAbs < 10 ^ 30
  | .str z => ∀ c ∈ z.cps.toList, c < 16 ^ 8
  | .tup ds => Sanes ds
  | .lst ds => Sanes ds
  | .non => True
  | .bl _ => True
def Sanes : List D → Prop
  | [] => True
  | d :: ds => Sane d ∧ Sanes ds
end
mutual
def wD : D → Nat
  | .non => 6
  | .bl _ => 6
  | .int _ => 40
  | .str z => 10 * z.length + 2
  | .tup ds => wDs ds + 4
  | .lst ds => wDs ds + 4
def wDs : List D → Nat
  | [] => 0
  | d :: ds => wD d + 2 + wDs ds
end
theorem ofStr_len (s : String) : (Str.ofString s).length = s.length := PySem.ofString_length s
theorem text_le : ∀ (ts : List Str) (k : Nat) (acc : Str), (textFrom k acc ts).length ≤ acc.length + piled ts
  | [], k, acc => Nat.le_refl _
  | t :: ts, k, acc => by
    have ih := text_le ts (k + 1) (acc ++ (if k > 0 then ", " else "" : String) ++ t)
    have e : (acc ++ (if k > 0 then ", " else "" : String) ++ t).length ≤ acc.length + 2 + t.length := by
      rw [strLen_append, strLen_append]
      split
      · show acc.length + 2 + t.length ≤ _; omega
      · show acc.length + 0 + t.length ≤ _; omega
    rw [piled_cons]
    show (textFrom (k + 1) _ ts).length ≤ _
    omega
mutual
theorem shown_le : ∀ d : D, Sane d → (toPy d).shown.length ≤ wD d
  | .non, _ => by show (Str.ofString "None").length ≤ 6; decide
  | .bl b, _ => by cases b <;> (show (Str.ofString _).length ≤ 6; decide)
  | .int i, h => by
    show (Str.ofString (toString i)).length ≤ 40
    rw [ofStr_len]
    exact Nat.le_trans (int_text_length_le10 (k := 30) (by decide) h) (by decide)
  | .str z, h => PySem.StrLaws.reprText_len z h
  | .tup ds, h => by
    have k := shown_les ds h
    show (tupleText (PyData.shownAll (toPys ds))).length ≤ wDs ds + 4
    unfold tupleText
    rw [strLen_append, strLen_append]
    have e1 : ("(" : Str).length = 1 := rfl
    have e2 : ((if (PyData.shownAll (toPys ds)).length == 1 then ",)" else ")" : String) : Str).length ≤ 2 := by split <;> decide
    by_cases hn : PyData.shownAll (toPys ds) = []
    · rw [hn] at e2 ⊢
      have e3 : (Str.join ", " []).length = 0 := rfl
      omega
    · have := join_length_add _ hn
      omega
  | .lst ds, h => by
    have k := shown_les ds h
    show (listText (PyData.shownAll (toPys ds))).length ≤ wDs ds + 4
    unfold listText
    rw [strLen_append]
    have e1 := text_le (PyData.shownAll (toPys ds)) 0 "["
    have e2 : ("[" : Str).length = 1 := rfl
    have e3 : ("]" : Str).length = 1 := rfl
    omega
theorem shown_les : ∀ ds : List D, Sanes ds → piled (PyData.shownAll (toPys ds)) ≤ wDs ds
  | [], _ => Nat.le_refl _
  | d :: ds, h => by
    show piled ((toPy d).shown :: PyData.shownAll (toPys ds)) ≤ wD d + 2 + wDs ds
    rw [piled_cons]
    have := shown_le d h.1
    have := shown_les ds h.2
    omega
end
mutual
theorem showable_of : ∀ d : D, Sane d → (toPy d).showable = true
  | .non, _ => rfl
  | .bl b, _ => rfl
  | .int i, h => by
    show decide (i.natAbs.log2 < 1920) = true
    rw [decide_eq_true_eq]
    by_cases hz : i.natAbs = 0
    · rw [hz]; decide
    · exact (Nat.log2_lt hz).mpr (Nat.lt_trans h (Nat.lt_of_lt_of_le (show (10 : Nat) ^ 30 < 2 ^ 100 by decide) (Nat.pow_le_pow_right (by decide) (by decide))))
  | .str z, _ => rfl
  | .tup ds, h => by show PyData.showableAll (toPys ds) = true; exact showables_of ds h
  | .lst ds, h => by show PyData.showableAll (toPys ds) = true; exact showables_of ds h
theorem showables_of : ∀ ds : List D, Sanes ds → PyData.showableAll (toPys ds) = true
  | [], _ => rfl
  | d :: ds, h => by
    show ((toPy d).showable && PyData.showableAll (toPys ds)) = true
    rw [showable_of d h.1, showables_of ds h.2]
    rfl
end
mutual
theorem depth_eq : ∀ d : D, (toPy d).depth = depD d
  | .non => rfl
  | .bl _ => rfl
  | .int _ => rfl
  | .str _ => rfl
  | .tup ds => by show PyData.depthAll (toPys ds) + 1 = depDs ds + 1; rw [depths_eq ds]
  | .lst ds => by show PyData.depthAll (toPys ds) + 1 = depDs ds + 1; rw [depths_eq ds]
theorem depths_eq : ∀ ds : List D, PyData.depthAll (toPys ds) = depDs ds
  | [] => rfl
  | d :: ds => by show max (toPy d).depth (PyData.depthAll (toPys ds)) = max (depD d) (depDs ds); rw [depth_eq d, depths_eq ds]
end
theorem okR_of {d : D} (h : Sane d) (hw : wD d ≤ 1000000) (hd : depD d ≤ 20) : okR d :=
  ⟨showable_of d h, by rw [depth_eq]; exact hd, Nat.le_trans (shown_le d h) (Nat.le_trans hw (by decide))⟩
theorem wDs_len : ∀ ds : List D, 2 * ds.length ≤ wDs ds
  | [] => Nat.le_refl _
  | d :: ds => by have := wDs_len ds; show 2 * (ds.length + 1) ≤ wD d + 2 + wDs ds; omega
theorem Sanes.append : ∀ {as bs : List D}, Sanes as → Sanes bs → Sanes (as ++ bs)
  | [], _, _, h => h
  | _ :: _, _, h, k => ⟨h.1, Sanes.append h.2 k⟩
theorem Sanes.mem : ∀ {ds : List D} {d : D}, Sanes ds → d ∈ ds → Sane d
  | _ :: _, _, h, m => by
    rcases List.mem_cons.mp m with rfl | m
    · exact h.1
    · exact Sanes.mem h.2 m
theorem Sanes.of : ∀ {ds : List D}, (∀ d ∈ ds, Sane d) → Sanes ds
  | [], _ => True.intro
  | d :: ds, h => ⟨h d List.mem_cons_self, Sanes.of fun e he => h e (List.mem_cons_of_mem _ he)⟩
theorem Sanes.cut {ds : List D} (h : Sanes ds) (lo hi : Option Int) : Sanes (cutD ds lo hi) := Sanes.of fun d hd => h.mem (List.mem_of_mem_drop (List.mem_of_mem_take hd))
theorem depDs_le {ds : List D} {n : Nat} (h : ∀ d ∈ ds, depD d ≤ n) : depDs ds ≤ n := by
  induction ds with
  | nil => exact Nat.zero_le _
  | cons d ds ih =>
    show max (depD d) (depDs ds) ≤ n
    have := h d List.mem_cons_self
    have := ih fun e he => h e (List.mem_cons_of_mem _ he)
    omega
structure Good (n k : Nat) (d : D) : Prop where
  sane : Sane d
  w : wD d ≤ n
  dep : depD d ≤ k
theorem Good.mono {n k n' k' : Nat} {d : D} (h : Good n k d) (a : n ≤ n') (b : k ≤ k') : Good n' k' d := ⟨h.sane, Nat.le_trans h.w a, Nat.le_trans h.dep b⟩
theorem Good.okR {n k : Nat} {d : D} (h : Good n k d) (a : n ≤ 1000000) (b : k ≤ 20) : L2.okR d := okR_of h.sane (Nat.le_trans h.w a) (Nat.le_trans h.dep b)
end Sw

end
section
set_option Elab.async false
set_option linter.all false
set_option maxRecDepth 100000
namespace Sw
open PySem PySem.Spec PyProof.Rows L2
structure NameOk (z : Str) : Prop where
  len : z.length ≤ 8
  chs : ∀ c ∈ z.cps.toList, c < 16 ^ 8
structure PairOk (p : Str × Int) : Prop where
  nm : NameOk p.1
  lo : 0 ≤ p.2
  hi : p.2 ≤ 10
theorem pair_good {p : Str × Int} (h : PairOk p) : Good 130 1 (prD p) := by
  obtain ⟨⟨h1, h2⟩, h3, h4⟩ := h
  refine ⟨⟨h2, ?_, True.intro⟩, ?_, ?_⟩
  · show p.2.natAbs < 10 ^ 30; omega
  · show 10 * p.1.length + 2 + 2 + (40 + 2 + 0) + 4 ≤ 130; omega
  · show max 0 (max 0 0) + 1 ≤ 1; omega
mutual
theorem fit_of : ∀ {d : D} {n : Nat}, wD d ≤ 2 * n → Fit n d
  | .non, _, _ => True.intro
  | .bl _, _, _ => True.intro
  | .int _, _, _ => True.intro
  | .str z, n, h => by show z.length ≤ n; have : 10 * z.length + 2 ≤ 2 * n := h; omega
  | .tup ds, n, h => by have : wDs ds + 4 ≤ 2 * n := h; have := wDs_len ds; exact ⟨by omega, fits_of (by omega)⟩
  | .lst ds, n, h => by have : wDs ds + 4 ≤ 2 * n := h; have := wDs_len ds; exact ⟨by omega, fits_of (by omega)⟩
theorem fits_of : ∀ {ds : List D} {n : Nat}, wDs ds ≤ 2 * n → Fits n ds
  | [], _, _ => True.intro
  | d :: ds, n, h => by have : wD d + 2 + wDs ds ≤ 2 * n := h; exact ⟨fit_of (by omega), fits_of (by omega)⟩
end
structure TbInv (k : Int) (s : TbS) : Prop where
  nd : (s.tab.map (·.1) ++ s.names).Nodup
  sub : ∀ z ∈ s.names, z ∈ namesL
  ok : ∀ p ∈ s.tab, PairOk p ∧ p.2 ≤ 5
  left : 4 - k ≤ s.left
end Sw

end
section
set_option Elab.async false
set_option linter.all false
set_option maxRecDepth 100000
namespace Sw
open PySem PySem.Spec PyProof.Rows L2
end Sw

end
section
set_option Elab.async false
set_option linter.all false
set_option maxRecDepth 100000
namespace Sw
open PySem PySem.Spec PyProof.Rows L2
def lawF (n : Nat) : FM
  | [.s ns] => if ns.length ≤ n then some (.t (.bl true), []) else none
  | _ => none
theorem law_sp {K : PySem.W.Frag} {H : Hp} {a : Addr} {ns : List Int} {n : Nat} {E : XK} (hl : ns.length ≤ n) (hO : Only H) (hS : SqL K H a (ns.map V.int)) : spT K 1 (lawF n) [.ref a] H (fun v _ => v = .bl true) E := by
  have sc : Scr K H a ns := by
    rcases hS with (h | h) | h
    · rcases hO a with z | ⟨o, xs, z⟩
      · rw [h] at z; cases z
      · rw [h] at z; cases z
    · exact .inl h
    · exact .inr h
  exact ⟨rfl, fun _ => none, [.s ns], .t (.bl true), [], (fun b o z => by cases z), .cons ⟨a, rfl, sc⟩ .nil, List.nodup_nil, by simp [lawF, hl], fun v F' H' _ r => rep_bl r⟩
end Sw

end
section
set_option Elab.async false
set_option linter.all false
set_option maxRecDepth 100000
namespace L2
open PySem PySem.Spec PyProof.Rows
section
variable (S : SS) (d : D) (i : Nat) (g ga gb gc : GD) (gA : GA)
@[simp] theorem m_sAug (f : Int → Int → Int) : sAug f i g S = match S[i]? with
  | some (some (.t (.int n))) => (g S).bind fun p => match p.1 with
    | .int m => (setU i (.t (.int (f n m))) p.2).map .nx
    | _ => none
  | _ => none := rfl
@[simp] theorem m_fIsN : fIsN [d, .non] = some (.t (.bl (isNon d))) := rfl
@[simp] theorem m_fIntB (k : Bool) : fInt [.bl k] = some (.t (.int (if k then 1 else 0))) := rfl
@[simp] theorem m_fRep (ds : List D) (k : Int) : fRep [.lst ds, .int k] = if 0 ≤ k ∧ k.toNat ≤ 100000 ∧ ds.length * k.toNat ≤ 100000 then some (.m (.lst (List.replicate k.toNat ds).flatten)) else none := rfl
@[simp] theorem m_hExtend (es ds : List D) : hExtend [.lst es] (.lst ds) = if ds.length + es.length ≤ 100000 then some (.non, .lst (ds ++ es)) else none := rfl
@[simp] theorem m_gEnum : gEnum gA S = (gA S).bind fun p => match p.1 with
  | [d] => (seqD d).map fun q => (enumD q.2, p.2)
  | _ => none := rfl
@[simp] theorem m_gZip2 : gZip2 gA S = (gA S).bind fun p => match p.1 with
  | [d, e] => (seqD d).bind fun q => (seqD e).map fun r => (List.zipWith (fun a b => .tup [a, b]) q.2 r.2, p.2)
  | _ => none := rfl
@[simp] theorem m_seqD_l (ds : List D) : seqD (.lst ds) = some (true, ds) := rfl
@[simp] theorem m_seqD_t (ds : List D) : seqD (.tup ds) = some (false, ds) := rfl
theorem m_eCompQ (cap : List Nat) (gi : GI) (q : GT) : eComp cap gi q g S = (gi S).bind fun p => if p.1.length ≤ 100000 then (compL cap q g p.1 p.2 []).map fun r => (.m (.lst r.1), r.2) else none := rfl
@[simp] theorem m_fMin2 (x y : Int) : fMin2 [.int x, .int y] = some (.t (.int (if y < x then y else x))) := rfl
end
end L2
namespace Sq
open PySem PySem.Spec PyProof.Rows L2 Sw
theorem loop_ok {bd : GB} {body : GS} : ∀ (ds : List D) (I : List D → SS → Prop) (S : SS), I ds S → (∀ d r S, I (d :: r) S → ∃ S1 S2, bd d S = some S1 ∧ body S1 = some (.nx S2) ∧ I r S2) → ∃ S', loop bd body ds S = some (.nx S') ∧ I [] S'
  | [], I, S, h, _ => ⟨S, rfl, h⟩
  | d :: ds, I, S, h, k => by
    obtain ⟨S1, S2, e1, e2, h2⟩ := k d ds S h
    obtain ⟨S', e, h'⟩ := loop_ok ds I S2 h2 k
    refine ⟨S', ?_, h'⟩
    show ((bd d S).bind fun S1 => (body S1).bind _) = _
    rw [e1, Option.bind_some, e2, Option.bind_some]
    exact e
theorem compL_cons (cap : List Nat) (q : GT) (g : GD) (d : D) (ds : List D) (S : SS) (acc : List D) : compL cap q g (d :: ds) S acc = (compL cap q g [d] S acc).bind fun r => compL cap q g ds r.2 r.1 := by
  simp only [compL]
  cases capArgs S cap with
  | none => rfl
  | some us =>
    simp only [Option.bind_some]
    split
    · cases resolves S us with
      | none => rfl
      | some ws =>
        simp only [Option.bind_some]
        cases q (some (.t d) :: ws.map some) with
        | none => rfl
        | some p =>
          simp only [Option.bind_some]
          split
          · cases g p.2 with
            | none => rfl
            | some r =>
              simp only [Option.bind_some]
              cases outsOf (.t d :: ws) r.2 with
              | none => rfl
              | some outs =>
                simp only [Option.bind_some]
                cases wb us outs S with
                | none => rfl
                | some S' => rfl
          · cases outsOf (.t d :: ws) p.2 with
            | none => rfl
            | some outs =>
              simp only [Option.bind_some]
              cases wb us outs S with
              | none => rfl
              | some S' => rfl
    · rfl
theorem comp_ok {cap : List Nat} {g : GD} : ∀ (ds : List D) (I : List D → List D → SS → Prop) (S : SS) (acc : List D), I ds acc S → (∀ d r acc S, I (d :: r) acc S → ∃ acc' S', compL cap qTrue g [d] S acc = some (acc', S') ∧ I r acc' S') → ∃ acc' S', compL cap qTrue g ds S acc = some (acc', S') ∧ I [] acc' S'
  | [], I, S, acc, h, _ => ⟨acc, S, rfl, h⟩
  | d :: ds, I, S, acc, h, k => by
    obtain ⟨a1, S1, e1, h1⟩ := k d ds acc S h
    obtain ⟨a2, S2, e2, h2⟩ := comp_ok ds I S1 a1 h1 k
    exact ⟨a2, S2, by rw [compL_cons, e1]; exact e2, h2⟩
theorem atI_nn {α : Type} {l : List α} {i : Int} {x : α} (h0 : 0 ≤ i) (h : l[i.toNat]? = some x) : atI l i = some x := by
  have hl := (List.getElem?_eq_some_iff.mp h).1
  unfold atI ixN
  rw [if_pos h0, if_pos (by omega)]
  exact h
theorem atI_ok {α : Type} {l : List α} {i : Int} (h0 : 0 ≤ i) (h1 : i < l.length) : ∃ x, atI l i = some x ∧ l[i.toNat]? = some x := by
  have h : i.toNat < l.length := by omega
  exact ⟨l[i.toNat], atI_nn h0 (List.getElem?_eq_getElem h), List.getElem?_eq_getElem h⟩
theorem gRng1_int {gA : GA} {S S' : SS} {j : Int} (h : gA S = some ([.int j], S')) (h1 : j < 1000000) (h2 : -1000000 < j) : gRng1 gA S = some (rng 0 j.toNat, S') := by
  unfold gRng1
  rw [h]
  simp only [Option.bind_some]
  rw [if_pos ⟨h1, h2⟩]
theorem gRng_j (i n : Nat) (j : Int) (S : SS) (h : S[i]? = some (some (.t (.int j)))) (hj : j.toNat = n) (h1 : j < 1000000) (h2 : -1000000 < j) : gRng1 (aCons (eF (eVar i)) aNil) S = some (rng 0 n, S) := by
  have e : (aCons (eF (eVar i)) aNil) S = some ([.int j], S) := by simp [h]
  rw [gRng1_int e h1 h2, hj]
theorem nat_gt (n : Nat) : (-1000000 : Int) < n := Int.lt_of_lt_of_le (by decide) (Int.natCast_nonneg n)
theorem gRng_v (i n : Nat) (S : SS) (h : S[i]? = some (some (.t (.int n)))) (hn : n < 1000000) : gRng1 (aCons (eF (eVar i)) aNil) S = some (rng 0 n, S) :=
  gRng_j i n n S h (Int.toNat_natCast n) (Int.ofNat_lt.mpr hn) (nat_gt n)
theorem fRep_j (ds : List D) (n : Nat) (k : Int) (hk : k.toNat = n) (h : ds.length * n ≤ 100000) (h1 : 0 ≤ k) (h2 : n ≤ 100000) : fRep [.lst ds, .int k] = some (.m (.lst (List.replicate n ds).flatten)) := by
  subst hk
  rw [m_fRep, if_pos ⟨h1, h2, h⟩]
theorem fRep_nat (ds : List D) (n : Nat) (h : ds.length * n ≤ 100000) (hn : n ≤ 100000) : fRep [.lst ds, .int n] = some (.m (.lst (List.replicate n ds).flatten)) :=
  fRep_j ds n n (Int.toNat_natCast n) h (Int.natCast_nonneg n) hn
theorem rep_one (x : D) : ∀ n : Nat, (List.replicate n [x]).flatten = List.replicate n x
  | 0 => rfl
  | n + 1 => by rw [List.replicate_succ, List.flatten_cons, rep_one x n]; rfl
theorem fRep_one (x : D) (n : Nat) (hn : n ≤ 100000) : fRep [.lst [x], .int n] = some (.m (.lst (List.replicate n x))) := by
  rw [fRep_nat [x] n (by rw [List.length_singleton, Nat.one_mul]; exact hn) hn, rep_one]
def g__law_mix : GS :=
  (sSeq (sSet 2 (eP fAdd (aCons (eF (eP fAdd (aCons (eF (eP fMul (aCons (eF (eP fAdd (aCons (eF (eP fMod (aCons (eF (eVar 0)) (aCons (eF (eP fPow (aCons (eC (.int 10)) (aCons (eC (.int 15)) aNil)))) aNil)))) (aCons (eC (.int 1)) aNil)))) (aCons (eC (.int 48271)) aNil)))) (aCons (eF (eP fMul (aCons (eF (eP fMul (aCons (eF (eVar 1)) (aCons (eF (eVar 1)) aNil)))) (aCons (eC (.int 16807)) aNil)))) aNil)))) (aCons (eF (eP fMul (aCons (eF (eVar 1)) (aCons (eC (.int 7919)) aNil)))) aNil))))
  (sRet (eP fMod (aCons (eF (eP fMul (aCons (eF (eP fMod (aCons (eF (eVar 2)) (aCons (eC (.int 2147483647)) aNil)))) (aCons (eC (.int 69621)) aNil)))) (aCons (eC (.int 2147483629)) aNil)))))

def mixF : FM := runB 3 g__law_mix
theorem mix_run : ∀ us r, mixF us = some r → runB 3 g__law_mix us = some r := fun _ _ h => h
theorem mix_ok (c k : Int) (h0 : 0 ≤ k) (h1 : k < 1000000) : ∃ v, mixF [.t (.int c), .t (.int k)] = some (.t (.int v), []) ∧ 0 ≤ v ∧ v < 2147483629 := by
  refine ⟨(((c % 10 ^ 15 + 1) * 48271 + k * k * 16807 + k * 7919) % 2147483647 * 69621) % 2147483629, ?_, Int.emod_nonneg _ (by decide), Int.emod_lt_of_pos _ (by decide)⟩
  have a1 : -18446744073709551616 < k := by omega
  have a2 : k < 18446744073709551616 := by omega
  simp [mixF, runB, g__law_mix, outsOf, a1, a2]
abbrev fd (c i l : Int) : MO := .lst [.int c, .int i, .int l]
def g__law_feed (f_law_mix : FM) : GS :=
  (sSeq (sSet 2 (eP fAdd (aCons (eF (eP fMul (aCons (eC (.int 7919)) (aCons (eF (eVar 1)) aNil)))) (aCons (eC (.int 1)) aNil))))
  (sSeq (sIf (qB (eF (eP fLt (aCons (eF (eVar 1)) (aCons (eLen 0) aNil))))) (sSet 2 (eT (eSub 0 (eF (eVar 1))))) (sIf (qB (eF (eP fGt (aCons (eLen 0) (aCons (eC (.int 0)) aNil))))) (sSet 2 (eCall f_law_mix (uVal (eSub 0 (eF (eP fMod (aCons (eF (eVar 1)) (aCons (eLen 0) aNil))))) (uVal (eF (eVar 1)) uNil)))) sNil))
  (sRet (eP fLst (aCons (eF (eVar 2)) (aCons (eC (.int 0)) (aCons (eF (eP fMul (aCons (eF (eP fSub (aCons (eF (eVar 2)) (aCons (eF (eP fPow (aCons (eC (.int 10)) (aCons (eC (.int 18)) aNil)))) aNil)))) (aCons (eF (eP fInt (aCons (eF (eP fGe (aCons (eF (eVar 2)) (aCons (eF (eP fPow (aCons (eC (.int 10)) (aCons (eC (.int 18)) aNil)))) aNil)))) aNil))) aNil)))) aNil)))))))

def feedF : FM := runB 3 (g__law_feed mixF)
theorem feed_run : ∀ us r, feedF us = some r → runB 3 (g__law_feed mixF) us = some r := fun _ _ h => h
theorem feed_ok {ns : List Int} {k : Int} (h0 : 0 ≤ k) (h1 : k < 1000) (hn : ns.length < 1000) : ∃ c l, feedF [.s ns, .t (.int k)] = some (.m (fd c 0 l), []) := by
  have a1 : -18446744073709551616 < k := by omega
  have a2 : k < 18446744073709551616 := by omega
  by_cases hk : k < ns.length
  · obtain ⟨x, hx, _⟩ := atI_ok (l := ns) h0 hk
    refine ⟨x, (x - 10 ^ 18) * (if decide (10 ^ 18 ≤ x) = true then 1 else 0), ?_⟩
    have e : atI ns k = some x := hx
    by_cases hc : (1000000000000000000 : Int) ≤ x <;> simp [feedF, runB, g__law_feed, outsOf, a1, a2, hk, e, hc]
  · by_cases hp : 0 < ns.length
    · have hp' : (0 : Int) < ns.length := by omega
      have hne : (ns.length : Int) ≠ 0 := by omega
      obtain ⟨x, hx, _⟩ := atI_ok (l := ns) (i := k % ns.length) (Int.emod_nonneg _ hne) (Int.emod_lt_of_pos _ hp')
      obtain ⟨v, hv, v0, v1⟩ := mix_ok x k h0 (by omega)
      have hc : ¬ (1000000000000000000 : Int) ≤ v := by omega
      refine ⟨v, 0, ?_⟩
      simp [feedF, runB, g__law_feed, outsOf, a1, a2, hk, hp, hx, hv, hc]
    · have hc : ¬ (1000000000000000000 : Int) ≤ 7919 * k + 1 := by omega
      refine ⟨7919 * k + 1, 0, ?_⟩
      simp [feedF, runB, g__law_feed, outsOf, a1, a2, hk, hp, hc]
def g__law_take (f_law_mix : FM) : GS :=
  (sSeq (sPut 0 (eC (.int 1)) (eF (eP fAdd (aCons (eSub 0 (eC (.int 1))) (aCons (eC (.int 1)) aNil)))))
  (sSeq (sIf (qB (eF (eP fGt (aCons (eSub 0 (eC (.int 2))) (aCons (eC (.int 0)) aNil))))) (sSeq (sSet 2 (eP fMod (aCons (eSub 0 (eC (.int 2))) (aCons (eF (eVar 1)) aNil))))
  (sSeq (sPut 0 (eC (.int 2)) (eF (eP fDiv (aCons (eSub 0 (eC (.int 2))) (aCons (eF (eVar 1)) aNil)))))
  (sRet (eVar 2)))) sNil)
  (sRet (eP fMod (aCons (eF (eP fDiv (aCons (eF (eCall f_law_mix (uVal (eSub 0 (eC (.int 0))) (uVal (eSub 0 (eC (.int 1))) uNil)))) (aCons (eC (.int 7)) aNil)))) (aCons (eF (eVar 1)) aNil))))))

def takeF : FM := runB 3 (g__law_take mixF)
theorem take_run : ∀ us r, takeF us = some r → runB 3 (g__law_take mixF) us = some r := fun _ _ h => h
theorem take_ok (c l : Int) {i m : Int} (h0 : 0 ≤ i) (h1 : i < 900000) (m0 : 0 < m) (m1 : m < 1000000) : ∃ v l', takeF [.b (fd c i l), .t (.int m)] = some (.t (.int v), [fd c (i + 1) l']) ∧ 0 ≤ v ∧ v < m := by
  have q0 : ∀ (a b c : D), atI [a, b, c] 0 = some a ∧ atI [a, b, c] 1 = some b ∧ atI [a, b, c] 2 = some c := fun _ _ _ => ⟨rfl, rfl, rfl⟩
  have q1 : ixN 3 1 = some 1 ∧ ixN 3 2 = some 2 := ⟨rfl, rfl⟩
  have m2 : m < 1073741824 := by omega
  by_cases hl : 0 < l
  · refine ⟨l % m, l / m, ?_, Int.emod_nonneg _ (by omega), Int.emod_lt_of_pos _ m0⟩
    simp [takeF, runB, g__law_take, outsOf, q0, q1, hl, m0, m2, mutU, writeU]
  · obtain ⟨v, hv, v0, v1⟩ := mix_ok c (i + 1) (by omega) (by omega)
    refine ⟨v / 7 % m, l, ?_, Int.emod_nonneg _ (by omega), Int.emod_lt_of_pos _ m0⟩
    simp [takeF, runB, g__law_take, outsOf, q0, q1, hl, m0, m2, mutU, writeU, hv]
end Sq

end
section
set_option Elab.async false
set_option linter.all false
set_option maxRecDepth 100000
namespace Sw
open PySem PySem.Spec PyProof.Rows L2
def one (p : Str × Int) : List (Str × Int) := (upTo (p.2 + 1).toNat).map fun k => (p.1, k)
def haps (T : List (Str × Int)) : List (Str × Int) := T.flatMap one
theorem upTo_in {n : Nat} {k : Int} (h : k ∈ upTo n) : 0 ≤ k ∧ k < n := by
  unfold upTo at h
  obtain ⟨j, hj, rfl⟩ := List.mem_map.mp h
  have := List.mem_range.mp hj
  omega
theorem upTo_len (n : Nat) : (upTo n).length = n := by simp [upTo]
theorem haps_ok {T : List (Str × Int)} (h : ∀ p ∈ T, PairOk p) : ∀ q ∈ haps T, PairOk q := fun q hq => by
  obtain ⟨p, hp, hq⟩ := List.mem_flatMap.mp hq
  obtain ⟨k, hk, rfl⟩ := List.mem_map.mp hq
  have := upTo_in hk
  have a := (h p hp).lo
  have b := (h p hp).hi
  exact ⟨(h p hp).nm, this.1, by show k ≤ 10; omega⟩
theorem haps_len : ∀ {T : List (Str × Int)}, (∀ p ∈ T, PairOk p) → (haps T).length ≤ 11 * T.length
  | [], _ => Nat.le_refl _
  | p :: T, h => by
    have ih := haps_len (T := T) fun q hq => h q (List.mem_cons_of_mem _ hq)
    have a := (h p List.mem_cons_self).lo
    have b := (h p List.mem_cons_self).hi
    have e : (haps (p :: T)).length = (one p).length + (haps T).length := by show (one p ++ haps T).length = _; rw [List.length_append]
    have e2 : (one p).length = (p.2 + 1).toNat := by unfold one; rw [List.length_map, upTo_len]
    rw [e, e2]
    show _ ≤ 11 * (T.length + 1)
    omega
theorem at2 (a b : D) : atI [a, b] 0 = some a ∧ atI [a, b] 1 = some b := ⟨rfl, rfl⟩
def w1_happenings_of : GS :=
  (sExpr (eT (eM 1 hAppend (aCons (eF (eP fTup (aCons (eSub 2 (eC (.int 0))) (aCons (eF (eVar 3)) aNil)))) aNil))))
def w2_happenings_of : GS :=
  (sFor (bName 3) (gRng1 (aCons (eF (eP fAdd (aCons (eSub 2 (eC (.int 1))) (aCons (eC (.int 1)) aNil)))) aNil)) (w1_happenings_of))
def g_happenings_of : GS :=
  (sSeq (sSet 1 (eP fLst aNil))
  (sSeq (sFor (bName 2) (iAny (eF (eVar 0))) (w2_happenings_of))
  (sRet (eVar 1))))

open Classical in
noncomputable def hapsF : FM
  | [.t td] => (tabOf td).bind fun T => if T.length ≤ 4 ∧ ∀ p ∈ T, PairOk p then some (.m (.lst ((haps T).map prD)), []) else none
  | _ => none
theorem hapsF_eq {T : List (Str × Int)} (h : T.length ≤ 4) (h2 : ∀ p ∈ T, PairOk p) : hapsF [.t (tabT T)] = some (.m (.lst ((haps T).map prD)), []) := by
  unfold hapsF
  simp only [tabOf_T, Option.bind_some]
  rw [if_pos ⟨h, h2⟩]
theorem in_loop {td : D} {p : Str × Int} : ∀ (ks : List Int) (acc : List D) (x : Option U), acc.length + ks.length < 1000 → (x = none ∨ ∃ a, x = some (.t a)) →
    ∃ x', (x' = none ∨ ∃ a, x' = some (.t a)) ∧ loop (bName 3) w1_happenings_of (ks.map D.int) [some (.t td), some (.m (.lst acc)), some (.t (prD p)), x] = some (.nx [some (.t td), some (.m (.lst (acc ++ ks.map fun k => prD (p.1, k)))), some (.t (prD p)), x'])
  | [], acc, x, _, hx => ⟨x, hx, by simp⟩
  | k :: ks, acc, x, hl, hx => by
    have hl : acc.length + (ks.length + 1) < 1000 := hl
    obtain ⟨x', hx', e⟩ := in_loop (td := td) (p := p) ks (acc ++ [prD (p.1, k)]) (some (.t (.int k))) (by rw [List.length_append, List.length_singleton]; omega) (.inr ⟨_, rfl⟩)
    refine ⟨x', hx', ?_⟩
    have eb : bName 3 (.int k) [some (.t td), some (.m (.lst acc)), some (.t (prD p)), x] = some [some (.t td), some (.m (.lst acc)), some (.t (prD p)), some (.t (.int k))] := by
      rcases hx with rfl | ⟨a, rfl⟩ <;> rfl
    have h1 : acc.length < 100000 := by omega
    have ew : w1_happenings_of [some (.t td), some (.m (.lst acc)), some (.t (prD p)), some (.t (.int k))] = some (.nx [some (.t td), some (.m (.lst (acc ++ [prD (p.1, k)]))), some (.t (prD p)), some (.t (.int k))]) := by
      simp [w1_happenings_of, prD, at2, h1]
    show ((bName 3 (.int k) _).bind fun S1 => _) = _
    rw [eb, Option.bind_some, ew, Option.bind_some]
    show loop _ _ (ks.map D.int) _ = _
    rw [e]
    simp
theorem prd_rng {p : Str × Int} {td : D} {acc : List D} {x : Option U} (h : PairOk p) : gRng1 (aCons (eF (eP fAdd (aCons (eSub 2 (eC (.int 1))) (aCons (eC (.int 1)) aNil)))) aNil) [some (.t td), some (.m (.lst acc)), some (.t (prD p)), x] = some ((upTo (p.2 + 1).toNat).map D.int, [some (.t td), some (.m (.lst acc)), some (.t (prD p)), x]) := by
  have a := h.lo
  have b := h.hi
  rw [← rng_ints]
  have h1 : p.2 + 1 < 1000000 := by omega
  have h2 : -1000000 < p.2 + 1 := by omega
  simp [prD, at2, h1, h2]
theorem out_loop {td : D} : ∀ (T : List (Str × Int)) (acc : List D) (x y : Option U), (∀ p ∈ T, PairOk p) → acc.length + 11 * T.length < 900 → (x = none ∨ ∃ a, x = some (.t a)) → (y = none ∨ ∃ a, y = some (.t a)) →
    ∃ x' y', loop (bName 2) w2_happenings_of (T.map prD) [some (.t td), some (.m (.lst acc)), y, x] = some (.nx [some (.t td), some (.m (.lst (acc ++ (haps T).map prD))), y', x'])
  | [], acc, x, y, _, _, hx, hy => ⟨x, y, by simp [haps]⟩
  | p :: T, acc, x, y, h, hl, hx, hy => by
    have hp := h p List.mem_cons_self
    have hl : acc.length + 11 * (T.length + 1) < 900 := hl
    have a := hp.lo
    have b := hp.hi
    have e2 : (one p).length = (p.2 + 1).toNat := by unfold one; rw [List.length_map, upTo_len]
    obtain ⟨x1, hx1, e1⟩ := in_loop (td := td) (p := p) (upTo (p.2 + 1).toNat) acc x (by rw [upTo_len]; omega) hx
    have e3 : (upTo (p.2 + 1).toNat).map (fun k => prD (p.1, k)) = (one p).map prD := by unfold one; rw [List.map_map]; rfl
    rw [e3] at e1
    obtain ⟨x', y', e⟩ := out_loop (td := td) T (acc ++ (one p).map prD) x1 (some (.t (prD p))) (fun q hq => h q (List.mem_cons_of_mem _ hq)) (by rw [List.length_append, List.length_map, e2]; omega) hx1 (.inr ⟨_, rfl⟩)
    refine ⟨x', y', ?_⟩
    have eb : bName 2 (prD p) [some (.t td), some (.m (.lst acc)), y, x] = some [some (.t td), some (.m (.lst acc)), some (.t (prD p)), x] := by
      rcases hy with rfl | ⟨a, rfl⟩ <;> rfl
    have ew : w2_happenings_of [some (.t td), some (.m (.lst acc)), some (.t (prD p)), x] = some (.nx [some (.t td), some (.m (.lst (acc ++ (one p).map prD))), some (.t (prD p)), x1]) := by
      unfold w2_happenings_of
      rw [m_sFor, prd_rng hp, Option.bind_some]
      exact e1
    show ((bName 2 (prD p) _).bind fun S1 => _) = _
    rw [eb, Option.bind_some, ew, Option.bind_some]
    show loop _ _ (T.map prD) _ = _
    rw [e]
    have : haps (p :: T) = one p ++ haps T := rfl
    rw [this, List.map_append, List.append_assoc]
theorem haps_run : ∀ us r, hapsF us = some r → runB 4 g_happenings_of us = some r := by
  intro us r h
  unfold hapsF at h
  split at h
  · rename_i td
    obtain ⟨T, h1, h⟩ := bind_some' h
    obtain ⟨⟨h2, h3⟩, rfl⟩ := ite_some h
    have := tabOf_some h1
    subst this
    obtain ⟨x', y', e⟩ := out_loop (td := tabT T) T [] none none h3 (by simp only [List.length_nil]; omega) (.inl rfl) (.inl rfl)
    rw [List.nil_append] at e
    have e : loop (bName 2) w2_happenings_of (T.map prD) [some (.t (tabT T)), some (.m (.lst [])), none, none] = _ := e
    have ei : iAny (eF (eVar 0)) [some (.t (tabT T)), some (.m (.lst [])), none, none] = some (T.map prD, [some (.t (tabT T)), some (.m (.lst [])), none, none]) := rfl
    simp [runB, g_happenings_of, ei, e]
  · cases h
end Sw

end
section
set_option Elab.async false
set_option linter.all false
set_option maxRecDepth 100000
namespace Sq
open PySem PySem.Spec PyProof.Rows L2 Sw
theorem rng_drop {n j : Nat} {d : D} {r : List D} (h : (rng 0 n).drop j = d :: r) : j < n ∧ d = .int j ∧ (rng 0 n).drop (j + 1) = r := by
  have hl : j < n := by
    have := congrArg List.length h
    simp [rng] at this
    omega
  have h2 : j < (rng 0 n).length := by simpa [rng] using hl
  rw [List.drop_eq_getElem_cons h2] at h
  injection h with h3 h4
  refine ⟨hl, ?_, h4⟩
  rw [← h3]
  simp [rng]
theorem rng_len (n : Nat) : (rng 0 n).length = n := by simp [rng]
def Fr1 (x : Option U) : Prop := x = none ∨ ∃ d, x = some (.t d)
theorem Fr1.t {d : D} : Fr1 (some (.t d)) := .inr ⟨d, rfl⟩
theorem Fr1.n : Fr1 none := .inl rfl
def poolD : List D := [.str "a", .str "ab", .str "abc", .str "now", .str "any", .str "name", .str "less", .str "x", .str "zzzzzzzz"]
theorem pool_at {i : Int} (h0 : 0 ≤ i) (h1 : i < 9) : ∃ z, atI poolD i = some (.str z) ∧ NameOk z := by
  have : i = 0 ∨ i = 1 ∨ i = 2 ∨ i = 3 ∨ i = 4 ∨ i = 5 ∨ i = 6 ∨ i = 7 ∨ i = 8 := by omega
  rcases this with rfl | rfl | rfl | rfl | rfl | rfl | rfl | rfl | rfl <;> exact ⟨_, rfl, by decide, by decide⟩
theorem many_at {i : Int} (h0 : 0 ≤ i) (h1 : i < 4) : ∃ m : Int, atI [D.int 1, .int 2, .int 2, .int 3] i = some (.int m) ∧ 1 ≤ m ∧ m ≤ 3 := by
  have : i = 0 ∨ i = 1 ∨ i = 2 ∨ i = 3 := by omega
  rcases this with rfl | rfl | rfl | rfl <;> exact ⟨_, rfl, by decide, by decide⟩
def w1__law_table (f_law_take : FM) : GS :=
  (sSeq (sSet 7 (eP fMin2 (aCons (eF (eCall f_law_take (uMut (eVar 0) (uVal (eC (.int 3)) uNil)))) (aCons (eF (eP fAdd (aCons (eF (eP fSub (aCons (eF (eVar 4)) (aCons (eF (eVar 3)) aNil)))) (aCons (eF (eVar 6)) aNil)))) aNil))))
  (sSeq (sExpr (eT (eM 5 hAppend (aCons (eF (eP fTup (aCons (eSub 1 (eF (eP fMod (aCons (eF (eP fAdd (aCons (eF (eVar 2)) (aCons (eF (eVar 6)) aNil)))) (aCons (eC (.int 9)) aNil))))) (aCons (eF (eVar 7)) aNil)))) aNil))))
  (sSet 4 (eP fSub (aCons (eF (eP fSub (aCons (eF (eVar 4)) (aCons (eF (eVar 7)) aNil)))) (aCons (eC (.int 1)) aNil))))))
def g__law_table (f_law_take : FM) : GS :=
  (sSeq (sSet 1 (eP fLst (aCons (eC (.str "a")) (aCons (eC (.str "ab")) (aCons (eC (.str "abc")) (aCons (eC (.str "now")) (aCons (eC (.str "any")) (aCons (eC (.str "name")) (aCons (eC (.str "less")) (aCons (eC (.str "x")) (aCons (eC (.str "zzzzzzzz")) aNil)))))))))))
  (sSeq (sSet 2 (eCall f_law_take (uMut (eVar 0) (uVal (eC (.int 9)) uNil))))
  (sSeq (sSet 3 (eP fIx (aCons (eF (eP fLst (aCons (eC (.int 1)) (aCons (eC (.int 2)) (aCons (eC (.int 2)) (aCons (eC (.int 3)) aNil)))))) (aCons (eF (eCall f_law_take (uMut (eVar 0) (uVal (eC (.int 4)) uNil)))) aNil))))
  (sSeq (sSet 4 (eT (eC (.int 5))))
  (sSeq (sSet 5 (eP fLst aNil))
  (sSeq (sFor (bName 6) (gRng1 (aCons (eF (eVar 3)) aNil)) (w1__law_table f_law_take))
  (sRet (eP fTuple (aCons (eF (eVar 5)) aNil)))))))))

def tabQ : FM := runB 8 (g__law_table takeF)
theorem tabQ_run : ∀ us r, tabQ us = some r → runB 8 (g__law_table takeF) us = some r := fun _ _ h => h
theorem tab_turn {c i l st m left k : Int} {T : List (Str × Int)} {x6 x7 : Option U} (hi : 0 ≤ i) (hi1 : i < 800000) (hs : 0 ≤ st) (hk : 0 ≤ k) (hl : 0 ≤ left - m + k) (hT : T.length < 10) (h6 : Fr1 x6) (h7 : Fr1 x7) :
    ∃ z v l' S1, bName 6 (.int k) [some (.b (fd c i l)), some (.m (.lst poolD)), some (.t (.int st)), some (.t (.int m)), some (.t (.int left)), some (.m (.lst (T.map prD))), x6, x7] = some S1 ∧ PairOk (z, v) ∧ v ≤ left - m + k ∧
      w1__law_table takeF S1 = some (.nx [some (.b (fd c (i + 1) l')), some (.m (.lst poolD)), some (.t (.int st)), some (.t (.int m)), some (.t (.int (left - v - 1))), some (.m (.lst ((T ++ [(z, v)]).map prD))), some (.t (.int k)), some (.t (.int v))]) := by
  obtain ⟨v, l', e1, v0, v1⟩ := take_ok c l hi (by omega) (m := 3) (by omega) (by omega)
  obtain ⟨z, e2, nz⟩ := pool_at (i := (st + k) % 9) (Int.emod_nonneg _ (by decide)) (Int.emod_lt_of_pos _ (by decide))
  have hlen : (T.map prD).length < 100000 := by rw [List.length_map]; omega
  have e3 : T.length < 100000 := by omega
  refine ⟨z, if left - m + k < v then left - m + k else v, l', [some (.b (fd c i l)), some (.m (.lst poolD)), some (.t (.int st)), some (.t (.int m)), some (.t (.int left)), some (.m (.lst (T.map prD))), some (.t (.int k)), x7], ?_, ⟨nz, ?_, ?_⟩, ?_, ?_⟩
  · rcases h6 with rfl | ⟨d, rfl⟩ <;> rfl
  · show (0 : Int) ≤ if left - m + k < v then left - m + k else v; split <;> omega
  · show (if left - m + k < v then left - m + k else v : Int) ≤ 10; split <;> omega
  · split <;> omega
  · rcases h7 with rfl | ⟨d, rfl⟩ <;> simp [w1__law_table, e1, e2, e3, prD, mutU, hAppend, isL]
theorem tabQ_ok (c l : Int) {i : Int} (h0 : 0 ≤ i) (h1 : i < 700000) : ∃ T i' l', tabQ [.b (fd c i l)] = some (.t (tabT T), [fd c i' l']) ∧ 0 < T.length ∧ T.length ≤ 3 ∧ (∀ p ∈ T, PairOk p) ∧ i ≤ i' ∧ i' ≤ i + 10 := by
  obtain ⟨st, l1, e1, s0, s1⟩ := take_ok c l h0 (by omega) (m := 9) (by omega) (by omega)
  obtain ⟨a, l2, e2, a0, a1⟩ := take_ok c l1 (i := i + 1) (by omega) (by omega) (m := 4) (by omega) (by omega)
  obtain ⟨m, e3, m0, m1⟩ := many_at a0 a1
  obtain ⟨S', e4, j, T, i', l', x6, x7, left, hr, hj, hTl, hT, hi, hi2, hleft, h6, h7, rfl⟩ := loop_ok (bd := bName 6) (body := w1__law_table takeF) (rng 0 m.toNat)
    (fun r S => ∃ (j : Nat) (T : List (Str × Int)) (i' l' : Int) (x6 x7 : Option U) (left : Int), (rng 0 m.toNat).drop j = r ∧ j ≤ m.toNat ∧ T.length = j ∧ (∀ p ∈ T, PairOk p) ∧ i ≤ i' ∧ i' = i + 2 + j ∧ 0 ≤ left - m + j ∧ Fr1 x6 ∧ Fr1 x7 ∧
      S = [some (.b (fd c i' l')), some (.m (.lst poolD)), some (.t (.int st)), some (.t (.int m)), some (.t (.int left)), some (.m (.lst (T.map prD))), x6, x7])
    [some (.b (fd c (i + 1 + 1) l2)), some (.m (.lst poolD)), some (.t (.int st)), some (.t (.int m)), some (.t (.int 5)), some (.m (.lst [])), none, none]
    ⟨0, [], i + 1 + 1, l2, none, none, 5, rfl, Nat.zero_le _, rfl, by simp, by omega, by push_cast; omega, by push_cast; omega, .n, .n, rfl⟩ (by
    rintro d r S ⟨j, T, i', l', x6, x7, left, hr, hj, hTl, hT, hi, hi2, hleft, h6, h7, rfl⟩
    obtain ⟨hjn, rfl, hr'⟩ := rng_drop hr
    obtain ⟨z, v, l'', S1, b1, b2, b3, b4⟩ := tab_turn (c := c) (i := i') (l := l') (st := st) (m := m) (left := left) (k := j) (T := T) (by omega) (by omega) s0 (by omega) hleft (by omega) h6 h7
    refine ⟨S1, _, b1, b4, j + 1, T ++ [(z, v)], i' + 1, l'', _, _, left - v - 1, hr', hjn, by simp [hTl], ?_, by omega, by push_cast; omega, by push_cast; omega, .t, .t, rfl⟩
    intro p hp
    rcases List.mem_append.mp hp with q | q
    · exact hT p q
    · rw [show p = (z, v) by simpa using q]; exact b2)
  have hj : j = m.toNat := by
    have := congrArg List.length hr
    simp [rng] at this
    omega
  refine ⟨T, i', l', ?_, by omega, by omega, hT, hi, by omega⟩
  have b1 : m < 1000000 := by omega
  have b2 : -1000000 < m := by omega
  simp [tabQ, runB, g__law_table, e1, e2, e3, b1, b2, outsOf, tabT]
  simp only [poolD] at e4
  rw [e4]
  simp [prD]
def w1__law_happenings : GS :=
  (sExpr (eT (eM 1 hExtend (aCons (eF (eComp [2] (gRng1 (aCons (eF (eP fAdd (aCons (eF (eVar 3)) (aCons (eC (.int 1)) aNil)))) aNil)) qTrue (eF (eP fTup (aCons (eF (eVar 1)) (aCons (eF (eVar 0)) aNil)))))) aNil))))
def g__law_happenings : GS :=
  (sSeq (sSet 1 (eP fLst aNil))
  (sSeq (sFor (bTup 2 (bCons (bName 2) (bCons (bName 3) bNil))) (iSeq (eF (eVar 0))) (w1__law_happenings))
  (sRet (eVar 1))))

def lhapF : FM := runB 4 g__law_happenings
theorem lhap_run : ∀ us r, lhapF us = some r → runB 4 g__law_happenings us = some r := fun _ _ h => h
theorem lhap_turn {p : Str × Int} {td : D} {acc : List D} {x2 x3 : Option U} (hp : PairOk p) (ha : acc.length < 1000) (h2 : Fr1 x2) (h3 : Fr1 x3) : ∃ S1, bTup 2 (bCons (bName 2) (bCons (bName 3) bNil)) (prD p) [some (.t td), some (.m (.lst acc)), x2, x3] = some S1 ∧
    w1__law_happenings S1 = some (.nx [some (.t td), some (.m (.lst (acc ++ (one p).map prD))), some (.t (.str p.1)), some (.t (.int p.2))]) := by
  refine ⟨[some (.t td), some (.m (.lst acc)), some (.t (.str p.1)), some (.t (.int p.2))], ?_, ?_⟩
  · rcases h2 with rfl | ⟨a, rfl⟩ <;> rcases h3 with rfl | ⟨b, rfl⟩ <;> rfl
  · have a := hp.lo
    have b := hp.hi
    have b1 : p.2 + 1 < 1000000 := by omega
    have b2 : -1000000 < p.2 + 1 := by omega
    have e := compL_t (cap := [2]) (q := qTrue) (g := eF (eP fTup (aCons (eF (eVar 1)) (aCons (eF (eVar 0)) aNil)))) (S := [some (.t td), some (.m (.lst acc)), some (.t (.str p.1)), some (.t (.int p.2))]) (ts := [.str p.1]) rfl (fun _ => true) (fun d => .tup [.str p.1, d]) (rng 0 (p.2 + 1).toNat) [] (fun d _ => rfl) (fun d _ _ => by simp)
    have e5 : (rng 0 (p.2 + 1).toNat).map (fun d => D.tup [.str p.1, d]) = (one p).map prD := by rw [rng_ints]; unfold one prD; simp
    have e6 : ((one p).map prD).length = (p.2 + 1).toNat := by unfold one; rw [List.length_map, List.length_map, upTo_len]
    rw [List.filter_eq_self.mpr (fun _ _ => rfl), e5, List.nil_append] at e
    have l1 : (p.2 + 1).toNat ≤ 100000 := by omega
    have l2 : acc.length + ((one p).map prD).length ≤ 100000 := by rw [e6]; omega
    simp only [List.length_map] at l2
    simp [w1__law_happenings, m_eComp, b1, b2, rng_len, l1, e, l2, isL, mutU]
theorem lhap_ok {T : List (Str × Int)} (h : T.length ≤ 4) (h2 : ∀ p ∈ T, PairOk p) : lhapF [.t (tabT T)] = some (.m (.lst ((haps T).map prD)), []) := by
  obtain ⟨S', e, done, rest, x2, x3, hd, hr, q2, q3, hs⟩ := loop_ok (bd := bTup 2 (bCons (bName 2) (bCons (bName 3) bNil))) (body := w1__law_happenings) (T.map prD)
    (fun r S => ∃ (done rest : List (Str × Int)) (x2 x3 : Option U), T = done ++ rest ∧ r = rest.map prD ∧ Fr1 x2 ∧ Fr1 x3 ∧ S = [some (.t (tabT T)), some (.m (.lst ((haps done).map prD))), x2, x3])
    [some (.t (tabT T)), some (.m (.lst [])), none, none] ⟨[], T, none, none, rfl, rfl, .n, .n, rfl⟩ (by
    rintro d r S ⟨done, rest, x2, x3, hd, hr, q2, q3, rfl⟩
    cases rest with
    | nil => cases hr
    | cons p rest =>
      injection hr with hr1 hr2
      subst hr1
      have hl := haps_len (T := done) fun q hq => h2 q (by rw [hd]; exact List.mem_append_left _ hq)
      have hdl : done.length ≤ 4 := by have := congrArg List.length hd; simp at this; omega
      obtain ⟨S1, e1, e2⟩ := lhap_turn (p := p) (td := tabT T) (acc := (haps done).map prD) (x2 := x2) (x3 := x3) (h2 p (by rw [hd]; simp)) (by rw [List.length_map]; omega) q2 q3
      refine ⟨S1, _, e1, e2, done ++ [p], rest, some (.t (.str p.1)), some (.t (.int p.2)), by rw [hd]; simp, hr2, .t, .t, ?_⟩
      have : haps (done ++ [p]) = haps done ++ one p := by simp [haps]
      rw [this, List.map_append])
  have : rest = [] := by
    cases rest with
    | nil => rfl
    | cons a b => cases hr
  subst this
  rw [List.append_nil] at hd
  subst hd
  subst hs
  have e : loop (bTup 2 (bCons (bName 2) (bCons (bName 3) bNil))) w1__law_happenings (T.map prD) [some (.t (tabT T)), some (.m (.lst [])), none, none] = _ := e
  have ei : iSeq (eF (eVar 0)) [some (.t (tabT T)), some (.m (.lst [])), none, none] = some (T.map prD, [some (.t (tabT T)), some (.m (.lst [])), none, none]) := rfl
  simp only [lhapF, runB, g__law_happenings]
  simp [ei, e, outsOf, -m_iSeq]
end Sq

end
section
set_option Elab.async false
set_option linter.all false
set_option maxRecDepth 100000
namespace Sq
open PySem PySem.Spec PyProof.Rows L2 Sw
def w1__law_machine (f_law_take : FM) (f_law_happenings : FM) : GS :=
  (sExpr (eT (eM 5 hAppend (aCons (eF (eP fTuple (aCons (eF (eComp [0, 3] (gRng1 (aCons (eF (eVar 4)) aNil)) qTrue (eF (eCall f_law_take (uMut (eVar 1) (uVal (eF (eVar 2)) uNil)))))) aNil))) aNil))))
def g__law_machine (f_law_take : FM) (f_law_happenings : FM) : GS :=
  (sSeq (sSet 3 (eP fAdd (aCons (eC (.int 1)) (aCons (eF (eCall f_law_take (uMut (eVar 0) (uVal (eC (.int 7)) uNil)))) aNil))))
  (sSeq (sSet 4 (eP fLen (aCons (eF (eCall f_law_happenings (uVal (eF (eVar 1)) uNil))) aNil)))
  (sSeq (sSet 5 (eP fLst aNil))
  (sSeq (sFor (bName 6) (gRng1 (aCons (eF (eVar 3)) aNil)) (w1__law_machine f_law_take f_law_happenings))
  (sSeq (sSet 7 (eComp [0, 2] (gRng1 (aCons (eF (eVar 3)) aNil)) qTrue (eSub 2 (eF (eCall f_law_take (uMut (eVar 1) (uVal (eLen 2) uNil)))))))
  (sSeq (sIf (qB (eF (eP fEq (aCons (eF (eCall f_law_take (uMut (eVar 0) (uVal (eC (.int 3)) uNil)))) (aCons (eC (.int 0)) aNil))))) (sSet 7 (eP fRep (aCons (eF (eP fLst (aCons (eSub 2 (eC (.int 0))) aNil))) (aCons (eF (eVar 3)) aNil)))) sNil)
  (sRet (eP fTup (aCons (eF (eP fTuple (aCons (eF (eVar 5)) aNil))) (aCons (eF (eP fTuple (aCons (eF (eVar 7)) aNil))) aNil))))))))))

def machF : FM := runB 8 (g__law_machine takeF lhapF)
theorem mach_run : ∀ us r, machF us = some r → runB 8 (g__law_machine takeF lhapF) us = some r := fun _ _ h => h
def intsD (r : List Int) : D := .tup (r.map D.int)
theorem draws_ok (c l : Int) {i m : Int} {a1 a2 a4 a5 a6 a7 : Option U} (n : Nat) (hi : 0 ≤ i) (hn : i + n < 800000) (m0 : 0 < m) (m1 : m < 1000000) :
    ∃ (vs : List Int) (l' : Int), compL [0, 3] qTrue (eF (eCall takeF (uMut (eVar 1) (uVal (eF (eVar 2)) uNil)))) (rng 0 n) [some (.b (fd c i l)), a1, a2, some (.t (.int m)), a4, a5, a6, a7] [] = some (vs.map D.int, [some (.b (fd c (i + n) l')), a1, a2, some (.t (.int m)), a4, a5, a6, a7]) ∧ vs.length = n ∧ ∀ v ∈ vs, 0 ≤ v ∧ v < m := by
  obtain ⟨acc', S', e, j, vs, l', hr, hj, rfl, hl, hv, rfl⟩ := comp_ok (cap := [0, 3]) (g := eF (eCall takeF (uMut (eVar 1) (uVal (eF (eVar 2)) uNil)))) (rng 0 n)
    (fun r acc S => ∃ (j : Nat) (vs : List Int) (l' : Int), (rng 0 n).drop j = r ∧ j ≤ n ∧ acc = vs.map D.int ∧ vs.length = j ∧ (∀ v ∈ vs, 0 ≤ v ∧ v < m) ∧ S = [some (.b (fd c (i + j) l')), a1, a2, some (.t (.int m)), a4, a5, a6, a7])
    [some (.b (fd c i l)), a1, a2, some (.t (.int m)), a4, a5, a6, a7] [] ⟨0, [], l, rfl, Nat.zero_le _, rfl, rfl, by simp, by simp⟩ (by
      rintro d r acc S ⟨j, vs, l', hr, hj, rfl, hl, hv, rfl⟩
      obtain ⟨hjn, rfl, hr'⟩ := rng_drop hr
      obtain ⟨v, l'', e1, v0, v1⟩ := take_ok c l' (i := i + j) (m := m) (by omega) (by omega) m0 m1
      refine ⟨(vs ++ [v]).map D.int, [some (.b (fd c (i + ((j + 1 : Nat) : Int)) l'')), a1, a2, some (.t (.int m)), a4, a5, a6, a7], ?_, j + 1, vs ++ [v], l'', hr', hjn, rfl, by simp [hl], ?_, rfl⟩
      · have e2 : i + ((j + 1 : Nat) : Int) = i + j + 1 := by push_cast; omega
        rw [e2]
        simp [compL, capArgs, capArg, e1, outsOf]
      · intro w hw
        rcases List.mem_append.mp hw with q | q
        · exact hv w q
        · rw [show w = v by simpa using q]; exact ⟨v0, v1⟩)
  have hj : j = n := by
    have := congrArg List.length hr
    simp [rng] at this
    omega
  subst hj
  exact ⟨vs, l', e, hl, hv⟩
theorem marks_ok (c l : Int) {i : Int} {menu : List D} {a1 a3 a4 a5 a6 a7 : Option U} (n : Nat) (hi : 0 ≤ i) (hn : i + n < 800000) (m0 : 0 < menu.length) (m1 : menu.length < 1000) :
    ∃ (vs : List D) (l' : Int), compL [0, 2] qTrue (eSub 2 (eF (eCall takeF (uMut (eVar 1) (uVal (eLen 2) uNil))))) (rng 0 n) [some (.b (fd c i l)), a1, some (.t (.lst menu)), a3, a4, a5, a6, a7] [] = some (vs, [some (.b (fd c (i + n) l')), a1, some (.t (.lst menu)), a3, a4, a5, a6, a7]) ∧ vs.length = n ∧ ∀ v ∈ vs, v ∈ menu := by
  obtain ⟨acc', S', e, j, l', hr, hj, hl, hv, rfl⟩ := comp_ok (cap := [0, 2]) (g := eSub 2 (eF (eCall takeF (uMut (eVar 1) (uVal (eLen 2) uNil))))) (rng 0 n)
    (fun r acc S => ∃ (j : Nat) (l' : Int), (rng 0 n).drop j = r ∧ j ≤ n ∧ acc.length = j ∧ (∀ v ∈ acc, v ∈ menu) ∧ S = [some (.b (fd c (i + j) l')), a1, some (.t (.lst menu)), a3, a4, a5, a6, a7])
    [some (.b (fd c i l)), a1, some (.t (.lst menu)), a3, a4, a5, a6, a7] [] ⟨0, l, rfl, Nat.zero_le _, rfl, by simp, by simp⟩ (by
      rintro d r acc S ⟨j, l', hr, hj, hl, hv, rfl⟩
      obtain ⟨hjn, rfl, hr'⟩ := rng_drop hr
      obtain ⟨v, l'', e1, v0, v1⟩ := take_ok c l' (i := i + j) (m := menu.length) (by omega) (by omega) (by omega) (by omega)
      obtain ⟨x, e3, e4⟩ := atI_ok (l := menu) v0 v1
      refine ⟨acc ++ [x], [some (.b (fd c (i + ((j + 1 : Nat) : Int)) l'')), a1, some (.t (.lst menu)), a3, a4, a5, a6, a7], ?_, j + 1, l'', hr', hjn, by simp [hl], ?_, rfl⟩
      · have e2 : i + ((j + 1 : Nat) : Int) = i + j + 1 := by push_cast; omega
        rw [e2]
        simp [compL, capArgs, capArg, e1, outsOf, e3]
      · intro w hw
        rcases List.mem_append.mp hw with q | q
        · exact hv w q
        · rw [show w = x by simpa using q]; exact List.mem_of_getElem? e4)
  have hj : j = n := by
    have := congrArg List.length hr
    simp [rng] at this
    omega
  subst hj
  exact ⟨acc', l', e, hl, hv⟩
structure MachOk (wide : Nat) (N : List (List Int)) : Prop where
  pos : 0 < N.length
  few : N.length ≤ 7
  row : ∀ r ∈ N, r.length = wide ∧ ∀ v ∈ r, 0 ≤ v ∧ v < N.length
theorem mach_turn (c l : Int) {i : Int} {td md : D} {N : List (List Int)} {n wide j : Nat} {x6 : Option U} (hi : 0 ≤ i) (hi2 : i < 750000) (hw : wide ≤ 44) (hn : 0 < n) (hn2 : n ≤ 7) (hN : N.length ≤ 7) (h6 : Fr1 x6) :
    ∃ (vs : List Int) (l' : Int) (S1 : SS), bName 6 (.int j) [some (.b (fd c i l)), some (.t td), some (.t md), some (.t (.int n)), some (.t (.int wide)), some (.m (.lst (N.map intsD))), x6, none] = some S1 ∧
      w1__law_machine takeF lhapF S1 = some (.nx [some (.b (fd c (i + wide) l')), some (.t td), some (.t md), some (.t (.int n)), some (.t (.int wide)), some (.m (.lst ((N ++ [vs]).map intsD))), some (.t (.int j)), none]) ∧ vs.length = wide ∧ ∀ v ∈ vs, 0 ≤ v ∧ v < (n : Int) := by
  obtain ⟨vs, l'', e4, hl, hv⟩ := draws_ok c l (i := i) (m := n) (a1 := some (.t td)) (a2 := some (.t md)) (a4 := some (.t (.int wide))) (a5 := some (.m (.lst (N.map intsD)))) (a6 := some (.t (.int j))) (a7 := none) wide (by omega) (by omega) (by omega) (by omega)
  refine ⟨vs, l'', [some (.b (fd c i l)), some (.t td), some (.t md), some (.t (.int n)), some (.t (.int wide)), some (.m (.lst (N.map intsD))), some (.t (.int j)), none], ?_, ?_, hl, hv⟩
  · rcases h6 with rfl | ⟨d, rfl⟩ <;> rfl
  · have b1 := fun S h => gRng_v 4 wide S h (by omega)
    have b3 : wide ≤ 100000 := by omega
    have b4 : N.length < 100000 := by omega
    simp [w1__law_machine, m_eCompQ, -m_gRng1, b1, b3, b4, rng_len, e4, isL, mutU, hAppend, intsD]
theorem seq_nx {a b : GS} {S S1 : SS} (h : a S = some (.nx S1)) : sSeq a b S = b S1 := by
  show (a S).bind _ = _
  rw [h]
  rfl
theorem mach_ok (c l : Int) {i : Int} {T : List (Str × Int)} {menu : List D} (hi : 0 ≤ i) (hi2 : i < 700000) (hT : T.length ≤ 4) (hp : ∀ p ∈ T, PairOk p) (m0 : 0 < menu.length) (m1 : menu.length < 1000) :
    ∃ (N : List (List Int)) (M : List D) (i' l' : Int), machF [.b (fd c i l), .t (tabT T), .t (.lst menu)] = some (.t (.tup [.tup (N.map intsD), .tup M]), [fd c i' l']) ∧ MachOk (haps T).length N ∧ M.length = N.length ∧ ∀ x ∈ M, x ∈ menu := by
  obtain ⟨a, l1, e1, a0, a1⟩ := take_ok c l hi (by omega) (m := 7) (by omega) (by omega)
  have e2 := lhap_ok hT hp
  have hw := haps_len hp
  generalize hwd : (haps T).length = wide at hw
  obtain ⟨n, hn⟩ : ∃ n : Nat, (1 + a) = (n : Int) := ⟨(1 + a).toNat, by omega⟩
  obtain ⟨S1, e3, j, N, i2, l2, x6, hr, hj, hN, hrow, h6, q1, q2, rfl⟩ := loop_ok (bd := bName 6) (body := w1__law_machine takeF lhapF) (rng 0 n)
    (fun r S => ∃ (j : Nat) (N : List (List Int)) (i' l' : Int) (x6 : Option U), (rng 0 n).drop j = r ∧ j ≤ n ∧ N.length = j ∧ (∀ r ∈ N, r.length = wide ∧ ∀ v ∈ r, 0 ≤ v ∧ v < (n : Int)) ∧ Fr1 x6 ∧ i ≤ i' ∧ i' ≤ i + 1 + 44 * (j : Int) ∧
      S = [some (.b (fd c i' l')), some (.t (tabT T)), some (.t (.lst menu)), some (.t (.int n)), some (.t (.int wide)), some (.m (.lst (N.map intsD))), x6, none])
    [some (.b (fd c (i + 1) l1)), some (.t (tabT T)), some (.t (.lst menu)), some (.t (.int n)), some (.t (.int wide)), some (.m (.lst [])), none, none] ⟨0, [], i + 1, l1, none, rfl, Nat.zero_le _, rfl, by simp, .n, by omega, by omega, by simp⟩ (by
      rintro d r S ⟨j, N, i', l', x6, hr, hj, hN, hrow, h6, q1, q2, rfl⟩
      obtain ⟨hjn, rfl, hr'⟩ := rng_drop hr
      obtain ⟨vs, l'', S1, e4, e5, hl, hv⟩ := mach_turn c l' (i := i') (td := tabT T) (md := .lst menu) (N := N) (n := n) (wide := wide) (j := j) (x6 := x6) (by omega) (by omega) (by omega) (by omega) (by omega) (by omega) h6
      refine ⟨S1, _, e4, e5, j + 1, N ++ [vs], i' + wide, l'', some (.t (.int j)), hr', hjn, by simp [hN], ?_, .t, by omega, by push_cast; omega, rfl⟩
      intro q hq
      rcases List.mem_append.mp hq with z | z
      · exact hrow q z
      · rw [show q = vs by simpa using z]; exact ⟨hl, hv⟩)
  have hj : j = n := by
    have := congrArg List.length hr
    simp [rng] at this
    omega
  subst hj
  obtain ⟨M, l3, e6, hM, hM2⟩ := marks_ok c l2 (i := i2) (menu := menu) (a1 := some (.t (tabT T))) (a3 := some (.t (.int j))) (a4 := some (.t (.int wide))) (a5 := some (.m (.lst (N.map intsD)))) (a6 := x6) (a7 := none) j (by omega) (by omega) m0 m1
  obtain ⟨b, l4, e7, b0, b1⟩ := take_ok c l3 (i := i2 + j) (m := 3) (by omega) (by omega) (by omega) (by omega)
  obtain ⟨x0, e8, e9⟩ := atI_ok (l := menu) (i := 0) (by omega) (by omega)
  have c1 := fun S h => gRng_v 3 j S h (by omega)
  have c2 := fRep_one x0 j (by omega)
  have c3 : j ≤ 100000 := by omega
  have mo : MachOk wide N := ⟨by omega, by omega, fun r hr => by rw [hN]; exact hrow r hr⟩
  have h0 : (sSet 3 (eP fAdd (aCons (eC (.int 1)) (aCons (eF (eCall takeF (uMut (eVar 0) (uVal (eC (.int 7)) uNil)))) aNil)))) [some (.b (fd c i l)), some (.t (tabT T)), some (.t (.lst menu)), none, none, none, none, none] = some (.nx [some (.b (fd c (i + 1) l1)), some (.t (tabT T)), some (.t (.lst menu)), some (.t (.int j)), none, none, none, none]) := by simp [e1, hn]
  have h1 : (sSet 4 (eP fLen (aCons (eF (eCall lhapF (uVal (eF (eVar 1)) uNil))) aNil))) [some (.b (fd c (i + 1) l1)), some (.t (tabT T)), some (.t (.lst menu)), some (.t (.int j)), none, none, none, none] = some (.nx [some (.b (fd c (i + 1) l1)), some (.t (tabT T)), some (.t (.lst menu)), some (.t (.int j)), some (.t (.int wide)), none, none, none]) := by simp [e2, hwd]
  have h2 : (sSet 5 (eP fLst aNil)) [some (.b (fd c (i + 1) l1)), some (.t (tabT T)), some (.t (.lst menu)), some (.t (.int j)), some (.t (.int wide)), none, none, none] = some (.nx [some (.b (fd c (i + 1) l1)), some (.t (tabT T)), some (.t (.lst menu)), some (.t (.int j)), some (.t (.int wide)), some (.m (.lst [])), none, none]) := by simp []
  have h3 : (sFor (bName 6) (gRng1 (aCons (eF (eVar 3)) aNil)) (w1__law_machine takeF lhapF)) [some (.b (fd c (i + 1) l1)), some (.t (tabT T)), some (.t (.lst menu)), some (.t (.int j)), some (.t (.int wide)), some (.m (.lst [])), none, none] = some (.nx [some (.b (fd c i2 l2)), some (.t (tabT T)), some (.t (.lst menu)), some (.t (.int j)), some (.t (.int wide)), some (.m (.lst (N.map intsD))), x6, none]) := by simp [-m_gRng1, c1, e3]
  have h4 : (sSet 7 (eComp [0, 2] (gRng1 (aCons (eF (eVar 3)) aNil)) qTrue (eSub 2 (eF (eCall takeF (uMut (eVar 1) (uVal (eLen 2) uNil))))))) [some (.b (fd c i2 l2)), some (.t (tabT T)), some (.t (.lst menu)), some (.t (.int j)), some (.t (.int wide)), some (.m (.lst (N.map intsD))), x6, none] = some (.nx [some (.b (fd c (i2 + j) l3)), some (.t (tabT T)), some (.t (.lst menu)), some (.t (.int j)), some (.t (.int wide)), some (.m (.lst (N.map intsD))), x6, some (.m (.lst M))]) := by simp [-m_gRng1, c1, m_eCompQ, rng_len, c3, e6]
  have h5 : (sIf (qB (eF (eP fEq (aCons (eF (eCall takeF (uMut (eVar 0) (uVal (eC (.int 3)) uNil)))) (aCons (eC (.int 0)) aNil))))) (sSet 7 (eP fRep (aCons (eF (eP fLst (aCons (eSub 2 (eC (.int 0))) aNil))) (aCons (eF (eVar 3)) aNil)))) sNil) [some (.b (fd c (i2 + j) l3)), some (.t (tabT T)), some (.t (.lst menu)), some (.t (.int j)), some (.t (.int wide)), some (.m (.lst (N.map intsD))), x6, some (.m (.lst M))] = some (.nx [some (.b (fd c (i2 + j + 1) l4)), some (.t (tabT T)), some (.t (.lst menu)), some (.t (.int j)), some (.t (.int wide)), some (.m (.lst (N.map intsD))), x6, some (.m (.lst (if b = 0 then List.replicate j x0 else M)))]) := by
    by_cases hb : b = 0
    · subst hb; simp [e7, -m_fRep, c2, e8]
    · simp [hb, e7]
  have h6' : (sRet (eP fTup (aCons (eF (eP fTuple (aCons (eF (eVar 5)) aNil))) (aCons (eF (eP fTuple (aCons (eF (eVar 7)) aNil))) aNil)))) [some (.b (fd c (i2 + j + 1) l4)), some (.t (tabT T)), some (.t (.lst menu)), some (.t (.int j)), some (.t (.int wide)), some (.m (.lst (N.map intsD))), x6, some (.m (.lst (if b = 0 then List.replicate j x0 else M)))] = some (.rt (.t (.tup [.tup (N.map intsD), .tup (if b = 0 then List.replicate j x0 else M)])) [some (.b (fd c (i2 + j + 1) l4)), some (.t (tabT T)), some (.t (.lst menu)), some (.t (.int j)), some (.t (.int wide)), some (.t (.lst (N.map intsD))), x6, some (.t (.lst (if b = 0 then List.replicate j x0 else M)))]) := by simp
  have all : g__law_machine takeF lhapF [some (.b (fd c i l)), some (.t (tabT T)), some (.t (.lst menu)), none, none, none, none, none] = some (.rt (.t (.tup [.tup (N.map intsD), .tup (if b = 0 then List.replicate j x0 else M)])) [some (.b (fd c (i2 + j + 1) l4)), some (.t (tabT T)), some (.t (.lst menu)), some (.t (.int j)), some (.t (.int wide)), some (.t (.lst (N.map intsD))), x6, some (.t (.lst (if b = 0 then List.replicate j x0 else M)))]) := by
    unfold g__law_machine
    rw [seq_nx h0, seq_nx h1, seq_nx h2, seq_nx h3, seq_nx h4, seq_nx h5, h6']
  refine ⟨N, if b = 0 then List.replicate j x0 else M, i2 + j + 1, l4, ?_, mo, ?_, ?_⟩
  · show (g__law_machine takeF lhapF [some (.b (fd c i l)), some (.t (tabT T)), some (.t (.lst menu)), none, none, none, none, none]).bind _ = _
    rw [all]
    rfl
  · split
    · rw [List.length_replicate]; exact hN.symm
    · omega
  · split
    · intro x hx; rw [List.eq_of_mem_replicate hx]; exact List.mem_of_getElem? e9
    · exact hM2
end Sq

end
section
set_option Elab.async false
set_option linter.all false
set_option maxRecDepth 100000
namespace Sq
open PySem PySem.Spec PyProof.Rows L2 Sw
def nonAt (R : List D) (i : Nat) : Bool := match R[i]? with
  | some d => isNon d
  | none => false
def visit (row : List D) : List (D × Int) → List D → List Int → List D × List Int
  | [], R, nw => (R, nw)
  | (h, v) :: r, R, nw => if nonAt R v.toNat then visit row r (R.set v.toNat (.tup (row ++ [h]))) (nw ++ [v]) else visit row r R nw
def nones (R : List D) : Nat := (R.filter isNon).length
theorem nones_set : ∀ {R : List D} {i : Nat} {l : List D}, nonAt R i = true → nones (R.set i (.tup l)) + 1 = nones R
  | [], i, l, h => by simp [nonAt] at h
  | d :: R, 0, l, h => by
    have hd : isNon d = true := by simpa [nonAt] using h
    show ((D.tup l :: R).filter isNon).length + 1 = ((d :: R).filter isNon).length
    rw [List.filter_cons_of_neg (by simp [isNon]), List.filter_cons_of_pos hd]
    rfl
  | d :: R, i + 1, l, h => by
    have ih := nones_set (R := R) (i := i) (l := l) (by simpa [nonAt] using h)
    show ((d :: R.set i (.tup l)).filter isNon).length + 1 = ((d :: R).filter isNon).length
    unfold nones at ih
    cases hd : isNon d with
    | true => rw [List.filter_cons_of_pos hd, List.filter_cons_of_pos hd]; simp only [List.length_cons]; omega
    | false => rw [List.filter_cons_of_neg (by simp [hd]), List.filter_cons_of_neg (by simp [hd])]; exact ih
structure RowsOk (hs R : List D) (n : Nat) : Prop where
  len : R.length = n
  row : ∀ (i : Nat) (d : D), R[i]? = some d → d = .non ∨ ∃ l, d = .tup l ∧ l.length + nones R + 1 ≤ n ∧ ∀ x ∈ l, x ∈ hs
theorem nonAt_non {R : List D} {i : Nat} (h : nonAt R i = true) : R[i]? = some .non := by
  unfold nonAt at h
  cases e : R[i]? with
  | none => rw [e] at h; cases h
  | some d => rw [e] at h; cases d <;> first | rfl | cases h
theorem visit_ok {hs : List D} {n : Nat} {row : List D} (hx : ∀ x ∈ row, x ∈ hs) : ∀ (ps : List (D × Int)) (R : List D) (nw : List Int), RowsOk hs R n → row.length + nones R + 1 ≤ n → (∀ p ∈ ps, p.1 ∈ hs ∧ 0 ≤ p.2 ∧ p.2 < n) →
    RowsOk hs (visit row ps R nw).1 n ∧ nones (visit row ps R nw).1 + (visit row ps R nw).2.length = nones R + nw.length ∧ (∀ (i : Nat) (l : List D), R[i]? = some (.tup l) → (visit row ps R nw).1[i]? = some (.tup l)) ∧
    (∀ v ∈ (visit row ps R nw).2, v ∈ nw ∨ (0 ≤ v ∧ v < n ∧ ∃ l, (visit row ps R nw).1[v.toNat]? = some (.tup l)))
  | [], R, nw, ok, _, _ => ⟨ok, rfl, fun _ _ h => h, fun v hv => .inl hv⟩
  | (h, v) :: ps, R, nw, ok, hl, hp => by
    obtain ⟨p1, p2, p3⟩ := hp (h, v) List.mem_cons_self
    have hp' : ∀ p ∈ ps, p.1 ∈ hs ∧ 0 ≤ p.2 ∧ p.2 < n := fun p q => hp p (List.mem_cons_of_mem _ q)
    unfold visit
    by_cases c : nonAt R v.toNat = true
    · rw [if_pos c]
      have ns := nones_set (l := row ++ [h]) c
      have hlt : v.toNat < R.length := (List.getElem?_eq_some_iff.mp (nonAt_non c)).1
      have ok' : RowsOk hs (R.set v.toNat (.tup (row ++ [h]))) n := by
        refine ⟨by rw [List.length_set]; exact ok.len, fun i d e => ?_⟩
        rcases get_set e with ⟨rfl, q, _⟩ | ⟨ne, q⟩
        · refine .inr ⟨row ++ [h], q.symm, by rw [List.length_append, List.length_singleton]; omega, fun x hx' => ?_⟩
          rcases List.mem_append.mp hx' with z | z
          · exact hx x z
          · rw [show x = h by simpa using z]; exact p1
        · rcases ok.row i d q with z | ⟨l, z1, z2, z3⟩
          · exact .inl z
          · exact .inr ⟨l, z1, by omega, z3⟩
      obtain ⟨r1, r2, r3, r4⟩ := visit_ok hx ps (R.set v.toNat (.tup (row ++ [h]))) (nw ++ [v]) ok' (by omega) hp'
      have keep : ∀ (i : Nat) (l : List D), R[i]? = some (.tup l) → (R.set v.toNat (.tup (row ++ [h])))[i]? = some (.tup l) := fun i l e => by
        have ne : v.toNat ≠ i := fun z => by rw [← z, nonAt_non c] at e; cases e
        rw [List.getElem?_set_ne ne]; exact e
      refine ⟨r1, by rw [r2, List.length_append, List.length_singleton]; omega, fun i l e => r3 i l (keep i l e), fun w hw => ?_⟩
      rcases r4 w hw with z | z
      · rcases List.mem_append.mp z with y | y
        · exact .inl y
        · rw [show w = v by simpa using y]
          exact .inr ⟨p2, p3, _, r3 _ _ (List.getElem?_set_self hlt)⟩
      · exact .inr z
    · rw [if_neg c]
      exact visit_ok hx ps R nw ok hl hp'
def bfs (hs : List D) (N : List (List Int)) : Nat → List D → List Int → Option (List D)
  | 0, _, _ => none
  | _ + 1, R, [] => some R
  | n + 1, R, s :: q => match R[s.toNat]?, N[s.toNat]? with
    | some (.tup row), some vs => bfs hs N n (visit row (hs.zip vs) R []).1 (q ++ (visit row (hs.zip vs) R []).2)
    | _, _ => none
structure QOk (hs : List D) (N : List (List Int)) (R : List D) (q : List Int) : Prop where
  rows : RowsOk hs R N.length
  que : ∀ s ∈ q, 0 ≤ s ∧ s < N.length ∧ ∃ l, R[s.toNat]? = some (.tup l)
structure NOk (hs : List D) (N : List (List Int)) : Prop where
  few : N.length ≤ 7
  row : ∀ r ∈ N, r.length = hs.length ∧ ∀ v ∈ r, 0 ≤ v ∧ v < N.length
theorem q_step {hs : List D} {N : List (List Int)} {R : List D} {s : Int} {q : List Int} (hN : NOk hs N) (h : QOk hs N R (s :: q)) : ∃ row vs, 0 ≤ s ∧ s < N.length ∧ R[s.toNat]? = some (.tup row) ∧ N[s.toNat]? = some vs ∧ (vs.length = hs.length ∧ ∀ v ∈ vs, 0 ≤ v ∧ v < N.length) ∧ row.length + nones R + 1 ≤ N.length ∧ (∀ x ∈ row, x ∈ hs) ∧
    QOk hs N (visit row (hs.zip vs) R []).1 (q ++ (visit row (hs.zip vs) R []).2) ∧ nones (visit row (hs.zip vs) R []).1 + (visit row (hs.zip vs) R []).2.length = nones R ∧ (visit row (hs.zip vs) R []).1.length = R.length := by
  obtain ⟨s0, s1, row, e⟩ := h.que s List.mem_cons_self
  have hs' : s.toNat < N.length := by omega
  have e2 : N[s.toNat]? = some N[s.toNat] := List.getElem?_eq_getElem hs'
  obtain ⟨v1, v2⟩ := hN.row _ (List.mem_of_getElem? e2)
  rcases h.rows.row _ _ e with z | ⟨l, z1, z2, z3⟩
  · cases z
  · cases z1
    obtain ⟨r1, r2, r3, r4⟩ := visit_ok z3 (hs.zip N[s.toNat]) R [] h.rows z2 (fun p hp => by
      obtain ⟨a, b⟩ := List.of_mem_zip hp
      exact ⟨a, v2 _ b⟩)
    refine ⟨row, N[s.toNat], s0, s1, e, e2, ⟨v1, v2⟩, z2, z3, ⟨r1, fun t ht => ?_⟩, by rw [r2]; rfl, by rw [r1.len, h.rows.len]⟩
    rcases List.mem_append.mp ht with y | y
    · obtain ⟨a, b, l, c⟩ := h.que t (List.mem_cons_of_mem _ y)
      exact ⟨a, b, l, r3 _ _ c⟩
    · rcases r4 t y with w | w
      · cases w
      · exact w
theorem bfs_some {hs : List D} {N : List (List Int)} (hN : NOk hs N) : ∀ (f : Nat) (R : List D) (q : List Int), QOk hs N R q → nones R + q.length < f → ∃ R', bfs hs N f R q = some R' ∧ RowsOk hs R' N.length
  | 0, R, q, _, h => by omega
  | f + 1, R, [], k, _ => ⟨R, rfl, k.rows⟩
  | f + 1, R, s :: q, k, h => by
    obtain ⟨row, vs, _, _, e1, e2, _, _, _, k', m, _⟩ := q_step hN k
    have h : nones R + (q.length + 1) < f + 1 := h
    obtain ⟨R', e, ok⟩ := bfs_some hN f _ _ k' (by rw [List.length_append]; omega)
    refine ⟨R', ?_, ok⟩
    unfold bfs
    rw [e1, e2]
    exact e
end Sq

end
section
set_option Elab.async false
set_option linter.all false
set_option maxRecDepth 100000
namespace Sq
open PySem PySem.Spec PyProof.Rows L2 Sw
def w1_first_rows (fhappenings_of : FM) : GS :=
  (sIf (qB (eF (eP fIsN (aCons (eSub 3 (eF (eVar 8))) (aCons (eC .non) aNil))))) (sSeq (sPut 3 (eF (eVar 8)) (eF (eP fAdd (aCons (eSub 3 (eF (eVar 6))) (aCons (eF (eP fTup (aCons (eSub 2 (eF (eVar 7))) aNil))) aNil)))))
  (sExpr (eT (eM 4 hAppend (aCons (eF (eVar 8)) aNil))))) sNil)
def w2_first_rows (fhappenings_of : FM) : GS :=
  (sSeq (sSet 6 (eT (eSub 4 (eF (eVar 5)))))
  (sSeq (sFor (bTup 2 (bCons (bName 7) (bCons (bName 8) bNil))) (gEnum (aCons (eSub 1 (eF (eVar 6))) aNil)) (w1_first_rows fhappenings_of))
  (sAug (fun i j => i + j) 5 (eC (.int 1)))))
def g_first_rows (fhappenings_of : FM) : GS :=
  (sSeq (sSet 2 (eCall fhappenings_of (uVal (eF (eVar 0)) uNil)))
  (sSeq (sSet 3 (eComp [] (iAny (eF (eVar 1))) qTrue (eC .non)))
  (sSeq (sPut 3 (eC (.int 0)) (eF (eP fTup aNil)))
  (sSeq (sSet 4 (eP fLst (aCons (eC (.int 0)) aNil)))
  (sSeq (sSet 5 (eT (eC (.int 0))))
  (sSeq (sWhile 100000 (qB (eF (eP fLt (aCons (eF (eVar 5)) (aCons (eLen 4) aNil))))) (w2_first_rows fhappenings_of))
  (sRet (eVar 3))))))))

noncomputable def firstF : FM := runB 9 (g_first_rows hapsF)
abbrev PSt (td nd : D) (hs R : List D) (Fd : List Int) (a s x7 x8 : Option U) : SS := [some (.t td), some (.t nd), some (.m (.lst hs)), some (.m (.lst R)), some (.m (.lst (Fd.map D.int))), a, s, x7, x8]
def enumFrom : Nat → List Int → List D
  | _, [] => []
  | k, v :: r => .tup [.int k, .int v] :: enumFrom (k + 1) r
theorem enum_from : ∀ (vs : List Int) (k : Nat), (vs.map D.int).mapIdx (fun i d => D.tup [.int ((i + k : Nat) : Int), d]) = enumFrom k vs
  | [], k => rfl
  | v :: vs, k => by
    rw [List.map_cons, List.mapIdx_cons]
    have e : (fun (i : Nat) (d : D) => D.tup [.int ((i + 1 + k : Nat) : Int), d]) = fun i d => D.tup [.int ((i + (k + 1) : Nat) : Int), d] := by
      funext i d
      rw [Nat.add_assoc, Nat.add_comm 1 k]
    show D.tup [.int ((0 + k : Nat) : Int), .int v] :: _ = _
    rw [e, enum_from vs (k + 1), Nat.zero_add]
    rfl
theorem enumD_from (vs : List Int) : enumD (vs.map D.int) = enumFrom 0 vs := enum_from vs 0
theorem ixN_nn {n : Nat} {v : Int} (h0 : 0 ≤ v) (h1 : v < n) : ixN n v = some v.toNat := by
  unfold ixN
  rw [if_pos h0, if_pos h1]
theorem p_turn {td nd h : D} {hs R row : List D} {Fd : List Int} {a x7 x8 : Option U} {k : Nat} {v s : Int} (hk : hs[k]? = some h) (v0 : 0 ≤ v) (v1 : v < R.length) (s0 : 0 ≤ s) (hr : R[s.toNat]? = some (.tup row)) (hl : row.length ≤ 7) (hF : Fd.length < 1000) (h7 : Fr1 x7) (h8 : Fr1 x8) :
    ∃ S1, bTup 2 (bCons (bName 7) (bCons (bName 8) bNil)) (.tup [.int k, .int v]) (PSt td nd hs R Fd a (some (.t (.int s))) x7 x8) = some S1 ∧
      w1_first_rows hapsF S1 = some (.nx (if nonAt R v.toNat then PSt td nd hs (R.set v.toNat (.tup (row ++ [h]))) (Fd ++ [v]) a (some (.t (.int s))) (some (.t (.int k))) (some (.t (.int v))) else PSt td nd hs R Fd a (some (.t (.int s))) (some (.t (.int k))) (some (.t (.int v))))) := by
  refine ⟨PSt td nd hs R Fd a (some (.t (.int s))) (some (.t (.int k))) (some (.t (.int v))), ?_, ?_⟩
  · rcases h7 with rfl | ⟨d, rfl⟩ <;> rcases h8 with rfl | ⟨e, rfl⟩ <;> rfl
  · have hv : v.toNat < R.length := by omega
    have e1 : R[v.toNat]? = some R[v.toNat] := List.getElem?_eq_getElem hv
    have e2 := atI_nn v0 e1
    have e3 := atI_nn s0 hr
    have e4 : atI hs (k : Int) = some h := atI_nn (Int.natCast_nonneg k) (by rw [Int.toNat_natCast]; exact hk)
    have e5 : nonAt R v.toNat = isNon R[v.toNat] := by unfold nonAt; rw [e1]
    have e6 := ixN_nn v0 v1
    have e7 : row.length + 1 ≤ 100000 := by omega
    have e8 : Fd.length < 100000 := by omega
    cases q : isNon R[v.toNat] with
    | true =>
      rw [e5, q, if_pos rfl]
      simp [w1_first_rows, e2, e3, e4, e6, q, e7, e8, mutU, writeU, isL, hAppend]
    | false =>
      rw [e5, q, if_neg (by simp)]
      simp [w1_first_rows, e2, q]
theorem p_inner {td nd : D} {hs row : List D} {a : Option U} {s : Int} {n : Nat} (s0 : 0 ≤ s) (hn : n ≤ 7) (hx : ∀ x ∈ row, x ∈ hs) : ∀ (vs : List Int) (k : Nat) (R : List D) (F0 nw : List Int) (x7 x8 : Option U), RowsOk hs R n → row.length + nones R + 1 ≤ n → R[s.toNat]? = some (.tup row) → k + vs.length = hs.length → (∀ v ∈ vs, 0 ≤ v ∧ v < n) → F0.length + nw.length + nones R ≤ n → Fr1 x7 → Fr1 x8 →
    ∃ y7 y8, Fr1 y7 ∧ Fr1 y8 ∧ loop (bTup 2 (bCons (bName 7) (bCons (bName 8) bNil))) (w1_first_rows hapsF) (enumFrom k vs) (PSt td nd hs R (F0 ++ nw) a (some (.t (.int s))) x7 x8) =
      some (.nx (PSt td nd hs (visit row ((hs.drop k).zip vs) R nw).1 (F0 ++ (visit row ((hs.drop k).zip vs) R nw).2) a (some (.t (.int s))) y7 y8))
  | [], k, R, F0, nw, x7, x8, _, _, _, _, _, _, h7, h8 => ⟨x7, x8, h7, h8, by rw [List.zip_nil_right]; rfl⟩
  | v :: vs, k, R, F0, nw, x7, x8, ok, hl, hr, hk, hv, hF, h7, h8 => by
    have hk : k + (vs.length + 1) = hs.length := hk
    have klt : k < hs.length := by omega
    obtain ⟨v0, v1⟩ := hv v List.mem_cons_self
    have ek : hs[k]? = some hs[k] := List.getElem?_eq_getElem klt
    obtain ⟨S1, b1, b2⟩ := p_turn (td := td) (nd := nd) (Fd := F0 ++ nw) (a := a) (v := v) ek v0 (by rw [ok.len]; exact v1) s0 hr (by omega) (by rw [List.length_append]; omega) h7 h8
    have ed : hs.drop k = hs[k] :: hs.drop (k + 1) := List.drop_eq_getElem_cons klt
    rw [ed, List.zip_cons_cons]
    show ∃ y7 y8, Fr1 y7 ∧ Fr1 y8 ∧ (bTup 2 (bCons (bName 7) (bCons (bName 8) bNil)) (.tup [.int k, .int v]) (PSt td nd hs R (F0 ++ nw) a (some (.t (.int s))) x7 x8)).bind (fun S1 => (w1_first_rows hapsF S1).bind _) = _
    rw [b1, Option.bind_some, b2, Option.bind_some]
    unfold visit
    by_cases c : nonAt R v.toNat = true
    · have ns := nones_set (l := row ++ [hs[k]]) c
      have ne : v.toNat ≠ s.toNat := fun z => by rw [← z, nonAt_non c] at hr; cases hr
      have vp := (visit_ok hx [(hs[k], v)] R nw ok hl (by intro p hp; rw [show p = (hs[k], v) by simpa using hp]; exact ⟨List.getElem_mem klt, v0, v1⟩)).1
      unfold visit visit at vp
      rw [if_pos c] at vp
      obtain ⟨y7, y8, q1, q2, q3⟩ := p_inner (td := td) (nd := nd) (a := a) s0 hn hx vs (k + 1) (R.set v.toNat (.tup (row ++ [hs[k]]))) F0 (nw ++ [v]) (some (.t (.int k))) (some (.t (.int v))) vp (by omega) (by rw [List.getElem?_set_ne ne]; exact hr) (by omega) (fun w hw => hv w (List.mem_cons_of_mem _ hw)) (by rw [List.length_append, List.length_singleton]; omega) .t .t
      refine ⟨y7, y8, q1, q2, ?_⟩
      rw [if_pos c, if_pos c, List.append_assoc]
      exact q3
    · obtain ⟨y7, y8, q1, q2, q3⟩ := p_inner (td := td) (nd := nd) (a := a) s0 hn hx vs (k + 1) R F0 nw (some (.t (.int k))) (some (.t (.int v))) ok hl hr (by omega) (fun w hw => hv w (List.mem_cons_of_mem _ hw)) hF .t .t
      refine ⟨y7, y8, q1, q2, ?_⟩
      rw [if_neg c, if_neg c]
      exact q3
theorem nexts_at {N : List (List Int)} {s : Int} {vs : List Int} (s0 : 0 ≤ s) (h : N[s.toNat]? = some vs) : atI (N.map intsD) s = some (intsD vs) := atI_nn s0 (by rw [List.getElem?_map, h]; rfl)
theorem p_body {td : D} {hs R : List D} {N : List (List Int)} {Fd q : List Int} {a : Nat} {s : Int} {x6 x7 x8 : Option U} (hN : NOk hs N) (k : QOk hs N R (s :: q)) (hd : Fd.drop a = s :: q) (hF : Fd.length + nones R ≤ N.length) (h6 : Fr1 x6) (h7 : Fr1 x7) (h8 : Fr1 x8) :
    ∃ row vs y7 y8, R[s.toNat]? = some (.tup row) ∧ N[s.toNat]? = some vs ∧ Fr1 y7 ∧ Fr1 y8 ∧ w2_first_rows hapsF (PSt td (.tup (N.map intsD)) hs R Fd (some (.t (.int (a : Int)))) x6 x7 x8) =
      some (.nx (PSt td (.tup (N.map intsD)) hs (visit row (hs.zip vs) R []).1 (Fd ++ (visit row (hs.zip vs) R []).2) (some (.t (.int ((a + 1 : Nat) : Int)))) (some (.t (.int s))) y7 y8)) := by
  obtain ⟨row, vs, s0, s1, e1, e2, ⟨v1, v2⟩, z2, z3, k', m, _⟩ := q_step hN k
  have hal : a < Fd.length := by
    have := congrArg List.length hd
    rw [List.length_drop, List.length_cons] at this
    omega
  have ea : Fd[a]? = some s := by
    rw [List.drop_eq_getElem_cons hal] at hd
    injection hd with h1 _
    rw [List.getElem?_eq_getElem hal, h1]
  have e3 : atI (Fd.map D.int) (a : Int) = some (.int s) := atI_nn (Int.natCast_nonneg a) (by rw [Int.toNat_natCast, List.getElem?_map, ea]; rfl)
  have e4 := nexts_at s0 e2
  obtain ⟨y7, y8, q1, q2, q3⟩ := p_inner (td := td) (nd := .tup (N.map intsD)) (a := some (.t (.int (a : Int)))) s0 hN.few z3 vs 0 R Fd [] x7 x8 k.rows z2 e1 (by rw [v1]; omega) v2 (by rw [List.length_nil]; omega) h7 h8
  rw [List.drop_zero, List.append_nil] at q3
  refine ⟨row, vs, y7, y8, e1, e2, q1, q2, ?_⟩
  have e5 : enumD (vs.map D.int) = enumFrom 0 vs := enumD_from vs
  have e6 : intsD vs = .tup (vs.map D.int) := rfl
  rcases h6 with rfl | ⟨d, rfl⟩
  · simp [w2_first_rows, e3, e4, e6, e5, q3]
  · simp [w2_first_rows, e3, e4, e6, e5, q3]
theorem p_while {td : D} {hs R' : List D} {N : List (List Int)} (hN : NOk hs N) : ∀ (f e : Nat) (R : List D) (Fd : List Int) (a : Nat) (x6 x7 x8 : Option U), bfs hs N f R (Fd.drop a) = some R' → QOk hs N R (Fd.drop a) → Fd.length + nones R ≤ N.length → Fr1 x6 → Fr1 x7 → Fr1 x8 →
    ∃ Fd' b y6 y7 y8, wloop (qB (eF (eP fLt (aCons (eF (eVar 5)) (aCons (eLen 4) aNil))))) (w2_first_rows hapsF) (f + e) (PSt td (.tup (N.map intsD)) hs R Fd (some (.t (.int (a : Int)))) x6 x7 x8) = some (.nx (PSt td (.tup (N.map intsD)) hs R' Fd' b y6 y7 y8))
  | 0, e, R, Fd, a, x6, x7, x8, h, _, _, _, _, _ => by cases h
  | f + 1, e, R, Fd, a, x6, x7, x8, h, k, hF, h6, h7, h8 => by
    have ef : f + 1 + e = (f + e) + 1 := by omega
    rw [ef]
    cases hd : Fd.drop a with
    | nil =>
      rw [hd] at h
      cases h
      have hle : ¬ a < Fd.length := by
        have := congrArg List.length hd
        rw [List.length_drop, List.length_nil] at this
        omega
      refine ⟨Fd, some (.t (.int (a : Int))), x6, x7, x8, ?_⟩
      simp [wloop, hle]
    | cons s q =>
      rw [hd] at h k
      obtain ⟨row, vs, y7, y8, e1, e2, q1, q2, q3⟩ := p_body (td := td) hN k hd hF h6 h7 h8
      obtain ⟨_, _, _, _, e1', e2', _, _, _, k', m, _⟩ := q_step hN k
      rw [e1] at e1'
      rw [e2] at e2'
      cases e1'
      cases e2'
      unfold bfs at h
      rw [e1, e2] at h
      have hlt : a < Fd.length := by
        have := congrArg List.length hd
        rw [List.length_drop, List.length_cons] at this
        omega
      have hd2 : (Fd ++ (visit row (hs.zip vs) R []).2).drop (a + 1) = q ++ (visit row (hs.zip vs) R []).2 := by
        rw [List.drop_append_of_le_length (by omega)]
        rw [List.drop_eq_getElem_cons hlt] at hd
        injection hd with _ h2
        rw [h2]
      obtain ⟨Fd', b, y6', y7', y8', z⟩ := p_while (td := td) hN f e (visit row (hs.zip vs) R []).1 (Fd ++ (visit row (hs.zip vs) R []).2) (a + 1) (some (.t (.int s))) y7 y8 (by rw [hd2]; exact h) (by rw [hd2]; exact k') (by rw [List.length_append]; omega) .t q1 q2
      refine ⟨Fd', b, y6', y7', y8', ?_⟩
      rw [← z]
      simp only [wloop]
      have et : qB (eF (eP fLt (aCons (eF (eVar 5)) (aCons (eLen 4) aNil)))) (PSt td (.tup (N.map intsD)) hs R Fd (some (.t (.int (a : Int)))) x6 x7 x8) = some (true, PSt td (.tup (N.map intsD)) hs R Fd (some (.t (.int (a : Int)))) x6 x7 x8) := by simp [hlt]
      rw [et, Option.bind_some, if_pos rfl, q3]
      rfl
end Sq

end
section
set_option Elab.async false
set_option linter.all false
set_option maxRecDepth 100000
namespace Sq
open PySem PySem.Spec PyProof.Rows L2 Sw
def w1__law_due (f_law_happenings : FM) : GS :=
  (sIf (qB (eF (eP fIsN (aCons (eSub 2 (eF (eVar 7))) (aCons (eC .non) aNil))))) (sSeq (sPut 2 (eF (eVar 7)) (eF (eP fAdd (aCons (eSub 2 (eF (eVar 5))) (aCons (eF (eP fTup (aCons (eF (eVar 6)) aNil))) aNil)))))
  (sExpr (eT (eM 4 hAppend (aCons (eF (eVar 7)) aNil))))) sNil)
def w2__law_due (f_law_happenings : FM) : GS :=
  (sFor (bTup 2 (bCons (bName 6) (bCons (bName 7) bNil))) (gZip2 (aCons (eF (eCall f_law_happenings (uVal (eF (eVar 0)) uNil))) (aCons (eSub 1 (eF (eVar 5))) aNil))) (w1__law_due f_law_happenings))
def w3__law_due (f_law_happenings : FM) : GS :=
  (sSeq (sSet 4 (eP fLst aNil))
  (sSeq (sFor (bName 5) (iAny (eF (eVar 3))) (w2__law_due f_law_happenings))
  (sSet 3 (eVar 4))))
def g__law_due (f_law_happenings : FM) : GS :=
  (sSeq (sSet 2 (eP fRep (aCons (eF (eP fLst (aCons (eC .non) aNil))) (aCons (eLen 1) aNil))))
  (sSeq (sPut 2 (eC (.int 0)) (eF (eP fTup aNil)))
  (sSeq (sSet 3 (eP fLst (aCons (eC (.int 0)) aNil)))
  (sSeq (sWhile 100000 (qB (eF (eP fNe (aCons (eF (eVar 3)) (aCons (eF (eP fLst aNil)) aNil))))) (w3__law_due f_law_happenings))
  (sRet (eVar 2))))))

def dueF : FM := runB 8 (g__law_due lhapF)
end Sq

end
section
set_option Elab.async false
set_option linter.all false
set_option maxRecDepth 100000
namespace Sq
open PySem PySem.Spec PyProof.Rows L2 Sw
def w1_law (f_law_table : FM) (f_law_feed : FM) (f_law_machine : FM) (f_law_due : FM) (ffirst_rows : FM) : GS :=
  (sSeq (sSet 3 (eP fIx (aCons (eF (eCall f_law_machine (uMut (eCall f_law_feed (uMut (eVar 0) (uVal (eF (eP fAdd (aCons (eC (.int 1)) (aCons (eF (eVar 2)) aNil)))) uNil))) (uVal (eF (eVar 1)) (uVal (eF (eP fLst (aCons (eC (.bl true)) aNil))) uNil))))) (aCons (eC (.int 0)) aNil))))
  (sSeq (sSet 4 (eCall f_law_due (uVal (eF (eVar 1)) (uVal (eF (eVar 3)) uNil))))
  (sSeq (sSet 5 (eCall ffirst_rows (uVal (eF (eVar 1)) (uVal (eF (eVar 3)) uNil))))
  (sSeq (sIf (qB (eF (eP fNe (aCons (eLook fRepr 5) (aCons (eF (eP fRepr (aCons (eF (eVar 4)) aNil))) aNil))))) (sRet (eT (eC (.bl false)))) sNil)
  (sSeq (sExpr (eT (eM 5 hReverse aNil)))
  (sSeq (sExpr (eT (eM 5 hAppend (aCons (eF (eP fTup aNil)) aNil))))
  (sIf (qB (eF (eP fNe (aCons (eF (eP fRepr (aCons (eF (eCall ffirst_rows (uVal (eF (eVar 1)) (uVal (eF (eVar 3)) uNil)))) aNil))) (aCons (eF (eP fRepr (aCons (eF (eVar 4)) aNil))) aNil))))) (sRet (eT (eC (.bl false)))) sNil)))))))
def g_law (f_law_table : FM) (f_law_feed : FM) (f_law_machine : FM) (f_law_due : FM) (ffirst_rows : FM) : GS :=
  (sSeq (sSet 1 (eCall f_law_table (uMut (eCall f_law_feed (uMut (eVar 0) (uVal (eC (.int 0)) uNil))) uNil)))
  (sSeq (sFor (bName 2) (gRng1 (aCons (eC (.int 5)) aNil)) (w1_law f_law_table f_law_feed f_law_machine f_law_due ffirst_rows))
  (sRet (eT (eC (.bl true))))))

noncomputable abbrev F39 (g : FM → FM → FM → FM → FM → GS) : GS := g tabQ feedF machF dueF firstF
theorem wDs_le {c : Nat} : ∀ {ds : List D}, (∀ d ∈ ds, wD d + 2 ≤ c) → wDs ds ≤ c * ds.length
  | [], _ => Nat.zero_le _
  | d :: ds, h => by
    have ih := wDs_le (c := c) (ds := ds) fun e he => h e (List.mem_cons_of_mem _ he)
    have h1 := h d List.mem_cons_self
    show wD d + 2 + wDs ds ≤ c * (ds.length + 1)
    rw [Nat.mul_succ]
    omega
theorem sanes_of : ∀ {ds : List D}, (∀ d ∈ ds, Sane d) → Sanes ds
  | [], _ => True.intro
  | d :: ds, h => ⟨h d List.mem_cons_self, sanes_of fun e he => h e (List.mem_cons_of_mem _ he)⟩
theorem tup_good {c k m : Nat} {l : List D} (h : ∀ d ∈ l, Good c k d) (hl : l.length ≤ m) : Good ((c + 2) * m + 4) (k + 1) (.tup l) := by
  refine ⟨sanes_of fun d hd => (h d hd).sane, ?_, ?_⟩
  · have := wDs_le (c := c + 2) (ds := l) fun d hd => by have := (h d hd).w; omega
    have m2 := Nat.mul_le_mul_left (c + 2) hl
    show wDs l + 4 ≤ _
    omega
  · show depDs l + 1 ≤ k + 1
    have := depDs_le (ds := l) (n := k) fun d hd => (h d hd).dep
    omega
theorem lst_good {c k m : Nat} {l : List D} (h : ∀ d ∈ l, Good c k d) (hl : l.length ≤ m) : Good ((c + 2) * m + 4) (k + 1) (.lst l) := by
  refine ⟨sanes_of fun d hd => (h d hd).sane, ?_, ?_⟩
  · have := wDs_le (c := c + 2) (ds := l) fun d hd => by have := (h d hd).w; omega
    have m2 := Nat.mul_le_mul_left (c + 2) hl
    show wDs l + 4 ≤ _
    omega
  · show depDs l + 1 ≤ k + 1
    have := depDs_le (ds := l) (n := k) fun d hd => (h d hd).dep
    omega
end Sq

end
section
set_option Elab.async false
set_option linter.all false
set_option maxRecDepth 100000
namespace Sx
open PySem PySem.Spec PyProof.Rows L2 Sw Sq
end Sx

end
section
set_option Elab.async false
set_option linter.all false
set_option maxRecDepth 100000
namespace L2
open PySem PySem.Spec PyProof.Rows
def isB : Option U → Bool
  | some (.b _) => true
  | _ => false
@[simp] theorem isB_n : isB none = false := rfl
@[simp] theorem isB_t (d : D) : isB (some (.t d)) = false := rfl
@[simp] theorem isB_m (o : MO) : isB (some (.m o)) = false := rfl
theorem m_setU2 (i : Nat) (u : U) (S : SS) : setU i u S = (S[i]?).bind fun x => if isB x then none else some (S.set i (some u)) := by
  unfold setU
  cases S[i]? with
  | none => rfl
  | some x => cases x with
    | none => rfl
    | some u => cases u <;> rfl
@[simp] theorem m_bTup (n : Nat) (bs : GBs) (ds : List D) (S : SS) : bTup n bs (.tup ds) S = if ds.length = n then bs ds S else none := rfl
@[simp] theorem m_bCons (b : GB) (bs : GBs) (d : D) (r : List D) (S : SS) : bCons b bs (d :: r) S = (b d S).bind fun S1 => bs r S1 := rfl
@[simp] theorem m_bNil (S : SS) : bNil [] S = some S := rfl
@[simp] theorem m_eNewT (S : SS) : eNewT S = some (.m (.dtt []), S) := rfl
@[simp] theorem m_eNewK (S : SS) : eNewK S = some (.m (.dct []), S) := rfl
@[simp] theorem m_readU_mt (kvs : List (List Key × D)) (k : D) : readU (.m (.dtt kvs)) k = (keyT k).bind (lookD kvs) := by cases k <;> rfl
@[simp] theorem m_readU_bt (kvs : List (List Key × D)) (k : D) : readU (.b (.dtt kvs)) k = (keyT k).bind (lookD kvs) := by cases k <;> rfl
@[simp] theorem m_write_t (kvs : List (List Key × D)) (k d : D) : writeU (.dtt kvs) k d = (keyT k).bind fun kk => if kvs.length < 100000 then some (.dtt (putD kvs kk d)) else none := by cases k <;> rfl
@[simp] theorem m_flat_s (z : Str) : flatD (.str z) = true := rfl
@[simp] theorem m_flat_b (b : Bool) : flatD (.bl b) = true := rfl
@[simp] theorem m_flat_i (b : Int) : flatD (.int b) = true := rfl
@[simp] theorem m_eSl (g : GD) (lo hi : Option GD) (S : SS) : eSl g lo hi S = (g S).bind fun p => (oPart lo p.2).bind fun l => (oPart hi l.2).bind fun h => (fSl p.1 l.1 h.1).map fun u => (u, h.2) := rfl
@[simp] theorem m_oPart_n (S : SS) : oPart none S = some (none, S) := rfl
@[simp] theorem m_oPart_s (g : GD) (S : SS) : oPart (some g) S = (g S).bind fun p => match p.1 with | .int i => some (some i, p.2) | _ => none := rfl
@[simp] theorem m_fSl_t (ds : List D) (lo hi : Option Int) : fSl (.tup ds) lo hi = some (.t (.tup (cutD ds lo hi))) := rfl
@[simp] theorem m_fSl_l (ds : List D) (lo hi : Option Int) : fSl (.lst ds) lo hi = some (.m (.lst (cutD ds lo hi))) := rfl
@[simp] theorem m_hIndex (d : D) (ds : List D) : hIndex [d] (.lst ds) = if depDs ds ≤ 40 ∧ ds.length < 100000 then (idxD d ds).map fun j => (.int (j : Nat), .lst ds) else none := rfl
@[simp] theorem m_hReverse (ds : List D) : hReverse [] (.lst ds) = some (.non, .lst ds.reverse) := rfl
theorem loop_idx {bd : GB} {body : GS} (ds : List D) (I : Nat → SS → Prop) (S : SS) (h0 : I 0 S) (hs : ∀ j d S, ds[j]? = some d → I j S → ∃ S1 S2, bd d S = some S1 ∧ body S1 = some (.nx S2) ∧ I (j + 1) S2) : ∃ S', loop bd body ds S = some (.nx S') ∧ I ds.length S' := by
  obtain ⟨S', e, j, hr, hj, hI⟩ := Sq.loop_ok (bd := bd) (body := body) ds (fun r S => ∃ j, ds.drop j = r ∧ j ≤ ds.length ∧ I j S) S ⟨0, rfl, Nat.zero_le _, h0⟩ (by
    rintro d r S ⟨j, hr, hj, hI⟩
    have hlt : j < ds.length := by
      have := congrArg List.length hr
      rw [List.length_drop, List.length_cons] at this
      omega
    rw [List.drop_eq_getElem_cons hlt] at hr
    injection hr with h1 h2
    obtain ⟨S1, S2, e1, e2, h3⟩ := hs j d S (by rw [List.getElem?_eq_getElem hlt, h1]) hI
    exact ⟨S1, S2, e1, e2, j + 1, h2, hlt, h3⟩)
  have : j = ds.length := by
    have := congrArg List.length hr
    rw [List.length_drop, List.length_nil] at this
    omega
  subst this
  exact ⟨S', e, hI⟩
theorem rng_get {n j : Nat} {d : D} (h : (rng 0 n)[j]? = some d) : j < n ∧ d = .int j := by
  unfold rng at h
  rw [List.getElem?_map] at h
  cases e : (List.range n)[j]? with
  | none => rw [e] at h; cases h
  | some k =>
    rw [e] at h
    obtain ⟨h1, h2⟩ := List.getElem?_eq_some_iff.mp e
    rw [List.getElem_range] at h2
    rw [List.length_range] at h1
    subst h2
    refine ⟨h1, ?_⟩
    have := Option.some.inj h
    rw [← this]
    show D.int (0 + (j : Int)) = _
    rw [Int.zero_add]
theorem loop_cons (bd : GB) (body : GS) (d : D) (ds : List D) (S : SS) : loop bd body (d :: ds) S = (bd d S).bind fun S1 => (body S1).bind fun o => match o with
    | .nx S2 => loop bd body ds S2
    | .ct S2 => loop bd body ds S2
    | .bk S2 => some (.nx S2)
    | .rt u S2 => some (.rt u S2) := rfl
end L2

end
section
set_option Elab.async false
set_option linter.all false
set_option maxRecDepth 100000
namespace Sx
open PySem PySem.Spec PyProof.Rows L2 Sw Sq
def kP (p : Str × Int) : List Key := [.inr p.1, .inl p.2]
@[simp] theorem keyT_pr (p : Str × Int) : keyT (prD p) = some (kP p) := rfl
theorem kP_inj {p q : Str × Int} (h : kP p = kP q) : p = q := by
  unfold kP at h
  injection h with h1 h2
  injection h2 with h3 h4
  injection h1 with h1
  injection h3 with h3
  exact Prod.ext h1 h3
def w1_columns_of (fhappenings_of : FM) : GS :=
  (sPut 2 (eF (eVar 4)) (eF (eVar 3)))
def g_columns_of (fhappenings_of : FM) : GS :=
  (sSeq (sSet 2 eNewT)
  (sSeq (sFor (bTup 2 (bCons (bName 3) (bCons (bName 4) bNil))) (gEnum (aCons (eF (eCall fhappenings_of (uVal (eF (eVar 0)) uNil))) aNil)) (w1_columns_of fhappenings_of))
  (sRet (eComp [2] (iAny (eF (eVar 1))) qTrue (eSub 1 (eF (eVar 0)))))))

noncomputable def colF : FM := runB 5 (g_columns_of hapsF)
def mAt (M : List D) (s : Int) : D := M.getD s.toNat .non
theorem intsD_ix (r : List Int) (c : Int) : fIx [Sq.intsD r, .int c] = (atI (r.map D.int) c).map .t := rfl
def w1_led (fcolumns_of : FM) : GS :=
  (sSet 2 (eP fIx (aCons (eSub 1 (eF (eVar 2))) (aCons (eF (eVar 4)) aNil))))
def g_led (fcolumns_of : FM) : GS :=
  (sSeq (sFor (bName 4) (iAny (eF (eCall fcolumns_of (uVal (eF (eVar 0)) (uVal (eF (eVar 3)) uNil))))) (w1_led fcolumns_of))
  (sRet (eVar 2)))

noncomputable def ledF : FM := runB 5 (g_led colF)
structure Mach (T : List (Str × Int)) (N : List (List Int)) (M : List D) : Prop where
  hT : T.length ≤ 4
  hp : ∀ p ∈ T, PairOk p
  nd : (haps T).Nodup
  mo : MachOk (haps T).length N
  len : M.length = N.length
def g_judged (fled : FM) : GS :=
  (sRet (eP fIx (aCons (eSub 1 (eC (.int 1))) (aCons (eF (eCall fled (uVal (eF (eVar 0)) (uVal (eSub 1 (eC (.int 0))) (uVal (eC (.int 0)) (uVal (eF (eVar 2)) uNil)))))) aNil))))

noncomputable def judgedF : FM := runB 3 (g_judged ledF)
def w1_words_along (fcolumns_of : FM) : GS :=
  (sSeq (sSet 4 (eP fIx (aCons (eSub 1 (eF (eVar 4))) (aCons (eF (eVar 6)) aNil))))
  (sExpr (eT (eM 5 hAppend (aCons (eSub 2 (eF (eVar 4))) aNil)))))
def g_words_along (fcolumns_of : FM) : GS :=
  (sSeq (sSet 4 (eT (eC (.int 0))))
  (sSeq (sSet 5 (eP fLst (aCons (eSub 2 (eF (eVar 4))) aNil)))
  (sSeq (sFor (bName 6) (iAny (eF (eCall fcolumns_of (uVal (eF (eVar 0)) (uVal (eF (eVar 3)) uNil))))) (w1_words_along fcolumns_of))
  (sRet (eVar 5)))))

noncomputable def wordsF : FM := runB 7 (g_words_along colF)
def g_watched (fwords_along : FM) : GS :=
  (sRet (eCall fwords_along (uVal (eF (eVar 0)) (uVal (eSub 1 (eC (.int 0))) (uVal (eSub 1 (eC (.int 1))) (uVal (eF (eVar 2)) uNil))))))

noncomputable def watchedF : FM := runB 3 (g_watched wordsF)
def w1_sure_among : GS :=
  (sIf (qB (eF (eP fNe (aCons (eF (eVar 2)) (aCons (eC (.str "open")) aNil))))) (sRet (eP fTup (aCons (eF (eVar 1)) (aCons (eF (eVar 2)) aNil)))) sNil)
def g_sure_among : GS :=
  (sSeq (sFor (bTup 2 (bCons (bName 1) (bCons (bName 2) bNil))) (gEnum (aCons (eF (eVar 0)) aNil)) (w1_sure_among))
  (sRet (eT (eC .non))))

def sureF : FM := runB 3 g_sure_among
def enumK : Nat → List D → List D
  | _, [] => []
  | k, v :: r => .tup [.int k, v] :: enumK (k + 1) r
theorem enum_K : ∀ (vs : List D) (k : Nat), vs.mapIdx (fun i d => D.tup [.int ((i + k : Nat) : Int), d]) = enumK k vs
  | [], k => rfl
  | v :: vs, k => by
    rw [List.mapIdx_cons]
    have e : (fun (i : Nat) (d : D) => D.tup [.int ((i + 1 + k : Nat) : Int), d]) = fun i d => D.tup [.int ((i + (k + 1) : Nat) : Int), d] := by
      funext i d
      rw [Nat.add_assoc, Nat.add_comm 1 k]
    show D.tup [.int ((0 + k : Nat) : Int), v] :: _ = _
    rw [e, enum_K vs (k + 1), Nat.zero_add]
    rfl
theorem enumD_K (vs : List D) : enumD vs = enumK 0 vs := enum_K vs 0
def g_sure_at (fsure_among : FM) (fwatched : FM) : GS :=
  (sRet (eCall fsure_among (uVal (eF (eCall fwatched (uVal (eF (eVar 0)) (uVal (eF (eVar 1)) (uVal (eF (eVar 2)) uNil))))) uNil)))

noncomputable def sureAtF : FM := runB 3 (g_sure_at sureF watchedF)
end Sx

end
section
set_option Elab.async false
set_option linter.all false
set_option maxRecDepth 100000
namespace Sx
open PySem PySem.Spec PyProof.Rows L2 Sw Sq
def g__law_row (f_law_happenings : FM) (f_law_take : FM) : GS :=
  (sSeq (sSet 3 (eCall f_law_happenings (uVal (eF (eVar 1)) uNil)))
  (sRet (eP fTuple (aCons (eF (eComp [0, 3] (gRng1 (aCons (eF (eCall f_law_take (uMut (eVar 0) (uVal (eF (eP fAdd (aCons (eF (eVar 2)) (aCons (eC (.int 1)) aNil)))) uNil)))) aNil)) qTrue (eSub 2 (eF (eCall f_law_take (uMut (eVar 1) (uVal (eLen 2) uNil))))))) aNil))))

def rowQ : FM := runB 4 (g__law_row lhapF takeF)
def w1__law_led (f_law_happenings : FM) : GS :=
  (sSet 2 (eP fIx (aCons (eSub 1 (eF (eVar 2))) (aCons (eM 4 hIndex (aCons (eF (eVar 5)) aNil)) aNil))))
def g__law_led (f_law_happenings : FM) : GS :=
  (sSeq (sSet 4 (eCall f_law_happenings (uVal (eF (eVar 0)) uNil)))
  (sSeq (sFor (bName 5) (iAny (eF (eVar 3))) (w1__law_led f_law_happenings))
  (sRet (eVar 2))))

def lledF : FM := runB 6 (g__law_led lhapF)
def g__law_due_words (f_law_led : FM) : GS :=
  (sRet (eComp [2, 0, 1] (gRng1 (aCons (eF (eP fAdd (aCons (eLen 2) (aCons (eC (.int 1)) aNil)))) aNil)) qTrue (eF (eP fIx (aCons (eSub 3 (eC (.int 1))) (aCons (eF (eCall f_law_led (uVal (eF (eVar 2)) (uVal (eSub 3 (eC (.int 0))) (uVal (eC (.int 0)) (uVal (eF (eSl (eF (eVar 1)) none (some (eF (eVar 0))))) uNil)))))) aNil))))))

def dueWF : FM := runB 3 (g__law_due_words lledF)
def w1__law_sure : GS :=
  (sIf (qB (eF (eP fNe (aCons (eSub 0 (eF (eVar 1))) (aCons (eC (.str "open")) aNil))))) (sRet (eP fTup (aCons (eF (eVar 1)) (aCons (eSub 0 (eF (eVar 1))) aNil)))) sNil)
def g__law_sure : GS :=
  (sSeq (sFor (bName 1) (gRng1 (aCons (eLen 0) aNil)) (w1__law_sure))
  (sRet (eT (eC .non))))

def lsureF : FM := runB 2 g__law_sure
end Sx

end
section
set_option Elab.async false
set_option linter.all false
set_option maxRecDepth 100000
namespace Sx
open PySem PySem.Spec PyProof.Rows L2 Sw Sq
def w1_law (f_law_feed : FM) (f_law_table : FM) (f_law_machine : FM) (f_law_row : FM) (f_law_take : FM) (f_law_due_words : FM) (fled : FM) (f_law_led : FM) (fjudged : FM) (fwatched : FM) (fsure_at : FM) (f_law_sure : FM) : GS :=
  (sSeq (sIf (qB (eF (eP fNe (aCons (eF (eP fRepr (aCons (eF (eCall fled (uVal (eF (eVar 2)) (uVal (eSub 3 (eC (.int 0))) (uVal (eF (eVar 8)) (uVal (eF (eVar 10)) uNil)))))) aNil))) (aCons (eF (eP fRepr (aCons (eF (eCall f_law_led (uVal (eF (eVar 2)) (uVal (eSub 3 (eC (.int 0))) (uVal (eF (eVar 8)) (uVal (eF (eVar 7)) uNil)))))) aNil))) aNil))))) (sRet (eT (eC (.bl false)))) sNil)
  (sSeq (sIf (qB (eF (eP fNe (aCons (eF (eP fRepr (aCons (eF (eCall fjudged (uVal (eF (eVar 2)) (uVal (eF (eVar 3)) (uVal (eF (eVar 10)) uNil))))) aNil))) (aCons (eF (eP fRepr (aCons (eF (eP fIx (aCons (eSub 3 (eC (.int 1))) (aCons (eF (eCall f_law_led (uVal (eF (eVar 2)) (uVal (eSub 3 (eC (.int 0))) (uVal (eC (.int 0)) (uVal (eF (eVar 7)) uNil)))))) aNil)))) aNil))) aNil))))) (sRet (eT (eC (.bl false)))) sNil)
  (sSeq (sSet 11 (eCall fwatched (uVal (eF (eVar 2)) (uVal (eF (eVar 4)) (uVal (eF (eVar 10)) uNil)))))
  (sSeq (sIf (qOr (qB (eF (eP fNe (aCons (eLook fRepr 11) (aCons (eF (eP fRepr (aCons (eF (eVar 9)) aNil))) aNil))))) (qB (eF (eP fNe (aCons (eF (eP fRepr (aCons (eF (eCall fsure_at (uVal (eF (eVar 2)) (uVal (eF (eVar 4)) (uVal (eF (eVar 10)) uNil))))) aNil))) (aCons (eF (eP fRepr (aCons (eF (eCall f_law_sure (uVal (eF (eVar 9)) uNil))) aNil))) aNil)))))) (sRet (eT (eC (.bl false)))) sNil)
  (sSeq (sExpr (eT (eM 11 hAppend (aCons (eC (.str "open")) aNil))))
  (sIf (qAnd (qB (eF (eP fNe (aCons (eF (eVar 10)) (aCons (eF (eVar 7)) aNil))))) (qB (eF (eP fNe (aCons (eF (eVar 10)) (aCons (eF (eP fList (aCons (eF (eVar 7)) aNil))) aNil)))))) (sRet (eT (eC (.bl false)))) sNil))))))
def w2_law (f_law_feed : FM) (f_law_table : FM) (f_law_machine : FM) (f_law_row : FM) (f_law_take : FM) (f_law_due_words : FM) (fled : FM) (f_law_led : FM) (fjudged : FM) (fwatched : FM) (fsure_at : FM) (f_law_sure : FM) : GS :=
  (sSeq (sSet 6 (eCall f_law_feed (uMut (eVar 0) (uVal (eF (eP fAdd (aCons (eC (.int 3)) (aCons (eF (eVar 5)) aNil)))) uNil))))
  (sSeq (sSet 7 (eCall f_law_row (uMut (eVar 6) (uVal (eF (eVar 2)) (uVal (eC (.int 12)) uNil)))))
  (sSeq (sSet 8 (eCall f_law_take (uMut (eVar 6) (uVal (eF (eP fLen (aCons (eSub 3 (eC (.int 0))) aNil))) uNil))))
  (sSeq (sSet 9 (eCall f_law_due_words (uVal (eF (eVar 2)) (uVal (eF (eVar 4)) (uVal (eF (eVar 7)) uNil)))))
  (sFor (bName 10) (iAny (eF (eP fLst (aCons (eF (eVar 7)) (aCons (eF (eP fList (aCons (eF (eVar 7)) aNil))) aNil))))) (w1_law f_law_feed f_law_table f_law_machine f_law_row f_law_take f_law_due_words fled f_law_led fjudged fwatched fsure_at f_law_sure))))))
def g_law (f_law_feed : FM) (f_law_table : FM) (f_law_machine : FM) (f_law_row : FM) (f_law_take : FM) (f_law_due_words : FM) (fled : FM) (f_law_led : FM) (fjudged : FM) (fwatched : FM) (fsure_at : FM) (f_law_sure : FM) : GS :=
  (sSeq (sSet 1 (eCall f_law_feed (uMut (eVar 0) (uVal (eC (.int 0)) uNil))))
  (sSeq (sSet 2 (eCall f_law_table (uMut (eVar 1) uNil)))
  (sSeq (sSet 3 (eCall f_law_machine (uMut (eCall f_law_feed (uMut (eVar 0) (uVal (eC (.int 1)) uNil))) (uVal (eF (eVar 2)) (uVal (eF (eP fLst (aCons (eC (.bl true)) (aCons (eC (.bl false)) aNil)))) uNil)))))
  (sSeq (sSet 4 (eCall f_law_machine (uMut (eCall f_law_feed (uMut (eVar 0) (uVal (eC (.int 2)) uNil))) (uVal (eF (eVar 2)) (uVal (eF (eP fLst (aCons (eC (.str "open")) (aCons (eC (.str "yes")) (aCons (eC (.str "no")) aNil))))) uNil)))))
  (sSeq (sFor (bName 5) (gRng1 (aCons (eC (.int 10)) aNil)) (w2_law f_law_feed f_law_table f_law_machine f_law_row f_law_take f_law_due_words fled f_law_led fjudged fwatched fsure_at f_law_sure))
  (sRet (eT (eC (.bl true)))))))))

section
variable {f1 f2 f3 f4 f5 f6 f7 f8 f9 f10 f11 f12 : FM} {s0 x1 x6 x11 : Option U} {td n1 n2 k r told mk sw : D} {M1 M2 rs marks : List D} {sp z z0 : Int}
end
noncomputable abbrev F38 (g : FM → FM → FM → FM → FM → FM → FM → FM → FM → FM → FM → FM → GS) : GS := g feedF tabQ machF rowQ takeF dueWF ledF lledF judgedF watchedF sureAtF lsureF
theorem good_int {z : Int} (h0 : 0 ≤ z) (h1 : z < 1000) : Good 40 0 (.int z) := ⟨(by show z.natAbs < 10 ^ 30; omega), by show 40 ≤ 40; omega, Nat.le_refl _⟩
structure LS (T : List (Str × Int)) (N1 : List (List Int)) (M1 : List D) (N2 : List (List Int)) (M2 : List D) : Prop where
  a : Mach T N1 M1
  b : Mach T N2 M2
  m1 : ∀ x ∈ M1, x ∈ [D.bl true, .bl false]
  m2 : ∀ x ∈ M2, x ∈ [D.str "open", .str "yes", .str "no"]
  hh : 0 < (haps T).length
end Sx

end
section
set_option Elab.async false
set_option linter.all false
set_option maxRecDepth 100000
namespace Sp
open PySem PySem.Spec PyProof.Rows L2 Sw Sq
abbrev PP := Int × Int
abbrev Ent := PP × List D
def keysE (E : List Ent) : List PP := E.map (·.1)
def vis (ok : PP → Bool) (row : List D) : List (D × PP) → List Ent → List Ent → List Ent
  | [], _, acc => acc
  | (h, p) :: ps, E, acc => if ok p = true ∧ p ∉ keysE (E ++ acc) then vis ok row ps E (acc ++ [(p, row ++ [h])]) else vis ok row ps E acc
def bfs (ok diff : PP → Bool) (sc : PP → List (D × PP)) : Nat → List Ent → List Ent → Option (Option (List D))
  | 0, _, _ => none
  | _ + 1, _, [] => some none
  | f + 1, E, (p, row) :: q => if diff p = true then some (some row) else bfs ok diff sc f (E ++ vis ok row (sc p) E []) (q ++ vis ok row (sc p) E [])
def tt : PP → Bool := fun _ => true
def ne2 : PP → Bool := fun p => p.1 != p.2
def okE (e : Ent) : Bool := ne2 e.1
theorem mem_keys_filter {E : List Ent} {p : PP} (hp : ne2 p = true) : p ∈ keysE (E.filter okE) ↔ p ∈ keysE E := by
  unfold keysE
  constructor
  · intro h
    obtain ⟨e, h1, rfl⟩ := List.mem_map.mp h
    exact List.mem_map_of_mem (List.mem_filter.mp h1).1
  · intro h
    obtain ⟨e, h1, rfl⟩ := List.mem_map.mp h
    exact List.mem_map_of_mem (List.mem_filter.mpr ⟨h1, hp⟩)
theorem vis_filter {row : List D} : ∀ (ps : List (D × PP)) (E acc : List Ent), vis ne2 row ps (E.filter okE) (acc.filter okE) = (vis tt row ps E acc).filter okE
  | [], E, acc => rfl
  | (h, p) :: ps, E, acc => by
    unfold vis
    by_cases hp : ne2 p = true
    · have e1 : p ∉ keysE (E.filter okE ++ acc.filter okE) ↔ p ∉ keysE (E ++ acc) := by rw [← List.filter_append, mem_keys_filter hp]
      by_cases hm : p ∉ keysE (E ++ acc)
      · rw [if_pos ⟨hp, e1.mpr hm⟩, if_pos ⟨rfl, hm⟩, ← vis_filter ps E (acc ++ [(p, row ++ [h])]), List.filter_append]
        have : [(p, row ++ [h])].filter okE = [(p, row ++ [h])] := by rw [List.filter_cons_of_pos (by exact hp)]; rfl
        rw [this]
      · rw [if_neg (fun z => hm (e1.mp z.2)), if_neg (fun z => hm z.2), vis_filter ps E acc]
    · rw [if_neg (fun z => hp z.1)]
      by_cases hm : p ∉ keysE (E ++ acc)
      · rw [if_pos ⟨rfl, hm⟩, ← vis_filter ps E (acc ++ [(p, row ++ [h])]), List.filter_append]
        have : [(p, row ++ [h])].filter okE = [] := by rw [List.filter_cons_of_neg (by exact hp)]; rfl
        rw [this, List.append_nil]
      · rw [if_neg (fun z => hm z.2), vis_filter ps E acc]
theorem vis_none {ok : PP → Bool} {row : List D} : ∀ (ps : List (D × PP)) (E acc : List Ent), (∀ x ∈ ps, ok x.2 = false) → vis ok row ps E acc = acc
  | [], E, acc, _ => rfl
  | (h, p) :: ps, E, acc, k => by
    unfold vis
    rw [if_neg (fun z => by have := k (h, p) List.mem_cons_self; simp only at this; rw [this] at z; cases z.1), vis_none ps E acc fun x hx => k x (List.mem_cons_of_mem _ hx)]
theorem vis_tt_none {row : List D} : ∀ (ps : List (D × PP)) (E acc : List Ent), (∀ x ∈ ps, ne2 x.2 = false) → (vis tt row ps E acc).filter okE = acc.filter okE
  | ps, E, acc, k => by rw [← vis_filter, vis_none ps _ _ k]
theorem bfs_sim {diff : PP → Bool} {sc : PP → List (D × PP)} (hd : ∀ p, diff p = true → ne2 p = true) (hs : ∀ p, ne2 p = false → ∀ x ∈ sc p, ne2 x.2 = false) {r : Option (List D)} : ∀ (f f' : Nat) (E q : List Ent), f ≤ f' → bfs tt diff sc f E q = some r → bfs ne2 diff sc f' (E.filter okE) (q.filter okE) = some r
  | 0, _, _, _, _, h => by cases h
  | f + 1, 0, _, _, hf, _ => by omega
  | f + 1, f' + 1, E, [], hf, h => by exact h
  | f + 1, f' + 1, E, (p, row) :: q, hf, h => by
    unfold bfs at h
    by_cases hp : ne2 p = true
    · rw [List.filter_cons_of_pos (by exact hp)]
      unfold bfs
      by_cases hdp : diff p = true
      · rw [if_pos hdp] at h ⊢; exact h
      · rw [if_neg hdp] at h ⊢
        have := bfs_sim hd hs f f' _ _ (by omega) h
        rw [List.filter_append, List.filter_append, ← vis_filter] at this
        exact this
    · have hp' : ne2 p = false := by simpa using hp
      rw [if_neg (fun z => hp (hd p z))] at h
      rw [List.filter_cons_of_neg (by exact hp)]
      have := bfs_sim hd hs f (f' + 1) _ _ (by omega) h
      rw [List.filter_append, List.filter_append, vis_tt_none _ _ _ (hs p hp')] at this
      simpa using this
theorem vis_sub {ok : PP → Bool} {row : List D} {P : PP → Prop} : ∀ (ps : List (D × PP)) (E acc : List Ent), (∀ x ∈ ps, P x.2) → (∀ e ∈ acc, P e.1) → ∀ e ∈ vis ok row ps E acc, P e.1
  | [], E, acc, _, h => h
  | (h, p) :: ps, E, acc, k, ha => by
    unfold vis
    have k' : ∀ x ∈ ps, P x.2 := fun x hx => k x (List.mem_cons_of_mem _ hx)
    split
    · refine vis_sub ps E _ k' fun e he => ?_
      rcases List.mem_append.mp he with q | q
      · exact ha e q
      · rw [show e = (p, row ++ [h]) by simpa using q]; exact k (h, p) List.mem_cons_self
    · exact vis_sub ps E _ k' ha
theorem bfs_eq_none {diff : PP → Bool} {sc : PP → List (D × PP)} (hd : ∀ p, diff p = true → ne2 p = true) (hs : ∀ p, ne2 p = false → ∀ x ∈ sc p, ne2 x.2 = false) {ok : PP → Bool} {r : Option (List D)} : ∀ (f : Nat) (E q : List Ent), (∀ e ∈ q, ne2 e.1 = false) → bfs ok diff sc f E q = some r → r = none
  | 0, _, _, _, h => by cases h
  | f + 1, E, [], _, h => by cases h; rfl
  | f + 1, E, (p, row) :: q, k, h => by
    unfold bfs at h
    have hp := k (p, row) List.mem_cons_self
    rw [if_neg (fun z => by have := hd p z; simp only at hp; rw [hp] at this; cases this)] at h
    refine bfs_eq_none hd hs f _ _ (fun e he => ?_) h
    rcases List.mem_append.mp he with z | z
    · exact k e (List.mem_cons_of_mem _ z)
    · exact vis_sub (P := fun p => ne2 p = false) (sc p) E [] (hs p hp) (by simp) e z
theorem bfs_both {diff : PP → Bool} {sc : PP → List (D × PP)} (hd : ∀ p, diff p = true → ne2 p = true) (hs : ∀ p, ne2 p = false → ∀ x ∈ sc p, ne2 x.2 = false) {r : Option (List D)} {f : Nat} (hf : 1 < f) (p : PP) (h : bfs tt diff sc f [(p, [])] [(p, [])] = some r) : bfs ne2 diff sc f [(p, [])] [(p, [])] = some r := by
  by_cases hp : ne2 p = true
  · have := bfs_sim hd hs f f _ _ (Nat.le_refl _) h
    rw [List.filter_cons_of_pos (by exact hp), List.filter_nil] at this
    exact this
  · have hp' : ne2 p = false := by simpa using hp
    have e := bfs_eq_none hd hs f _ _ (by intro e he; rw [show e = (p, []) by simpa using he]; exact hp') h
    subst e
    obtain ⟨g, rfl⟩ : ∃ g, f = g + 2 := ⟨f - 2, by omega⟩
    unfold bfs
    rw [if_neg (fun z => by have := hd p z; rw [hp'] at this; cases this), vis_none (sc p) _ _ (hs p hp')]
    rfl
theorem nd_len : ∀ (m : Nat) (l : List Nat), l.Nodup → (∀ x ∈ l, x < m) → l.length ≤ m
  | 0, [], _, _ => Nat.le_refl _
  | 0, a :: l, _, h => absurd (h a List.mem_cons_self) (Nat.not_lt_zero _)
  | m + 1, l, nd, h => by
    by_cases hm : m ∈ l
    · have := nd_len m (l.erase m) (nd.erase m) fun x hx => by
        have h1 := h x (List.mem_of_mem_erase hx)
        have h2 : x ≠ m := ((nd.mem_erase_iff).mp hx).1
        omega
      rw [List.length_erase_of_mem hm] at this
      omega
    · have := nd_len m l nd fun x hx => by
        have h1 := h x hx
        have h2 : x ≠ m := fun z => hm (z ▸ hx)
        omega
      omega
def InR (n : Nat) (p : PP) : Prop := 0 ≤ p.1 ∧ p.1 < n ∧ 0 ≤ p.2 ∧ p.2 < n
theorem keys_len {n : Nat} {E : List Ent} (nd : (keysE E).Nodup) (h : ∀ e ∈ E, InR n e.1) : E.length ≤ n * n := by
  have := nd_len (n * n) ((keysE E).map fun p => p.1.toNat * n + p.2.toNat) ?_ ?_
  · unfold keysE at this; simpa using this
  · refine List.pairwise_map.mpr ?_
    refine nd.imp_of_mem fun {a b} ha hb hne z => hne ?_
    obtain ⟨ea, h1, rfl⟩ := List.mem_map.mp ha
    obtain ⟨eb, h2, rfl⟩ := List.mem_map.mp hb
    obtain ⟨a0, a1, a2, a3⟩ := h ea h1
    obtain ⟨b0, b1, b2, b3⟩ := h eb h2
    have e1 : ea.1.2.toNat < n := by omega
    have e2 : eb.1.2.toNat < n := by omega
    have e3 : ea.1.1.toNat = eb.1.1.toNat := by
      have z1 := congrArg (· / n) z
      have z2 : ∀ (a b : Nat), b < n → (a * n + b) / n = a := fun a b hb => by
        rw [Nat.mul_comm, Nat.mul_add_div (by omega), Nat.div_eq_of_lt hb, Nat.add_zero]
      simp only [z2 _ _ e1, z2 _ _ e2] at z1
      exact z1
    have z : ea.1.1.toNat * n + ea.1.2.toNat = eb.1.1.toNat * n + eb.1.2.toNat := z
    rw [e3] at z
    exact Prod.ext (by omega) (by omega)
  · intro x hx
    obtain ⟨p, h1, rfl⟩ := List.mem_map.mp hx
    obtain ⟨e, h2, rfl⟩ := List.mem_map.mp h1
    obtain ⟨a0, a1, a2, a3⟩ := h e h2
    have b1 : e.1.1.toNat + 1 ≤ n := by omega
    have b2 := Nat.mul_le_mul_right n b1
    rw [Nat.add_mul, Nat.one_mul] at b2
    show e.1.1.toNat * n + e.1.2.toNat < n * n
    omega
structure EOk (hs : List D) (n : Nat) (E : List Ent) : Prop where
  nd : (keysE E).Nodup
  inr : ∀ e ∈ E, InR n e.1
  row : ∀ e ∈ E, e.2.length < E.length ∧ ∀ x ∈ e.2, x ∈ hs
theorem EOk.len {hs : List D} {n : Nat} {E : List Ent} (h : EOk hs n E) : E.length ≤ n * n := keys_len h.nd h.inr
theorem EOk.snoc {hs : List D} {n : Nat} {E : List Ent} (h : EOk hs n E) {p : PP} {row : List D} {x : D} (hp : InR n p) (hm : p ∉ keysE E) (hr : row.length < E.length) (hrx : ∀ y ∈ row, y ∈ hs) (hx : x ∈ hs) : EOk hs n (E ++ [(p, row ++ [x])]) := by
  refine ⟨?_, fun e he => ?_, fun e he => ?_⟩
  · unfold keysE at hm ⊢
    rw [List.map_append]
    exact List.nodup_append.mpr ⟨h.nd, by simp, fun a ha b hb z => hm (by rw [show b = p by simpa using hb] at z; rw [← z]; exact ha)⟩
  · rcases List.mem_append.mp he with q | q
    · exact h.inr e q
    · rw [show e = (p, row ++ [x]) by simpa using q]; exact hp
  · rw [List.length_append, List.length_singleton]
    rcases List.mem_append.mp he with q | q
    · exact ⟨Nat.lt_succ_of_lt (h.row e q).1, (h.row e q).2⟩
    · rw [show e = (p, row ++ [x]) by simpa using q]
      refine ⟨by show (row ++ [x]).length < _; rw [List.length_append, List.length_singleton]; omega, fun y hy => ?_⟩
      rcases List.mem_append.mp hy with z | z
      · exact hrx y z
      · rw [show y = x by simpa using z]; exact hx
theorem vis_ok {ok : PP → Bool} {hs : List D} {n : Nat} {row : List D} (hrx : ∀ y ∈ row, y ∈ hs) : ∀ (ps : List (D × PP)) (E acc : List Ent), EOk hs n (E ++ acc) → row.length < E.length → (∀ x ∈ ps, x.1 ∈ hs ∧ InR n x.2) → EOk hs n (E ++ vis ok row ps E acc)
  | [], E, acc, h, _, _ => h
  | (x, p) :: ps, E, acc, h, hr, k => by
    unfold vis
    have k' : ∀ x ∈ ps, x.1 ∈ hs ∧ InR n x.2 := fun x hx => k x (List.mem_cons_of_mem _ hx)
    obtain ⟨k1, k2⟩ := k (x, p) List.mem_cons_self
    split
    · rename_i c
      refine vis_ok hrx ps E _ ?_ hr k'
      rw [← List.append_assoc]
      exact h.snoc k2 c.2 (by rw [List.length_append]; omega) hrx k1
    · exact vis_ok hrx ps E acc h hr k'
theorem bfs_some {ok diff : PP → Bool} {sc : PP → List (D × PP)} {hs : List D} {n : Nat} (hsc : ∀ p, InR n p → ∀ x ∈ sc p, x.1 ∈ hs ∧ InR n x.2) : ∀ (f : Nat) (E q : List Ent), EOk hs n E → (∀ e ∈ q, e ∈ E) → (n * n - E.length) + q.length < f → ∃ r, bfs ok diff sc f E q = some r ∧ ∀ l, r = some l → l.length ≤ n * n ∧ ∀ x ∈ l, x ∈ hs
  | 0, _, _, _, _, h => by omega
  | f + 1, E, [], _, _, _ => ⟨none, rfl, fun l hl => by cases hl⟩
  | f + 1, E, (p, row) :: q, he, hq, h => by
    have hm := hq (p, row) List.mem_cons_self
    unfold bfs
    have hl := he.len
    by_cases hd : diff p = true
    · rw [if_pos hd]
      refine ⟨some row, rfl, fun l hl2 => ?_⟩
      cases hl2
      have := he.row _ hm
      exact ⟨by have := this.1; simp only at this; omega, this.2⟩
    · rw [if_neg hd]
      have ho : EOk hs n (E ++ vis ok row (sc p) E []) := vis_ok (ok := ok) (he.row _ hm).2 (sc p) E [] (by rw [List.append_nil]; exact he) (he.row _ hm).1 (hsc p (he.inr _ hm))
      have hl2 := ho.len
      rw [List.length_append] at hl2
      have h : (n * n - E.length) + (q.length + 1) < f + 1 := h
      refine bfs_some hsc f _ _ ho (fun e he2 => ?_) (by rw [List.length_append, List.length_append]; omega)
      rcases List.mem_append.mp he2 with z | z
      · exact List.mem_append_left _ (hq e (List.mem_cons_of_mem _ z))
      · exact List.mem_append_right _ z
def sc3 : List D → List Int → List Int → List (D × PP)
  | h :: hs, a :: as, b :: bs => (h, (a, b)) :: sc3 hs as bs
  | _, _, _ => []
theorem sc3_mem : ∀ {hs : List D} {as bs : List Int} {x : D × PP}, x ∈ sc3 hs as bs → x.1 ∈ hs ∧ x.2.1 ∈ as ∧ x.2.2 ∈ bs
  | [], as, bs, x, h => by simp [sc3] at h
  | _ :: _, [], bs, x, h => by simp [sc3] at h
  | _ :: _, _ :: _, [], x, h => by simp [sc3] at h
  | h :: hs, a :: as, b :: bs, x, hx => by
    unfold sc3 at hx
    rcases List.mem_cons.mp hx with rfl | z
    · simp
    · obtain ⟨h1, h2, h3⟩ := sc3_mem z
      exact ⟨List.mem_cons_of_mem _ h1, List.mem_cons_of_mem _ h2, List.mem_cons_of_mem _ h3⟩
theorem sc3_eq : ∀ {hs : List D} {as : List Int} {x : D × PP}, x ∈ sc3 hs as as → ne2 x.2 = false
  | [], as, x, h => by simp [sc3] at h
  | _ :: _, [], x, h => by simp [sc3] at h
  | h :: hs, a :: as, x, hx => by
    unfold sc3 at hx
    rcases List.mem_cons.mp hx with rfl | z
    · simp [ne2]
    · exact sc3_eq z
def scN (hs : List D) (N : List (List Int)) (p : PP) : List (D × PP) := sc3 hs (N.getD p.1.toNat []) (N.getD p.2.toNat [])
theorem scN_eq (hs : List D) (N : List (List Int)) (p : PP) (h : ne2 p = false) : ∀ x ∈ scN hs N p, ne2 x.2 = false := by
  intro x hx
  have e : p.1 = p.2 := by simpa [ne2] using h
  unfold scN at hx
  rw [e] at hx
  exact sc3_eq hx
theorem scN_in {hs : List D} {N : List (List Int)} (hN : ∀ r ∈ N, r.length = hs.length ∧ ∀ v ∈ r, 0 ≤ v ∧ v < N.length) (p : PP) (hp : InR N.length p) : ∀ x ∈ scN hs N p, x.1 ∈ hs ∧ InR N.length x.2 := by
  intro x hx
  obtain ⟨p0, p1, p2, p3⟩ := hp
  obtain ⟨h1, h2, h3⟩ := sc3_mem hx
  have g : ∀ i : Int, 0 ≤ i → i < N.length → N.getD i.toNat [] ∈ N := fun i a b => by
    have : i.toNat < N.length := by omega
    rw [List.getD_eq_getElem?_getD, List.getElem?_eq_getElem this]
    exact List.getElem_mem this
  obtain ⟨a0, a1⟩ := (hN _ (g p.1 p0 p1)).2 _ h2
  obtain ⟨b0, b1⟩ := (hN _ (g p.2 p2 p3)).2 _ h3
  exact ⟨h1, a0, a1, b0, b1⟩
end Sp

end
section
set_option Elab.async false
set_option linter.all false
set_option maxRecDepth 100000
namespace Sp
open PySem PySem.Spec PyProof.Rows L2 Sw Sq
@[simp] theorem m_eDictT (gk gv : GD) (S : SS) : eDictT gk gv S = (gk S).bind fun p => (keyT p.1).bind fun kk => (gv p.2).map fun q => (.m (.dtt [(kk, q.1)]), q.2) := rfl
@[simp] theorem m_eInD (n : Bool) (i : Nat) (g : GD) (S : SS) : eInD n i g S = (g S).bind fun p => match p.2[i]? with
  | some (some u) => (hasD u p.1).map fun h => (.bl (n != h), p.2)
  | _ => none := rfl
@[simp] theorem m_hasD_m (kvs : List (List Key × D)) (k : D) : hasD (.m (.dtt kvs)) k = (keyT k).map fun kk => (lookD kvs kk).isSome := rfl
def pD (p : PP) : D := .tup [.int p.1, .int p.2]
def kQ (p : PP) : List Key := [.inl p.1, .inl p.2]
theorem kQ_inj {p q : PP} (h : kQ p = kQ q) : p = q := by
  unfold kQ at h
  injection h with h1 h2
  injection h2 with h3 h4
  injection h1 with h1
  injection h3 with h3
  exact Prod.ext h1 h3
@[simp] theorem keyT_pD (p : PP) : keyT (pD p) = some (kQ p) := rfl
def kvE (E : List Ent) : List (List Key × D) := E.map fun e => (kQ e.1, .tup e.2)
theorem kv_none : ∀ {E : List Ent} {p : PP}, p ∉ keysE E → lookD (kvE E) (kQ p) = none
  | [], p, _ => rfl
  | e :: E, p, h => by
    have h1 : p ≠ e.1 := fun z => h (by rw [z]; exact List.mem_cons_self)
    have h2 := kv_none (E := E) (p := p) fun z => h (List.mem_cons_of_mem _ z)
    unfold lookD at h2 ⊢
    show (((kQ e.1, .tup e.2) :: kvE E).find? _).map _ = _
    rw [List.find?_cons_of_neg (by simp only [decide_eq_true_eq]; exact fun z => h1 (kQ_inj z).symm)]
    exact h2
theorem kv_mem : ∀ {E : List Ent} {p : PP}, p ∈ keysE E → (lookD (kvE E) (kQ p)).isSome = true
  | [], p, h => by cases h
  | e :: E, p, h => by
    unfold lookD
    show ((((kQ e.1, .tup e.2) :: kvE E).find? _).map _).isSome = _
    by_cases h1 : p = e.1
    · rw [List.find?_cons_of_pos (by simp [h1])]; rfl
    · rw [List.find?_cons_of_neg (by simp only [decide_eq_true_eq]; exact fun z => h1 (kQ_inj z).symm)]
      have h2 := kv_mem (E := E) (p := p) ((List.mem_cons.mp h).resolve_left h1)
      unfold lookD at h2
      exact h2
theorem kv_get : ∀ {E : List Ent} {e : Ent}, (keysE E).Nodup → e ∈ E → lookD (kvE E) (kQ e.1) = some (.tup e.2)
  | [], _, _, h => by cases h
  | g :: E, e, nd, h => by
    obtain ⟨n1, n2⟩ := List.nodup_cons.mp (show (g.1 :: keysE E).Nodup from nd)
    unfold lookD
    show (((kQ g.1, .tup g.2) :: kvE E).find? _).map _ = _
    rcases List.mem_cons.mp h with z | z
    · subst z
      rw [List.find?_cons_of_pos (by simp)]; rfl
    · have ne : g.1 ≠ e.1 := fun y => n1 (by rw [y]; exact List.mem_map_of_mem z)
      rw [List.find?_cons_of_neg (by simp only [decide_eq_true_eq]; exact fun y => ne (kQ_inj y))]
      have h2 := kv_get n2 z
      unfold lookD at h2
      exact h2
theorem kv_put {E : List Ent} {p : PP} {row : List D} (h : p ∉ keysE E) : putD (kvE E) (kQ p) (.tup row) = kvE (E ++ [(p, row)]) := by
  unfold putD
  rw [if_neg]
  · unfold kvE; rw [List.map_append]; rfl
  · intro z
    obtain ⟨kv, h1, h2⟩ := List.any_eq_true.mp z
    obtain ⟨e, h3, rfl⟩ := List.mem_map.mp h1
    have := kQ_inj (of_decide_eq_true h2)
    exact h (by rw [← this]; exact List.mem_map_of_mem h3)
theorem kv_len (E : List Ent) : (kvE E).length = E.length := List.length_map ..
def fdE (E : List Ent) : List D := E.map fun e => pD e.1
theorem fd_len (E : List Ent) : (fdE E).length = E.length := List.length_map ..
def w1_parting (fhappenings_of : FM) : GS :=
  (sSeq (sSet 12 (eP fTup (aCons (eF (eP fIx (aCons (eSub 1 (eSub 9 (eC (.int 0)))) (aCons (eF (eVar 10)) aNil)))) (aCons (eF (eP fIx (aCons (eSub 1 (eSub 9 (eC (.int 1)))) (aCons (eF (eVar 10)) aNil)))) aNil))))
  (sIf (qAnd (qB (eF (eP fNe (aCons (eSub 12 (eC (.int 0))) (aCons (eSub 12 (eC (.int 1))) aNil))))) (qB (eInD true 7 (eF (eVar 12))))) (sSeq (sPut 7 (eF (eVar 12)) (eF (eP fAdd (aCons (eSub 7 (eF (eVar 9))) (aCons (eF (eP fTup (aCons (eF (eVar 11)) aNil))) aNil)))))
  (sExpr (eT (eM 6 hAppend (aCons (eF (eVar 12)) aNil))))) sNil))
def w2_parting (fhappenings_of : FM) : GS :=
  (sSeq (sSet 9 (eT (eSub 6 (eF (eVar 8)))))
  (sSeq (sIf (qB (eF (eP fNe (aCons (eSub 2 (eSub 9 (eC (.int 0)))) (aCons (eSub 2 (eSub 9 (eC (.int 1)))) aNil))))) (sRet (eT (eSub 7 (eF (eVar 9))))) sNil)
  (sSeq (sFor (bTup 2 (bCons (bName 10) (bCons (bName 11) bNil))) (gEnum (aCons (eF (eVar 5)) aNil)) (w1_parting fhappenings_of))
  (sAug (fun i j => i + j) 8 (eC (.int 1))))))
def g_parting (fhappenings_of : FM) : GS :=
  (sSeq (sSet 5 (eCall fhappenings_of (uVal (eF (eVar 0)) uNil)))
  (sSeq (sSet 6 (eP fLst (aCons (eF (eP fTup (aCons (eF (eVar 3)) (aCons (eF (eVar 4)) aNil)))) aNil)))
  (sSeq (sSet 7 (eDictT (eF (eP fTup (aCons (eF (eVar 3)) (aCons (eF (eVar 4)) aNil)))) (eF (eP fTup aNil))))
  (sSeq (sSet 8 (eT (eC (.int 0))))
  (sSeq (sWhile 100000 (qB (eF (eP fLt (aCons (eF (eVar 8)) (aCons (eLen 6) aNil))))) (w2_parting fhappenings_of))
  (sRet (eT (eC .non))))))))

noncomputable def partF : FM := runB 13 (g_parting hapsF)
theorem part_run : ∀ us r, partF us = some r → runB 13 (g_parting hapsF) us = some r := fun _ _ h => h
abbrev PSt (td nd md a3 a4 : D) (x5 : Option U) (E : List Ent) (at_ : Int) (x9 x10 x11 x12 : Option U) : SS := [some (.t td), some (.t nd), some (.t md), some (.t a3), some (.t a4), x5, some (.m (.lst (fdE E))), some (.m (.dtt (kvE E))), some (.t (.int at_)), x9, x10, x11, x12]
theorem intsD_ix (r : List Int) (c : Int) : fIx [Sq.intsD r, .int c] = (atI (r.map D.int) c).map .t := rfl
theorem at_pD (p : PP) : readU (.t (pD p)) (.int 0) = some (.int p.1) ∧ readU (.t (pD p)) (.int 1) = some (.int p.2) := ⟨rfl, rfl⟩
theorem p_turn {td md a3 a4 h : D} {N : List (List Int)} {x5 x10 x11 x12 : Option U} {E : List Ent} {at_ : Int} {p : PP} {row : List D} {k : Nat} {ra rb : List Int} {a b : Int}
    (ea : atI (N.map Sq.intsD) p.1 = some (Sq.intsD ra)) (eb : atI (N.map Sq.intsD) p.2 = some (Sq.intsD rb)) (ka : ra[k]? = some a) (kb : rb[k]? = some b) (nd : (keysE E).Nodup) (hm : (p, row) ∈ E) (hl : row.length < 1000) (hE : E.length < 1000) (h10 : isB x10 = false) (h11 : isB x11 = false) (h12 : isB x12 = false) :
    ∃ S1, bTup 2 (bCons (bName 10) (bCons (bName 11) bNil)) (.tup [.int k, h]) (PSt td (.tup (N.map Sq.intsD)) md a3 a4 x5 E at_ (some (.t (pD p))) x10 x11 x12) = some S1 ∧
      w1_parting hapsF S1 = some (.nx (PSt td (.tup (N.map Sq.intsD)) md a3 a4 x5 (if ne2 (a, b) = true ∧ (a, b) ∉ keysE E then E ++ [((a, b), row ++ [h])] else E) at_ (some (.t (pD p))) (some (.t (.int k))) (some (.t h)) (some (.t (pD (a, b)))))) := by
  refine ⟨PSt td (.tup (N.map Sq.intsD)) md a3 a4 x5 E at_ (some (.t (pD p))) (some (.t (.int k))) (some (.t h)) x12, by simp [-m_setU, m_setU2, h10, h11], ?_⟩
  have e1 : atI (ra.map D.int) (k : Int) = some (.int a) := atI_nn (Int.natCast_nonneg k) (by rw [Int.toNat_natCast, List.getElem?_map, ka]; rfl)
  have e2 : atI (rb.map D.int) (k : Int) = some (.int b) := atI_nn (Int.natCast_nonneg k) (by rw [Int.toNat_natCast, List.getElem?_map, kb]; rfl)
  have e3 := kv_get nd hm
  have e4 : row.length + 1 ≤ 100000 := by omega
  have e5 : (kvE E).length < 100000 := by rw [kv_len]; omega
  have e6 : (fdE E).length < 100000 := by rw [fd_len]; omega
  have e7 : D.tup [.int a, .int b] = pD (a, b) := rfl
  have e8 := at_pD p
  have e9 := at_pD (a, b)
  by_cases hn : a = b
  · rw [if_neg (fun z => by simp [ne2, hn] at z)]
    subst hn
    simp [w1_parting, -m_setU, m_setU2, h12, e8, ea, eb, intsD_ix, e1, e2, e7, e9]
  · by_cases hk : (a, b) ∉ keysE E
    · rw [if_pos ⟨by simpa [ne2] using hn, hk⟩, ]
      have e10 := kv_none hk
      have e11 := kv_put (row := row ++ [h]) hk
      have e12 : fdE (E ++ [((a, b), row ++ [h])]) = fdE E ++ [pD (a, b)] := by unfold fdE; rw [List.map_append]; rfl
      simp only [PSt]
      rw [e12, ← e11]
      simp [w1_parting, -m_setU, m_setU2, h12, e8, ea, eb, intsD_ix, e1, e2, e7, e9, hn, e10, e3, e4, e5, e6]
    · rw [if_neg (fun z => hk z.2)]
      have e10 := kv_mem (Classical.not_not.mp hk)
      simp [w1_parting, -m_setU, m_setU2, h12, e8, ea, eb, intsD_ix, e1, e2, e7, e9, hn, e10]
theorem p_inner {td md a3 a4 : D} {N : List (List Int)} {x5 : Option U} {at_ : Int} {p : PP} {row hs : List D} {n : Nat} {ra rb : List Int} (ea : atI (N.map Sq.intsD) p.1 = some (Sq.intsD ra)) (eb : atI (N.map Sq.intsD) p.2 = some (Sq.intsD rb)) (hrx : ∀ y ∈ row, y ∈ hs) (hn : n * n < 900) (hinR : ∀ x ∈ sc3 hs ra rb, x.1 ∈ hs ∧ InR n x.2) (hla : ra.length = hs.length) (hlb : rb.length = hs.length) :
    ∀ (gs : List D) (k : Nat) (E acc : List Ent) (x10 x11 x12 : Option U), hs.drop k = gs → EOk hs n (E ++ acc) → (p, row) ∈ E → row.length < E.length → isB x10 = false → isB x11 = false → isB x12 = false →
    ∃ y10 y11 y12, isB y10 = false ∧ isB y11 = false ∧ isB y12 = false ∧ loop (bTup 2 (bCons (bName 10) (bCons (bName 11) bNil))) (w1_parting hapsF) (Sx.enumK k gs) (PSt td (.tup (N.map Sq.intsD)) md a3 a4 x5 (E ++ acc) at_ (some (.t (pD p))) x10 x11 x12) =
      some (.nx (PSt td (.tup (N.map Sq.intsD)) md a3 a4 x5 (E ++ vis ne2 row (sc3 gs (ra.drop k) (rb.drop k)) E acc) at_ (some (.t (pD p))) y10 y11 y12))
  | [], k, E, acc, x10, x11, x12, _, _, _, _, h10, h11, h12 => ⟨x10, x11, x12, h10, h11, h12, rfl⟩
  | h :: gs, k, E, acc, x10, x11, x12, hk, ho, hm, hr, h10, h11, h12 => by
    have hlt : k < hs.length := by
      have := congrArg List.length hk
      rw [List.length_drop, List.length_cons] at this
      omega
    have hk0 := hk
    rw [List.drop_eq_getElem_cons hlt] at hk
    injection hk with k1 k2
    have da : ra.drop k = ra[k]'(by omega) :: ra.drop (k + 1) := List.drop_eq_getElem_cons (by omega)
    have db : rb.drop k = rb[k]'(by omega) :: rb.drop (k + 1) := List.drop_eq_getElem_cons (by omega)
    have hel := ho.len
    have hel2 : E.length + acc.length ≤ n * n := by rw [List.length_append] at hel; exact hel
    generalize hga : ra[k]'(by omega) = a at da
    generalize hgb : rb[k]'(by omega) = b at db
    have ka : ra[k]? = some a := by rw [List.getElem?_eq_getElem (by omega), hga]
    have kb : rb[k]? = some b := by rw [List.getElem?_eq_getElem (by omega), hgb]
    obtain ⟨S1, b1, b2⟩ := p_turn (td := td) (md := md) (a3 := a3) (a4 := a4) (h := h) (N := N) (x5 := x5) (E := E ++ acc) (at_ := at_) (p := p) (row := row) (k := k) ea eb ka kb ho.nd (List.mem_append_left _ hm) (by omega) (by omega) h10 h11 h12
    have hmem : (h, (a, b)) ∈ sc3 hs ra rb := by
      have : ∀ (k : Nat) (hs : List D) (ra rb : List Int), hs[k]? = some h → ra[k]? = some a → rb[k]? = some b → (h, (a, b)) ∈ sc3 hs ra rb := by
        intro k
        induction k with
        | zero => intro hs ra rb e1 e2 e3; cases hs <;> cases ra <;> cases rb <;> simp_all [sc3]
        | succ k ih =>
          intro hs ra rb e1 e2 e3
          cases hs <;> cases ra <;> cases rb <;> simp at e1 e2 e3
          exact List.mem_cons_of_mem _ (ih _ _ _ e1 e2 e3)
      exact this k hs ra rb (by rw [List.getElem?_eq_getElem hlt, k1]) ka kb
    obtain ⟨i1, i2⟩ := hinR _ hmem
    show ∃ y10 y11 y12, _ ∧ _ ∧ _ ∧ loop _ _ (.tup [.int k, h] :: Sx.enumK (k + 1) gs) _ = _
    rw [loop_cons, b1, Option.bind_some, b2, Option.bind_some, da, db]
    have es : sc3 (h :: gs) (a :: ra.drop (k + 1)) (b :: rb.drop (k + 1)) = (h, (a, b)) :: sc3 gs (ra.drop (k + 1)) (rb.drop (k + 1)) := rfl
    rw [es]
    unfold vis
    by_cases c : ne2 (a, b) = true ∧ (a, b) ∉ keysE (E ++ acc)
    · rw [if_pos c, if_pos c]
      have ho2 := ho.snoc i2 c.2 (by rw [List.length_append]; omega) hrx i1
      rw [List.append_assoc] at ho2 ⊢
      exact p_inner (td := td) (md := md) (a3 := a3) (a4 := a4) ea eb hrx hn hinR hla hlb gs (k + 1) E (acc ++ [((a, b), row ++ [h])]) _ _ _ k2 ho2 hm hr rfl rfl rfl
    · rw [if_neg c, if_neg c]
      exact p_inner (td := td) (md := md) (a3 := a3) (a4 := a4) ea eb hrx hn hinR hla hlb gs (k + 1) E acc _ _ _ k2 ho hm hr rfl rfl rfl
end Sp

end
section
set_option Elab.async false
set_option linter.all false
set_option maxRecDepth 100000
namespace Sp
open PySem PySem.Spec PyProof.Rows L2 Sw Sq
noncomputable section
structure MOk (hs : List D) (N : List (List Int)) (M : List D) : Prop where
  few : N.length ≤ 7
  row : ∀ r ∈ N, r.length = hs.length ∧ ∀ v ∈ r, 0 ≤ v ∧ v < N.length
  len : M.length = N.length
  dep : ∀ d ∈ M, depD d ≤ 40
def diffM (M : List D) (p : PP) : Bool := !eqD (M.getD p.1.toNat .non) (M.getD p.2.toNat .non)
theorem diff_ne (M : List D) (p : PP) (h : diffM M p = true) : ne2 p = true := by
  unfold diffM at h
  unfold ne2
  by_cases e : p.1 = p.2
  · rw [e, eqD_refl] at h; cases h
  · simpa using e
theorem m_at {M : List D} {i : Int} (h0 : 0 ≤ i) (h1 : i < M.length) : atI M i = some (M.getD i.toNat .non) ∧ M.getD i.toNat .non ∈ M := by
  have h : i.toNat < M.length := by omega
  have e : M.getD i.toNat .non = M[i.toNat] := by rw [List.getD_eq_getElem?_getD, List.getElem?_eq_getElem h]; rfl
  rw [e]
  exact ⟨atI_nn h0 (List.getElem?_eq_getElem h), List.getElem_mem h⟩
theorem n_at {N : List (List Int)} {i : Int} (h0 : 0 ≤ i) (h1 : i < N.length) : atI (N.map Sq.intsD) i = some (Sq.intsD (N.getD i.toNat [])) ∧ N.getD i.toNat [] ∈ N := by
  have h : i.toNat < N.length := by omega
  have e : N.getD i.toNat [] = N[i.toNat] := by rw [List.getD_eq_getElem?_getD, List.getElem?_eq_getElem h]; rfl
  rw [e]
  exact ⟨atI_nn h0 (by rw [List.getElem?_map, List.getElem?_eq_getElem h]; rfl), List.getElem_mem h⟩
theorem p_body {td a3 a4 : D} {N : List (List Int)} {M hs : List D} {x5 x9 x10 x11 x12 : Option U} {E q : List Ent} {a : Nat} {p : PP} {row : List D} (hM : MOk hs N M) (ho : EOk hs N.length E) (hd : E.drop a = (p, row) :: q) (h5 : x5 = some (.m (.lst hs)) ∨ x5 = some (.t (.lst hs))) (h9 : isB x9 = false) (h10 : isB x10 = false) (h11 : isB x11 = false) (h12 : isB x12 = false) :
    (diffM M p = true ∧ ∃ S', S'.length = 13 ∧ w2_parting hapsF (PSt td (.tup (N.map Sq.intsD)) (.tup M) a3 a4 x5 E (a : Int) x9 x10 x11 x12) = some (.rt (.t (.tup row)) S')) ∨
    (diffM M p = false ∧ ∃ y10 y11 y12, isB y10 = false ∧ isB y11 = false ∧ isB y12 = false ∧ w2_parting hapsF (PSt td (.tup (N.map Sq.intsD)) (.tup M) a3 a4 x5 E (a : Int) x9 x10 x11 x12) =
      some (.nx (PSt td (.tup (N.map Sq.intsD)) (.tup M) a3 a4 (some (.t (.lst hs))) (E ++ vis ne2 row (scN hs N p) E []) ((a + 1 : Nat) : Int) (some (.t (pD p))) y10 y11 y12))) := by
  have hal : a < E.length := by
    have := congrArg List.length hd
    rw [List.length_drop, List.length_cons] at this
    omega
  have ea : E[a]? = some (p, row) := by
    rw [List.drop_eq_getElem_cons hal] at hd
    injection hd with h1 _
    rw [List.getElem?_eq_getElem hal, h1]
  have hm := List.mem_of_getElem? ea
  obtain ⟨p0, p1, p2, p3⟩ := ho.inr _ hm
  have e1 : atI (fdE E) (a : Int) = some (pD p) := atI_nn (Int.natCast_nonneg a) (by rw [Int.toNat_natCast]; unfold fdE; rw [List.getElem?_map, ea]; rfl)
  obtain ⟨m1, m1'⟩ := m_at (M := M) p0 (by rw [hM.len]; exact p1)
  obtain ⟨m2, m2'⟩ := m_at (M := M) p2 (by rw [hM.len]; exact p3)
  have d1 := hM.dep _ m1'
  have e8 := at_pD p
  have e3 := kv_get ho.nd hm
  cases hdf : diffM M p with
  | true =>
    left
    have hq : eqD (M.getD p.1.toNat .non) (M.getD p.2.toNat .non) = false := by unfold diffM at hdf; simpa using hdf
    refine ⟨rfl, PSt td (.tup (N.map Sq.intsD)) (.tup M) a3 a4 x5 E (a : Int) (some (.t (pD p))) x10 x11 x12, rfl, ?_⟩
    simp only at m1 m2 d1 hq e3
    generalize M.getD p.1.toNat .non = w1 at *
    generalize M.getD p.2.toNat .non = w2 at *
    simp [w2_parting, -m_setU, m_setU2, h9, e1, e8, m1, m2, d1, hq, e3]
  | false =>
    right
    have hq : eqD (M.getD p.1.toNat .non) (M.getD p.2.toNat .non) = true := by unfold diffM at hdf; simpa using hdf
    obtain ⟨n1, n1'⟩ := n_at (N := N) p0 p1
    obtain ⟨n2, n2'⟩ := n_at (N := N) p2 p3
    have few : N.length * N.length < 900 := Nat.lt_of_le_of_lt (Nat.mul_le_mul hM.few hM.few) (by decide)
    obtain ⟨y10, y11, y12, q10, q11, q12, lp⟩ := p_inner (td := td) (md := .tup M) (a3 := a3) (a4 := a4) (x5 := some (.t (.lst hs))) (at_ := (a : Int)) (p := p) (row := row) (hs := hs) (n := N.length) n1 n2 (ho.row _ hm).2 few (scN_in hM.row p ⟨p0, p1, p2, p3⟩) (hM.row _ n1').1 (hM.row _ n2').1 hs 0 E [] x10 x11 x12 rfl (by rw [List.append_nil]; exact ho) hm (ho.row _ hm).1 h10 h11 h12
    rw [List.append_nil, List.drop_zero, List.drop_zero] at lp
    refine ⟨rfl, y10, y11, y12, q10, q11, q12, ?_⟩
    simp only at m1 m2 d1 hq e3
    generalize M.getD p.1.toNat .non = w1 at *
    generalize M.getD p.2.toNat .non = w2 at *
    unfold scN
    simp only [PSt] at lp ⊢
    have en := Sx.enumD_K hs
    rcases h5 with rfl | rfl <;> simp [w2_parting, -m_setU, m_setU2, h9, e1, e8, m1, m2, d1, hq, en, lp]
theorem p_while {td a3 a4 : D} {N : List (List Int)} {M hs : List D} {r : Option (List D)} (hM : MOk hs N M) : ∀ (f e : Nat) (E : List Ent) (a : Nat) (x5 x9 x10 x11 x12 : Option U), bfs ne2 (diffM M) (scN hs N) f E (E.drop a) = some r → EOk hs N.length E → x5 = some (.m (.lst hs)) ∨ x5 = some (.t (.lst hs)) → isB x9 = false → isB x10 = false → isB x11 = false → isB x12 = false →
    ∃ S', S'.length = 13 ∧ wloop (qB (eF (eP fLt (aCons (eF (eVar 8)) (aCons (eLen 6) aNil))))) (w2_parting hapsF) (f + e) (PSt td (.tup (N.map Sq.intsD)) (.tup M) a3 a4 x5 E (a : Int) x9 x10 x11 x12) = some (match r with | none => .nx S' | some row => .rt (.t (.tup row)) S')
  | 0, e, E, a, x5, x9, x10, x11, x12, h, _, _, _, _, _, _ => by cases h
  | f + 1, e, E, a, x5, x9, x10, x11, x12, h, ho, h5, h9, h10, h11, h12 => by
    have ef : f + 1 + e = (f + e) + 1 := by omega
    rw [ef]
    cases hd : E.drop a with
    | nil =>
      rw [hd] at h
      cases h
      have hle : ¬ a < E.length := by
        have := congrArg List.length hd
        rw [List.length_drop, List.length_nil] at this
        omega
      refine ⟨PSt td (.tup (N.map Sq.intsD)) (.tup M) a3 a4 x5 E (a : Int) x9 x10 x11 x12, rfl, ?_⟩
      simp [wloop, fd_len, hle]
    | cons e1 q =>
      obtain ⟨p, row⟩ := e1
      rw [hd] at h
      have hlt : a < E.length := by
        have := congrArg List.length hd
        rw [List.length_drop, List.length_cons] at this
        omega
      have et : qB (eF (eP fLt (aCons (eF (eVar 8)) (aCons (eLen 6) aNil)))) (PSt td (.tup (N.map Sq.intsD)) (.tup M) a3 a4 x5 E (a : Int) x9 x10 x11 x12) = some (true, PSt td (.tup (N.map Sq.intsD)) (.tup M) a3 a4 x5 E (a : Int) x9 x10 x11 x12) := by simp [fd_len, hlt]
      unfold bfs at h
      rcases p_body (td := td) (a3 := a3) (a4 := a4) hM ho hd h5 h9 h10 h11 h12 with ⟨c, S', hS, e2⟩ | ⟨c, y10, y11, y12, q10, q11, q12, e2⟩
      · rw [if_pos c] at h
        cases h
        refine ⟨S', hS, ?_⟩
        simp only [wloop, et, Option.bind_some, e2]
        rfl
      · rw [if_neg (by rw [c]; decide)] at h
        have hm : (p, row) ∈ E := List.mem_of_mem_drop (i := a) (by rw [hd]; exact List.mem_cons_self)
        have ho2 : EOk hs N.length (E ++ vis ne2 row (scN hs N p) E []) := vis_ok (ho.row _ hm).2 (scN hs N p) E [] (by rw [List.append_nil]; exact ho) (ho.row _ hm).1 (scN_in hM.row p (ho.inr _ hm))
        have hd2 : (E ++ vis ne2 row (scN hs N p) E []).drop (a + 1) = q ++ vis ne2 row (scN hs N p) E [] := by
          rw [List.drop_append_of_le_length (by omega)]
          rw [List.drop_eq_getElem_cons hlt] at hd
          injection hd with _ h2
          rw [h2]
        obtain ⟨S', hS, z⟩ := p_while (td := td) (a3 := a3) (a4 := a4) hM f e (E ++ vis ne2 row (scN hs N p) E []) (a + 1) (some (.t (.lst hs))) (some (.t (pD p))) y10 y11 y12 (by rw [hd2]; exact h) ho2 (.inr rfl) rfl q10 q11 q12
        refine ⟨S', hS, ?_⟩
        rw [← z]
        simp only [wloop, et, Option.bind_some, e2]
        rfl
def resD : Option (List D) → D
  | none => .non
  | some l => .tup l
theorem outs5 {a b c d e : D} : ∀ {S : SS}, S.length = 13 → outsOf [.t a, .t b, .t c, .t d, .t e] S = some []
  | x0 :: x1 :: x2 :: x3 :: x4 :: S, _ => by simp
theorem e0_ok {hs : List D} {n : Nat} {p : PP} (h : InR n p) : EOk hs n [(p, [])] := ⟨by simp [keysE], fun e he => by rw [show e = (p, []) by simpa using he]; exact h, fun e he => by rw [show e = (p, []) by simpa using he]; exact ⟨(by show 0 < 1; decide), by simp⟩⟩
theorem part_ok {T : List (Str × Int)} {N : List (List Int)} {M : List D} {i j : Int} {r : Option (List D)} (hT : T.length ≤ 4) (hp : ∀ p ∈ T, PairOk p) (hM : MOk ((haps T).map prD) N M) (hij : InR N.length (i, j)) (h : bfs ne2 (diffM M) (scN ((haps T).map prD) N) 60 [((i, j), [])] [((i, j), [])] = some r) :
    partF [.t (tabT T), .t (.tup (N.map Sq.intsD)), .t (.tup M), .t (.int i), .t (.int j)] = some (.t (resD r), []) := by
  have e1 := hapsF_eq hT hp
  generalize (haps T).map prD = hs at *
  obtain ⟨S', hS, z⟩ := p_while (td := tabT T) (a3 := .int i) (a4 := .int j) hM 60 99940 [((i, j), [])] 0 (some (.m (.lst hs))) none none none none h (e0_ok hij) (.inl rfl) rfl rfl rfl rfl
  have z : wloop _ _ 100000 _ = _ := z
  simp only [PSt] at z
  have k1 : fdE [((i, j), [])] = [pD (i, j)] := rfl
  have k2 : kvE [((i, j), [])] = [(kQ (i, j), .tup [])] := rfl
  rw [k1, k2] at z
  have o := outs5 (a := tabT T) (b := .tup (N.map Sq.intsD)) (c := .tup M) (d := .int i) (e := .int j) hS
  have k3 : D.tup [.int i, .int j] = pD (i, j) := rfl
  simp only [partF, runB, g_parting]
  cases r with
  | none =>
    simp at z
    simp [e1, k3, sWhile, z, o, resD]
  | some l =>
    simp at z
    simp [e1, k3, sWhile, z, o, resD]
end
end Sp

end
section
set_option Elab.async false
set_option linter.all false
set_option maxRecDepth 100000
namespace Sp
open PySem PySem.Spec PyProof.Rows L2 Sw Sq
@[simp] theorem m_gZip3 (gA : GA) (S : SS) : gZip3 gA S = (gA S).bind fun p => match p.1 with
  | [d, e, f] => (seqD d).bind fun q => (seqD e).bind fun r => (seqD f).map fun t => (zip3D q.2 r.2 t.2, p.2)
  | _ => none := rfl
def firstD (diff : PP → Bool) : List Ent → Option (List D)
  | [] => none
  | (p, row) :: r => if diff p = true then some row else firstD diff r
def lev (sc : PP → List (D × PP)) : List Ent → List Ent → List Ent → List Ent × List Ent
  | [], E, lt => (E, lt)
  | (p, row) :: fr, E, lt => lev sc fr (E ++ vis tt row (sc p) E []) (lt ++ vis tt row (sc p) E [])
theorem bfs_hit {diff : PP → Bool} {sc : PP → List (D × PP)} {r : Option (List D)} {row : List D} : ∀ (fr : List Ent) (f : Nat) (E q : List Ent), firstD diff fr = some row → bfs tt diff sc f E (fr ++ q) = some r → r = some row
  | [], _, _, _, h, _ => by cases h
  | (p, rw0) :: fr, 0, _, _, _, h => by cases h
  | (p, rw0) :: fr, f + 1, E, q, h, hb => by
    have hb : bfs tt diff sc (f + 1) E ((p, rw0) :: (fr ++ q)) = some r := hb
    unfold bfs at hb
    unfold firstD at h
    by_cases c : diff p = true
    · rw [if_pos c] at h hb
      cases h
      cases hb
      rfl
    · rw [if_neg c] at h hb
      rw [List.append_assoc] at hb
      exact bfs_hit fr f _ _ h hb
theorem bfs_level {diff : PP → Bool} {sc : PP → List (D × PP)} {r : Option (List D)} : ∀ (fr : List Ent) (f : Nat) (E lt : List Ent), firstD diff fr = none → bfs tt diff sc f E (fr ++ lt) = some r → ∃ f2, f2 + fr.length = f ∧ bfs tt diff sc f2 (lev sc fr E lt).1 (lev sc fr E lt).2 = some r
  | [], f, E, lt, _, h => ⟨f, rfl, h⟩
  | (p, rw0) :: fr, 0, _, _, _, h => by cases h
  | (p, rw0) :: fr, f + 1, E, lt, h, hb => by
    have hb : bfs tt diff sc (f + 1) E ((p, rw0) :: (fr ++ lt)) = some r := hb
    unfold bfs at hb
    unfold firstD at h
    by_cases c : diff p = true
    · rw [if_pos c] at h; cases h
    · rw [if_neg c] at h hb
      rw [List.append_assoc] at hb
      obtain ⟨f2, e1, e2⟩ := bfs_level fr f _ _ h hb
      exact ⟨f2, by rw [List.length_cons]; omega, e2⟩
def w1__law_due (f_law_happenings : FM) : GS :=
  (sIf (qB (eF (eP fNe (aCons (eF (eP fRepr (aCons (eSub 2 (eSub 7 (eC (.int 0)))) aNil))) (aCons (eF (eP fRepr (aCons (eSub 2 (eSub 7 (eC (.int 1)))) aNil))) aNil))))) (sRet (eVar 8)) sNil)
def w2__law_due (f_law_happenings : FM) : GS :=
  (sIf (qB (eInS true 5 (eF (eP fTup (aCons (eF (eVar 11)) (aCons (eF (eVar 12)) aNil)))))) (sSeq (sExpr (eT (eM 5 hAppend (aCons (eF (eP fTup (aCons (eF (eVar 11)) (aCons (eF (eVar 12)) aNil)))) aNil))))
  (sExpr (eT (eM 9 hAppend (aCons (eF (eP fTup (aCons (eF (eP fTup (aCons (eF (eVar 11)) (aCons (eF (eVar 12)) aNil)))) (aCons (eF (eP fAdd (aCons (eF (eVar 8)) (aCons (eF (eP fTup (aCons (eF (eVar 10)) aNil))) aNil)))) aNil)))) aNil))))) sNil)
def w3__law_due (f_law_happenings : FM) : GS :=
  (sFor (bTup 3 (bCons (bName 10) (bCons (bName 11) (bCons (bName 12) bNil)))) (gZip3 (aCons (eF (eCall f_law_happenings (uVal (eF (eVar 0)) uNil))) (aCons (eSub 1 (eSub 7 (eC (.int 0)))) (aCons (eSub 1 (eSub 7 (eC (.int 1)))) aNil)))) (w2__law_due f_law_happenings))
def w4__law_due (f_law_happenings : FM) : GS :=
  (sSeq (sFor (bTup 2 (bCons (bName 7) (bCons (bName 8) bNil))) (iSeq (eF (eVar 6))) (w1__law_due f_law_happenings))
  (sSeq (sSet 9 (eP fLst aNil))
  (sSeq (sFor (bTup 2 (bCons (bName 7) (bCons (bName 8) bNil))) (iSeq (eF (eVar 6))) (w3__law_due f_law_happenings))
  (sSet 6 (eVar 9)))))
def g__law_due (f_law_happenings : FM) : GS :=
  (sSeq (sSet 5 (eP fLst (aCons (eF (eP fTup (aCons (eF (eVar 3)) (aCons (eF (eVar 4)) aNil)))) aNil)))
  (sSeq (sSet 6 (eP fLst (aCons (eF (eP fTup (aCons (eF (eP fTup (aCons (eF (eVar 3)) (aCons (eF (eVar 4)) aNil)))) (aCons (eF (eP fTup aNil)) aNil)))) aNil)))
  (sSeq (sWhile 100000 (qB (eF (eP fNe (aCons (eF (eVar 6)) (aCons (eF (eP fLst aNil)) aNil))))) (w4__law_due f_law_happenings))
  (sRet (eT (eC .non))))))

def dueP : FM := runB 13 (g__law_due lhapF)
theorem dueP_run : ∀ us r, dueP us = some r → runB 13 (g__law_due lhapF) us = some r := fun _ _ h => h
def entD (e : Ent) : D := .tup [pD e.1, .tup e.2]
structure WOk (M : List D) : Prop where
  ok : ∀ x ∈ M, okR x
  eq : ∀ x ∈ M, ∀ y ∈ M, ((toPy x).shown == (toPy y).shown) = eqD x y
theorem c_turn {a0 nd a3 a4 x5 x6 x7 x8 x9 x10 x11 x12 : Option U} {M row : List D} {p : PP} {n : Nat} (hl : M.length = n) (hp : InR n p) (hw : WOk M) (h7 : isB x7 = false) (h8 : isB x8 = false) :
    ∃ S1, bTup 2 (bCons (bName 7) (bCons (bName 8) bNil)) (entD (p, row)) [a0, nd, some (.t (.tup M)), a3, a4, x5, x6, x7, x8, x9, x10, x11, x12] = some S1 ∧
      w1__law_due lhapF S1 = some (if diffM M p = true then .rt (.t (.tup row)) [a0, nd, some (.t (.tup M)), a3, a4, x5, x6, some (.t (pD p)), some (.t (.tup row)), x9, x10, x11, x12] else .nx [a0, nd, some (.t (.tup M)), a3, a4, x5, x6, some (.t (pD p)), some (.t (.tup row)), x9, x10, x11, x12]) := by
  refine ⟨[a0, nd, some (.t (.tup M)), a3, a4, x5, x6, some (.t (pD p)), some (.t (.tup row)), x9, x10, x11, x12], by simp [entD, -m_setU, m_setU2, h7, h8], ?_⟩
  obtain ⟨p0, p1, p2, p3⟩ := hp
  obtain ⟨m1, m1'⟩ := m_at (M := M) p0 (by rw [hl]; exact p1)
  obtain ⟨m2, m2'⟩ := m_at (M := M) p2 (by rw [hl]; exact p3)
  have o1 := hw.ok _ m1'
  have o2 := hw.ok _ m2'
  have q := hw.eq _ m1' _ m2'
  have e8 := at_pD p
  unfold diffM
  generalize M.getD p.1.toNat .non = w1 at *
  generalize M.getD p.2.toNat .non = w2 at *
  cases c : eqD w1 w2 with
  | true => 
    rw [c] at q
    simp [w1__law_due, e8, m1, m2, o1, o2, q]
  | false => 
    rw [c] at q
    simp [w1__law_due, e8, m1, m2, o1, o2, q]
theorem c_loop {a0 nd a3 a4 x5 x6 x9 x10 x11 x12 : Option U} {M : List D} {n : Nat} (hl : M.length = n) (hw : WOk M) : ∀ (fr : List Ent) (x7 x8 : Option U), (∀ e ∈ fr, InR n e.1) → isB x7 = false → isB x8 = false →
    ∃ y7 y8, isB y7 = false ∧ isB y8 = false ∧ loop (bTup 2 (bCons (bName 7) (bCons (bName 8) bNil))) (w1__law_due lhapF) (fr.map entD) [a0, nd, some (.t (.tup M)), a3, a4, x5, x6, x7, x8, x9, x10, x11, x12] =
      some (match firstD (diffM M) fr with | none => .nx [a0, nd, some (.t (.tup M)), a3, a4, x5, x6, y7, y8, x9, x10, x11, x12] | some row => .rt (.t (.tup row)) [a0, nd, some (.t (.tup M)), a3, a4, x5, x6, y7, y8, x9, x10, x11, x12])
  | [], x7, x8, _, h7, h8 => ⟨x7, x8, h7, h8, rfl⟩
  | (p, row) :: fr, x7, x8, h, h7, h8 => by
    obtain ⟨S1, b1, b2⟩ := c_turn (a0 := a0) (nd := nd) (a3 := a3) (a4 := a4) (x5 := x5) (x6 := x6) (x9 := x9) (x10 := x10) (x11 := x11) (x12 := x12) (row := row) hl (h _ List.mem_cons_self) hw h7 h8
    rw [List.map_cons, loop_cons, b1, Option.bind_some, b2, Option.bind_some]
    unfold firstD
    by_cases c : diffM M p = true
    · rw [if_pos c, if_pos c]
      exact ⟨some (.t (pD p)), some (.t (.tup row)), rfl, rfl, rfl⟩
    · rw [if_neg c, if_neg c]
      exact c_loop hl hw fr _ _ (fun e he => h e (List.mem_cons_of_mem _ he)) rfl rfl
theorem in_fd : ∀ (E : List Ent) (p : PP), inD (pD p) (fdE E) = decide (p ∈ keysE E)
  | [], p => rfl
  | e :: E, p => by
    have ih := in_fd E p
    unfold inD at ih ⊢
    show (eqD (pD e.1) (pD p) || (fdE E).any fun y => eqD y (pD p)) = _
    rw [ih]
    have : eqD (pD e.1) (pD p) = decide (p = e.1) := by
      show (eqD (.int e.1.1) (.int p.1) && (eqD (.int e.1.2) (.int p.2) && true)) = _
      simp only [m_eqD_i, Bool.and_true]
      by_cases z : p = e.1
      · simp [z]
      · have : ¬ (e.1.1 = p.1 ∧ e.1.2 = p.2) := fun y => z (Prod.ext y.1.symm y.2.symm)
        simp only [decide_eq_false z]
        rw [Bool.eq_false_iff]
        intro y
        simp only [Bool.and_eq_true, beq_iff_eq] at y
        exact this y
    rw [this]
    have : keysE (e :: E) = e.1 :: keysE E := rfl
    rw [this]
    simp [List.mem_cons]
theorem fd_dep (E : List Ent) : depDs (fdE E) ≤ 40 := depDs_le fun d hd => by
  obtain ⟨e, _, rfl⟩ := List.mem_map.mp hd
  show max 0 (max 0 0) + 1 ≤ 40
  omega
def tri (x : D × PP) : D := .tup [x.1, .int x.2.1, .int x.2.2]
theorem zip3_sc : ∀ (hs : List D) (as bs : List Int), zip3D hs (as.map D.int) (bs.map D.int) = (sc3 hs as bs).map tri
  | [], as, bs => by unfold zip3D sc3; rfl
  | h :: hs, [], bs => by unfold zip3D sc3; rfl
  | h :: hs, a :: as, [] => by unfold zip3D sc3; rfl
  | h :: hs, a :: as, b :: bs => by
    have ih := zip3_sc hs as bs
    unfold zip3D at ih ⊢
    unfold sc3
    simp only [List.map_cons, List.zipWith_cons_cons]
    rw [ih]
    rfl
theorem e_turn {a0 nd md a3 a4 x6 x7 x10 x11 x12 : Option U} {row lt : List D} {h : D} {p : PP} {E : List Ent} (hr : row.length < 1000) (hE : E.length < 1000) (hlt : lt.length < 1000) (h10 : isB x10 = false) (h11 : isB x11 = false) (h12 : isB x12 = false) :
    ∃ S1, bTup 3 (bCons (bName 10) (bCons (bName 11) (bCons (bName 12) bNil))) (tri (h, p)) [a0, nd, md, a3, a4, some (.m (.lst (fdE E))), x6, x7, some (.t (.tup row)), some (.m (.lst lt)), x10, x11, x12] = some S1 ∧
      w2__law_due lhapF S1 = some (.nx (if p ∉ keysE E then [a0, nd, md, a3, a4, some (.m (.lst (fdE (E ++ [(p, row ++ [h])])))), x6, x7, some (.t (.tup row)), some (.m (.lst (lt ++ [entD (p, row ++ [h])]))), some (.t h), some (.t (.int p.1)), some (.t (.int p.2))]
        else [a0, nd, md, a3, a4, some (.m (.lst (fdE E))), x6, x7, some (.t (.tup row)), some (.m (.lst lt)), some (.t h), some (.t (.int p.1)), some (.t (.int p.2))])) := by
  refine ⟨[a0, nd, md, a3, a4, some (.m (.lst (fdE E))), x6, x7, some (.t (.tup row)), some (.m (.lst lt)), some (.t h), some (.t (.int p.1)), some (.t (.int p.2))], by simp [tri, -m_setU, m_setU2, h10, h11, h12], ?_⟩
  have e7 : D.tup [.int p.1, .int p.2] = pD p := rfl
  have e1 := in_fd E p
  have e2 := fd_dep E
  have e3 : row.length + 1 ≤ 100000 := by omega
  have e4 : (fdE E).length < 100000 := by rw [fd_len]; omega
  have e5 : lt.length < 100000 := by omega
  by_cases c : p ∉ keysE E
  · rw [if_pos c]
    have e6 : fdE (E ++ [(p, row ++ [h])]) = fdE E ++ [pD p] := by unfold fdE; rw [List.map_append]; rfl
    rw [decide_eq_false c] at e1
    rw [e6]
    simp [w2__law_due, e7, e1, e2, e3, e4, e5, listU, entD]
  · rw [if_neg c]
    rw [decide_eq_true (Classical.not_not.mp c)] at e1
    simp [w2__law_due, e7, e1, e2, listU]
theorem e_inner {a0 nd md a3 a4 x6 x7 : Option U} {hs row : List D} {n : Nat} (hrx : ∀ y ∈ row, y ∈ hs) (hn : n * n < 900) : ∀ (ps : List (D × PP)) (E acc lt : List Ent) (x10 x11 x12 : Option U), EOk hs n (E ++ acc) → row.length < E.length → (∀ x ∈ ps, x.1 ∈ hs ∧ InR n x.2) → lt.length ≤ E.length → isB x10 = false → isB x11 = false → isB x12 = false →
    ∃ y10 y11 y12, isB y10 = false ∧ isB y11 = false ∧ isB y12 = false ∧ loop (bTup 3 (bCons (bName 10) (bCons (bName 11) (bCons (bName 12) bNil)))) (w2__law_due lhapF) (ps.map tri) [a0, nd, md, a3, a4, some (.m (.lst (fdE (E ++ acc)))), x6, x7, some (.t (.tup row)), some (.m (.lst ((lt ++ acc).map entD))), x10, x11, x12] =
      some (.nx [a0, nd, md, a3, a4, some (.m (.lst (fdE (E ++ vis tt row ps E acc)))), x6, x7, some (.t (.tup row)), some (.m (.lst ((lt ++ vis tt row ps E acc).map entD))), y10, y11, y12])
  | [], E, acc, lt, x10, x11, x12, _, _, _, _, h10, h11, h12 => ⟨x10, x11, x12, h10, h11, h12, rfl⟩
  | (h, p) :: ps, E, acc, lt, x10, x11, x12, ho, hr, k, hlt, h10, h11, h12 => by
    have hel := ho.len
    have hel2 : E.length + acc.length ≤ n * n := by rw [List.length_append] at hel; exact hel
    have k' : ∀ x ∈ ps, x.1 ∈ hs ∧ InR n x.2 := fun x hx => k x (List.mem_cons_of_mem _ hx)
    obtain ⟨k1, k2⟩ := k (h, p) List.mem_cons_self
    obtain ⟨S1, b1, b2⟩ := e_turn (a0 := a0) (nd := nd) (md := md) (a3 := a3) (a4 := a4) (x6 := x6) (x7 := x7) (row := row) (lt := (lt ++ acc).map entD) (h := h) (p := p) (E := E ++ acc) (by omega) (by omega) (by rw [List.length_map, List.length_append]; omega) h10 h11 h12
    rw [List.map_cons, loop_cons, b1, Option.bind_some, b2, Option.bind_some]
    unfold vis
    by_cases c : p ∉ keysE (E ++ acc)
    · rw [if_pos c, if_pos ⟨rfl, c⟩]
      have ho2 := ho.snoc k2 c (by rw [List.length_append]; omega) hrx k1
      rw [List.append_assoc] at ho2 ⊢
      have em : (lt ++ acc).map entD ++ [entD (p, row ++ [h])] = (lt ++ (acc ++ [(p, row ++ [h])])).map entD := by simp
      rw [em]
      exact e_inner hrx hn ps E (acc ++ [(p, row ++ [h])]) lt _ _ _ ho2 hr k' hlt rfl rfl rfl
    · rw [if_neg c, if_neg (fun z => c z.2)]
      exact e_inner hrx hn ps E acc lt _ _ _ ho hr k' hlt rfl rfl rfl
theorem lev_ok {sc : PP → List (D × PP)} {hs : List D} {n : Nat} (hsc : ∀ p, InR n p → ∀ x ∈ sc p, x.1 ∈ hs ∧ InR n x.2) : ∀ (fr E lt : List Ent), EOk hs n E → (∀ e ∈ fr, e ∈ E) → (∀ e ∈ lt, e ∈ E) → EOk hs n (lev sc fr E lt).1 ∧ ∀ e ∈ (lev sc fr E lt).2, e ∈ (lev sc fr E lt).1
  | [], E, lt, ho, _, hlt => ⟨ho, hlt⟩
  | (p, row) :: fr, E, lt, ho, hf, hlt => by
    have hm := hf (p, row) List.mem_cons_self
    have ho2 : EOk hs n (E ++ vis tt row (sc p) E []) := vis_ok (ho.row _ hm).2 (sc p) E [] (by rw [List.append_nil]; exact ho) (ho.row _ hm).1 (hsc p (ho.inr _ hm))
    refine lev_ok hsc fr _ _ ho2 (fun e he => List.mem_append_left _ (hf e (List.mem_cons_of_mem _ he))) fun e he => ?_
    rcases List.mem_append.mp he with z | z
    · exact List.mem_append_left _ (hlt e z)
    · exact List.mem_append_right _ z
theorem x_loop {td : D} {a3 a4 x6 md : Option U} {hs : List D} {N : List (List Int)} (e4 : lhapF [.t td] = some (.m (.lst hs), [])) (few : N.length ≤ 7) (hN : ∀ r ∈ N, r.length = hs.length ∧ ∀ v ∈ r, 0 ≤ v ∧ v < N.length) : ∀ (fr E lt : List Ent) (x7 x8 x10 x11 x12 : Option U), EOk hs N.length E → (∀ e ∈ fr, e ∈ E) → lt.length ≤ E.length → isB x7 = false → isB x8 = false → isB x10 = false → isB x11 = false → isB x12 = false →
    ∃ y7 y8 y10 y11 y12, isB y7 = false ∧ isB y8 = false ∧ isB y10 = false ∧ isB y11 = false ∧ isB y12 = false ∧ loop (bTup 2 (bCons (bName 7) (bCons (bName 8) bNil))) (w3__law_due lhapF) (fr.map entD) [some (.t td), some (.t (.tup (N.map Sq.intsD))), md, a3, a4, some (.m (.lst (fdE E))), x6, x7, x8, some (.m (.lst (lt.map entD))), x10, x11, x12] =
      some (.nx [some (.t td), some (.t (.tup (N.map Sq.intsD))), md, a3, a4, some (.m (.lst (fdE (lev (scN hs N) fr E lt).1))), x6, y7, y8, some (.m (.lst ((lev (scN hs N) fr E lt).2.map entD))), y10, y11, y12])
  | [], E, lt, x7, x8, x10, x11, x12, _, _, _, h7, h8, h10, h11, h12 => ⟨x7, x8, x10, x11, x12, h7, h8, h10, h11, h12, rfl⟩
  | (p, row) :: fr, E, lt, x7, x8, x10, x11, x12, ho, hf, hlt, h7, h8, h10, h11, h12 => by
    have hm := hf (p, row) List.mem_cons_self
    have few2 : N.length * N.length < 900 := Nat.lt_of_le_of_lt (Nat.mul_le_mul few few) (by decide)
    have hin := scN_in hN p (ho.inr _ hm)
    have ho2 : EOk hs N.length (E ++ vis tt row (scN hs N p) E []) := vis_ok (ho.row _ hm).2 (scN hs N p) E [] (by rw [List.append_nil]; exact ho) (ho.row _ hm).1 hin
    obtain ⟨p0, p1, p2, p3⟩ := ho.inr _ hm
    obtain ⟨n1, n1'⟩ := n_at (N := N) p0 p1
    obtain ⟨n2, n2'⟩ := n_at (N := N) p2 p3
    obtain ⟨y10, y11, y12, q10, q11, q12, lp⟩ := e_inner (a0 := some (.t td)) (nd := some (.t (.tup (N.map Sq.intsD)))) (md := md) (a3 := a3) (a4 := a4) (x6 := x6) (x7 := some (.t (pD p))) (ho.row _ hm).2 few2 (scN hs N p) E [] lt x10 x11 x12 (by rw [List.append_nil]; exact ho) (ho.row _ hm).1 hin hlt h10 h11 h12
    rw [List.append_nil, List.append_nil] at lp
    have eb : bTup 2 (bCons (bName 7) (bCons (bName 8) bNil)) (entD (p, row)) [some (.t td), some (.t (.tup (N.map Sq.intsD))), md, a3, a4, some (.m (.lst (fdE E))), x6, x7, x8, some (.m (.lst (lt.map entD))), x10, x11, x12] = some [some (.t td), some (.t (.tup (N.map Sq.intsD))), md, a3, a4, some (.m (.lst (fdE E))), x6, some (.t (pD p)), some (.t (.tup row)), some (.m (.lst (lt.map entD))), x10, x11, x12] := by simp [entD, -m_setU, m_setU2, h7, h8]
    have e8 := at_pD p
    have z3 := zip3_sc hs (N.getD p.1.toNat []) (N.getD p.2.toNat [])
    have ew : w3__law_due lhapF [some (.t td), some (.t (.tup (N.map Sq.intsD))), md, a3, a4, some (.m (.lst (fdE E))), x6, some (.t (pD p)), some (.t (.tup row)), some (.m (.lst (lt.map entD))), x10, x11, x12] = some (.nx [some (.t td), some (.t (.tup (N.map Sq.intsD))), md, a3, a4, some (.m (.lst (fdE (E ++ vis tt row (scN hs N p) E [])))), x6, some (.t (pD p)), some (.t (.tup row)), some (.m (.lst ((lt ++ vis tt row (scN hs N p) E []).map entD))), y10, y11, y12]) := by
      unfold scN at lp ⊢
      simp only at n1 n2
      generalize N.getD p.1.toNat [] = ra at *
      generalize N.getD p.2.toNat [] = rb at *
      have s1 : seqD (Sq.intsD ra) = some (false, ra.map D.int) := rfl
      have s2 : seqD (Sq.intsD rb) = some (false, rb.map D.int) := rfl
      generalize fdE (E ++ vis tt row (sc3 hs ra rb) E []) = L1 at *
      generalize (lt ++ vis tt row (sc3 hs ra rb) E []).map entD = L2 at *
      simp [w3__law_due, e4, e8, n1, n2, s1, s2, z3, lp]
    rw [List.map_cons, loop_cons, eb, Option.bind_some, ew, Option.bind_some]
    exact x_loop e4 few hN fr (E ++ vis tt row (scN hs N p) E []) (lt ++ vis tt row (scN hs N p) E []) _ _ _ _ _ ho2 (fun e he => List.mem_append_left _ (hf e (List.mem_cons_of_mem _ he))) (by rw [List.length_append, List.length_append]; omega) rfl rfl q10 q11 q12
end Sp

end
section
set_option Elab.async false
set_option linter.all false
set_option maxRecDepth 100000
namespace Sp
open PySem PySem.Spec PyProof.Rows L2 Sw Sq
theorem ent_dep (fr : List Ent) (hs : List D) (hh : ∀ x ∈ hs, depD x ≤ 1) (h : ∀ e ∈ fr, ∀ x ∈ e.2, x ∈ hs) : depD (.lst (fr.map entD)) ≤ 40 := by
  have : depDs (fr.map entD) ≤ 5 := depDs_le fun d hd => by
    obtain ⟨e, he, rfl⟩ := List.mem_map.mp hd
    have h1 : depDs e.2 ≤ 1 := depDs_le fun x hx => hh x (h e he x hx)
    show max (depD (pD e.1)) (max (depDs e.2 + 1) 0) + 1 ≤ 5
    have h2 : depD (pD e.1) = 1 := rfl
    omega
  show depDs (fr.map entD) + 1 ≤ 40
  omega
theorem eq_nil (fr : List Ent) : eqD (.lst (fr.map entD)) (.lst []) = fr.isEmpty := by
  cases fr with
  | nil => rfl
  | cons a r => rfl
theorem d_while {td : D} {a3 a4 : Option U} {hs M : List D} {N : List (List Int)} {r : Option (List D)} (e4 : lhapF [.t td] = some (.m (.lst hs), [])) (hM : MOk hs N M) (hw : WOk M) (hh : ∀ x ∈ hs, depD x ≤ 1) : ∀ (f e : Nat) (E fr : List Ent) (x6 x7 x8 x9 x10 x11 x12 : Option U), bfs tt (diffM M) (scN hs N) f E fr = some r → EOk hs N.length E → (∀ e ∈ fr, e ∈ E) → (x6 = some (.m (.lst (fr.map entD))) ∨ x6 = some (.t (.lst (fr.map entD)))) → isB x7 = false → isB x8 = false → isB x9 = false → isB x10 = false → isB x11 = false → isB x12 = false →
    ∃ S', S'.length = 13 ∧ wloop (qB (eF (eP fNe (aCons (eF (eVar 6)) (aCons (eF (eP fLst aNil)) aNil))))) (w4__law_due lhapF) (f + e) [some (.t td), some (.t (.tup (N.map Sq.intsD))), some (.t (.tup M)), a3, a4, some (.m (.lst (fdE E))), x6, x7, x8, x9, x10, x11, x12] = some (match r with | none => .nx S' | some row => .rt (.t (.tup row)) S') := by
  intro f
  induction f using Nat.strongRecOn with
  | ind f ih =>
    intro e E fr x6 x7 x8 x9 x10 x11 x12 hb ho hf h6 h7 h8 h9 h10 h11 h12
    cases f with
    | zero => cases hb
    | succ f =>
      have ef : f + 1 + e = (f + e) + 1 := by omega
      rw [ef]
      have dep := ent_dep fr hs hh fun e he => (ho.row e (hf e he)).2
      have et : qB (eF (eP fNe (aCons (eF (eVar 6)) (aCons (eF (eP fLst aNil)) aNil)))) [some (.t td), some (.t (.tup (N.map Sq.intsD))), some (.t (.tup M)), a3, a4, some (.m (.lst (fdE E))), x6, x7, x8, x9, x10, x11, x12] = some (!fr.isEmpty, [some (.t td), some (.t (.tup (N.map Sq.intsD))), some (.t (.tup M)), a3, a4, some (.m (.lst (fdE E))), some (.t (.lst (fr.map entD))), x7, x8, x9, x10, x11, x12]) := by
        rcases h6 with rfl | rfl <;> simp [dep, eq_nil]
      simp only [wloop, et, Option.bind_some]
      cases fr with
      | nil =>
        cases hb
        exact ⟨_, rfl, rfl⟩
      | cons e0 q =>
        generalize hfr : e0 :: q = fr at *
        have hne : fr.isEmpty = false := by rw [← hfr]; rfl
        have hlen : 0 < fr.length := by rw [← hfr]; exact Nat.succ_pos _
        rw [hne]
        show ∃ S', _ ∧ (if (!false) = true then _ else _) = _
        rw [if_pos (show (!false) = true from rfl)]
        obtain ⟨y7, y8, q7, q8, lc⟩ := c_loop (a0 := some (.t td)) (nd := some (.t (.tup (N.map Sq.intsD)))) (a3 := a3) (a4 := a4) (x5 := some (.m (.lst (fdE E)))) (x6 := some (.t (.lst (fr.map entD)))) (x9 := x9) (x10 := x10) (x11 := x11) (x12 := x12) hM.len hw fr x7 x8 (fun e he => ho.inr e (hf e he)) h7 h8
        have is6 : ∀ (b7 b8 b9 b10 b11 b12 b5 : Option U), iSeq (eF (eVar 6)) [some (.t td), some (.t (.tup (N.map Sq.intsD))), some (.t (.tup M)), a3, a4, b5, some (.t (.lst (fr.map entD))), b7, b8, b9, b10, b11, b12] = some (fr.map entD, [some (.t td), some (.t (.tup (N.map Sq.intsD))), some (.t (.tup M)), a3, a4, b5, some (.t (.lst (fr.map entD))), b7, b8, b9, b10, b11, b12]) := fun _ _ _ _ _ _ _ => rfl
        cases hfd : firstD (diffM M) fr with
        | some row =>
          rw [hfd] at lc
          have hr := bfs_hit fr (f + 1) E [] hfd (by rw [List.append_nil]; exact hb)
          subst hr
          refine ⟨[some (.t td), some (.t (.tup (N.map Sq.intsD))), some (.t (.tup M)), a3, a4, some (.m (.lst (fdE E))), some (.t (.lst (fr.map entD))), y7, y8, x9, x10, x11, x12], rfl, ?_⟩
          · unfold w4__law_due
            rw [m_sSeq, m_sFor, is6, Option.bind_some]
            simp only
            rw [lc]
            rfl
        | none =>
          rw [hfd] at lc
          obtain ⟨f2, g1, g2⟩ := bfs_level fr (f + 1) E [] hfd (by rw [List.append_nil]; exact hb)
          obtain ⟨l1, l2⟩ := lev_ok (sc := scN hs N) (fun p hp => scN_in hM.row p hp) fr E [] ho hf (by simp)
          obtain ⟨z7, z8, z10, z11, z12, p7, p8, p10, p11, p12, lx⟩ := x_loop (md := some (.t (.tup M))) (a3 := a3) (a4 := a4) (x6 := some (.t (.lst (fr.map entD)))) e4 hM.few hM.row fr E [] y7 y8 x10 x11 x12 ho hf (Nat.zero_le _) q7 q8 h10 h11 h12
          generalize lev (scN hs N) fr E [] = L at *
          obtain ⟨S', hS, z⟩ := ih f2 (by omega) (f + e - f2) L.1 L.2 (some (.t (.lst (L.2.map entD)))) z7 z8 (some (.t (.lst (L.2.map entD)))) z10 z11 z12 g2 l1 l2 (.inr rfl) p7 p8 rfl p10 p11 p12
          have eq : f2 + (f + e - f2) = f + e := by omega
          rw [eq] at z
          refine ⟨S', hS, ?_⟩
          rw [← z]
          have e1 : w4__law_due lhapF [some (.t td), some (.t (.tup (N.map Sq.intsD))), some (.t (.tup M)), a3, a4, some (.m (.lst (fdE E))), some (.t (.lst (fr.map entD))), x7, x8, x9, x10, x11, x12] = some (.nx [some (.t td), some (.t (.tup (N.map Sq.intsD))), some (.t (.tup M)), a3, a4, some (.m (.lst (fdE L.1))), some (.t (.lst (L.2.map entD))), z7, z8, some (.t (.lst (L.2.map entD))), z10, z11, z12]) := by
            unfold w4__law_due
            rw [m_sSeq, m_sFor, is6, Option.bind_some]
            simp only
            rw [lc, Option.bind_some]
            simp only
            rw [m_sSeq]
            have s9 : sSet 9 (eP fLst aNil) [some (.t td), some (.t (.tup (N.map Sq.intsD))), some (.t (.tup M)), a3, a4, some (.m (.lst (fdE E))), some (.t (.lst (fr.map entD))), y7, y8, x9, x10, x11, x12] = some (.nx [some (.t td), some (.t (.tup (N.map Sq.intsD))), some (.t (.tup M)), a3, a4, some (.m (.lst (fdE E))), some (.t (.lst (fr.map entD))), y7, y8, some (.m (.lst [])), x10, x11, x12]) := by simp [-m_setU, m_setU2, h9]
            rw [s9, Option.bind_some]
            simp only
            rw [m_sSeq, m_sFor, is6, Option.bind_some]
            simp only
            rw [List.map_nil] at lx
            rw [lx, Option.bind_some]
            simp only
            simp
          rw [e1, Option.bind_some]
theorem dueP_ok {T : List (Str × Int)} {N : List (List Int)} {M : List D} {i j : Int} {r : Option (List D)} (hT : T.length ≤ 4) (hp : ∀ p ∈ T, PairOk p) (hM : MOk ((haps T).map prD) N M) (hw : WOk M) (hij : InR N.length (i, j)) (h : bfs tt (diffM M) (scN ((haps T).map prD) N) 60 [((i, j), [])] [((i, j), [])] = some r) :
    dueP [.t (tabT T), .t (.tup (N.map Sq.intsD)), .t (.tup M), .t (.int i), .t (.int j)] = some (.t (resD r), []) := by
  have e1 := lhap_ok hT hp
  have hh : ∀ x ∈ (haps T).map prD, depD x ≤ 1 := fun x hx => by
    obtain ⟨p, _, rfl⟩ := List.mem_map.mp hx
    show max 0 (max 0 0) + 1 ≤ 1
    omega
  generalize (haps T).map prD = hs at *
  obtain ⟨S', hS, z⟩ := d_while (a3 := some (.t (.int i))) (a4 := some (.t (.int j))) e1 hM hw hh 60 99940 [((i, j), [])] [((i, j), [])] (some (.m (.lst ([((i, j), [])].map entD)))) none none none none none none h (e0_ok hij) (fun e he => he) (.inl rfl) rfl rfl rfl rfl rfl rfl
  have z : wloop _ _ 100000 _ = _ := z
  have k1 : fdE [((i, j), [])] = [pD (i, j)] := rfl
  have k2 : ([((i, j), [])] : List Ent).map entD = [.tup [pD (i, j), .tup []]] := rfl
  rw [k1, k2] at z
  have o := outs5 (a := tabT T) (b := .tup (N.map Sq.intsD)) (c := .tup M) (d := .int i) (e := .int j) hS
  have k3 : D.tup [.int i, .int j] = pD (i, j) := rfl
  simp only [dueP, runB, g__law_due]
  cases r with
  | none =>
    simp at z
    simp [k3, sWhile, z, o, resD]
  | some l =>
    simp at z
    simp [k3, sWhile, z, o, resD]
def w1_law (f_law_table : FM) (f_law_feed : FM) (f_law_machine : FM) (fparting : FM) (f_law_due : FM) : GS :=
  (sSeq (sSet 9 (eCall fparting (uVal (eF (eVar 1)) (uVal (eF (eVar 4)) (uVal (eF (eVar 5)) (uVal (eF (eVar 7)) (uVal (eF (eVar 8)) uNil)))))))
  (sIf (qB (eF (eP fNe (aCons (eF (eP fRepr (aCons (eF (eVar 9)) aNil))) (aCons (eF (eP fRepr (aCons (eF (eCall f_law_due (uVal (eF (eVar 1)) (uVal (eF (eVar 4)) (uVal (eF (eVar 5)) (uVal (eF (eVar 7)) (uVal (eF (eVar 8)) uNil))))))) aNil))) aNil))))) (sRet (eT (eC (.bl false)))) sNil))
def w2_law (f_law_table : FM) (f_law_feed : FM) (f_law_machine : FM) (fparting : FM) (f_law_due : FM) : GS :=
  (sFor (bName 8) (gRng1 (aCons (eLen 4) aNil)) (w1_law f_law_table f_law_feed f_law_machine fparting f_law_due))
def w3_law (f_law_table : FM) (f_law_feed : FM) (f_law_machine : FM) (fparting : FM) (f_law_due : FM) : GS :=
  (sSeq (sAsg (bTup 2 (bCons (bName 4) (bCons (bName 5) bNil))) (eF (eCall f_law_machine (uMut (eCall f_law_feed (uMut (eVar 0) (uVal (eF (eP fAdd (aCons (eC (.int 1)) (aCons (eF (eVar 3)) aNil)))) uNil))) (uVal (eF (eVar 1)) (uVal (eSub 2 (eF (eVar 3))) uNil))))))
  (sSeq (sSet 6 (eP fRepr (aCons (eF (eP fLst (aCons (eF (eVar 4)) (aCons (eF (eVar 5)) aNil)))) aNil)))
  (sSeq (sFor (bName 7) (gRng1 (aCons (eLen 4) aNil)) (w2_law f_law_table f_law_feed f_law_machine fparting f_law_due))
  (sIf (qB (eF (eP fNe (aCons (eF (eP fRepr (aCons (eF (eP fLst (aCons (eF (eVar 4)) (aCons (eF (eVar 5)) aNil)))) aNil))) (aCons (eF (eVar 6)) aNil))))) (sRet (eT (eC (.bl false)))) sNil))))
def g_law (f_law_table : FM) (f_law_feed : FM) (f_law_machine : FM) (fparting : FM) (f_law_due : FM) : GS :=
  (sSeq (sSet 1 (eCall f_law_table (uMut (eCall f_law_feed (uMut (eVar 0) (uVal (eC (.int 0)) uNil))) uNil)))
  (sSeq (sSet 2 (eP fLst (aCons (eF (eP fLst (aCons (eC (.bl true)) (aCons (eC (.bl false)) aNil)))) (aCons (eF (eP fLst (aCons (eC (.str "yes")) (aCons (eC (.str "no")) (aCons (eC (.str "open")) aNil))))) (aCons (eF (eP fLst (aCons (eC (.str "True")) (aCons (eC (.bl true)) (aCons (eC (.str "")) (aCons (eC (.str "yes")) aNil)))))) aNil)))))
  (sSeq (sFor (bName 3) (gRng1 (aCons (eC (.int 3)) aNil)) (w3_law f_law_table f_law_feed f_law_machine fparting f_law_due))
  (sRet (eT (eC (.bl true)))))))

section
variable {f1 f2 f3 f4 f5 : FM} {s0 x1 x2 x3 x6 x7 x8 x9 : Option U}
theorem l1_turn {td nd md a b rd : D} (h9 : isB x9 = false) (e1 : f4 [.t td, .t nd, .t md, .t a, .t b] = some (.t rd, [])) (e2 : f5 [.t td, .t nd, .t md, .t a, .t b] = some (.t rd, [])) (o : okR rd) :
    w1_law f1 f2 f3 f4 f5 [s0, some (.t td), x2, x3, some (.t nd), some (.t md), x6, some (.t a), some (.t b), x9] = some (.nx [s0, some (.t td), x2, x3, some (.t nd), some (.t md), x6, some (.t a), some (.t b), some (.t rd)]) := by
  simp [w1_law, -m_setU, m_setU2, h9, e1, e2, o]
theorem set8 {a0 a1 a2 a3 a4 a5 a6 a7 a9 : Option U} (d : D) (h : isB x8 = false) : bName 8 d [a0, a1, a2, a3, a4, a5, a6, a7, x8, a9] = some [a0, a1, a2, a3, a4, a5, a6, a7, some (.t d), a9] := by simp [-m_setU, m_setU2, h]
theorem set7 {a0 a1 a2 a3 a4 a5 a6 a8 a9 : Option U} (d : D) (h : isB x7 = false) : bName 7 d [a0, a1, a2, a3, a4, a5, a6, x7, a8, a9] = some [a0, a1, a2, a3, a4, a5, a6, some (.t d), a8, a9] := by simp [-m_setU, m_setU2, h]
theorem set3 {a0 a1 a2 a4 a5 a6 a7 a8 a9 : Option U} (d : D) (h : isB x3 = false) : bName 3 d [a0, a1, a2, x3, a4, a5, a6, a7, a8, a9] = some [a0, a1, a2, some (.t d), a4, a5, a6, a7, a8, a9] := by simp [-m_setU, m_setU2, h]
theorem rng4 {a0 a1 a2 a3 a5 a6 a7 a8 a9 : Option U} (ds : List D) (n : Nat) (hl : ds.length = n) (hn : n < 1000) : gRng1 (aCons (eLen 4) aNil) [a0, a1, a2, a3, some (.t (.tup ds)), a5, a6, a7, a8, a9] = some (rng 0 n, [a0, a1, a2, a3, some (.t (.tup ds)), a5, a6, a7, a8, a9]) := by
  have : ((ds.length : Nat) : Int).toNat = n := by omega
  rw [← this]
  exact gRng1_int (by simp) (by omega) (by omega)
theorem l2_turn {td md a : D} {nd : List D} {n : Nat} (hl : nd.length = n) (hn : n < 1000) (res : Nat → D) (e1 : ∀ b : Nat, b < n → f4 [.t td, .t (.tup nd), .t md, .t a, .t (.int (b : Int))] = some (.t (res b), [])) (e2 : ∀ b : Nat, b < n → f5 [.t td, .t (.tup nd), .t md, .t a, .t (.int (b : Int))] = some (.t (res b), [])) (o : ∀ b, b < n → okR (res b)) (h8 : isB x8 = false) (h9 : isB x9 = false) :
    ∃ y8 y9, isB y8 = false ∧ isB y9 = false ∧ w2_law f1 f2 f3 f4 f5 [s0, some (.t td), x2, x3, some (.t (.tup nd)), some (.t md), x6, some (.t a), x8, x9] = some (.nx [s0, some (.t td), x2, x3, some (.t (.tup nd)), some (.t md), x6, some (.t a), y8, y9]) := by
  obtain ⟨S', e, y8, y9, q8, q9, rfl⟩ := loop_idx (bd := bName 8) (body := w1_law f1 f2 f3 f4 f5) (rng 0 n)
    (fun j S => ∃ y8 y9, isB y8 = false ∧ isB y9 = false ∧ S = [s0, some (.t td), x2, x3, some (.t (.tup nd)), some (.t md), x6, some (.t a), y8, y9]) [s0, some (.t td), x2, x3, some (.t (.tup nd)), some (.t md), x6, some (.t a), x8, x9] ⟨x8, x9, h8, h9, rfl⟩ (by
    rintro j d S hd ⟨y8, y9, q8, q9, rfl⟩
    obtain ⟨hj, rfl⟩ := rng_get hd
    exact ⟨_, _, set8 _ q8, l1_turn q9 (e1 j hj) (e2 j hj) (o j hj), _, _, rfl, rfl, rfl⟩)
  refine ⟨y8, y9, q8, q9, ?_⟩
  unfold w2_law
  rw [m_sFor, rng4 nd n hl hn, Option.bind_some]
  exact e
theorem l3_turn {td md kk : D} {nd : List D} {n : Nat} (hl : nd.length = n) (hn : n < 1000) (res : Nat → Nat → D) (e1 : ∀ a b : Nat, a < n → b < n → f4 [.t td, .t (.tup nd), .t md, .t (.int (a : Int)), .t (.int (b : Int))] = some (.t (res a b), [])) (e2 : ∀ a b : Nat, a < n → b < n → f5 [.t td, .t (.tup nd), .t md, .t (.int (a : Int)), .t (.int (b : Int))] = some (.t (res a b), [])) (o : ∀ a b, a < n → b < n → okR (res a b)) (h7 : isB x7 = false) (h8 : isB x8 = false) (h9 : isB x9 = false) :
    ∃ y7 y8 y9, isB y7 = false ∧ isB y8 = false ∧ isB y9 = false ∧ sFor (bName 7) (gRng1 (aCons (eLen 4) aNil)) (w2_law f1 f2 f3 f4 f5) [s0, some (.t td), x2, x3, some (.t (.tup nd)), some (.t md), x6, x7, x8, x9] = some (.nx [s0, some (.t td), x2, x3, some (.t (.tup nd)), some (.t md), x6, y7, y8, y9]) := by
  obtain ⟨S', e, y7, y8, y9, q7, q8, q9, rfl⟩ := loop_idx (bd := bName 7) (body := w2_law f1 f2 f3 f4 f5) (rng 0 n)
    (fun j S => ∃ y7 y8 y9, isB y7 = false ∧ isB y8 = false ∧ isB y9 = false ∧ S = [s0, some (.t td), x2, x3, some (.t (.tup nd)), some (.t md), x6, y7, y8, y9]) [s0, some (.t td), x2, x3, some (.t (.tup nd)), some (.t md), x6, x7, x8, x9] ⟨x7, x8, x9, h7, h8, h9, rfl⟩ (by
    rintro j d S hd ⟨y7, y8, y9, q7, q8, q9, rfl⟩
    obtain ⟨hj, rfl⟩ := rng_get hd
    obtain ⟨z8, z9, p8, p9, e⟩ := l2_turn (f1 := f1) (f2 := f2) (f3 := f3) (s0 := s0) (x2 := x2) (x3 := x3) (x6 := x6) hl hn (res j) (fun b hb => e1 j b hj hb) (fun b hb => e2 j b hj hb) (fun b hb => o j b hj hb) q8 q9
    exact ⟨_, _, set7 _ q7, e, _, _, _, rfl, p8, p9, rfl⟩)
  refine ⟨y7, y8, y9, q7, q8, q9, ?_⟩
  rw [m_sFor, rng4 nd n hl hn, Option.bind_some]
  exact e
theorem l4_turn {ns : List Int} {kk : Int} {td : D} {menus : List D} {menu : D} {nd : List D} {md : D} {c l i' l' : Int} {x4 x5 : Option U} {y7 y8 y9 : Option U} (h4 : isB x4 = false) (h5 : isB x5 = false) (h6 : isB x6 = false)
    (e1 : f2 [.s ns, .t (.int (1 + kk))] = some (.m (fd c 0 l), [])) (e0 : atI menus kk = some menu) (e2 : f3 [.b (fd c 0 l), .t td, .t menu] = some (.t (.tup [.tup nd, md]), [fd c i' l'])) (o : okR (.lst [.tup nd, md]))
    (lp : sFor (bName 7) (gRng1 (aCons (eLen 4) aNil)) (w2_law f1 f2 f3 f4 f5) [some (.s ns), some (.t td), some (.m (.lst menus)), some (.t (.int kk)), some (.t (.tup nd)), some (.t md), some (.t (.str (toPy (.lst [.tup nd, md])).shown)), x7, x8, x9] = some (.nx [some (.s ns), some (.t td), some (.m (.lst menus)), some (.t (.int kk)), some (.t (.tup nd)), some (.t md), some (.t (.str (toPy (.lst [.tup nd, md])).shown)), y7, y8, y9])) :
    w3_law f1 f2 f3 f4 f5 [some (.s ns), some (.t td), some (.m (.lst menus)), some (.t (.int kk)), x4, x5, x6, x7, x8, x9] = some (.nx [some (.s ns), some (.t td), some (.m (.lst menus)), some (.t (.int kk)), some (.t (.tup nd)), some (.t md), some (.t (.str (toPy (.lst [.tup nd, md])).shown)), y7, y8, y9]) := by
  unfold w3_law
  have s1 : sAsg (bTup 2 (bCons (bName 4) (bCons (bName 5) bNil))) (eF (eCall f3 (uMut (eCall f2 (uMut (eVar 0) (uVal (eF (eP fAdd (aCons (eC (.int 1)) (aCons (eF (eVar 3)) aNil)))) uNil))) (uVal (eF (eVar 1)) (uVal (eSub 2 (eF (eVar 3))) uNil))))) [some (.s ns), some (.t td), some (.m (.lst menus)), some (.t (.int kk)), x4, x5, x6, x7, x8, x9] = some (.nx [some (.s ns), some (.t td), some (.m (.lst menus)), some (.t (.int kk)), some (.t (.tup nd)), some (.t md), x6, x7, x8, x9]) := by
    simp [-m_setU, m_setU2, h4, h5, e1, e0, e2]
  have s2 : sSet 6 (eP fRepr (aCons (eF (eP fLst (aCons (eF (eVar 4)) (aCons (eF (eVar 5)) aNil)))) aNil)) [some (.s ns), some (.t td), some (.m (.lst menus)), some (.t (.int kk)), some (.t (.tup nd)), some (.t md), x6, x7, x8, x9] = some (.nx [some (.s ns), some (.t td), some (.m (.lst menus)), some (.t (.int kk)), some (.t (.tup nd)), some (.t md), some (.t (.str (toPy (.lst [.tup nd, md])).shown)), x7, x8, x9]) := by
    simp [-m_setU, m_setU2, h6, o]
  have s3 : sIf (qB (eF (eP fNe (aCons (eF (eP fRepr (aCons (eF (eP fLst (aCons (eF (eVar 4)) (aCons (eF (eVar 5)) aNil)))) aNil))) (aCons (eF (eVar 6)) aNil))))) (sRet (eT (eC (.bl false)))) sNil [some (.s ns), some (.t td), some (.m (.lst menus)), some (.t (.int kk)), some (.t (.tup nd)), some (.t md), some (.t (.str (toPy (.lst [.tup nd, md])).shown)), y7, y8, y9] = some (.nx [some (.s ns), some (.t td), some (.m (.lst menus)), some (.t (.int kk)), some (.t (.tup nd)), some (.t md), some (.t (.str (toPy (.lst [.tup nd, md])).shown)), y7, y8, y9]) := by
    simp [o]
  rw [m_sSeq, s1, Option.bind_some]
  simp only
  rw [m_sSeq, s2, Option.bind_some]
  simp only
  rw [m_sSeq, lp, Option.bind_some]
  simp only
  exact s3
end
noncomputable abbrev F40 (g : FM → FM → FM → FM → FM → GS) : GS := g tabQ feedF machF partF dueP
def menusD : List D := [.lst [.bl true, .bl false], .lst [.str "yes", .str "no", .str "open"], .lst [.str "True", .bl true, .str "", .str "yes"]]
def menuL : Nat → List D
  | 0 => [.bl true, .bl false]
  | 1 => [.str "yes", .str "no", .str "open"]
  | _ => [.str "True", .bl true, .str "", .str "yes"]
theorem menu_at {k : Nat} (hk : k < 3) : atI menusD (k : Int) = some (.lst (menuL k)) ∧ 0 < (menuL k).length ∧ (menuL k).length < 1000 := by
  have : k = 0 ∨ k = 1 ∨ k = 2 := by omega
  rcases this with rfl | rfl | rfl <;> exact ⟨rfl, by decide, by decide⟩
theorem menu_ok {k : Nat} (hk : k < 3) : (∀ x ∈ menuL k, Good 60 0 x) ∧ ∀ x ∈ menuL k, ∀ y ∈ menuL k, ((toPy x).shown == (toPy y).shown) = eqD x y := by
  have : k = 0 ∨ k = 1 ∨ k = 2 := by omega
  rcases this with rfl | rfl | rfl
  · refine ⟨fun x hx => ?_, fun x hx y hy => ?_⟩
    · simp only [menuL, List.mem_cons, List.not_mem_nil, or_false] at hx
      rcases hx with rfl | rfl <;> exact ⟨True.intro, by decide, by decide⟩
    · simp only [menuL, List.mem_cons, List.not_mem_nil, or_false] at hx hy
      rcases hx with rfl | rfl <;> rcases hy with rfl | rfl <;> decide +kernel
  · refine ⟨fun x hx => ?_, fun x hx y hy => ?_⟩
    · simp only [menuL, List.mem_cons, List.not_mem_nil, or_false] at hx
      rcases hx with rfl | rfl | rfl <;> exact ⟨(by show ∀ c ∈ _, _; decide), by decide, by decide⟩
    · simp only [menuL, List.mem_cons, List.not_mem_nil, or_false] at hx hy
      rcases hx with rfl | rfl | rfl <;> rcases hy with rfl | rfl | rfl <;> decide +kernel
  · refine ⟨fun x hx => ?_, fun x hx y hy => ?_⟩
    · simp only [menuL, List.mem_cons, List.not_mem_nil, or_false] at hx
      rcases hx with rfl | rfl | rfl | rfl
      · exact ⟨(by show ∀ c ∈ _, _; decide), by decide, by decide⟩
      · exact ⟨True.intro, by decide, by decide⟩
      · exact ⟨(by show ∀ c ∈ _, _; decide), by decide, by decide⟩
      · exact ⟨(by show ∀ c ∈ _, _; decide), by decide, by decide⟩
    · simp only [menuL, List.mem_cons, List.not_mem_nil, or_false] at hx hy
      rcases hx with rfl | rfl | rfl | rfl <;> rcases hy with rfl | rfl | rfl | rfl <;> decide +kernel
end Sp

end
section
set_option Elab.async false
set_option linter.all false
set_option maxRecDepth 100000
namespace Sp
open PySem PySem.Spec PyProof.Rows L2 Sw Sq
noncomputable section
def bf (T : List (Str × Int)) (N : List (List Int)) (M : List D) (p : PP) : Option (Option (List D)) := bfs tt (diffM M) (scN ((haps T).map prD) N) 60 [(p, [])] [(p, [])]
theorem bf_some {T : List (Str × Int)} {N : List (List Int)} {M : List D} {p : PP} (hM : MOk ((haps T).map prD) N M) (hp : InR N.length p) : ∃ r, bf T N M p = some r ∧ ∀ l, r = some l → l.length ≤ 49 ∧ ∀ x ∈ l, x ∈ (haps T).map prD := by
  have few := Nat.mul_le_mul hM.few hM.few
  obtain ⟨r, h1, h2⟩ := bfs_some (ok := tt) (diff := diffM M) (fun p hp => scN_in hM.row p hp) 60 [(p, [])] [(p, [])] (e0_ok hp) (fun e he => he) (by simp only [List.length_singleton]; omega)
  exact ⟨r, h1, fun l hl => ⟨Nat.le_trans (h2 l hl).1 few, (h2 l hl).2⟩⟩
theorem res_good {T : List (Str × Int)} (hp : ∀ p ∈ T, PairOk p) {r : Option (List D)} (h : ∀ l, r = some l → l.length ≤ 49 ∧ ∀ x ∈ l, x ∈ (haps T).map prD) : Good 6500 2 (resD r) := by
  cases r with
  | none => exact ⟨True.intro, by decide, by decide⟩
  | some l =>
    obtain ⟨h1, h2⟩ := h l rfl
    refine (tup_good (c := 130) (k := 1) (m := 49) (fun x hx => ?_) h1).mono (by decide) (by decide)
    obtain ⟨q, hq, rfl⟩ := List.mem_map.mp (h2 x hx)
    exact pair_good (haps_ok hp q hq)
theorem mach_good {T : List (Str × Int)} {N : List (List Int)} {M : List D} (hT : T.length ≤ 4) (hp : ∀ p ∈ T, PairOk p) (mo : MachOk (haps T).length N) (hl : M.length = N.length) (hg : ∀ x ∈ M, Good 60 0 x) : Good 30000 3 (.lst [.tup (N.map Sq.intsD), .tup M]) := by
  have hw := haps_len hp
  have few := mo.few
  have g1 : ∀ d ∈ N.map Sq.intsD, Good 1852 1 d := fun d hd => by
    obtain ⟨r, hr, rfl⟩ := List.mem_map.mp hd
    obtain ⟨r1, r2⟩ := mo.row r hr
    refine (tup_good (c := 40) (k := 0) (m := 44) (l := r.map D.int) (fun x hx => ?_) (by rw [List.length_map]; omega)).mono (by decide) (by decide)
    obtain ⟨v, hv, rfl⟩ := List.mem_map.mp hx
    exact Sx.good_int (r2 v hv).1 (by have := (r2 v hv).2; omega)
  have g2 := tup_good (m := 7) g1 (by rw [List.length_map]; exact few)
  have g3 := tup_good (m := 7) hg (by omega)
  refine (lst_good (c := 12982) (k := 2) (m := 2) (fun x hx => ?_) (by simp)).mono (by decide) (by decide)
  simp only [List.mem_cons, List.not_mem_nil, or_false] at hx
  rcases hx with rfl | rfl
  · exact g2.mono (by decide) (by decide)
  · exact g3.mono (by decide) (by decide)
theorem turn40 {ns : List Int} {T : List (Str × Int)} {k : Nat} {x4 x5 x6 x7 x8 x9 : Option U} (hns : ns.length < 1000) (hT : T.length ≤ 4) (hp : ∀ p ∈ T, PairOk p) (hk : k < 3) (h4 : isB x4 = false) (h5 : isB x5 = false) (h6 : isB x6 = false) (h7 : isB x7 = false) (h8 : isB x8 = false) (h9 : isB x9 = false) :
    ∃ y4 y5 y6 y7 y8 y9, isB y4 = false ∧ isB y5 = false ∧ isB y6 = false ∧ isB y7 = false ∧ isB y8 = false ∧ isB y9 = false ∧
    F40 w3_law [some (.s ns), some (.t (tabT T)), some (.m (.lst menusD)), some (.t (.int (k : Int))), x4, x5, x6, x7, x8, x9] = some (.nx [some (.s ns), some (.t (tabT T)), some (.m (.lst menusD)), some (.t (.int (k : Int))), y4, y5, y6, y7, y8, y9]) := by
  obtain ⟨c, l, e1⟩ := feed_ok (ns := ns) (k := 1 + k) (by omega) (by omega) hns
  obtain ⟨m1, m2, m3⟩ := menu_at hk
  obtain ⟨k1, k2⟩ := menu_ok hk
  obtain ⟨N, M, i', l', e2, mo, ml, mm⟩ := mach_ok c l (i := 0) (T := T) (menu := menuL k) (by omega) (by omega) hT hp m2 m3
  have gM : ∀ x ∈ M, Good 60 0 x := fun x hx => k1 x (mm x hx)
  have hM : MOk ((haps T).map prD) N M := ⟨mo.few, fun r hr => by rw [List.length_map]; exact mo.row r hr, ml, fun d hd => Nat.le_trans (gM d hd).dep (by omega)⟩
  have hw : WOk M := ⟨fun x hx => (gM x hx).okR (by decide) (by decide), fun x hx y hy => k2 x (mm x hx) y (mm y hy)⟩
  have few := mo.few
  have inr : ∀ a b : Nat, a < N.length → b < N.length → InR N.length ((a : Int), (b : Int)) := fun a b ha hb => ⟨by show (0 : Int) ≤ a; omega, by show (a : Int) < _; omega, by show (0 : Int) ≤ b; omega, by show (b : Int) < _; omega⟩
  obtain ⟨y7, y8, y9, q7, q8, q9, lp⟩ := l3_turn (f1 := tabQ) (f2 := feedF) (f3 := machF) (f4 := partF) (f5 := dueP) (s0 := some (.s ns)) (x2 := some (.m (.lst menusD))) (x3 := some (.t (.int (k : Int)))) (x6 := some (.t (.str (toPy (.lst [.tup (N.map Sq.intsD), .tup M])).shown))) (x7 := x7) (x8 := x8) (x9 := x9) (td := tabT T) (md := .tup M) (kk := .non) (nd := N.map Sq.intsD) (n := N.length) (by rw [List.length_map]) (by omega)
    (fun a b => resD ((bf T N M ((a : Int), (b : Int))).getD none))
    (fun a b ha hb => by
      obtain ⟨r, h1, h2⟩ := bf_some hM (inr a b ha hb)
      simp only [h1, Option.getD_some]
      exact part_ok hT hp hM (inr a b ha hb) (bfs_both (diff_ne M) (scN_eq _ N) (by decide) _ h1))
    (fun a b ha hb => by
      obtain ⟨r, h1, h2⟩ := bf_some hM (inr a b ha hb)
      simp only [h1, Option.getD_some]
      exact dueP_ok hT hp hM hw (inr a b ha hb) h1)
    (fun a b ha hb => by
      obtain ⟨r, h1, h2⟩ := bf_some hM (inr a b ha hb)
      simp only [h1, Option.getD_some]
      exact (res_good hp h2).okR (by decide) (by decide)) h7 h8 h9
  exact ⟨_, _, _, y7, y8, y9, rfl, rfl, rfl, q7, q8, q9, l4_turn h4 h5 h6 e1 m1 e2 ((mach_good hT hp mo ml gM).okR (by decide) (by decide)) lp⟩
end
theorem law40_run : ∀ us r, lawF 63 us = some r → runB 10 (F40 g_law) us = some r := by
  intro us r h
  unfold lawF at h
  split at h
  · rename_i ns
    obtain ⟨hl, rfl⟩ := ite_some h
    obtain ⟨c, l, e1⟩ := feed_ok (ns := ns) (k := 0) (by omega) (by omega) (by omega)
    obtain ⟨T, i', l', e2, t0, t1, t2, _, _⟩ := tabQ_ok c l (i := 0) (by omega) (by omega)
    obtain ⟨S', e7, x3, x4, x5, x6, x7, x8, x9, h3, h4, h5, h6, h7, h8, h9, rfl⟩ := loop_idx (bd := bName 3) (body := F40 w3_law) (rng 0 3)
      (fun j S => ∃ x3 x4 x5 x6 x7 x8 x9 : Option U, isB x3 = false ∧ isB x4 = false ∧ isB x5 = false ∧ isB x6 = false ∧ isB x7 = false ∧ isB x8 = false ∧ isB x9 = false ∧ S = [some (.s ns), some (.t (tabT T)), some (.m (.lst menusD)), x3, x4, x5, x6, x7, x8, x9])
      [some (.s ns), some (.t (tabT T)), some (.m (.lst menusD)), none, none, none, none, none, none, none] ⟨none, none, none, none, none, none, none, rfl, rfl, rfl, rfl, rfl, rfl, rfl, rfl⟩ (by
        rintro j d S hd ⟨x3, x4, x5, x6, x7, x8, x9, h3, h4, h5, h6, h7, h8, h9, rfl⟩
        obtain ⟨hj, rfl⟩ := rng_get hd
        obtain ⟨y4, y5, y6, y7, y8, y9, g4, g5, g6, g7, g8, g9, e⟩ := turn40 (ns := ns) (T := T) (k := j) (by omega) (by omega) t2 hj h4 h5 h6 h7 h8 h9
        exact ⟨_, _, set3 _ h3, e, _, y4, y5, y6, y7, y8, y9, rfl, g4, g5, g6, g7, g8, g9, rfl⟩)
    show ((F40 g_law) [some (.s ns), none, none, none, none, none, none, none, none, none]).bind _ = _
    simp only [F40, menusD] at e7 ⊢
    simp [g_law, e1, e2, e7, outsOf]
  · cases h
end Sp

end
section
set_option Elab.async false
set_option linter.all false
set_option maxRecDepth 100000
namespace K40
open PySem PySem.Spec PyProof.Rows L2
def top (i : Nat) : Stmt := PySem.Challenge.pw_surewatch_k40_rows_that_part.main.body.getD i (.Pass ⟨0, 0, 0, 0⟩)
def w1_happenings_of : GS :=
  (sExpr (eT (eM 1 hAppend (aCons (eF (eP fTup (aCons (eSub 2 (eC (.int 0))) (aCons (eF (eVar 3)) aNil)))) aNil))))
def w2_happenings_of : GS :=
  (sFor (bName 3) (gRng1 (aCons (eF (eP fAdd (aCons (eSub 2 (eC (.int 1))) (aCons (eC (.int 1)) aNil)))) aNil)) (w1_happenings_of))
def g_happenings_of : GS :=
  (sSeq (sSet 1 (eP fLst aNil))
  (sSeq (sFor (bName 2) (iAny (eF (eVar 0))) (w2_happenings_of))
  (sRet (eVar 1))))

abbrev s_happenings_of : Stmt := top 1
theorem sc_happenings_of : FnScope ["table", "happenings", "entry", "k"] ["table"] (defScope s_happenings_of) := ⟨rfl, rfl, rfl, by decide +kernel, rfl, by decide +kernel, by decide +kernel⟩
theorem ok_happenings_of {P : Program} {w : World} {K : PySem.W.Frag} {mg : Str → Option Value} {base : Heap} {f : Addr} {fd : FuncData} {n : Nat} {fm : FM} (F : Fun K "happenings_of" "happenings_of" s_happenings_of f fd) (mrange : mg "range" = none)
    (hf : ∀ us r, fm us = some r → runB 4 (g_happenings_of) us = some r) : FnOk P w K mg base CX0 (n + 1) f fd ["table"] (spT K 1 fm) :=
  okT (g := g_happenings_of) F sc_happenings_of (fun cdv A outer s H E hr => (jb_cons (js_set (i := 1) sc_happenings_of.nd rfl (by first | exact Or.inl rfl | exact Or.inr rfl) (je_lst ja_nil))
    (jb_cons (js_for PassesOwn.never rfl (ji_any (JE.d (je_var 0))) (jg_name (i := 2) sc_happenings_of.nd rfl (by first | exact Or.inl rfl | exact Or.inr rfl)) (jb_one (js_for PassesOwn.never rfl (ji_range1 rfl mrange (ja_cons (JE.d (je_op op_addP (jd_sub (i := 2) (hu_of hr) jd_int (fun _ _ => rfl)) jd_int)) ja_nil)) (jg_name (i := 3) sc_happenings_of.nd rfl (by first | exact Or.inl rfl | exact Or.inr rfl)) (jb_one (js_expr (JD.e (jd_meth (i := 1) PySem.F.slot_list_append PySem.F.type_list_append mt_append mp_append hd_append (ja_cons (JE.d (je_tup (ja_cons (jd_sub (i := 2) (hu_of hr) jd_int (fun _ _ => rfl)) (ja_cons (JE.d (je_var 3)) ja_nil)))) ja_nil))))))))
    (jb_one (js_ret (je_var 1)))))) hf

def w1_parting (fhappenings_of : FM) : GS :=
  (sSeq (sSet 12 (eP fTup (aCons (eF (eP fIx (aCons (eSub 1 (eSub 9 (eC (.int 0)))) (aCons (eF (eVar 10)) aNil)))) (aCons (eF (eP fIx (aCons (eSub 1 (eSub 9 (eC (.int 1)))) (aCons (eF (eVar 10)) aNil)))) aNil))))
  (sIf (qAnd (qB (eF (eP fNe (aCons (eSub 12 (eC (.int 0))) (aCons (eSub 12 (eC (.int 1))) aNil))))) (qB (eInD true 7 (eF (eVar 12))))) (sSeq (sPut 7 (eF (eVar 12)) (eF (eP fAdd (aCons (eSub 7 (eF (eVar 9))) (aCons (eF (eP fTup (aCons (eF (eVar 11)) aNil))) aNil)))))
  (sExpr (eT (eM 6 hAppend (aCons (eF (eVar 12)) aNil))))) sNil))
def w2_parting (fhappenings_of : FM) : GS :=
  (sSeq (sSet 9 (eT (eSub 6 (eF (eVar 8)))))
  (sSeq (sIf (qB (eF (eP fNe (aCons (eSub 2 (eSub 9 (eC (.int 0)))) (aCons (eSub 2 (eSub 9 (eC (.int 1)))) aNil))))) (sRet (eT (eSub 7 (eF (eVar 9))))) sNil)
  (sSeq (sFor (bTup 2 (bCons (bName 10) (bCons (bName 11) bNil))) (gEnum (aCons (eF (eVar 5)) aNil)) (w1_parting fhappenings_of))
  (sAug (fun i j => i + j) 8 (eC (.int 1))))))
def g_parting (fhappenings_of : FM) : GS :=
  (sSeq (sSet 5 (eCall fhappenings_of (uVal (eF (eVar 0)) uNil)))
  (sSeq (sSet 6 (eP fLst (aCons (eF (eP fTup (aCons (eF (eVar 3)) (aCons (eF (eVar 4)) aNil)))) aNil)))
  (sSeq (sSet 7 (eDictT (eF (eP fTup (aCons (eF (eVar 3)) (aCons (eF (eVar 4)) aNil)))) (eF (eP fTup aNil))))
  (sSeq (sSet 8 (eT (eC (.int 0))))
  (sSeq (sWhile 100000 (qB (eF (eP fLt (aCons (eF (eVar 8)) (aCons (eLen 6) aNil))))) (w2_parting fhappenings_of))
  (sRet (eT (eC .non))))))))

abbrev s_parting : Stmt := top 3
theorem sc_parting : FnScope ["table", "nexts", "words", "one", "other", "happenings", "found", "rows", "at", "pair", "column", "happening", "later"] ["table", "nexts", "words", "one", "other"] (defScope s_parting) := ⟨rfl, rfl, rfl, by decide +kernel, rfl, by decide +kernel, by decide +kernel⟩
theorem ok_parting {P : Program} {w : World} {K : PySem.W.Frag} {mg : Str → Option Value} {base : Heap} {f : Addr} {fd : FuncData} {n : Nat} {fm : FM} (F : Fun K "parting" "parting" s_parting f fd) (mlen : mg "len" = none) (menumerate : mg "enumerate" = none)
    {ahappenings_of : Addr} {dhappenings_of : FuncData} {fhappenings_of : FM} (Ghappenings_of : FnOk P w K mg base CX0 n ahappenings_of dhappenings_of ["table"] (spT K 1 fhappenings_of)) (bhappenings_of : Binds K dhappenings_of ["table"] []) (khappenings_of : PySem.W.keepIn K (.ref ahappenings_of) = true) (nhappenings_of : mg "happenings_of" = some (.ref ahappenings_of))
    (hf : ∀ us r, fm us = some r → runB 13 (g_parting fhappenings_of) us = some r) : FnOk P w K mg base CX0 (n + 1) f fd ["table", "nexts", "words", "one", "other"] (spT K 5 fm) :=
  okT (g := g_parting fhappenings_of) F sc_parting (fun cdv A outer s H E hr => (jb_cons (js_set (i := 5) sc_parting.nd rfl (by first | exact Or.inl rfl | exact Or.inr rfl) (je_call Ghappenings_of hr rfl nhappenings_of khappenings_of bhappenings_of (ju_val (JE.d (je_var 0)) ju_nil)))
    (jb_cons (js_set (i := 6) sc_parting.nd rfl (by first | exact Or.inl rfl | exact Or.inr rfl) (je_lst (ja_cons (JE.d (je_tup (ja_cons (JE.d (je_var 3)) (ja_cons (JE.d (je_var 4)) ja_nil)))) ja_nil)))
    (jb_cons (js_set (i := 7) sc_parting.nd rfl (by first | exact Or.inl rfl | exact Or.inr rfl) (je_dictT (hu_of hr) (JE.d (je_tup (ja_cons (JE.d (je_var 3)) (ja_cons (JE.d (je_var 4)) ja_nil)))) (JE.d (je_tup ja_nil))))
    (jb_cons (js_set (i := 8) sc_parting.nd rfl (by first | exact Or.inl rfl | exact Or.inr rfl) (JD.e jd_int))
    (jb_cons (js_while PassesOwn.never (jt_cmp op_ltP (JE.d (je_var 8)) (jd_len (i := 6) rfl mlen)) (jb_cons (js_set (i := 9) sc_parting.nd rfl (by first | exact Or.inl rfl | exact Or.inr rfl) (JD.e (jd_sub (i := 6) (hu_of hr) (JE.d (je_var 8)) (fun _ _ => rfl))))
    (jb_cons (js_if (jt_cmp (op_neP hr.units) (jd_sub (i := 2) (hu_of hr) (jd_sub (i := 9) (hu_of hr) jd_int (fun _ _ => rfl)) (fun _ _ => rfl)) (jd_sub (i := 2) (hu_of hr) (jd_sub (i := 9) (hu_of hr) jd_int (fun _ _ => rfl)) (fun _ _ => rfl))) (jb_one (js_ret (JD.e (jd_sub (i := 7) (hu_of hr) (JE.d (je_var 9)) (fun _ _ => rfl))))) jb_nil)
    (jb_cons (js_forN PassesOwn.never rfl (ji_enum rfl menumerate (ja_cons (JE.d (je_var 5)) ja_nil)) (jg_tup rfl (jgs_cons (jg_name (i := 10) sc_parting.nd rfl (by first | exact Or.inl rfl | exact Or.inr rfl)) (jgs_cons (jg_name (i := 11) sc_parting.nd rfl (by first | exact Or.inl rfl | exact Or.inr rfl)) jgs_nil))) (jb_cons (js_set (i := 12) sc_parting.nd rfl (by first | exact Or.inl rfl | exact Or.inr rfl) (je_tup (ja_cons (JE.d (je_ix ix_P (jd_sub (i := 1) (hu_of hr) (jd_sub (i := 9) (hu_of hr) jd_int (fun _ _ => rfl)) (fun _ _ => rfl)) (JE.d (je_var 10)) (fun _ _ => rfl))) (ja_cons (JE.d (je_ix ix_P (jd_sub (i := 1) (hu_of hr) (jd_sub (i := 9) (hu_of hr) jd_int (fun _ _ => rfl)) (fun _ _ => rfl)) (JE.d (je_var 10)) (fun _ _ => rfl))) ja_nil))))
    (jb_one (js_if (JW.t (jw_and (jt_cmp (op_neP hr.units) (jd_sub (i := 12) (hu_of hr) jd_int (fun _ _ => rfl)) (jd_sub (i := 12) (hu_of hr) jd_int (fun _ _ => rfl))) (jw_one_and (jt_notInD (i := 7) (hu_of hr) (JE.d (je_var 12)))))) (jb_cons (js_put (i := 7) (hu_of hr) (JE.d (je_var 12)) (JE.d (je_op op_addP (jd_sub (i := 7) (hu_of hr) (JE.d (je_var 9)) (fun _ _ => rfl)) (JE.d (je_tup (ja_cons (JE.d (je_var 11)) ja_nil))))))
    (jb_one (js_expr (JD.e (jd_meth (i := 6) PySem.F.slot_list_append PySem.F.type_list_append mt_append mp_append hd_append (ja_cons (JE.d (je_var 12)) ja_nil)))))) jb_nil))))
    (jb_one (js_aug (i := 8) ip_add sc_parting.nd rfl (by first | exact Or.inl rfl | exact Or.inr rfl) jd_int))))))
    (jb_one (js_ret (JD.e jd_non))))))))) hf

def g__law_mix : GS :=
  (sSeq (sSet 2 (eP fAdd (aCons (eF (eP fAdd (aCons (eF (eP fMul (aCons (eF (eP fAdd (aCons (eF (eP fMod (aCons (eF (eVar 0)) (aCons (eF (eP fPow (aCons (eC (.int 10)) (aCons (eC (.int 15)) aNil)))) aNil)))) (aCons (eC (.int 1)) aNil)))) (aCons (eC (.int 48271)) aNil)))) (aCons (eF (eP fMul (aCons (eF (eP fMul (aCons (eF (eVar 1)) (aCons (eF (eVar 1)) aNil)))) (aCons (eC (.int 16807)) aNil)))) aNil)))) (aCons (eF (eP fMul (aCons (eF (eVar 1)) (aCons (eC (.int 7919)) aNil)))) aNil))))
  (sRet (eP fMod (aCons (eF (eP fMul (aCons (eF (eP fMod (aCons (eF (eVar 2)) (aCons (eC (.int 2147483647)) aNil)))) (aCons (eC (.int 69621)) aNil)))) (aCons (eC (.int 2147483629)) aNil)))))

abbrev s__law_mix : Stmt := top 5
theorem sc__law_mix : FnScope ["_law_cell", "_law_k", "_law_by"] ["_law_cell", "_law_k"] (defScope s__law_mix) := ⟨rfl, rfl, rfl, by decide +kernel, rfl, by decide +kernel, by decide +kernel⟩
theorem ok__law_mix {P : Program} {w : World} {K : PySem.W.Frag} {mg : Str → Option Value} {base : Heap} {f : Addr} {fd : FuncData} {n : Nat} {fm : FM} (F : Fun K "_law_mix" "_law_mix" s__law_mix f fd)
    (hf : ∀ us r, fm us = some r → runB 3 (g__law_mix) us = some r) : FnOk P w K mg base CX0 (n + 1) f fd ["_law_cell", "_law_k"] (spT K 2 fm) :=
  okT (g := g__law_mix) F sc__law_mix (fun cdv A outer s H E hr => (jb_cons (js_set (i := 2) sc__law_mix.nd rfl (by first | exact Or.inl rfl | exact Or.inr rfl) (je_op op_addP (JE.d (je_op op_addP (JE.d (je_op op_mulP (JE.d (je_op op_addP (JE.d (je_op op_modP (JE.d (je_var 0)) (JE.d (je_op op_powP jd_int jd_int)))) jd_int)) jd_int)) (JE.d (je_op op_mulP (JE.d (je_op op_mulP (JE.d (je_var 1)) (JE.d (je_var 1)))) jd_int)))) (JE.d (je_op op_mulP (JE.d (je_var 1)) jd_int))))
    (jb_one (js_ret (je_op op_modP (JE.d (je_op op_mulP (JE.d (je_op op_modP (JE.d (je_var 2)) jd_int)) jd_int)) jd_int))))) hf

def g__law_feed (f_law_mix : FM) : GS :=
  (sSeq (sSet 2 (eP fAdd (aCons (eF (eP fMul (aCons (eC (.int 7919)) (aCons (eF (eVar 1)) aNil)))) (aCons (eC (.int 1)) aNil))))
  (sSeq (sIf (qB (eF (eP fLt (aCons (eF (eVar 1)) (aCons (eLen 0) aNil))))) (sSet 2 (eT (eSub 0 (eF (eVar 1))))) (sIf (qB (eF (eP fGt (aCons (eLen 0) (aCons (eC (.int 0)) aNil))))) (sSet 2 (eCall f_law_mix (uVal (eSub 0 (eF (eP fMod (aCons (eF (eVar 1)) (aCons (eLen 0) aNil))))) (uVal (eF (eVar 1)) uNil)))) sNil))
  (sRet (eP fLst (aCons (eF (eVar 2)) (aCons (eC (.int 0)) (aCons (eF (eP fMul (aCons (eF (eP fSub (aCons (eF (eVar 2)) (aCons (eF (eP fPow (aCons (eC (.int 10)) (aCons (eC (.int 18)) aNil)))) aNil)))) (aCons (eF (eP fInt (aCons (eF (eP fGe (aCons (eF (eVar 2)) (aCons (eF (eP fPow (aCons (eC (.int 10)) (aCons (eC (.int 18)) aNil)))) aNil)))) aNil))) aNil)))) aNil)))))))

abbrev s__law_feed : Stmt := top 6
theorem sc__law_feed : FnScope ["_law_script", "_law_k", "_law_cell"] ["_law_script", "_law_k"] (defScope s__law_feed) := ⟨rfl, rfl, rfl, by decide +kernel, rfl, by decide +kernel, by decide +kernel⟩
theorem ok__law_feed {P : Program} {w : World} {K : PySem.W.Frag} {mg : Str → Option Value} {base : Heap} {f : Addr} {fd : FuncData} {n : Nat} {fm : FM} (F : Fun K "_law_feed" "_law_feed" s__law_feed f fd) (mlen : mg "len" = none) (mint : mg "int" = none)
    {a_law_mix : Addr} {d_law_mix : FuncData} {f_law_mix : FM} (G_law_mix : FnOk P w K mg base CX0 n a_law_mix d_law_mix ["_law_cell", "_law_k"] (spT K 2 f_law_mix)) (b_law_mix : Binds K d_law_mix ["_law_cell", "_law_k"] []) (k_law_mix : PySem.W.keepIn K (.ref a_law_mix) = true) (n_law_mix : mg "_law_mix" = some (.ref a_law_mix))
    (hf : ∀ us r, fm us = some r → runB 3 (g__law_feed f_law_mix) us = some r) : FnOk P w K mg base CX0 (n + 1) f fd ["_law_script", "_law_k"] (spT K 2 fm) :=
  okT (g := g__law_feed f_law_mix) F sc__law_feed (fun cdv A outer s H E hr => (jb_cons (js_set (i := 2) sc__law_feed.nd rfl (by first | exact Or.inl rfl | exact Or.inr rfl) (je_op op_addP (JE.d (je_op op_mulP jd_int (JE.d (je_var 1)))) jd_int))
    (jb_cons (js_if (jt_cmp op_ltP (JE.d (je_var 1)) (jd_len (i := 0) rfl mlen)) (jb_one (js_set (i := 2) sc__law_feed.nd rfl (by first | exact Or.inl rfl | exact Or.inr rfl) (JD.e (jd_sub (i := 0) (hu_of hr) (JE.d (je_var 1)) (fun _ _ => rfl))))) (jb_one (js_if (jt_cmp op_gtP (jd_len (i := 0) rfl mlen) jd_int) (jb_one (js_set (i := 2) sc__law_feed.nd rfl (by first | exact Or.inl rfl | exact Or.inr rfl) (je_call G_law_mix hr rfl n_law_mix k_law_mix b_law_mix (ju_val (jd_sub (i := 0) (hu_of hr) (JE.d (je_op op_modP (JE.d (je_var 1)) (jd_len (i := 0) rfl mlen))) (fun _ _ => rfl)) (ju_val (JE.d (je_var 1)) ju_nil))))) jb_nil)))
    (jb_one (js_ret (je_lst (ja_cons (JE.d (je_var 2)) (ja_cons jd_int (ja_cons (JE.d (je_op op_mulP (JE.d (je_op op_subP (JE.d (je_var 2)) (JE.d (je_op op_powP jd_int jd_int)))) (JE.d (je_callTy call_intP rfl mint PyProof.Rows.Boot.int (ja_cons (JE.d (je_cmp op_geP (JE.d (je_var 2)) (JE.d (je_op op_powP jd_int jd_int)))) ja_nil))))) ja_nil))))))))) hf

def g__law_take (f_law_mix : FM) : GS :=
  (sSeq (sPut 0 (eC (.int 1)) (eF (eP fAdd (aCons (eSub 0 (eC (.int 1))) (aCons (eC (.int 1)) aNil)))))
  (sSeq (sIf (qB (eF (eP fGt (aCons (eSub 0 (eC (.int 2))) (aCons (eC (.int 0)) aNil))))) (sSeq (sSet 2 (eP fMod (aCons (eSub 0 (eC (.int 2))) (aCons (eF (eVar 1)) aNil))))
  (sSeq (sPut 0 (eC (.int 2)) (eF (eP fDiv (aCons (eSub 0 (eC (.int 2))) (aCons (eF (eVar 1)) aNil)))))
  (sRet (eVar 2)))) sNil)
  (sRet (eP fMod (aCons (eF (eP fDiv (aCons (eF (eCall f_law_mix (uVal (eSub 0 (eC (.int 0))) (uVal (eSub 0 (eC (.int 1))) uNil)))) (aCons (eC (.int 7)) aNil)))) (aCons (eF (eVar 1)) aNil))))))

abbrev s__law_take : Stmt := top 7
theorem sc__law_take : FnScope ["_law_feed_here", "_law_many", "_law_found"] ["_law_feed_here", "_law_many"] (defScope s__law_take) := ⟨rfl, rfl, rfl, by decide +kernel, rfl, by decide +kernel, by decide +kernel⟩
theorem ok__law_take {P : Program} {w : World} {K : PySem.W.Frag} {mg : Str → Option Value} {base : Heap} {f : Addr} {fd : FuncData} {n : Nat} {fm : FM} (F : Fun K "_law_take" "_law_take" s__law_take f fd)
    {a_law_mix : Addr} {d_law_mix : FuncData} {f_law_mix : FM} (G_law_mix : FnOk P w K mg base CX0 n a_law_mix d_law_mix ["_law_cell", "_law_k"] (spT K 2 f_law_mix)) (b_law_mix : Binds K d_law_mix ["_law_cell", "_law_k"] []) (k_law_mix : PySem.W.keepIn K (.ref a_law_mix) = true) (n_law_mix : mg "_law_mix" = some (.ref a_law_mix))
    (hf : ∀ us r, fm us = some r → runB 3 (g__law_take f_law_mix) us = some r) : FnOk P w K mg base CX0 (n + 1) f fd ["_law_feed_here", "_law_many"] (spT K 2 fm) :=
  okT (g := g__law_take f_law_mix) F sc__law_take (fun cdv A outer s H E hr => (jb_cons (js_put (i := 0) (hu_of hr) jd_int (JE.d (je_op op_addP (jd_sub (i := 0) (hu_of hr) jd_int (fun _ _ => rfl)) jd_int)))
    (jb_cons (js_if (jt_cmp op_gtP (jd_sub (i := 0) (hu_of hr) jd_int (fun _ _ => rfl)) jd_int) (jb_cons (js_set (i := 2) sc__law_take.nd rfl (by first | exact Or.inl rfl | exact Or.inr rfl) (je_op op_modP (jd_sub (i := 0) (hu_of hr) jd_int (fun _ _ => rfl)) (JE.d (je_var 1))))
    (jb_cons (js_put (i := 0) (hu_of hr) jd_int (JE.d (je_op op_divP (jd_sub (i := 0) (hu_of hr) jd_int (fun _ _ => rfl)) (JE.d (je_var 1)))))
    (jb_one (js_ret (je_var 2))))) jb_nil)
    (jb_one (js_ret (je_op op_modP (JE.d (je_op op_divP (JE.d (je_call G_law_mix hr rfl n_law_mix k_law_mix b_law_mix (ju_val (jd_sub (i := 0) (hu_of hr) jd_int (fun _ _ => rfl)) (ju_val (jd_sub (i := 0) (hu_of hr) jd_int (fun _ _ => rfl)) ju_nil)))) jd_int)) (JE.d (je_var 1)))))))) hf

def w1__law_table (f_law_take : FM) : GS :=
  (sSeq (sSet 7 (eP fMin2 (aCons (eF (eCall f_law_take (uMut (eVar 0) (uVal (eC (.int 3)) uNil)))) (aCons (eF (eP fAdd (aCons (eF (eP fSub (aCons (eF (eVar 4)) (aCons (eF (eVar 3)) aNil)))) (aCons (eF (eVar 6)) aNil)))) aNil))))
  (sSeq (sExpr (eT (eM 5 hAppend (aCons (eF (eP fTup (aCons (eSub 1 (eF (eP fMod (aCons (eF (eP fAdd (aCons (eF (eVar 2)) (aCons (eF (eVar 6)) aNil)))) (aCons (eC (.int 9)) aNil))))) (aCons (eF (eVar 7)) aNil)))) aNil))))
  (sSet 4 (eP fSub (aCons (eF (eP fSub (aCons (eF (eVar 4)) (aCons (eF (eVar 7)) aNil)))) (aCons (eC (.int 1)) aNil))))))
def g__law_table (f_law_take : FM) : GS :=
  (sSeq (sSet 1 (eP fLst (aCons (eC (.str "a")) (aCons (eC (.str "ab")) (aCons (eC (.str "abc")) (aCons (eC (.str "now")) (aCons (eC (.str "any")) (aCons (eC (.str "name")) (aCons (eC (.str "less")) (aCons (eC (.str "x")) (aCons (eC (.str "zzzzzzzz")) aNil)))))))))))
  (sSeq (sSet 2 (eCall f_law_take (uMut (eVar 0) (uVal (eC (.int 9)) uNil))))
  (sSeq (sSet 3 (eP fIx (aCons (eF (eP fLst (aCons (eC (.int 1)) (aCons (eC (.int 2)) (aCons (eC (.int 2)) (aCons (eC (.int 3)) aNil)))))) (aCons (eF (eCall f_law_take (uMut (eVar 0) (uVal (eC (.int 4)) uNil)))) aNil))))
  (sSeq (sSet 4 (eT (eC (.int 5))))
  (sSeq (sSet 5 (eP fLst aNil))
  (sSeq (sFor (bName 6) (gRng1 (aCons (eF (eVar 3)) aNil)) (w1__law_table f_law_take))
  (sRet (eP fTuple (aCons (eF (eVar 5)) aNil)))))))))

abbrev s__law_table : Stmt := top 8
theorem sc__law_table : FnScope ["_law_feed_here", "_law_pool", "_law_start", "_law_many", "_law_left", "_law_table_here", "_law_k", "_law_most"] ["_law_feed_here"] (defScope s__law_table) := ⟨rfl, rfl, rfl, by decide +kernel, rfl, by decide +kernel, by decide +kernel⟩
theorem ok__law_table {P : Program} {w : World} {K : PySem.W.Frag} {mg : Str → Option Value} {base : Heap} {f : Addr} {fd : FuncData} {n : Nat} {fm : FM} (F : Fun K "_law_table" "_law_table" s__law_table f fd) (mrange : mg "range" = none) (mmin : mg "min" = none) (mtuple : mg "tuple" = none)
    {a_law_take : Addr} {d_law_take : FuncData} {f_law_take : FM} (G_law_take : FnOk P w K mg base CX0 n a_law_take d_law_take ["_law_feed_here", "_law_many"] (spT K 2 f_law_take)) (b_law_take : Binds K d_law_take ["_law_feed_here", "_law_many"] []) (k_law_take : PySem.W.keepIn K (.ref a_law_take) = true) (n_law_take : mg "_law_take" = some (.ref a_law_take))
    (hf : ∀ us r, fm us = some r → runB 8 (g__law_table f_law_take) us = some r) : FnOk P w K mg base CX0 (n + 1) f fd ["_law_feed_here"] (spT K 1 fm) :=
  okT (g := g__law_table f_law_take) F sc__law_table (fun cdv A outer s H E hr => (jb_cons (js_set (i := 1) sc__law_table.nd rfl (by first | exact Or.inl rfl | exact Or.inr rfl) (je_lst (ja_cons jd_str (ja_cons jd_str (ja_cons jd_str (ja_cons jd_str (ja_cons jd_str (ja_cons jd_str (ja_cons jd_str (ja_cons jd_str (ja_cons jd_str ja_nil)))))))))))
    (jb_cons (js_set (i := 2) sc__law_table.nd rfl (by first | exact Or.inl rfl | exact Or.inr rfl) (je_call G_law_take hr rfl n_law_take k_law_take b_law_take (ju_mut (je_var 0) (ju_val jd_int ju_nil))))
    (jb_cons (js_set (i := 3) sc__law_table.nd rfl (by first | exact Or.inl rfl | exact Or.inr rfl) (je_ix ix_P (JE.d (je_lst (ja_cons jd_int (ja_cons jd_int (ja_cons jd_int (ja_cons jd_int ja_nil)))))) (JE.d (je_call G_law_take hr rfl n_law_take k_law_take b_law_take (ju_mut (je_var 0) (ju_val jd_int ju_nil)))) (fun _ _ => rfl)))
    (jb_cons (js_set (i := 4) sc__law_table.nd rfl (by first | exact Or.inl rfl | exact Or.inr rfl) (JD.e jd_int))
    (jb_cons (js_set (i := 5) sc__law_table.nd rfl (by first | exact Or.inl rfl | exact Or.inr rfl) (je_lst ja_nil))
    (jb_cons (js_for PassesOwn.never rfl (ji_range1 rfl mrange (ja_cons (JE.d (je_var 3)) ja_nil)) (jg_name (i := 6) sc__law_table.nd rfl (by first | exact Or.inl rfl | exact Or.inr rfl)) (jb_cons (js_set (i := 7) sc__law_table.nd rfl (by first | exact Or.inl rfl | exact Or.inr rfl) (je_callB (call_min2P rfl) rfl mmin PyProof.Rows.Boot.min (ja_cons (JE.d (je_call G_law_take hr rfl n_law_take k_law_take b_law_take (ju_mut (je_var 0) (ju_val jd_int ju_nil)))) (ja_cons (JE.d (je_op op_addP (JE.d (je_op op_subP (JE.d (je_var 4)) (JE.d (je_var 3)))) (JE.d (je_var 6)))) ja_nil))))
    (jb_cons (js_expr (JD.e (jd_meth (i := 5) PySem.F.slot_list_append PySem.F.type_list_append mt_append mp_append hd_append (ja_cons (JE.d (je_tup (ja_cons (jd_sub (i := 1) (hu_of hr) (JE.d (je_op op_modP (JE.d (je_op op_addP (JE.d (je_var 2)) (JE.d (je_var 6)))) jd_int)) (fun _ _ => rfl)) (ja_cons (JE.d (je_var 7)) ja_nil)))) ja_nil))))
    (jb_one (js_set (i := 4) sc__law_table.nd rfl (by first | exact Or.inl rfl | exact Or.inr rfl) (je_op op_subP (JE.d (je_op op_subP (JE.d (je_var 4)) (JE.d (je_var 7)))) jd_int))))))
    (jb_one (js_ret (je_callTy call_tupleP rfl mtuple PyProof.Rows.Boot.tuple (ja_cons (JE.d (je_var 5)) ja_nil))))))))))) hf

def w1__law_happenings : GS :=
  (sExpr (eT (eM 1 hExtend (aCons (eF (eComp [2] (gRng1 (aCons (eF (eP fAdd (aCons (eF (eVar 3)) (aCons (eC (.int 1)) aNil)))) aNil)) qTrue (eF (eP fTup (aCons (eF (eVar 1)) (aCons (eF (eVar 0)) aNil)))))) aNil))))
def g__law_happenings : GS :=
  (sSeq (sSet 1 (eP fLst aNil))
  (sSeq (sFor (bTup 2 (bCons (bName 2) (bCons (bName 3) bNil))) (iSeq (eF (eVar 0))) (w1__law_happenings))
  (sRet (eVar 1))))

abbrev s__law_happenings : Stmt := top 9
theorem sc__law_happenings : FnScope ["_law_table_here", "_law_found", "_law_name", "_law_most"] ["_law_table_here"] (defScope s__law_happenings) := ⟨rfl, rfl, rfl, by decide +kernel, rfl, by decide +kernel, by decide +kernel⟩
theorem ok__law_happenings {P : Program} {w : World} {K : PySem.W.Frag} {mg : Str → Option Value} {base : Heap} {f : Addr} {fd : FuncData} {n : Nat} {fm : FM} (F : Fun K "_law_happenings" "_law_happenings" s__law_happenings f fd) (mrange : mg "range" = none)
    (hf : ∀ us r, fm us = some r → runB 4 (g__law_happenings) us = some r) : FnOk P w K mg base CX0 (n + 1) f fd ["_law_table_here"] (spT K 1 fm) :=
  okT (g := g__law_happenings) F sc__law_happenings (fun cdv A outer s H E hr => (jb_cons (js_set (i := 1) sc__law_happenings.nd rfl (by first | exact Or.inl rfl | exact Or.inr rfl) (je_lst ja_nil))
    (jb_cons (js_for PassesOwn.never rfl (ji_seq (JE.d (je_var 0))) (jg_tup rfl (jgs_cons (jg_name (i := 2) sc__law_happenings.nd rfl (by first | exact Or.inl rfl | exact Or.inr rfl)) (jgs_cons (jg_name (i := 3) sc__law_happenings.nd rfl (by first | exact Or.inl rfl | exact Or.inr rfl)) jgs_nil))) (jb_one (js_expr (JD.e (jd_meth (i := 1) PySem.F.slot_list_extend PySem.F.type_list_extend mt_extendR mp_extend hd_extend (ja_cons (JE.d (je_comp (comp_cap (i := 2) rfl (by decide) rfl (by decide) rfl rfl (by decide) (by decide) rfl rfl rfl) rfl (ji_range1 rfl mrange (ja_cons (JE.d (je_op op_addP (JE.d (je_var 3)) jd_int)) ja_nil)) (fun _ _ _ _ => jts_nil) (fun _ _ _ _ => (JE.d (je_tup (ja_cons (JE.d (je_var 1)) (ja_cons (JE.d (je_var 0)) ja_nil))))))) ja_nil))))))
    (jb_one (js_ret (je_var 1)))))) hf

def w1__law_machine (f_law_take : FM) (f_law_happenings : FM) : GS :=
  (sExpr (eT (eM 5 hAppend (aCons (eF (eP fTuple (aCons (eF (eComp [0, 3] (gRng1 (aCons (eF (eVar 4)) aNil)) qTrue (eF (eCall f_law_take (uMut (eVar 1) (uVal (eF (eVar 2)) uNil)))))) aNil))) aNil))))
def g__law_machine (f_law_take : FM) (f_law_happenings : FM) : GS :=
  (sSeq (sSet 3 (eP fAdd (aCons (eC (.int 1)) (aCons (eF (eCall f_law_take (uMut (eVar 0) (uVal (eC (.int 7)) uNil)))) aNil))))
  (sSeq (sSet 4 (eP fLen (aCons (eF (eCall f_law_happenings (uVal (eF (eVar 1)) uNil))) aNil)))
  (sSeq (sSet 5 (eP fLst aNil))
  (sSeq (sFor (bName 6) (gRng1 (aCons (eF (eVar 3)) aNil)) (w1__law_machine f_law_take f_law_happenings))
  (sSeq (sSet 7 (eComp [0, 2] (gRng1 (aCons (eF (eVar 3)) aNil)) qTrue (eSub 2 (eF (eCall f_law_take (uMut (eVar 1) (uVal (eLen 2) uNil)))))))
  (sSeq (sIf (qB (eF (eP fEq (aCons (eF (eCall f_law_take (uMut (eVar 0) (uVal (eC (.int 3)) uNil)))) (aCons (eC (.int 0)) aNil))))) (sSet 7 (eP fRep (aCons (eF (eP fLst (aCons (eSub 2 (eC (.int 0))) aNil))) (aCons (eF (eVar 3)) aNil)))) sNil)
  (sRet (eP fTup (aCons (eF (eP fTuple (aCons (eF (eVar 5)) aNil))) (aCons (eF (eP fTuple (aCons (eF (eVar 7)) aNil))) aNil))))))))))

abbrev s__law_machine : Stmt := top 10
theorem sc__law_machine : FnScope ["_law_feed_here", "_law_table_here", "_law_menu", "_law_many", "_law_wide", "_law_nexts", "_law_spot", "_law_marks"] ["_law_feed_here", "_law_table_here", "_law_menu"] (defScope s__law_machine) := ⟨rfl, rfl, rfl, by decide +kernel, rfl, by decide +kernel, by decide +kernel⟩
theorem ok__law_machine {P : Program} {w : World} {K : PySem.W.Frag} {mg : Str → Option Value} {base : Heap} {f : Addr} {fd : FuncData} {n : Nat} {fm : FM} (F : Fun K "_law_machine" "_law_machine" s__law_machine f fd) (mlen : mg "len" = none) (mrange : mg "range" = none) (mtuple : mg "tuple" = none)
    {a_law_take : Addr} {d_law_take : FuncData} {f_law_take : FM} (G_law_take : FnOk P w K mg base CX0 n a_law_take d_law_take ["_law_feed_here", "_law_many"] (spT K 2 f_law_take)) (b_law_take : Binds K d_law_take ["_law_feed_here", "_law_many"] []) (k_law_take : PySem.W.keepIn K (.ref a_law_take) = true) (n_law_take : mg "_law_take" = some (.ref a_law_take))
    {a_law_happenings : Addr} {d_law_happenings : FuncData} {f_law_happenings : FM} (G_law_happenings : FnOk P w K mg base CX0 n a_law_happenings d_law_happenings ["_law_table_here"] (spT K 1 f_law_happenings)) (b_law_happenings : Binds K d_law_happenings ["_law_table_here"] []) (k_law_happenings : PySem.W.keepIn K (.ref a_law_happenings) = true) (n_law_happenings : mg "_law_happenings" = some (.ref a_law_happenings))
    (hf : ∀ us r, fm us = some r → runB 8 (g__law_machine f_law_take f_law_happenings) us = some r) : FnOk P w K mg base CX0 (n + 1) f fd ["_law_feed_here", "_law_table_here", "_law_menu"] (spT K 3 fm) :=
  okT (g := g__law_machine f_law_take f_law_happenings) F sc__law_machine (fun cdv A outer s H E hr => (jb_cons (js_set (i := 3) sc__law_machine.nd rfl (by first | exact Or.inl rfl | exact Or.inr rfl) (je_op op_addP jd_int (JE.d (je_call G_law_take hr rfl n_law_take k_law_take b_law_take (ju_mut (je_var 0) (ju_val jd_int ju_nil))))))
    (jb_cons (js_set (i := 4) sc__law_machine.nd rfl (by first | exact Or.inl rfl | exact Or.inr rfl) (je_callB call_lenP rfl mlen PySem.boot_len (ja_cons (JE.d (je_call G_law_happenings hr rfl n_law_happenings k_law_happenings b_law_happenings (ju_val (JE.d (je_var 1)) ju_nil))) ja_nil)))
    (jb_cons (js_set (i := 5) sc__law_machine.nd rfl (by first | exact Or.inl rfl | exact Or.inr rfl) (je_lst ja_nil))
    (jb_cons (js_for PassesOwn.never rfl (ji_range1 rfl mrange (ja_cons (JE.d (je_var 3)) ja_nil)) (jg_name (i := 6) sc__law_machine.nd rfl (by first | exact Or.inl rfl | exact Or.inr rfl)) (jb_one (js_expr (JD.e (jd_meth (i := 5) PySem.F.slot_list_append PySem.F.type_list_append mt_append mp_append hd_append (ja_cons (JE.d (je_callTy call_tupleP rfl mtuple PyProof.Rows.Boot.tuple (ja_cons (JE.d (je_comp (comp_capsD (capN := ["_law_feed_here", "_law_many"]) (cap := [0, 3]) rfl (by decide) rfl (by decide) rfl rfl (by decide) (by first | exact Or.inl rfl | exact Or.inr rfl) (by decide) rfl rfl rfl) rfl (ji_range1 rfl mrange (ja_cons (JE.d (je_var 4)) ja_nil)) (fun _ _ _ _ => jts_nil) (fun _ _ _ _ => (JE.d (je_call G_law_take hr rfl n_law_take k_law_take b_law_take (ju_mut (je_var 1) (ju_val (JE.d (je_var 2)) ju_nil))))))) ja_nil))) ja_nil))))))
    (jb_cons (js_setLC (i := 7) sc__law_machine.nd rfl (by first | exact Or.inl rfl | exact Or.inr rfl) (comp_capsD (capN := ["_law_feed_here", "_law_menu"]) (cap := [0, 2]) rfl (by decide) rfl (by decide) rfl rfl (by decide) (by first | exact Or.inl rfl | exact Or.inr rfl) (by decide) rfl rfl rfl) rfl (ji_range1 rfl mrange (ja_cons (JE.d (je_var 3)) ja_nil)) (fun _ _ _ _ => jts_nil) (fun _ _ _ _ => (jd_sub (i := 2) (hu_of hr) (JE.d (je_call G_law_take hr rfl n_law_take k_law_take b_law_take (ju_mut (je_var 1) (ju_val (jd_len (i := 2) rfl mlen) ju_nil)))) (fun _ _ => rfl))))
    (jb_cons (js_if (jt_cmp (op_eqP hr.units) (JE.d (je_call G_law_take hr rfl n_law_take k_law_take b_law_take (ju_mut (je_var 0) (ju_val jd_int ju_nil)))) jd_int) (jb_one (js_set (i := 7) sc__law_machine.nd rfl (by first | exact Or.inl rfl | exact Or.inr rfl) (je_op op_repP (JE.d (je_lst (ja_cons (jd_sub (i := 2) (hu_of hr) jd_int (fun _ _ => rfl)) ja_nil))) (JE.d (je_var 3))))) jb_nil)
    (jb_one (js_ret (je_tup (ja_cons (JE.d (je_callTy call_tupleP rfl mtuple PyProof.Rows.Boot.tuple (ja_cons (JE.d (je_var 5)) ja_nil))) (ja_cons (JE.d (je_callTy call_tupleP rfl mtuple PyProof.Rows.Boot.tuple (ja_cons (JE.d (je_var 7)) ja_nil))) ja_nil)))))))))))) hf

def w1__law_due (f_law_happenings : FM) : GS :=
  (sIf (qB (eF (eP fNe (aCons (eF (eP fRepr (aCons (eSub 2 (eSub 7 (eC (.int 0)))) aNil))) (aCons (eF (eP fRepr (aCons (eSub 2 (eSub 7 (eC (.int 1)))) aNil))) aNil))))) (sRet (eVar 8)) sNil)
def w2__law_due (f_law_happenings : FM) : GS :=
  (sIf (qB (eInS true 5 (eF (eP fTup (aCons (eF (eVar 11)) (aCons (eF (eVar 12)) aNil)))))) (sSeq (sExpr (eT (eM 5 hAppend (aCons (eF (eP fTup (aCons (eF (eVar 11)) (aCons (eF (eVar 12)) aNil)))) aNil))))
  (sExpr (eT (eM 9 hAppend (aCons (eF (eP fTup (aCons (eF (eP fTup (aCons (eF (eVar 11)) (aCons (eF (eVar 12)) aNil)))) (aCons (eF (eP fAdd (aCons (eF (eVar 8)) (aCons (eF (eP fTup (aCons (eF (eVar 10)) aNil))) aNil)))) aNil)))) aNil))))) sNil)
def w3__law_due (f_law_happenings : FM) : GS :=
  (sFor (bTup 3 (bCons (bName 10) (bCons (bName 11) (bCons (bName 12) bNil)))) (gZip3 (aCons (eF (eCall f_law_happenings (uVal (eF (eVar 0)) uNil))) (aCons (eSub 1 (eSub 7 (eC (.int 0)))) (aCons (eSub 1 (eSub 7 (eC (.int 1)))) aNil)))) (w2__law_due f_law_happenings))
def w4__law_due (f_law_happenings : FM) : GS :=
  (sSeq (sFor (bTup 2 (bCons (bName 7) (bCons (bName 8) bNil))) (iSeq (eF (eVar 6))) (w1__law_due f_law_happenings))
  (sSeq (sSet 9 (eP fLst aNil))
  (sSeq (sFor (bTup 2 (bCons (bName 7) (bCons (bName 8) bNil))) (iSeq (eF (eVar 6))) (w3__law_due f_law_happenings))
  (sSet 6 (eVar 9)))))
def g__law_due (f_law_happenings : FM) : GS :=
  (sSeq (sSet 5 (eP fLst (aCons (eF (eP fTup (aCons (eF (eVar 3)) (aCons (eF (eVar 4)) aNil)))) aNil)))
  (sSeq (sSet 6 (eP fLst (aCons (eF (eP fTup (aCons (eF (eP fTup (aCons (eF (eVar 3)) (aCons (eF (eVar 4)) aNil)))) (aCons (eF (eP fTup aNil)) aNil)))) aNil)))
  (sSeq (sWhile 100000 (qB (eF (eP fNe (aCons (eF (eVar 6)) (aCons (eF (eP fLst aNil)) aNil))))) (w4__law_due f_law_happenings))
  (sRet (eT (eC .non))))))

abbrev s__law_due : Stmt := top 11
theorem sc__law_due : FnScope ["_law_table_here", "_law_nexts", "_law_marks", "_law_one", "_law_other", "_law_seen", "_law_fresh", "_law_pair", "_law_row", "_law_later", "_law_happening", "_law_first", "_law_second"] ["_law_table_here", "_law_nexts", "_law_marks", "_law_one", "_law_other"] (defScope s__law_due) := ⟨rfl, rfl, rfl, by decide +kernel, rfl, by decide +kernel, by decide +kernel⟩
theorem ok__law_due {P : Program} {w : World} {K : PySem.W.Frag} {mg : Str → Option Value} {base : Heap} {f : Addr} {fd : FuncData} {n : Nat} {fm : FM} (F : Fun K "_law_due" "_law_due" s__law_due f fd) (mrepr : mg "repr" = none) (mzip : mg "zip" = none)
    {a_law_happenings : Addr} {d_law_happenings : FuncData} {f_law_happenings : FM} (G_law_happenings : FnOk P w K mg base CX0 n a_law_happenings d_law_happenings ["_law_table_here"] (spT K 1 f_law_happenings)) (b_law_happenings : Binds K d_law_happenings ["_law_table_here"] []) (k_law_happenings : PySem.W.keepIn K (.ref a_law_happenings) = true) (n_law_happenings : mg "_law_happenings" = some (.ref a_law_happenings))
    (hf : ∀ us r, fm us = some r → runB 13 (g__law_due f_law_happenings) us = some r) : FnOk P w K mg base CX0 (n + 1) f fd ["_law_table_here", "_law_nexts", "_law_marks", "_law_one", "_law_other"] (spT K 5 fm) :=
  okT (g := g__law_due f_law_happenings) F sc__law_due (fun cdv A outer s H E hr => (jb_cons (js_set (i := 5) sc__law_due.nd rfl (by first | exact Or.inl rfl | exact Or.inr rfl) (je_lst (ja_cons (JE.d (je_tup (ja_cons (JE.d (je_var 3)) (ja_cons (JE.d (je_var 4)) ja_nil)))) ja_nil)))
    (jb_cons (js_set (i := 6) sc__law_due.nd rfl (by first | exact Or.inl rfl | exact Or.inr rfl) (je_lst (ja_cons (JE.d (je_tup (ja_cons (JE.d (je_tup (ja_cons (JE.d (je_var 3)) (ja_cons (JE.d (je_var 4)) ja_nil)))) (ja_cons (JE.d (je_tup ja_nil)) ja_nil)))) ja_nil)))
    (jb_cons (js_while PassesOwn.never (jt_cmp (op_neP hr.units) (JE.d (je_var 6)) (JE.d (je_lst ja_nil))) (jb_cons (js_for PassesOwn.never rfl (ji_seq (JE.d (je_var 6))) (jg_tup rfl (jgs_cons (jg_name (i := 7) sc__law_due.nd rfl (by first | exact Or.inl rfl | exact Or.inr rfl)) (jgs_cons (jg_name (i := 8) sc__law_due.nd rfl (by first | exact Or.inl rfl | exact Or.inr rfl)) jgs_nil))) (jb_one (js_if (jt_cmp (op_neP hr.units) (JE.d (je_callB (call_reprP hr.gd hr.units) rfl mrepr PyProof.Rows.Boot.repr (ja_cons (jd_sub (i := 2) (hu_of hr) (jd_sub (i := 7) (hu_of hr) jd_int (fun _ _ => rfl)) (fun _ _ => rfl)) ja_nil))) (JE.d (je_callB (call_reprP hr.gd hr.units) rfl mrepr PyProof.Rows.Boot.repr (ja_cons (jd_sub (i := 2) (hu_of hr) (jd_sub (i := 7) (hu_of hr) jd_int (fun _ _ => rfl)) (fun _ _ => rfl)) ja_nil)))) (jb_one (js_ret (je_var 8))) jb_nil)))
    (jb_cons (js_set (i := 9) sc__law_due.nd rfl (by first | exact Or.inl rfl | exact Or.inr rfl) (je_lst ja_nil))
    (jb_cons (js_for PassesOwn.never rfl (ji_seq (JE.d (je_var 6))) (jg_tup rfl (jgs_cons (jg_name (i := 7) sc__law_due.nd rfl (by first | exact Or.inl rfl | exact Or.inr rfl)) (jgs_cons (jg_name (i := 8) sc__law_due.nd rfl (by first | exact Or.inl rfl | exact Or.inr rfl)) jgs_nil))) (jb_one (js_forN PassesOwn.never rfl (ji_zip3 rfl mzip (ja_cons (JE.d (je_call G_law_happenings hr rfl n_law_happenings k_law_happenings b_law_happenings (ju_val (JE.d (je_var 0)) ju_nil))) (ja_cons (jd_sub (i := 1) (hu_of hr) (jd_sub (i := 7) (hu_of hr) jd_int (fun _ _ => rfl)) (fun _ _ => rfl)) (ja_cons (jd_sub (i := 1) (hu_of hr) (jd_sub (i := 7) (hu_of hr) jd_int (fun _ _ => rfl)) (fun _ _ => rfl)) ja_nil)))) (jg_tup rfl (jgs_cons (jg_name (i := 10) sc__law_due.nd rfl (by first | exact Or.inl rfl | exact Or.inr rfl)) (jgs_cons (jg_name (i := 11) sc__law_due.nd rfl (by first | exact Or.inl rfl | exact Or.inr rfl)) (jgs_cons (jg_name (i := 12) sc__law_due.nd rfl (by first | exact Or.inl rfl | exact Or.inr rfl)) jgs_nil)))) (jb_one (js_if (jt_notInS (i := 5) hr.units (JE.d (je_tup (ja_cons (JE.d (je_var 11)) (ja_cons (JE.d (je_var 12)) ja_nil))))) (jb_cons (js_expr (JD.e (jd_meth (i := 5) PySem.F.slot_list_append PySem.F.type_list_append mt_append mp_append hd_append (ja_cons (JE.d (je_tup (ja_cons (JE.d (je_var 11)) (ja_cons (JE.d (je_var 12)) ja_nil)))) ja_nil))))
    (jb_one (js_expr (JD.e (jd_meth (i := 9) PySem.F.slot_list_append PySem.F.type_list_append mt_append mp_append hd_append (ja_cons (JE.d (je_tup (ja_cons (JE.d (je_tup (ja_cons (JE.d (je_var 11)) (ja_cons (JE.d (je_var 12)) ja_nil)))) (ja_cons (JE.d (je_op op_addP (JE.d (je_var 8)) (JE.d (je_tup (ja_cons (JE.d (je_var 10)) ja_nil))))) ja_nil)))) ja_nil)))))) jb_nil)))))
    (jb_one (js_set (i := 6) sc__law_due.nd rfl (by first | exact Or.inl rfl | exact Or.inr rfl) (je_var 9)))))))
    (jb_one (js_ret (JD.e jd_non))))))) hf

def w1_law (f_law_table : FM) (f_law_feed : FM) (f_law_machine : FM) (fparting : FM) (f_law_due : FM) : GS :=
  (sSeq (sSet 9 (eCall fparting (uVal (eF (eVar 1)) (uVal (eF (eVar 4)) (uVal (eF (eVar 5)) (uVal (eF (eVar 7)) (uVal (eF (eVar 8)) uNil)))))))
  (sIf (qB (eF (eP fNe (aCons (eF (eP fRepr (aCons (eF (eVar 9)) aNil))) (aCons (eF (eP fRepr (aCons (eF (eCall f_law_due (uVal (eF (eVar 1)) (uVal (eF (eVar 4)) (uVal (eF (eVar 5)) (uVal (eF (eVar 7)) (uVal (eF (eVar 8)) uNil))))))) aNil))) aNil))))) (sRet (eT (eC (.bl false)))) sNil))
def w2_law (f_law_table : FM) (f_law_feed : FM) (f_law_machine : FM) (fparting : FM) (f_law_due : FM) : GS :=
  (sFor (bName 8) (gRng1 (aCons (eLen 4) aNil)) (w1_law f_law_table f_law_feed f_law_machine fparting f_law_due))
def w3_law (f_law_table : FM) (f_law_feed : FM) (f_law_machine : FM) (fparting : FM) (f_law_due : FM) : GS :=
  (sSeq (sAsg (bTup 2 (bCons (bName 4) (bCons (bName 5) bNil))) (eF (eCall f_law_machine (uMut (eCall f_law_feed (uMut (eVar 0) (uVal (eF (eP fAdd (aCons (eC (.int 1)) (aCons (eF (eVar 3)) aNil)))) uNil))) (uVal (eF (eVar 1)) (uVal (eSub 2 (eF (eVar 3))) uNil))))))
  (sSeq (sSet 6 (eP fRepr (aCons (eF (eP fLst (aCons (eF (eVar 4)) (aCons (eF (eVar 5)) aNil)))) aNil)))
  (sSeq (sFor (bName 7) (gRng1 (aCons (eLen 4) aNil)) (w2_law f_law_table f_law_feed f_law_machine fparting f_law_due))
  (sIf (qB (eF (eP fNe (aCons (eF (eP fRepr (aCons (eF (eP fLst (aCons (eF (eVar 4)) (aCons (eF (eVar 5)) aNil)))) aNil))) (aCons (eF (eVar 6)) aNil))))) (sRet (eT (eC (.bl false)))) sNil))))
def g_law (f_law_table : FM) (f_law_feed : FM) (f_law_machine : FM) (fparting : FM) (f_law_due : FM) : GS :=
  (sSeq (sSet 1 (eCall f_law_table (uMut (eCall f_law_feed (uMut (eVar 0) (uVal (eC (.int 0)) uNil))) uNil)))
  (sSeq (sSet 2 (eP fLst (aCons (eF (eP fLst (aCons (eC (.bl true)) (aCons (eC (.bl false)) aNil)))) (aCons (eF (eP fLst (aCons (eC (.str "yes")) (aCons (eC (.str "no")) (aCons (eC (.str "open")) aNil))))) (aCons (eF (eP fLst (aCons (eC (.str "True")) (aCons (eC (.bl true)) (aCons (eC (.str "")) (aCons (eC (.str "yes")) aNil)))))) aNil)))))
  (sSeq (sFor (bName 3) (gRng1 (aCons (eC (.int 3)) aNil)) (w3_law f_law_table f_law_feed f_law_machine fparting f_law_due))
  (sRet (eT (eC (.bl true)))))))

abbrev s_law : Stmt := top 12
theorem sc_law : FnScope ["_law_script", "_law_table_here", "_law_menus", "_law_k", "_law_nexts", "_law_marks", "_law_kept", "_law_one", "_law_other", "_law_found"] ["_law_script"] (defScope s_law) := ⟨rfl, rfl, rfl, by decide +kernel, rfl, by decide +kernel, by decide +kernel⟩
theorem ok_law {P : Program} {w : World} {K : PySem.W.Frag} {mg : Str → Option Value} {base : Heap} {f : Addr} {fd : FuncData} {n : Nat} {fm : FM} (F : Fun K "law" "law" s_law f fd) (mrange : mg "range" = none) (mrepr : mg "repr" = none) (mlen : mg "len" = none)
    {a_law_table : Addr} {d_law_table : FuncData} {f_law_table : FM} (G_law_table : FnOk P w K mg base CX0 n a_law_table d_law_table ["_law_feed_here"] (spT K 1 f_law_table)) (b_law_table : Binds K d_law_table ["_law_feed_here"] []) (k_law_table : PySem.W.keepIn K (.ref a_law_table) = true) (n_law_table : mg "_law_table" = some (.ref a_law_table))
    {a_law_feed : Addr} {d_law_feed : FuncData} {f_law_feed : FM} (G_law_feed : FnOk P w K mg base CX0 n a_law_feed d_law_feed ["_law_script", "_law_k"] (spT K 2 f_law_feed)) (b_law_feed : Binds K d_law_feed ["_law_script", "_law_k"] []) (k_law_feed : PySem.W.keepIn K (.ref a_law_feed) = true) (n_law_feed : mg "_law_feed" = some (.ref a_law_feed))
    {a_law_machine : Addr} {d_law_machine : FuncData} {f_law_machine : FM} (G_law_machine : FnOk P w K mg base CX0 n a_law_machine d_law_machine ["_law_feed_here", "_law_table_here", "_law_menu"] (spT K 3 f_law_machine)) (b_law_machine : Binds K d_law_machine ["_law_feed_here", "_law_table_here", "_law_menu"] []) (k_law_machine : PySem.W.keepIn K (.ref a_law_machine) = true) (n_law_machine : mg "_law_machine" = some (.ref a_law_machine))
    {aparting : Addr} {dparting : FuncData} {fparting : FM} (Gparting : FnOk P w K mg base CX0 n aparting dparting ["table", "nexts", "words", "one", "other"] (spT K 5 fparting)) (bparting : Binds K dparting ["table", "nexts", "words", "one", "other"] []) (kparting : PySem.W.keepIn K (.ref aparting) = true) (nparting : mg "parting" = some (.ref aparting))
    {a_law_due : Addr} {d_law_due : FuncData} {f_law_due : FM} (G_law_due : FnOk P w K mg base CX0 n a_law_due d_law_due ["_law_table_here", "_law_nexts", "_law_marks", "_law_one", "_law_other"] (spT K 5 f_law_due)) (b_law_due : Binds K d_law_due ["_law_table_here", "_law_nexts", "_law_marks", "_law_one", "_law_other"] []) (k_law_due : PySem.W.keepIn K (.ref a_law_due) = true) (n_law_due : mg "_law_due" = some (.ref a_law_due))
    (hf : ∀ us r, fm us = some r → runB 10 (g_law f_law_table f_law_feed f_law_machine fparting f_law_due) us = some r) : FnOk P w K mg base CX0 (n + 1) f fd ["_law_script"] (spT K 1 fm) :=
  okT (g := g_law f_law_table f_law_feed f_law_machine fparting f_law_due) F sc_law (fun cdv A outer s H E hr => (jb_cons (js_set (i := 1) sc_law.nd rfl (by first | exact Or.inl rfl | exact Or.inr rfl) (je_call G_law_table hr rfl n_law_table k_law_table b_law_table (ju_mut (je_call G_law_feed hr rfl n_law_feed k_law_feed b_law_feed (ju_mut (je_var 0) (ju_val jd_int ju_nil))) ju_nil)))
    (jb_cons (js_set (i := 2) sc_law.nd rfl (by first | exact Or.inl rfl | exact Or.inr rfl) (je_lst (ja_cons (JE.d (je_lst (ja_cons jd_bl (ja_cons jd_bl ja_nil)))) (ja_cons (JE.d (je_lst (ja_cons jd_str (ja_cons jd_str (ja_cons jd_str ja_nil))))) (ja_cons (JE.d (je_lst (ja_cons jd_str (ja_cons jd_bl (ja_cons jd_str (ja_cons jd_str ja_nil)))))) ja_nil)))))
    (jb_cons (js_for PassesOwn.never rfl (ji_range1 rfl mrange (ja_cons jd_int ja_nil)) (jg_name (i := 3) sc_law.nd rfl (by first | exact Or.inl rfl | exact Or.inr rfl)) (jb_cons (js_asg (JE.d (je_call G_law_machine hr rfl n_law_machine k_law_machine b_law_machine (ju_mut (je_call G_law_feed hr rfl n_law_feed k_law_feed b_law_feed (ju_mut (je_var 0) (ju_val (JE.d (je_op op_addP jd_int (JE.d (je_var 3)))) ju_nil))) (ju_val (JE.d (je_var 1)) (ju_val (jd_sub (i := 2) (hu_of hr) (JE.d (je_var 3)) (fun _ _ => rfl)) ju_nil))))) (jg_tup rfl (jgs_cons (jg_name (i := 4) sc_law.nd rfl (by first | exact Or.inl rfl | exact Or.inr rfl)) (jgs_cons (jg_name (i := 5) sc_law.nd rfl (by first | exact Or.inl rfl | exact Or.inr rfl)) jgs_nil))))
    (jb_cons (js_set (i := 6) sc_law.nd rfl (by first | exact Or.inl rfl | exact Or.inr rfl) (je_callB (call_reprP hr.gd hr.units) rfl mrepr PyProof.Rows.Boot.repr (ja_cons (JE.d (je_lst (ja_cons (JE.d (je_var 4)) (ja_cons (JE.d (je_var 5)) ja_nil)))) ja_nil)))
    (jb_cons (js_for PassesOwn.never rfl (ji_range1 rfl mrange (ja_cons (jd_len (i := 4) rfl mlen) ja_nil)) (jg_name (i := 7) sc_law.nd rfl (by first | exact Or.inl rfl | exact Or.inr rfl)) (jb_one (js_for PassesOwn.never rfl (ji_range1 rfl mrange (ja_cons (jd_len (i := 4) rfl mlen) ja_nil)) (jg_name (i := 8) sc_law.nd rfl (by first | exact Or.inl rfl | exact Or.inr rfl)) (jb_cons (js_set (i := 9) sc_law.nd rfl (by first | exact Or.inl rfl | exact Or.inr rfl) (je_call Gparting hr rfl nparting kparting bparting (ju_val (JE.d (je_var 1)) (ju_val (JE.d (je_var 4)) (ju_val (JE.d (je_var 5)) (ju_val (JE.d (je_var 7)) (ju_val (JE.d (je_var 8)) ju_nil)))))))
    (jb_one (js_if (jt_cmp (op_neP hr.units) (JE.d (je_callB (call_reprP hr.gd hr.units) rfl mrepr PyProof.Rows.Boot.repr (ja_cons (JE.d (je_var 9)) ja_nil))) (JE.d (je_callB (call_reprP hr.gd hr.units) rfl mrepr PyProof.Rows.Boot.repr (ja_cons (JE.d (je_call G_law_due hr rfl n_law_due k_law_due b_law_due (ju_val (JE.d (je_var 1)) (ju_val (JE.d (je_var 4)) (ju_val (JE.d (je_var 5)) (ju_val (JE.d (je_var 7)) (ju_val (JE.d (je_var 8)) ju_nil))))))) ja_nil)))) (jb_one (js_ret (JD.e jd_bl))) jb_nil))))))
    (jb_one (js_if (jt_cmp (op_neP hr.units) (JE.d (je_callB (call_reprP hr.gd hr.units) rfl mrepr PyProof.Rows.Boot.repr (ja_cons (JE.d (je_lst (ja_cons (JE.d (je_var 4)) (ja_cons (JE.d (je_var 5)) ja_nil)))) ja_nil))) (JE.d (je_var 6))) (jb_one (js_ret (JD.e jd_bl))) jb_nil))))))
    (jb_one (js_ret (JD.e jd_bl))))))) hf

end K40

end
set_option Elab.async false
set_option linter.all false
set_option maxRecDepth 100000
namespace K40
open PySem L2 Sw Sq Sp
theorem all_mk {l : PySem.W.OpenLaw} {w : World} {K : PySem.W.Frag} {h : Heap} {mg : Str → Option Value} {fa f1 f2 f3 f4 f5 f6 f7 f8 f9 f10 : Addr} (X : K.In h) (G : h.Ns mainGlobals mg) (hfa : mg "law" = some (.ref fa))
    {od1 an1 od2 an2 od3 an3 od4 an4 od5 an5 od6 an6 od7 an7 od8 an8 od9 an9 od10 an10 : Option Addr} {sl1 sl2 sl3 sl4 sl5 sl6 sl7 sl8 sl9 sl10 : Array (Option Value)} {oc1 kV1 dc1 pm1 cd1 ct1 oc2 kV2 dc2 pm2 cd2 ct2 oc3 kV3 dc3 pm3 cd3 ct3 oc4 kV4 dc4 pm4 cd4 ct4 oc5 kV5 dc5 pm5 cd5 ct5 oc6 kV6 dc6 pm6 cd6 ct6 oc7 kV7 dc7 pm7 cd7 ct7 oc8 kV8 dc8 pm8 cd8 ct8 oc9 kV9 dc9 pm9 cd9 ct9 oc10 kV10 dc10 pm10 cd10 ct10 : Value}
    (a1 : PySem.W.nsIn K mainGlobals "happenings_of" = some (some (.ref f1))) (l1 : K.lookup f1 = some ⟨oc1, od1, .func (PySem.W.fnOf "happenings_of" "happenings_of" (defArgs s_happenings_of) (defBody s_happenings_of) (defScope s_happenings_of) .none kV1 dc1 pm1 an1 cd1 ct1), sl1⟩) (c1 : PySem.W.codeIn K cd1 "happenings_of" = true) (k1 : PySem.W.keepIn K (.ref f1) = true)
    (a2 : PySem.W.nsIn K mainGlobals "parting" = some (some (.ref f2))) (l2 : K.lookup f2 = some ⟨oc2, od2, .func (PySem.W.fnOf "parting" "parting" (defArgs s_parting) (defBody s_parting) (defScope s_parting) .none kV2 dc2 pm2 an2 cd2 ct2), sl2⟩) (c2 : PySem.W.codeIn K cd2 "parting" = true) (k2 : PySem.W.keepIn K (.ref f2) = true)
    (a3 : PySem.W.nsIn K mainGlobals "_law_mix" = some (some (.ref f3))) (l3 : K.lookup f3 = some ⟨oc3, od3, .func (PySem.W.fnOf "_law_mix" "_law_mix" (defArgs s__law_mix) (defBody s__law_mix) (defScope s__law_mix) .none kV3 dc3 pm3 an3 cd3 ct3), sl3⟩) (c3 : PySem.W.codeIn K cd3 "_law_mix" = true) (k3 : PySem.W.keepIn K (.ref f3) = true)
    (a4 : PySem.W.nsIn K mainGlobals "_law_feed" = some (some (.ref f4))) (l4 : K.lookup f4 = some ⟨oc4, od4, .func (PySem.W.fnOf "_law_feed" "_law_feed" (defArgs s__law_feed) (defBody s__law_feed) (defScope s__law_feed) .none kV4 dc4 pm4 an4 cd4 ct4), sl4⟩) (c4 : PySem.W.codeIn K cd4 "_law_feed" = true) (k4 : PySem.W.keepIn K (.ref f4) = true)
    (a5 : PySem.W.nsIn K mainGlobals "_law_take" = some (some (.ref f5))) (l5 : K.lookup f5 = some ⟨oc5, od5, .func (PySem.W.fnOf "_law_take" "_law_take" (defArgs s__law_take) (defBody s__law_take) (defScope s__law_take) .none kV5 dc5 pm5 an5 cd5 ct5), sl5⟩) (c5 : PySem.W.codeIn K cd5 "_law_take" = true) (k5 : PySem.W.keepIn K (.ref f5) = true)
    (a6 : PySem.W.nsIn K mainGlobals "_law_table" = some (some (.ref f6))) (l6 : K.lookup f6 = some ⟨oc6, od6, .func (PySem.W.fnOf "_law_table" "_law_table" (defArgs s__law_table) (defBody s__law_table) (defScope s__law_table) .none kV6 dc6 pm6 an6 cd6 ct6), sl6⟩) (c6 : PySem.W.codeIn K cd6 "_law_table" = true) (k6 : PySem.W.keepIn K (.ref f6) = true)
    (a7 : PySem.W.nsIn K mainGlobals "_law_happenings" = some (some (.ref f7))) (l7 : K.lookup f7 = some ⟨oc7, od7, .func (PySem.W.fnOf "_law_happenings" "_law_happenings" (defArgs s__law_happenings) (defBody s__law_happenings) (defScope s__law_happenings) .none kV7 dc7 pm7 an7 cd7 ct7), sl7⟩) (c7 : PySem.W.codeIn K cd7 "_law_happenings" = true) (k7 : PySem.W.keepIn K (.ref f7) = true)
    (a8 : PySem.W.nsIn K mainGlobals "_law_machine" = some (some (.ref f8))) (l8 : K.lookup f8 = some ⟨oc8, od8, .func (PySem.W.fnOf "_law_machine" "_law_machine" (defArgs s__law_machine) (defBody s__law_machine) (defScope s__law_machine) .none kV8 dc8 pm8 an8 cd8 ct8), sl8⟩) (c8 : PySem.W.codeIn K cd8 "_law_machine" = true) (k8 : PySem.W.keepIn K (.ref f8) = true)
    (a9 : PySem.W.nsIn K mainGlobals "_law_due" = some (some (.ref f9))) (l9 : K.lookup f9 = some ⟨oc9, od9, .func (PySem.W.fnOf "_law_due" "_law_due" (defArgs s__law_due) (defBody s__law_due) (defScope s__law_due) .none kV9 dc9 pm9 an9 cd9 ct9), sl9⟩) (c9 : PySem.W.codeIn K cd9 "_law_due" = true) (k9 : PySem.W.keepIn K (.ref f9) = true)
    (a10 : PySem.W.nsIn K mainGlobals "law" = some (some (.ref f10))) (l10 : K.lookup f10 = some ⟨oc10, od10, .func (PySem.W.fnOf "law" "law" (defArgs s_law) (defBody s_law) (defScope s_law) .none kV10 dc10 pm10 an10 cd10 ct10), sl10⟩) (c10 : PySem.W.codeIn K cd10 "law" = true) (k10 : PySem.W.keepIn K (.ref f10) = true)
    (zrange : PySem.W.nsIn K mainGlobals "range" = some none) (zlen : PySem.W.nsIn K mainGlobals "len" = some none) (zenumerate : PySem.W.nsIn K mainGlobals "enumerate" = some none) (zint : PySem.W.nsIn K mainGlobals "int" = some none) (zmin : PySem.W.nsIn K mainGlobals "min" = some none) (ztuple : PySem.W.nsIn K mainGlobals "tuple" = some none) (zrepr : PySem.W.nsIn K mainGlobals "repr" = some none) (zzip : PySem.W.nsIn K mainGlobals "zip" = some none) :
    ∃ fd : FuncData, (∀ (s : Shared) (v : Value), BindsTo s fd ⟨[v], []⟩ [("_law_script", v)]) ∧ ∀ base : Heap, K.In base → base.Ns mainGlobals mg → FnOk l.prog w K mg base CX0 4 fa fd ["_law_script"] (spT K 1 (lawF 63)) := by
  have e := hfa.symm.trans (PySem.W.mg_of X G a10)
  cases e
  have F1 := fun_mk (st := s_happenings_of) l1 c1 k1
  have b1 := F1.binds (ps := ["table"]) fun _ _ _ _ _ _ us hl => match us, hl with | [_], _ => rfl
  have n1 := PySem.W.mg_of X G a1
  have F2 := fun_mk (st := s_parting) l2 c2 k2
  have b2 := F2.binds (ps := ["table", "nexts", "words", "one", "other"]) fun _ _ _ _ _ _ us hl => match us, hl with | [_, _, _, _, _], _ => rfl
  have n2 := PySem.W.mg_of X G a2
  have F3 := fun_mk (st := s__law_mix) l3 c3 k3
  have b3 := F3.binds (ps := ["_law_cell", "_law_k"]) fun _ _ _ _ _ _ us hl => match us, hl with | [_, _], _ => rfl
  have n3 := PySem.W.mg_of X G a3
  have F4 := fun_mk (st := s__law_feed) l4 c4 k4
  have b4 := F4.binds (ps := ["_law_script", "_law_k"]) fun _ _ _ _ _ _ us hl => match us, hl with | [_, _], _ => rfl
  have n4 := PySem.W.mg_of X G a4
  have F5 := fun_mk (st := s__law_take) l5 c5 k5
  have b5 := F5.binds (ps := ["_law_feed_here", "_law_many"]) fun _ _ _ _ _ _ us hl => match us, hl with | [_, _], _ => rfl
  have n5 := PySem.W.mg_of X G a5
  have F6 := fun_mk (st := s__law_table) l6 c6 k6
  have b6 := F6.binds (ps := ["_law_feed_here"]) fun _ _ _ _ _ _ us hl => match us, hl with | [_], _ => rfl
  have n6 := PySem.W.mg_of X G a6
  have F7 := fun_mk (st := s__law_happenings) l7 c7 k7
  have b7 := F7.binds (ps := ["_law_table_here"]) fun _ _ _ _ _ _ us hl => match us, hl with | [_], _ => rfl
  have n7 := PySem.W.mg_of X G a7
  have F8 := fun_mk (st := s__law_machine) l8 c8 k8
  have b8 := F8.binds (ps := ["_law_feed_here", "_law_table_here", "_law_menu"]) fun _ _ _ _ _ _ us hl => match us, hl with | [_, _, _], _ => rfl
  have n8 := PySem.W.mg_of X G a8
  have F9 := fun_mk (st := s__law_due) l9 c9 k9
  have b9 := F9.binds (ps := ["_law_table_here", "_law_nexts", "_law_marks", "_law_one", "_law_other"]) fun _ _ _ _ _ _ us hl => match us, hl with | [_, _, _, _, _], _ => rfl
  have n9 := PySem.W.mg_of X G a9
  have F10 := fun_mk (st := s_law) l10 c10 k10
  have mrange := PySem.W.mg_none_of X G zrange
  have mlen := PySem.W.mg_none_of X G zlen
  have menumerate := PySem.W.mg_none_of X G zenumerate
  have mint := PySem.W.mg_none_of X G zint
  have mmin := PySem.W.mg_none_of X G zmin
  have mtuple := PySem.W.mg_none_of X G ztuple
  have mrepr := PySem.W.mg_none_of X G zrepr
  have mzip := PySem.W.mg_none_of X G zzip
  refine ⟨PySem.W.fnOf "law" "law" (defArgs s_law) (defBody s_law) (defScope s_law) .none kV10 dc10 pm10 an10 cd10 ct10, fun s v => .of_eq rfl, fun base _ _ => ?_⟩
  have Phappenings_of := ok_happenings_of (P := l.prog) (w := w) (K := K) (mg := mg) (base := base) (n := 0) F1 mrange  (fm := hapsF) haps_run
  have P_law_mix := ok__law_mix (P := l.prog) (w := w) (K := K) (mg := mg) (base := base) (n := 0) F3   (fm := mixF) mix_run
  have P_law_happenings := ok__law_happenings (P := l.prog) (w := w) (K := K) (mg := mg) (base := base) (n := 0) F7 mrange  (fm := lhapF) lhap_run
  have Pparting := ok_parting (P := l.prog) (w := w) (K := K) (mg := mg) (base := base) (n := 1) F2 mlen menumerate  (Phappenings_of.mono (by omega)) b1 k1 n1 (fm := partF) part_run
  have P_law_feed := ok__law_feed (P := l.prog) (w := w) (K := K) (mg := mg) (base := base) (n := 1) F4 mlen mint  (P_law_mix.mono (by omega)) b3 k3 n3 (fm := feedF) feed_run
  have P_law_take := ok__law_take (P := l.prog) (w := w) (K := K) (mg := mg) (base := base) (n := 1) F5   (P_law_mix.mono (by omega)) b3 k3 n3 (fm := takeF) take_run
  have P_law_due := ok__law_due (P := l.prog) (w := w) (K := K) (mg := mg) (base := base) (n := 1) F9 mrepr mzip  (P_law_happenings.mono (by omega)) b7 k7 n7 (fm := dueP) dueP_run
  have P_law_table := ok__law_table (P := l.prog) (w := w) (K := K) (mg := mg) (base := base) (n := 2) F6 mrange mmin mtuple  (P_law_take.mono (by omega)) b5 k5 n5 (fm := tabQ) tabQ_run
  have P_law_machine := ok__law_machine (P := l.prog) (w := w) (K := K) (mg := mg) (base := base) (n := 2) F8 mlen mrange mtuple  (P_law_take.mono (by omega)) b5 k5 n5 (P_law_happenings.mono (by omega)) b7 k7 n7 (fm := machF) mach_run
  exact ok_law (P := l.prog) (w := w) (K := K) (mg := mg) (base := base) (n := 3) F10 mrange mrepr mlen  (P_law_table.mono (by omega)) b6 k6 n6 (P_law_feed.mono (by omega)) b4 k4 n4 (P_law_machine.mono (by omega)) b8 k8 n8 (Pparting.mono (by omega)) b2 k2 n2 (P_law_due.mono (by omega)) b9 k9 n9 law40_run
theorem walk {l : PySem.W.OpenLaw} {q : Program} {loose : List Str} {XP : (Str → Option Value) → Heap → Prop} {YP : World → Heap → Prop} {d : DefRec} {K : Params → PySem.W.Frag} (hn : l.most = some 63) (hdf : d.params.defaults = [])
    (hY : ∀ (w : World) (h : Heap), YP w h → (K w.params).In h)
    (F : ∀ (w : World) (mg : Str → Option Value) (fa : Addr) (h : Heap), (K w.params).In h → h.Ns mainGlobals mg → mg d.name = some (.ref fa) →
      ∃ fd : FuncData, (∀ (s : Shared) (u : Value), BindsTo s fd ⟨[u], []⟩ [("_law_script", u)]) ∧ ∀ base : Heap, (K w.params).In base → base.Ns mainGlobals mg → FnOk l.prog w (K w.params) mg base CX0 4 fa fd ["_law_script"] (spT (K w.params) 1 (lawF 63))) :
    PySem.W.WalkO q loose XP YP l.row.toRowW d [] (fun f vs => PySem.call f vs) :=
  L2.walk_of (n := 63) (k := 4) (x := "_law_script") (CX := fun _ => CX0) (sp := fun w => spT (K w.params) 1 (lawF 63)) hn (by decide) hdf ⟨rfl, by decide, by decide, rfl⟩ hY F (fun w H a ns hl hO hS => law_sp hl hO hS) fun _ _ _ _ _ z => z
end K40
open PySem PySem.W PyProof.Rows
set_option maxRecDepth 100000 in
set_option maxHeartbeats 0 in
theorem PySem.Challenge.cw_surewatch_k40_rows_that_part_holds : PySem.Challenge.rw_surewatch_k40_rows_that_part.Holds := by
  w_on; o_law; k_head; (case hw => w_witness2)
  k_fill
  refine K40.walk (l := PySem.Challenge.rw_surewatch_k40_rows_that_part) rfl rfl (fun w h Y => PySem.W.kIn_of Y) ?F
  case F =>
    intro w mg fa h KX G hmg
    refine' K40.all_mk KX G hmg ?a1 ?l1 ?c1 ?k1 ?a2 ?l2 ?c2 ?k2 ?a3 ?l3 ?c3 ?k3 ?a4 ?l4 ?c4 ?k4 ?a5 ?l5 ?c5 ?k5 ?a6 ?l6 ?c6 ?k6 ?a7 ?l7 ?c7 ?k7 ?a8 ?l8 ?c8 ?k8 ?a9 ?l9 ?c9 ?k9 ?a10 ?l10 ?c10 ?k10  ?zrange ?zlen ?zenumerate ?zint ?zmin ?ztuple ?zrepr ?zzip
    (case a1 => k_is); (case l1 => k_is); (case c1 => k_is); (case k1 => k_is)
    (case a2 => k_is); (case l2 => k_is); (case c2 => k_is); (case k2 => k_is)
    (case a3 => k_is); (case l3 => k_is); (case c3 => k_is); (case k3 => k_is)
    (case a4 => k_is); (case l4 => k_is); (case c4 => k_is); (case k4 => k_is)
    (case a5 => k_is); (case l5 => k_is); (case c5 => k_is); (case k5 => k_is)
    (case a6 => k_is); (case l6 => k_is); (case c6 => k_is); (case k6 => k_is)
    (case a7 => k_is); (case l7 => k_is); (case c7 => k_is); (case k7 => k_is)
    (case a8 => k_is); (case l8 => k_is); (case c8 => k_is); (case k8 => k_is)
    (case a9 => k_is); (case l9 => k_is); (case c9 => k_is); (case k9 => k_is)
    (case a10 => k_is); (case l10 => k_is); (case c10 => k_is); (case k10 => k_is)
    (case zrange => k_is); (case zlen => k_is); (case zenumerate => k_is); (case zint => k_is); (case zmin => k_is); (case ztuple => k_is); (case zrepr => k_is); (case zzip => k_is)

