import PyProof.Rows.All
import Wide.All
import OpenK.AllK
import Wide.FinOn
import PyProof.EqAt
import PyProof.EqKinds
import PyProof.TupleCall
import Lean
import PySem.Challenge.RW_surewatch_k37_machines_of_any_thing
section
set_option Elab.async false
set_option linter.all false
set_option maxRecDepth 100000
namespace L2
open PySem PySem.Spec PyProof.Rows
noncomputable abbrev Key:=Sum Int Str
noncomputable def qM:Key→Value→Bool
 | .inl k,v=>Value.isInt k v
 | .inr x,v=>Value.isStrOf x v
noncomputable def JK (w:World):Key→Int
 | .inl k=>hashInt k
 | .inr x=>hashStr w x
theorem cT:∀{k:Key}{v:Value},qM k v=true→(∃i t,k=Sum.inl i∧v=Value.int i t)∨(∃x t,k=Sum.inr x∧v=Value.str x t)
 | .inl i,v,h=>by
  obtain⟨t,e⟩:=Value.isInt_shape (k:=i) (v:=v) h
  exact .inl ⟨i,t,rfl,e⟩
 | .inr x,v,h=>by
  obtain⟨t,e⟩:=Value.isStrOf_shape (x:=x) (v:=v) h
  exact .inr ⟨x,t,rfl,e⟩
theorem xr (i:Int) (t:Tok):qM (.inl i) (.int i t)=true:=by simp[qM,Value.isInt]
theorem xu (x:Str) (t:Tok):qM (.inr x) (.str x t)=true:=by simp[qM,Value.isStrOf]
theorem C5 (a b:Int):decide ((Sum.inl a:Key)=Sum.inl b)=(a == b):=by
 by_cases e:a=b
 ·subst e;simp
 ·have h:¬(Sum.inl a:Key)=Sum.inl b:=fun q=>e (Sum.inl.inj q)
  rw[decide_eq_false h]
  exact(beq_eq_false_iff_ne.mpr e).symm
theorem C6 (a b:Str):decide ((Sum.inr a:Key)=Sum.inr b)=decide (a=b):=by
 by_cases e:a=b
 ·subst e;simp
 ·have h:¬(Sum.inr a:Key)=Sum.inr b:=fun q=>e (Sum.inr.inj q)
  rw[decide_eq_false h,decide_eq_false e]
theorem C7 (a:Int) (b:Str):decide ((Sum.inl a:Key)=Sum.inr b)=false:=decide_eq_false (fun q=>nomatch q)
theorem C8 (a:Str) (b:Int):decide ((Sum.inr a:Key)=Sum.inl b)=false:=decide_eq_false (fun q=>nomatch q)
noncomputable def dg (prog:Program) (w:World):PySem.KeyKind prog w Key where
  is:=qM
  hash:=JK w
  inj := fun v a b ha hb => by
    rcases cT ha with⟨i,t,rfl,rfl⟩ | ⟨x,t,rfl,rfl⟩
    · rcases cT hb with⟨j,u,rfl,e⟩ | ⟨y,u,rfl,e⟩
      · injection e with e1 _;rw[e1]
      · exact nomatch e
    · rcases cT hb with⟨j,u,rfl,e⟩ | ⟨y,u,rfl,e⟩
      · exact nomatch e
      · injection e with e1 _;rw[e1]
  byValue:=fun k v h=>by
    rcases cT h with⟨i,t,rfl,rfl⟩ | ⟨x,t,rfl,rfl⟩ <;> rfl
  pyHash:=fun hv h=>by
    rcases cT hv with⟨i,t,rfl,rfl⟩ | ⟨x,t,rfl,rfl⟩
    · exact wpAny_pyHash_int h
    · exact wpAny_pyHash_str h
  eqBool:=fun hu hv h=>by
    rcases cT hu with⟨i,t,rfl,rfl⟩ | ⟨x,t,rfl,rfl⟩
    · rcases cT hv with⟨j,u,rfl,rfl⟩ | ⟨y,u,rfl,rfl⟩
      · rw[C5] at h;exact wpAny_eqBool_int h
      · rw[C7] at h;exact SeqAt.EqAt.int_str i t y u _ _ _ _ h
    · rcases cT hv with⟨j,u,rfl,rfl⟩ | ⟨y,u,rfl,rfl⟩
      · rw[C8] at h;exact SeqAt.EqAt.str_int x t j u _ _ _ _ h
      · rw[C6] at h;exact wpAny_eqBool_str h
  «strs»:=fun k x t v h=>by
    rcases cT h with⟨i,u,rfl,e⟩ | ⟨y,u,rfl,e⟩
    · exact nomatch e
    · injection e with e1 _
      subst e1
      cases v <;> rfl
theorem sX (prog:Program) (w:World) (i:Int) (t:Tok):(dg prog w).is (.inl i) (.int i t)=true:=xr i t
theorem sY (prog:Program) (w:World) (x:Str) (t:Tok):(dg prog w).is (.inr x) (.str x t)=true:=xu x t
end L2
namespace L2
open PySem PySem.Spec PyProof.Rows
inductive V where
 | cg | bl (b:Bool) | int (i:Int) | str (x:Str) | JL (b:Array UInt8) | flt (b:UInt64) | ref (a:Addr) | ty (n:String)
 deriving DecidableEq
noncomputable def RelV:V→Value→Prop
 | .cg,u=>u=Value.none
 | .bl b,u=>u=Value.bool b
 | .int i,u=>∃t,u=Value.int i t
 | .str x,u=>∃t,u=Value.str x t
 | .JL b,u=>∃t,u=Value.bytes b t
 | .flt b,u=>∃t,u=Value.float b t
 | .ref a,u=>u=Value.ref a
 | .ty n,u=>u=Value.type n
noncomputable abbrev Vals:List V→List Value→Prop:=Paired RelV
theorem Vals.length {xs:List V}{us:List Value}(r:Vals xs us):xs.length=us.length:=Paired.length r
theorem Vals.get:∀{xs:List V}{us:List Value}{i:Nat}{x:V},Vals xs us→xs[i]? =some x→∃u,us[i]? =some u∧RelV x u
 | _,_,_,_,.nil,e=>by simp at e
 | _,_,0,_,.cons r _,e=>by simp at e;subst e;exact⟨_,rfl,r⟩
 | _,_,i+1,x,.cons _ t,e=>by
  obtain⟨u,h1,h2⟩:=Vals.get (i:=i) (x:=x) t (by simpa using e)
  exact⟨u,by simpa using h1,h2⟩
theorem Vals.set {x:V}{u:Value}(r:RelV x u):∀{xs:List V}{us:List Value}(i:Nat),Vals xs us→Vals (xs.set i x) (us.set i u)
 | _,_,_,.nil=>.nil
 | _,_,0,.cons _ t=>.cons r t
 | _,_,i+1,.cons q t=>.cons q (Vals.set r i t)
theorem Vals.append:∀{xs ys:List V}{us ws:List Value},Vals xs us→Vals ys ws→Vals (xs++ys) (us++ws)
 | _,_,_,_,.nil,s=>s
 | _,_,_,_,.cons r t,s=>.cons r (Vals.append t s)
theorem Vals.take:∀{xs:List V}{us:List Value}(n:Nat),Vals xs us→Vals (xs.take n) (us.take n)
 | _,_,0,_=>.nil
 | _,_,_+1,.nil=>.nil
 | _,_,n+1,.cons r t=>.cons r (Vals.take n t)
theorem Vals.drop:∀{xs:List V}{us:List Value}(n:Nat),Vals xs us→Vals (xs.drop n) (us.drop n)
 | _,_,0,r=>r
 | _,_,_+1,.nil=>.nil
 | _,_,n+1,.cons _ t=>Vals.drop n t
noncomputable def oV:Option V→Option Value→Prop
 | some v,some u=>RelV v u
 | none,none=>True
 | _,_=>False
noncomputable def KV {κ:Type}:List (κ×V)→List (κ×Value)→Prop:=Paired fun(p:κ×V) (q:κ×Value)=>p.1=q.1∧RelV p.2 q.2
noncomputable def kV:Key→V
 | .inl i=>.int i
 | .inr x=>.str x
inductive HO where
 | lst (xs:List V)
 | tup (xs:List V)
 | dK (kvs:List (Key×V)) | dT (kvs:List (List Key×V))
 | set (S:Int→Bool) (n:Nat)
 | ins (C dx:Addr) (fs:List (Str×V))
 | own (x:Addr)
 | xd (fs:List (Str×V))
 | met (f x:Addr)
 | jk (lo hi:Int)
 | ju (o:Obj) (u:HO)
 | sW (ps:Array Value)
 | ext (φ:Heap→Prop)
noncomputable abbrev Hp:=Addr→Option HO
noncomputable def upd (H:Hp) (a:Addr) (o:HO):Hp:=fun b=>if b=a then some o else H b
theorem aY {H:Hp}{a:Addr}{o:HO}:upd H a o a=some o:=by unfold upd;rw[if_pos rfl]
theorem aR {H:Hp}{a b:Addr}{o:HO}(h:b≠a):upd H a o b=H b:=by unfold upd;rw[if_neg h]
theorem Fl {H:Hp}{a b:Addr}{o u:HO}(h:H a=some o) (h':H b=some u) (d:o≠u):a≠b:=by
 intro e;subst e;rw[h] at h';exact d (Option.some.inj h')
theorem bL {H:Hp}{a b:Addr}{o:HO}(h:H a=some o) (h':H b=none):a≠b:=by
 intro e;subst e;rw[h] at h';cases h'
section
variable (P:Program) (w:World)
noncomputable def dU (H:Hp) (h:Heap) (a:Addr):HO→Prop
 | .lst xs=>xs.length≤sizeLine∧∃(its:List Value) (n:Nat),Vals xs its∧h.get? a=some {cls:=.type "list",data:=.seq its.toArray n}
 | .tup xs=>xs.length≤sizeLine∧∃its:List Value,Vals xs its∧IsTup h a its.toArray
 | .dK kvs=>kvs.length≤sizeLine∧(a == sysModules)=false∧∃vs,KV kvs vs∧h.DictOf (dg P w) a vs
 | .dT kvs=>kvs.length≤sizeLine∧(a == sysModules)=false∧∃xs:List (List Key×Addr×Value),
   Paired (fun(p:List Key×V) (q:List Key×Addr×Value)=>p.1=q.1∧H q.2.1=some (.tup (p.1.map kV))∧RelV p.2 q.2.2) kvs xs∧
   ∃o es ep,h.get? a=some o∧o.ExactDict∧o.data= .dict es ep∧es.toList=xs.map (entryOfKey (tupleKind (dg P w)))∧(xs.map (·.1)).Nodup
 | .set S n=>h.SetOf (intKind P w) a S n
 | .ins C dx fs=>H dx=some (.own a)∧fs.length≤1000∧dx≠a∧h.get? a=some (PySem.W.instObj C dx)∧
   ∃mA,h.Ns1 dx mA∧(∀f,oV (fs.lookup f) (mA f))∧PySem.Within mA (fs.map (·.1))
 | .own _=>∃o,h.get? a=some o
 | .xd fs=>∃mA,h.Ns1 a mA∧∀f,oV (fs.lookup f) (mA f)
 | .jk lo hi=>∃t u v,h.get? a=some {cls:=.type "range",data:=.fields #[.int lo t,.int hi u,.int 1 v]}
 | .ju o u=>h.get? a=some o∧dU H h a u
 | .sW ps=>h.get? a=some {cls:=.none,data:=.fields ps}
 | .met f x=>h.get? a=some (PySem.W.methodObj (.ref f) (.ref x))
 | .ext φ=>φ h∧(∃o,h.get? a=some o)∧∀h1 h2:Heap,φ h1→(∀o,h1.get? a=some o→h2.get? a=some o)→φ h2
noncomputable def lA (H:Hp) (h:Heap):Prop:=∀a o,H a=some o→dU P w H h a o
end
section
variable {P:Program}{w:World}{H H':Hp}{h h':Heap}{a:Addr}{o:HO}
theorem dU.lt (x:dU P w H h a o):a < h.objs.size:=by
 cases o with
 | lst xs=>obtain⟨_,_,_,_,e⟩:=x;exact Heap.lt_size e
 | tup xs=>obtain⟨_,_,_,p⟩:=x;exact p.lt
 | dK kvs=>obtain⟨_,_,_,_,o,_,_,e,_⟩:=x;exact Heap.lt_size e
 | dT kvs=>obtain⟨_,_,_,_,o,_,_,e,_⟩:=x;exact Heap.lt_size e
 | set S n=>obtain⟨o,_,_,_,e,_⟩:=x;exact Heap.lt_size e
 | ins C dx fs=>obtain⟨_,_,_,e,_⟩:=x;exact Heap.lt_size e
 | own y=>obtain⟨_,e⟩:=x;exact Heap.lt_size e
 | xd fs=>obtain⟨_,⟨_,_,_,e,_⟩,_⟩:=x;exact Heap.lt_size e
 | jk lo hi=>obtain⟨_,_,_,e⟩:=x;exact Heap.lt_size e
 | ju ob u=>obtain⟨e,_⟩:=x;exact Heap.lt_size e
 | sW ps=>exact Heap.lt_size (show h.get? a=some _ from x)
 | met f y=>exact Heap.lt_size (show h.get? a=some _ from x)
 | ext φ=>obtain⟨_,⟨_,e⟩,_⟩:=x;exact Heap.lt_size e
theorem Paired.xw {α β:Type}{F G:α→β→Prop}:∀{l₁:List α}{l₂:List β},Paired F l₁ l₂→(∀a b,F a b→G a b)→Paired G l₁ l₂
 | _,_,.nil,_=>.nil
 | _,_,.cons r t,f=>.cons (f _ _ r) (Paired.xw t f)
theorem dU.stay (x:dU P w H h a o) (k:∀b u,(b=a∨H b=some (.own a))→h.get? b=some u→h'.get? b=some u)
  (ho:∀b,H b=some (.own a)→H' b=some (.own a)) (ht:∀b xs,H b=some (.tup xs)→H' b=some (.tup xs)):dU P w H' h' a o:=by
 induction o with
 | lst xs=>obtain⟨z,its,n,r,e⟩:=x;exact⟨z,its,n,r,k _ _ (.inl rfl) e⟩
 | tup xs=>obtain⟨z,its,r,ob,e,c⟩:=x;exact⟨z,its,r,ob,k _ _ (.inl rfl) e,c⟩
 | dK kvs=>obtain⟨z,y,vs,r,ob,es,ep,e,c⟩:=x;exact⟨z,y,vs,r,ob,es,ep,k _ _ (.inl rfl) e,c⟩
 | dT kvs=>
  obtain⟨z,y,xs,r,ob,es,ep,e,c⟩:=x
  exact⟨z,y,xs,Paired.xw r fun p q z=>⟨z.1,ht _ _ z.2.1,z.2.2⟩,ob,es,ep,k _ _ (.inl rfl) e,c⟩
 | set S n=>obtain⟨ob,es,ep,t,e,c⟩:=x;exact⟨ob,es,ep,t,k _ _ (.inl rfl) e,c⟩
 | ins C dx fs=>
  obtain⟨d,z,ne,e,mA,⟨od,es,ep,e2,c⟩,r⟩:=x
  exact⟨ho _ d,z,ne,k _ _ (.inl rfl) e,mA,⟨od,es,ep,k _ _ (.inr d) e2,c⟩,r⟩
 | own y=>obtain⟨ob,e⟩:=x;exact⟨ob,k _ _ (.inl rfl) e⟩
 | xd fs=>obtain⟨mA,⟨od,es,ep,e,c⟩,r⟩:=x;exact⟨mA,⟨od,es,ep,k _ _ (.inl rfl) e,c⟩,r⟩
 | jk lo hi=>obtain⟨t,u,v,e⟩:=x;exact⟨t,u,v,k _ _ (.inl rfl) e⟩
 | ju ob u ih=>obtain⟨e,q⟩:=x;exact⟨k _ _ (.inl rfl) e,ih q⟩
 | sW ps=>
  have e:h.get? a=some {cls:=.none,data:=.fields ps}:=x
  show h'.get? a=some {cls:=.none,data:=.fields ps}
  exact k a _ (.inl rfl) e
 | met f y=>
  have e:h.get? a=some (PySem.W.methodObj (.ref f) (.ref y)):=x
  show h'.get? a=some (PySem.W.methodObj (.ref f) (.ref y))
  exact k a _ (.inl rfl) e
 | ext φ=>obtain⟨p,⟨o,e⟩,st⟩:=x;exact⟨st _ _ p fun o q=>k _ _ (.inl rfl) q,⟨o,k _ _ (.inl rfl) e⟩,st⟩
theorem lA.lt (x:lA P w H h) (e:H a=some o):a < h.objs.size:=(x a o e).lt
theorem lA.fresh (x:lA P w H h) (e:h.objs.size≤a):H a=none:=by
 cases q:H a with
 | none=>rfl
 | some u=>exact absurd (Nat.lt_of_lt_of_le (x.lt q) e) (Nat.lt_irrefl _)
theorem lA.kept (x:lA P w H h) (k:∀b u,h.get? b=some u→h'.get? b=some u):lA P w H h':=fun a o e=>
 (x a o e).stay (fun b u _ q=>k b u q) (fun _ q=>q) fun _ _ q=>q
theorem lA.laid (x:lA P w H h) (k:∀b u,h.get? b=some u→h'.get? b=some u) (hp:h.objs.size≤a) (new:dU P w (upd H a o) h' a o):lA P w (upd H a o) h':=fun b u e=>by
 have hn:=x.fresh hp
 by_cases hb:b=a
 ·subst hb;rw[aY] at e;cases e;exact new
 ·rw[aR hb] at e
  exact(x b u e).stay (fun c v _ q=>k c v q) (fun c q=>by rw[aR (bL q hn)];exact q) fun c xs q=>by rw[aR (bL q hn)];exact q
end
noncomputable def Rd (H:Hp) (a:Addr) (u:HO):Prop:=H a=some u∨∃o,H a=some (.ju o u)
theorem Rd.of {H:Hp}{a:Addr}{u:HO}(h:H a=some u):Rd H a u:=.inl h
theorem Rd.ok {P:Program}{w:World}{H:Hp}{h:Heap}{a:Addr}{u:HO}(r:Rd H a u) (x:lA P w H h):dU P w H h a u:=by
 rcases r with r | ⟨o,r⟩
 ·exact x a u r
 ·obtain⟨_,q⟩:=x a _ r
  exact q
noncomputable def Fo:Option HO→Prop
 | some (.lst _)=>True
 | some (.dK _)=>True
 | some (.dT _)=>True
 | some (.set _ _)=>True
 | some (.ins _ _ _)=>True
 | some (.ext _)=>True
 | _=>False
section
variable {P:Program}{w:World}{H:Hp}{h h':Heap}{x e:Addr}{o':HO}
theorem lA.write (ok : lA P w H h) (mu : Fo (H x)) (he : e = x ∨ H e = some (.own x)) (k : ∀ b u, b ≠ e → h.get? b = some u → h'.get? b = some u) (EN : ∃ u, h'.get? e = some u)
    (new:dU P w (upd H x o') h' x o'):lA P w (upd H x o') h':=fun b u q=>by
  have Fp:∀c y,H c=some (.own y)→c≠x:=fun c y r z=>by subst z;rw[r] at mu;exact mu
  have JM:∀c xs,H c=some (.tup xs)→c≠x:=fun c xs r z=>by subst z;rw[r] at mu;exact mu
  by_cases hb:b=x
  · subst hb;rw[aY] at q;cases q;exact new
  · rw[aR hb] at q
    by_cases C9:b=e
    · have q':H b=some (.own x):=by
        rcases he with z | z
        · exact absurd (C9.trans z) hb
        · rw[C9];exact z
      rw[q] at q';cases q'
      obtain⟨v,hv⟩:=EN
      exact⟨v,by rw[C9];exact hv⟩
    · refine(ok b u q).stay (fun c v hc r=>k c v ?_ r) (fun c r=>by rw[aR (Fp c b r)];exact r) fun c xs r=>by rw[aR (JM c xs r)];exact r
      rcases hc with rfl | hc
      · exact C9
      · rintro rfl
        rcases he with z | z
        · exact Fp c b hc z
        · rw[hc] at z;cases z;exact hb rfl
end
structure Un (fs ex:List Addr) (H H':Hp) (h h':Heap):Prop where
 keep:∀b o,h.get? b=some o→H b=none→b∉fs→b∉ex→h'.get? b=some o
 slot:∀b o,h.get? b=some o→H b=none→b∈fs→b∉ex→∃sl,h'.get? b=some {o with slots:=sl}
 free:∀b o,h.get? b=some o→H b=none→b∉ex→H' b=none
 there:∀b o,h.get? b=some o→b∉ex→∃o',h'.get? b=some o'
 tups:∀b xs,H b=some (.tup xs)→H' b=some (.tup xs)
 mj:∀b o u,H b=some (.ju o u)→H' b=some (.ju o u)
 m9:∀b ps,H b=some (.sW ps)→∃more,H' b=some (.sW (ps++more))
section
variable {fs fs' ex ex':List Addr}{H H1 H2:Hp}{h h1 h2 h':Heap}{a x e:Addr}{o:HO}
theorem Un.any (u:Un fs ex H H1 h h1){b:Addr}{ob:Obj}(q:h.get? b=some ob) (n:H b=none) (hx:b∉ex):∃sl,h1.get? b=some {ob with slots:=sl}:=by
 by_cases hb:b∈fs
 ·exact u.slot b ob q n hb hx
 ·exact⟨ob.slots,u.keep b ob q n hb hx⟩
theorem Un.trans (a:Un fs ex H H1 h h1) (b:Un fs ex H1 H2 h1 h2):Un fs ex H H2 h h2 where
 keep:=fun c ob q n hc hx=>b.keep c ob (a.keep c ob q n hc hx) (a.free c ob q n hx) hc hx
 slot:=fun c ob q n hc hx=>by
  obtain⟨sl,e1⟩:=a.slot c ob q n hc hx
  obtain⟨JN,e2⟩:=b.slot c _ e1 (a.free c ob q n hx) hc hx
  exact⟨JN,e2⟩
 free:=fun c ob q n hx=>by
  obtain⟨o',e1⟩:=a.there c ob q hx
  exact b.free c o' e1 (a.free c ob q n hx) hx
 there:=fun c ob q hx=>by
  obtain⟨o',e1⟩:=a.there c ob q hx
  exact b.there c o' e1 hx
 tups:=fun c xs q=>b.tups c xs (a.tups c xs q)
 mj:=fun c ob xs q=>b.mj c ob xs (a.mj c ob xs q)
 m9:=fun c ps q=>by
  obtain⟨m1,e1⟩:=a.m9 c ps q
  obtain⟨m2,e2⟩:=b.m9 c _ e1
  exact⟨m1++m2,by rw[e2,Array.append_assoc]⟩
theorem Un.kept (k:∀b u,h.get? b=some u→h'.get? b=some u):Un fs ex H H h h':=
 ⟨fun b ob q _ _ _=>k b ob q,fun b ob q _ _ _=>⟨ob.slots,k b ob q⟩,fun _ _ _ n _=>n,fun b ob q _=>⟨ob,k b ob q⟩,fun _ _ q=>q,fun _ _ _ q=>q,fun _ ps q=>⟨#[],by rw[q];simp⟩⟩
theorem Un.refl:Un fs ex H H h h:=Un.kept fun _ _ q=>q
theorem Un.laid (k:∀b u,h.get? b=some u→h'.get? b=some u) (hp:h.objs.size≤a) (hn:H a=none):Un fs ex H (upd H a o) h h' where
 keep:=fun b u q _ _ _=>k b u q
 slot:=fun b u q _ _ _=>⟨u.slots,k b u q⟩
 free:=fun b u q n _=>by rw[aR (Nat.ne_of_lt (Nat.lt_of_lt_of_le (Heap.lt_size q) hp))];exact n
 there:=fun b u q _=>⟨u,k b u q⟩
 tups:=fun b xs q=>by rw[aR (bL q hn)];exact q
 mj:=fun b u xs q=>by rw[aR (bL q hn)];exact q
 m9:=fun b ps q=>⟨#[],by rw[aR (bL q hn),q];simp⟩
theorem Un.write (mu:Fo (H x)) (he:e=x∨H e=some (.own x)) (k:∀b u,b≠e→h.get? b=some u→h'.get? b=some u) (EN:∃u,h'.get? e=some u):Un fs ex H (upd H x o) h h':=by
 have hx:∀b,H b=none→b≠x:=fun b n z=>by subst z;rw[n] at mu;exact mu
 have hb:∀b,H b=none→b≠e:=fun b n z=>by
  subst z
  rcases he with r | r
  ·exact hx b n r
  ·rw[n] at r;cases r
 have hm:∀b u,H b=some u→¬Fo (some u)→b≠x:=fun b u q nm z=>by subst z;rw[q] at mu;exact nm mu
 refine⟨fun b u q n _ _=>k b u (hb b n) q,fun b u q n _ _=>⟨u.slots,k b u (hb b n) q⟩,fun b u q n _=>by rw[aR (hx b n)];exact n,fun b u q _=>?_,
  fun b xs q=>by rw[aR (hm b _ q fun z=>z)];exact q,fun b u xs q=>by rw[aR (hm b _ q fun z=>z)];exact q,fun b ps q=>⟨#[],by rw[aR (hm b _ q fun z=>z),q];simp⟩⟩
 by_cases C9:b=e
 ·subst C9;exact EN
 ·exact⟨u,k b u C9 q⟩
theorem Un.mono (u:Un fs ex H H1 h h1) (hs:∀b∈fs,b∈fs') (hx:∀b∈ex,b∈ex'):Un fs' ex' H H1 h h1:=
 ⟨fun b ob q n hb he=>u.keep b ob q n (fun z=>hb (hs b z)) fun z=>he (hx b z),fun _ _ q n _ he=>u.any q n fun z=>he (hx _ z),fun b ob q n he=>u.free b ob q n fun z=>he (hx b z),fun b ob q he=>u.there b ob q fun z=>he (hx b z),u.tups,u.mj,u.m9⟩
end
noncomputable def Ip (h:Heap) (H:Hp):List Addr:=(List.range h.objs.size).filter fun a=>(H a).isSome
noncomputable def rQ (h:Heap) (H:Hp):Heap:=PySem.W.hideAll h (Ip h H)
theorem xx (h:Heap) (H:Hp):(rQ h H).objs.size=h.objs.size:=PySem.W.hideAll_size _ _
theorem zg {h:Heap}{H:Hp}{b:Addr}{o:Obj}(e:h.get? b=some o) (n:H b=none):(rQ h H).get? b=some o:=
 PySem.W.hideAll_get _ e fun hm=>by
  have q:(H b).isSome=true:=(List.mem_filter.mp hm).2
  rw[n] at q;simp at q
theorem Bc {h:Heap}{H:Hp}{b:Addr}{o:Obj}(e:(rQ h H).get? b=some o):h.get? b=some o∧H b=none:=by
 have e':h.get? b=some o:=PySem.W.of_hideAll (Ip h H) e
 refine⟨e',?_⟩
 cases q:H b with
 | none=>rfl
 | some x=>
  have hm:b∈Ip h H:=List.mem_filter.mpr ⟨List.mem_range.mpr (Heap.lt_size e'),by simp[q]⟩
  have z:(rQ h H).get? b=none:=PySem.W.hideAll_none (Ip h H) hm
  rw[z] at e;cases e
noncomputable def Bd (g h:Heap) (L:Addr):List (Addr×Obj):=(List.range h.objs.size).filterMap fun a=>if a=L∨(g.get? a).isSome=true then none else(h.get? a).map fun o=>(a,o)
noncomputable def rest (g h:Heap) (L d:Addr):List (Addr×Obj):=(Bd g h L).filter fun p=>decide (p.1≠d)
end L2
namespace L2
open PySem PySem.Spec PyProof.Rows
structure Mod (K:PySem.W.Frag) (mg:Str→Option Value) (base:Heap):Prop where
 Iq:K.In base
 glob:base.Ns mainGlobals mg
 blt:∃mb,base.Ns builtinsNs mb∧∀x:Str,x≠"__name__"→mb x=bootBuiltins x
 nolimit:base.NoLimit
structure Cx where
 prog:Program
 w:World
 K:PySem.W.Frag
 mg:Str→Option Value
 base:Heap
 A:Around
 N:List Str
 s₀:Shared
 H₀:Hp
 env:Env
 outer:List Env
 stack:List Env
 ex:List Addr
 fn:Str→Bool
 calm:Bool
 pn:List (Addr×Obj)
 xe:Value→Shared→Prop
noncomputable def frs (l:List Env):List Addr:=l.filterMap (·.frame)
noncomputable abbrev Cx.fs (X:Cx):List Addr:=frs X.outer
noncomputable def A7 (sc:Scope) (x:Str):Prop:=sc.names.lookup x=some .local∨sc.names.lookup x=some .cell∨sc.names.lookup x=some .free
noncomputable def Loc (sc:Scope) (x:Str):Prop:=sc.names.lookup x=some .local∨sc.names.lookup x=some .cell
noncomputable def Look (env:Env) (h:Heap) (m:Str→Option Value) (x:Str) (u:Value):Prop:=
 (env.kindOf x=some .local∧m x=some u)∨((env.kindOf x=some .cell∨env.kindOf x=some .free)∧∃c,env.cells.lookup x=some c∧h.IsCell c (some u))
structure Cx.Ok (X:Cx):Prop where
 mod:Mod X.K X.mg X.base
 kind:X.env.scope.kind= .function
 glob:X.env.globals=mainGlobals
 blt:X.env.builtins=builtinsNs
 above:X.s₀.heap.objs.size≤X.env.locals
 inj:∀x y c,X.env.cells.lookup x=some c→X.env.cells.lookup y=some c→x=y
 has:∀x,(X.env.kindOf x=some .cell∨X.env.kindOf x=some .free)→∃c,X.env.cells.lookup x=some c
 Fq:∀x c,X.fn x=true→X.env.cells.lookup x=some c→X.s₀.heap.objs.size≤c
 hd:X.calm=true→X.A.handled=none
 frames:X.A.frames=some X.stack
 stk:X.stack=X.outer∨(X.stack=X.env :: X.outer∧X.env.frame=some X.env.locals)
 JP:∀b∈X.ex,b≠X.env.locals∧∀x c,X.env.cells.lookup x=some c→c≠b
 bs:∀b o,X.base.get? b=some o→X.s₀.heap.get? b=some o∧X.H₀ b=none
 Be:X.base.objs.size≤X.s₀.heap.objs.size
 zh:∀b o,X.base.get? b=some o→b∉X.ex
 zj:∀b∈X.ex,b∉X.fs
 oW:X.s₀.heap.FunFrames X.base X.outer
 Dc:∀b∈X.fs,X.H₀ b=none
structure Inv (X:Cx) (pins:List (Addr×Obj)) (σ:List (Option V)) (H:Hp) (s:Shared):Prop where
 ok:X.Ok
 os:s.os=X.s₀.os
 bare:AllBare s.gens
 base:Un X.fs X.ex X.H₀ H X.s₀.heap s.heap
 loc:∃m,s.heap.Ns X.env.locals m∧∀(i:Nat) (x:Str) (v:V),X.N[i]? =some x→σ[i]? =some (some v)→A7 X.env.scope x→∃u,RelV v u∧Look X.env s.heap m x u
 cell:∀x c,X.env.cells.lookup x=some c→∃v,s.heap.IsCell c v
 free:H X.env.locals=none
 jZ:∀x c,X.env.cells.lookup x=some c→H c=none
 pin:∀p∈X.pn++pins,s.heap.get? p.1=some p.2∧H p.1=none∧p.1≠X.env.locals∧p.1∉X.fs∧∀v,p.2.data≠.cell v
 hok:lA X.prog X.w H s.heap
 len:σ.length=X.N.length
section
variable {X:Cx}{pins:List (Addr×Obj)}{σ:List (Option V)}{H H':Hp}{s:Shared}{h':Heap}
theorem Cx.Ok.jf (ok:X.Ok){b:Addr}{o:Obj}(e:X.base.get? b=some o):b∉X.fs:=fun hb=>by
 have:=(ok.oW.mem hb).1
 rw[e] at this;cases this
theorem Inv.bs (I:Inv X pins σ H s):∀b o,X.base.get? b=some o→s.heap.get? b=some o∧H b=none:=fun b o e=>
 ⟨I.base.keep b o (I.ok.bs b o e).1 (I.ok.bs b o e).2 (I.ok.jf e) (I.ok.zh b o e),I.base.free b o (I.ok.bs b o e).1 (I.ok.bs b o e).2 (I.ok.zh b o e)⟩
theorem Inv.bk (I:Inv X pins σ H s):∀b o,X.base.get? b=some o→s.heap.get? b=some o:=fun b o e=>(I.bs b o e).1
theorem Inv.mod (I:Inv X pins σ H s):Mod X.K X.mg X.base:=I.ok.mod
theorem Inv.we (I:Inv X pins σ H s):X.K.In s.heap:=I.ok.mod.Iq.keeps I.bk
theorem Inv.nolimit (I:Inv X pins σ H s):s.heap.NoLimit:=I.ok.mod.nolimit.keeps I.bk
theorem Inv.lt (I:Inv X pins σ H s):X.env.locals < s.heap.objs.size:=let⟨_,hn,_⟩:=I.loc;hn.lt
theorem Inv.sz (I:Inv X pins σ H s):X.s₀.heap.objs.size≤s.heap.objs.size:=Nat.le_trans I.ok.above (Nat.le_of_lt I.lt)
theorem Inv.Ft (I:Inv X pins σ H s){a:Addr}(h:s.heap.objs.size≤a):a∉X.fs:=fun hb=>by
 obtain⟨_,o,ho,_⟩:=I.ok.oW.mem hb
 exact absurd (Nat.lt_of_lt_of_le (Heap.lt_size ho) (Nat.le_trans I.sz h)) (Nat.lt_irrefl _)
theorem Inv.Dd (I:Inv X pins σ H s):∀x c,X.env.cells.lookup x=some c→c≠X.env.locals:=fun x c e z=>by
 obtain⟨v,o,ho,hd⟩:=I.cell x c e
 obtain⟨m,⟨o',es,ep,ho',hd',_⟩,_⟩:=I.loc
 rw[z,ho'] at ho;cases ho;rw[hd'] at hd;cases hd
theorem Inv.oW (I:Inv X pins σ H s):s.heap.FunFrames X.base X.outer:=by
 have all:∀(l:List Env),(∀b∈frs l,b∈X.fs)→X.s₀.heap.FunFrames X.base l→s.heap.FunFrames X.base l:=by
  intro l
  induction l with
  | nil=>intro _ _;trivial
  | cons env r ih=>
   intro hs hl
   obtain⟨hk,⟨L,o,hf,hn,ho,hd⟩,hr⟩:=hl
   have hL:L∈X.fs:=hs L (by unfold frs;rw[List.filterMap_cons,hf];exact List.mem_cons_self)
   obtain⟨sl,e⟩:=I.base.slot L o ho (I.ok.Dc L hL) hL fun z=>I.ok.zj L z hL
   exact⟨hk,⟨L,_,hf,hn,e,hd⟩,ih (fun b hb=>hs b (by unfold frs;rw[List.filterMap_cons,hf];exact List.mem_cons_of_mem _ hb)) hr⟩
 exact all X.outer (fun _ hb=>hb) I.ok.oW
theorem Inv.stack (I:Inv X pins σ H s):s.heap.FunFrames X.base X.stack:=by
 rcases I.ok.stk with e | ⟨e,hf⟩
 ·rw[e];exact I.oW
 ·rw[e]
  obtain⟨m,hn,_⟩:=I.loc
  refine .cons (by rw[I.ok.kind];decide) hf hn ?_ I.oW
  exact Heap.get?_none_of_le (Nat.le_trans I.ok.Be I.ok.above)
theorem Inv.rR (I:Inv X pins σ H s):∀b∈frs X.stack,b∈X.env.locals :: X.fs:=fun b hb=>by
 rcases I.ok.stk with e | ⟨e,hf⟩
 ·rw[e] at hb;exact List.mem_cons_of_mem _ hb
 ·rw[e] at hb
  unfold frs at hb
  rw[List.filterMap_cons,hf] at hb
  exact hb
theorem Inv.wg (I:Inv X pins σ H s):∀b∈frs X.stack,H b=none:=fun b hb=>by
 rcases List.mem_cons.mp (I.rR b hb) with e | hb
 ·rw[e];exact I.free
 ·obtain⟨_,o,ho,_⟩:=I.ok.oW.mem hb
  exact I.base.free b o ho (I.ok.Dc b hb) fun z=>I.ok.zj b z hb
theorem Inv.step {g':Array GenState}{t':Nat}{d':Drawn}{ch:List Addr}(I:Inv X pins σ H s)
  (hch:∀b∈ch,(b∈X.ex∨X.s₀.heap.objs.size≤b)∧b≠X.env.locals∧(∀x c,X.env.cells.lookup x=some c→c≠b)∧∀p∈X.pn++pins,p.1≠b)
  (keep:∀b o,b≠X.env.locals→b∉X.fs→b∉ch→s.heap.get? b=some o→H b=none→h'.get? b=some o)
  (slot:∀b o,b≠X.env.locals→b∈X.fs→b∉ch→s.heap.get? b=some o→H b=none→∃sl,h'.get? b=some {o with slots:=sl}) (free:∀b o,b∉ch→s.heap.get? b=some o→H b=none→H' b=none)
  (there:∀b o,b∉ch→s.heap.get? b=some o→∃o',h'.get? b=some o')
  (tups:∀b xs,H b=some (.tup xs)→H' b=some (.tup xs)) (mj:∀b o u,H b=some (.ju o u)→H' b=some (.ju o u)) (m9:∀b ps,H b=some (.sW ps)→∃more,H' b=some (.sW (ps++more)))
  (ns:∀m,s.heap.Ns X.env.locals m→h'.Ns X.env.locals m) (hok:lA X.prog X.w H' h') (hg:AllBare g'):
  Inv X pins σ H' {s with heap:=h',gens:=g',drawn:=d',toks:=t'}:=by
 have OD:∀b o,X.s₀.heap.get? b=some o→b≠X.env.locals:=fun b o e=>Nat.ne_of_lt (Nat.lt_of_lt_of_le (Heap.lt_size e) I.ok.above)
 have Ir:∀b o,X.s₀.heap.get? b=some o→b∉X.ex→b∉ch:=fun b o e hx hb=>by
  rcases(hch b hb).1 with z | z
  ·exact hx z
  ·exact absurd (Nat.lt_of_lt_of_le (Heap.lt_size e) z) (Nat.lt_irrefl _)
 have cellK:∀x c,X.env.cells.lookup x=some c→∀v,s.heap.IsCell c v→h'.IsCell c v:=fun x c e v ⟨o,ho,hd⟩=>by
  have Fv:c∉ch:=fun z=>(hch c z).2.2.1 x c e rfl
  by_cases hc:c∈X.fs
  ·obtain⟨sl,q⟩:=slot c o (I.Dd x c e) hc Fv ho (I.jZ x c e)
   exact⟨_,q,hd⟩
  ·exact⟨o,keep c o (I.Dd x c e) hc Fv ho (I.jZ x c e),hd⟩
 refine⟨I.ok,I.os,hg,⟨fun b o e n hb hx=>?_,fun b o e n hb hx=>?_,fun b o e n hx=>?_,fun b o e hx=>?_,fun b xs e=>tups b xs (I.base.tups b xs e),fun b o xs e=>mj b o xs (I.base.mj b o xs e),fun b ps e=>?_⟩,?_,fun x c e=>?_,?_,fun x c e=>?_,fun p hp=>?_,hok,I.len⟩
 ·exact keep b o (OD b o e) hb (Ir b o e hx) (I.base.keep b o e n hb hx) (I.base.free b o e n hx)
 ·obtain⟨sl,e1⟩:=I.base.slot b o e n hb hx
  obtain⟨JN,e2⟩:=slot b _ (OD b o e) hb (Ir b o e hx) e1 (I.base.free b o e n hx)
  exact⟨JN,e2⟩
 ·obtain⟨o',e1⟩:=I.base.there b o e hx
  exact free b o' (Ir b o e hx) e1 (I.base.free b o e n hx)
 ·obtain⟨o',e1⟩:=I.base.there b o e hx
  exact there b o' (Ir b o e hx) e1
 ·obtain⟨m1,e1⟩:=I.base.m9 b ps e
  obtain⟨m2,e2⟩:=m9 b _ e1
  exact⟨m1++m2,by rw[e2,Array.append_assoc]⟩
 ·obtain⟨m,hn,hl⟩:=I.loc
  refine⟨m,ns m hn,fun i x v e1 e2 e3=>?_⟩
  obtain⟨u,r,l⟩:=hl i x v e1 e2 e3
  refine⟨u,r,?_⟩
  rcases l with l | ⟨k,c,e,z⟩
  ·exact .inl l
  ·exact .inr ⟨k,c,e,cellK x c e _ z⟩
 ·obtain⟨v,z⟩:=I.cell x c e
  exact⟨v,cellK x c e v z⟩
 ·obtain⟨m,⟨o,_,_,ho,_⟩,_⟩:=I.loc
  exact free _ o (fun z=>(hch _ z).2.1 rfl) ho I.free
 ·obtain⟨v,o,ho,hd⟩:=I.cell x c e
  exact free c o (fun z=>(hch c z).2.2.1 x c e rfl) ho (I.jZ x c e)
 ·obtain⟨e,n,ne,nf,d⟩:=I.pin p hp
  have Fv:p.1∉ch:=fun z=>(hch p.1 z).2.2.2 p hp rfl
  exact⟨keep p.1 p.2 ne nf Fv e n,free p.1 p.2 Fv e n,ne,nf,d⟩
theorem Inv.un {t':Nat}(I:Inv X pins σ H s) (u:Un X.fs [] H H' s.heap h') (hok:lA X.prog X.w H' h'):Inv X pins σ H' {s with heap:=h',toks:=t'}:=by
 obtain⟨m,⟨o,es,ep,ho,r⟩,_⟩:=id I.loc
 obtain⟨sl,hL⟩:=u.any ho I.free (by simp)
 exact I.step (g':=s.gens) (d':=s.drawn) (ch:=[]) (fun _ z=>nomatch z) (fun b o _ hb _ e n=>u.keep b o e n hb (by simp)) (fun b o _ hb _ e n=>u.slot b o e n hb (by simp)) (fun b o _ e n=>u.free b o e n (by simp)) (fun b o _ e=>u.there b o e (by simp)) u.tups u.mj u.m9 (fun m' hm=>by
  obtain⟨o',es',JQ,ho',r'⟩:=hm
  rw[ho] at ho';cases ho'
  exact⟨_,es',JQ,hL,r'⟩) hok I.bare
theorem Inv.call {g':Array GenState}{t':Nat}{d':Drawn}{ch:List Addr}(I:Inv X pins σ H s) (u:Un (frs X.stack) ch H H' s.heap h') (hok:lA X.prog X.w H' h') (hg:AllBare g')
  (hch:∀b∈ch,(b∈X.ex∨X.s₀.heap.objs.size≤b)∧b≠X.env.locals∧(∀x c,X.env.cells.lookup x=some c→c≠b)∧∀p∈X.pn++pins,p.1≠b):
  Inv X pins σ H' {s with heap:=h',gens:=g',drawn:=d',toks:=t'}:=by
 obtain⟨m,⟨o,es,ep,ho,r⟩,_⟩:=id I.loc
 obtain⟨sl,hL⟩:=u.any ho I.free fun z=>(hch _ z).2.1 rfl
 exact I.step (ch:=ch) hch (fun b o hL hb hc e n=>u.keep b o e n (fun z=>(List.mem_cons.mp (I.rR b z)).elim hL hb) hc) (fun b o _ _ hc e n=>u.any e n hc) (fun b o hc e n=>u.free b o e n hc) (fun b o hc e=>u.there b o e hc) u.tups u.mj u.m9 (fun m' hm=>by
  obtain⟨o',es',JQ,ho',r'⟩:=hm
  rw[ho] at ho';cases ho'
  exact⟨_,es',JQ,hL,r'⟩) hok hg
theorem Inv.turned {t':Nat}{it:Addr}(I:Inv X pins σ H s) (k:∀b o,b≠it→s.heap.get? b=some o→h'.get? b=some o) (hn:H it=none) (hL:it≠X.env.locals)
  (h1:it∈X.ex∨X.s₀.heap.objs.size≤it) (h2:∀x c,X.env.cells.lookup x=some c→c≠it) (h3:∀p∈X.pn++pins,p.1≠it):Inv X pins σ H {s with heap:=h',toks:=t'}:=by
 have OE:∀b u,H b=some u→b≠it:=fun b u e z=>by rw[z,hn] at e;cases e
 refine I.step (g':=s.gens) (d':=s.drawn) (ch:=[it]) (fun b hb=>?_) (fun b o _ _ hc e _=>k b o (fun z=>hc (by simp[z])) e) (fun b o _ _ hc e _=>⟨o.slots,k b o (fun z=>hc (by simp[z])) e⟩) (fun _ _ _ _ n=>n)
  (fun b o hc e=>⟨o,k b o (fun z=>hc (by simp[z])) e⟩) (fun _ _ e=>e) (fun _ _ _ e=>e) (fun b ps e=>⟨#[],by rw[e];simp⟩) (fun m hm=>?_) (fun b u e=>?_) I.bare
 ·have e:b=it:=by simpa using hb
  subst e
  exact⟨h1,hL,h2,h3⟩
 ·obtain⟨o,es,ep,ho,r⟩:=hm
  exact⟨o,es,ep,k _ o (Ne.symm hL) ho,r⟩
 ·refine(I.hok b u e).stay (fun c v hc q=>k c v ?_ q) (fun _ q=>q) fun _ _ q=>q
  rcases hc with z | z
  ·rw[z];exact OE b u e
  ·exact OE c _ z
theorem Inv.tok (I:Inv X pins σ H s) (t:Nat):Inv X pins σ H {s with toks:=t}:=I.un (h':=s.heap) (t':=t) Un.refl I.hok
theorem Inv.kept {t':Nat}(I:Inv X pins σ H s) (k:∀b u,s.heap.get? b=some u→h'.get? b=some u):Inv X pins σ H {s with heap:=h',toks:=t'}:=I.un (Un.kept k) (I.hok.kept k)
theorem Inv.laid {a:Addr}{o:HO}{t':Nat}(I:Inv X pins σ H s) (k:∀b u,s.heap.get? b=some u→h'.get? b=some u) (hp:s.heap.objs.size≤a) (new:dU X.prog X.w (upd H a o) h' a o):
  Inv X pins σ (upd H a o) {s with heap:=h',toks:=t'}:=I.un (Un.laid k hp (I.hok.fresh hp)) (I.hok.laid k hp new)
theorem Inv.write {x e:Addr}{o:HO}{t':Nat}(I:Inv X pins σ H s) (mu:Fo (H x)) (he:e=x∨H e=some (.own x)) (k:∀b u,b≠e→s.heap.get? b=some u→h'.get? b=some u) (EN:∃u,h'.get? e=some u)
  (new:dU X.prog X.w (upd H x o) h' x o):Inv X pins σ (upd H x o) {s with heap:=h',toks:=t'}:=I.un (Un.write mu he k EN) (I.hok.write mu he k EN new)
theorem Inv.weak {σ':List (Option V)}(I:Inv X pins σ H s) (hl:σ'.length=σ.length) (w:∀(i:Nat) v,σ'[i]? =some (some v)→σ[i]? =some (some v)):Inv X pins σ' H s:=
 ⟨I.ok,I.os,I.bare,I.base,let⟨m,hn,hl'⟩:=I.loc;⟨m,hn,fun i x v e1 e2 e3=>hl' i x v e1 (w i v e2) e3⟩,I.cell,I.free,I.jZ,I.pin,I.hok,hl.trans I.len⟩
theorem Inv.wj {CC:List (Addr×Obj)}(I:Inv X pins σ H s) (h:∀p∈CC,s.heap.get? p.1=some p.2∧H p.1=none∧p.1≠X.env.locals∧p.1∉X.fs∧∀v,p.2.data≠.cell v):Inv X CC σ H s:=
 ⟨I.ok,I.os,I.bare,I.base,I.loc,I.cell,I.free,I.jZ,fun p hp=>(List.mem_append.mp hp).elim (fun z=>I.pin p (List.mem_append_left _ z)) (h p),I.hok,I.len⟩
theorem sZ {N:List Str}(hN:N.Nodup){i j:Nat}{x:Str}(a:N[i]? =some x) (b:N[j]? =some x):i=j:=by
 obtain⟨h1,e1⟩:=List.getElem?_eq_some_iff.mp a
 obtain⟨h2,e2⟩:=List.getElem?_eq_some_iff.mp b
 exact(List.getElem_inj hN).mp (e1.trans e2.symm)
theorem qN {M : Model} {A : Around} {E : Value → Shared → Prop} {i : Nat} {x : Str} {v : V} {u : Value} {Q : Unit → Shared → Prop} (I : Inv X pins σ H s) (hN : X.N.Nodup) (hi : X.N[i]? = some x) (hx : Loc X.env.scope x) (r : RelV v u)
    (h:∀s',Inv X pins (σ.set i (some v)) H s'→(∃a,Heap.SameBut a s.heap s'.heap∧(a=X.env.locals∨X.env.cells.lookup x=some a))→Q () s') (hf:X.fn x=true∨X.env.scope.names.lookup x=some .local:=by first | exact .inl rfl | exact .inr rfl | assumption):wpAny M A (storeName X.env x u) Q E s:=by
  obtain⟨m,hn,hl⟩:=id I.loc
  have hcls:(X.env.scope.kind == .class || (X.env.scope.kind == .module && X.env.locals != X.env.globals))=false:=by rw[I.ok.kind];rfl
  have Fw:i < σ.length:=by rw[I.len];exact(List.getElem?_eq_some_iff.mp hi).1
  have Dd:=I.Dd
  have tracked:∀{a:Addr}{h':Heap},(∃o,s.heap.get? a=some o∧H a=none)→Heap.SameBut a s.heap h'→lA X.prog X.w H h':=fun {a h'} ha hs b ob e=>by
    obtain⟨_,_,hfree⟩:=ha
    refine(I.hok b ob e).stay (fun c w' hc q=>(hs.2 c ?_).trans q) (fun _ q=>q) fun _ _ q=>q
    rintro rfl
    rcases hc with rfl | hc
    · rw[hfree] at e;cases e
    · rw[hfree] at hc;cases hc
  rcases hx with hk | hk
  · refine wpAny_storeName_local hk hn (fun h' hn' hs=>?_) hcls
    obtain⟨oL,_,_,PR,_⟩:=id hn
    refine h _ ⟨I.ok,I.os,I.bare,⟨fun b o e n hb hx=>?_,fun b o e n hb hx=>?_,I.base.free,fun b o e hx=>?_,I.base.tups,I.base.mj,I.base.m9⟩,⟨_,hn',fun j y v' e1 e2 e3=>?_⟩,fun y c e=>?_,I.free,I.jZ,fun p hp=>?_,tracked ⟨oL,PR,I.free⟩ hs,by simpa using I.len⟩ ⟨_,hs,.inl rfl⟩
    · exact(hs.2 b (Nat.ne_of_lt (Nat.lt_of_lt_of_le (Heap.lt_size e) I.ok.above))).trans (I.base.keep b o e n hb hx)
    · obtain⟨sl,e1⟩:=I.base.slot b o e n hb hx
      exact⟨sl,(hs.2 b (Nat.ne_of_lt (Nat.lt_of_lt_of_le (Heap.lt_size e) I.ok.above))).trans e1⟩
    · obtain⟨o',e1⟩:=I.base.there b o e hx
      exact⟨o',(hs.2 b (Nat.ne_of_lt (Nat.lt_of_lt_of_le (Heap.lt_size e) I.ok.above))).trans e1⟩
    · by_cases hj:j=i
      · subst hj
        rw[hi] at e1;cases e1
        rw[List.getElem?_set_self Fw] at e2
        cases e2
        exact⟨u,r,.inl ⟨hk,by simp⟩⟩
      · rw[List.getElem?_set_ne (Ne.symm hj)] at e2
        obtain⟨u',r',q⟩:=hl j y v' e1 e2 e3
        refine⟨u',r',?_⟩
        rcases q with⟨k,e⟩ | ⟨k,c,e,z⟩
        · refine .inl ⟨k,?_⟩
          have:y≠x:=fun e=>hj (sZ hN e1 (e▸hi))
          simp[this,e]
        · exact .inr ⟨k,c,e,z.sameBut hs (Dd y c e)⟩
    · obtain⟨w',z⟩:=I.cell y c e
      exact⟨w',z.sameBut hs (Dd y c e)⟩
    · obtain⟨e,n,ne,nf,d⟩:=I.pin p hp
      exact⟨(hs.2 p.1 ne).trans e,n,ne,nf,d⟩
  · have hfn:X.fn x=true:=by
      rcases hf with z | z
      · exact z
      · rw[z] at hk;cases hk
    obtain⟨c,hc⟩:=I.ok.has x (.inl hk)
    obtain⟨w',z⟩:=I.cell x c hc
    refine wpAny_storeName_cell I.ok.kind hk hc z (fun h' hc' hs=>?_)
    obtain⟨oc,hoc,JR⟩:=id z
    refine h {s with heap:=h'} ⟨I.ok,I.os,I.bare,⟨fun b o e n hb hx=>?_,fun b o e n hb hx=>?_,I.base.free,fun b o e hx=>?_,I.base.tups,I.base.mj,I.base.m9⟩,⟨m,hn.sameBut hs (Ne.symm (Dd x c hc)),fun j y v' e1 e2 e3=>?_⟩,fun y c' e=>?_,I.free,I.jZ,fun p hp=>?_,tracked ⟨oc,hoc,I.jZ x c hc⟩ hs,by simpa using I.len⟩ ⟨c,hs,.inr hc⟩
    · exact(hs.2 b (Nat.ne_of_lt (Nat.lt_of_lt_of_le (Heap.lt_size e) (I.ok.Fq x c hfn hc)))).trans (I.base.keep b o e n hb hx)
    · obtain⟨sl,e1⟩:=I.base.slot b o e n hb hx
      exact⟨sl,(hs.2 b (Nat.ne_of_lt (Nat.lt_of_lt_of_le (Heap.lt_size e) (I.ok.Fq x c hfn hc)))).trans e1⟩
    · obtain⟨o',e1⟩:=I.base.there b o e hx
      exact⟨o',(hs.2 b (Nat.ne_of_lt (Nat.lt_of_lt_of_le (Heap.lt_size e) (I.ok.Fq x c hfn hc)))).trans e1⟩
    · by_cases hj:j=i
      · subst hj
        rw[hi] at e1;cases e1
        rw[List.getElem?_set_self Fw] at e2
        cases e2
        exact⟨u,r,.inr ⟨.inl hk,c,hc,hc'⟩⟩
      · rw[List.getElem?_set_ne (Ne.symm hj)] at e2
        obtain⟨u',r',q⟩:=hl j y v' e1 e2 e3
        refine⟨u',r',?_⟩
        rcases q with q | ⟨k,c',e,z'⟩
        · exact .inl q
        · refine .inr ⟨k,c',e,z'.sameBut hs ?_⟩
          rintro rfl
          exact hj (sZ hN e1 (I.ok.inj _ _ _ e hc▸hi))
    · by_cases hcc:c'=c
      · subst hcc;exact⟨_,hc'⟩
      · obtain⟨w2,z2⟩:=I.cell y c' e
        exact⟨w2,z2.sameBut hs hcc⟩
    · obtain⟨e,n,ne,nf,d⟩:=I.pin p hp
      refine⟨(hs.2 p.1 ?_).trans e,n,ne,nf,d⟩
      intro q
      rw[q,hoc] at e
      have q':oc=p.2:=Option.some.inj e
      exact d w' (by rw[←q'];exact JR)
theorem tu {M:Model}{A:Around}{E:Value→Shared→Prop}{i:Nat}{x:Str}{v:V}{u:Value}{Q:Unit→Shared→Prop}(I:Inv X pins σ H s) (hN:X.N.Nodup) (hi:X.N[i]? =some x) (hx:Loc X.env.scope x) (r:RelV v u)
  (h:∀s',Inv X pins (σ.set i (some v)) H s'→Q () s') (hf:X.fn x=true∨X.env.scope.names.lookup x=some .local:=by first | exact .inl rfl | exact .inr rfl | assumption):wpAny M A (storeName X.env x u) Q E s:=
 qN I hN hi hx r (fun s' I' _=>h s' I') hf
theorem Inv.Fx {s':Shared}{ch:List Addr}(I:Inv X pins σ H s) (ho:s'.os=s.os) (u:Un (frs X.stack) ch H H' s.heap s'.heap) (hok:lA X.prog X.w H' s'.heap) (hg:AllBare s'.gens)
  (hch:∀b∈ch,(b∈X.ex∨X.s₀.heap.objs.size≤b)∧b≠X.env.locals∧(∀x c,X.env.cells.lookup x=some c→c≠b)∧∀p∈X.pn++pins,p.1≠b):Inv X pins σ H' s':=by
 obtain⟨h',g',d',t',o'⟩:=s'
 have e:o'=s.os:=ho
 subst e
 exact I.call (g':=g') (t':=t') (d':=d') u hok hg hch
end
noncomputable abbrev XK:=Value→Option Addr→Hp→Prop
noncomputable abbrev St:=List (Option V)
noncomputable abbrev VK:=V→Hp→Prop
noncomputable abbrev TE:=St→Hp→VK→Prop
noncomputable abbrev TT:=St→Hp→(Bool→Hp→Prop)→Prop
noncomputable abbrev TA:=St→Hp→(List V→Hp→Prop)→Prop
structure Ends where
 nx:St→Hp→Prop
 rt:VK
 bk:St→Hp→Prop:=fun _ _=>False
 ct:St→Hp→Prop:=fun _ _=>False
noncomputable abbrev TS:=Ends→St→Hp→Prop
noncomputable def EP (X:Cx) (pins:List (Addr×Obj)) (σ:St) (Q:VK) (u:Value) (s':Shared):Prop:=∃v H',Inv X pins σ H' s'∧RelV v u∧Q v H'
noncomputable def TP (X:Cx) (pins:List (Addr×Obj)) (σ:St) (Q:Bool→Hp→Prop) (b:Bool) (s':Shared):Prop:=∃H',Inv X pins σ H' s'∧Q b H'
noncomputable def AP (X:Cx) (pins:List (Addr×Obj)) (σ:St) (Q:List V→Hp→Prop) (us:List Value) (s':Shared):Prop:=∃vs H',Inv X pins σ H' s'∧Vals vs us∧Q vs H'
noncomputable def SP (X:Cx) (pins:List (Addr×Obj)) (D:Ends) (f:Flow) (s':Shared):Prop:=
 match f with
 | .next=>∃σ' H',Inv X pins σ' H' s'∧D.nx σ' H'
 | .brk=>∃σ' H',Inv X pins σ' H' s'∧D.bk σ' H'
 | .cont=>∃σ' H',Inv X pins σ' H' s'∧D.ct σ' H'
 | .ret u=>∃v σ' H',Inv X pins σ' H' s'∧RelV v u∧D.rt v H'
noncomputable def PE (X:Cx) (e:Expr) (t:TE):Prop:=
 ∀(pins:List (Addr×Obj)) (s:Shared) (σ:St) (H:Hp) (Q:VK),Inv X pins σ H s→t σ H Q→wpAny (model X.prog X.w) X.A (eval e X.env) (EP X pins σ Q) X.xe s
noncomputable def PT (X:Cx) (e:Expr) (t:TT):Prop:=
 ∀(pins:List (Addr×Obj)) (s:Shared) (σ:St) (H:Hp) (Q:Bool→Hp→Prop),Inv X pins σ H s→t σ H Q→wpAny (model X.prog X.w) X.A (isTrue e X.env (eval e X.env)) (TP X pins σ Q) X.xe s
noncomputable def PW (X:Cx) (e:Expr) (t:TT):Prop:=
 ∀(whole:Sem Value) (pins:List (Addr×Obj)) (s:Shared) (σ:St) (H:Hp) (Q:Bool→Hp→Prop),Inv X pins σ H s→t σ H Q→wpAny (model X.prog X.w) X.A (isTrue e X.env whole) (TP X pins σ Q) X.xe s
theorem PW.pt {X:Cx}{e:Expr}{t:TT}(h:PW X e t):PT X e t:=h _
noncomputable def PA (X:Cx) (es:List Expr) (t:TA):Prop:=
 ∀(pos:Pos) (pins:List (Addr×Obj)) (s:Shared) (σ:St) (H:Hp) (Q:List V→Hp→Prop),Inv X pins σ H s→t σ H Q→wpAny (model X.prog X.w) X.A (spliced (backTo pos (starEach es X.env))) (AP X pins σ Q) X.xe s
noncomputable def PS (X:Cx) (st:Stmt) (t:TS):Prop:=
 ∀(pins:List (Addr×Obj)) (s:Shared) (σ:St) (H:Hp) (D:Ends),Inv X pins σ H s→t D σ H→wpAny (model X.prog X.w) X.A (exec st X.env) (SP X pins D) X.xe s
noncomputable def vo (X:Cx) (st:List Stmt) (t:TS):Prop:=
 ∀(pins:List (Addr×Obj)) (s:Shared) (σ:St) (H:Hp) (D:Ends),Inv X pins σ H s→t D σ H→wpAny (model X.prog X.w) X.A (execs st X.env) (SP X pins D) X.xe s
theorem fG {α:Type}{t:Sem α}{Q Q':α→Shared→Prop}{M:Model}{A:Around}{E:Value→Shared→Prop}{s:Shared}(h:wpAny M A t Q E s) (hQ:∀a s,Q a s→Q' a s):wpAny M A t Q' E s:=wpAny_mono h hQ fun _ _ x=>x
end L2
namespace L2
open PySem PySem.Spec PyProof.Rows
section
variable {X:Cx}
theorem bin {a b:Expr}{ta tb:TE}(ha:PE X a ta) (hb:PE X b tb){pins:List (Addr×Obj)}{s:Shared}{σ:St}{H:Hp}{R:V→V→Hp→Prop}(I:Inv X pins σ H s) (h:ta σ H fun x H1=>tb σ H1 fun y H2=>R x y H2)
  {α:Type}{Q:α→Shared→Prop}{f:Value→Value→Sem α}
  (hf:∀v u s2 x y H2,Inv X pins σ H2 s2→RelV x v→RelV y u→R x y H2→wpAny (model X.prog X.w) X.A (f v u) Q X.xe s2):
  wpAny (model X.prog X.w) X.A (eval a X.env) (fun v s₁=>wpAny (model X.prog X.w) X.A (eval b X.env) (fun u s₂=>wpAny (model X.prog X.w) X.A (f v u) Q X.xe s₂) X.xe s₁) X.xe s:=by
 refine fG (ha pins s σ H _ I h) fun v s1 ⟨x,H1,I1,r1,q1⟩=>?_
 refine fG (hb pins s1 σ H1 _ I1 q1) fun u s2 ⟨y,H2,I2,r2,q2⟩=>?_
 exact hf v u s2 x y H2 I2 r1 r2 q2
noncomputable def De (i:Nat):TE:=fun σ H Q=>∃v,σ[i]? =some (some v)∧Q v H
noncomputable def tC (v:V):TE:=fun _ H Q=>Q v H
theorem iJ {i:Nat}{x:Str}{pos:Pos}(hN:X.N[i]? =some x) (hv:A7 X.env.scope x) (hd:(x == ("__debug__":Str))=false:=by decide) (hcd:(x == ("__classdict__":Str))=false:=by decide):PE X (.Name x pos) (De i):=by
 intro pins s σ H Q I h
 obtain⟨v,e,h⟩:=h
 obtain⟨m,hn,hl⟩:=I.loc
 obtain⟨u,r,l⟩:=hl i x v hN e hv
 have fin:EP X pins σ Q u s:=⟨v,H,I,r,h⟩
 rcases l with⟨hk,hm⟩ | ⟨hk,c,hc,hcell⟩
 ·exact wpAny_Name (wpAny_loadName_local I.ok.kind hk hn hm fin) hd
 ·rcases hk with hk | hk
  ·exact wpAny_Name (wpAny_loadName_cell I.ok.kind hk hc hcell fin) hd
  ·exact wpAny_Name (wpAny_loadName_free I.ok.kind hk hc hcell fin hcd) hd
theorem Df {i j pos}:PE X (.Constant (.int i) j pos) (tC (.int i)):=fun _ _ _ H _ I h=>wpAny_Constant_int ⟨.int i,H,I.tok _,⟨_,rfl⟩,h⟩
theorem Fy {b j pos}:PE X (.Constant (.bool b) j pos) (tC (.bl b)):=fun _ _ _ H _ I h=>Constant_bool ⟨.bl b,H,I,rfl,h⟩
theorem Dg {j pos}:PE X (.Constant .none j pos) (tC .cg):=fun _ _ _ H _ I h=>Constant_none ⟨.cg,H,I,rfl,h⟩
theorem Dh {x j pos}:PE X (.Constant (.str x) j pos) (tC (.str x)):=fun _ _ _ H _ I h=>Calls.Constant_str ⟨.str x,H,I.tok _,⟨_,rfl⟩,h⟩
noncomputable def Gl (X:Cx) (x:Str):Prop:=X.env.kindOf x=some .globalImplicit
theorem wk {E:Value→Shared→Prop}{pins:List (Addr×Obj)}{s:Shared}{σ:St}{H:Hp}{x:Str}{u:Value}{pos:Pos}{Q:Value→Shared→Prop}(I:Inv X pins σ H s) (hg:Gl X x) (hm:X.mg x=some u) (h:Q u s)
  (hd:(x == ("__debug__":Str))=false:=by decide):wpAny (model X.prog X.w) X.A (eval (.Name x pos) X.env) Q E s:=
 Calls.Name_function_global I.ok.kind hg (Calls.loadGlobal_global (by rw[I.ok.glob];exact I.mod.glob.keeps I.bk) hm h) hd
theorem rS {E:Value→Shared→Prop}{pins:List (Addr×Obj)}{s:Shared}{σ:St}{H:Hp}{x:Str}{u:Value}{pos:Pos}{Q:Value→Shared→Prop}(I:Inv X pins σ H s) (hg:Gl X x) (hm:X.mg x=none) (hv:bootBuiltins x=some u) (h:Q u s)
  (hn:x≠"__name__":=by decide) (hd:(x == ("__debug__":Str))=false:=by decide):wpAny (model X.prog X.w) X.A (eval (.Name x pos) X.env) Q E s:=by
 obtain⟨mb,h1,h2⟩:=I.mod.blt
 exact Calls.Name_function_global I.ok.kind hg (Calls.loadGlobal_builtin (by rw[I.ok.glob];exact I.mod.glob.keeps I.bk) hm (by rw[I.ok.blt];exact h1.keeps I.bk) ((h2 x hn).trans hv) h) hd
theorem Bf {x:Str}{v:V}{u:Value}{pos:Pos}(hg:Gl X x) (hm:X.mg x=some u) (r:RelV v u) (hd:(x == ("__debug__":Str))=false:=by decide):PE X (.Name x pos) (tC v):=
 fun _ _ _ H _ I h=>wk I hg hm ⟨v,H,I,r,h⟩ hd
theorem Bg {x:Str}{v:V}{u:Value}{pos:Pos}(hg:Gl X x) (hm:X.mg x=none) (hv:bootBuiltins x=some u) (r:RelV v u) (hn:x≠"__name__":=by decide) (hd:(x == ("__debug__":Str))=false:=by decide):PE X (.Name x pos) (tC v):=
 fun _ _ _ H _ I h=>rS I hg hm hv ⟨v,H,I,r,h⟩ hn hd
variable {a b:Expr}{ta tb:TE}{pos:Pos}
noncomputable def PC (X:Cx) (op:CmpOp) (a b:Expr) (t:TE):Prop:=
 ∀(pins:List (Addr×Obj)) (s:Shared) (σ:St) (H:Hp) (Q:VK),Inv X pins σ H s→t σ H Q→
  wpAny (model X.prog X.w) X.A (eval a X.env) (fun v s₁=>wpAny (model X.prog X.w) X.A (eval b X.env) (fun u s₂=>wpAny (model X.prog X.w) X.A (compareOp op v u) (EP X pins σ Q) X.xe s₂) X.xe s₁) X.xe s
theorem zl (b:Expr){op:CmpOp}(h:op≠.In) (h2:op≠.NotIn):behindInMarks op b=false:=by
 have e1:(op == CmpOp.In)=false:=by cases op <;> first | rfl | exact absurd rfl h
 have e2:(op == CmpOp.NotIn)=false:=by cases op <;> first | rfl | exact absurd rfl h2
 cases b <;> simp[behindInMarks,e1,e2]
noncomputable def tB (t:TE):TT:=fun σ H Q=>t σ H fun x H1=>∃c,x= .bl c∧Q c H1
theorem JV {op:CmpOp}{t:TE}(h:PC X op a b t) (h1:behindInMarks op b=false:=by first | exact zl _ (by decide) (by decide) | rfl):PT X (.Compare a [op] [b] pos) (tB t):=by
 intro pins s σ H Q I hw
 refine wpAny_isTrue_Compare1 (fG (h pins s σ H _ I hw) fun v s1 h1=>fG h1 fun u s2 h2=>fG h2 fun c s3 ⟨x,H1,I1,r1,q1⟩=>?_) h1
 obtain⟨d,rfl,q⟩:=q1
 cases r1
 exact wpAny_truthy_bool ⟨H1,I1,q⟩
theorem Di {e:Expr}{t:TE}(h:PE X e t) (he:∀whole,isTrue e X.env whole=(do let v ←whole;standAt e.pos;holding [v] (truthy v)):=by intro _;rfl):PT X e (tB t):=by
 intro pins s σ H Q I hw
 refine isTrue_plain (fG (h pins s σ H _ I hw) fun v s1 ⟨x,H1,I1,r1,q1⟩=>?_) (he _)
 obtain⟨d,rfl,q⟩:=q1
 cases r1
 exact wpAny_truthy_bool ⟨H1,I1,q⟩
variable {tA OF:TT}{rest:List Expr}
noncomputable def PU (t u:TT):TT:=fun σ H Q=>t σ H fun c H1=>if c=true then Q true H1 else u σ H1 Q
noncomputable def JX (t:TT):TT:=fun σ H Q=>t σ H fun c H1=>Q (!c) H1
theorem pw_or1 (ha:PT X a tA):PW X (.BoolOp .Or [a] pos) tA:=by
 intro wh pins s σ H Q I h
 refine isTrue_or (fG (ha pins s σ H Q I h) fun c s1 e=>?_)
 cases c with
 | false=>exact isTrue_or_nil e
 | true=>exact e
theorem pw_or (ha:PT X a tA) (hb:PW X (.BoolOp .Or (b :: rest) pos) OF):PW X (.BoolOp .Or (a :: b :: rest) pos) (PU tA OF):=by
 intro wh pins s σ H Q I h
 refine isTrue_or (fG (ha pins s σ H _ I h) fun c s1 ⟨H1,I1,q1⟩=>?_)
 cases c with
 | true=>exact⟨H1,I1,q1⟩
 | false=>exact hb wh pins s1 σ H1 Q I1 q1
theorem Dj (ha:PT X a tA):PT X (.UnaryOp .Not a pos) (JX tA):=by
 intro pins s σ H Q I h
 exact isTrue_not (ha pins s σ H (fun c H1=>Q (!c) H1) I h)
noncomputable def Fz (ta tb:TE):TE:=fun σ H Q=>ta σ H fun x H1=>∃c,x= .bl c∧if c=true then tb σ H1 Q else Q (.bl false) H1
noncomputable def FA (ta:TE):TE:=fun σ H Q=>ta σ H fun x H1=>∃c,x= .bl c∧Q (.bl (!c)) H1
theorem Dk {op}{t:TE}(h:PE X a t):PE X (.BoolOp op [a] pos) t:=fun pins s σ H Q I hw=>BoolOp_one (h pins s σ H Q I hw)
theorem Dl (ha:PE X a ta) (hb:PE X (.BoolOp .And (b :: rest) pos) tb):PE X (.BoolOp .And (a :: b :: rest) pos) (Fz ta tb):=by
 intro pins s σ H Q I h
 refine BoolOp_and (fG (ha pins s σ H _ I h) fun v s1 ⟨x,H1,I1,r1,q1⟩=>?_)
 obtain⟨c,rfl,q1⟩:=q1
 cases r1
 refine wpAny_truthy_bool ?_
 cases c with
 | true=>exact hb pins s1 σ H1 Q I1 q1
 | false=>exact⟨.bl false,H1,I1,rfl,q1⟩
theorem Dm (ha:PE X a ta):PE X (.UnaryOp .Not a pos) (FA ta):=by
 intro pins s σ H Q I h
 refine UnaryOp_ (fG (ha pins s σ H _ I h) fun v s1 ⟨x,H1,I1,r1,q1⟩=>?_)
 obtain⟨c,rfl,q1⟩:=q1
 cases r1
 exact not_of (wpAny_truthy_bool ⟨.bl (!c),H1,I1,rfl,q1⟩)
end
end L2
namespace L2
open PySem PySem.Spec PyProof.Rows
noncomputable def lB (K:PySem.W.Frag) (H:Hp) (a:Addr) (xs:List V):Prop:=
 Rd H a (.lst xs)∨
  ∃(o:Obj) (its:Array Value) (n:Nat),K.lookup a=some o∧o.cls= .type "list"∧o.dict=none∧o.data= .seq its n∧its.size≤sizeLine∧Vals xs its.toList
noncomputable def qO (K:PySem.W.Frag) (H:Hp) (a:Addr) (xs:List V):Prop:=
 Rd H a (.tup xs)∨
  ∃(o:Obj) (its:Array Value) (n:Nat),K.lookup a=some o∧o.cls= .type "tuple"∧o.data= .seq its n∧its.size≤sizeLine∧Vals xs its.toList
noncomputable def JY:Value→Option V
 | .none=>some .cg
 | .bool b=>some (.bl b)
 | .int i _=>some (.int i)
 | .str x _=>some (.str x)
 | .bytes b _=>some (.JL b)
 | .float b _=>some (.flt b)
 | .ref a=>some (.ref a)
 | .type n=>some (.ty n)
 | _=>none
theorem RelV.abs {x:V}{u:Value}(r:RelV x u):JY u=some x:=by
 cases x with
 | cg=>cases r;rfl
 | bl _=>cases r;rfl
 | int _=>obtain⟨t,rfl⟩:=r;rfl
 | str _=>obtain⟨t,rfl⟩:=r;rfl
 | JL _=>obtain⟨t,rfl⟩:=r;rfl
 | flt _=>obtain⟨t,rfl⟩:=r;rfl
 | ref _=>cases r;rfl
 | ty _=>cases r;rfl
theorem RelV.inj {x y:V}{u:Value}(r:RelV x u) (q:RelV y u):x=y:=Option.some.inj (r.abs.symm.trans q.abs)
theorem Vals.inj:∀{xs ys:List V}{us:List Value},Vals xs us→Vals ys us→xs=ys
 | _,_,_,.nil,.nil=>rfl
 | _,_,_,.cons r t,.cons r' t'=>by rw[r.inj r',Vals.inj t t']
section
variable {X:Cx}{pins:List (Addr×Obj)}{σ:St}{H:Hp}{s:Shared}{a:Addr}{xs ys:List V}
theorem lB.of {K:PySem.W.Frag}(h:H a=some (.lst xs)):lB K H a xs:=.inl (.inl h)
theorem qO.of {K:PySem.W.Frag}(h:H a=some (.tup xs)):qO K H a xs:=.inl (.inl h)
theorem Inv.list (I:Inv X pins σ H s) (h:lB X.K H a xs):∃its:List Value,Vals xs its∧PlainL s.heap a its.toArray∧xs.length≤sizeLine:=by
 rcases h with h | ⟨o,its,n,hk,hc,hd,hs,hz,r⟩
 ·obtain⟨z,its,n,r,e⟩:=h.ok I.hok
  exact⟨its,r,⟨_,n,e,rfl,rfl,rfl⟩,z⟩
 ·refine⟨its.toList,r,⟨o,n,I.we a o hk,hc,hd,by simpa using hs⟩,?_⟩
  have e:=r.length
  simp only[Array.length_toList] at e
  omega
theorem Inv.tuple (I:Inv X pins σ H s) (h:qO X.K H a xs):∃its:List Value,Vals xs its∧IsTup s.heap a its.toArray∧xs.length≤sizeLine:=by
 rcases h with h | ⟨o,its,n,hk,hc,hs,hz,r⟩
 ·obtain⟨z,its,r,p⟩:=h.ok I.hok
  exact⟨its,r,p,z⟩
 ·refine⟨its.toList,r,⟨o,I.we a o hk,hc,n,by simpa using hs⟩,?_⟩
  have e:=r.length
  simp only[Array.length_toList] at e
  omega
theorem Inv.zm (I:Inv X pins σ H s) (h:lB X.K H a xs) (h':lB X.K H a ys):xs=ys:=by
 obtain⟨its,r,⟨o,n,e,_,_,d⟩,_⟩:=I.list h
 obtain⟨its',r',⟨o',n',e',_,_,d'⟩,_⟩:=I.list h'
 rw[e] at e';cases e'
 rw[d] at d'
 injection d' with d1 _
 have:its=its':=by simpa using congrArg Array.toList d1
 subst this
 exact r.inj r'
theorem Inv.xy (I:Inv X pins σ H s) (h:qO X.K H a xs) (h':qO X.K H a ys):xs=ys:=by
 obtain⟨its,r,⟨o,e,_,n,d⟩,_⟩:=I.tuple h
 obtain⟨its',r',⟨o',e',_,n',d'⟩,_⟩:=I.tuple h'
 rw[e] at e';cases e'
 rw[d] at d'
 injection d' with d1 _
 have:its=its':=by simpa using congrArg Array.toList d1
 subst this
 exact r.inj r'
end
noncomputable abbrev Cx.oX (X:Cx) (E:Value→Shared→Prop):Cx:={X with xe:=E}
noncomputable abbrev Cx.Bh (X:Cx):Cx:=X.oX fun _ _=>False
theorem Cx.Ok.oX {X:Cx}(ok:X.Ok) (E:Value→Shared→Prop):(X.oX E).Ok:=
 ⟨ok.mod,ok.kind,ok.glob,ok.blt,ok.above,ok.inj,ok.has,ok.Fq,ok.hd,ok.frames,ok.stk,ok.JP,ok.bs,ok.Be,ok.zh,ok.zj,ok.oW,ok.Dc⟩
theorem Cx.Ok.jl {X:Cx}{E:Value→Shared→Prop}(ok:(X.oX E).Ok):X.Ok:=
 ⟨ok.mod,ok.kind,ok.glob,ok.blt,ok.above,ok.inj,ok.has,ok.Fq,ok.hd,ok.frames,ok.stk,ok.JP,ok.bs,ok.Be,ok.zh,ok.zj,ok.oW,ok.Dc⟩
section
variable {X:Cx}{pins:List (Addr×Obj)}{σ:St}{H:Hp}{s:Shared}{E:Value→Shared→Prop}
theorem Inv.oX (I:Inv X pins σ H s) (E:Value→Shared→Prop):Inv (X.oX E) pins σ H s:=⟨I.ok.oX E,I.os,I.bare,I.base,I.loc,I.cell,I.free,I.jZ,I.pin,I.hok,I.len⟩
theorem Inv.jl (I:Inv (X.oX E) pins σ H s):Inv X pins σ H s:=⟨I.ok.jl,I.os,I.bare,I.base,I.loc,I.cell,I.free,I.jZ,I.pin,I.hok,I.len⟩
theorem SP.jl {D:Ends}{f:Flow}{s':Shared}(h:SP (X.oX E) pins D f s'):SP X pins D f s':=by
 cases f with
 | next=>obtain⟨σ',H',I,q⟩:=h;exact⟨σ',H',I.jl,q⟩
 | brk=>obtain⟨σ',H',I,q⟩:=h;exact⟨σ',H',I.jl,q⟩
 | cont=>obtain⟨σ',H',I,q⟩:=h;exact⟨σ',H',I.jl,q⟩
 | ret u=>obtain⟨v,σ',H',I,r,q⟩:=h;exact⟨v,σ',H',I.jl,r,q⟩
theorem PE.Bh {e:Expr}{t:TE}(h:PE X.Bh e t):PE X e t:=fun pins s σ H Q I hw=>
 wpAny_mono (h pins s σ H Q (I.oX _) hw) (fun _ _ ⟨v,H',I',r,q⟩=>⟨v,H',I'.jl,r,q⟩) fun _ _ z=>False.elim z
theorem PT.Bh {e:Expr}{t:TT}(h:PT X.Bh e t):PT X e t:=fun pins s σ H Q I hw=>
 wpAny_mono (h pins s σ H Q (I.oX _) hw) (fun _ _ ⟨H',I',q⟩=>⟨H',I'.jl,q⟩) fun _ _ z=>False.elim z
theorem vo.Bh {st:List Stmt}{t:TS}(h:vo X.Bh st t):vo X st t:=fun pins s σ H D I hw=>
 wpAny_mono (h pins s σ H D (I.oX _) hw) (fun _ _ q=>q.jl) fun _ _ z=>False.elim z
end
section
variable {X:Cx}{st:Stmt}{rest:List Stmt}{t u:TS}{e:Expr}{te:TE}{pos:Pos}
noncomputable def FD:TS:=fun D σ H=>D.nx σ H
noncomputable def JZ (t u:TS):TS:=fun D σ H=>t {D with nx:=u D} σ H
theorem Bj:vo X [] FD:=fun _ _ σ H _ I h=>wpAny_execs_nil ⟨σ,H,I,h⟩
theorem zo (h1:PS X st t) (h2:vo X rest u):vo X (st :: rest) (JZ t u):=by
 intro pins s σ H D I h
 refine wpAny_execs_cons (fG (h1 pins s σ H {D with nx:=u D} I h) fun f s1 q=>?_)
 cases f with
 | next=>
  obtain⟨σ',H',I',q⟩:=q
  exact h2 pins s1 σ' H' D I' q
 | ret v=>exact q
 | brk=>exact q
 | cont=>exact q
theorem Bk (h1:PS X st t):vo X [st] t:=by
 intro pins s σ H D I h
 refine wpAny_execs_cons (fG (h1 pins s σ H D I h) fun f s1 q=>?_)
 cases f with
 | next=>exact wpAny_execs_nil q
 | ret v=>exact q
 | brk=>exact q
 | cont=>exact q
theorem Inv.quiet {pins:List (Addr×Obj)}{σ:St}{H:Hp}{s:Shared}(I:Inv X pins σ H s):interactive X.env=false:=by simp[interactive,I.ok.kind]
noncomputable def FE (te:TE):TS:=fun D σ H=>te σ H fun _ H1=>D.nx σ H1
theorem Bl (he:PE X e te) (hs:swapsWith e none pos.line X.env=pure false:=by rfl):PS X (.Expr e pos) (FE te):=by
 intro pins s σ H D I h
 exact wpAny_Expr_any (fG (he pins s σ H _ I h) fun v s1 ⟨x,H1,I1,r1,q1⟩=>⟨σ,H1,I1,q1⟩) I.quiet hs
noncomputable def J0 (te:TE):TS:=fun D σ H=>te σ H D.rt
theorem Dn (he:PE X e te):PS X (.Return (some e) pos) (J0 te):=by
 intro pins s σ H D I h
 exact wpAny_Return_some (fG (he pins s σ H _ I h) fun v s1 ⟨x,H1,I1,r1,q1⟩=>⟨x,σ,H1,I1,r1,q1⟩)
noncomputable def J1 (c:TT) (t u:TS):TS:=fun D σ H=>c σ H fun b H1=>if b=true then t D σ H1 else u D σ H1
theorem FF {c:Expr}{a b:List Stmt}{tc:TT}(hc:PT X c tc) (ha:vo X a t) (hb:vo X b u):PS X (.If c a b pos) (J1 tc t u):=by
 intro pins s σ H D I h
 refine wpAny_If (fG (hc pins s σ H _ I h) fun d s1 ⟨H1,I1,q1⟩=>?_)
 cases d with
 | true=>exact ha pins s1 σ H1 D I1 q1
 | false=>exact hb pins s1 σ H1 D I1 q1
end
noncomputable abbrev TG:=V→St→Hp→(St→Hp→Prop)→Prop
noncomputable abbrev Bm:=List V→St→Hp→(St→Hp→Prop)→Prop
noncomputable def PG (X:Cx) (target:Expr) (t:TG):Prop:=
 ∀(pins:List (Addr×Obj)) (s:Shared) (σ:St) (H:Hp) (v:V) (u:Value) (Q:St→Hp→Prop),Inv X pins σ H s→RelV v u→t v σ H Q→
  wpAny (model X.prog X.w) X.A (assign target X.env u) (fun _ s'=>∃σ' H',Inv X pins σ' H' s'∧Q σ' H') X.xe s
noncomputable def CD (X:Cx) (ts:List Expr) (t:Bm):Prop:=
 ∀(pins:List (Addr×Obj)) (s:Shared) (σ:St) (H:Hp) (vs:List V) (us:List Value) (Q:St→Hp→Prop),Inv X pins σ H s→Vals vs us→t vs σ H Q→
  wpAny (model X.prog X.w) X.A (assignInOrder ((assignEach ts X.env).map (·.2)) us) (fun _ s'=>∃σ' H',Inv X pins σ' H' s'∧Q σ' H') X.xe s
noncomputable abbrev Dp:=V→V→V→Hp→(Hp→Prop)→Prop
noncomputable def FG (X:Cx) (t:Dp):Prop:=
 ∀(pins:List (Addr×Obj)) (s:Shared) (σ:St) (H:Hp) (o i v:V) (ov iv u:Value) (Q:Hp→Prop),Inv X pins σ H s→RelV o ov→RelV i iv→RelV v u→t o i v H Q→
  wpAny (model X.prog X.w) X.A (setItem ov iv u) (fun _ s'=>∃H',Inv X pins σ H' s'∧Q H') X.xe s
section
variable {X:Cx}{pos:Pos}
noncomputable def qP (i:Nat):TG:=fun v σ H Q=>Q (σ.set i (some v)) H
theorem wm {i:Nat}{x:Str}(hN:X.N.Nodup) (hi:X.N[i]? =some x) (hx:Loc X.env.scope x) (hf:X.fn x=true∨X.env.scope.names.lookup x=some .local:=by first | exact .inl rfl | exact .inr rfl | assumption):PG X (.Name x pos) (qP i):=by
 intro pins s σ H v u Q I r h
 exact wpAny_assign_Name (tu I hN hi hx r (fun s' I'=>⟨_,H,I',h⟩) hf)
noncomputable def J2:Bm:=fun vs σ H Q=>vs=[]∧Q σ H
noncomputable def FH (t:TG) (u:Bm):Bm:=fun vs σ H Q=>∃v r,vs=v :: r∧t v σ H fun σ' H'=>u r σ' H' Q
theorem Bo:CD X [] J2:=by
 intro pins s σ H vs us Q I r h
 obtain⟨e,h⟩:=h
 subst e
 cases r
 exact assignInOrder_nil ⟨σ,H,I,h⟩
theorem zp {e:Expr}{es:List Expr}{t:TG}{u:Bm}(h1:PG X e t) (h2:CD X es u)
  (hs:(assignEach (e :: es) X.env).map (·.2)=assign e X.env :: (assignEach es X.env).map (·.2):=by rfl):CD X (e :: es) (FH t u):=by
 intro pins s σ H vs us Q I r h
 obtain⟨v,vr,e1,h⟩:=h
 subst e1
 cases r with
 | cons r rr=>
  rw[hs]
  refine assignInOrder_cons (fG (h1 pins s σ H _ _ _ I r h) fun _ s1 ⟨σ1,H1,I1,q1⟩=>?_)
  exact h2 pins s1 σ1 H1 _ _ Q I1 rr q1
noncomputable def J3 (K:PySem.W.Frag) (n:Nat) (t:Bm):TG:=fun v σ H Q=>∃a xs,v= .ref a∧qO K H a xs∧xs.length=n∧t xs σ H Q
theorem Dq {es:List Expr}{k:Nat}{t:Bm}{n:Nat}(hc:X.calm=true) (h:CD X es t)
  (hn:(assignEach es X.env).length=n:=by rfl) (hst:(assignEach es X.env).findIdx? (·.1)=none:=by rfl):PG X (.Tuple es k pos) (J3 X.K n t):=by
 intro pins s σ H v u Q I r hw
 obtain⟨a,xs,e1,hq,hl,hw⟩:=hw
 subst e1
 cases r
 obtain⟨its,rv,ht,hz⟩:=I.tuple hq
 refine assign_Tuple_tuple (I.ok.hd hc) ht (by simp[hn,←hl,rv.length]) hst fun h' hx=>?_
 have I1:Inv X pins σ H {s with heap:=h'}:=I.kept (t':=s.toks) fun b o e=>hx b o (Nat.ne_of_lt (Heap.lt_size e)) e
 exact h pins _ σ H xs _ Q I1 (by simpa using rv) hw
noncomputable def J4 (to ti:TE) (t:Dp):TG:=fun v σ H Q=>to σ H fun o H1=>ti σ H1 fun i H2=>t o i v H2 fun H3=>Q σ H3
theorem Dr {o i:Expr}{to ti:TE}{t:Dp}(ho:PE X o to) (hi:PE X i ti) (hs:FG X t)
  (ha:∀v,assign (.Subscript o i pos) X.env v=(do
   let ov ←holding [v] (eval o X.env)
   let iv ←holding [v,ov] (eval i X.env)
   standAt pos
   holding [v,ov,iv] (setItem ov iv v)
   release [v,ov,iv] []):=by intro _;rfl):PG X (.Subscript o i pos) (J4 to ti t):=by
 intro pins s σ H v u Q I r h
 rw[ha]
 refine wpAny_bind (wpAny_holding (fG (ho pins s σ H _ I h) fun ov s1 ⟨x,H1,I1,r1,q1⟩=>?_))
 refine wpAny_bind (wpAny_holding (fG (hi pins s1 σ H1 _ I1 q1) fun iv s2 ⟨y,H2,I2,r2,q2⟩=>?_))
 refine wpAny_bind (wpAny_standAt (wpAny_bind (wpAny_holding (fG (hs pins s2 σ H2 x y v ov iv u _ I2 r1 r2 r q2) fun _ s3 ⟨H3,I3,q3⟩=>?_))))
 exact wpAny_release ⟨σ,H3,I3,q3⟩
noncomputable def Bp (te:TE) (g:TG):TS:=fun D σ H=>te σ H fun x H1=>g x σ H1 D.nx
theorem zq {tg e:Expr}{te:TE}{g:TG}(he:PE X e te) (hg:PG X tg g) (hs:swapsWithSole [tg] e pos.line X.env=pure false:=by rfl) (hw:swappedStores [tg] e X.env=pure none:=by rfl)
  (h1:(assignEach [tg] X.env).map (·.2)=[assign tg X.env]:=by rfl):PS X (.Assign [tg] e pos) (Bp te g):=by
 intro pins s σ H D I h
 refine wpAny_Assign_stores (fG (he pins s σ H _ I h) fun v s1 ⟨x,H1,I1,r1,q1⟩=>?_) hs hw
 rw[h1]
 exact fG (hg pins s1 σ H1 x v _ I1 r1 q1) fun _ s2 q=>q
theorem Ds {i:Nat}{x:Str}{e:Expr}{te:TE}{pos':Pos}(hN:X.N.Nodup) (hi:X.N[i]? =some x) (hx:Loc X.env.scope x) (he:PE X e te) (hs:swapsWith e (some (.Name x pos')) pos.line X.env=pure false:=by rfl) (hf:X.fn x=true∨X.env.scope.names.lookup x=some .local:=by first | exact .inl rfl | exact .inr rfl | assumption):
  PS X (.Assign [.Name x pos'] e pos) (Bp te (qP i)):=by
 intro pins s σ H D I h
 refine wpAny_Assign_Name (fG (he pins s σ H _ I h) fun v s1 ⟨y,H1,I1,r1,q1⟩=>?_) hs
 exact tu I1 hN hi hx r1 (fun s2 I2=>⟨_,H1,I2,q1⟩) hf
end
section
variable {X:Cx}{pos:Pos}
end
structure It where
 go:Nat→Hp→Prop
 Iu:Nat→Hp→V→Hp→Prop
 stop:Nat→Hp→Prop
noncomputable def pF (X:Cx) (pins:List (Addr×Obj)) (H:Hp) (b:Addr):Prop:=
 H b=none∧b≠X.env.locals∧b∉X.fs∧(b∈X.ex∨X.s₀.heap.objs.size≤b)∧(∀x c,X.env.cells.lookup x=some c→c≠b)∧∀p∈X.pn++pins,p.1≠b
theorem Inv.zu {X:Cx}{pins:List (Addr×Obj)}{σ:St}{H H':Hp}{s:Shared}{b:Addr}(I:Inv X pins σ H s) (hb:s.heap.objs.size≤b) (hn:H' b=none):pF X pins H' b:=by
 refine⟨hn,Nat.ne_of_gt (Nat.lt_of_lt_of_le I.lt hb),I.Ft hb,.inr (Nat.le_trans I.sz hb),fun x c e z=>?_,fun p hp z=>?_⟩
 ·obtain⟨v,q⟩:=I.cell x c e
  exact absurd (Nat.lt_of_lt_of_le q.lt (by rw[z];exact hb)) (Nat.lt_irrefl _)
 ·exact absurd (Nat.lt_of_lt_of_le (Heap.lt_size (I.pin p hp).1) (by rw[z];exact hb)) (Nat.lt_irrefl _)
structure Turn (P:Program) (w:World) (K:PySem.W.Frag) (tg:Expr) (J:It) (fp:List Addr) (it:Addr) (tn:Nat→Heap→Prop):Prop where
 mem:it∈fp
 obj:∀i h,tn i h→∀b∈fp,∃o,h.get? b=some o∧∀v,o.data≠.cell v
 keep:∀i h h',tn i h→(∀b∈fp,∀o,h.get? b=some o→h'.get? b=some o)→tn i h'
 item:∀(X:Cx),X.prog=P→X.w=w→X.K=K→X.calm=true→∀(i:Nat) (pins:List (Addr×Obj)) (s:Shared) (σ:St) (H:Hp) (E:Value→Shared→Prop),Inv X pins σ H s→(∀b∈fp,pF X pins H b)→tn i s.heap→J.go i H→
  wpAny (model P w) X.A (pyNext (.ref it)) (fun r s1=>∃u,r=some u∧
   wpAny (model P w) X.A (letOwnedTupleGo tg (.ref it) u) (fun _ s2=>∃x H',Inv X pins σ H' s2∧RelV x u∧J.Iu i H x H'∧tn (i+1) s2.heap∧∀b∈fp,H' b=none) E s1) E s
 done:∀(X:Cx),X.prog=P→X.w=w→X.K=K→X.calm=true→∀(i:Nat) (pins:List (Addr×Obj)) (s:Shared) (σ:St) (H:Hp) (E:Value→Shared→Prop),Inv X pins σ H s→(∀b∈fp,pF X pins H b)→tn i s.heap→J.stop i H→
  wpAny (model P w) X.A (pyNext (.ref it)) (fun r s1=>r=none∧Inv X pins σ H s1) E s
 self:∀(A:Around) (i:Nat) (s:Shared) (Q:Value→Shared→Prop) (E:Value→Shared→Prop),tn i s.heap→Q (.ref it) s→wpAny (model P w) A (pyIter (.ref it)) Q E s
noncomputable abbrev TI:=St→Hp→(It→Hp→Prop)→Prop
noncomputable def J5 (X:Cx) (pins:List (Addr×Obj)) (σ:St) (tg:Expr) (R:It→Hp→Prop) (itv:Value) (s2:Shared):Prop:=
 ∃(it:Addr) (fp:List Addr) (tn:Nat→Heap→Prop) (J:It) (H':Hp),itv= .ref it∧Inv X pins σ H' s2∧Turn X.prog X.w X.K tg J fp it tn∧tn 0 s2.heap∧(∀b∈fp,pF X pins H' b)∧R J H'
noncomputable def PI (X:Cx) (tg iter:Expr) (wi:TI):Prop:=
 ∀(pins:List (Addr×Obj)) (s:Shared) (σ:St) (H:Hp) (R:It→Hp→Prop),Inv X pins σ H s→wi σ H R→
  wpAny (model X.prog X.w) X.A (eval iter X.env) (fun v s1=>wpAny (model X.prog X.w) X.A (pyIter v) (J5 X pins σ tg R) X.xe s1) X.xe s
theorem zw {M : Model} {A : Around} {E : Value → Shared → Prop} {s : Shared} {tg : Expr} {it : Addr} {u : Value} {o : Obj} {n : String} {vs : Array Value} {Q : Unit → Shared → Prop} (ho : s.heap.get? it = some o) (hc : o.cls = .type n) (hd : o.data = .fields vs)
    (hn:["enumerate","zip","dict_itemiterator","dict_reverseitemiterator","odict_iterator","itertools.zip_longest","itertools.pairwise"].contains n=false) (hQ:Q () s):wpAny M A (letOwnedTupleGo tg (.ref it) u) Q E s:=by
  unfold letOwnedTupleGo
  cases tg <;> first
    | exact wpAny_pure hQ
    | (cases u <;> first
        | exact wpAny_pure hQ
        | (refine wpAny_bind (wpAny_load ho ?_)
           rw[hc,hd]
           show wpAny M A (if(["enumerate","zip","dict_itemiterator","dict_reverseitemiterator","odict_iterator","itertools.zip_longest","itertools.pairwise"].contains n && vs[0]? == some (rawInt _))=true then _ else _) Q E s
           rw[if_neg (by intro h;rw[hn,Bool.false_and] at h;cases h)]
           exact wpAny_pure hQ))
noncomputable def J6 (K:PySem.W.Frag) (a:Addr):It:=
 ⟨fun i H=>∃xs x,lB K H a xs∧xs[i]? =some x,fun i H x H'=>H'=H∧∀xs,lB K H a xs→xs[i]? =some x,fun i H=>∃xs,lB K H a xs∧xs.length≤i⟩
noncomputable def J7 (K:PySem.W.Frag) (a:Addr):It:=
 ⟨fun i H=>∃xs x,qO K H a xs∧xs[i]? =some x,fun i H x H'=>H'=H∧∀xs,qO K H a xs→xs[i]? =some x,fun i H=>∃xs,qO K H a xs∧xs.length≤i⟩
noncomputable def Iv (lo:Int) (n:Nat):It:=⟨fun i _=>i < n,fun i H x H'=>H'=H∧x= .int (lo+i),fun i _=>n≤i⟩
theorem xA {P:Program}{w:World}{K:PySem.W.Frag}{tg:Expr}(a it:Addr):Turn P w K tg (J6 K a) [it] it (fun i h=>h.IsListIter it a i) where
 mem:=by simp
 obj:=fun i h st b hb=>by
  have e:b=it:=by simpa using hb
  subst e
  obtain⟨o,e,c,d⟩:=st
  exact⟨o,e,fun v z=>by rw[d] at z;cases z⟩
 keep:=fun i h h' st k=>st.at fun o e=>k it (by simp) o e
 item:=by
  intro X hP hw hK hc i pins s σ H E I hf st hg
  subst hP hw hK
  obtain⟨xs,x,hq,hx⟩:=hg
  obtain⟨its,rv,p,hz⟩:=I.list hq
  obtain⟨u,hu,ru⟩:=rv.get hx
  obtain⟨f0,f1,f2,f3,f4,f5⟩:=hf it (by simp)
  refine wpAny_pyNext_list_item st p.isList (x:=u) (by simpa using hu) fun h' st' sb=>?_
  have I1:Inv X pins σ H {s with heap:=h'}:=I.turned (t':=s.toks) (fun b o hb e=>(sb.2 b hb).trans e) f0 f1 f3 f4 f5
  obtain⟨o,e,c,d⟩:=id st'
  exact⟨u,rfl,zw (s:={s with heap:=h'}) e c d (by decide) ⟨x,H,I1,ru,⟨rfl,fun ys hy=>by rw[I.zm hy hq];exact hx⟩,st',fun b hb=>(hf b hb).1⟩⟩
 done:=by
  intro X hP hw hK hc i pins s σ H E I hf st hg
  subst hP hw hK
  obtain⟨xs,hq,hx⟩:=hg
  obtain⟨its,rv,p,hz⟩:=I.list hq
  obtain⟨f0,f1,f2,f3,f4,f5⟩:=hf it (by simp)
  have hl:=rv.length
  exact wpAny_pyNext_list_end (I.ok.hd hc) st p.isList (by simp;omega) fun h' eb=>⟨rfl,I.turned (t':=s.toks) (fun b o hb e=>eb b o hb e) f0 f1 f3 f4 f5⟩
 self:=fun _ _ _ _ _ st h=>wpAny_pyIter_listiter st h
theorem vt {P:Program}{w:World}{K:PySem.W.Frag}{tg:Expr}(a it:Addr):Turn P w K tg (J7 K a) [it] it (fun i h=>h.IsTupleIter it a i) where
 mem:=by simp
 obj:=fun i h st b hb=>by
  have e:b=it:=by simpa using hb
  subst e
  obtain⟨o,e,c,d⟩:=st
  exact⟨o,e,fun v z=>by rw[d] at z;cases z⟩
 keep:=fun i h h' st k=>st.at fun o e=>k it (by simp) o e
 item:=by
  intro X hP hw hK hc i pins s σ H E I hf st hg
  subst hP hw hK
  obtain⟨xs,x,hq,hx⟩:=hg
  obtain⟨its,rv,p,hz⟩:=I.tuple hq
  obtain⟨u,hu,ru⟩:=rv.get hx
  obtain⟨f0,f1,f2,f3,f4,f5⟩:=hf it (by simp)
  refine wpAny_pyNext_tuple_item st (show s.heap.IsTuple a its.toArray from p) (x:=u) (by simpa using hu) fun h' st' sb=>?_
  have I1:Inv X pins σ H {s with heap:=h'}:=I.turned (t':=s.toks) (fun b o hb e=>(sb.2 b hb).trans e) f0 f1 f3 f4 f5
  obtain⟨o,e,c,d⟩:=id st'
  exact⟨u,rfl,zw (s:={s with heap:=h'}) e c d (by decide) ⟨x,H,I1,ru,⟨rfl,fun ys hy=>by rw[I.xy hy hq];exact hx⟩,st',fun b hb=>(hf b hb).1⟩⟩
 done:=by
  intro X hP hw hK hc i pins s σ H E I hf st hg
  subst hP hw hK
  obtain⟨xs,hq,hx⟩:=hg
  obtain⟨its,rv,p,hz⟩:=I.tuple hq
  obtain⟨f0,f1,f2,f3,f4,f5⟩:=hf it (by simp)
  have hl:=rv.length
  exact wpAny_pyNext_tuple_end (I.ok.hd hc) st (show s.heap.IsTuple a its.toArray from p) (by simp;omega) fun h' eb=>⟨rfl,I.turned (t':=s.toks) (fun b o hb e=>eb b o hb e) f0 f1 f3 f4 f5⟩
 self:=fun _ _ _ _ _ st h=>wpAny_pyIter_tupleiter st h
theorem vv {P:Program}{w:World}{K:PySem.W.Frag}{tg:Expr}(it:Addr) (lo:Int) (n:Nat):Turn P w K tg (Iv lo n) [it] it (fun i h=>IsRangeIter h it (lo+(i:Nat) * 1) ((n:Int) - (i:Nat)) 1) where
  mem:=by simp
  obj := fun i h st b hb => by
    have e:b=it:=by simpa using hb
    subst e
    exact⟨_,st,fun v z=>by
      have z':Data.fields _=Data.cell v:=z
      cases z'⟩
  keep:=fun i h h' st k=>k it (by simp) _ st
  item:=by
    intro X hP hw hK hc i pins s σ H E I hf st hg
    subst hP hw hK
    obtain⟨f0,f1,f2,f3,f4,f5⟩:=hf it (by simp)
    have W:=Walks.range (prog:=X.prog) (w:=X.w) (I.ok.hd hc) it lo 1 n
    refine W.item i s _ _ hg st fun v h' tk hv st' kk=>?_
    obtain⟨t,rfl⟩:=hv
    have I1:Inv X pins σ H {s with heap:=h',toks:=tk}:=I.turned (fun b o hb e=>kk b o (by simpa using hb) e) f0 f1 f3 f4 f5
    refine⟨_,rfl,zw (s:={s with heap:=h',toks:=tk}) (n:="range_iterator") st' rfl rfl (by decide) ⟨.int (lo+i),H,I1,⟨t,?_⟩,⟨rfl,rfl⟩,st',fun b hb=>(hf b hb).1⟩⟩
    rw[Int.mul_one]
  done:=by
    intro X hP hw hK hc i pins s σ H E I hf st hg
    subst hP hw hK
    obtain⟨f0,f1,f2,f3,f4,f5⟩:=hf it (by simp)
    exact wpAny_pyNext_range_end (I.ok.hd hc) st (by have:n≤i:=hg;omega) fun h' eb=>⟨rfl,I.turned (t':=s.toks) (fun b o hb e=>eb b o hb e) f0 f1 f3 f4 f5⟩
  self:=fun _ _ _ _ _ st h=>wpAny_pyIter_rangeiter st h
end L2
namespace L2
open PySem PySem.Spec PyProof.Rows
section
variable {X:Cx}{tg:Expr}
noncomputable def FI (K:PySem.W.Frag) (tl:TE):TI:=fun σ H R=>tl σ H fun x H1=>∃a,x= .ref a∧(∃xs,lB K H1 a xs)∧R (J6 K a) H1
noncomputable def J8 (K:PySem.W.Frag) (tl:TE):TI:=fun σ H R=>tl σ H fun x H1=>∃a,x= .ref a∧(∃xs,qO K H1 a xs)∧R (J7 K a) H1
theorem wu {l:Expr}{tl:TE}(hl:PE X l tl):PI X tg l (FI X.K tl):=by
 intro pins s σ H R I h
 refine fG (hl pins s σ H _ I h) fun v s1 ⟨x,H1,I1,r1,q1⟩=>?_
 obtain⟨a,e,⟨xs,hq⟩,q⟩:=q1
 subst e
 cases r1
 obtain⟨its,rv,p,hz⟩:=I1.list hq
 refine wpAny_pyIter_list p.isList ?_
 refine⟨s1.heap.objs.size,[s1.heap.objs.size],_,_,H1,rfl,I1.kept (t':=s1.toks) fun b o e=>Heap.get?_push_of_some _ e,xA a _,⟨_,Heap.get?_push_size _ rfl,rfl,rfl⟩,fun b hb=>?_,q⟩
 have e:b=s1.heap.objs.size:=by simpa using hb
 subst e
 exact I1.zu (Nat.le_refl _) (I1.hok.fresh (Nat.le_refl _))
theorem zx {l:Expr}{tl:TE}(hl:PE X l tl):PI X tg l (J8 X.K tl):=by
 intro pins s σ H R I h
 refine fG (hl pins s σ H _ I h) fun v s1 ⟨x,H1,I1,r1,q1⟩=>?_
 obtain⟨a,e,⟨xs,hq⟩,q⟩:=q1
 subst e
 cases r1
 obtain⟨its,rv,p,hz⟩:=I1.tuple hq
 refine wpAny_pyIter_tuple (show s1.heap.IsTuple a its.toArray from p) ?_
 refine⟨s1.heap.objs.size,[s1.heap.objs.size],_,_,H1,rfl,I1.kept (t':=s1.toks) fun b o e=>Heap.get?_push_of_some _ e,vt a _,⟨_,Heap.get?_push_size _ rfl,rfl,rfl⟩,fun b hb=>?_,q⟩
 have e:b=s1.heap.objs.size:=by simpa using hb
 subst e
 exact I1.zu (Nat.le_refl _) (I1.hok.fresh (Nat.le_refl _))
theorem zy {pins:List (Addr×Obj)}{σ:St}{H:Hp}{s:Shared}{R:It→Hp→Prop}{E:Value→Shared→Prop}{lo hi:Int}{t u v:Tok}{tk:Nat}(I:Inv X pins σ H s) (h1:-(2 ^ 62)≤lo) (h2:lo < 2 ^ 62) (h3:-(2 ^ 62)≤hi) (h4:hi < 2 ^ 62)
  (q:R (Iv lo (hi - lo).toNat) H):wpAny (model X.prog X.w) X.A (pyIter (.ref s.heap.objs.size)) (J5 X pins σ tg R) E {s with heap:=s.heap.push {cls:=.type "range",data:=.fields #[.int lo t,.int hi u,.int 1 v]},toks:=tk}:=by
 refine wpAny_pyIter_range (IsRange.new ..) (small_one h1 h2 h3 h4) ?_
 have I1:Inv X pins σ H {s with heap:=s.heap.push {cls:=.type "range",data:=.fields #[.int lo t,.int hi u,.int 1 v]},toks:=tk}:=I.kept fun b o e=>Heap.get?_push_of_some _ e
 refine⟨(s.heap.push {cls:=.type "range",data:=.fields #[.int lo t,.int hi u,.int 1 v]}).objs.size,[(s.heap.push {cls:=.type "range",data:=.fields #[.int lo t,.int hi u,.int 1 v]}).objs.size],_,_,H,rfl,
  I1.kept (t':=tk) fun b o e=>Heap.get?_push_of_some _ e,vv _ lo (hi - lo).toNat,?_,fun b hb=>?_,q⟩
 ·have e1:lo+((0:Nat):Int) * 1=lo:=by simp
  have e2:(((hi - lo).toNat:Nat):Int) - ((0:Nat):Int)=Builtin.Range.rangeSize lo hi 1:=by rw[rangeSize_one];split <;> omega
  show IsRangeIter _ _ (lo+((0:Nat):Int) * 1) ((((hi - lo).toNat:Nat):Int) - ((0:Nat):Int)) 1
  rw[e1,e2]
  exact Heap.get?_push_size _ rfl
 ·have e:b=(s.heap.push {cls:=.type "range",data:=.fields #[.int lo t,.int hi u,.int 1 v]}).objs.size:=by simpa using hb
  subst e
  exact I1.zu (Nat.le_refl _) (I1.hok.fresh (Nat.le_refl _))
noncomputable def FJ (ta:TA):TI:=fun σ H R=>ta σ H fun vs H1=>∃j:Int,vs=[.int j]∧-(2 ^ 62)≤j∧j < 2 ^ 62∧R (Iv 0 j.toNat) H1
theorem xB {a:Expr}{ta:TA}{p pos:Pos}(hg:Gl X "range") (hm:X.mg "range" =none) (ha:PA X [a] ta) (hs:starEach [a] X.env=[(false,eval a X.env)]:=by rfl):PI X tg (.Call (.Name "range" p) [a] [] pos) (FJ ta):=by
 intro pins s σ H R I h
 refine Call_ (rS I hg hm boot_range (PyProof.Rows.callWith_type1 (fG (ha pos pins s σ H _ I h) fun us s1 ⟨vs,H1,I1,r1,q1⟩=>?_) hs rfl))
 obtain⟨j,e,q1,q2,q⟩:=q1
 subst e
 cases r1 with
 | cons r rr=>
  cases rr
  obtain⟨t,rfl⟩:=r
  exact call_range_1 (zy I1 (by omega) (by omega) q1 q2 (by simpa using q))
noncomputable def J9 (wi:TI) (g:TG) (tb:TS):TS:=fun D σ H=>wi σ H fun J H1=>∃W:Nat→Nat→St→Hp→Prop,(∃m,W 0 m σ H1)∧∀i m σ H,W i m σ H→
 (J.stop i H∧D.nx σ H)∨(J.go i H∧∃N:St→Hp→Prop,(∀σ' H',N σ' H'→∃m',m' < m∧W (i+1) m' σ' H')∧∀x H',J.Iu i H x H'→g x σ H' fun σ2 H2=>tb {D with nx:=N,ct:=N,bk:=D.nx} σ2 H2)
noncomputable def lJ (fp:List Addr) (h:Heap):List (Addr×Obj):=fp.filterMap fun b=>(h.get? b).map fun o=>(b,o)
theorem fP {fp:List Addr}{h:Heap}{b:Addr}{o:Obj}(hb:b∈fp) (e:h.get? b=some o):(b,o)∈lJ fp h:=List.mem_filterMap.mpr ⟨b,hb,by rw[e];rfl⟩
theorem ng {fp:List Addr}{h:Heap}{p:Addr×Obj}(hp:p∈lJ fp h):p.1∈fp∧h.get? p.1=some p.2:=by
 obtain⟨b,hb,e⟩:=List.mem_filterMap.mp hp
 cases q:h.get? b with
 | none=>rw[q] at e;cases e
 | some o=>
  rw[q] at e
  have e':(b,o)=p:=Option.some.inj e
  subst e'
  exact⟨hb,q⟩
theorem Inv.pinned {pins:List (Addr×Obj)}{σ:St}{H:Hp}{s:Shared}{fp:List Addr}(I:Inv X pins σ H s) (hf:∀b∈fp,pF X pins H b) (ho:∀b∈fp,∃o,s.heap.get? b=some o∧∀v,o.data≠.cell v):Inv X (pins++lJ fp s.heap) σ H s:=
 I.wj fun p hp=>(List.mem_append.mp hp).elim (fun z=>I.pin p (List.mem_append_right _ z)) fun z=>by
  obtain⟨hb,e⟩:=ng z
  obtain⟨f0,f1,f2,_⟩:=hf p.1 hb
  obtain⟨o,e',d⟩:=ho p.1 hb
  rw[e] at e';cases e'
  exact⟨e,f0,f1,f2,d⟩
theorem Inv.j0 {pins pl:List (Addr×Obj)}{σ:St}{H:Hp}{s:Shared}(I:Inv X (pins++pl) σ H s):Inv X pins σ H s:=I.wj fun p hp=>I.pin p (List.mem_append_right _ (List.mem_append_left _ hp))
theorem Dt {iter:Expr}{body:List Stmt}{wi:TI}{g:TG}{tb:TS}{pos:Pos}(hp:PassesOwn (model X.prog X.w) X.A X.env X.xe) (hc:X.calm=true) (hi:PI X tg iter wi) (hg:PG X tg g) (hb:vo X body tb)
  (hs:∀x,foldedSetIterable iter X.env x=pure x:=by intro _;rfl):PS X (.For tg iter body [] pos) (J9 wi g tb):=by
 intro pins s σ H D I h
 refine wpAny_For (fG (hi pins s σ H _ I h) fun v s1 h1=>fG h1 fun itv s2 h2=>?_) hs
 obtain⟨it,fp,tn,J,H2,e,I2,T,st2,f2,W,⟨m0,w0⟩,turn⟩:=h2
 subst e
 have Du:∀{H':Hp},(∀b∈fp,H' b=none)→∀b∈fp,pF X pins H' b:=fun hn b hb=>⟨hn b hb,(f2 b hb).2⟩
 refine codeAny_forLoop_any (fun n s'=>∃i σ' H',Inv X pins σ' H' s'∧tn i s'.heap∧(∀b∈fp,H' b=none)∧W i n σ' H') ?_ m0 ⟨0,σ,H2,I2,st2,fun b hb=>(f2 b hb).1,w0⟩
 rintro n s3 ⟨i,σ3,H3,I3,st3,OG,w3⟩
 rcases turn i n σ3 H3 w3 with⟨stop,qn⟩ | ⟨go,N,hN,step⟩
 ·refine wpAny_passesOwn hp (fG (T.done X rfl rfl rfl hc i pins s3 σ3 H3 X.xe I3 (Du OG) st3 stop) fun r s4 ⟨hr,I4⟩=>?_)
  subst hr
  exact wpAny_execs_nil ⟨σ3,H3,I4,qn⟩
 ·refine wpAny_passesOwn hp (fG (T.item X rfl rfl rfl hc i pins s3 σ3 H3 X.xe I3 (Du OG) st3 go) fun r s4 ⟨u,hr,h4⟩=>?_)
  subst hr
  refine wpAny_passesOwn hp (fG h4 fun _ s5 ⟨x,H5,I5,r5,y5,Ka,PV⟩=>?_)
  have PX:=I5.pinned (Du PV) (T.obj _ _ Ka)
  refine wpAny_passesOwn hp (fG (hg _ s5 σ3 H5 x u _ PX r5 (step x H5 y5)) fun _ s6 ⟨PY,H6,I6,q6⟩=>?_)
  refine wpAny_passesOwn hp (fG (hb _ s6 PY H6 _ I6 q6) fun f s7 q7=>?_)
  have again:∀{zz:St}{H7:Hp},Inv X (pins++lJ fp s5.heap) zz H7 s7→N zz H7→∃m,m < n∧∃i σ' H',Inv X pins σ' H' s7∧tn i s7.heap∧(∀b∈fp,H' b=none)∧W i m σ' H':=fun {zz H7} I7 n7=>by
   obtain⟨m',hm,w7⟩:=hN zz H7 n7
   refine⟨m',hm,i+1,zz,H7,I7.j0,T.keep _ _ _ Ka fun b hb o e=>(I7.pin (b,o) (List.mem_append_right _ (List.mem_append_right _ (fP hb e)))).1,fun b hb=>?_,w7⟩
   obtain⟨o,e,d⟩:=T.obj _ _ Ka b hb
   exact(I7.pin (b,o) (List.mem_append_right _ (List.mem_append_right _ (fP hb e)))).2.1
  cases f with
  | next=>obtain⟨zz,H7,I7,n7⟩:=q7;exact again I7 n7
  | cont=>obtain⟨zz,H7,I7,n7⟩:=q7;exact again I7 n7
  | brk=>obtain⟨zz,H7,I7,q7⟩:=q7;exact⟨zz,H7,I7.j0,q7⟩
  | ret v=>obtain⟨x7,zz,H7,I7,r7,q7⟩:=q7;exact⟨x7,zz,H7,I7.j0,r7,q7⟩
end
end L2
namespace L2
open PySem PySem.Spec PyProof.Rows
noncomputable abbrev R2:=V→V→Hp→VK→Prop
noncomputable def mq (X:Cx) (f:Value→Value→Sem Value) (r:R2):Prop:=
 ∀(pins:List (Addr×Obj)) (s:Shared) (σ:St) (H:Hp) (x y:V) (v u:Value) (Q:VK),Inv X pins σ H s→RelV x v→RelV y u→r x y H Q→
  wpAny (model X.prog X.w) X.A (f v u) (EP X pins σ Q) X.xe s
noncomputable def FL (X:Cx) (f:Value→Sem Value) (r:V→Hp→VK→Prop):Prop:=
 ∀(pins:List (Addr×Obj)) (s:Shared) (σ:St) (H:Hp) (x:V) (v:Value) (Q:VK),Inv X pins σ H s→RelV x v→r x H Q→
  wpAny (model X.prog X.w) X.A (f v) (EP X pins σ Q) X.xe s
noncomputable def dW (X:Cx) (f:Value) (r:List V→Hp→VK→Prop):Prop:=
 ∀(pins:List (Addr×Obj)) (s:Shared) (σ:St) (H:Hp) (xs:List V) (us:List Value) (Q:VK),Inv X pins σ H s→Vals xs us→r xs H Q→
  wpAny (model X.prog X.w) X.A (call f us) (EP X pins σ Q) X.xe s
noncomputable def EO (r:R2) (ta tb:TE):TE:=fun σ H Q=>ta σ H fun x H1=>tb σ H1 fun y H2=>r x y H2 Q
noncomputable def PZ (r:V→Hp→VK→Prop) (ta:TE):TE:=fun σ H Q=>ta σ H fun x H1=>r x H1 Q
noncomputable def rI (C:Int→Int→Prop) (g:Int→Int→V):R2:=fun x y H Q=>∃i j,x= .int i∧y= .int j∧C i j∧Q (g i j) H
noncomputable def CF (g:Int→Int→V):R2:=fun x y H Q=>∃i j,x= .int i∧y= .int j∧Q (g i j) H
noncomputable def rU (g:Int→V):V→Hp→VK→Prop:=fun x H Q=>∃i,x= .int i∧Q (g i) H
section
variable {X:Cx}{a b c:Expr}{ta tb tc:TE}{pos:Pos}
theorem Dv (ha:PE X a ta) (hb:PE X b tb){pins:List (Addr×Obj)}{s:Shared}{σ:St}{H:Hp}{R:V→V→Hp→Prop}(I:Inv X pins σ H s)
  (h:ta σ H fun x H1=>tb σ H1 fun y H2=>R x y H2){Q:Value→Shared→Prop}{f:Value→Value→Sem Value}
  (hf:∀v u s2 x y H2,Inv X pins σ H2 s2→RelV x v→RelV y u→R x y H2→wpAny (model X.prog X.w) X.A (f v u) Q X.xe s2):
  wpAny (model X.prog X.w) X.A (eval a X.env) (fun v s₁=>wpAny (model X.prog X.w) X.A (eval b X.env) (fun u s₂=>wpAny (model X.prog X.w) X.A (f v u) Q X.xe s₂) X.xe s₁) X.xe s:=by
 refine fG (ha pins s σ H _ I h) fun v s1 ⟨x,H1,I1,r1,q1⟩=>?_
 refine fG (hb pins s1 σ H1 _ I1 q1) fun u s2 ⟨y,H2,I2,r2,q2⟩=>?_
 exact hf v u s2 x y H2 I2 r1 r2 q2
theorem FN {op:Operator}{r:R2}(ho:mq X (binaryOp op) r) (ha:PE X a ta) (hb:PE X b tb):PE X (.BinOp a op b pos) (EO r ta tb):=by
 intro pins s σ H Q I h
 exact wpAny_BinOp (Dv ha hb I h fun v u s2 x y H2 I2 rx ry q=>ho pins s2 σ H2 x y v u Q I2 rx ry q)
theorem FO {op:UnaryOp}{r:V→Hp→VK→Prop}(ho:FL X (unaryOp op) r) (ha:PE X a ta):PE X (.UnaryOp op a pos) (PZ r ta):=by
 intro pins s σ H Q I h
 exact UnaryOp_ (fG (ha pins s σ H _ I h) fun v s1 ⟨x,H1,I1,r1,q1⟩=>ho pins s1 σ H1 x v Q I1 r1 q1)
theorem Iw {f:Value→Value→Sem Value}{C:Int→Int→Prop}{g:Int→Int→Int}
  (rule:∀(i j:Int) (t u:Tok) (s:Shared) (Q:Value→Shared→Prop) (E:Value→Shared→Prop),C i j→Q (.int (g i j) s.toks) {s with toks:=s.toks+1}→wpAny (model X.prog X.w) X.A (f (.int i t) (.int j u)) Q E s):
  mq X f (rI C fun i j=>.int (g i j)):=by
 intro pins s σ H x y v u Q I rx ry h
 obtain⟨i,j,rfl,rfl,hc,q⟩:=h
 obtain⟨t,rfl⟩:=rx
 obtain⟨t',rfl⟩:=ry
 exact rule i j t t' s _ _ hc ⟨.int (g i j),H,I.tok _,⟨_,rfl⟩,q⟩
theorem FP {f:Value→Value→Sem Value}{g:Int→Int→Int}
  (rule:∀(i j:Int) (t u:Tok) (s:Shared) (Q:Value→Shared→Prop) (E:Value→Shared→Prop),Q (.int (g i j) s.toks) {s with toks:=s.toks+1}→wpAny (model X.prog X.w) X.A (f (.int i t) (.int j u)) Q E s):
  mq X f (CF fun i j=>.int (g i j)):=by
 intro pins s σ H x y v u Q I rx ry h
 obtain⟨i,j,rfl,rfl,q⟩:=h
 obtain⟨t,rfl⟩:=rx
 obtain⟨t',rfl⟩:=ry
 exact rule i j t t' s _ _ ⟨.int (g i j),H,I.tok _,⟨_,rfl⟩,q⟩
theorem Bq {f:Value→Value→Sem Value}{g:Int→Int→Bool}
  (rule:∀(i j:Int) (t u:Tok) (s:Shared) (Q:Value→Shared→Prop) (E:Value→Shared→Prop),Q (.bool (g i j)) s→wpAny (model X.prog X.w) X.A (f (.int i t) (.int j u)) Q E s):
  mq X f (CF fun i j=>.bl (g i j)):=by
 intro pins s σ H x y v u Q I rx ry h
 obtain⟨i,j,rfl,rfl,q⟩:=h
 obtain⟨t,rfl⟩:=rx
 obtain⟨t',rfl⟩:=ry
 exact rule i j t t' s _ _ ⟨.bl (g i j),H,I,rfl,q⟩
noncomputable def FQ (i j:Int):Prop:=0 < j∧j < 1073741824
noncomputable def Kc (i j:Int):Prop:=0≤j∧j≤1000000∧i.natAbs < 2 ^ 64
noncomputable def Dw (i j:Int):Prop:=(-(2 ^ 64) < i∧i < 2 ^ 64)∨(-(2 ^ 64) < j∧j < 2 ^ 64)
theorem Dw.ok {i j:Int}(h:Dw i j):IntMulOk i j:=by
 rcases h with⟨h1,h2⟩ | ⟨h1,h2⟩
 ·exact .of_left (intBits_le_64 h1 h2)
 ·exact .of_right (intBits_le_64 h1 h2)
theorem Dy:mq X (binaryOp .Add) (CF fun i j=>.int (i+j)):=FP fun _ _ _ _ _ _ _ q=>add_int q
theorem Dz:mq X (binaryOp .Sub) (CF fun i j=>.int (i - j)):=FP fun _ _ _ _ _ _ _ q=>sub_int q
theorem DA:mq X (binaryOp .Mult) (rI Dw fun i j=>.int (i * j)):=Iw fun _ _ _ _ _ _ _ hc q=>mul_int q hc.ok
theorem Br:mq X (binaryOp .FloorDiv) (rI FQ fun i j=>.int (i / j)):=Iw fun i j _ _ _ _ _ hc q=>by
 have h1:(0:Int) < j:=hc.1
 have h2:j < 1073741824:=hc.2
 exact floordiv_int (by omega) (by rw[Int.fdiv_eq_ediv_of_nonneg i (by omega)];exact q) (.inl (PyProof.noPylong_small (by omega)))
theorem DB:mq X (binaryOp .Mod) (rI (fun _ j=>0 < j) fun i j=>.int (i % j)):=Iw fun i j _ _ _ _ _ hc q=>by
 have h1:(0:Int) < j:=hc
 exact mod_int' (by omega) (by rw[Int.fmod_eq_emod_of_nonneg i (by omega)];exact q)
theorem DC:mq X (binaryOp .Pow) (rI Kc fun i j=>.int (i ^ j.toNat)):=Iw fun _ _ _ _ _ _ _ hc q=>pow_int_small hc.1 hc.2.1 hc.2.2 q
theorem P0 {f:Value→Sem Value}{g:Int→Int}
  (rule:∀(i:Int) (t:Tok) (s:Shared) (Q:Value→Shared→Prop) (E:Value→Shared→Prop),Q (.int (g i) s.toks) {s with toks:=s.toks+1}→wpAny (model X.prog X.w) X.A (f (.int i t)) Q E s):
  FL X f (rU fun i=>.int (g i)):=by
 intro pins s σ H x v Q I rx h
 obtain⟨i,rfl,q⟩:=h
 obtain⟨t,rfl⟩:=rx
 exact rule i t s _ _ ⟨.int (g i),H,I.tok _,⟨_,rfl⟩,q⟩
theorem DE:FL X (unaryOp .USub) (rU fun i=>.int (-i)):=P0 fun _ _ _ _ _ q=>neg_int q
end
section
variable {X:Cx}{a b c:Expr}{ta tb tc:TE}{pos:Pos}
theorem zA {pins:List (Addr×Obj)}{σ:St}{H:Hp}{s:Shared}{Q:VK}{k k':Bool}(I:Inv X pins σ H s) (q:Q (.bl k) H) (e:k=k'):EP X pins σ Q (.bool k') s:=by
 subst e
 exact⟨.bl k,H,I,rfl,q⟩
theorem FT:mq X (compareOp .Lt) (CF fun i j=>.bl (decide (i < j))):=Bq fun _ _ _ _ _ _ _ q=>lt_int q
theorem FU:mq X (compareOp .LtE) (CF fun i j=>.bl (decide (i≤j))):=Bq fun _ _ _ _ _ _ _ q=>le_int q
theorem FW:mq X (compareOp .Gt) (CF fun i j=>.bl (decide (j < i))):=Bq fun _ _ _ _ _ _ _ q=>gt_int q
theorem FY:mq X (compareOp .GtE) (CF fun i j=>.bl (decide (j≤i))):=Bq fun _ _ _ _ _ _ _ q=>ge_int q
theorem xC:mq X (compareOp .In) (fun x y H Q=>∃i j,x= .str i∧y= .str j∧Q (.bl (!(Builtin.Str.occurrences j i 0 j.length 1).isEmpty)) H):=by
 intro pins s σ H x y v u Q I rx ry h
 obtain⟨i,j,rfl,rfl,q⟩:=h
 obtain⟨t,rfl⟩:=rx
 obtain⟨t',rfl⟩:=ry
 exact in_str (zA I q rfl)
theorem rT:mq X (compareOp .NotIn) (fun x y H Q=>∃i j,x= .str i∧y= .str j∧Q (.bl (!(!(Builtin.Str.occurrences j i 0 j.length 1).isEmpty))) H):=by
 intro pins s σ H x y v u Q I rx ry h
 obtain⟨i,j,rfl,rfl,q⟩:=h
 obtain⟨t,rfl⟩:=rx
 obtain⟨t',rfl⟩:=ry
 exact notIn_str (zA I q rfl)
theorem mq.or {f:Value→Value→Sem Value}{r r':R2}(h:mq X f r) (h':mq X f r'):mq X f (fun x y H Q=>r x y H Q∨r' x y H Q):=by
 intro pins s σ H x y v u Q I rx ry q
 rcases q with q | q
 ·exact h pins s σ H x y v u Q I rx ry q
 ·exact h' pins s σ H x y v u Q I rx ry q
theorem zB (b:Expr){op:CmpOp}(h:op≠.In:=by decide) (h2:op≠.NotIn:=by decide):behindInMarks op b=false:=by
 have e1:(op == CmpOp.In)=false:=by cases op <;> first | rfl | exact absurd rfl h
 have e2:(op == CmpOp.NotIn)=false:=by cases op <;> first | rfl | exact absurd rfl h2
 cases b <;> simp[behindInMarks,e1,e2]
theorem Bs {op:CmpOp}{r:R2}(ho:mq X (compareOp op) r) (ha:PE X a ta) (hb:PE X b tb) (hm:behindInMarks op b=false):PE X (.Compare a [op] [b] pos) (EO r ta tb):=by
 intro pins s σ H Q I h
 exact wpAny_Compare1 (Dv ha hb I h fun v u s2 x y H2 I2 rx ry q=>ho pins s2 σ H2 x y v u Q I2 rx ry q) hm
noncomputable def FZ (t:TE):TT:=fun σ H Q=>t σ H fun x H'=>∃k,x= .bl k∧Q k H'
theorem Bt {op:CmpOp}{r:R2}(ho:mq X (compareOp op) r) (ha:PE X a ta) (hb:PE X b tb) (hm:behindInMarks op b=false):PT X (.Compare a [op] [b] pos) (FZ (EO r ta tb)):=by
 intro pins s σ H Q I h
 refine wpAny_isTrue_Compare1 (fG (ha pins s σ H _ I h) fun v s1 ⟨x,H1,I1,r1,q1⟩=>fG (hb pins s1 σ H1 _ I1 q1) fun u s2 ⟨y,H2,I2,r2,q2⟩=>
  fG (ho pins s2 σ H2 x y v u _ I2 r1 r2 q2) fun c s3 ⟨z,H3,I3,r3,k,e,q3⟩=>?_) hm
 subst e
 cases r3
 exact wpAny_truthy_bool ⟨H3,I3,q3⟩
noncomputable def zC (r r':R2) (ta tb tc:TE):TE:=fun σ H Q=>ta σ H fun x H1=>tb σ H1 fun y H2=>r x y H2 fun z H3=>∃k,z= .bl k∧
 (if k=true then tc σ H3 fun w' H4=>r' y w' H4 Q else Q (.bl false) H3)
theorem zD {op op':CmpOp}{r r':R2}(ho:mq X (compareOp op) r) (ho':mq X (compareOp op') r') (ha:PE X a ta) (hb:PE X b tb) (hc:PE X c tc)
  (hm:lastMarks [op,op'] [b,c]=false:=by with_unfolding_all rfl):PE X (.Compare a [op,op'] [b,c] pos) (zC r r' ta tb tc):=by
 intro pins s σ H Q I h
 refine Compare_chain (fG (ha pins s σ H _ I h) fun v s1 ⟨x,H1,I1,r1,q1⟩=>chain_link (fG (hb pins s1 σ H1 _ I1 q1) fun u s2 ⟨y,H2,I2,r2,q2⟩=>
  fG (ho pins s2 σ H2 x y v u _ I2 r1 r2 q2) fun d s3 ⟨z,H3,I3,r3,k,e,q3⟩=>?_)) hm
 subst e
 cases r3
 refine wpAny_truthy_bool ?_
 cases k with
 | false=>exact ite_ff ⟨.bl false,H3,I3,rfl,q3⟩
 | true=>exact ite_tt (chain_last (fG (hc pins s3 σ H3 _ I3 q3) fun w' s4 ⟨z',H4,I4,r4,q4⟩=>ho' pins s4 σ H4 y z' u w' Q I4 r2 r4 q4))
theorem nh:(sizeLine:Nat) < 2 ^ 63:=by rw[sizeLine_eq];decide
theorem vA:mq X (binaryOp .Add) (fun x y H Q=>∃i j,x= .str i∧y= .str j∧i.length+j.length≤sizeLine∧Q (.str (i++j)) H):=by
 intro pins s σ H x y v u Q I rx ry h
 obtain⟨i,j,rfl,rfl,hz,q⟩:=h
 obtain⟨t,rfl⟩:=rx
 obtain⟨t',rfl⟩:=ry
 exact add_str (fun t' tk=>⟨.str (i++j),H,I.tok _,⟨_,rfl⟩,q⟩) hz
theorem vals1 {x:V}{us:List Value}(r:Vals [x] us):∃u,us=[u]∧RelV x u:=by
 cases r with
 | cons r1 r2=>cases r2;exact⟨_,rfl,r1⟩
theorem vals2 {x y:V}{us:List Value}(r:Vals [x,y] us):∃u w',us=[u,w']∧RelV x u∧RelV y w':=by
 cases r with
 | cons r1 r2=>
  cases r2 with
  | cons r3 r4=>cases r4;exact⟨_,_,rfl,r1,r3⟩
theorem xD (hc:X.calm=true):dW X (.builtin "min") (fun xs H Q=>∃i j,xs=[.int i,.int j]∧Q (.int (if j < i then j else i)) H):=by
 intro pins s σ H xs us Q I r h
 obtain⟨i,j,rfl,q⟩:=h
 obtain⟨u,w',rfl,⟨t,rfl⟩,⟨t',rfl⟩⟩:=vals2 r
 refine min_two_ints (I.ok.hd hc) fun h' tk k=>⟨_,H,I.kept k,?_,q⟩
 by_cases hj:j < i
 ·rw[if_pos hj,if_pos hj];exact⟨_,rfl⟩
 ·rw[if_neg hj,if_neg hj];exact⟨_,rfl⟩
theorem qQ:dW X (.type "int") (fun xs H Q=>(∃i,xs=[.int i]∧Q (.int i) H)∨∃k,xs=[.bl k]∧Q (.int (if k then 1 else 0)) H):=by
 intro pins s σ H xs us Q I r h
 rcases h with⟨i,rfl,q⟩ | ⟨k,rfl,q⟩
 ·obtain⟨u,rfl,t,rfl⟩:=vals1 r
  exact call_int_int ⟨.int i,H,I,⟨_,rfl⟩,q⟩
 ·obtain⟨u,rfl,r1⟩:=vals1 r
  cases r1
  exact call_int_bool ⟨.int (if k then 1 else 0),H,I.tok _,⟨_,rfl⟩,q⟩
end
end L2
namespace L2
open PySem PySem.Spec PyProof.Rows
section
variable {prog:Program}{w:World}{A:Around}{E:Value→Shared→Prop}{s:Shared}{K:PySem.W.Frag}{x dx C f:Addr}{mA:Str→Option Value}{name:Str}{v:Value}
end
theorem oV.some_of {v:V}{o:Option Value}(r:oV (some v) o):∃u,o=some u∧RelV v u:=by
 cases o with
 | none=>exact(show False from r).elim
 | some u=>exact⟨u,rfl,r⟩
section
variable {P:Program}{w:World}{H H':Hp}{h h':Heap}{a C dx:Addr}{fs fs':List (Str×V)}
end
structure Kd (K:PySem.W.Frag) (C:Addr):Prop where
 pg:PySem.W.plainGet K C Str.empty=true
 hd:PySem.W.hasDictIn K C=true
 po:PySem.W.plainOver K C=true
 sa:PySem.W.findIn K (.ref C) "__setattr__" =some (some (.builtin "object.__setattr__"))
theorem Kd.get {K:PySem.W.Frag}{C:Addr}(c:Kd K C) (f:Str):PySem.W.plainGet K C f=true:=c.pg
section
variable {X:Cx}{pins:List (Addr×Obj)}{σ:St}{H:Hp}{s:Shared}{a C dx:Addr}{fs:List (Str×V)}{f:Str}{v:V}{A:Around}{E:Value→Shared→Prop}
end
section
variable {X:Cx}{o e value:Expr}{f:Str}{pos pos' tpos:Pos}{ta tv:TE}
end
section
variable {X:Cx}{pins:List (Addr×Obj)}{σ:St}{H:Hp}{s:Shared}{A:Around}{E:Value→Shared→Prop}{Q:Value→Shared→Prop}{c:Value}{b:Bool}
inductive oY (K:PySem.W.Frag) (H:Hp):V→Value→Prop where
 | cg:oY K H .cg (.type "NoneType")
 | bl (x:Bool):oY K H (.bl x) (.type "bool")
 | int (i:Int):oY K H (.int i) (.type "int")
 | str (x:Str):oY K H (.str x) (.type "str")
 | flt (x:UInt64):oY K H (.flt x) (.type "float")
 | lst {a:Addr}{xs:List V}(e:H a=some (.lst xs)):oY K H (.ref a) (.type "list")
 | ju {a:Addr}{o:Obj}{xs:List V}(e:H a=some (.ju o (.lst xs))):oY K H (.ref a) (.type "list")
 | tup {a:Addr}{xs:List V}(e:H a=some (.tup xs)):oY K H (.ref a) (.type "tuple")
 | dK {a:Addr}{kvs:List (Key×V)}(e:H a=some (.dK kvs)):oY K H (.ref a) (.type "dict")
 | dT {a:Addr}{kvs:List (List Key×V)}(e:H a=some (.dT kvs)):oY K H (.ref a) (.type "dict")
 | ins {a C dx:Addr}{fs:List (Str×V)}(e:H a=some (.ins C dx fs)) (cl:Kd K C) (ha:PySem.W.findIn K (.ref C) "__class__" =some (some (.builtin "object.__class__")))
   (hn:PySem.W.specialIn K (.builtin "object.__class__") "__get__" =some (some (.builtin "getset_descriptor.__get__"))) (htk:PySem.W.takesIn K (.builtin "object.__class__")=some true)
   (hm:PySem.W.mroIn K C (.type "object")=some true):oY K H (.ref a) (.ref C)
end
end L2
namespace L2
open PySem PySem.Spec PyProof.Rows
structure iw (k:Nat) (A:Around):Prop where
 hd:A.handled=none
 dp:A.depth+3 * k+5 < recursionLimit
 un:A.units+16 * k+200 < cLine
 gd:A.guards=some []
theorem iw.mono {j k:Nat}{A:Around}(r:iw k A) (h:j≤k):iw j A:=⟨r.hd,by have:=r.dp;omega,by have:=r.un;omega,r.gd⟩
theorem iw.deeper {k:Nat}{A:Around}(r:iw (k+1) A) (env:Env):iw k (A.deeper env):=
 ⟨r.hd,by have:=r.dp;show A.depth+1+3 * k+5 < _;omega,by have:=r.un;show A.units+3+16 * k+200 < _;omega,r.gd⟩
theorem iw.in1 {k:Nat}{A:Around}(r:iw (k+1) A):iw k A.in1:=
 ⟨r.hd,by have:=r.dp;show A.depth+3 * k+5 < _;omega,by have:=r.un;show A.units+1+16 * k+200 < _;omega,r.gd⟩
theorem iw.depth {k:Nat}{A:Around}(r:iw k A):A.depth < recursionLimit:=by have:=r.dp;omega
theorem iw.units {k:Nat}{A:Around}(r:iw k A):A.units+64 < cLine:=by have:=r.un;omega
noncomputable def Ga:TA:=fun _ H Q=>Q [] H
noncomputable def CG (ta:TE) (tr:TA):TA:=fun σ H Q=>ta σ H fun x H1=>tr σ H1 fun xs H2=>Q (x :: xs) H2
section
variable {X:Cx}{e:Expr}{es:List Expr}{te:TE}{t:TA}{pos:Pos}
theorem rW:PA X [] Ga:=fun _ _ _ _ H Q I h=>Calls.spliced_nil ⟨[],H,I,.nil,h⟩
theorem kP (ha:PE X e te) (hr:PA X es t) (hs:starEach (e :: es) X.env=(false,eval e X.env) :: starEach es X.env:=by rfl):PA X (e :: es) (CG te t):=by
 intro pos pins s σ H Q I h
 rw[hs]
 show wpAny _ _ (spliced ((false,eval e X.env) :: backTo pos (starEach es X.env))) _ _ s
 refine Calls.spliced_cons (fG (ha pins s σ H _ I h) fun u s1 ⟨x,H1,I1,r1,q1⟩=>?_)
 exact fG (hr pos pins s1 σ H1 _ I1 q1) fun us s2 ⟨xs,H2,I2,r2,q2⟩=>⟨x :: xs,H2,I2,.cons r1 r2,q2⟩
noncomputable def Ke (t:TA):TE:=fun σ H Q=>t σ H fun xs H1=>xs.length≤sizeLine∧∀p,H1 p=none→Q (.ref p) (upd H1 p (.tup xs))
noncomputable def Kf (t:TA):TE:=fun σ H Q=>t σ H fun xs H1=>xs.length≤sizeLine∧∀p,H1 p=none→Q (.ref p) (upd H1 p (.lst xs))
theorem DF {x1}(h:PA X es t):PE X (.Tuple es x1 pos) (Ke t):=by
 intro pins s σ H Q I hq
 refine wpAny_Tuple_spliced (fG (h pos pins s σ H _ I hq) fun us s1 ⟨xs,H1,I1,r,z,q⟩=>⟨by rw[←r.length];exact z,?_⟩)
 have hf:H1 s1.heap.objs.size=none:=I1.hok.fresh (Nat.le_refl _)
 refine⟨.ref s1.heap.objs.size,upd H1 s1.heap.objs.size (.tup xs),I1.laid (t':=s1.toks) (fun b u e=>Heap.get?_push_of_some _ e) (Nat.le_refl _) ?_,rfl,q _ hf⟩
 exact⟨z,us,r,⟨_,Heap.get?_push_size _ rfl,rfl,_,rfl⟩⟩
theorem DG (h:PA X es t):PE X (.List es pos) (Kf t):=by
 intro pins s σ H Q I hq
 refine wpAny_List_spliced (fG (h pos pins s σ H _ I hq) fun us s1 ⟨xs,H1,I1,r,z,q⟩=>⟨by rw[←r.length];exact z,?_⟩)
 have hf:H1 s1.heap.objs.size=none:=I1.hok.fresh (Nat.le_refl _)
 refine⟨.ref s1.heap.objs.size,upd H1 s1.heap.objs.size (.lst xs),I1.laid (t':=s1.toks) (fun b u e=>Heap.get?_push_of_some _ e) (Nat.le_refl _) ?_,rfl,q _ hf⟩
 exact⟨z,us,0,r,Heap.get?_push_size _ rfl⟩
end
noncomputable abbrev Sp:=List V→Hp→VK→XK→Prop
noncomputable abbrev xE:=List Env→Hp→Shared→XK→Value→Shared→Prop
structure vB (P:Program) (w:World) (K:PySem.W.Frag) (mg:Str→Option Value) (base:Heap) (A:Around) (outer:List Env) (s:Shared) (H:Hp):Prop where
 frames:A.frames=some outer
 mod:Mod K mg base
 bs:∀b o,base.get? b=some o→s.heap.get? b=some o∧H b=none
 Be:base.objs.size≤s.heap.objs.size
 oW:s.heap.FunFrames base outer
 Dc:∀b∈frs outer,H b=none
 hok:lA P w H s.heap
 bare:AllBare s.gens
noncomputable def CE (outer:List Env) (P:Program) (w:World) (H:Hp) (s:Shared) (Q:VK) (u:Value) (s':Shared):Prop:=
 ∃v H',s'.os=s.os∧AllBare s'.gens∧Un (frs outer) [] H H' s.heap s'.heap∧lA P w H' s'.heap∧RelV v u∧Q v H'
noncomputable def CR (CX:xE) (outer:List Env) (P:Program) (w:World) (H:Hp) (s:Shared) (Q:VK) (E:XK) (r:Result) (s':Shared):Prop:=
 match r with
 | .ok (.ret u)=>CE outer P w H s Q u s'
 | .ok _=>False
 | .error e=>CX outer H s E e s'
structure bz (P:Program) (w:World) (K:PySem.W.Frag) (mg:Str→Option Value) (base:Heap) (CX:xE) (k:Nat) (f:Addr) (fd:FuncData) (ps:List Str) (sp:Sp):Prop where
 len:∀vs H Q E,sp vs H Q E→vs.length=ps.length
 run:∀(A:Around) (outer:List Env) (s:Shared) (H:Hp) (args:Args) (us:List Value) (vs:List V) (Q:VK) (E:XK),iw k A→vB P w K mg base A outer s H→BindsTo s fd args (ps.zip us)→Vals vs us→sp vs H Q E→
  codeAny (model P w) A (.call (.ref f) args) (CR CX outer P w H s Q E) s
theorem bz.mono {P:Program}{w:World}{K:PySem.W.Frag}{mg:Str→Option Value}{base:Heap}{CX:xE}{j k:Nat}{f:Addr}{fd:FuncData}{ps:List Str}{sp:Sp}(F:bz P w K mg base CX j f fd ps sp) (h:j≤k):
  bz P w K mg base CX k f fd ps sp:=⟨F.len,fun A outer s H args us vs Q E hr=>F.run A outer s H args us vs Q E (hr.mono h)⟩
theorem bz.imp {P:Program}{w:World}{K:PySem.W.Frag}{mg:Str→Option Value}{base:Heap}{CX:xE}{k:Nat}{f:Addr}{fd:FuncData}{ps:List Str}{sp OH:Sp}(F:bz P w K mg base CX k f fd ps sp)
  (h:∀vs H Q E,OH vs H Q E→sp vs H Q E):bz P w K mg base CX k f fd ps OH:=
 ⟨fun vs H Q E q=>F.len vs H Q E (h _ _ _ _ q),fun A outer s H args us vs Q E hr he hb hv hs=>F.run A outer s H args us vs Q E hr he hb hv (h _ _ _ _ hs)⟩
theorem vB.in1 {P:Program}{w:World}{K:PySem.W.Frag}{mg:Str→Option Value}{base:Heap}{A:Around}{outer:List Env}{s:Shared}{H:Hp}(e:vB P w K mg base A outer s H):
  vB P w K mg base A.in1 outer s H:=⟨e.frames,e.mod,e.bs,e.Be,e.oW,e.Dc,e.hok,e.bare⟩
section
variable {X:Cx}{pins:List (Addr×Obj)}{σ:St}{H:Hp}{s s':Shared}
theorem Inv.Kg (I:Inv X pins σ H s):vB X.prog X.w X.K X.mg X.base X.A X.stack s H:=
 ⟨I.ok.frames,I.ok.mod,I.bs,Nat.le_trans I.ok.Be I.sz,I.stack,I.wg,I.hok,I.bare⟩
theorem Inv.after {Q:VK}{u:Value}(I:Inv X pins σ H s) (h:CE X.stack X.prog X.w H s Q u s'):EP X pins σ Q u s':=by
 obtain⟨v,H',os,bare,un,hok,r,q⟩:=h
 obtain⟨hh,g,d,t,os'⟩:=s'
 obtain rfl:os'=s.os:=os
 exact⟨v,H',I.call (h':=hh) (g':=g) (d':=d) (t':=t) (ch:=[]) un hok bare (fun b z=>absurd z (by simp)),r,q⟩
end
noncomputable def CH (sp:Sp) (zE:List V) (E:XK) (t:TA):TE:=fun σ H Q=>t σ H fun vs H1=>sp (vs++zE) H1 Q E
noncomputable def Binds (K:PySem.W.Frag) (fd:FuncData) (ps:List Str) (ds:List Value):Prop:=
 ∀(s:Shared) (us:List Value),K.In s.heap→(us++ds).length=ps.length→BindsTo s fd ⟨us,[]⟩ (ps.zip (us++ds))
theorem Binds.all {K:PySem.W.Frag}{fd:FuncData}{ps:List Str}(h:∀us:List Value,us.length=ps.length→bindArgs fd ⟨us,[]⟩=pure (ps.zip us)):Binds K fd ps []:=fun s us _ hl=>by
 rw[List.append_nil] at hl ⊢
 exact .of_eq (h us hl)
noncomputable def Passes (CX:xE) (X:Cx) (E:XK):Prop:=∀(pins:List (Addr×Obj)) (σ:St) (H:Hp) (s:Shared) (e:Value) (s':Shared),Inv X pins σ H s→CX X.stack H s E e s'→X.xe e s'
section
variable {X:Cx}{CX:xE}{k:Nat}{f C:Addr}{fd:FuncData}{ps:List Str}{sp:Sp}{zE:List V}{ds:List Value}{E:XK}{x m:Str}{p pos apos:Pos}{e o:Expr}{es:List Expr}{ta:TE}{t:TA}
theorem zF {pins:List (Addr×Obj)}{σ:St}{H:Hp}{s:Shared}{Q:VK}{us:List Value}{vs:List V}(F:bz X.prog X.w X.K X.mg X.base CX k f fd ps sp) (hr:iw k X.A) (hb:Binds X.K fd ps ds) (hd:Vals zE ds) (hx:Passes CX X E)
  (I:Inv X pins σ H s) (r:Vals vs us) (h:sp (vs++zE) H Q E):wpAny (model X.prog X.w) X.A (call (.ref f) us) (EP X pins σ Q) X.xe s:=by
 have r2:Vals (vs++zE) (us++ds):=r.append hd
 have hl:(us++ds).length=ps.length:=by rw[←r2.length];exact F.len _ _ _ _ h
 refine wpAny_call (codeAny_mono (F.run X.A X.stack s H ⟨us,[]⟩ (us++ds) (vs++zE) Q E hr I.Kg (hb s us I.we hl) r2 h) fun r s' hq=>?_)
 cases r with
 | error e=>exact hx pins σ H s e s' I hq
 | ok fl=>
  cases fl with
  | ret u=>exact I.after hq
  | next=>exact False.elim hq
  | brk=>exact False.elim hq
  | cont=>exact False.elim hq
theorem Bu (F:bz X.prog X.w X.K X.mg X.base CX k f fd ps sp) (hr:iw k X.A) (hg:Gl X x) (hm:X.mg x=some (.ref f)) (hk:PySem.W.keepIn X.K (.ref f)=true) (hb:Binds X.K fd ps ds) (hd:Vals zE ds) (hx:Passes CX X E)
  (ha:PA X (e :: es) t) (hdb:(x == ("__debug__":Str))=false:=by decide) (he:starEach (e :: es) X.env=(false,eval e X.env) :: starEach es X.env:=by rfl) (hpl:(backTo pos (starEach es X.env)).any (·.1)=false:=by rfl):
  PE X (.Call (.Name x p) (e :: es) [] pos) (CH sp zE E t):=by
 intro pins s σ H Q I h
 refine wpAny_Call_Name_kw (wk I hg hm ?_ hdb)
 refine PySem.W.callWith_K (h₀:=X.base) I.ok.mod.Iq hk (fG (ha pos pins s σ H _ I h) fun us s1 ⟨vs,H1,I1,r,q⟩=>⟨I1.we,?_⟩) he hpl
 exact zF F hr hb hd hx I1 r q
end
section
variable {X:Cx}{CX:xE}{k:Nat}{f C:Addr}{fd:FuncData}{ps ks:List Str}{sp:Sp}{E:XK}{x m:Str}{p pos apos kpos:Pos}{e o:Expr}{es:List Expr}{kws:List Keyword}{te ta:TE}{t tk:TA}{nm:Option Str}
variable {g:List Value→List Value→List Value}{gV:List V→List V→List V}
end
structure bH (N P:List Str) (sc:Scope):Prop where
 kind:sc.kind= .function
 co:sc.isCoroutine=false
 gen:sc.isGenerator=false
 nd:N.Nodup
 pre:N.take P.length=P
 par:∀x∈P,sc.names.lookup x=some .local∨sc.names.lookup x=some .cell
 DH:∀y∈sc.names,y.2≠.free
theorem qR {kindOf:Str→Option NameKind}{x:Str}:∀{binds:List (Str×Value)}{m:Str→Option Value},(∀v,(x,v)∉binds)→bindL kindOf binds m x=m x
 | [],_,_=>rfl
 | (n,v) :: r,m,h=>by
  unfold bindL
  rw[qR fun w hw=>h w (List.mem_cons_of_mem _ hw)]
  split
  ·have:x≠n:=by rintro rfl;exact h v List.mem_cons_self
   simp[this]
  ·rfl
theorem qT {kindOf:Str→Option NameKind}{x:Str}:∀{binds:List (Str×Value)}{m:Str→Option Value},(∀v,(x,v)∉binds)→bindC kindOf binds m x=m x
 | [],_,_=>rfl
 | (n,v) :: r,m,h=>by
  unfold bindC
  rw[qT fun w hw=>h w (List.mem_cons_of_mem _ hw)]
  split
  ·rfl
  ·have:x≠n:=by rintro rfl;exact h v List.mem_cons_self
   simp[this]
theorem qU {kindOf:Str→Option NameKind}{x:Str}{v:Value}:∀{P:List Str}{vs:List Value}{i:Nat}{m:Str→Option Value},P.Nodup→P[i]? =some x→vs[i]? =some v→kindOf x=some .local→
  bindL kindOf (P.zip vs) m x=some v
 | [],_,_,_,_,h,_,_=>by simp at h
 | _ :: _,[],_,_,_,_,h,_=>by simp at h
 | p :: P,w :: vs,0,m,nd,h1,h2,hk=>by
  simp at h1 h2;subst h1;subst h2
  show bindL kindOf ((p,w) :: P.zip vs) m p=_
  unfold bindL
  rw[qR fun v hv=>(List.nodup_cons.mp nd).1 (List.of_mem_zip hv).1,if_pos hk]
  simp
 | p :: P,w :: vs,i+1,m,nd,h1,h2,hk=>by
  show bindL kindOf ((p,w) :: P.zip vs) m x=_
  unfold bindL
  exact qU (i:=i) (List.nodup_cons.mp nd).2 (by simpa using h1) (by simpa using h2) hk
theorem qV {kindOf:Str→Option NameKind}{x:Str}{v:Value}:∀{P:List Str}{vs:List Value}{i:Nat}{m:Str→Option Value},P.Nodup→P[i]? =some x→vs[i]? =some v→kindOf x≠some .local→
  bindC kindOf (P.zip vs) m x=some v
 | [],_,_,_,_,h,_,_=>by simp at h
 | _ :: _,[],_,_,_,_,h,_=>by simp at h
 | p :: P,w :: vs,0,m,nd,h1,h2,hk=>by
  simp at h1 h2;subst h1;subst h2
  show bindC kindOf ((p,w) :: P.zip vs) m p=_
  unfold bindC
  rw[qT fun v hv=>(List.nodup_cons.mp nd).1 (List.of_mem_zip hv).1,if_neg hk]
  simp
 | p :: P,w :: vs,i+1,m,nd,h1,h2,hk=>by
  show bindC kindOf ((p,w) :: P.zip vs) m x=_
  unfold bindC
  exact qV (i:=i) (List.nodup_cons.mp nd).2 (by simpa using h1) (by simpa using h2) hk
noncomputable def start (N:List Str) (vs:List V):St:=vs.map some++List.replicate (N.length - vs.length) none
noncomputable def vC (CX:xE) (P:Program) (w:World) (K:PySem.W.Frag) (mg:Str→Option Value) (base:Heap) (N:List Str) (qual:Str) (scope:Scope) (f:Addr) (cd:Value) (A:Around) (outer:List Env) (s:Shared) (H:Hp) (E:XK):Cx where
 prog:=P
 w:=w
 K:=K
 mg:=mg
 base:=base
 A:=A.deeper (envOfC qual scope s.heap.objs.size f cd)
 N:=N
 s₀:=s
 H₀:=H
 env:=envOfC qual scope s.heap.objs.size f cd
 outer:=outer
 stack:=envOfC qual scope s.heap.objs.size f cd :: outer
 ex:=[]
 calm:=true
 fn:=fun _=>true
 pn:=[]
 xe:=fun e s'=>wpAny (model P w) (A.deeper (envOfC qual scope s.heap.objs.size f cd)) (leaving (envOfC qual scope s.heap.objs.size f cd) e) (fun _ s''=>CX outer H s E e s'') (fun e' s''=>CX outer H s E e' s'') s'
theorem tw {sc:Scope}{n:Nat}{x:Str}(h:sc.names.lookup x=some .cell):∃c,(cellsFrom n sc.names []).lookup x=some c:=by
 have q:=PySem.W.cellsFrom_some sc.names n [] (.inl h)
 exact Option.isSome_iff_exists.mp q
theorem xF {CX : xE} {P : Program} {w : World} {K : PySem.W.Frag} {mg : Str → Option Value} {base : Heap} {N ps : List Str} {qual : Str} {scope : Scope} {f : Addr} {cd : Value} {A : Around} {outer : List Env} {s s1 : Shared} {H : Hp} {E : XK} {us : List Value} {vs : List V}
    (S:bH N ps scope) (hd:A.handled=none) (e0:vB P w K mg base A outer s H) (hl:vs.length=ps.length) (r:Vals vs us)
    (x:InCallC s s.heap.objs.size (bindL (envOfC qual scope s.heap.objs.size f cd).kindOf (ps.zip us) fun _=>none) (cellsFrom (s.heap.objs.size+1) scope.names []) (bindC (envOfC qual scope s.heap.objs.size f cd).kindOf (ps.zip us) fun _=>none) s1):
    Inv (vC CX P w K mg base N qual scope f cd A outer s H E) [] (start N vs) H s1:=by
  have hpl:ps.length≤N.length:=by have:=congrArg List.length S.pre;rw[List.length_take] at this;omega
  obtain⟨h1,tk,rfl,hk⟩:=x.done
  have Gb:∀b:Addr,b∉(vC CX P w K mg base N qual scope f cd A outer s H E).ex:=fun b z=>absurd (show b∈([]:List Addr) from z) (by simp)
  refine⟨⟨e0.mod,S.kind,rfl,rfl,Nat.le_refl _,fun y z c h1 h2=>?_,fun y hy=>?_,fun y c _ h=>?_,fun _=>hd,Around.frames_deeper e0.frames,.inr ⟨rfl,rfl⟩,fun b z=>absurd z (Gb b),e0.bs,e0.Be,fun b _ _=>Gb b,fun b z=>absurd z (Gb b),e0.oW,e0.Dc⟩,
    rfl,e0.bare,Un.kept hk,⟨_,x.toInCall.ns,fun i y v h1 h2 h3=>?_⟩,fun y c h=>⟨_,x.cell y c h⟩,e0.hok.fresh (Nat.le_refl _),fun y c h=>?_,fun p hp=>absurd (show p∈([]:List (Addr×Obj)) from hp) (by simp),e0.hok.kept hk,?_⟩
  · exact name_of_addr x.apart (PySem.mem_of_lookup h1) (PySem.mem_of_lookup h2)
  · have hy:scope.names.lookup y=some .cell∨scope.names.lookup y=some .free:=hy
    rcases hy with hy | hy
    · exact tw hy
    · exact absurd rfl (S.DH _ (PySem.mem_of_lookup hy))
  · exact Nat.le_of_lt (x.above y c (PySem.mem_of_lookup h))
  · have hi:i < vs.length:=by
      unfold start at h2
      by_cases hi:i < vs.length
      · exact hi
      · rw[List.getElem?_append_right (by simpa using hi)] at h2
        rw[List.getElem?_replicate] at h2
        split at h2 <;> cases h2
    have ha:vs[i]? =some v:=by
      unfold start at h2
      rw[List.getElem?_append_left (by simpa using hi),List.getElem?_map] at h2
      cases e:vs[i]? with
      | none=>rw[e] at h2;cases h2
      | some a=>rw[e] at h2;cases h2;rfl
    obtain⟨u,hu,rv⟩:=r.get ha
    have hp:ps[i]? =some y:=by
      rw[←S.pre,List.getElem?_take_of_lt (by omega)];exact h1
    have OI:ps.Nodup:=by rw[←S.pre];exact S.nd.sublist (List.take_sublist _ _)
    refine⟨u,rv,?_⟩
    rcases S.par y (List.mem_of_getElem? hp) with k | k
    · exact .inl ⟨k,qU OI hp hu k⟩
    · obtain⟨c,e⟩:=tw (n:=s.heap.objs.size+1) k
      refine .inr ⟨.inl k,c,e,?_⟩
      have q:=x.cell y c e
      rw[qV OI hp hu (by show scope.names.lookup y≠_;rw[k];decide)] at q
      exact q
  · exact e0.hok.fresh (Nat.le_of_lt (x.above y c (PySem.mem_of_lookup h)))
  · unfold start
    show _=N.length
    rw[List.length_append,List.length_map,List.length_replicate]
    omega
theorem Gd {CX:xE}{P:Program}{w:World}{K:PySem.W.Frag}{mg:Str→Option Value}{base:Heap}{k:Nat}{f:Addr}{name qual:Str}{params:Arguments}{body:List Stmt}{scope:Scope}{dV kV doc pm cdv ct oc:Value}{an od:Option Addr}
  {osl:Array (Option Value)}{N ps:List Str}{sp:Sp}(lk:K.lookup f=some ⟨oc,od,.func (PySem.W.fnOf name qual params body scope dV kV doc pm an cdv ct),osl⟩) (hcd:PySem.W.codeIn K cdv qual=true) (S:bH N ps scope)
  (len:∀vs H Q E,sp vs H Q E→vs.length=ps.length)
  (hbody:∀(A:Around) (outer:List Env) (s:Shared) (H:Hp) (vs:List V) (Q:VK) (E:XK),iw k (A.deeper (envOfC qual scope s.heap.objs.size f cdv))→sp vs H Q E→
   ∃t,vo (vC CX P w K mg base N qual scope f cdv A outer s H E) body t∧t {nx:=fun _ H'=>Q .cg H',rt:=Q} (start N vs) H):
  bz P w K mg base CX (k+1) f (PySem.W.fnOf name qual params body scope dV kV doc pm an cdv ct) ps sp:=by
 refine⟨len,fun A outer s H args us vs Q E hr e0 hb r CI=>?_⟩
 have hl:=len _ _ _ _ CI
 have KX:K.In s.heap:=e0.mod.Iq.keeps fun b o e=>(e0.bs b o e).1
 have lim:s.heap.NoLimit:=e0.mod.nolimit.keeps fun b o e=>(e0.bs b o e).1
 have hkind:∀y∈ps.zip us,scope.names.lookup y.1=some .local∨(scope.names.lookup y.1=some .cell∧((cellsFrom (s.heap.objs.size+1) scope.names []).lookup y.1).isSome=true):=fun⟨n,v⟩ hy=>by
  rcases S.par n (List.of_mem_zip hy).1 with q | q
  ·exact .inl q
  ·exact .inr ⟨q,PySem.W.cellsFrom_some _ _ _ (.inl q)⟩
 refine codeAny_call_function hr.depth (KX _ _ lk) rfl S.co S.gen rfl (PySem.W.codeRec_of KX hcd) (hb _ _ _ _ ?_)
 refine wpAny_newFunctionEnv_cells S.kind hkind fun env he s1 x=>?_
 subst he
 refine⟨lim.keeps x.toInCall.keep,codeAny_func ?_⟩
 obtain⟨t,ht,hq⟩:=hbody A outer s H vs Q E (hr.deeper _) CI
 have I:Inv (vC CX P w K mg base N qual scope f cdv A outer s H E) [] (start N vs) H s1:=xF S hr.hd e0 hl r x
 refine wpAny_mono (ht [] s1 (start N vs) H _ I hq) (fun fl s' hs=>?_) fun e s' hs=>hs
 have fin:∀{σ':St}{H':Hp}{v:V}{u:Value},Inv (vC CX P w K mg base N qual scope f cdv A outer s H E) [] σ' H' s'→RelV v u→Q v H'→CE outer P w H s Q u s':=
  fun {σ' H' v u} J rv q=>⟨v,H',J.os,J.bare,J.base,J.hok,rv,q⟩
 cases fl with
 | ret u=>
  obtain⟨v,σ',H',J,rv,q⟩:=hs
  exact fin J rv q
 | next=>
  obtain⟨σ',H',J,q⟩:=hs
  exact fin (v:=V.cg) (u:=Value.none) J rfl q
 | brk=>
  obtain⟨_,_,_,q⟩:=hs
  exact False.elim q
 | cont=>
  obtain⟨_,_,_,q⟩:=hs
  exact False.elim q
end L2
namespace L2
open PySem PySem.Spec PyProof.Rows
section
variable {X:Cx}{x:Str}{p pos:Pos}{e:Expr}{es:List Expr}{t:TA}{id T:String}{r:List V→Hp→VK→Prop}
noncomputable def OJ (r:List V→Hp→VK→Prop) (t:TA):TE:=fun σ H Q=>t σ H fun vs H1=>r vs H1 Q
theorem j3 (hc:dW X (.builtin id) r) (hg:Gl X x) (hm:X.mg x=none) (hv:bootBuiltins x=some (.builtin id)) (ha:PA X (e :: es) t) (hn:x≠"__name__":=by decide) (hdb:(x == ("__debug__":Str))=false:=by decide)
  (he:starEach (e :: es) X.env=(false,eval e X.env) :: starEach es X.env:=by rfl) (hpl:(backTo pos (starEach es X.env)).any (·.1)=false:=by rfl):PE X (.Call (.Name x p) (e :: es) [] pos) (OJ r t):=by
 intro pins s σ H Q I h
 refine wpAny_Call_Name_kw (rS I hg hm hv ?_ hn hdb)
 exact PyProof.Rows.callWith_builtin1 (fG (ha pos pins s σ H _ I h) fun us s1 ⟨vs,H1,I1,r1,q1⟩=>hc pins s1 σ H1 vs us Q I1 r1 q1) he hpl
theorem xG (hc:dW X (.type T) r) (hg:Gl X x) (hm:X.mg x=none) (hv:bootBuiltins x=some (.type T)) (ha:PA X (e :: es) t) (hn:x≠"__name__":=by decide) (hdb:(x == ("__debug__":Str))=false:=by decide)
  (he:starEach (e :: es) X.env=(false,eval e X.env) :: starEach es X.env:=by rfl) (hpl:(backTo pos (starEach es X.env)).any (·.1)=false:=by rfl):PE X (.Call (.Name x p) (e :: es) [] pos) (OJ r t):=by
 intro pins s σ H Q I h
 refine wpAny_Call_Name_kw (rS I hg hm hv ?_ hn hdb)
 exact PyProof.Rows.callWith_type1 (fG (ha pos pins s σ H _ I h) fun us s1 ⟨vs,H1,I1,r1,q1⟩=>hc pins s1 σ H1 vs us Q I1 r1 q1) he hpl
end
end L2
namespace L2
open PySem PySem.Spec PyProof.Rows
section
variable {κ:Type} [DecidableEq κ]
noncomputable def ni (kvs:List (κ×V)) (k:κ):Option V:=(kvs.find? fun kv=>decide (kv.1=k)).map (·.2)
noncomputable def putK (kvs:List (κ×V)) (k:κ) (v:V):List (κ×V):=
 if(kvs.any fun kv=>decide (kv.1=k))=true then kvs.map (fun kv=>if kv.1=k then(kv.1,v) else kv) else kvs++[(k,v)]
noncomputable def CJ (kvs:List (κ×V)) (k:κ):List (κ×V):=kvs.filter fun kv=>decide (kv.1≠k)
theorem mw {p:κ×V}{r:List (κ×V)}{k:κ}(e:p.1=k):ni (p :: r) k=some p.2:=by simp[ni,List.find?_cons,e]
theorem mz {p:κ×V}{r:List (κ×V)}{k:κ}(e:¬p.1=k):ni (p :: r) k=ni r k:=by simp[ni,List.find?_cons,e]
theorem tF (k:κ):∀kvs:List (κ×V),(kvs.any fun kv=>decide (kv.1=k))=(ni kvs k).isSome
 | []=>rfl
 | p :: r=>by
  rw[List.any_cons]
  by_cases e:p.1=k
  ·simp only[mw e,decide_eq_true e,Bool.true_or,Option.isSome_some]
  ·rw[mz e,decide_eq_false e,Bool.false_or];exact tF k r
theorem nY (kvs:List (κ×V)) (k:κ) (v:V):(putK kvs k v).length≤kvs.length+1:=by
 unfold putK
 split
 ·rw[List.length_map];omega
 ·rw[List.length_append,List.length_cons,List.length_nil];omega
theorem oV.xH {o:Option V}{u:Option Value}(r:oV o u):o.isSome=u.isSome:=by
 cases o with
 | none=>cases u with
  | none=>rfl
  | some _=>exact(show False from r).elim
 | some _=>cases u with
  | none=>exact(show False from r).elim
  | some _=>rfl
theorem oV.getD {o:Option V}{u:Option Value}{d:V}{d':Value}(r:oV o u) (rd:RelV d d'):RelV (o.getD d) (u.getD d'):=by
 cases o with
 | none=>cases u with
  | none=>exact rd
  | some _=>exact(show False from r).elim
 | some _=>cases u with
  | none=>exact(show False from r).elim
  | some _=>exact r
theorem KV.val {kvs:List (κ×V)}{vs:List (κ×Value)}(r:KV kvs vs) (k:κ):oV (ni kvs k) (valueAt vs k):=by
 unfold KV at r
 induction r with
 | nil=>exact True.intro
 | @cons p q ps qs h t ih=>
  obtain⟨h1,h2⟩:=h
  by_cases e:p.1=k
  ·have e':q.1=k:=h1.symm.trans e
   have b:valueAt (q :: qs) k=some q.2:=by simp[valueAt,List.find?_cons,e']
   rw[mw e,b];exact h2
  ·have e':¬q.1=k:=fun z=>e (h1.trans z)
   have b:valueAt (q :: qs) k=valueAt qs k:=by simp[valueAt,List.find?_cons,e']
   rw[mz e,b];exact ih
theorem KV.any {kvs:List (κ×V)}{vs:List (κ×Value)}(r:KV kvs vs) (k:κ):(kvs.any fun kv=>decide (kv.1=k))=vs.any fun kv=>decide (kv.1=k):=by
 unfold KV at r
 induction r with
 | nil=>rfl
 | cons h t ih=>rw[List.any_cons,List.any_cons,ih,h.1]
theorem KV.repl {kvs:List (κ×V)}{vs:List (κ×Value)}(r:KV kvs vs) (k:κ){y:V}{u:Value}(ry:RelV y u):
  KV (kvs.map fun kv=>if kv.1=k then(kv.1,y) else kv) (vs.map fun kv=>if kv.1=k then(kv.1,u) else kv):=by
 unfold KV at r ⊢
 induction r with
 | nil=>exact .nil
 | @cons p q ps qs h t ih=>
  rw[List.map_cons,List.map_cons]
  refine .cons ?_ ih
  obtain⟨h1,h2⟩:=h
  by_cases e:p.1=k
  ·rw[if_pos e,if_pos (h1.symm.trans e)];exact⟨h1,ry⟩
  ·rw[if_neg e,if_neg (fun z=>e (h1.trans z))];exact⟨h1,h2⟩
theorem KV.put {kvs:List (κ×V)}{vs:List (κ×Value)}(r:KV kvs vs) (k:κ){y:V}{u:Value}(ry:RelV y u):KV (putK kvs k y) (stored vs k u):=by
 unfold putK stored
 rw[r.any k]
 by_cases e:(vs.any fun kv=>decide (kv.1=k))=true
 ·rw[if_pos e,if_pos e];exact r.repl k ry
 ·rw[if_neg e,if_neg e];exact Paired.snoc r ⟨rfl,ry⟩
theorem KV.drop {kvs:List (κ×V)}{vs:List (κ×Value)}(r:KV kvs vs) (k:κ):KV (CJ kvs k) (without vs k):=by
 unfold KV at r ⊢
 unfold CJ without
 induction r with
 | nil=>exact .nil
 | @cons p q ps qs h t ih=>
  obtain⟨h1,h2⟩:=h
  rw[List.filter_cons,List.filter_cons]
  by_cases e:p.1=k
  ·have a:¬decide (p.1≠k)=true:=by simp[e]
   have b:¬decide (q.1≠k)=true:=by simp[h1.symm.trans e]
   rw[if_neg a,if_neg b];exact ih
  ·have e':¬q.1=k:=fun z=>e (h1.trans z)
   have a:decide (p.1≠k)=true:=by simp[e]
   have b:decide (q.1≠k)=true:=by simp[e']
   rw[if_pos a,if_pos b];exact .cons ⟨h1,h2⟩ ih
theorem KV.length {kvs:List (κ×V)}{vs:List (κ×Value)}(r:KV kvs vs):kvs.length=vs.length:=Paired.length r
end
theorem zG {P:Program}{w:World}{k:Key}{u:Value}(r:RelV (kV k) u):(dg P w).is k u=true:=by
 cases k with
 | inl i=>obtain⟨t,e⟩:=(show ∃t,u=Value.int i t from r);subst e;exact sX P w i t
 | inr x=>obtain⟨t,e⟩:=(show ∃t,u=Value.str x t from r);subst e;exact sY P w x t
theorem qW {P:Program}{w:World}:∀{ks:List Key}{us:List Value},Vals (ks.map kV) us→ItemsAre (dg P w) ks us
 | [],_,r=>by rw[List.map_nil] at r;cases r;exact .nil
 | k :: ks,_,r=>by
  rw[List.map_cons] at r
  cases r with
  | cons h t=>exact .cons (zG h) (qW t)
noncomputable abbrev KT (H:Hp):List (List Key×V)→List (List Key×Addr×Value)→Prop:=Paired fun p q=>p.1=q.1∧H q.2.1=some (.tup (p.1.map kV))∧RelV p.2 q.2.2
theorem KT.val {H:Hp}{kvs:List (List Key×V)}{xs:List (List Key×Addr×Value)}(r:KT H kvs xs) (k:List Key):oV (ni kvs k) ((atKey xs k).map (·.2)):=by
 induction r with
 | nil=>exact True.intro
 | @cons p q ps qs h t ih=>
  obtain⟨h1,_,h2⟩:=h
  by_cases e:p.1=k
  ·have e':q.1=k:=h1.symm.trans e
   have b:atKey (q :: qs) k=some q.2:=by simp[atKey,List.find?_cons,e']
   rw[mw e,b];exact h2
  ·have e':¬q.1=k:=fun z=>e (h1.trans z)
   have b:atKey (q :: qs) k=atKey qs k:=by simp[atKey,List.find?_cons,e']
   rw[mz e,b];exact ih
theorem KT.repl {H:Hp}{kvs:List (List Key×V)}{xs:List (List Key×Addr×Value)}(r:KT H kvs xs) (k:List Key){y:V}{u:Value}(ry:RelV y u):
  KT H (kvs.map fun kv=>if kv.1=k then(kv.1,y) else kv) (xs.map (putAt k u)):=by
 induction r with
 | nil=>exact .nil
 | @cons p q ps qs h t ih=>
  rw[List.map_cons,List.map_cons]
  refine .cons ?_ ih
  obtain⟨h1,h2,h3⟩:=h
  unfold putAt
  by_cases e:p.1=k
  ·rw[if_pos e,if_pos (h1.symm.trans e)];exact⟨h1,h2,ry⟩
  ·rw[if_neg e,if_neg (fun z=>e (h1.trans z))];exact⟨h1,h2,h3⟩
theorem KT.put {H:Hp}{kvs:List (List Key×V)}{xs:List (List Key×Addr×Value)}(r:KT H kvs xs) (k:List Key){b:Addr}{y:V}{u:Value}(hb:H b=some (.tup (k.map kV))) (ry:RelV y u):
  KT H (putK kvs k y) (storedH xs k b u):=by
 have e:(kvs.any fun kv=>decide (kv.1=k))=(atKey xs k).isSome:=by
  rw[tF,(r.val k).xH,Option.isSome_map]
 unfold putK storedH
 rw[e]
 by_cases q:(atKey xs k).isSome=true
 ·rw[if_pos q,if_pos q];exact r.repl k ry
 ·rw[if_neg q,if_neg q];exact Paired.snoc r ⟨rfl,hb,ry⟩
theorem KT.keeps {H H':Hp}{kvs:List (List Key×V)}{xs:List (List Key×Addr×Value)}(r:KT H kvs xs) (ht:∀b ys,H b=some (.tup ys)→H' b=some (.tup ys)):KT H' kvs xs:=
 Paired.xw r fun _ _ z=>⟨z.1,ht _ _ z.2.1,z.2.2⟩
section
variable {P:Program}{w:World}{H:Hp}{h:Heap}{a:Addr}
theorem CK {u:HO}(ok:lA P w H h) (e:Rd H a u):dU P w H h a u:=e.ok ok
theorem wz {kvs:List (Key×V)}(ok:lA P w H h) (e:Rd H a (.dK kvs)):kvs.length≤sizeLine∧(a == sysModules)=false∧∃vs,KV kvs vs∧h.DictOf (dg P w) a vs:=
 show dU P w H h a (.dK kvs) from CK ok e
theorem Ge {kvs:List (Key×V)}(ok:lA P w H h) (e:H a=some (.dK kvs)):kvs.length≤sizeLine∧(a == sysModules)=false∧∃vs,KV kvs vs∧h.DictOf (dg P w) a vs:=wz ok (.inl e)
theorem vD {ks:List Key}(ok:lA P w H h) (e:H a=some (.tup (ks.map kV))):(tupleKind (dg P w)).is h ks a:=by
 obtain⟨_,its,r,o,h1,h2,n,h3⟩:=(show dU P w H h a (.tup (ks.map kV)) from ok a _ e)
 exact⟨o,its.toArray,n,h1,h2,h3,by simpa using qW r⟩
theorem zH {kvs : List (List Key × V)} (ok : lA P w H h) (e : Rd H a (.dT kvs)) : kvs.length ≤ sizeLine ∧ (a == sysModules) = false ∧
    ∃xs,KT H kvs xs∧h.DictOfH (tupleKind (dg P w)) a xs:=by
  obtain⟨z,y,xs,r,o,es,ep,h1,h2,h3,h4,h5⟩:=(show dU P w H h a (.dT kvs) from CK ok e)
  refine⟨z,y,xs,r,o,es,ep,h1,h2,h3,h4,fun x hx=>?_,h5⟩
  have all:∀{l:List (List Key×V)}{m:List (List Key×Addr×Value)},KT H l m→∀x∈m,(tupleKind (dg P w)).is h x.1 x.2.1:=by
    intro l m q
    induction q with
    | nil=>intro x hx;exact nomatch hx
    | @cons p q ps qs hq t ih=>
      intro x hx
      rcases List.mem_cons.mp hx with e | hx
      · subst e
        exact vD ok (by rw[←hq.1];exact hq.2.1)
      · exact ih x hx
  exact all r x hx
theorem Gf {kvs:List (List Key×V)}(ok:lA P w H h) (e:H a=some (.dT kvs)):kvs.length≤sizeLine∧(a == sysModules)=false∧
  ∃xs,KT H kvs xs∧h.DictOfH (tupleKind (dg P w)) a xs:=zH ok (.inl e)
end
noncomputable def rX (H:Hp) (a:Addr) (y:V) (r:Option V):Prop:=
 (∃kvs k,Rd H a (.dK kvs)∧y=kV k∧r=ni kvs k)∨∃kvs k b,Rd H a (.dT kvs)∧y= .ref b∧H b=some (.tup (k.map kV))∧r=ni kvs k
noncomputable def tG (H:Hp) (a:Addr) (y v:V) (H':Hp):Prop:=
 (∃kvs k,H a=some (.dK kvs)∧y=kV k∧kvs.length < sizeLine∧H'=upd H a (.dK (putK kvs k v)))∨
 ∃kvs k b,H a=some (.dT kvs)∧y= .ref b∧H b=some (.tup (k.map kV))∧kvs.length < sizeLine∧H'=upd H a (.dT (putK kvs k v))
theorem rX.k {H:Hp}{a:Addr}{kvs:List (Key×V)}{k:Key}(e:H a=some (.dK kvs)):rX H a (kV k) (ni kvs k):=.inl ⟨kvs,k,.inl e,rfl,rfl⟩
theorem rX.t {H:Hp}{a b:Addr}{kvs:List (List Key×V)}{k:List Key}(e:H a=some (.dT kvs)) (eb:H b=some (.tup (k.map kV))):rX H a (.ref b) (ni kvs k):=.inr ⟨kvs,k,b,.inl e,rfl,eb,rfl⟩
theorem tG.k {H:Hp}{a:Addr}{kvs:List (Key×V)}{k:Key}{v:V}(e:H a=some (.dK kvs)) (hl:kvs.length < sizeLine):tG H a (kV k) v (upd H a (.dK (putK kvs k v))):=.inl ⟨kvs,k,e,rfl,hl,rfl⟩
theorem tG.t {H:Hp}{a b:Addr}{kvs:List (List Key×V)}{k:List Key}{v:V}(e:H a=some (.dT kvs)) (eb:H b=some (.tup (k.map kV))) (hl:kvs.length < sizeLine):
  tG H a (.ref b) v (upd H a (.dT (putK kvs k v))):=.inr ⟨kvs,k,b,e,rfl,eb,hl,rfl⟩
section
variable {X:Cx}{pins:List (Addr×Obj)}{σ:St}{H:Hp}{s:Shared}{a:Addr}{y v:V}{u r:Value}{o:Option V}{A:Around}{E:Value→Shared→Prop}
theorem xJ {Q:Value→Shared→Prop}(hu:A.units+1 < cLine) (I:Inv X pins σ H s) (g:rX H a y (some v)) (ry:RelV y u) (h:∀w' s',Inv X pins σ H s'→RelV v w'→Q w' s'):
  wpAny (model X.prog X.w) A (getItem (.ref a) u) Q E s:=by
 rcases g with⟨kvs,k,e,ey,l⟩ | ⟨kvs,k,b,e,ey,eb,l⟩
 ·subst ey
  obtain⟨z,hd,vs,rel,dd⟩:=wz I.hok e
  obtain⟨w',hw,rw'⟩:=oV.some_of (v:=v) (o:=valueAt vs k) (by rw[l];exact rel.val k)
  exact wpAny_getItem_of (zG ry) dd.mapOf hw (h w' _ (I.tok _) rw')
 ·subst ey
  cases(show u=Value.ref b from ry)
  obtain⟨z,hd,xs,rel,dd⟩:=zH I.hok e
  obtain⟨w',hw,rw'⟩:=oV.some_of (v:=v) (o:=(atKey xs k).map (·.2)) (by rw[l];exact rel.val k)
  obtain⟨p,hp,hp2⟩:=Option.map_eq_some_iff.mp hw
  refine wpAny_getItem_heap (tupleKind_room_in1 hu) (vD I.hok eb) dd hp ?_
  rw[hp2]
  exact h w' _ (I.tok _) rw'
theorem wA {h':Heap}{t':Nat}{ob:HO}(I:Inv X pins σ H s) (mu:Fo (H a)) (hs:Heap.SameBut a s.heap h') (he:∃q,h'.get? a=some q) (new:dU X.prog X.w (upd H a ob) h' a ob):
  Inv X pins σ (upd H a ob) {s with heap:=h',toks:=t'}:=
 I.write (x:=a) (e:=a) mu (.inl rfl) (fun b q hb z=>(hs.2 b hb).trans z) he new
theorem DI {P:Program}{w:World}{H':Hp}{h':Heap}{kvs:List (Key×V)}{vs:List (Key×Value)}(z:kvs.length≤sizeLine) (hd:(a == sysModules)=false) (rel:KV kvs vs) (dd:h'.DictOf (dg P w) a vs):
  dU P w H' h' a (.dK kvs):=⟨z,hd,vs,rel,dd⟩
theorem xK {H':Hp}{Q:Unit→Shared→Prop}(hu:A.units+1 < cLine) (I:Inv X pins σ H s) (g:tG H a y v H') (ry:RelV y u) (rv:RelV v r) (h:∀s',Inv X pins σ H' s'→Q () s'):
  wpAny (model X.prog X.w) A (setItem (.ref a) u r) Q E s:=by
 rcases g with⟨kvs,k,e,ey,l,eH⟩ | ⟨kvs,k,b,e,ey,eb,l,eH⟩
 ·subst ey eH
  obtain⟨z,hd,vs,rel,dd⟩:=Ge I.hok e
  have hz:vs.length≤sizeLine:=by rw[←rel.length];exact z
  have hl:(putK kvs k v).length≤sizeLine:=by have:=nY kvs k v;omega
  refine wpAny_setItem_pairs (hsz:=hz) (zG ry) dd fun h' Iz hs=>h _ ?_
  have he:∃q,h'.get? a=some q:=let⟨q,_,_,hq,_⟩:=Iz;⟨q,hq⟩
  exact wA I (by rw[e];exact True.intro) hs he (DI hl hd (rel.put k rv) Iz)
 ·subst ey eH
  cases(show u=Value.ref b from ry)
  obtain⟨z,hd,xs,rel,dd⟩:=Gf I.hok e
  have hz:xs.length≤sizeLine:=by rw[←Paired.length rel];exact z
  have hl:(putK kvs k v).length≤sizeLine:=by have:=nY kvs k v;omega
  refine wpAny_setItem_heap (hsz:=hz) (tupleKind_room_in1 hu) (vD I.hok eb) dd fun h' Iz hs=>h _ ?_
  obtain⟨q,es,ep,hq,h2,h3,h4,_,h5⟩:=Iz
  refine wA I (by rw[e];exact True.intro) hs ⟨q,hq⟩ ⟨hl,hd,_,(rel.put k eb rv).keeps fun c ys ec=>?_,q,es,ep,hq,h2,h3,h4,h5⟩
  rw[aR (Fl ec e (fun z=>nomatch z))]
  exact ec
end
section
variable {X:Cx}{pins:List (Addr×Obj)}{σ:St}{H:Hp}{s:Shared}{a:Addr}{kvs:List (Key×V)}{k:Key}{u:Value}{A:Around}{E:Value→Shared→Prop}
theorem Gg {Q:Value→Shared→Prop}(I:Inv X pins σ H s) (e:Rd H a (.dK kvs)) (h:∀t s',Inv X pins σ H s'→Q (.int kvs.length t) s'):wpAny (model X.prog X.w) A (call (.builtin "len") [.ref a]) Q E s:=by
 obtain⟨z,hd,vs,rel,dd⟩:=wz I.hok e
 refine call_len_dict hd dd (by rw[←rel.length];rw[sizeLine_eq] at z;omega) ?_
 rw[←rel.length]
 exact h _ _ (I.tok _)
end
noncomputable def Gh (i:Expr):Prop:=∀ov iv,subscripted i false ov iv=operate [ov,iv] (getItem ov iv)
theorem Bv {prog:Program}{w:World}{A:Around}{E:Value→Shared→Prop}{s:Shared}{env:Env}{value slice:Expr}{pos:Pos}{T id:String}{Q:Value→Shared→Prop}
  (hl:typeLookup (.type T) "__getitem__" =pure (some (.builtin id))) (hs:Gh slice)
  (h:wpAny (model prog w) A (eval value env) (fun o s₁=>wpAny (model prog w) A (eval slice env) (fun i s₂=>s₂.TypeIs o T∧wpAny (model prog w) A (getItem o i) Q E s₂) E s₁) E s):
  wpAny (model prog w) A (eval (.Subscript value slice pos) env) Q E s:=by
 refine Subscript_ (wpAny_mono h (fun o s₁ h₁=>wpAny_mono h₁ (fun i s₂ h₂=>?_) fun _ _ x=>x) fun _ _ x=>x)
 obtain⟨hT,h₂⟩:=h₂
 unfold subscriptTail
 refine wpAny_bind ?_
 rw[getitemInPython_of_ne hT.not_modules]
 refine wpAny_bind (wpAny_specialOf hT hl ?_)
 have fin:wpAny (model prog w) A (subscripted slice false o i) (fun r s₃=>wpAny (model prog w) A (letTemporaryGo value o r >>= fun _=>pure r) Q E s₃) E s₂:=by
  rw[hs o i]
  exact wpAny_operating (wpAny_mono h₂ (fun r s₃ h₃=>wpAny_bind (wpAny_letTemporaryGo (wpAny_pure h₃))) fun _ _ x=>x)
 first
  | exact wpAny_pure (wpAny_bind fin)
  | exact wpAny_bind (wpAny_pure (wpAny_bind fin))
  | exact wpAny_bind fin
theorem tH {X:Cx}{pins:List (Addr×Obj)}{σ:St}{H:Hp}{s:Shared}{a:Addr}{y:V}{o:Option V}(I:Inv X pins σ H s) (g:rX H a y o):s.TypeIs (.ref a) "dict":=by
 rcases g with⟨kvs,k,e,_,_⟩ | ⟨kvs,k,b,e,_,_,_⟩
 ·obtain⟨_,_,vs,_,dd⟩:=wz I.hok e
  exact dd.typeIs
 ·obtain⟨_,_,xs,_,dd⟩:=zH I.hok e
  exact dd.typeIs
noncomputable def Gi (td ty:TE):TE:=fun σ H Q=>td σ H fun x H1=>ty σ H1 fun y H2=>∃a v,x= .ref a∧rX H2 a y (some v)∧Q v H2
noncomputable def Gj (td ty tv:TE):TS:=fun D σ H=>tv σ H fun v H1=>td σ H1 fun x H2=>ty σ H2 fun y H3=>∃a H4,x= .ref a∧tG H3 a y v H4∧D.nx σ H4
section
variable {X:Cx}{o i e value:Expr}{pos pos' tpos:Pos}{td ty tv:TE}
theorem wB (hu:X.A.units+1 < cLine) (ho:PE X o td) (hi:PE X i ty) (hs:Gh i):PE X (.Subscript o i pos) (Gi td ty):=by
 intro pins s σ H Q I h
 refine Bv PySem.F.slot_dict_getitem.lookup hs (fG (ho pins s σ H _ I h) fun u s1 ⟨x,H1,I1,rx,q1⟩=>fG (hi pins s1 σ H1 _ I1 q1) fun iv s2 ⟨y,H2,I2,ry,a,v,ex,g,q2⟩=>?_)
 subst ex
 obtain rfl:u=Value.ref a:=rx
 exact⟨tH I2 g,xJ hu I2 g ry fun w' s3 I3 rw'=>⟨v,H2,I3,rw',q2⟩⟩
theorem wC (hu:X.A.units+1 < cLine) (ho:PE X o td) (hi:PE X i ty) (hv:PE X value tv) (hs:swapsWith value (some (.Subscript o i pos')) pos.line X.env=pure false):
  PS X (.Assign [.Subscript o i pos'] value pos) (Gj td ty tv):=by
 intro pins s σ H D I h
 refine wpAny_Assign_Subscript (fG (hv pins s σ H _ I h) fun r s1 ⟨v,H1,I1,rv,q1⟩=>fG (ho pins s1 σ H1 _ I1 q1) fun u s2 ⟨x,H2,I2,rx,q2⟩=>fG (hi pins s2 σ H2 _ I2 q2) fun iv s3 ⟨y,H3,I3,ry,a,H4,ex,g,q3⟩=>?_) hs
 subst ex
 obtain rfl:u=Value.ref a:=rx
 exact xK hu I3 g ry rv fun s4 I4=>⟨σ,H4,I4,q3⟩
end
section
variable {X:Cx}{pos:Pos}
end
section
variable {X:Cx}{pins:List (Addr×Obj)}{σ:St}{H:Hp}{s:Shared}{a:Addr}{y d:V}{u r:Value}{o:Option V}{A:Around}{E:Value→Shared→Prop}
end
section
variable {X:Cx}{o e f:Expr}{apos cpos:Pos}{td ty tx:TE}
end
section
variable {X:Cx}{pins:List (Addr×Obj)}{σ:St}{H:Hp}{s:Shared}{a:Addr}{kvs:List (Key×V)}{A:Around}{E:Value→Shared→Prop}
end
section
variable {X:Cx}{pins:List (Addr×Obj)}{σ:St}{H:Hp}{s:Shared}{a:Addr}{y:V}{u:Value}{A:Around}{E:Value→Shared→Prop}
end
end L2
namespace HT
open PySem PyProof.Rows
section
open PySem.SeqAt
open PySem.AutoSeq1 (wpAny_loadPart')
open PySem.MeetsSeq PySem.MeetsSeq2 PySem.MeetsSeq3
end
section
variable {prog:Program}{w:World}{A:Around}{E:Value→Shared→Prop}{s:Shared}
theorem Bw {t b:Addr}{vs ws:List Value}{Q:Value→Shared→Prop}(ht:IsTup s.heap t vs.toArray) (hb:IsTup s.heap b ws.toArray) (hv:vs≠[])
  (h1:ws=[]→Q (.ref t) s) (h2:ws≠[]→Q (.ref s.heap.objs.size) {s with heap:=s.heap.push {cls:=.type "tuple",data:=.seq (vs++ws).toArray}})
  (hsz:vs.length+ws.length≤sizeLine):wpAny (model prog w) A (binaryOp .Add (.ref t) (.ref b)) Q E s:=by
 obtain⟨⟨cls,dd,data,sl⟩,ho,hc,n,hd⟩:=id ht
 obtain⟨⟨Kh,dd2,data2,sl2⟩,ho2,hc2,n2,hd2⟩:=id hb
 simp only at hc hd hc2 hd2
 subst hc hd hc2 hd2
 have e:vs.toArray++ws.toArray=(vs++ws).toArray:=by simp
 by_cases hw:ws=[]
 ·exact concat_meets ⟨_,ho,rfl⟩ ⟨_,ho2,rfl⟩ noFill_tuple_add seq_tuple_add PySem.F.slot_tuple_add PySem.F.entry_tuple_add (PySem.F.args_tuple_add_2 _ _)
   (tuple_addW1 t b vs.toArray ws.toArray n n2 dd dd2 sl sl2 (by simpa using hv) (by simp[hw])) ⟨ho,ho2,h1 hw⟩
 ·refine concat_meets ⟨_,ho,rfl⟩ ⟨_,ho2,rfl⟩ noFill_tuple_add seq_tuple_add PySem.F.slot_tuple_add PySem.F.entry_tuple_add (PySem.F.args_tuple_add_2 _ _)
   (tuple_addW2 t b vs.toArray ws.toArray n n2 dd dd2 sl sl2 (by simpa using hv) (by simpa using hw) (by rw[List.size_toArray,List.size_toArray];exact hsz)) ⟨ho,ho2,?_⟩
  rw[e]
  exact h2 hw
noncomputable def fK (n d:Nat):Option Int→Nat
 | none=>d
 | some v=>if v < 0 then(v+(n:Int)).toNat else min v.toNat n
theorem DJ (n d:Nat) (hd:d≤n) (o:Option Int):fK n d o≤n:=by
 cases o with
 | none=>exact hd
 | some v=>
  show(if v < 0 then(v+(n:Int)).toNat else min v.toNat n)≤n
  by_cases hv:v < 0
  ·rw[if_pos hv];omega
  ·rw[if_neg hv];exact Nat.min_le_right _ _
theorem wF (v:Int) (n d:Nat):(if v < 0 then max (v+(n:Int)) 0 else min v (n:Int))=((fK n d (some v):Nat):Int):=by
 show(if v < 0 then max (v+(n:Int)) 0 else min v (n:Int))=(((if v < 0 then(v+(n:Int)).toNat else min v.toNat n):Nat):Int)
 by_cases hv:v < 0
 ·simp only[if_pos hv];omega
 ·simp only[if_neg hv];omega
theorem vE (lo hi:Option Int) (n:Nat):Builtin.Slice.sliceAdjust lo hi 1 (n:Int)=(((fK n 0 lo:Nat):Int),((fK n n hi:Nat):Int)):=by
 have h1:¬((1:Int) < 0):=by omega
 unfold Builtin.Slice.sliceAdjust
 simp only[h1,if_false]
 refine Prod.ext ?_ ?_
 ·cases lo with
  | none=>rfl
  | some v=>exact wF v n 0
 ·cases hi with
  | none=>rfl
  | some v=>exact wF v n n
theorem vF (i j:Nat):Builtin.Slice.slicePlaces (i:Int) (j:Int) 1=j - i:=by
 unfold Builtin.Slice.slicePlaces
 have h1:(1:Int) > 0:=by omega
 simp only[h1,if_true,Int.ediv_one]
 split <;> omega
theorem pG {v:Value}{o:Option Int}{Q:Option Int→Shared→Prop}(p:IsPart v o) (h:Q o s):wpAny (model prog w) A (Builtin.Slice.slicePartIndex v) Q E s:=by
 cases p with
 | none=>exact slicePart_none h
 | int i t=>exact slicePart_int h
theorem jv {sl:Addr}{vl vu:Value}{lo hi:Option Int}{n:Nat}{Q:Int×Int×Nat→Shared→Prop}(hs:s.heap.IsSliceOf sl vl vu .none) (pl:IsPart vl lo) (pu:IsPart vu hi)
  (h:Q (((fK n 0 lo:Nat):Int),1,fK n n hi - fK n 0 lo) s):wpAny (model prog w) A (Builtin.Slice.sliceApplied (.ref sl) (pure (n:Int))) Q E s:=by
 obtain⟨os,hos,hcs,hds⟩:=id hs
 unfold Builtin.Slice.sliceApplied Builtin.Slice.sliceFields
 refine wpAny_bind (wpAny_bind (wpAny_field hos hds (x:=vl) rfl (wpAny_bind (wpAny_field hos hds (x:=vu) rfl (wpAny_bind (wpAny_field hos hds (x:=.none) rfl (wpAny_pure ?_)))))))
 refine wpAny_bind (slicePart_none ?_)
 show wpAny _ _ (if((1:Int) == 0)=true then _ else _) _ _ s
 rw[if_neg (by decide)]
 refine wpAny_bind (pG pl (wpAny_bind (pG pu (wpAny_bind (wpAny_pure ?_)))))
 show wpAny _ _ (match Builtin.Slice.sliceAdjust lo hi 1 (n:Int) with | (lo,hi)=>pure (lo,(1:Int),Builtin.Slice.slicePlaces lo hi 1)) _ _ s
 rw[vE lo hi n]
 show wpAny _ _ (pure (((fK n 0 lo:Nat):Int),(1:Int),Builtin.Slice.slicePlaces ((fK n 0 lo:Nat):Int) ((fK n n hi:Nat):Int) 1)) _ _ s
 rw[vF]
 exact wpAny_pure h
theorem zI (xs:Array Value) (i k:Nat):((List.range k).filterMap fun(m:Nat)=>xs[((i:Int)+(m:Int) * 1).toNat]?).toArray=((xs.toList.drop i).take k).toArray:=by
 have e:(fun(m:Nat)=>xs[((i:Int)+(m:Int) * 1).toNat]?)=fun m=>xs[i+m]?:=by
  funext m
  have:((i:Int)+(m:Int) * 1).toNat=i+m:=by omega
  rw[this]
 rw[e]
 have:=pick_run xs i k
 rw[List.filterMap_map] at this
 have e2:((fun x=>xs[x]?) ∘ fun x=>i+x)=fun m=>xs[i+m]?:=rfl
 rw[e2] at this
 rw[this]
theorem mC {t sl:Addr}{items:Array Value}{vl vu:Value}{lo hi:Option Int}{Q:Value→Shared→Prop}(ht:IsTup s.heap t items) (hs:s.heap.IsSliceOf sl vl vu .none) (pl:IsPart vl lo) (pu:IsPart vu hi)
  (hw:¬(fK items.size 0 lo=0∧fK items.size items.size hi=items.size))
  (h:Q (.ref s.heap.objs.size) {s with heap:=s.heap.push {cls:=.type "tuple",data:=.seq ((items.toList.drop (fK items.size 0 lo)).take (fK items.size items.size hi - fK items.size 0 lo)).toArray}})
  (hsz:items.size≤sizeLine):wpAny (model prog w) A (getItem (.ref t) (.ref sl)) Q E s:=by
 have wG:sizeOk (.seq ((items.toList.drop (fK items.size 0 lo)).take (fK items.size items.size hi - fK items.size 0 lo)).toArray):=by
  show((items.toList.drop (fK items.size 0 lo)).take (fK items.size items.size hi - fK items.size 0 lo)).toArray.size≤sizeLine
  rw[List.size_toArray,List.length_take,List.length_drop,Array.length_toList]
  omega
 have hj:fK items.size items.size hi≤items.size:=DJ _ _ (Nat.le_refl _) hi
 obtain⟨os,hos,hcs,hds⟩:=id hs
 have Kl:s.TypeIs (.ref sl) "slice":=⟨os,hos,hcs⟩
 unfold getItem
 try with_reducible refine wpAny_holding ?_
 first | refine wpAny_bind (wpAny_pure ?_) | skip
 refine wpAny_bind (wpAny_sequenceKey ht.typeIs (by decide) ?_)
 refine wpAny_bind (wpAny_callSpecial?_slot (name:=Str.ofString "__getitem__") ht.typeIs PyProof.Rows.slot_tuple_getitem
  (wpAny_call_entry PyProof.Rows.slot_tuple_getitem ht.typeIs entry_tuple_getitem ?_ (args_tuple_getitem _ _)))
 show wpAny _ _ (Builtin.Tuple.tupleItemsOf (.ref t) >>= _) _ _ s
 refine wpAny_bind (tupleItemsOf_ ht ?_)
 refine wpAny_bind (wpAny_typeOf Kl ?_)
 rw[if_pos (by decide)]
 refine wpAny_bind (jv hs pl pu ?_)
 have hno:¬((((fK items.size 0 lo:Nat):Int) == 0 && (1:Int) == 1 && (fK items.size items.size hi - fK items.size 0 lo) == items.size)=true):=by
  intro q
  rw[Bool.and_eq_true,Bool.and_eq_true] at q
  have q1:((fK items.size 0 lo:Nat):Int)=0:=eq_of_beq q.1.1
  have q2:fK items.size items.size hi - fK items.size 0 lo=items.size:=eq_of_beq q.2
  exact hw ⟨by omega,by omega⟩
 show wpAny _ _ (if(((fK items.size 0 lo:Nat):Int) == 0 && (1:Int) == 1 && (fK items.size items.size hi - fK items.size 0 lo) == items.size)=true then _ else _) _ _ s
 rw[if_neg hno,zI]
 first
  | exact wpAny_bind (m:=Builtin.Tuple.tupleExact _) (wpAny_newObj_type (wpAny_pure ⟨_,rfl,wpAny_pure h⟩) wG)
  | exact wpAny_bind (m:=Builtin.Tuple.tupleExact _) (wpAny_newObj_type (wpAny_bind (wpAny_pure (wpAny_pure ⟨_,rfl,wpAny_pure h⟩))) wG)
  | exact wpAny_bind (wpAny_bind (m:=Builtin.Tuple.tupleExact _) (wpAny_newObj_type (wpAny_pure (wpAny_pure ⟨_,rfl,wpAny_pure h⟩)) wG))
  | exact wpAny_bind (wpAny_bind (m:=Builtin.Tuple.tupleExact _) (wpAny_newObj_type (wpAny_pure ⟨_,rfl,wpAny_pure h⟩) wG))
end
end HT
namespace L2
open PySem PySem.Spec PyProof.Rows
noncomputable abbrev TO:=St→Hp→(Option Int→Hp→Prop)→Prop
noncomputable def PO (X:Cx) (e:Option Expr) (t:TO):Prop:=
 ∀(pins:List (Addr×Obj)) (s:Shared) (σ:St) (H:Hp) (Q:Option Int→Hp→Prop),Inv X pins σ H s→t σ H Q→
  wpAny (model X.prog X.w) X.A (evalPart e X.env) (fun u s'=>∃o H',Inv X pins σ H' s'∧IsPart u o∧Q o H') X.xe s
noncomputable def Bx:TO:=fun _ H Q=>Q none H
noncomputable def Gk (t:TE):TO:=fun σ H Q=>t σ H fun x H1=>∃i,x= .int i∧Q (some i) H1
section
variable {X:Cx}{e:Expr}{te:TE}{lo hi:Option Expr}{tl th:TO}{pos p2:Pos}
theorem By:PO X none Bx:=by
 intro pins s σ H Q I h
 rw[evalPart_none]
 exact wpAny_pure ⟨none,H,I,.none,h⟩
theorem BA (h:PE X e te):PO X (some e) (Gk te):=by
 intro pins s σ H Q I hw
 rw[evalPart_some]
 refine fG (h pins s σ H _ I hw) fun u s1 ⟨x,H1,I1,r1,q1⟩=>?_
 obtain⟨i,rfl,q⟩:=q1
 obtain⟨t,rfl⟩:=r1
 exact⟨some i,H1,I1,.int i t,q⟩
noncomputable def BB (X:Cx) (r:V→Option Int→Option Int→Hp→VK→Prop):Prop:=
 ∀(pins:List (Addr×Obj)) (s:Shared) (σ:St) (H:Hp) (x:V) (v vl vu:Value) (lo hi:Option Int) (sl:Addr) (Q:VK),Inv X pins σ H s→RelV x v→s.heap.IsSliceOf sl vl vu .none→IsPart vl lo→IsPart vu hi→r x lo hi H Q→
  ∃T id,typeLookup (.type T) "__getitem__" =pure (some (.builtin id))∧s.TypeIs v T∧wpAny (model X.prog X.w) X.A (getItem v (.ref sl)) (EP X pins σ Q) X.xe s
theorem BB.or {r r':V→Option Int→Option Int→Hp→VK→Prop}(h:BB X r) (h':BB X r'):BB X (fun x lo hi H Q=>r x lo hi H Q∨r' x lo hi H Q):=by
 intro pins s σ H x v vl vu lo hi sl Q I rx hs pl pu q
 rcases q with q | q
 ·exact h pins s σ H x v vl vu lo hi sl Q I rx hs pl pu q
 ·exact h' pins s σ H x v vl vu lo hi sl Q I rx hs pl pu q
noncomputable def P1 (r:V→Option Int→Option Int→Hp→VK→Prop) (te:TE) (tl th:TO):TE:=fun σ H Q=>te σ H fun x H1=>tl σ H1 fun l H2=>th σ H2 fun u H3=>r x l u H3 Q
theorem zJ {r:V→Option Int→Option Int→Hp→VK→Prop}(hr:BB X r) (he:PE X e te) (hl:PO X lo tl) (hu:PO X hi th):PE X (.Subscript e (.Slice lo hi none p2) pos) (P1 r te tl th):=by
 intro pins s σ H Q I h
 refine Subscript_ (fG (he pins s σ H _ I h) fun v s1 ⟨x,H1,I1,r1,q1⟩=>?_)
 refine wpAny_Slice (fG (hl pins s1 σ H1 _ I1 q1) fun vl s2 ⟨l,H2,I2,pl,q2⟩=>fG (hu pins s2 σ H2 _ I2 q2) fun vu s3 ⟨u,H3,I3,pu,q3⟩=>?_)
 rw[evalPart_none]
 refine wpAny_pure ?_
 have I4:Inv X pins σ H3 {s3 with heap:=s3.heap.push {cls:=.type "slice",data:=.fields #[vl,vu,.none]}}:=I3.kept (t':=s3.toks) fun b ob q=>Heap.get?_push_of_some _ q
 obtain⟨T,id,hT,ht,hg⟩:=hr pins {s3 with heap:=s3.heap.push {cls:=.type "slice",data:=.fields #[vl,vu,.none]}} σ H3 x v vl vu l u s3.heap.objs.size Q I4 r1 (Heap.IsSliceOf.new ..) pl pu q3
 show wpAny (model X.prog X.w) X.A (subscriptTail e (.Slice lo hi none p2) v (.ref s3.heap.objs.size)) (EP X pins σ Q) X.xe {s3 with heap:=s3.heap.push {cls:=.type "slice",data:=.fields #[vl,vu,.none]}}
 exact tail_any (ops:=[.ref s3.heap.objs.size,v]) ht hT hg (by with_unfolding_all rfl)
noncomputable def tK (xs:List V) (lo hi:Option Int):List V:=(xs.drop (HT.fK xs.length 0 lo)).take (HT.fK xs.length xs.length hi - HT.fK xs.length 0 lo)
theorem nZ (xs:List V) (lo hi:Option Int):(tK xs lo hi).length≤xs.length:=by
 unfold tK
 rw[List.length_take,List.length_drop]
 omega
noncomputable def Km (K:PySem.W.Frag):V→Option Int→Option Int→Hp→VK→Prop:=fun x lo hi H Q=>∃a xs,x= .ref a∧qO K H a xs∧
 ¬(HT.fK xs.length 0 lo=0∧HT.fK xs.length xs.length hi=xs.length)∧∀p,H p=none→Q (.ref p) (upd H p (.tup (tK xs lo hi)))
theorem DK:BB X (Km X.K):=by
 intro pins s σ H x v vl vu lo hi sl Q I rx hs pl pu h
 obtain⟨a,xs,rfl,hx,hw,q⟩:=h
 cases rx
 obtain⟨its,r,ht,hz⟩:=I.tuple hx
 have hlen:its.toArray.size=xs.length:=by rw[List.size_toArray];exact r.length.symm
 refine⟨"tuple",_,PyProof.Rows.slot_tuple_getitem.lookup,ht.typeIs,?_⟩
 refine HT.mC ht hs pl pu (by rw[hlen];exact hw) ?_ (by rw[hlen];exact hz)
 rw[hlen]
 refine⟨.ref s.heap.objs.size,_,I.laid (t':=s.toks) (o:=.tup (tK xs lo hi)) (fun b ob q=>Heap.get?_push_of_some _ q) (Nat.le_refl _) ?_,rfl,q _ (I.hok.fresh (Nat.le_refl _))⟩
 exact⟨Nat.le_trans (nZ xs lo hi) hz,_,(r.drop (HT.fK xs.length 0 lo)).take (HT.fK xs.length xs.length hi - HT.fK xs.length 0 lo),IsTup.new _ _⟩
noncomputable def Gm (K:PySem.W.Frag):R2:=fun x y H Q=>∃a b xs ys,x= .ref a∧y= .ref b∧qO K H a xs∧qO K H b ys∧xs≠[]∧xs.length+ys.length≤sizeLine∧
 (ys=[]→Q (.ref a) H)∧(ys≠[]→∀p,H p=none→Q (.ref p) (upd H p (.tup (xs++ys))))
theorem Vals.rY {xs:List V}{us:List Value}(r:Vals xs us):us=[]↔xs=[]:=by
 cases r with
 | nil=>simp
 | cons _ _=>simp
theorem BC:mq X (binaryOp .Add) (Gm X.K):=by
 intro pins s σ H x y v u Q I rx ry h
 obtain⟨a,b,xs,ys,rfl,rfl,ha,hb,hx,hz,q1,q2⟩:=h
 cases rx
 cases ry
 obtain⟨its,r1,p1,_⟩:=I.tuple ha
 obtain⟨its2,r2,p2,_⟩:=I.tuple hb
 refine HT.Bw p1 p2 (fun z=>hx (r1.rY.mp z)) (fun z=>⟨.ref a,H,I,rfl,q1 (r2.rY.mp z)⟩) (fun z=>?_) (by rw[←r1.length,←r2.length];exact hz)
 refine⟨.ref s.heap.objs.size,_,I.laid (t':=s.toks) (o:=.tup (xs++ys)) (fun b ob q=>Heap.get?_push_of_some _ q) (Nat.le_refl _) ?_,rfl,q2 (fun w=>z (r2.rY.mpr w)) _ (I.hok.fresh (Nat.le_refl _))⟩
 exact⟨by rw[List.length_append];exact hz,_,r1.append r2,IsTup.new _ _⟩
end
end L2
namespace L2
open PySem PySem.Spec PyProof.Rows
noncomputable def xM (n:Nat) (i:Int):Option Nat:=if 0≤i then(if i < n then some i.toNat else none) else if -(n:Int)≤i then some (i+n).toNat else none
noncomputable def gG {α:Type}(xs:List α) (i:Int):Option α:=(xM xs.length i).bind fun j=>xs[j]?
theorem wH {n:Nat}{i:Int}{j:Nat}(h:xM n i=some j):seqIndex? i n=some j∧j < n∧-(n:Int)≤i∧i < n:=by
 unfold xM at h
 by_cases h0:0≤i
 ·rw[if_pos h0] at h
  by_cases h1:i < n
  ·rw[if_pos h1] at h
   have e:i.toNat=j:=Option.some.inj h
   exact⟨by rw[seqIndex_of h0 h1,e],by omega,by omega,h1⟩
  ·rw[if_neg h1] at h;cases h
 ·rw[if_neg h0] at h
  by_cases h1:-(n:Int)≤i
  ·rw[if_pos h1] at h
   have e:(i+n).toNat=j:=Option.some.inj h
   exact⟨by rw[seqIndex_neg (by omega) h1,e],by omega,h1,by omega⟩
  ·rw[if_neg h1] at h;cases h
theorem rZ {α:Type}{xs:List α}{i:Int}{v:α}(h:gG xs i=some v):∃j,seqIndex? i xs.length=some j∧xs[j]? =some v∧j < xs.length∧-(xs.length:Int)≤i∧i < xs.length:=by
 unfold gG at h
 cases e:xM xs.length i with
 | none=>rw[e] at h;cases h
 | some j=>
  rw[e] at h
  obtain⟨h1,h2,h3,h4⟩:=wH e
  exact⟨j,h1,h,h2,h3,h4⟩
noncomputable def r9 (b:Expr):Prop:=∀o i,subscripted b false o i=operate [o,i] (getItem o i)
noncomputable def zK (X:Cx) (r:R2):Prop:=
 ∀(value slice:Expr) (pins:List (Addr×Obj)) (s:Shared) (σ:St) (H:Hp) (x y:V) (v u:Value) (Q:VK),Inv X pins σ H s→RelV x v→RelV y u→r x y H Q→
  subscripted slice false v u=operate [v,u] (getItem v u)→wpAny (model X.prog X.w) X.A (subscriptTail value slice v u) (EP X pins σ Q) X.xe s
noncomputable def DL (X:Cx) (id:String) (r:V→List V→Hp→VK→Prop):Prop:=
 ∀(pins:List (Addr×Obj)) (s:Shared) (σ:St) (H:Hp) (x:V) (xs:List V) (v:Value) (us:List Value) (Q:VK),Inv X pins σ H s→RelV x v→Vals xs us→r x xs H Q→
  wpAny (model X.prog X.w) X.A (call (.builtin id) (v :: us)) (EP X pins σ Q) X.xe s
section
variable {X:Cx}{a b:Expr}{ta tb:TE}{pos:Pos}
theorem zK.or {r r':R2}(h:zK X r) (h':zK X r'):zK X (fun x y H Q=>r x y H Q∨r' x y H Q):=by
 intro value slice pins s σ H x y v u Q I rx ry q hs
 rcases q with q | q
 ·exact h value slice pins s σ H x y v u Q I rx ry q hs
 ·exact h' value slice pins s σ H x y v u Q I rx ry q hs
theorem DL.or {id:String}{r r':V→List V→Hp→VK→Prop}(h:DL X id r) (h':DL X id r'):DL X id (fun x xs H Q=>r x xs H Q∨r' x xs H Q):=by
 intro pins s σ H x xs v us Q I rx rs q
 rcases q with q | q
 ·exact h pins s σ H x xs v us Q I rx rs q
 ·exact h' pins s σ H x xs v us Q I rx rs q
theorem zL {r:R2}(hr:zK X r) (ha:PE X a ta) (hb:PE X b tb) (hs:r9 b):PE X (.Subscript a b pos) (EO r ta tb):=by
 intro pins s σ H Q I h
 exact Subscript_ (Dv ha hb I h fun v u s2 x y H2 I2 rx ry q=>hr a b pins s2 σ H2 x y v u Q I2 rx ry q (hs _ _))
noncomputable def Gn (K:PySem.W.Frag):R2:=fun x y H Q=>∃p xs i v,x= .ref p∧y= .int i∧lB K H p xs∧gG xs i=some v∧Q v H
noncomputable def Gp (K:PySem.W.Frag):R2:=fun x y H Q=>∃p xs i v,x= .ref p∧y= .int i∧qO K H p xs∧gG xs i=some v∧Q v H
noncomputable def Gq:R2:=fun x y H Q=>∃z i c,x= .str z∧y= .int i∧z.length≤sizeLine∧gG z.cps.toList i=some c∧Q (.str ⟨#[c]⟩) H
theorem wI:zK X (Gn X.K):=by
 intro value slice pins s σ H x y v u Q I rx ry h hs
 obtain⟨p,xs,i,z,rfl,rfl,hq,he,q⟩:=h
 cases rx
 obtain⟨t,rfl⟩:=ry
 obtain⟨its,r,pl,hz⟩:=I.list hq
 obtain⟨j,h1,h2,h3,h4,h5⟩:=rZ he
 obtain⟨w,ew,rw'⟩:=r.get h2
 have hl:=r.length
 have hn:=nh
 have fin:EP X pins σ Q w s:=⟨z,H,I,rw',q⟩
 by_cases h0:0≤i
 ·have hj:i.toNat=j:=by
   rw[seqIndex_of h0 h5] at h1
   exact Option.some.inj h1
  exact item_listR pl.isList h0 (by omega) (by rw[hj];simpa using ew) fin hs
 ·have hj:(i+(its.toArray.size:Int)).toNat=j:=by
   rw[seqIndex_neg (by omega) h4] at h1
   rw[List.size_toArray,←hl]
   exact Option.some.inj h1
  exact subscriptTail_builtinR (x:=w) pl.isList.typeIs slot_list_getitem.lookup
   (wpAny_getItem_list_neg (Q:=fun r s'=>r=w∧EP X pins σ Q r s') pl.isList (by omega) (by rw[List.size_toArray] <;> omega) (by omega) (by rw[hj];simpa using ew) ⟨rfl,fin⟩) hs
theorem zM:zK X (Gp X.K):=by
 intro value slice pins s σ H x y v u Q I rx ry h hs
 obtain⟨p,xs,i,z,rfl,rfl,hq,he,q⟩:=h
 cases rx
 obtain⟨t,rfl⟩:=ry
 obtain⟨its,r,pl,hz⟩:=I.tuple hq
 obtain⟨j,h1,h2,h3,h4,h5⟩:=rZ he
 obtain⟨w,ew,rw'⟩:=r.get h2
 have hl:=r.length
 have hn:=nh
 have fin:EP X pins σ Q w s:=⟨z,H,I,rw',q⟩
 exact subscriptTail_builtinR (x:=w) pl.typeIs slot_tuple_getitem.lookup
  (getItem_tuple (j:=j) (Q:=fun r s'=>r=w∧EP X pins σ Q r s') pl (by omega) (by omega) (by rw[List.size_toArray,←hl];exact h1) (by simpa using ew) ⟨rfl,fin⟩) hs
theorem zN:zK X Gq:=by
 intro value slice pins s σ H x y v u Q I rx ry h hs
 obtain⟨z,i,c,rfl,rfl,hz,he,q⟩:=h
 obtain⟨t,rfl⟩:=rx
 obtain⟨t',rfl⟩:=ry
 obtain⟨j,h1,h2,h3,h4,h5⟩:=rZ he
 have hl:z.cps.toList.length=z.length:=by simp[Str.length]
 rw[hl] at h1 h4 h5
 have hn:=nh
 exact tail_any (typeIs_str s z t) slot_str_getitem.lookup (getItem_str (c:=c) (by
  have e1:decide (i < -(2 ^ 63:Int))=false:=decide_eq_false (by omega)
  have e2:decide (i≥2 ^ 63)=false:=decide_eq_false (by omega)
  rw[e1,e2,Bool.or_false]) (by rw[h1];simpa using h2) ⟨.str ⟨#[c]⟩,H,I.tok _,⟨_,rfl⟩,q⟩) hs
noncomputable def P4 (K:PySem.W.Frag):R2:=fun x y H Q=>Gn K x y H Q∨Gp K x y H Q∨Gq x y H Q
theorem zO:zK X (P4 X.K):=wI.or (zM.or zN)
theorem vG (its:List Value) (n j:Nat) (u:Value):Obj.mapSeq (·.setIfInBounds j u) {cls:=.type "list",data:=.seq its.toArray n}={cls:=.type "list",data:=.seq (its.set j u).toArray n}:=by
 simp[Obj.mapSeq]
theorem Inv.lst {pins:List (Addr×Obj)}{σ:St}{H:Hp}{s:Shared}{p:Addr}{xs:List V}(I:Inv X pins σ H s) (h:H p=some (.lst xs)):
  ∃(its:List Value) (n:Nat),Vals xs its∧s.heap.get? p=some {cls:=.type "list",data:=.seq its.toArray n}∧xs.length≤sizeLine:=by
 obtain⟨z,its,n,r,e⟩:=I.hok p _ h
 exact⟨its,n,r,e,z⟩
theorem Inv.DM {pins:List (Addr×Obj)}{σ:St}{H:Hp}{s:Shared}{p:Addr}{xs ys:List V}{its its':List Value}{n n':Nat}{f:Obj→Obj}(I:Inv X pins σ H s) (h:H p=some (.lst xs))
  (ho:s.heap.get? p=some {cls:=.type "list",data:=.seq its.toArray n}) (hf:f {cls:=.type "list",data:=.seq its.toArray n}={cls:=.type "list",data:=.seq its'.toArray n'}) (r:Vals ys its') (hz:ys.length≤sizeLine) (t:Nat):
  Inv X pins σ (upd H p (.lst ys)) {s with heap:=s.heap.update p f,toks:=t}:=by
 have e:(s.heap.update p f).get? p=some {cls:=.type "list",data:=.seq its'.toArray n'}:=by
  rw[Heap.get?_update_self f ho (by rw[hf] <;> rfl),hf]
 refine I.write (x:=p) (e:=p) (by rw[h];trivial) (.inl rfl) (fun b u hb q=>(Heap.get?_update_other _ _ (Ne.symm hb)).trans q) ⟨_,e⟩ ?_
 exact⟨hz,its',n',r,e⟩
noncomputable def Gr:V→V→V→Hp→(Hp→Prop)→Prop:=fun o i v H Q=>∃p xs k j,o= .ref p∧i= .int k∧H p=some (.lst xs)∧xM xs.length k=some j∧Q (upd H p (.lst (xs.set j v)))
theorem set_list:FG X Gr:=by
 intro pins s σ H o i v ov iv u Q I ro ri rv h
 obtain⟨p,xs,k,j,rfl,rfl,hp,hj,q⟩:=h
 cases ro
 obtain⟨t,rfl⟩:=ri
 obtain⟨its,n,r,ho,hz⟩:=I.lst hp
 obtain⟨h1,h2,h3,h4⟩:=wH hj
 have hl:=r.length
 have hn:=nh
 have I':Inv X pins σ (upd H p (.lst (xs.set j v))) {s with heap:=s.heap.update p (Obj.mapSeq (·.setIfInBounds j u))}:=
  I.DM hp ho (vG its n j u) (r.set rv j) (by rw[List.length_set];exact hz) s.toks
 by_cases h0:0≤k
 ·have hk:k.toNat=j:=by
   rw[seqIndex_of h0 h4] at h1
   exact Option.some.inj h1
  exact PySem.W.ki_setAt ho h0 (by omega) (by rw[List.size_toArray,←hl];exact h4) (by rw[hk];exact⟨_,I',q⟩)
 ·have hk:(k+(its.toArray.size:Int)).toNat=j:=by
   rw[seqIndex_neg (by omega) h3] at h1
   rw[List.size_toArray,←hl]
   exact Option.some.inj h1
  exact PySem.W.ki_setBack ho (by omega) (by rw[List.size_toArray,←hl];exact h3) (by omega) (by rw[hk];exact⟨_,I',q⟩)
theorem se (lo hi:Option Int) (n:Nat):(sliceBounds lo hi none n).1=((HT.fK n 0 lo:Nat):Int)∧(sliceBounds lo hi none n).2.1=((HT.fK n n hi:Nat):Int)∧(sliceBounds lo hi none n).2.2=1:=by
 refine⟨?_,?_,rfl⟩
 ·cases lo with
  | none=>simp[sliceBounds,HT.fK]
  | some i=>
   simp only[sliceBounds,HT.fK,Option.getD_none,show(1:Int) > 0 by decide,if_true]
   by_cases h:i < 0
   ·simp only[h,if_true] <;> omega
   ·simp only[h,if_false] <;> omega
 ·cases hi with
  | none=>simp[sliceBounds,HT.fK]
  | some i=>
   simp only[sliceBounds,HT.fK,Option.getD_none,show(1:Int) > 0 by decide,if_true]
   by_cases h:i < 0
   ·simp only[h,if_true] <;> omega
   ·simp only[h,if_false] <;> omega
theorem qo (its:List Value) (lo hi:Option Int):slicePick its.toArray lo hi none=((its.drop (HT.fK its.length 0 lo)).take (HT.fK its.length its.length hi - HT.fK its.length 0 lo)).toArray:=by
 obtain⟨h1,h2,h3⟩:=se lo hi its.toArray.size
 unfold slicePick
 rw[h1,h2,h3]
 simp only[sliceRange_one,pick_run,List.size_toArray] <;> rfl
noncomputable def Kn (K:PySem.W.Frag):V→Option Int→Option Int→Hp→VK→Prop:=fun x lo hi H Q=>∃a xs,x= .ref a∧lB K H a xs∧∀p,H p=none→Q (.ref p) (upd H p (.lst (tK xs lo hi)))
theorem BD:BB X (Kn X.K):=by
 intro pins s σ H x v vl vu lo hi sl Q I rx hs pl pu h
 obtain⟨a,xs,rfl,hx,q⟩:=h
 cases rx
 obtain⟨its,r,ht,hz⟩:=I.list hx
 have hlen:=r.length
 refine⟨"list",_,slot_list_getitem.lookup,ht.isList.typeIs,?_⟩
 refine wpAny_getItem_list_slice ht.isList hs pl pu .none (by simp) ?_ (by rw[List.size_toArray] <;> omega)
 rw[qo,←hlen]
 refine⟨.ref s.heap.objs.size,_,I.laid (t':=s.toks) (o:=.lst (tK xs lo hi)) (fun b ob q=>Heap.get?_push_of_some _ q) (Nat.le_refl _) ?_,rfl,q _ (I.hok.fresh (Nat.le_refl _))⟩
 exact⟨Nat.le_trans (nZ xs lo hi) hz,_,0,(r.drop (HT.fK xs.length 0 lo)).take (HT.fK xs.length xs.length hi - HT.fK xs.length 0 lo),Heap.get?_push_size _ rfl⟩
theorem jK:dW X (.builtin "len") (fun xs H Q=>∃p ys,xs=[.ref p]∧(lB X.K H p ys∨qO X.K H p ys)∧Q (.int ys.length) H):=by
 intro pins s σ H xs us Q I r h
 obtain⟨p,ys,rfl,hq,q⟩:=h
 obtain⟨u,rfl,rx⟩:=vals1 r
 cases rx
 have hn:=nh
 rcases hq with hq | hq
 ·obtain⟨its,r',pl,hz⟩:=I.list hq
  have hlen:=r'.length
  exact Calls.call_len_list pl.isList (by simp only[List.size_toArray] <;> omega) ⟨.int ys.length,H,I.tok _,⟨s.toks+1,by rw[List.size_toArray,hlen]⟩,q⟩
 ·obtain⟨its,r',pl,hz⟩:=I.tuple hq
  have hlen:=r'.length
  exact len_tuple pl (by simp only[List.size_toArray] <;> omega) ⟨.int ys.length,H,I.tok _,⟨s.toks+1,by rw[List.size_toArray,hlen]⟩,q⟩
theorem mD:dW X (.builtin "len") (fun xs H Q=>∃z,xs=[.str z]∧z.length≤sizeLine∧Q (.int z.length) H):=by
 intro pins s σ H xs us Q I r h
 obtain⟨z,rfl,hz,q⟩:=h
 obtain⟨u,rfl,t,rfl⟩:=vals1 r
 have hn:=nh
 exact len_str (by omega) ⟨.int z.length,H,I.tok _,⟨_,rfl⟩,q⟩
theorem dW.or {f:Value}{r r':List V→Hp→VK→Prop}(h:dW X f r) (h':dW X f r'):dW X f (fun xs H Q=>r xs H Q∨r' xs H Q):=by
 intro pins s σ H xs us Q I rs q
 rcases q with q | q
 ·exact h pins s σ H xs us Q I rs q
 ·exact h' pins s σ H xs us Q I rs q
theorem mF:dW X (.type "list") (fun xs H Q=>∃p ys,xs=[.ref p]∧(lB X.K H p ys∨qO X.K H p ys)∧∀l,H l=none→Q (.ref l) (upd H l (.lst ys))):=by
 intro pins s σ H xs us Q I r h
 obtain⟨p,ys,rfl,hq,q⟩:=h
 obtain⟨u,rfl,rx⟩:=vals1 r
 cases rx
 have fin:∀(its:List Value),Vals ys its→ys.length≤sizeLine→∀(h':Heap) (c':Nat),(∀b o',s.heap.get? b=some o'→h'.get? b=some o')→
   h'.get? s.heap.objs.size=some {cls:=.type "list",dict:=none,data:=.seq its.toArray c',slots:=#[]}→EP X pins σ Q (.ref s.heap.objs.size) {s with heap:=h'}:=fun its r' hz h' c' kp e=>
  ⟨.ref s.heap.objs.size,_,I.laid (t':=s.toks) kp (Nat.le_refl _) (show dU X.prog X.w _ h' _ (.lst ys) from⟨hz,its,c',r',e⟩),rfl,q _ (I.hok.fresh (Nat.le_refl _))⟩
 rcases hq with hq | hq
 ·obtain⟨its,r',pl,hz⟩:=I.list hq
  have hlen:=r'.length
  obtain⟨o,ho,hc,n,hd⟩:=pl.isList
  exact call_list_seq p (.inl rfl) ho hc hd (fun h' c' kp e=>fin its r' hz h' c' kp e) (by simp only[List.size_toArray] <;> omega)
 ·obtain⟨its,r',pl,hz⟩:=I.tuple hq
  have hlen:=r'.length
  obtain⟨o,ho,hc,n,hd⟩:=pl
  exact call_list_seq p (.inr rfl) ho hc hd (fun h' c' kp e=>fin its r' hz h' c' kp e) (by simp only[List.size_toArray] <;> omega)
theorem lF:dW X (.type "tuple") (fun xs H Q=>∃p ys,xs=[.ref p]∧((lB X.K H p ys∧∀l,H l=none→Q (.ref l) (upd H l (.tup ys)))∨(qO X.K H p ys∧Q (.ref p) H))):=by
 intro pins s σ H xs us Q I r h
 obtain⟨p,ys,rfl,h⟩:=h
 obtain⟨u,rfl,rx⟩:=vals1 r
 cases rx
 rcases h with⟨hq,q⟩ | ⟨hq,q⟩
 ·obtain⟨its,r',pl,hz⟩:=I.list hq
  have hlen:=r'.length
  refine call_tuple_list pl.isList (fun h' kp=>?_) (by simp only[List.size_toArray] <;> omega)
  have I1:Inv X pins σ H {s with heap:=h'}:=I.kept (t':=s.toks) kp
  have I2:Inv X pins σ (upd H h'.objs.size (.tup ys)) {s with heap:=h'.push {cls:=.type "tuple",data:=.seq its.toArray}}:=
   I1.laid (t':=s.toks) (fun b o e=>Heap.get?_push_of_some _ e) (Nat.le_refl _) (show dU X.prog X.w _ _ _ (.tup ys) from⟨hz,its,r',IsTup.new _ _⟩)
  exact⟨.ref h'.objs.size,_,I2,rfl,q _ (I1.hok.fresh (Nat.le_refl _))⟩
 ·obtain⟨its,r',pl,hz⟩:=I.tuple hq
  exact call_tuple_same pl ⟨.ref p,H,I,rfl,q⟩
noncomputable def OL (K:PySem.W.Frag) (T:String) (x:V) (H:Hp):Prop:=match x with
 | .str _=>T="str"
 | .int _=>T="int"
 | .ref p=>(T="list"∧∃xs,lB K H p xs)∨(T="tuple"∧∃o,K.lookup p=some o∧o.cls= .type "tuple"∧o.dict=none)∨
   (T="dict"∧((∃kvs,H p=some (.dK kvs))∨∃kvs,H p=some (.dT kvs)))∨(T="set"∧∃S n,H p=some (.set S n))
 | _=>False
theorem DN {pins : List (Addr × Obj)} {σ : St} {H : Hp} {s : Shared} {T : String} {x : V} {v : Value} (I : Inv X pins σ H s) (r : RelV x v) (ty : OL X.K T x H) :
    s.TypeIs v T∧∀a,v= .ref a→∃ob,s.heap.get? a=some ob∧ob.dict=none:=by
  cases x with
  | str z=>
    obtain⟨t,rfl⟩:=r
    cases(show T="str" from ty)
    exact⟨typeIs_str s z t,fun _ e=>nomatch e⟩
  | int i=>
    obtain⟨t,rfl⟩:=r
    cases(show T="int" from ty)
    exact⟨typeIs_int s i t,fun _ e=>nomatch e⟩
  | ref p =>
    cases r
    rcases ty with⟨rfl,xs,hq⟩ | ⟨rfl,o,hk,hc,hd⟩ | ⟨rfl,hk⟩ | ⟨rfl,S,n,hk⟩
    · obtain⟨its,_,pl,_⟩:=I.list hq
      refine⟨pl.isList.typeIs,fun a e=>?_⟩
      cases e
      obtain⟨o,n,e,c,hd,_⟩:=pl
      exact⟨o,e,hd⟩
    · refine⟨⟨o,I.we p o hk,hc⟩,fun a e=>?_⟩
      cases e
      exact⟨o,I.we _ o hk,hd⟩
    · have z:∃o,s.heap.get? p=some o∧o.ExactDict:=by
        rcases hk with⟨kvs,hk⟩ | ⟨kvs,hk⟩
        · obtain⟨_,_,_,_,o,_,_,e,ex,_⟩:=I.hok p _ hk
          exact⟨o,e,ex⟩
        · obtain⟨_,_,_,_,o,_,_,e,ex,_⟩:=I.hok p _ hk
          exact⟨o,e,ex⟩
      obtain⟨o,e,ex⟩:=z
      refine⟨⟨o,e,ex.1⟩,fun a e2=>?_⟩
      cases e2
      exact⟨o,e,ex.2.1⟩
    · obtain⟨o,_,_,_,e,ex,_⟩:=I.hok p _ hk
      refine⟨⟨o,e,ex.1⟩,fun a e2=>?_⟩
      cases e2
      exact⟨o,e,ex.2.1⟩
  | _=>exact False.elim ty
noncomputable def P5 (K:PySem.W.Frag) (T:String) (r:V→List V→Hp→VK→Prop) (to:TE) (t:TA):TE:=fun σ H Q=>to σ H fun x H1=>OL K T x H1∧t σ H1 fun xs H2=>r x xs H2 Q
variable {o e:Expr}{es:List Expr}{to:TE}{t:TA}{name:Str}{apos cpos:Pos}{T id:String}{r:V→List V→Hp→VK→Prop}
theorem Gs (pa:PlainAttrs T) (slot:Slot T name id) (hty:typeOf (.builtin id)=pure (.type "method_descriptor")) (hm:DL X id r) (ho:PE X o to) (ha:PA X (e :: es) t)
  (hbase:attributeBase o name X.env (eval o X.env)=eval o X.env:=by rfl)
  (hfew:((backTo cpos (starEach (e :: es) X.env)).all (fun x=>!x.1) && (backToKw cpos (keywordEach [] X.env)).all (fun x=>x.1.isSome)
   && decide ((e :: es).length+([]:List Keyword).length+(if([]:List Keyword).isEmpty then 0 else 1) < 30))=true:=by rfl)
  (hline:(apos.endLine == cpos.line)=true:=by rfl) (hs:starEach (e :: es) X.env=(false,eval e X.env) :: starEach es X.env:=by rfl) (hplain:(backTo cpos (starEach es X.env)).any (·.1)=false:=by rfl):
  PE X (.Call (.Attribute o name apos) (e :: es) [] cpos) (P5 X.K T r to t):=by
 intro pins s σ H Q I h
 refine wpAny_Call_method_late hbase hfew hline rfl (fG (ho pins s σ H _ I h) fun v s1 ⟨x,H1,I1,r1,ty,q1⟩=>?_)
 obtain⟨h1,h2⟩:=DN I1 r1 ty
 refine⟨T,id,pa,slot,hty,h1,h2,?_⟩
 have hA:=ha cpos pins s1 σ H1 _ I1 q1
 rw[hs] at hA ⊢
 refine Calls.callWith_builtin (by show(false || (backTo cpos (starEach es X.env)).any (·.1))=false;rw[hplain] <;> rfl) (Calls.evalArgs_plain ?_)
 exact fG hA fun us s2 ⟨vs,H2,I2,r2,q2⟩=>hm pins s2 σ H2 x vs v us Q I2 r1 r2 q2
end
end L2
namespace L2
open PySem PySem.Spec PyProof.Rows
noncomputable def P6 (X:Cx) (id:String) (r:V→List V→Hp→VK→Prop):Prop:=
 ∀(pins:List (Addr×Obj)) (s:Shared) (σ:St) (H:Hp) (x:V) (xs:List V) (v:Value) (us:List Value) (Q:VK),Inv X pins σ H s→RelV x v→Vals xs us→r x xs H Q→
  wpAny (model X.prog X.w) X.A (call (.builtin id) (v :: us)) (EP X pins σ Q) X.xe s
theorem Vals.one:∀{x:V}{us:List Value},Vals [x] us→∃u,us=[u]∧RelV x u
 | _,_,.cons r .nil=>⟨_,rfl,r⟩
theorem Vals.eraseIdx:∀{xs:List V}{us:List Value}(i:Nat),Vals xs us→Vals (xs.eraseIdx i) (us.eraseIdx i)
 | _,_,_,.nil=>.nil
 | _,_,0,.cons _ t=>t
 | _,_,i+1,.cons r t=>.cons r (Vals.eraseIdx i t)
theorem Vals.reverse {xs:List V}{us:List Value}(h:Vals xs us):Vals xs.reverse us.reverse:=by
 induction h with
 | nil=>exact .nil
 | cons r t ih=>rw[List.reverse_cons,List.reverse_cons];exact Vals.append ih (.cons r .nil)
theorem Vals.rep {xs:List V}{us:List Value}(h:Vals xs us):∀k:Nat,Vals (List.replicate k xs).flatten (List.replicate k us).flatten
 | 0=>.nil
 | k+1=>by
  rw[List.replicate_succ,List.replicate_succ,List.flatten_cons,List.flatten_cons]
  exact Vals.append h (Vals.rep h k)
theorem foldl_rep (its:List Value):∀(k:Nat) (acc:List Value),
    List.foldl (fun x1 x2=>x1++x2) acc.toArray (List.replicate k its.toArray)=(acc++(List.replicate k its).flatten).toArray
  | 0,acc=>by simp
  | k + 1, acc => by
    have e:acc.toArray++its.toArray=(acc++its).toArray:=by simp
    have e2:(acc++its)++(List.replicate k its).flatten=acc++(List.replicate (k+1) its).flatten:=by
      rw[List.replicate_succ,List.flatten_cons,List.append_assoc]
    rw[←e2,←foldl_rep its k (acc++its),←e,List.replicate_succ,List.foldl_cons]
section
variable {X:Cx}{pins:List (Addr×Obj)}{σ:St}{H:Hp}{s:Shared}{l b:Addr}{xs ys zs:List V}
theorem Inv.Gu {its its':List Value}{n:Nat}{f:Array Value→Array Value}{t':Nat}(I:Inv X pins σ H s) (hH:H l=some (.lst xs))
  (e:s.heap.get? l=some {cls:=.type "list",data:=.seq its.toArray n}) (hf:f its.toArray=its'.toArray) (hv:Vals ys its') (hz:ys.length≤sizeLine):
  Inv X pins σ (upd H l (.lst ys)) {s with heap:=s.heap.update l (Obj.mapSeq f),toks:=t'}:=by
 have q:=PySem.IsL.update e f
 rw[hf] at q
 refine I.write (x:=l) (e:=l) (by rw[hH];exact trivial) (.inl rfl) (fun b' u hb hu=>(Heap.get?_update_other s.heap (Obj.mapSeq f) (Ne.symm hb)).trans hu) ⟨_,q⟩ ?_
 exact⟨hz,its',_,hv,q⟩
theorem Inv.Gv {its:List Value}{t':Nat}(I:Inv X pins σ H s) (hv:Vals ys its) (hz:ys.length≤sizeLine):
  Inv X pins σ (upd H s.heap.objs.size (.lst ys)) {s with heap:=s.heap.push {cls:=.type "list",data:=.seq its.toArray},toks:=t'}:=
 I.laid (fun _ _ q=>Heap.get?_push_of_some _ q) (Nat.le_refl _) ⟨hz,its,0,hv,Heap.get?_push_size _ rfl⟩
theorem Inv.fresh (I:Inv X pins σ H s):H s.heap.objs.size=none:=I.hok.fresh (Nat.le_refl _)
theorem Inv.vH (I:Inv X pins σ H s) (hH:H l=some (.lst xs)):xs.length≤sizeLine∧∃(its:List Value) (n:Nat),Vals xs its∧xs.length=its.length∧s.heap.get? l=some {cls:=.type "list",data:=.seq its.toArray n}:=by
 obtain⟨z,its,n,r,e⟩:=I.hok l _ hH
 exact⟨z,its,n,r,r.length,e⟩
theorem tL {n:Nat}(h:n≤sizeLine):Builtin.List.listTooLong n=false:=by
 unfold Builtin.List.listTooLong
 exact decide_eq_false (by omega)
end
section
variable {X:Cx}
noncomputable def wJ:V→List V→Hp→VK→Prop:=fun x vs H Q=>∃l xs y,x= .ref l∧vs=[y]∧H l=some (.lst xs)∧xs.length < sizeLine∧Q .cg (upd H l (.lst (xs++[y])))
theorem kQ:P6 X "list.append" wJ:=by
 intro pins s σ H x vs v us Q I rx rv h
 obtain⟨l,xs,y,rfl,rfl,hH,hz,q⟩:=h
 cases rx
 obtain⟨u,rfl,ru⟩:=rv.one
 obtain⟨z,its,n,r,hl,e⟩:=I.vH hH
 refine call_meets F.slot_list_append ⟨_,e,rfl⟩ F.entry_list_append (F.args_list_append_2 _ _) (PySem.list_append l its.toArray n u (by rw[List.size_toArray];omega)) ⟨e,?_⟩
 refine⟨.cg,_,I.Gu (its':=its++[u]) hH e (by simp) (r.append (.cons ru .nil)) ?_,rfl,q⟩
 rw[List.length_append,List.length_singleton]
 omega
theorem len_rep {α:Type}(xs:List α) (k:Nat):(List.replicate k xs).flatten.length=k * xs.length:=by
 induction k with
 | zero=>simp
 | succ k ih=>rw[List.replicate_succ,List.flatten_cons,List.length_append,ih,Nat.succ_mul,Nat.add_comm]
end
section
variable {prog:Program}{w:World}{A:Around}{E:Value→Shared→Prop}{s:Shared}
end
section
variable {X:Cx}
end
end L2
namespace OM
open PySem PySem.W PySem.Calls PyProof.Rows
theorem oZ {P:Params}{h:Heap}:∀(ns:List Int) (vs:List Value),WellAll P h vs (ns.map WData.int)→IntsAre vs ns:=by
 intro ns
 induction ns with
 | nil=>
  intro vs w
  rw[List.map_nil] at w
  cases w
  exact .nil
 | cons n ns ih=>
  intro vs w
  rw[List.map_cons] at w
  cases w with
  | cons a b=>
   cases a
   exact .cons _ _ (ih _ b)
theorem xN {l:OpenLaw}{n:Nat}(hn:l.most=some n){P:Params}{h:Heap}{args:List WData}{vals:List Value}
  (hpre:l.row.toRowW.claim.pre args=true) (hwl:WellAll P h vals args):
  ∃a vs ns,vals=[Value.ref a]∧args=[WData.list (ns.map WData.int)]∧h.get? a=some {cls:=.type "list",data:=.seq vs.toArray}∧IntsAre vs ns∧ns.length≤n:=by
 have hsh:WShape.hasAll [] args [.list .int]=true:=(pre_splitW hpre).1
 have hc:l.pre.holds [] {args:=args}=true:=(pre_splitW hpre).2
 obtain⟨d,r,rfl,h1,h2⟩:=hasAllW_cons hsh
 obtain rfl:=hasAllW_nil h2
 obtain⟨xs,rfl,h3⟩:=hasW_list h1
 obtain⟨ns,rfl⟩:=items_int h3
 have hlen:ns.length≤n:=by
  unfold OpenLaw.pre at hc
  have h4:(WTm.not (.lt (.lit (.int (n:Int))) (.len (.arg 0)))).holds [] {args:=[.list (ns.map .int)]}=true:=by
   have h4:=(holds_andW hc).1
   rw[hn] at h4
   exact h4
  have h5:=condW_of h4 (w_not (w_lt w_lit (w_len_list (w_arg rfl))))
  rw[List.length_map] at h5
  refine Nat.le_of_not_lt fun q=>?_
  have q':(n:Int) < ((ns.length:Nat):Int):=by omega
  first
   | (rw[decide_eq_true q'] at h5;exact absurd h5 (by decide))
   | (simp at h5;omega)
 cases hwl with
 | cons w1 w2=>
  cases w2
  cases w1 with
  | list ho hall=>exact⟨_,_,ns,rfl,rfl,ho,oZ ns _ hall,hlen⟩
theorem xO (l:OpenLaw) (args:List WData):l.row.toRowW.claim.post args (.bool true) args=true:=
 postW_of (r:=l.row.toRowW) (X:=(true == true))
  (show WShape.has [] (.bool true) .bool=true by first | rfl | decide | simp[WShape.has,WShape.arms,WShape.armsAll])
  (show(WTm.eq .res (.lit (.bool true))).value [] {args:=args,res:=some (.bool true),after:=args}=some (.bool (true == true)) from w_eq_bool (w_res rfl) w_lit) rfl
theorem tM {l:OpenLaw}{n:Nat}{q:Program}{loose:List Str}{XP:(Str→Option Value)→Heap→Prop}{YP:World→Heap→Prop}{d:DefRec}
  (hn:l.most=some n) (hdf:d.params.defaults=[])
  (call:∀(w:World) (s₀ s₁:Shared) (mg mb:Str→Option Value) (fa:Addr) (o:Obj) (pm cd doc:Value) (a:Addr) (vs:List Value) (ns:List Int),
   Ground q loose [] XP w s₀ mg mb s₁.heap→YP w s₁.heap→
   s₁.heap.get? fa=some o→o.data= .func (docDef d.name d.params d.body d.scope pm cd doc)→s₁.heap.CodeRec cd d.name→mg d.name=some (.ref fa)→
   s₁.heap.get? a=some {cls:=.type "list",data:=.seq vs.toArray}→IntsAre vs ns→ns.length≤n→s₁.gens=#[]→
   codeAny (model l.prog w) callerA (.call (.ref fa) ⟨[.ref a],[]⟩) (fun r s'=>r= .ok (.ret (.bool true))∧OldK s₁.heap s'.heap∧s'.os=s₁.os∧AllBare s'.gens) s₁):
  WalkO q loose XP YP l.row.toRowW d [] (fun f vs=>PySem.call f vs):=by
 intro w s₀ s₁ mg mb G Y fa o pm cd doc dV kV ho hd hcd hD hmg hg args vals as hpre hlay hrd hwl hlo
 obtain rfl:dV= .none:=Dflts.none hD hdf
 obtain rfl:kV= .none:=Dflts.noKw hD
 obtain⟨a,vs,ns,rfl,rfl,hobj,hints,hlen⟩:=xN hn hpre hwl
 refine enter_call (codeAny_mono (call w s₀ s₁ mg mb fa o pm cd doc a vs ns G Y ho (fd_plain hd) hcd hmg hobj hints hlen hg) fun r s' hq=>?_)
 obtain⟨rfl,h2,h3,h4⟩:=hq
 exact⟨.inl ⟨.bool true,.bool true,[],rfl,fun _=>rfl,.bool true,xO l _,fun _=>⟨List.Pairwise.nil,fun _ hm=>(nomatch hm)⟩⟩,h2,h3,h4⟩
section
variable {prog:Program}{w:World}{A:Around}{E:Value→Shared→Prop}{s:Shared}{K:Frag}
end
end OM
namespace L2
open PySem PySem.Spec PyProof.Rows
theorem qX:∀{vs:List Value}{ns:List Int},IntsAre vs ns→Vals (ns.map V.int) vs
 | _,_,.nil=>.nil
 | _,_,.cons n t h=>.cons ⟨t,rfl⟩ (qX h)
noncomputable def BE (H:Hp):Prop:=∀b,H b=none∨∃o xs,H b=some (.ju o (.lst xs))
theorem zP {P : Program} {w : World} {K : PySem.W.Frag} {mg mb : Str → Option Value} {CX : xE} {k : Nat} {fa a : Addr} {fd : FuncData} {x : Str} {sp : Sp} {s₁ : Shared} {vs : List Value} {ns : List Int}
    (KX:K.In s₁.heap) (hns:s₁.heap.Ns mainGlobals mg) (hb:s₁.heap.Ns builtinsNs mb) (P7:∀x:Str,x≠"__name__"→mb x=bootBuiltins x) (hlim:s₁.heap.NoLimit) (hg:s₁.gens=#[])
    (ha:s₁.heap.get? a=some {cls:=.type "list",data:=.seq vs.toArray}) (hi:IntsAre vs ns) (hl:ns.length≤sizeLine) (hr:iw k callerA)
    (F:∀base:Heap,K.In base→base.Ns mainGlobals mg→bz P w K mg base CX k fa fd [x] sp) (hbind:∀(s:Shared) (u:Value),BindsTo s fd ⟨[u],[]⟩ [(x,u)])
    (CI:∀H:Hp,BE H→lB K H a (ns.map V.int)→sp [.ref a] H (fun v _=>v= .bl true) fun _ _ _=>False)
    (Ko:∀H e s',CX [] H s₁ (fun _ _ _=>False) e s'→False):
    codeAny (model P w) callerA (.call (.ref fa) ⟨[.ref a],[]⟩) (fun r s'=>r= .ok (.ret (.bool true))∧OldK s₁.heap s'.heap∧s'.os=s₁.os∧AllBare s'.gens) s₁:=by
  have rv:=qX hi
  have lenV:=hi.length
  have core : ∀ H : Hp, BE H → lB K H a (ns.map V.int) → lA P w H s₁.heap → (∀ b, H b ≠ none → b = a) → (H a ≠ none → K.lookup a = none) →
      codeAny (model P w) callerA (.call (.ref fa) ⟨[.ref a],[]⟩) (fun r s'=>r= .ok (.ret (.bool true))∧OldK s₁.heap s'.heap∧s'.os=s₁.os∧AllBare s'.gens) s₁:=by
    intro H hO hS hok hA hK
    have wK:∀{b:Addr}{o:Obj},s₁.heap.get? b=some o→H b=none→(rQ s₁.heap H).get? b=some o:=fun e n=>zg e n
    have Gb:∀{b:Addr}{o:Obj}{es:Array DictEntry}{ep:Nat},s₁.heap.get? b=some o→o.data= .dict es ep→H b=none:=fun {b o es ep} e d=>by
      cases q:H b with
      | none=>rfl
      | some u=>
        have e':b=a:=hA b (by rw[q];simp)
        subst e'
        rw[ha] at e;cases e
        have d':Data.seq vs.toArray _=Data.dict es ep:=d
        cases d'
    have IA:∀{b:Addr}{m:Str→Option Value},s₁.heap.Ns b m→(rQ s₁.heap H).Ns b m:=fun {b m} ⟨o,es,ep,e,d,r⟩=>⟨o,es,ep,wK e (Gb e d),d,r⟩
    have ON:K.In (rQ s₁.heap H):=fun b o e=>wK (KX b o e) (by
      cases q:H b with
      | none=>rfl
      | some u=>
        have e':b=a:=hA b (by rw[q];simp)
        subst e'
        rw[hK (by rw[q];simp)] at e;cases e)
    have hM:Mod K mg (rQ s₁.heap H):=⟨ON,IA hns,⟨mb,IA hb,P7⟩,let⟨mc,h1,h2⟩:=hlim;⟨mc,IA h1,h2⟩⟩
    have e0:vB P w K mg (rQ s₁.heap H) callerA [] s₁ H:=⟨rfl,hM,fun b o e=>Bc e,Nat.le_of_eq (xx _ _),trivial,fun b hb=>absurd (show b∈([]:List Addr) from hb) (by simp),hok,.of_eq hg⟩
    refine codeAny_mono ((F _ ON (IA hns)).run callerA [] s₁ H ⟨[.ref a],[]⟩ [.ref a] [.ref a] _ _ hr e0 (hbind s₁ (.ref a)) (.cons rfl .nil) (CI H hO hS)) fun r s' h=>?_
    cases r with
    | error e=>exact(Ko H e s' h).elim
    | ok fl =>
      cases fl with
      | next=>exact False.elim h
      | brk=>exact False.elim h
      | cont=>exact False.elim h
      | ret u =>
        obtain⟨v,H',os,bare,un,Kp,r',q⟩:=h
        have q':v= .bl true:=q
        subst q'
        obtain rfl:u=Value.bool true:=r'
        refine⟨rfl,OldK.of_keep fun b o e=>?_,os,bare⟩
        cases q:H b with
        | none=>exact un.keep b o e q (by intro z;exact absurd (show b∈([]:List Addr) from z) (by simp)) (by simp)
        | some u=>
          rcases hO b with z | ⟨ob,xs,z⟩
          · rw[q] at z;cases z
          · have z2:=un.mj b ob _ z
            obtain⟨e1,_⟩:=hok b _ z
            obtain⟨e2,_⟩:=Kp b _ z2
            rw[e] at e1;cases e1
            exact e2
  cases hk:K.lookup a with
  | some o=>
    have e:=KX a o hk
    rw[ha] at e
    cases e
    refine core (fun _=>none) (fun _=>.inl rfl) (.inr ⟨_,vs.toArray,_,hk,rfl,rfl,rfl,by rw[List.size_toArray,lenV];exact hl,by simpa using rv⟩) (fun b u z=>by have z':(none:Option HO)=some u:=z;cases z') (fun b z=>absurd rfl z) fun z=>absurd rfl z
  | none=>
    refine core (fun b=>if b=a then some (.ju {cls:=.type "list",data:=.seq vs.toArray} (.lst (ns.map V.int))) else none) (fun b=>?_) (.inl (.inr ⟨{cls:=.type "list",data:=.seq vs.toArray},if_pos rfl⟩)) (fun b u z=>?_) (fun b z=>?_) fun _=>hk
    · by_cases hb:b=a
      · exact .inr ⟨_,_,if_pos hb⟩
      · exact .inl (if_neg hb)
    · by_cases hb:b=a
      · have z':=(if_pos hb).symm.trans z
        cases z'
        subst hb
        exact⟨ha,by rw[List.length_map];exact hl,vs,_,rv,ha⟩
      · have z':=(if_neg hb).symm.trans z
        cases z'
    · by_cases hb:b=a
      · exact hb
      · exact absurd (if_neg hb) z
end L2
namespace L2
open PySem PySem.Spec PyProof.Rows
noncomputable abbrev S4 {K:PySem.W.Frag}{h:Heap}(_:K.In h):PySem.W.Frag:=K
theorem BF {l : PySem.W.OpenLaw} {n k : Nat} {q : Program} {loose : List Str} {XP : (Str → Option Value) → Heap → Prop} {YP : World → Heap → Prop} {d : DefRec} {K : Params → PySem.W.Frag} {CX : World → xE} {sp : World → Sp} {x : Str}
    (hn:l.most=some n) (hn2:n≤sizeLine) (hdf:d.params.defaults=[]) (hr:iw k callerA)
    (hY:∀(w:World) (h:Heap),YP w h→(K w.params).In h)
    (F:∀(w:World) (mg:Str→Option Value) (fa:Addr) (h:Heap),(K w.params).In h→h.Ns mainGlobals mg→mg d.name=some (.ref fa)→
      ∃fd:FuncData,(∀(s:Shared) (u:Value),BindsTo s fd ⟨[u],[]⟩ [(x,u)])∧
        ∀base:Heap,(K w.params).In base→base.Ns mainGlobals mg→bz l.prog w (K w.params) mg base (CX w) k fa fd [x] (sp w))
    (CI:∀(w:World) (H:Hp) (a:Addr) (ns:List Int),ns.length≤n→BE H→lB (K w.params) H a (ns.map V.int)→sp w [.ref a] H (fun v _=>v= .bl true) fun _ _ _=>False)
    (Ko:∀(w:World) (H:Hp) (s:Shared) (e:Value) (s':Shared),CX w [] H s (fun _ _ _=>False) e s'→False):
    PySem.W.WalkO q loose XP YP l.row.toRowW d [] (fun f vs=>PySem.call f vs):=by
  refine OM.tM hn hdf fun w s₀ s₁ mg mb fa o pm cd doc a vs ns G Y ho hd hcd hmg hobj hints hlen hg=>?_
  have KX:=hY w _ Y
  obtain⟨fd,hb,hF⟩:=F w mg fa _ KX G.T.g hmg
  exact zP KX G.T.g G.T.b G.T.builtins G.T.nolimit hg hobj hints (Nat.le_trans hlen hn2) hr hF hb (fun H hO hS=>CI w H a ns hlen hO hS) fun H e s'=>Ko w H s₁ e s'
end L2
namespace L2
open PySem PySem.Spec PyProof.Rows
noncomputable def bA (s:Stmt):Arguments:=match s with
 | .FunctionDef _ a _ _ _ _ _ _ _ _=>a
 | _=>{posonlyargs:=[],args:=[],vararg:=none,kwonlyargs:=[],kw_defaults:=[],kwarg:=none,defaults:=[]}
noncomputable def bh (s:Stmt):List Stmt:=match s with
 | .FunctionDef _ _ b _ _ _ _ _ _ _=>b
 | _=>[]
noncomputable def aB (s:Stmt):Scope:=match s with
 | .FunctionDef _ _ _ _ _ _ sc _ _ _=>sc
 | _=>{kind:=.function,names:=[],isGenerator:=false,isCoroutine:=false}
noncomputable abbrev fQ:xE:=fun _ _ _ _ _ _=>False
noncomputable abbrev E0:XK:=fun _ _ _=>False
theorem CL {X:Cx}:Passes fQ X E0:=fun _ _ _ _ _ _ _ h=>h.elim
structure m6 (K:PySem.W.Frag) (x qual:Str) (st:Stmt) (f:Addr) (fd:FuncData):Prop where
 ex:∃(oc:Value) (od:Option Addr) (kV doc pm:Value) (an:Option Addr) (cdv ct:Value) (osl:Array (Option Value)),
  fd=PySem.W.fnOf x qual (bA st) (bh st) (aB st) .none kV doc pm an cdv ct∧K.lookup f=some ⟨oc,od,.func fd,osl⟩∧PySem.W.codeIn K cdv qual=true
 kp:PySem.W.keepIn K (.ref f)=true
section
variable {P:Program}{w:World}{K:PySem.W.Frag}{mg:Str→Option Value}{base:Heap}
theorem m6.ok {x qual:Str}{st:Stmt}{f:Addr}{fd:FuncData}{N ps:List Str}{k:Nat}{sp:Sp}(F:m6 K x qual st f fd) (S:bH N ps (aB st)) (len:∀vs H Q E,sp vs H Q E→vs.length=ps.length)
  (hbody:∀(cdv:Value) (A:Around) (outer:List Env) (s:Shared) (H:Hp) (vs:List V) (Q:VK) (E:XK),iw k (A.deeper (envOfC qual (aB st) s.heap.objs.size f cdv))→sp vs H Q E→
   ∃t,vo (vC fQ P w K mg base N qual (aB st) f cdv A outer s H E).Bh (bh st) t∧t {nx:=fun _ H'=>Q .cg H',rt:=Q} (start N vs) H):bz P w K mg base fQ (k+1) f fd ps sp:=by
 obtain⟨oc,od,kV,doc,pm,an,cdv,ct,osl,rfl,lk,hcd⟩:=F.ex
 refine Gd lk hcd S len fun A outer s H vs Q E hr CI=>?_
 obtain⟨t,h,q⟩:=hbody cdv A outer s H vs Q E hr CI
 exact⟨t,h.Bh,q⟩
theorem m6.binds {x qual:Str}{st:Stmt}{f:Addr}{fd:FuncData}{ps:List Str}(F:m6 K x qual st f fd)
  (h:∀(kV doc pm:Value) (an:Option Addr) (cdv ct:Value) (us:List Value),us.length=ps.length→bindArgs (PySem.W.fnOf x qual (bA st) (bh st) (aB st) .none kV doc pm an cdv ct) ⟨us,[]⟩=pure (ps.zip us)):Binds K fd ps []:=by
 obtain⟨oc,od,kV,doc,pm,an,cdv,ct,osl,rfl,lk,hcd⟩:=F.ex
 exact .all (h kV doc pm an cdv ct)
theorem cN {x qual:Str}{st:Stmt}{f:Addr}{oc:Value}{od an:Option Addr}{osl:Array (Option Value)}{kV doc pm cdv ct:Value}(l:K.lookup f=some ⟨oc,od,.func (PySem.W.fnOf x qual (bA st) (bh st) (aB st) .none kV doc pm an cdv ct),osl⟩)
  (c:PySem.W.codeIn K cdv qual=true) (k:PySem.W.keepIn K (.ref f)=true):m6 K x qual st f (PySem.W.fnOf x qual (bA st) (bh st) (aB st) .none kV doc pm an cdv ct):=⟨⟨oc,od,kV,doc,pm,an,cdv,ct,osl,rfl,l,c⟩,k⟩
end
theorem dM {A:Around}{k:Nat}(hr:iw k A):A.units+1 < cLine:=Nat.lt_of_le_of_lt (Nat.add_le_add_left (by decide:1≤64) _) hr.units
section
variable {X:Cx}
theorem xP:dW X (.builtin "len") (fun xs H Q=>∃a kvs,xs=[V.ref a]∧H a=some (.dK kvs)∧Q (.int kvs.length) H):=by
 intro pins s σ H xs us Q I r h
 obtain⟨a,kvs,rfl,ha,q⟩:=h
 obtain⟨u,rfl,ru⟩:=vals1 r
 cases ru
 exact Gg I (.inl ha) fun t s' I'=>⟨.int kvs.length,H,I',⟨t,rfl⟩,q⟩
end
theorem zQ {A B:Prop}(h:B):if false=true then A else B:=by
 rw[if_neg Bool.false_ne_true]
 exact h
theorem zR {A B:Prop}(h:A):if true=true then A else B:=by
 rw[if_pos rfl]
 exact h
noncomputable def pH (H H':Hp):Prop:=∀b o,H b=some o→H' b=some o
theorem pH.refl (H:Hp):pH H H:=fun _ _ h=>h
theorem pH.trans {H H1 H2:Hp}(a:pH H H1) (b:pH H1 H2):pH H H2:=fun c o h=>b c o (a c o h)
theorem pH.free {H H':Hp}(e:pH H H'){l:Addr}(h:H' l=Option.none):H l=Option.none:=by
 cases q:H l with
 | none=>rfl
 | some o=>
  rw[e l o q] at h
  cases h
theorem pH.seq {K:PySem.W.Frag}{H H':Hp}{a:Addr}{xs:List V}(e:pH H H') (h:lB K H a xs):lB K H' a xs:=by
 rcases h with(h | ⟨o,h⟩) | h
 ·exact .inl (.inl (e _ _ h))
 ·exact .inl (.inr ⟨o,e _ _ h⟩)
 ·exact .inr h
section
variable {κ:Type} [DecidableEq κ]
end
end L2
end
section
set_option Elab.async false
set_option linter.all false
set_option maxRecDepth 100000
namespace L2
open PySem PySem.Spec PyProof.Rows
theorem lA.Gw {P:Program}{w:World}{H:Hp}{h:Heap}{a:Addr}{o:HO}(x:lA P w H h) (hn:H a=none) (new:dU P w (upd H a o) h a o):lA P w (upd H a o) h:=fun b u e=>by
 by_cases hb:b=a
 ·subst hb;rw[aY] at e;cases e;exact new
 ·rw[aR hb] at e
  exact(x b u e).stay (fun c v _ q=>q) (fun c q=>by rw[aR (bL q hn)];exact q) fun c xs q=>by rw[aR (bL q hn)];exact q
noncomputable def gj (X:Cx) (N':List Str) (scope:Scope) (cl:List (Str×Addr)) (C:Addr) (s:Shared) (H:Hp) (fp:List Addr):Cx:=
 {X with N:=N',s₀:=s,H₀:=H,env:=compEnvC scope cl C X.env,outer:=X.stack,stack:=X.stack,ex:=fp,fn:=fun _=>false,pn:=[],xe:=fun _ _=>False}
noncomputable def dX (cap:List Nat) (σ:St):St:=cap.map fun i=>(σ[i]?).join
structure iC (X:Cx) (x:Str) (cj:List Str) (cap:List Nat) (scope:Scope) (cl:List (Str×Addr)):Prop where
 clos:closureFor scope X.env=pure cl
 lK:∀y∈scope.names,y.2≠.cell
 kind:scope.kind= .function
 names:∀y∈scope.names,y.2= .local→scope.names.lookup y.1=some .local
 loc:scope.names.lookup x=some .local
 cells:∀n c,cl.lookup n=some c→X.env.cells.lookup n=some c
 has:∀n,((relabel scope X.env).names.lookup n=some .cell∨(relabel scope X.env).names.lookup n=some .free)→∃c,cl.lookup n=some c
 nd:(x :: cj).Nodup
 len:cap.length=cj.length
 slot:∀(j:Nat) n,cj[j]? =some n→∃i:Nat,cap[j]? =some i∧X.N[i]? =some n∧A7 X.env.scope n
 vis:∀n,n∈cj→((relabel scope X.env).names.lookup n=some .cell∨(relabel scope X.env).names.lookup n=some .free)∧(∃c,cl.lookup n=some c)∧X.env.scope.names.lookup n≠some .local
noncomputable def IB (wi:TI) (cap:List Nat) (tc:TT) (te:TE):TE:=fun σ H Q=>wi σ H fun J H1=>∃W:Nat→Nat→List V→Hp→Prop,(∃m,W 0 m [] H1)∧∀i m ys H,W i m ys H→ys.length < sizeLine∧
  ((J.stop i H∧∀p,H p=none→Q (.ref p) (upd H p (.lst ys)))∨
   (J.go i H∧∀x H',J.Iu i H x H'→tc (some x :: dX cap σ) H' fun b H2=>if b=true then te (some x :: dX cap σ) H2 fun y H3=>∃m',m' < m∧W (i+1) m' (ys++[y]) H3 else ∃m',m' < m∧W (i+1) m' ys H2))
noncomputable def Kq:TT:=fun _ H Q=>Q true H
noncomputable def ER (X:Cx) (ifs:List Expr) (tc:TT):Prop:=
 ∀(pins:List (Addr×Obj)) (s:Shared) (σ:St) (H:Hp) (Q:Bool→Hp→Prop),Inv X pins σ H s→tc σ H Q→
  wpAny (model X.prog X.w) X.A (forIn ifs true fun c r=>if r=true then do let ok ←isTrue c X.env (eval c X.env);pure (ForInStep.yield ok) else pure (ForInStep.yield r)) (TP X pins σ Q) X.xe s
theorem BG {X:Cx}:ER X [] Kq:=fun pins s σ H Q I h=>wpAny_tests_nil ⟨H,I,h⟩
theorem DO (ys:List Value) (y:Value):({cls:=.type "list",data:=.seq (ys.toArray.push y) (ys.length+1)}:Obj)={cls:=.type "list",data:=.seq (ys++[y]).toArray (ys++[y]).length}:=by
 rw[List.length_append,List.length_singleton,List.push_toArray]
theorem zS {X : Cx} {pins : List (Addr × Obj)} {σ : St} {H : Hp} {s s4 : Shared} {x : Str} {cj : List Str} {cap : List Nat} {scope : Scope} {cl : List (Str × Addr)} {C : Addr} {fp : List Addr} {m' : Str → Option Value}
    (I:Inv X pins σ H s) (T:iC X x cj cap scope cl) (hfp:∀b∈fp,pF X pins H b) (hfo:∀b∈fp,∃o,s.heap.get? b=some o)
    (hC:s.heap.objs.size≤C) (hns:s4.heap.Ns C m') (hos:s4.os=s.os) (hg:s4.gens=s.gens)
    (kept:∀b o,s.heap.get? b=some o→s4.heap.get? b=some o):
    Inv (gj X (x :: cj) scope cl C s H fp) [] (none :: dX cap σ) H s4:=by
  have fr:∀b,s.heap.objs.size≤b→H b=none:=fun b hb=>I.hok.fresh hb
  refine⟨⟨I.ok.mod,T.kind,I.ok.glob,I.ok.blt,hC,fun y z c h1 h2=>I.ok.inj y z c (T.cells _ _ h1) (T.cells _ _ h2),fun y hy=>T.has y hy,fun y c h=>(by cases h),I.ok.hd,I.ok.frames,.inl rfl,fun b hb=>⟨?_,fun y c e z=>?_⟩,I.bs,Nat.le_trans I.ok.Be I.sz,fun b o e hb=>?_,fun b hb z=>?_,I.stack,I.wg⟩,
    hos,by rw[hg];exact I.bare,Un.kept kept,⟨m',hns,fun i y v h1 h2 h3=>?_⟩,fun y c h=>?_,fr C hC,fun y c h=>I.jZ y c (T.cells _ _ h),fun p hp=>?_,I.hok.kept kept,?_⟩
  · obtain⟨o,e⟩:=hfo b hb
    exact Nat.ne_of_lt (Nat.lt_of_lt_of_le (Heap.lt_size e) hC)
  · exact(hfp b hb).2.2.2.2.1 y c (T.cells _ _ e) z
  · rcases(hfp b hb).2.2.2.1 with z | z
    · exact I.ok.zh b o e z
    · exact absurd (Nat.lt_of_lt_of_le (Heap.lt_size e) (Nat.le_trans I.ok.Be z)) (Nat.lt_irrefl _)
  · rcases List.mem_cons.mp (I.rR b z) with q | q
    · exact(hfp b hb).2.1 q
    · exact(hfp b hb).2.2.1 q
  · cases i with
    | zero=>cases h2
    | succ j=>
      have h1:cj[j]? =some y:=by simpa[gj] using h1
      have h2:(dX cap σ)[j]? =some (some v):=by simpa using h2
      obtain⟨i,e1,e2,e3⟩:=T.slot j y h1
      have e4:σ[i]? =some (some v):=by
        unfold dX at h2
        rw[List.getElem?_map,e1] at h2
        have h2:some ((σ[i]?).join)=some (some v):=h2
        have h2:=Option.some.inj h2
        cases q:σ[i]? with
        | none=>rw[q] at h2;cases h2
        | some o=>rw[q] at h2;cases h2;rfl
      obtain⟨m,hn,hl⟩:=I.loc
      obtain⟨u,r,l⟩:=hl i y v e2 e4 e3
      obtain⟨k1,⟨c,hc⟩,k3⟩:=T.vis y (List.mem_of_getElem? h1)
      refine⟨u,r,.inr ⟨k1,c,hc,?_⟩⟩
      rcases l with⟨hk,_⟩ | ⟨hk,c',hc',z⟩
      · exact absurd hk k3
      · rw[T.cells _ _ hc] at hc'
        cases hc'
        obtain⟨o,ho,hd⟩:=z
        exact⟨o,kept _ _ ho,hd⟩
  · obtain⟨v,o,ho,hd⟩:=I.cell y c (T.cells _ _ h)
    exact⟨v,o,kept _ _ ho,hd⟩
  · exact absurd (show p∈([]:List (Addr×Obj)) from hp) (by simp)
  · show(none :: dX cap σ).length=(x :: cj).length
    simp[dX,T.len]
end L2
end
section
set_option Elab.async false
set_option linter.all false
set_option maxRecDepth 100000
namespace L2
open PySem PySem.Spec PyProof.Rows
theorem zT {α:Type}{M:Model}{A:Around}{E E':Value→Shared→Prop}{s:Shared}{t:Sem α}{Q:Unit→Shared→Prop}{Q':α→Shared→Prop}(h:wpAny M A (pure ():Sem Unit) Q E s) (k:Q () s→wpAny M A t Q' E' s):wpAny M A t Q' E' s:=
 fun Γ p hΓ=>k (h Γ p hΓ) Γ p hΓ
theorem pI {X:Cx}{elt iter:Expr}{ifs:List Expr}{x:Str}{px pos:Pos}{scope:Scope}{cl:List (Str×Addr)}{cj:List Str}{cap:List Nat}{wi:TI}{tc:TT}{te:TE}{pins:List (Addr×Obj)}{s:Shared}{σ:St}{H:Hp}{Q:VK}{use:Option (Value→Sem Unit)}{Qf:Value→Shared→Prop}{pos2:Pos}
    (T:iC X x cj cap scope cl) (hc:X.calm=true) (hi:PI X (.Name x px) iter wi)
    (ht:∀C s H fp,ER (gj X (x :: cj) scope cl C s H fp) ifs tc) (he:∀C s H fp,PE (gj X (x :: cj) scope cl C s H fp) elt te)
    (hs:∀x,foldedSetIterable iter X.env x=pure x) (I:Inv X pins σ H s) (h:IB wi cap tc te σ H Q)
    (hend:∀(D C:Addr) (s7:Shared) (H6:Hp) (ys:List V),Inv X pins σ (upd H6 D (.lst ys)) s7→(∃m,s7.heap.Ns C m)→pF X pins (upd H6 D (.lst ys)) C→Q (.ref D) (upd H6 D (.lst ys))→compPost (model X.prog X.w) X.A X.xe use Qf (.ref D) C (.ok .next) s7):
    wpAny (model X.prog X.w) X.A (comprehension (.ListComp elt [⟨.Name x px,iter,ifs,0⟩] scope pos) scope X.env pos2 (newList []) false (eval iter X.env) use) Qf X.xe s:=by
  refine wpAny_comprehension_free (use:=use) rfl hs T.clos T.kind T.names (fG (hi pins s σ H _ I h) fun v s1 h1=>fG h1 fun itv s2 h2=>?_)
  obtain⟨it,fp,tn,J,H2,rfl,I2,A8,st2,f2,W,⟨m0,w0⟩,turn⟩:=h2
  refine wpAny_newObj_type (wpAny_newFunctionEnv T.lK (by intro y hy;simp at hy) (fun h4 BH zU=>?_) T.kind)
  dsimp only at BH zU ⊢
  generalize Kr:s2.heap.push {cls:=.type "list",dict:=none,data:=.seq ([]:List Value).toArray}=H3 at BH zU ⊢
  have eC:H3.objs.size=s2.heap.objs.size+1:=by rw[←Kr,Heap.size_push]
  generalize S5:H3.objs.size=C at eC BH zU ⊢
  generalize eD:s2.heap.objs.size=D at eC ⊢
  have Gx:C=D+1:=eC
  have hDC:D≠C:=by rw[Gx];exact Nat.ne_of_lt (Nat.lt_succ_self D)
  have hC:s2.heap.objs.size≤C:=by rw[eD,Gx];exact Nat.le_succ D
  have hD:s2.heap.objs.size≤D:=by rw[eD];exact Nat.le_refl D
  have kept:∀b o,s2.heap.get? b=some o→h4.get? b=some o:=fun b o e=>zU.extBut b o (Nat.ne_of_lt (Nat.lt_of_lt_of_le (Heap.lt_size e) hC)) (Heap.get?_push_of_some _ (Kr▸Heap.get?_push_of_some _ e))
  have hacc:h4.get? D=some {cls:=.type "list",data:=.seq ([]:List Value).toArray ([]:List Value).length}:=zU.extBut _ _ hDC (Heap.get?_push_of_some _ (Kr▸eD▸Heap.get?_push_size _ rfl))
  have OO:∀b∈fp,∃o,s2.heap.get? b=some o:=fun b hb=>let⟨o,e,_⟩:=A8.obj _ _ st2 b hb;⟨o,e⟩
  have hDf:D∉fp:=fun hb=>by
    obtain⟨o,e⟩:=OO D hb
    exact absurd (Nat.lt_of_lt_of_le (Heap.lt_size e) hD) (Nat.lt_irrefl _)
  have Gy:tn 0 h4:=A8.keep _ _ _ st2 fun b _ o e=>kept b o e
  have key : ∀ s5 : Shared, s5 = { s2 with heap := h4, toks := s2.toks + ([] : List (Str × Value)).length } →
      codeAny (model X.prog X.w) X.A (.compLoop (.ListComp elt [⟨.Name x px,iter,ifs,0⟩] scope pos) 0 (.ref it) (.ref D) (compEnvC scope cl C X.env)) (compPost (model X.prog X.w) X.A X.xe use Qf (.ref D) C) s5:=by
    rintro s5 rfl
    have I4:Inv (gj X (x :: cj) scope cl C s2 H2 fp) [] (none :: dX cap σ) H2 {s2 with heap:=h4,toks:=s2.toks+([]:List (Str×Value)).length}:=
      zS (s4:={s2 with heap:=h4,toks:=s2.toks+([]:List (Str×Value)).length}) I2 T f2 OO hC BH rfl rfl kept
    generalize hY:gj X (x :: cj) scope cl C s2 H2 fp=Y at I4
    have fD:∀{H':Hp},H' D=none→pF Y [] H' D:=fun {H'} hn=>by
      subst hY
      refine⟨hn,hDC,fun z=>(List.mem_cons.mp (I2.rR D z)).elim (fun q=>absurd (Nat.lt_of_lt_of_le (q▸I2.lt) hD) (Nat.lt_irrefl _)) fun q=>I2.Ft hD q,.inr hD,fun y c e z=>?_,fun p hp=>absurd (show p∈([]:List (Addr×Obj)) from hp) (by simp)⟩
      obtain⟨v,q⟩:=I2.cell y c (T.cells _ _ e)
      exact absurd (Nat.lt_of_lt_of_le q.lt (by rw[z];exact hD)) (Nat.lt_irrefl _)
    have fF:∀{H':Hp},(∀b∈fp,H' b=none)→∀b∈fp,pF Y [] H' b:=fun {H'} hn b hb=>by
      have q:=I4.ok.JP b (by subst hY;exact hb)
      exact⟨hn b hb,fun z=>q.1 z,I4.ok.zj b (by subst hY;exact hb),.inl (by subst hY;exact hb),fun y c e z=>q.2 y c e z,fun p hp=>absurd (show p∈([]:List (Addr×Obj)) from(by subst hY;exact hp)) (by simp)⟩
    have eA:Y.A=X.A:=by subst hY;rfl
    have eP:Y.prog=X.prog:=by subst hY;rfl
    have eW:Y.w=X.w:=by subst hY;rfl
    have eK:Y.K=X.K:=by subst hY;rfl
    have eE:Y.env=compEnvC scope cl C X.env:=by subst hY;rfl
    have eX:Y.xe=fun _ _=>False:=by subst hY;rfl
    have eN:Y.N=x :: cj:=by subst hY;rfl
    have Ks:Y.calm=true:=by subst hY;exact hc
    have P8:ER Y ifs tc:=by subst hY;exact ht _ _ _ _
    have P9:PE Y elt te:=by subst hY;exact he _ _ _ _
    have Qa:PG Y (.Name x px) (qP 0):=wm (by rw[eN];exact T.nd) (by rw[eN];rfl) (by rw[eE];exact .inl (lookup_relabel_local T.loc)) (.inr (by rw[eE];exact lookup_relabel_local T.loc))
    have vI:∀(E':Value→Shared→Prop) (e:Value) (s':Shared),Y.xe e s'→E' e s':=fun E' e s' z=>by rw[eX] at z;exact z.elim
    refine codeAny_compLoop_tests (fun n s'=>∃i ys us H' o,Inv Y [] (o :: dX cap σ) H' s'∧tn i s'.heap∧(∀b∈fp,H' b=none)∧H' D=none∧s'.heap.get? D=some {cls:=.type "list",data:=.seq us.toArray us.length}∧Vals ys us∧W i n ys H') ?_ m0
      ⟨0,[],[],H2,none,I4,Gy,fun b hb=>(f2 b hb).1,I2.hok.fresh hD,hacc,.nil,w0⟩
    rintro n s6 ⟨i,ys,us,H6,o6,I6,Ku,Kv,d6,a6,v6,w6⟩
    have Qc:us.length=ys.length:=v6.length.symm
    obtain⟨hz,Gz⟩:=turn i n ys H6 w6
    rcases Gz with⟨stop,qn⟩ | ⟨go,step⟩
    · have q := A8.done Y eP eW eK Ks i [] s6 (o6 :: dX cap σ) H6 (notedBy (model X.prog X.w) X.A (compEnvC scope cl C X.env) fun e s' => compPost (model X.prog X.w) X.A X.xe use Qf (.ref D) C (.error e) s') I6 (fF Kv) Ku stop
      rw[eA] at q
      have Kw:=I6.pinned (fp:=[D]) (fun b hb=>by rw[List.mem_singleton.mp hb];exact fD d6) (fun b hb=>by rw[List.mem_singleton.mp hb];exact⟨_,a6,fun v z=>by cases z⟩)
      have q:=A8.done Y eP eW eK Ks i _ s6 (o6 :: dX cap σ) H6 (notedBy (model X.prog X.w) X.A (compEnvC scope cl C X.env) fun e s'=>compPost (model X.prog X.w) X.A X.xe use Qf (.ref D) C (.error e) s') Kw (fun b hb=>?_) Ku stop
      · rw [eA] at q
        refine fG q fun r s7 ⟨hr,I7⟩=>?_
        subst hr
        have a7:s7.heap.get? D=_:=(I7.pin (D,{cls:=.type "list",data:=.seq us.toArray us.length}) (List.mem_append_right _ (List.mem_append_right _ (fP (List.mem_singleton.mpr rfl) a6)))).1
        obtain⟨m7,ES,_⟩:=I7.loc
        rw[eE] at ES
        have GC:H6 D=none:=d6
        have Qd:H6 C=none:=by have:=I7.free;rw[eE] at this;exact this
        have Ky:lA X.prog X.w H6 s7.heap:=by have q:=I7.hok;rw[eP,eW] at q;exact q
        have new:dU X.prog X.w (upd H6 D (.lst ys)) s7.heap D (.lst ys):=⟨Nat.le_of_lt hz,us,us.length,v6,a7⟩
        have u7:Un (frs X.stack) fp H2 H6 s2.heap s7.heap:=by have:=I7.base;subst hY;exact this
        have Qe:∀b o,s2.heap.get? b=some o→b≠D:=fun b o e=>Nat.ne_of_lt (Nat.lt_of_lt_of_le (Heap.lt_size e) hD)
        have u8:Un (frs X.stack) fp H2 (upd H6 D (.lst ys)) s2.heap s7.heap:=
          ⟨u7.keep,u7.slot,fun b o e n hx=>by rw[aR (Qe b o e)];exact u7.free b o e n hx,u7.there,
           fun b xs e=>by have z:=u7.tups b xs e;rw[aR (bL z GC)];exact z,fun b o u e=>by have z:=u7.mj b o u e;rw[aR (bL z GC)];exact z,
           fun b ps e=>by obtain⟨more,z⟩:=u7.m9 b ps e;exact⟨more,by rw[aR (bL z GC)];exact z⟩⟩
        have Qg:s7.os=s2.os:=by have:=I7.os;subst hY;exact this
        have I9:Inv X pins σ (upd H6 D (.lst ys)) s7:=I2.Fx (ch:=fp) Qg u8 (Ky.Gw GC new) I7.bare fun b hb=>⟨(f2 b hb).2.2.2.1,(f2 b hb).2.1,(f2 b hb).2.2.2.2.1,(f2 b hb).2.2.2.2.2⟩
        exact hend D C s7 H6 ys I9 ⟨m7,ES⟩ (I2.zu hC (by rw[aR (Ne.symm hDC)];exact Qd)) (qn D GC)
      · obtain⟨f0,f1,Kz,f3,f4,f5⟩:=fF Kv b hb
        refine⟨f0,f1,Kz,f3,f4,fun p hp z=>?_⟩
        rcases List.mem_append.mp hp with q' | q'
        · exact f5 p (List.mem_append_left _ q') z
        · rcases List.mem_append.mp q' with q' | q'
          · exact absurd q' (by simp)
          · have:=(ng q').1
            rw[List.mem_singleton.mp this] at z
            exact hDf (z▸hb)
    · have Kw:=I6.pinned (fp:=[D]) (fun b hb=>by rw[List.mem_singleton.mp hb];exact fD d6) (fun b hb=>by rw[List.mem_singleton.mp hb];exact⟨_,a6,fun v z=>by cases z⟩)
      have OP:∀{H':Hp},(∀b∈fp,H' b=none)→∀b∈fp,pF Y ([]++lJ [D] s6.heap) H' b:=fun {H'} hn b hb=>by
        obtain⟨f0,f1,Kz,f3,f4,f5⟩:=fF hn b hb
        refine⟨f0,f1,Kz,f3,f4,fun p hp z=>?_⟩
        rcases List.mem_append.mp hp with q' | q'
        · exact f5 p (List.mem_append_left _ q') z
        · rcases List.mem_append.mp q' with q' | q'
          · exact absurd q' (by simp)
          · have:=(ng q').1
            rw[List.mem_singleton.mp this] at z
            exact hDf (z▸hb)
      have q:=A8.item Y eP eW eK Ks i _ s6 (o6 :: dX cap σ) H6 (notedBy (model X.prog X.w) X.A (compEnvC scope cl C X.env) fun e s'=>compPost (model X.prog X.w) X.A X.xe use Qf (.ref D) C (.error e) s') Kw (OP Kv) Ku go
      rw[eA] at q
      refine fG q fun r s7 ⟨u,hr,h7⟩=>?_
      subst hr
      refine zT h7 fun⟨xv,H8,I8,r8,y8,KA,Qh⟩=>?_
      have Qi:=I8.pinned (OP Qh) (A8.obj _ _ KA)
      have qa:=Qa _ s7 (o6 :: dX cap σ) H8 xv u _ Qi r8 (show qP 0 xv (o6 :: dX cap σ) H8 (fun σ' H'=>σ'=some xv :: dX cap σ∧H'=H8) from⟨rfl,rfl⟩)
      rw[eP,eW,eA,eE] at qa
      refine wpAny_mono qa (fun _ s9 h9=>?_) (vI _)
      obtain⟨S6,H9,I9,e9,Qj⟩:=h9
      subst e9 Qj
      have qt:=P8 _ s9 _ _ _ I9 (step xv _ y8)
      rw[eP,eW,eA,eE] at qt
      refine wpAny_mono qt (fun ok Qk h10=>?_) (vI _)
      obtain⟨Ql,OQ,IC⟩:=h10
      have back:∀{s':Shared}{H':Hp},Inv Y (([]++lJ [D] s6.heap)++lJ fp s7.heap) (some xv :: dX cap σ) H' s'→Inv Y [] (some xv :: dX cap σ) H' s'∧tn (i+1) s'.heap∧(∀b∈fp,H' b=none)∧H' D=none∧s'.heap.get? D=some {cls:=.type "list",data:=.seq us.toArray us.length}:=fun {s' H'} J=>by
        refine⟨J.j0.j0,A8.keep _ _ _ KA fun b hb o e=>(J.pin (b,o) (List.mem_append_right _ (List.mem_append_right _ (fP hb e)))).1,fun b hb=>?_,?_,?_⟩
        · obtain⟨o,e,d⟩:=A8.obj _ _ KA b hb
          exact(J.pin (b,o) (List.mem_append_right _ (List.mem_append_right _ (fP hb e)))).2.1
        · exact(J.pin (D,_) (List.mem_append_right _ (List.mem_append_left _ (List.mem_append_right _ (fP (List.mem_singleton.mpr rfl) a6))))).2.1
        · exact(J.pin (D,_) (List.mem_append_right _ (List.mem_append_left _ (List.mem_append_right _ (fP (List.mem_singleton.mpr rfl) a6))))).1
      cases ok with
      | false=>
        rw[if_neg (by decide)] at IC ⊢
        obtain⟨m',hm,Qm⟩:=IC
        obtain⟨b1,b2,b3,b4,b5⟩:=back OQ
        exact⟨m',hm,i+1,ys,us,Ql,some xv,b1,b2,b3,b4,b5,v6,Qm⟩
      | true=>
        rw[if_pos rfl] at IC ⊢
        have qe:=P9 _ Qk _ _ _ OQ IC
        rw[eP,eW,eA,eE] at qe
        refine wpAny_mono qe (fun y KC h11=>?_) (vI _)
        obtain⟨yv,OR,Qn,Qo,m',hm,Qp⟩:=h11
        obtain⟨b1,b2,b3,b4,b5⟩:=back Qn
        refine append_at (hsz:=by rw[List.size_toArray,Qc];exact Nat.le_of_lt hz) b5 fun h12 KD KG=>?_
        have DP:∀b o,b≠D→KC.heap.get? b=some o→h12.get? b=some o:=fun b o hb e=>KD.extBut b o hb e
        obtain⟨g0,g1,g2,g3,g4,g5⟩:=fD b4
        have Qq:Inv Y [] (some xv :: dX cap σ) OR {KC with heap:=h12}:=b1.turned (t':=KC.toks) DP g0 g1 g3 g4 g5
        refine⟨m',hm,i+1,ys++[yv],us++[y],OR,some xv,Qq,A8.keep _ _ _ b2 fun b hb o e=>DP b o (fun z=>hDf (z▸hb)) e,b3,b4,KG.trans (congrArg some (DO us y)),v6.append (.cons Qo .nil),Qp⟩
  exact codeAny_compStart_list (key _ rfl) (A8.self _ 0 _ _ _ Gy (key _ rfl))
theorem zV {X:Cx}{elt iter:Expr}{ifs:List Expr}{x:Str}{px pos:Pos}{scope:Scope}{cl:List (Str×Addr)}{cj:List Str}{cap:List Nat}{wi:TI}{tc:TT}{te:TE}
  (T:iC X x cj cap scope cl) (hc:X.calm=true) (hi:PI X (.Name x px) iter wi)
  (ht:∀C s H fp,ER (gj X (x :: cj) scope cl C s H fp) ifs tc) (he:∀C s H fp,PE (gj X (x :: cj) scope cl C s H fp) elt te)
  (hs:∀x,foldedSetIterable iter X.env x=pure x:=by intro _;rfl):
  PE X (.ListComp elt [⟨.Name x px,iter,ifs,0⟩] scope pos) (IB wi cap tc te):=by
 intro pins s σ H Q I h
 rw[eval_ListComp]
 refine pI T hc hi ht he hs I h ?_
 rintro p C s7 H6 ys I9 ⟨m7,ES⟩ ⟨g0,g1,g2,g3,g4,g5⟩ q
 exact⟨m7,ES,fun h' hs'=>⟨.ref p,_,I9.turned (t':=s7.toks) (fun b o hb e=>hs'.extBut b o hb e) g0 g1 g3 g4 g5,rfl,q⟩⟩
theorem zW {X:Cx}{elt iter:Expr}{ifs:List Expr}{x:Str}{px pos:Pos}{scope:Scope}{cl:List (Str×Addr)}{cj:List Str}{cap:List Nat}{wi:TI}{tc:TT}{te:TE}{i:Nat}{y:Str}{py spos:Pos}
  (T:iC X x cj cap scope cl) (hc:X.calm=true) (hi:PI X (.Name x px) iter wi)
  (ht:∀C s H fp,ER (gj X (x :: cj) scope cl C s H fp) ifs tc) (he:∀C s H fp,PE (gj X (x :: cj) scope cl C s H fp) elt te)
  (hs:∀x,foldedSetIterable iter X.env x=pure x) (hN:X.N.Nodup) (hy:X.N[i]? =some y) (hx:Loc X.env.scope y)
  (hsw:swapsWith (.ListComp elt [⟨.Name x px,iter,ifs,0⟩] scope pos) (some (.Name y py)) spos.line X.env=pure true) (hf:X.fn y=true∨X.env.scope.names.lookup y=some .local):
  PS X (.Assign [.Name y py] (.ListComp elt [⟨.Name x px,iter,ifs,0⟩] scope pos) spos) (Bp (IB wi cap tc te) (qP i)):=by
 intro pins s σ H D I h
 rw[exec_Assign_Name_used _ _ _ _ hsw]
 refine wpAny_bind (wpAny_standAt (wpAny_bind ?_))
 show wpAny _ X.A (do let _ ←comprehension (.ListComp elt [⟨.Name x px,iter,ifs,0⟩] scope pos) scope X.env _ (newList []) false (eval iter X.env) (some (assign (.Name y py) X.env))) _ _ s
 refine wpAny_bind (wpAny_mono (pI (Qf:=fun _ s'=>SP X pins D .next s') T hc hi ht he hs I h ?_) (fun _ s' hq=>wpAny_pure (wpAny_pure hq)) fun _ _ e=>e)
 rintro p C s7 H6 ys I9 ⟨m7,ES⟩ ⟨g0,g1,g2,g3,g4,g5⟩ q
 refine wpAny_assign_Name (qN I9 hN hy hx (v:=.ref p) (show RelV (.ref p) (.ref p) from rfl) (fun s8 I8 ⟨a,hsb,ha⟩=>?_) hf)
 have hne:C≠a:=ha.elim (fun z=>by rw[z];exact g1) fun z=>Ne.symm (g4 _ _ z)
 refine⟨m7,ES.sameBut hsb hne,fun h' hs'=>?_⟩
 exact⟨_,_,I8.turned (t':=s8.toks) (fun b o hb e=>hs'.extBut b o hb e) g0 g1 g3 g4 g5,q⟩
end L2
end
section
set_option Elab.async false
set_option linter.all false
set_option maxRecDepth 100000
namespace L2
open PySem PySem.Spec PyProof.Rows
noncomputable def KH (z:Str):It:=⟨fun i _=>i < z.cps.size,fun i H x H'=>H'=H∧∃c,z.cps[i]? =some c∧x= .str ⟨#[c]⟩,fun i _=>z.cps.size≤i⟩
theorem zX {P:Program}{w:World}{K:PySem.W.Frag}{x:Str}{px:Pos}(z:Str) (it:Addr) (t:Tok) (ty:String) (hW:∀A':Around,A'.handled=none→Walks P w A' it [it] [it] z.cps.size (SignAt z) fun i h=>h.IsStrIter it ty z t i)
  (hself:∀(A:Around) (i:Nat) (s:Shared) (Q:Value→Shared→Prop) (E:Value→Shared→Prop),s.heap.IsStrIter it ty z t i→Q (.ref it) s→wpAny (model P w) A (pyIter (.ref it)) Q E s):
  Turn P w K (.Name x px) (KH z) [it] it (fun i h=>i≤z.cps.size∧h.IsStrIter it ty z t i) where
 mem:=by simp
 obj:=fun i h st b hb=>by
  obtain rfl:b=it:=by simpa using hb
  obtain⟨o,e,c,d⟩:=st.2
  exact⟨o,e,fun v q=>by rw[d] at q;cases q⟩
 keep:=fun i h h' st k=>by
  obtain⟨o,e,r⟩:=st.2
  exact⟨st.1,o,k it (by simp) o e,r⟩
 item:=by
  intro X hP hw hK hc i pins s σ H E I hf st hg
  subst hP hw hK
  obtain⟨f0,f1,f2,f3,f4,f5⟩:=hf it (by simp)
  refine(hW X.A (I.ok.hd hc)).item i s _ _ hg st.2 fun v h' tk hv st' kk=>?_
  obtain⟨c,u,hc',rfl⟩:=hv
  exact⟨_,rfl,wpAny_pure ⟨.str ⟨#[c]⟩,H,I.turned (fun b o hb e=>kk b o (by simpa using hb) e) f0 f1 f3 f4 f5,⟨u,rfl⟩,⟨rfl,c,hc',rfl⟩,⟨hg,st'⟩,fun b hb=>(hf b hb).1⟩⟩
 done:=by
  intro X hP hw hK hc i pins s σ H E I hf st hg
  subst hP hw hK
  obtain⟨f0,f1,f2,f3,f4,f5⟩:=hf it (by simp)
  obtain⟨s1,s2⟩:=st
  have e:i=z.cps.size:=Nat.le_antisymm s1 hg
  subst e
  exact(hW X.A (I.ok.hd hc)).done s _ _ s2 fun h' tk kk=>⟨rfl,I.turned (fun b o hb e=>kk b o (by simpa using hb) e) f0 f1 f3 f4 f5⟩
 self:=fun A i s Q E st h=>hself A i s Q E st.2 h
noncomputable def KI (tl:TE):TI:=fun σ H R=>tl σ H fun x H1=>∃z,x= .str z∧R (KH z) H1
theorem DQ {X:Cx}{x:Str}{px:Pos}{l:Expr}{tl:TE}(hl:PE X l tl):PI X (.Name x px) l (KI tl):=by
 intro pins s σ H R I h
 refine fG (hl pins s σ H _ I h) fun v s1 ⟨y,H1,I1,r1,q1⟩=>?_
 obtain⟨z,rfl,q⟩:=q1
 obtain⟨t,rfl⟩:=r1
 refine wpAny_pyIter_strU ?_
 have hst:∀ty,strIterType z=ty→(s1.heap.push {cls:=.type (strIterType z),data:=.fields #[.str z t,.int 0 0]}).IsStrIter s1.heap.objs.size ty z t 0:=fun ty e=>⟨_,Heap.get?_push_size _ rfl,by rw[←e],rfl⟩
 have go:∀ty,strIterType z=ty→(∀A':Around,A'.handled=none→Walks X.prog X.w A' s1.heap.objs.size [s1.heap.objs.size] [s1.heap.objs.size] z.cps.size (SignAt z) fun i h=>h.IsStrIter s1.heap.objs.size ty z t i)→
   (∀(A:Around) (i:Nat) (s:Shared) (Q:Value→Shared→Prop) (E:Value→Shared→Prop),s.heap.IsStrIter s1.heap.objs.size ty z t i→Q (.ref s1.heap.objs.size) s→wpAny (model X.prog X.w) A (pyIter (.ref s1.heap.objs.size)) Q E s)→
   J5 X pins σ (.Name x px) R (.ref s1.heap.objs.size) {s1 with heap:=s1.heap.push {cls:=.type (strIterType z),data:=.fields #[.str z t,.int 0 0]}}:=fun ty e hW hself=>by
  refine⟨s1.heap.objs.size,[s1.heap.objs.size],_,_,H1,rfl,I1.kept (t':=s1.toks) fun b o e=>Heap.get?_push_of_some _ e,zX z _ t ty hW hself,⟨Nat.zero_le _,hst ty e⟩,fun b hb=>?_,q⟩
  obtain rfl:b=s1.heap.objs.size:=by simpa using hb
  exact I1.zu (Nat.le_refl _) (I1.hok.fresh (Nat.le_refl _))
 cases ha:z.cps.all (· < 128)
 ·exact go "str_iterator" (by simp[strIterType,ha]) (fun A' hA=>Walks.strWide hA _ z t) fun A i s Q E st h=>wpAny_pyIter_striter_wide st h
 ·exact go "str_ascii_iterator" (by simp[strIterType,ha]) (fun A' hA=>Walks.strAscii hA _ z t) fun A i s Q E st h=>wpAny_pyIter_striter_ascii st h
theorem zY {bs:List Bool}:∀{us:List Value},Vals (bs.map V.bl) us→us=bs.map Value.bool:=by
 induction bs with
 | nil=>intro us r;cases r;rfl
 | cons b bs ih=>
  intro us r
  cases r with
  | cons r1 r2=>
   cases r1
   rw[ih r2]
   rfl
theorem vJ (bs:List Bool):((List.range bs.length).all fun i=>(bs[i]?).getD true)=bs.all id:=by
 rw[Bool.eq_iff_iff,List.all_eq_true,List.all_eq_true]
 constructor
 ·intro h b hb
  obtain⟨i,hi,rfl⟩:=List.mem_iff_getElem.mp hb
  have:=h i (List.mem_range.mpr hi)
  simpa[hi] using this
 ·intro h i hi
  have hi:=List.mem_range.mp hi
  simp only[List.getElem?_eq_getElem hi,Option.getD_some]
  exact h _ (List.getElem_mem hi)
theorem xQ {X:Cx}(hc:X.calm=true):dW X (.builtin "all") (fun xs H Q=>∃(p:Addr) (bs:List Bool),xs=[.ref p]∧lB X.K H p (bs.map V.bl)∧Q (.bl (bs.all id)) H):=by
 intro pins s σ H xs us Q I r h
 obtain⟨p,bs,rfl,hp,q⟩:=h
 obtain⟨u,rfl,ru⟩:=vals1 r
 cases ru
 obtain⟨its,rv,pl,hz⟩:=I.list hp
 obtain rfl:=zY rv
 have hlt:p < s.heap.objs.size:=by obtain⟨_,e,_⟩:=pl.isList;exact Heap.lt_size e
 refine call_all_walk (wpAny_pyIter_list pl.isList ?_)
 refine⟨s.heap.objs.size,[s.heap.objs.size,p],[s.heap.objs.size],_,_,_,fun i=>(bs[i]?).getD true,rfl,Walks.list (A:=X.A.in1) (I.ok.hd hc) _ p (Nat.ne_of_lt hlt) _,
  ⟨⟨_,Heap.get?_push_size _ rfl,rfl,rfl⟩,pl.isList.push _⟩,fun i v s' Q' E' hP hQ=>?_,fun h' tk hk=>?_⟩
 ·have hP:(bs.map Value.bool)[i]? =some v:=by simpa using hP
  rw[List.getElem?_map] at hP
  cases e:bs[i]? with
  | none=>rw[e] at hP;cases hP
  | some b=>
   rw[e] at hP
   cases hP
   simp only[e,Option.getD_some] at hQ
   exact wpAny_truthy_bool hQ
 ·have e:((List.range (bs.map Value.bool).toArray.size).all fun i=>(bs[i]?).getD true)=bs.all id:=by
   rw[List.size_toArray,List.length_map];exact vJ bs
  rw[e]
  exact⟨.bl (bs.all id),H,I.kept (t':=tk) fun b o e=>hk b o (fun hm=>by rw[List.mem_singleton.mp hm] at e;exact Nat.lt_irrefl _ (Heap.lt_size e)) (Heap.get?_push_of_some _ e),rfl,q⟩
noncomputable def KJ:V→Option Int→Option Int→Hp→VK→Prop:=fun x lo hi H Q=>∃z,x= .str z∧z.length≤sizeLine∧((Txt.slice z lo hi).length≤z.length→Q (.str (Txt.slice z lo hi)) H)
theorem DR {X:Cx}:BB X KJ:=by
 intro pins s σ H x v vl vu lo hi sl Q I rx hs pl pu h
 obtain⟨z,rfl,hz,q⟩:=h
 obtain⟨t,rfl⟩:=rx
 have q:=q (Txt.slice_le z _ _)
 refine⟨"str",_,F.slot_str_getitem.lookup,typeIs_str _ _ _,?_⟩
 cases pl with
 | none=>
  cases pu with
  | none=>exact wpAny_getItem_str_slice (l:=none) (u:=none) (st:=none) hs rfl (post_val_or_str ⟨Nat.le_trans (Txt.slice_le z _ _) hz,fun t' k=>⟨V.str (Txt.slice z none none),H,I.tok k,⟨t',rfl⟩,q⟩⟩)
  | int j u=>exact wpAny_getItem_str_slice (l:=none) (u:=some (j,u)) (st:=none) hs rfl (post_val_or_str ⟨Nat.le_trans (Txt.slice_le z _ _) hz,fun t' k=>⟨V.str (Txt.slice z none (some j)),H,I.tok k,⟨t',rfl⟩,q⟩⟩)
 | int i u'=>
  cases pu with
  | none=>exact wpAny_getItem_str_slice (l:=some (i,u')) (u:=none) (st:=none) hs rfl (post_val_or_str ⟨Nat.le_trans (Txt.slice_le z _ _) hz,fun t' k=>⟨V.str (Txt.slice z (some i) none),H,I.tok k,⟨t',rfl⟩,q⟩⟩)
  | int j u=>exact wpAny_getItem_str_slice (l:=some (i,u')) (u:=some (j,u)) (st:=none) hs rfl (post_val_or_str ⟨Nat.le_trans (Txt.slice_le z _ _) hz,fun t' k=>⟨V.str (Txt.slice z (some i) (some j)),H,I.tok k,⟨t',rfl⟩,q⟩⟩)
end L2
end
section
set_option Elab.async false
set_option linter.all false
set_option maxRecDepth 100000
namespace L2
open PySem PySem.Spec PyProof.Rows
inductive D where
 | cg | bl (b:Bool) | int (i:Int) | str (z:Str) | tup (ds:List D) | lst (ds:List D)
mutual
inductive Rep (H:Hp):V→D→Prop
 | cg:Rep H .cg .cg
 | bl (b:Bool):Rep H (.bl b) (.bl b)
 | int (i:Int):Rep H (.int i) (.int i)
 | str (z:Str):Rep H (.str z) (.str z)
 | tup {a:Addr}{vs:List V}{ds:List D}(e:H a=some (.tup vs)) (r:aQ H vs ds):Rep H (.ref a) (.tup ds)
 | lst {a:Addr}{vs:List V}{ds:List D}(e:H a=some (.lst vs)) (r:aQ H vs ds):Rep H (.ref a) (.lst ds)
inductive aQ (H:Hp):List V→List D→Prop
 | nil:aQ H [] []
 | cons {v:V}{d:D}{vs:List V}{ds:List D}(r:Rep H v d) (rs:aQ H vs ds):aQ H (v :: vs) (d :: ds)
end
noncomputable def KL:HO→Bool
 | .lst _=>true
 | .tup _=>true
 | .ju _ _=>true
 | _=>false
noncomputable def qp (H H':Hp):Prop:=∀b o,KL o=true→H b=some o→H' b=some o
theorem qp.refl (H:Hp):qp H H:=fun _ _ _ h=>h
theorem qp.trans {H H1 H2:Hp}(x:qp H H1) (y:qp H1 H2):qp H H2:=fun b o s h=>y b o s (x b o s h)
theorem qp.seq {K:PySem.W.Frag}{H H':Hp}{a:Addr}{xs:List V}(e:qp H H') (h:lB K H a xs):lB K H' a xs:=by
 rcases h with(h | ⟨o,h⟩) | h
 ·exact .inl (.inl (e _ _ rfl h))
 ·exact .inl (.inr ⟨o,e _ _ rfl h⟩)
 ·exact .inr h
theorem qp.of {H H':Hp}(x:pH H H'):qp H H':=fun b o _ h=>x b o h
theorem aQ.length {H:Hp}:∀{vs:List V}{ds:List D},aQ H vs ds→vs.length=ds.length
 | _,_,.nil=>rfl
 | _,_,.cons _ rs=>congrArg Nat.succ (aQ.length rs)
theorem aQ.get {H:Hp}:∀{vs:List V}{ds:List D}{i:Nat}{d:D},aQ H vs ds→ds[i]? =some d→∃v,vs[i]? =some v∧Rep H v d
 | _,_,_,_,.nil,e=>by simp at e
 | _,_,0,_,.cons r _,e=>by simp at e;subst e;exact⟨_,rfl,r⟩
 | _,_,i+1,_,.cons _ rs,e=>by
  obtain⟨v,h1,h2⟩:=aQ.get (i:=i) rs (by simpa using e)
  exact⟨v,by simpa using h1,h2⟩
theorem aQ.append {H:Hp}:∀{vs ws:List V}{ds es:List D},aQ H vs ds→aQ H ws es→aQ H (vs++ws) (ds++es)
 | _,_,_,_,.nil,s=>s
 | _,_,_,_,.cons r rs,s=>.cons r (aQ.append rs s)
theorem aQ.take {H:Hp}:∀{vs:List V}{ds:List D}(n:Nat),aQ H vs ds→aQ H (vs.take n) (ds.take n)
 | _,_,0,_=>.nil
 | _,_,_+1,.nil=>.nil
 | _,_,n+1,.cons r rs=>.cons r (aQ.take n rs)
theorem aQ.drop {H:Hp}:∀{vs:List V}{ds:List D}(n:Nat),aQ H vs ds→aQ H (vs.drop n) (ds.drop n)
 | _,_,0,rs=>rs
 | _,_,_+1,.nil=>.nil
 | _,_,n+1,.cons _ rs=>aQ.drop n rs
noncomputable def CM:D→String
 | .cg=>"NoneType" | .bl _=>"bool" | .int _=>"int" | .str _=>"str" | .tup _=>"tuple" | .lst _=>"list"
open PySem.W in
noncomputable def fY (T U:String):Option Bool:=if(Value.type T == Value.type U)=true then some true else if kitMeta U=true then(fastBuiltinMro T).map (·.contains (Value.type U)) else none
theorem Rep.ty {K:PySem.W.Frag}{H:Hp}{v:V}{d:D}(r:Rep H v d):oY K H v (.type (CM d)):=by
 cases r with
 | cg=>exact .cg
 | bl b=>exact .bl b
 | int i=>exact .int i
 | str z=>exact .str z
 | tup e _=>exact .tup e
 | lst e _=>exact .lst e
noncomputable def dh:D→Bool
 | .tup _=>true
 | _=>false
noncomputable def zZ:D→Bool
 | .lst _=>true
 | _=>false
noncomputable def sf:D→Bool
 | .str _=>true
 | _=>false
noncomputable def qY:D→Bool
 | .bl _=>true
 | _=>false
noncomputable def sr:D→Bool
 | .int _=>true
 | .bl _=>true
 | _=>false
theorem BI {K:PySem.W.Frag}(d:D):PySem.W.kitOne K (.type (CM d)) (.type "tuple")=some (dh d):=by
 cases d with
 | cg=>exact(show fY "NoneType" "tuple" =some false by decide +kernel)
 | bl b=>exact(show fY "bool" "tuple" =some false by decide +kernel)
 | int i=>exact(show fY "int" "tuple" =some false by decide +kernel)
 | str z=>exact(show fY "str" "tuple" =some false by decide +kernel)
 | tup ds=>exact(show fY "tuple" "tuple" =some true by decide +kernel)
 | lst ds=>exact(show fY "list" "tuple" =some false by decide +kernel)
theorem BJ {K:PySem.W.Frag}(d:D):PySem.W.kitOne K (.type (CM d)) (.type "list")=some (zZ d):=by
 cases d with
 | cg=>exact(show fY "NoneType" "list" =some false by decide +kernel)
 | bl b=>exact(show fY "bool" "list" =some false by decide +kernel)
 | int i=>exact(show fY "int" "list" =some false by decide +kernel)
 | str z=>exact(show fY "str" "list" =some false by decide +kernel)
 | tup ds=>exact(show fY "tuple" "list" =some false by decide +kernel)
 | lst ds=>exact(show fY "list" "list" =some true by decide +kernel)
theorem z4 {K:PySem.W.Frag}(d:D):PySem.W.kitOne K (.type (CM d)) (.type "str")=some (sf d):=by
 cases d with
 | cg=>exact(show fY "NoneType" "str" =some false by decide +kernel)
 | bl b=>exact(show fY "bool" "str" =some false by decide +kernel)
 | int i=>exact(show fY "int" "str" =some false by decide +kernel)
 | str z=>exact(show fY "str" "str" =some true by decide +kernel)
 | tup ds=>exact(show fY "tuple" "str" =some false by decide +kernel)
 | lst ds=>exact(show fY "list" "str" =some false by decide +kernel)
theorem DS {K:PySem.W.Frag}(d:D):PySem.W.kitOne K (.type (CM d)) (.type "bool")=some (qY d):=by
 cases d with
 | cg=>exact(show fY "NoneType" "bool" =some false by decide +kernel)
 | bl b=>exact(show fY "bool" "bool" =some true by decide +kernel)
 | int i=>exact(show fY "int" "bool" =some false by decide +kernel)
 | str z=>exact(show fY "str" "bool" =some false by decide +kernel)
 | tup ds=>exact(show fY "tuple" "bool" =some false by decide +kernel)
 | lst ds=>exact(show fY "list" "bool" =some false by decide +kernel)
theorem BK {K:PySem.W.Frag}(d:D):PySem.W.kitOne K (.type (CM d)) (.type "int")=some (sr d):=by
 cases d with
 | cg=>exact(show fY "NoneType" "int" =some false by decide +kernel)
 | bl b=>exact(show fY "bool" "int" =some true by decide +kernel)
 | int i=>exact(show fY "int" "int" =some true by decide +kernel)
 | str z=>exact(show fY "str" "int" =some false by decide +kernel)
 | tup ds=>exact(show fY "tuple" "int" =some false by decide +kernel)
 | lst ds=>exact(show fY "list" "int" =some false by decide +kernel)
end L2
end
section
set_option Elab.async false
set_option linter.all false
set_option maxRecDepth 100000
namespace HT
open PySem PySem.Spec PyProof.Rows
section
variable {prog:Program}{w:World}{A:Around}{E:Value→Shared→Prop}{s:Shared}
theorem xR {t sl:Addr}{items:Array Value}{vl vu:Value}{lo hi:Option Int}{Q:Value→Shared→Prop}(ht:IsTup s.heap t items) (hs:s.heap.IsSliceOf sl vl vu .none) (pl:IsPart vl lo) (pu:IsPart vu hi)
  (hw:fK items.size 0 lo=0∧fK items.size items.size hi=items.size) (h:Q (.ref t) s):wpAny (model prog w) A (getItem (.ref t) (.ref sl)) Q E s:=by
 obtain⟨os,hos,hcs,hds⟩:=id hs
 have Kl:s.TypeIs (.ref sl) "slice":=⟨os,hos,hcs⟩
 unfold getItem
 try with_reducible refine wpAny_holding ?_
 first | refine wpAny_bind (wpAny_pure ?_) | skip
 refine wpAny_bind (wpAny_sequenceKey ht.typeIs (by decide) ?_)
 refine wpAny_bind (wpAny_callSpecial?_slot (name:=Str.ofString "__getitem__") ht.typeIs PyProof.Rows.slot_tuple_getitem
  (wpAny_call_entry PyProof.Rows.slot_tuple_getitem ht.typeIs entry_tuple_getitem ?_ (args_tuple_getitem _ _)))
 show wpAny _ _ (Builtin.Tuple.tupleItemsOf (.ref t) >>= _) _ _ s
 refine wpAny_bind (tupleItemsOf_ ht ?_)
 refine wpAny_bind (wpAny_typeOf Kl ?_)
 rw[if_pos (by decide)]
 refine wpAny_bind (jv hs pl pu ?_)
 have hyes:(((fK items.size 0 lo:Nat):Int) == 0 && (1:Int) == 1 && (fK items.size items.size hi - fK items.size 0 lo) == items.size)=true:=by
  rw[hw.1,hw.2];simp
 show wpAny _ _ (if(((fK items.size 0 lo:Nat):Int) == 0 && (1:Int) == 1 && (fK items.size items.size hi - fK items.size 0 lo) == items.size)=true then _ else _) _ _ s
 rw[if_pos hyes]
 have hex:∀{α:Type}{k:Bool→Sem α}{Q':α→Shared→Prop}{E':Value→Shared→Prop}{A':Around},wpAny (model prog w) A' (k true) Q' E' s→wpAny (model prog w) A' (Builtin.Tuple.tupleIsExact (.ref t) >>= k) Q' E' s:=fun {α k Q' E' A'} hk=>by
  refine wpAny_bind ?_
  unfold Builtin.Tuple.tupleIsExact
  exact wpAny_bind (wpAny_typeOf ht.typeIs (wpAny_pure hk))
 first
  | (refine hex ?_;exact wpAny_rule (wpAny_pure ⟨_,rfl,wpAny_pure h⟩))
  | (refine hex ?_;refine wpAny_bind (wpAny_rule ?_);exact wpAny_pure ⟨_,rfl,wpAny_pure h⟩)
end
end HT
end
section
set_option Elab.async false
set_option linter.all false
set_option maxRecDepth 100000
namespace L2
open PySem PySem.Spec PyProof.Rows
section
variable {X:Cx}
theorem Rep.iK {H:Hp}{v:V}{ds:List D}(r:Rep H v (.tup ds)):∃a vs,v= .ref a∧H a=some (.tup vs)∧aQ H vs ds:=by
 cases r with
 | tup e rs=>exact⟨_,_,rfl,e,rs⟩
theorem Rep.ie {H:Hp}{v:V}{ds:List D}(r:Rep H v (.lst ds)):∃a vs,v= .ref a∧H a=some (.lst vs)∧aQ H vs ds:=by
 cases r with
 | lst e rs=>exact⟨_,_,rfl,e,rs⟩
noncomputable def cutD (ds:List D) (lo hi:Option Int):List D:=(ds.drop (HT.fK ds.length 0 lo)).take (HT.fK ds.length ds.length hi - HT.fK ds.length 0 lo)
theorem aQ.gG {H:Hp}{vs:List V}{ds:List D}{i:Int}{d:D}(r:aQ H vs ds) (h:L2.gG ds i=some d):∃v,L2.gG vs i=some v∧Rep H v d:=by
 have hl:=r.length
 unfold L2.gG at h ⊢
 rw[hl]
 cases e:xM ds.length i with
 | none=>rw[e] at h;cases h
 | some j=>
  rw[e] at h
  exact r.get h
end
end L2
end
section
set_option Elab.async false
set_option linter.all false
set_option maxRecDepth 100000
namespace L2
open PySem PySem.Spec PyProof.Rows
theorem tN {scope:Scope}{env:Env}{n:Str}{k:NameKind}(h:(relabel scope env).names.lookup n=some k):(n,k)∈(relabel scope env).names:=PySem.mem_of_lookup h
theorem pJ {X:Cx}{x:Str}{scope:Scope}(h1:∀y∈scope.names,y.2≠.free) (h2:∀y∈scope.names,y.2≠.cell) (h3:scope.kind= .function) (h4:∀y∈scope.names,y.2= .local→scope.names.lookup y.1=some .local) (h5:scope.names.lookup x=some .local):
  iC X x [] [] scope []:=by
 refine⟨closureFor_none h1,h2,h3,h4,h5,fun n c h=>(by cases h),fun n h=>?_,by simp,rfl,fun j n h=>(by simp at h),fun n h=>(by simp at h)⟩
 have no:∀k,(k=NameKind.cell∨k=NameKind.free)→(relabel scope X.env).names.lookup n≠some k:=fun k hk e=>by
  have m:=tN e
  unfold relabel at m
  obtain⟨⟨n',k'⟩,hm,q⟩:=List.mem_map.mp m
  have z:(k' == NameKind.free)=false:=by simpa using h1 _ hm
  simp only[z,Bool.false_and,if_false] at q
  have q2:k'=k:=by
   have:=congrArg Prod.snd q
   simpa using this
  rcases hk with rfl | rfl
  ·exact h2 _ hm q2
  ·exact h1 _ hm q2
 rcases h with h | h
 ·exact absurd h (no _ (.inl rfl))
 ·exact absurd h (no _ (.inr rfl))
mutual
noncomputable def je (n:Nat):D→Prop
 | .str z=>z.length≤n
 | .tup ds=>ds.length≤n∧Fits n ds
 | .lst ds=>ds.length≤n∧Fits n ds
 | .cg=>True
 | .bl _=>True
 | .int _=>True
noncomputable def Fits (n:Nat):List D→Prop
 | []=>True
 | d :: ds=>je n d∧Fits n ds
end
mutual
theorem je.mono {n m:Nat}(l:n≤m):∀{d:D},je n d→je m d
 | .str _,h=>Nat.le_trans h l
 | .tup _,h=>⟨Nat.le_trans h.1 l,Fits.mono l h.2⟩
 | .lst _,h=>⟨Nat.le_trans h.1 l,Fits.mono l h.2⟩
 | .cg,_=>True.intro
 | .bl _,_=>True.intro
 | .int _,_=>True.intro
theorem Fits.mono {n m:Nat}(l:n≤m):∀{ds:List D},Fits n ds→Fits m ds
 | [],_=>True.intro
 | _ :: _,h=>⟨je.mono l h.1,Fits.mono l h.2⟩
end
theorem Fits.append {n:Nat}:∀{ds es:List D},Fits n ds→Fits n es→Fits n (ds++es)
 | [],_,_,h=>h
 | _ :: _,_,h,k=>⟨h.1,Fits.append h.2 k⟩
theorem Fits.take {n:Nat}:∀{ds:List D}(k:Nat),Fits n ds→Fits n (ds.take k)
 | _,0,_=>True.intro
 | [],_+1,_=>True.intro
 | _ :: _,k+1,h=>⟨h.1,Fits.take k h.2⟩
theorem Fits.drop {n:Nat}:∀{ds:List D}(k:Nat),Fits n ds→Fits n (ds.drop k)
 | _,0,h=>h
 | [],_+1,_=>True.intro
 | _ :: _,k+1,h=>Fits.drop k h.2
theorem Fits.get {n:Nat}:∀{ds:List D}{i:Nat}{d:D},Fits n ds→ds[i]? =some d→je n d
 | [],_,_,_,e=>by simp at e
 | _ :: _,0,_,h,e=>by simp at e;subst e;exact h.1
 | _ :: _,i+1,_,h,e=>Fits.get (i:=i) h.2 (by simpa using e)
theorem Fits.cut {n:Nat}{ds:List D}(h:Fits n ds) (lo hi:Option Int):Fits n (cutD ds lo hi):=(h.drop _).take _
noncomputable def dP (d:D) (l m:Int):Bool:=match d with
 | .int i=>decide (l≤i) && decide (i≤m)
 | _=>false
noncomputable def dQ (d:D) (l m:Int):Bool:=match d with
 | .tup ds=>decide (l≤(ds.length:Int)) && decide ((ds.length:Int)≤m)
 | _=>false
end L2
end
section
set_option Elab.async false
set_option linter.all false
set_option maxRecDepth 100000
namespace L2
open PySem PySem.Spec PyProof.Rows
theorem lookup_some {α : Type} : ∀ {l : List (Str × α)} {n : Str}, n ∈ l.map (·.1) → ∃ c, l.lookup n = some c
  | [],_,h=>by simp at h
  | (m, c) :: l, n, h => by
    rw[List.lookup_cons]
    cases e:n == m with
    | true=>exact⟨c,rfl⟩
    | false=>
      rcases List.mem_cons.mp h with h | h
      · have h:n=m:=h
        rw[h,beq_self_eq_true] at e
        cases e
      · exact lookup_some h
end L2
end
section
set_option Elab.async false
set_option linter.all false
set_option maxRecDepth 100000
namespace L2
open PySem PySem.Spec PyProof.Rows
end L2
end
section
set_option Elab.async false
set_option linter.all false
set_option maxRecDepth 100000
namespace L2
open PySem PySem.Spec PyProof.Rows
mutual
noncomputable def toPy:D→PyData
 | .cg=>.none
 | .bl b=>.bool b
 | .int i=>.int i
 | .str z=>.str z
 | .tup ds=>.tuple (qZ ds)
 | .lst ds=>.list (qZ ds)
noncomputable def qZ:List D→List PyData
 | []=>[]
 | d :: ds=>toPy d :: qZ ds
end
section
variable {X:Cx}{pins:List (Addr×Obj)}{σ:St}{H:Hp}{s:Shared}
end
mutual
theorem oh:∀d:D,(toPy d).hasDict=false
 | .cg=>rfl
 | .bl _=>rfl
 | .int _=>rfl
 | .str _=>rfl
 | .tup ds=>jL ds
 | .lst ds=>jL ds
theorem jL:∀ds:List D,PyData.hasDictAll (qZ ds)=false
 | []=>rfl
 | d :: ds=>by
  show((toPy d).hasDict || PyData.hasDictAll (qZ ds))=false
  rw[oh d,jL ds]
  rfl
end
end L2
end
section
set_option Elab.async false
set_option linter.all false
set_option maxRecDepth 100000
namespace L2
open PySem PySem.Spec PyProof.Rows
inductive MO where
 | lst (ds:List D)
 | dct (kvs:List (Key×D))
 | vp (kvs:List (List Key×D))
inductive U where
 | t (d:D) | m (o:MO) | b (o:MO) | v (i:Nat) | s (ns:List Int) | f (a:Addr)
noncomputable abbrev SS:=List (Option U)
noncomputable def Sub (F H:Hp):Prop:=∀a o,F a=some o→H a=some o
noncomputable def jw {κ:Type}(F:Hp) (p:κ×V) (q:κ×D):Prop:=p.1=q.1∧Rep F p.2 q.2
noncomputable def At (F H:Hp) (a:Addr):MO→Prop
 | .lst ds=>∃vs,H a=some (.lst vs)∧aQ F vs ds
 | .dct kvs=>∃ws,H a=some (.dK ws)∧Paired (jw F) ws kvs
 | .vp kvs=>∃ws,H a=some (.dT ws)∧Paired (jw F) ws kvs
noncomputable def dY:U→Bool
 | .m _=>true
 | .b _=>true
 | _=>false
noncomputable def dG (S:SS) (σ:St) (a:Addr):Prop:=∃(i:Nat) (u:U),S[i]? =some (some u)∧dY u=true∧σ[i]? =some (some (.ref a))
noncomputable def BL (K:PySem.W.Frag) (H:Hp) (a:Addr) (ns:List Int):Prop:=
 (∃o,H a=some (.ju o (.lst (ns.map V.int))))∨∃(o:Obj) (its:Array Value) (n:Nat),K.lookup a=some o∧o.cls= .type "list"∧o.dict=none∧o.data= .seq its n∧its.size≤sizeLine∧Vals (ns.map V.int) its.toList
theorem BL.sq {K:PySem.W.Frag}{H:Hp}{a:Addr}{ns:List Int}:BL K H a ns→lB K H a (ns.map V.int)
 | .inl h=>.inl (.inr h)
 | .inr h=>.inr h
noncomputable def tR (K:PySem.W.Frag) (F H:Hp) (v:V):U→Prop
 | .t d=>Rep F v d
 | .m o=>∃a,v= .ref a∧F a=none∧At F H a o
 | .b o=>∃a,v= .ref a∧F a=none∧At F H a o
 | .v _=>False
 | .s ns=>∃a,v= .ref a∧BL K H a ns
 | .f a=>v= .ref a
structure Ext (M:Addr→Prop) (F H F' H':Hp):Prop where
 le:∀b o,F b=some o→F' b=some o
 keep:∀b o,H b=some o→¬M b→H' b=some o
 jf:∀b o,H b=some o→¬M b→F b=none→F' b=none
 there:∀b o,H b=some o→∃o',H' b=some o'
 ju:∀b o u,H b=some (.ju o u)→H' b=some (.ju o u)
structure Base where
 P:List (Option Addr)
 F:Hp
 H:Hp
noncomputable def Base.M (B:Base) (a:Addr):Prop:=some a∈B.P
structure Rel (K:PySem.W.Frag) (B:Base) (S:SS) (σ:St) (F H:Hp):Prop where
 sub:Sub F H
 len:S.length=σ.length
 rep:∀(i:Nat) u,S[i]? =some (some u)→∃v,σ[i]? =some (some v)∧tR K F H v u
 xS:∀(i j:Nat) u w a,S[i]? =some (some u)→dY u=true→S[j]? =some (some w)→dY w=true→σ[i]? =some (some (.ref a))→σ[j]? =some (some (.ref a))→i=j
 own:∀(i:Nat) o a,S[i]? =some (some (.m o))→σ[i]? =some (some (.ref a))→B.H a=none
 bor:∀(i:Nat) o a,S[i]? =some (some (.b o))→σ[i]? =some (some (.ref a))→B.M a
 par:∀(i:Nat) a,B.P[i]? =some (some a)→σ[i]? =some (some (.ref a))∧∃o,S[i]? =some (some (.b o))
 ext:Ext B.M B.F B.H F H
structure Step (S S':SS) (σ:St) (F H F' H':Hp):Prop where
 ext:Ext (dG S σ) F H F' H'
 mu:∀a,dG S' σ a→dG S σ a
 slots:∀(i:Nat) u,S[i]? =some (some u)→∃u',S'[i]? =some (some u')
theorem Ext.refl (M:Addr→Prop) (F H:Hp):Ext M F H F H:=⟨fun _ _ h=>h,fun _ _ h _=>h,fun _ _ _ _ h=>h,fun _ o h=>⟨o,h⟩,fun _ _ _ h=>h⟩
theorem Ext.trans {M M':Addr→Prop}{F H F1 H1 F2 H2:Hp}(x:Ext M F H F1 H1) (y:Ext M' F1 H1 F2 H2) (s:∀b,M' b→M b∨H b=none):Ext M F H F2 H2 where
 le:=fun b o h=>y.le b o (x.le b o h)
 keep:=fun b o h n=>y.keep b o (x.keep b o h n) fun q=>(s b q).elim n fun z=>by rw[h] at z;cases z
 jf:=fun b o h n f=>y.jf b o (x.keep b o h n) (fun q=>(s b q).elim n fun z=>by rw[h] at z;cases z) (x.jf b o h n f)
 there:=fun b o h=>let⟨o',h'⟩:=x.there b o h;y.there b o' h'
 ju:=fun b o u h=>y.ju b o u (x.ju b o u h)
theorem Step.refl (S:SS) (σ:St) (F H:Hp):Step S S σ F H F H:=⟨Ext.refl _ _ _,fun _ h=>h,fun _ u h=>⟨u,h⟩⟩
theorem Step.trans {S S1 S2:SS}{σ:St}{F H F1 H1 F2 H2:Hp}(x:Step S S1 σ F H F1 H1) (y:Step S1 S2 σ F1 H1 F2 H2):Step S S2 σ F H F2 H2:=
 ⟨x.ext.trans y.ext fun b q=>.inl (x.mu b q),fun a q=>x.mu a (y.mu a q),fun i u h=>let⟨u',h'⟩:=x.slots i u h;y.slots i u' h'⟩
mutual
theorem Rep.le {F F':Hp}(g:∀b o,F b=some o→F' b=some o):∀{v:V}{d:D},Rep F v d→Rep F' v d
 | _,_,.cg=>.cg
 | _,_,.bl b=>.bl b
 | _,_,.int i=>.int i
 | _,_,.str z=>.str z
 | _,_,.tup e r=>.tup (g _ _ e) (aQ.le g r)
 | _,_,.lst e r=>.lst (g _ _ e) (aQ.le g r)
theorem aQ.le {F F':Hp}(g:∀b o,F b=some o→F' b=some o):∀{vs:List V}{ds:List D},aQ F vs ds→aQ F' vs ds
 | _,_,.nil=>.nil
 | _,_,.cons r rs=>.cons (Rep.le g r) (aQ.le g rs)
end
theorem tT {κ:Type}{F F':Hp}(g:∀b o,F b=some o→F' b=some o){ws:List (κ×V)}{kvs:List (κ×D)}(r:Paired (jw F) ws kvs):Paired (jw F') ws kvs:=
 Paired.xw r fun _ _ z=>⟨z.1,z.2.le g⟩
theorem At.le {F F' H H':Hp}{a:Addr}(g:∀b o,F b=some o→F' b=some o) (k:∀o,H a=some o→H' a=some o):∀{o:MO},At F H a o→At F' H' a o
 | .lst _,⟨vs,e,r⟩=>⟨vs,k _ e,r.le g⟩
 | .dct _,⟨ws,e,r⟩=>⟨ws,k _ e,tT g r⟩
 | .vp _,⟨ws,e,r⟩=>⟨ws,k _ e,tT g r⟩
theorem At.has {F H:Hp}{a:Addr}:∀{o:MO},At F H a o→∃u,H a=some u
 | .lst _,⟨_,e,_⟩=>⟨_,e⟩
 | .dct _,⟨_,e,_⟩=>⟨_,e⟩
 | .vp _,⟨_,e,_⟩=>⟨_,e⟩
noncomputable def jg (K:PySem.W.Frag) (B:Base) (S:SS) (σ:St) (H0 F H:Hp) (v:V):U→Prop
 | .t d=>Rep F v d
 | .m o=>∃a,v= .ref a∧H0 a=none∧F a=none∧At F H a o∧¬dG S σ a∧B.H a=none
 | .v i=>σ[i]? =some (some v)∧∃u,S[i]? =some (some u)
 | .b _=>False
 | .s ns=>∃a,v= .ref a∧BL K H a ns
 | .f a=>v= .ref a
theorem PE.imp {X:Cx}{e:Expr}{t t':TE}(h:PE X e t) (k:∀σ H Q,t' σ H Q→t σ H Q):PE X e t':=fun pins s σ H Q I q=>h pins s σ H Q I (k σ H Q q)
theorem PT.imp {X:Cx}{e:Expr}{t t':TT}(h:PT X e t) (k:∀σ H Q,t' σ H Q→t σ H Q):PT X e t':=fun pins s σ H Q I q=>h pins s σ H Q I (k σ H Q q)
theorem PW.imp {X:Cx}{e:Expr}{t t':TT}(h:PW X e t) (k:∀σ H Q,t' σ H Q→t σ H Q):PW X e t':=fun w pins s σ H Q I q=>h w pins s σ H Q I (k σ H Q q)
theorem PA.imp {X:Cx}{e:List Expr}{t t':TA}(h:PA X e t) (k:∀σ H Q,t' σ H Q→t σ H Q):PA X e t':=fun p pins s σ H Q I q=>h p pins s σ H Q I (k σ H Q q)
theorem PS.imp {X:Cx}{e:Stmt}{t t':TS}(h:PS X e t) (k:∀D σ H,t' D σ H→t D σ H):PS X e t':=fun pins s σ H Q I q=>h pins s σ H Q I (k Q σ H q)
theorem vo.imp {X:Cx}{e:List Stmt}{t t':TS}(h:vo X e t) (k:∀D σ H,t' D σ H→t D σ H):vo X e t':=fun pins s σ H Q I q=>h pins s σ H Q I (k Q σ H q)
theorem PE.orelse {X:Cx}{e:Expr}{t:TE}(h:∀σ H Q,t σ H Q→∃t',PE X e t'∧t' σ H Q):PE X e t:=fun pins s σ H Q I q=>let⟨_,h1,h2⟩:=h σ H Q q;h1 pins s σ H Q I h2
theorem PS.orelse {X:Cx}{e:Stmt}{t:TS}(h:∀D σ H,t D σ H→∃t',PS X e t'∧t' D σ H):PS X e t:=fun pins s σ H Q I q=>let⟨_,h1,h2⟩:=h Q σ H q;h1 pins s σ H Q I h2
noncomputable abbrev GE:=SS→Option (U×SS)
noncomputable abbrev GD:=SS→Option (D×SS)
noncomputable abbrev GT:=SS→Option (Bool×SS)
noncomputable abbrev GA:=SS→Option (List D×SS)
inductive Out where
 | nx (S:SS) | rt (u:U) (S:SS) | bk (S:SS) | ct (S:SS)
noncomputable abbrev GS:=SS→Option Out
noncomputable def tE (K:PySem.W.Frag) (B:Base) (g:GE):TE:=fun σ H Q=>∃S F u S',Rel K B S σ F H∧g S=some (u,S')∧∀v F' H',Rel K B S' σ F' H'→Step S S' σ F H F' H'→jg K B S' σ H F' H' v u→Q v H'
noncomputable def tD (K:PySem.W.Frag) (B:Base) (g:GD):TE:=fun σ H Q=>∃S F d S',Rel K B S σ F H∧g S=some (d,S')∧∀v F' H',Rel K B S' σ F' H'→Step S S' σ F H F' H'→Rep F' v d→Q v H'
noncomputable def tQ (K:PySem.W.Frag) (B:Base) (g:GT):TT:=fun σ H Q=>∃S F b S',Rel K B S σ F H∧g S=some (b,S')∧∀F' H',Rel K B S' σ F' H'→Step S S' σ F H F' H'→Q b H'
noncomputable def OS (K:PySem.W.Frag) (B:Base) (g:GA):TA:=fun σ H Q=>∃S F ds S',Rel K B S σ F H∧g S=some (ds,S')∧∀vs F' H',Rel K B S' σ F' H'→Step S S' σ F H F' H'→aQ F' vs ds→Q vs H'
noncomputable def wL (K:PySem.W.Frag) (B:Base) (F:Hp) (D:Ends):Out→Prop
 | .nx S=>∀σ' F' H',Rel K B S σ' F' H'→(∀b o,F b=some o→F' b=some o)→D.nx σ' H'
 | .bk S=>∀σ' F' H',Rel K B S σ' F' H'→(∀b o,F b=some o→F' b=some o)→D.bk σ' H'
 | .ct S=>∀σ' F' H',Rel K B S σ' F' H'→(∀b o,F b=some o→F' b=some o)→D.ct σ' H'
 | .rt u S=>∀v σ' F' H',Rel K B S σ' F' H'→(∀b o,F b=some o→F' b=some o)→jg K B S σ' B.H F' H' v u→D.rt v H'
noncomputable def tO (K:PySem.W.Frag) (B:Base) (g:GS):TS:=fun D σ H=>∃S F o,Rel K B S σ F H∧g S=some o∧wL K B F D o
structure JE (X:Cx) (e:Expr) (g:GE):Prop where
 h:∀B,PE X e (tE X.K B g)
structure JD (X:Cx) (e:Expr) (g:GD):Prop where
 h:∀B,PE X e (tD X.K B g)
structure JT (X:Cx) (e:Expr) (g:GT):Prop where
 h:∀B,PT X e (tQ X.K B g)
structure JW (X:Cx) (e:Expr) (g:GT):Prop where
 h:∀B,PW X e (tQ X.K B g)
structure JA (X:Cx) (es:List Expr) (g:GA):Prop where
 h:∀B,PA X es (OS X.K B g)
structure JS (X:Cx) (st:Stmt) (g:GS):Prop where
 h:∀B,PS X st (tO X.K B g)
structure JB (X:Cx) (st:List Stmt) (g:GS):Prop where
 h:∀B,vo X st (tO X.K B g)
noncomputable def fz:U→SS→Option (D×SS)
 | .t d,S=>some (d,S)
 | .m (.lst ds),S=>some (.lst ds,S)
 | .v i,S=>match S[i]? with
  | some (some (.t d))=>some (d,S)
  | some (some (.m (.lst ds)))=>some (.lst ds,S.set i (some (.t (.lst ds))))
  | _=>none
 | _,_=>none
theorem get_set {α:Type}{l:List α}{i j:Nat}{x y:α}(h:(l.set i x)[j]? =some y):(i=j∧x=y∧i < l.length)∨(i≠j∧l[j]? =some y):=by
 by_cases e:i=j
 ·subst e
  by_cases hl:i < l.length
  ·rw[List.getElem?_set_self hl] at h;exact .inl ⟨rfl,Option.some.inj h,hl⟩
  ·rw[List.getElem?_eq_none (by simpa using hl)] at h;cases h
 ·rw[List.getElem?_set_ne e] at h;exact .inr ⟨e,h⟩
theorem Sub.ju {F H:Hp}{a:Addr}{o:HO}(s:Sub F H) (h:H a=some o):Sub (upd F a o) H:=fun b u e=>by
 by_cases hb:b=a
 ·subst hb;rw[aY] at e;cases e;exact h
 ·rw[aR hb] at e;exact s b u e
theorem Sub.fresh {F H:Hp}{p:Addr}(s:Sub F H) (h:H p=Option.none):F p=Option.none:=by
 cases e:F p with
 | none=>rfl
 | some o=>have q:=s p o e;rw[h] at q;cases q
theorem lM {F:Hp}{a:Addr}{o:HO}(h:F a=none):∀b u,F b=some u→upd F a o b=some u:=fun b u e=>by rw[aR (bL e h)];exact e
theorem BL.le {K:PySem.W.Frag}{H H':Hp}{a:Addr}{ns:List Int}(k:∀b o u,H b=some (.ju o u)→H' b=some (.ju o u)):BL K H a ns→BL K H' a ns
 | .inl ⟨o,h⟩=>.inl ⟨o,k _ _ _ h⟩
 | .inr h=>.inr h
theorem tR.le {K:PySem.W.Frag}{F F' H H':Hp}{v:V}(g:∀b o,F b=some o→F' b=some o) (kf:∀b o u,H b=some (.ju o u)→H' b=some (.ju o u)):∀{u:U},tR K F H v u→(∀a,dY u=true→v= .ref a→(∀o,H a=some o→H' a=some o)∧F' a=none)→tR K F' H' v u
 | .t _,h,_=>Rep.le g h
 | .m _,⟨a,e,_,h⟩,k=>let⟨k1,k2⟩:=k a rfl e;⟨a,e,k2,h.le g k1⟩
 | .b _,⟨a,e,_,h⟩,k=>let⟨k1,k2⟩:=k a rfl e;⟨a,e,k2,h.le g k1⟩
 | .v _,h,_=>h
 | .s _,⟨a,e,h⟩,_=>⟨a,e,h.le kf⟩
 | .f _,h,_=>h
theorem z5 {K : PySem.W.Frag} {B : Base} {S S' : SS} {σ : St} {H0 F0 F H : Hp} {v : V} {u : U} {d : D} {S0 : SS} (R : Rel K B S σ F H) (st : Step S0 S σ F0 H0 F H) (r : jg K B S σ H0 F H v u) (e : fz u S = some (d, S')) :
    ∃F',Rel K B S' σ F' H∧Step S0 S' σ F0 H0 F' H∧Rep F' v d:=by
  cases u with
  | t d'=>cases e;exact⟨F,R,st,r⟩
  | b o=>cases r
  | s o=>cases e
  | f o=>cases e
  | m o =>
    cases o with
    | dct kvs=>cases e
    | vp kvs=>cases e
    | lst ds=>
      cases e
      obtain⟨a,rfl,h0,hf,⟨vs,ha,rs⟩,nm,hB⟩:=r
      have g:=lM (o:=.lst vs) hf
      refine⟨upd F a (.lst vs),⟨R.sub.ju ha,R.len,fun i u h=>?_,R.xS,R.own,R.bor,R.par,?_⟩,⟨⟨fun b o h=>g b o (st.ext.le b o h),st.ext.keep,fun b o h n f=>?_,st.ext.there,st.ext.ju⟩,st.mu,st.slots⟩,.lst aY (rs.le g)⟩
      · obtain⟨w,h1,h2⟩:=R.rep i u h
        refine⟨w,h1,h2.le g (fun _ _ _ z=>z) fun c hm hc=>⟨fun o q=>q,?_⟩⟩
        have hca:c≠a:=fun z=>nm ⟨i,u,h,hm,by rw[h1,hc,z]⟩
        rw[aR hca]
        cases u with
        | m o=>obtain⟨c',e',f',_⟩:=h2;rw[hc] at e';cases e';exact f'
        | b o=>obtain⟨c',e',f',_⟩:=h2;rw[hc] at e';cases e';exact f'
        | t d=>cases hm
        | v j=>cases hm
        | s j=>cases hm
        | f j=>cases hm
      · exact⟨fun b o h=>g b o (R.ext.le b o h),R.ext.keep,fun b o h n f=>by rw[aR (fun z=>by rw[z,hB] at h;cases h)];exact R.ext.jf b o h n f,R.ext.there,R.ext.ju⟩
      · rw[aR (fun z=>by rw[z,h0] at h;cases h)]
        exact st.ext.jf b o h n f
  | v i =>
    obtain⟨hv,u,hu⟩:=r
    unfold fz at e
    simp only[hu] at e
    cases u with
    | t d'=>
      cases e
      obtain⟨w,h1,h2⟩:=R.rep i _ hu
      rw[hv] at h1
      cases h1
      exact⟨F,R,st,h2⟩
    | b o=>cases e
    | v j=>cases e
    | s j=>cases e
    | f j=>cases e
    | m o =>
      cases o with
      | dct kvs=>cases e
      | vp kvs=>cases e
      | lst ds =>
        cases e
        obtain⟨w,h1,a,rfl,hf,⟨vs,ha,rs⟩⟩:=R.rep i _ hu
        have hiv:σ[i]? =some (some (.ref a)):=h1
        rw[hv] at h1
        cases h1
        have hB:=R.own i _ a hu hiv
        have g:=lM (o:=.lst vs) hf
        have back:∀j w,(S.set i (some (.t (.lst ds))))[j]? =some (some w)→dY w=true→i≠j∧S[j]? =some (some w):=fun j w h hm=>by
          rcases get_set h with⟨_,q,_⟩ | q
          · cases q;cases hm
          · exact q
        have mu:∀c,dG (S.set i (some (.t (.lst ds)))) σ c→dG S σ c:=fun c ⟨j,w,h,hm,z⟩=>⟨j,w,(back j w h hm).2,hm,z⟩
        refine⟨upd F a (.lst vs),⟨R.sub.ju ha,by rw[List.length_set];exact R.len,fun j u h=>?_,fun j k u w c h1 m1 h2 m2=>R.xS j k u w c (back j u h1 m1).2 m1 (back k w h2 m2).2 m2,fun j o c h=>R.own j o c (back j _ h rfl).2,fun j o c h=>R.bor j o c (back j _ h rfl).2,fun j c h=>?_,?_⟩,
          ⟨⟨fun b o h=>g b o (st.ext.le b o h),st.ext.keep,fun b o h n f=>?_,st.ext.there,st.ext.ju⟩,fun c q=>st.mu c (mu c q),fun j u h=>?_⟩,.lst aY (rs.le g)⟩
        · rcases get_set h with⟨rfl,q,_⟩ | ⟨ne,q⟩
          · cases q
            exact⟨.ref a,hiv,.lst aY (rs.le g)⟩
          · obtain⟨w,h1,h2⟩:=R.rep j u q
            refine⟨w,h1,h2.le g (fun _ _ _ z=>z) fun c hm hc=>⟨fun o q=>q,?_⟩⟩
            have hca:c≠a:=fun z=>ne (R.xS i j _ u a hu rfl q hm hiv (by rw[h1,hc,z]))
            rw[aR hca]
            cases u with
            | m o=>obtain⟨c',e',f',_⟩:=h2;rw[hc] at e';cases e';exact f'
            | b o=>obtain⟨c',e',f',_⟩:=h2;rw[hc] at e';cases e';exact f'
            | t d=>cases hm
            | v j=>cases hm
            | s j=>cases hm
            | f j=>cases hm
        · obtain⟨h1,o,h2⟩:=R.par j c h
          refine⟨h1,o,?_⟩
          have ne:i≠j:=fun z=>by subst z;rw[hu] at h2;cases h2
          rw[List.getElem?_set_ne ne]
          exact h2
        · exact⟨fun b o h=>g b o (R.ext.le b o h),R.ext.keep,fun b o h n f=>by rw[aR (fun z=>by rw[z,hB] at h;cases h)];exact R.ext.jf b o h n f,R.ext.there,R.ext.ju⟩
        · have hb:b≠a:=fun z=>n (st.mu b ⟨i,_,hu,rfl,by rw[z];exact hiv⟩)
          rw[aR hb]
          exact st.ext.jf b o h n f
        · obtain⟨u',h'⟩:=st.slots j u h
          by_cases hj:i=j
          · subst hj
            exact⟨.t (.lst ds),List.getElem?_set_self (List.getElem?_eq_some_iff.mp h').1⟩
          · exact⟨u',by rw[List.getElem?_set_ne hj];exact h'⟩
noncomputable def eF (g:GE):GD:=fun S=>(g S).bind fun p=>fz p.1 p.2
theorem JE.d {X:Cx}{e:Expr}{g:GE}(h:JE X e g):JD X e (eF g):=⟨fun B=>(h.h B).imp fun σ H Q ⟨S,F,d,S',R,hg,q⟩=>by
 unfold eF at hg
 cases e1:g S with
 | none=>rw[e1] at hg;cases hg
 | some p=>
  obtain⟨u,S1⟩:=p
  rw[e1] at hg
  refine⟨S,F,u,S1,R,e1,fun v F1 H1 R1 st1 r1=>?_⟩
  obtain⟨F2,R2,st2,r2⟩:=z5 R1 st1 r1 hg
  exact q v F2 H1 R2 st2 r2⟩
noncomputable def eT (g:GD):GE:=fun S=>(g S).map fun p=>(.t p.1,p.2)
theorem JD.e {X:Cx}{e:Expr}{g:GD}(h:JD X e g):JE X e (eT g):=⟨fun B=>(h.h B).imp fun σ H Q ⟨S,F,u,S',R,hg,q⟩=>by
 unfold eT at hg
 cases e1:g S with
 | none=>rw[e1] at hg;cases hg
 | some p=>
  obtain⟨d,S1⟩:=p
  rw[e1] at hg
  cases hg
  exact⟨S,F,d,S1,R,e1,fun v F1 H1 R1 st1 r1=>q v F1 H1 R1 st1 r1⟩⟩
end L2
end
section
set_option Elab.async false
set_option linter.all false
set_option maxRecDepth 100000
namespace L2
open PySem PySem.Spec PyProof.Rows
structure gg (F H F' H':Hp):Prop where
 le:∀b o,F b=some o→F' b=some o
 same:∀b o,H b=some o→H' b=some o
 jf:∀b o,H b=some o→F b=none→F' b=none
theorem gg.refl (F H:Hp):gg F H F H:=⟨fun _ _ h=>h,fun _ _ h=>h,fun _ _ _ h=>h⟩
theorem gg.trans {F H F1 H1 F2 H2:Hp}(x:gg F H F1 H1) (y:gg F1 H1 F2 H2):gg F H F2 H2:=
 ⟨fun b o h=>y.le b o (x.le b o h),fun b o h=>y.same b o (x.same b o h),fun b o h f=>y.jf b o (x.same b o h) (x.jf b o h f)⟩
theorem gg.step {S:SS}{σ:St}{F H F' H':Hp}(n:gg F H F' H'):Step S S σ F H F' H':=
 ⟨⟨n.le,fun b o h _=>n.same b o h,fun b o h _ f=>n.jf b o h f,fun b o h=>⟨o,n.same b o h⟩,fun b o u h=>n.same b _ h⟩,fun _ h=>h,fun _ u h=>⟨u,h⟩⟩
theorem gg.obj {F H:Hp}{p:Addr}(h:H p=none) (o:HO):gg F H F (upd H p o):=
 ⟨fun _ _ q=>q,fun b u q=>by rw[aR (bL q h)];exact q,fun _ _ _ q=>q⟩
theorem Rd.same {H H':Hp}{a:Addr}{u:HO}(k:∀b o,H b=some o→H' b=some o):Rd H a u→Rd H' a u
 | .inl h=>.inl (k _ _ h)
 | .inr ⟨o,h⟩=>.inr ⟨o,k _ _ h⟩
theorem Sub.same {F H H':Hp}(s:Sub F H) (k:∀b o,H b=some o→H' b=some o):Sub F H':=fun a o e=>k a o (s a o e)
theorem Sub.su {F H:Hp}{p:Addr}{o:HO}(s:Sub F H) (h:H p=none):Sub (upd F p o) (upd H p o):=fun b u e=>by
 by_cases hb:b=p
 ·subst hb;rw[aY] at e;cases e;exact aY
 ·rw[aR hb] at e;have q:=s b u e;rw[aR (bL q h)];exact q
theorem gg.root {F H:Hp}{p:Addr}(s:Sub F H) (h:H p=none) (o:HO):gg F H (upd F p o) (upd H p o):=
 ⟨lM (s.fresh h),fun b u q=>by rw[aR (bL q h)];exact q,fun b u q f=>by rw[aR (bL q h)];exact f⟩
theorem Rel.has {K:PySem.W.Frag}{B:Base}{S:SS}{σ:St}{F H:Hp}(R:Rel K B S σ F H){a:Addr}(m:dG S σ a):∃o,H a=some o:=by
 obtain⟨i,u,h,hm,hv⟩:=m
 obtain⟨v,h1,h2⟩:=R.rep i u h
 rw[hv] at h1
 cases h1
 cases u with
 | t d=>cases hm
 | v j=>cases hm
 | s j=>cases hm
 | f j=>cases hm
 | m o=>obtain⟨b,e,_,h⟩:=h2;cases e;exact h.has
 | b o=>obtain⟨b,e,_,h⟩:=h2;cases e;exact h.has
theorem Rel.new {K:PySem.W.Frag}{B:Base}{S:SS}{σ:St}{F H F' H':Hp}(R:Rel K B S σ F H) (n:gg F H F' H') (s:Sub F' H'):Rel K B S σ F' H' where
 sub:=s
 len:=R.len
 rep:=fun i u h=>by
  obtain⟨v,h1,h2⟩:=R.rep i u h
  refine⟨v,h1,h2.le n.le (fun b o u z=>n.same b _ z) fun a hm ha=>⟨fun o q=>n.same a o q,?_⟩⟩
  obtain⟨o,ho⟩:=R.has ⟨i,u,h,hm,by rw[h1,ha]⟩
  refine n.jf a o ho ?_
  cases u with
  | t d=>cases hm
  | v j=>cases hm
  | s j=>cases hm
  | f j=>cases hm
  | m o=>obtain⟨b,e,f,_⟩:=h2;rw[ha] at e;cases e;exact f
  | b o=>obtain⟨b,e,f,_⟩:=h2;rw[ha] at e;cases e;exact f
 xS:=R.xS
 own:=R.own
 bor:=R.bor
 par:=R.par
 ext:=⟨fun b o h=>n.le b o (R.ext.le b o h),fun b o h m=>n.same b o (R.ext.keep b o h m),fun b o h m f=>n.jf b o (R.ext.keep b o h m) (R.ext.jf b o h m f),fun b o h=>let⟨o',h'⟩:=R.ext.there b o h;⟨o',n.same b o' h'⟩,fun b o u h=>n.same b _ (R.ext.ju b o u h)⟩
noncomputable def z6 (H0 F H:Hp) (v:V):U→Prop
 | .t d=>Rep F v d
 | .m o=>∃a,v= .ref a∧H0 a=none∧F a=none∧At F H a o
 | _=>False
theorem none_of {H H':Hp}{a:Addr}(t:∀b o,H b=some o→∃o',H' b=some o') (h:H' a=none):H a=none:=by
 cases e:H a with
 | none=>rfl
 | some o=>obtain⟨o',h'⟩:=t a o e;rw[h] at h';cases h'
theorem z6.BN {K:PySem.W.Frag}{B:Base}{S S0:SS}{σ:St}{H0 F0 F1 H1 F H:Hp}{v:V}{u:U}(R:Rel K B S σ F1 H1) (st:Step S0 S σ F0 H0 F1 H1) (r:z6 H1 F H v u):jg K B S σ H0 F H v u:=by
 cases u with
 | t d=>exact r
 | b o=>cases r
 | v i=>cases r
 | s i=>cases r
 | f i=>cases r
 | m o=>
  obtain⟨a,e,h0,f,h⟩:=r
  refine⟨a,e,none_of st.ext.there h0,f,h,fun m=>?_,none_of R.ext.there h0⟩
  obtain⟨o,ho⟩:=R.has m
  rw[h0] at ho
  cases ho
noncomputable def rP (f:List D→Option U):List V→Hp→VK→Prop:=fun xs H Q=>∃F ds u,Sub F H∧aQ F xs ds∧f ds=some u∧∀v F' H',gg F H F' H'→Sub F' H'→z6 H F' H' v u→Q v H'
noncomputable def oq:D→Bool
 | .tup _=>false
 | .lst _=>false
 | _=>true
noncomputable def toV:D→V
 | .bl b=>.bl b
 | .int i=>.int i
 | .str z=>.str z
 | _=>.cg
theorem tU {F:Hp}:∀{d:D},oq d=true→Rep F (toV d) d
 | .cg,_=>.cg
 | .bl b,_=>.bl b
 | .int i,_=>.int i
 | .str z,_=>.str z
 | .tup _,h=>by cases h
 | .lst _,h=>by cases h
noncomputable def ao (i:Nat):GE:=fun S=>match S[i]? with
 | some (some (.t d))=>some (.t d,S)
 | some (some (.s d))=>some (.s d,S) | some (some (.f d))=>some (.f d,S)
 | some (some _)=>some (.v i,S)
 | _=>none
noncomputable def eC (d:D):GD:=fun S=>some (d,S)
noncomputable def aq:GA:=fun S=>some ([],S)
noncomputable def aa (g:GD) (ga:GA):GA:=fun S=>(g S).bind fun p=>(ga p.2).map fun q=>(p.1 :: q.1,q.2)
noncomputable def eP (f:List D→Option U) (ga:GA):GE:=fun S=>(ga S).bind fun p=>(f p.1).map fun u=>(u,p.2)
section
variable {X:Cx}{a b c e:Expr}{es:List Expr}{pos p p2:Pos}{x:Str}{g ga gb gc:GD}{gA:GA}{f f':List D→Option U}
theorem ah (i:Nat) (hN:X.N[i]? =some x:=by rfl) (hv:A7 X.env.scope x:=by first | exact Or.inl rfl | exact Or.inr (Or.inl rfl) | exact Or.inr (Or.inr rfl)) (hd:(x == ("__debug__":Str))=false:=by decide)
  (hcd:(x == ("__classdict__":Str))=false:=by decide):JE X (.Name x pos) (ao i):=⟨fun B=>(iJ hN hv hd hcd).imp fun σ H Q ⟨S,F,u,S',R,hg,q⟩=>by
 unfold ao at hg
 cases hs:S[i]? with
 | none=>rw[hs] at hg;cases hg
 | some o=>
  cases o with
  | none=>rw[hs] at hg;cases hg
  | some w=>
   rw[hs] at hg
   obtain⟨v,h1,h2⟩:=R.rep i w hs
   refine⟨v,h1,?_⟩
   cases w with
   | t d=>cases hg;exact q v F H R (Step.refl ..) h2
   | m o=>cases hg;exact q v F H R (Step.refl ..) ⟨h1,_,hs⟩
   | b o=>cases hg;exact q v F H R (Step.refl ..) ⟨h1,_,hs⟩
   | s j=>cases hg;exact q v F H R (Step.refl ..) h2
   | f j=>cases hg;exact q v F H R (Step.refl ..) h2
   | v j=>cases hg;exact q v F H R (Step.refl ..) ⟨h1,_,hs⟩⟩
theorem BO {d:D}(hf:oq d=true) (h:PE X e (tC (toV d))):JD X e (eC d):=⟨fun B=>h.imp fun σ H Q ⟨S,F,u,S',R,hg,q⟩=>by
 cases hg
 exact q _ F H R (Step.refl ..) (tU hf)⟩
theorem az {i j}:JD X (.Constant (.int i) j pos) (eC (.int i)):=BO rfl Df
theorem gD {i j}:JD X (.Constant (.bool i) j pos) (eC (.bl i)):=BO rfl Fy
theorem z7 {j}:JD X (.Constant .none j pos) (eC .cg):=BO rfl Dg
theorem cu {i j}:JD X (.Constant (.str i) j pos) (eC (.str i)):=BO rfl Dh
theorem aC:JA X [] aq:=⟨fun B=>rW.imp fun σ H Q ⟨S,F,u,S',R,hg,q⟩=>by
 cases hg
 exact q [] F H R (Step.refl ..) .nil⟩
theorem ak {α β:Type}{o:Option α}{f:α→Option β}{y:β}(h:o.bind f=some y):∃z,o=some z∧f z=some y:=by
 cases o with
 | none=>cases h
 | some z=>exact⟨z,rfl,h⟩
theorem au {α β:Type}{o:Option α}{f:α→β}{y:β}(h:o.map f=some y):∃z,o=some z∧f z=y:=by
 cases o with
 | none=>cases h
 | some z=>exact⟨z,rfl,Option.some.inj h⟩
theorem aj (h:JD X e g) (hr:JA X es gA) (hs:starEach (e :: es) X.env=(false,eval e X.env) :: starEach es X.env:=by rfl):JA X (e :: es) (aa g gA):=
 ⟨fun B=>(kP (h.h B) (hr.h B) hs).imp fun σ H Q ⟨S,F,u,S',R,hg,q⟩=>by
 obtain⟨⟨d,S1⟩,h1,hg⟩:=ak hg
 obtain⟨⟨ds,S2⟩,h2,hg⟩:=au hg
 cases hg
 exact⟨S,F,d,S1,R,h1,fun v F1 H1 R1 st1 r1=>⟨S1,F1,ds,S2,R1,h2,fun vs F2 H2 R2 st2 r2=>q _ F2 H2 R2 (st1.trans st2) (.cons (r1.le st2.ext.le) r2)⟩⟩⟩
theorem jM {K:PySem.W.Frag}{B:Base}{σ:St}{H:Hp}{Q:VK}{r:List V→Hp→VK→Prop}(hr:∀vs H1 Q1,rP f vs H1 Q1→r vs H1 Q1) (h:tE K B (eP f gA) σ H Q):OS K B gA σ H fun vs H1=>r vs H1 Q:=by
 obtain⟨S,F,u,S',R,hg,q⟩:=h
 obtain⟨⟨ds,S1⟩,h1,hg⟩:=ak hg
 obtain⟨u',h2,hg⟩:=au hg
 cases hg
 exact⟨S,F,ds,S1,R,h1,fun vs F1 H1 R1 st1 r1=>hr _ _ _ ⟨F1,ds,_,R1.sub,r1,h2,fun v F2 H2 n s2 r2=>q v F2 H2 (R1.new n s2) (st1.trans n.step) (r2.BN R1 st1)⟩⟩
theorem dZ {id:String}(hc:dW X (.builtin id) (rP f)) (hg:Gl X x) (hm:X.mg x=none) (hv:bootBuiltins x=some (.builtin id)) (ha:JA X (e :: es) gA) (hn:x≠"__name__":=by decide) (hdb:(x == ("__debug__":Str))=false:=by decide)
  (he:starEach (e :: es) X.env=(false,eval e X.env) :: starEach es X.env:=by rfl) (hpl:(backTo pos (starEach es X.env)).any (·.1)=false:=by rfl):JE X (.Call (.Name x p) (e :: es) [] pos) (eP f gA):=
 ⟨fun B=>(j3 hc hg hm hv (ha.h B) hn hdb he hpl).imp fun σ H Q h=>jM (fun _ _ _ z=>z) h⟩
theorem gH {T:String}(hc:dW X (.type T) (rP f)) (hg:Gl X x) (hm:X.mg x=none) (hv:bootBuiltins x=some (.type T)) (ha:JA X (e :: es) gA) (hn:x≠"__name__":=by decide) (hdb:(x == ("__debug__":Str))=false:=by decide)
  (he:starEach (e :: es) X.env=(false,eval e X.env) :: starEach es X.env:=by rfl) (hpl:(backTo pos (starEach es X.env)).any (·.1)=false:=by rfl):JE X (.Call (.Name x p) (e :: es) [] pos) (eP f gA):=
 ⟨fun B=>(xG hc hg hm hv (ha.h B) hn hdb he hpl).imp fun σ H Q h=>jM (fun _ _ _ z=>z) h⟩
noncomputable abbrev qq (X:Cx) (o:Value→Value→Sem Value) (f:List D→Option U):Prop:=mq X o (fun x y H Q=>rP f [x,y] H Q)
theorem mG {K:PySem.W.Frag}{B:Base}{σ:St}{H:Hp}{Q:VK}(h:tE K B (eP f (aa ga (aa gb aq))) σ H Q):EO (fun x y H Q=>rP f [x,y] H Q) (tD K B ga) (tD K B gb) σ H Q:=by
 obtain⟨S,F,u,S',R,hg,q⟩:=h
 obtain⟨⟨ds,S1⟩,h1,hg⟩:=ak hg
 obtain⟨u',h2,hg⟩:=au hg
 cases hg
 obtain⟨⟨d1,T1⟩,k1,h1⟩:=ak h1
 obtain⟨⟨Qs,T2⟩,k2,h1⟩:=au h1
 cases h1
 obtain⟨⟨d2,T3⟩,k3,k2⟩:=ak k2
 obtain⟨⟨S7,T4⟩,k4,k2⟩:=au k2
 cases k2
 cases k4
 exact⟨S,F,d1,T1,R,k1,fun v1 F1 H1 R1 st1 r1=>⟨T1,F1,d2,_,R1,k3,fun v2 F2 H2 R2 st2 r2=>⟨F2,_,_,R2.sub,.cons (r1.le st2.ext.le) (.cons r2 .nil),h2,fun v F3 H3 n s3 r3=>q v F3 H3 (R2.new n s3) ((st1.trans st2).trans n.step) (r3.BN R2 (st1.trans st2))⟩⟩⟩
theorem bf {op:Operator}(ho:qq X (binaryOp op) f) (ha:JD X a ga) (hb:JD X b gb):JE X (.BinOp a op b pos) (eP f (aa ga (aa gb aq))):=
 ⟨fun B=>(FN ho (ha.h B) (hb.h B)).imp fun σ H Q h=>mG h⟩
theorem jN {op:CmpOp}(ho:qq X (compareOp op) f) (ha:JD X a ga) (hb:JD X b gb) (hm:behindInMarks op b=false:=by first | exact zB _ | rfl):JE X (.Compare a [op] [b] pos) (eP f (aa ga (aa gb aq))):=
 ⟨fun B=>(Bs ho (ha.h B) (hb.h B) hm).imp fun σ H Q h=>mG h⟩
theorem GF {op:UnaryOp}(ho:FL X (unaryOp op) (fun x H Q=>rP f [x] H Q)) (ha:JD X a ga):JE X (.UnaryOp op a pos) (eP f (aa ga aq)):=
 ⟨fun B=>(FO ho (ha.h B)).imp fun σ H Q h=>by
 obtain⟨S,F,u,S',R,hg,q⟩:=h
 obtain⟨⟨ds,S1⟩,h1,hg⟩:=ak hg
 obtain⟨u',h2,hg⟩:=au hg
 cases hg
 obtain⟨⟨d1,T1⟩,k1,h1⟩:=ak h1
 obtain⟨⟨Qs,T2⟩,k2,h1⟩:=au h1
 cases h1
 cases k2
 exact⟨S,F,d1,_,R,k1,fun v1 F1 H1 R1 st1 r1=>⟨F1,_,_,R1.sub,.cons r1 .nil,h2,fun v F3 H3 n s3 r3=>q v F3 H3 (R1.new n s3) (st1.trans n.step) (r3.BN R1 st1)⟩⟩⟩
theorem CN (hr:zK X (fun x y H Q=>rP f [x,y] H Q)) (ha:JD X a ga) (hb:JD X b gb) (hs:r9 b):JE X (.Subscript a b pos) (eP f (aa ga (aa gb aq))):=
 ⟨fun B=>(zL hr (ha.h B) (hb.h B) hs).imp fun σ H Q h=>mG h⟩
noncomputable def d7:List D→Option U:=fun ds=>if ds.length≤100000 then some (.t (.tup ds)) else none
noncomputable def fZ:List D→Option U:=fun ds=>if ds.length≤100000 then some (.m (.lst ds)) else none
theorem iD {n:Nat}(h:n≤100000):n≤sizeLine:=Nat.le_trans h (by decide)
end
end L2
end
section
set_option Elab.async false
set_option linter.all false
set_option maxRecDepth 100000
namespace L2
open PySem PySem.Spec PyProof.Rows
section
variable {X:Cx}{a b c e:Expr}{es:List Expr}{pos p p2:Pos}{x:Str}{g ga gb gc:GD}{gA:GA}{f f':List D→Option U}
theorem cy {x1}(h:JA X es gA):JE X (.Tuple es x1 pos) (eP d7 gA):=
 ⟨fun B=>(DF (h.h B)).imp fun σ H Q z=>jM (r:=fun xs H1 Q=>xs.length≤sizeLine∧∀p,H1 p=none→Q (.ref p) (upd H1 p (.tup xs))) (fun vs H1 Q1 ⟨F,ds,u,sb,rs,hf,q⟩=>by
 unfold d7 at hf
 split at hf
 ·rename_i hl
  cases hf
  refine⟨by rw[rs.length];exact iD hl,fun p hp=>?_⟩
  exact q _ _ _ (gg.root sb hp _) (sb.su hp) (.tup aY (rs.le (lM (sb.fresh hp))))
 ·cases hf) z⟩
theorem cX (h:JA X es gA):JE X (.List es pos) (eP fZ gA):=
 ⟨fun B=>(DG (h.h B)).imp fun σ H Q z=>jM (r:=fun xs H1 Q=>xs.length≤sizeLine∧∀p,H1 p=none→Q (.ref p) (upd H1 p (.lst xs))) (fun vs H1 Q1 ⟨F,ds,u,sb,rs,hf,q⟩=>by
 unfold fZ at hf
 split at hf
 ·rename_i hl
  cases hf
  refine⟨by rw[rs.length];exact iD hl,fun p hp=>?_⟩
  exact q _ F _ (gg.obj hp _) (sb.same (gg.obj (F:=F) hp _).same) ⟨p,rfl,hp,sb.fresh hp,vs,aY,rs⟩
 ·cases hf) z⟩
noncomputable def qB (g:GD):GT:=fun S=>(g S).bind fun p=>match p.1 with
 | .bl k=>some (k,p.2)
 | _=>none
noncomputable def mH (g:GT):GT:=fun S=>(g S).map fun p=>(!p.1,p.2)
noncomputable def jX (g h:GT):GT:=fun S=>(g S).bind fun p=>if p.1 then h p.2 else some (false,p.2)
noncomputable def A9 (g h:GT):GT:=fun S=>(g S).bind fun p=>if p.1 then some (true,p.2) else h p.2
noncomputable def eQ (g:GT):GD:=fun S=>(g S).map fun p=>(.bl p.1,p.2)
theorem mJ {S:SS}{k:Bool}{S':SS}(h:qB g S=some (k,S')):g S=some (.bl k,S'):=by
 obtain⟨⟨d,S1⟩,h1,h⟩:=ak h
 cases d <;> cases h
 exact h1
theorem j4 {F:Hp}{v:V}{k:Bool}(r:Rep F v (.bl k)):v= .bl k:=by cases r;rfl
theorem iE {F:Hp}{v:V}{i:Int}(r:Rep F v (.int i)):v= .int i:=by cases r;rfl
theorem wM {F:Hp}{v:V}{i:Str}(r:Rep F v (.str i)):v= .str i:=by cases r;rfl
theorem iL (h:JD X e g) (he:∀whole,isTrue e X.env whole=(do let v ←whole;standAt e.pos;holding [v] (truthy v)):=by intro _;rfl):JT X e (qB g):=
 ⟨fun B=>(Di (h.h B) he).imp fun σ H Q ⟨S,F,k,S',R,hg,q⟩=>⟨S,F,.bl k,S',R,mJ hg,fun v F' H' R' st r=>⟨k,j4 r,q F' H' R' st⟩⟩⟩
theorem GG {K:PySem.W.Frag}{B:Base}{gE:GE}{σ:St}{H:Hp}{Q:VK}(h:tD K B (eF gE) σ H Q):tE K B gE σ H Q:=by
 obtain⟨S,F,d,S',R,hg,q⟩:=h
 obtain⟨⟨u,S1⟩,h1,hg⟩:=ak hg
 refine⟨S,F,u,S1,R,h1,fun v F1 H1 R1 st1 r1=>?_⟩
 obtain⟨F2,R2,st2,r2⟩:=z5 R1 st1 r1 hg
 exact q v F2 H1 R2 st2 r2
theorem gm {op:CmpOp}(ho:qq X (compareOp op) f) (ha:JD X a ga) (hb:JD X b gb) (hm:behindInMarks op b=false:=by first | exact zB _ | rfl):JT X (.Compare a [op] [b] pos) (qB (eF (eP f (aa ga (aa gb aq))))):=
 ⟨fun B=>(Bt ho (ha.h B) (hb.h B) hm).imp fun σ H Q ⟨S,F,k,S',R,hg,q⟩=>mG (GG ⟨S,F,.bl k,S',R,mJ hg,fun v F' H' R' st r=>⟨k,j4 r,q F' H' R' st⟩⟩)⟩
theorem jm {q1:GT}(h:JT X a q1):JT X (.UnaryOp .Not a pos) (mH q1):=
 ⟨fun B=>(Dj (h.h B)).imp fun σ H Q ⟨S,F,k,S',R,hg,q⟩=>by
 obtain⟨⟨d,S1⟩,h1,hg⟩:=au hg
 cases hg
 exact⟨S,F,d,_,R,h1,fun F' H' R' st=>q F' H' R' st⟩⟩
theorem iI {q1:GT}(h:JT X a q1):JW X (.BoolOp .Or [a] pos) q1:=⟨fun B=>pw_or1 (h.h B)⟩
theorem ou {r:List Expr}{q1 q2:GT}(h:JT X a q1) (hr:JW X (.BoolOp .Or (b :: r) pos) q2):JW X (.BoolOp .Or (a :: b :: r) pos) (A9 q1 q2):=
 ⟨fun B=>(pw_or (h.h B) (hr.h B)).imp fun σ H Q ⟨S,F,k,S',R,hg,q⟩=>by
 obtain⟨⟨d,S1⟩,h1,hg⟩:=ak hg
 refine⟨S,F,d,S1,R,h1,fun F1 H1 R1 st1=>?_⟩
 cases d with
 | false=>exact zQ ⟨S1,F1,k,S',R1,hg,fun F2 H2 R2 st2=>q F2 H2 R2 (st1.trans st2)⟩
 | true=>cases hg;exact zR (q F1 H1 R1 st1)⟩
theorem JW.t {q1:GT}(h:JW X e q1):JT X e q1:=⟨fun B=>(h.h B).pt⟩
theorem lN {op}(h:JD X a g):JD X (.BoolOp op [a] pos) (eQ (qB g)):=⟨fun B=>(Dk (h.h B)).imp fun σ H Q ⟨S,F,k,S',R,hg,q⟩=>by
 obtain⟨⟨d,S1⟩,h1,hg⟩:=au hg
 cases hg
 exact⟨S,F,.bl d,_,R,mJ h1,q⟩⟩
theorem j5 {r:List Expr}{q2:GT}(h:JD X a g) (hr:JD X (.BoolOp .And (b :: r) pos) (eQ q2)):JD X (.BoolOp .And (a :: b :: r) pos) (eQ (jX (qB g) q2)):=
 ⟨fun B=>(Dl (h.h B) (hr.h B)).imp fun σ H Q ⟨S,F,k,S',R,hg,q⟩=>by
 obtain⟨⟨d,S1⟩,h1,hg⟩:=au hg
 cases hg
 obtain⟨⟨d1,S2⟩,h1,h2⟩:=ak h1
 refine⟨S,F,.bl d1,S2,R,mJ h1,fun v F1 H1 R1 st1 r1=>⟨d1,j4 r1,?_⟩⟩
 cases d1 with
 | true=>
  have h2:q2 S2=some (d,S1):=h2
  exact zR ⟨S2,F1,.bl d,S1,R1,by show(q2 S2).map _=_;rw[h2];rfl,fun v F2 H2 R2 st2 r2=>q v F2 H2 R2 (st1.trans st2) r2⟩
 | false=>cases h2;exact zQ (q _ F1 H1 R1 st1 (.bl false))⟩
theorem DT (h:JD X a g):JD X (.UnaryOp .Not a pos) (eQ (mH (qB g))):=⟨fun B=>(Dm (h.h B)).imp fun σ H Q ⟨S,F,k,S',R,hg,q⟩=>by
 obtain⟨⟨d,S1⟩,h1,hg⟩:=au hg
 cases hg
 obtain⟨⟨d1,S2⟩,h3,h2⟩:=au h1
 cases h2
 exact⟨S,F,.bl d1,_,R,mJ h3,fun v F1 H1 R1 st1 r1=>⟨d1,j4 r1,q _ F1 H1 R1 st1 (.bl _)⟩⟩⟩
noncomputable def Qt (q:GT) (g h:GE):GE:=fun S=>(q S).bind fun p=>if p.1 then g p.2 else h p.2
theorem jg.weak {K:PySem.W.Frag}{B:Base}{S:SS}{σ:St}{H0 H1 F H:Hp}{v:V}(t:∀b o,H0 b=some o→∃o',H1 b=some o'):∀{u:U},jg K B S σ H1 F H v u→jg K B S σ H0 F H v u
 | .t _,h=>h
 | .s _,h=>h
 | .f _,h=>h
 | .m _,⟨a,e,h0,h⟩=>⟨a,e,none_of t h0,h⟩
 | .v _,h=>h
 | .b _,h=>h
noncomputable def GH (f f':List D→Option U) (ga gb gc:GD):GD:=fun S=>(ga S).bind fun p=>(gb p.2).bind fun q=>match f [p.1,q.1] with
 | some (.t (.bl k))=>if k then(gc q.2).bind fun r=>match f' [q.1,r.1] with
   | some (.t (.bl k'))=>some (.bl k',r.2)
   | _=>none
  else some (.bl false,q.2)
 | _=>none
theorem GJ {K : PySem.W.Frag} {B : Base} {σ : St} {H : Hp} {Q : VK} (h : tD K B (GH f f' ga gb gc) σ H Q) : zC (fun x y H Q => rP f [x, y] H Q) (fun x y H Q => rP f' [x, y] H Q) (tD K B ga) (tD K B gb) (tD K B gc) σ H Q := by
  obtain⟨S,F,d,S',R,hg,q⟩:=h
  obtain⟨⟨d1,S1⟩,h1,hg⟩:=ak hg
  obtain⟨⟨d2,S2⟩,h2,hg⟩:=ak hg
  refine⟨S,F,d1,S1,R,h1,fun v1 F1 H1 R1 st1 r1=>⟨S1,F1,d2,S2,R1,h2,fun v2 F2 H2 R2 st2 r2=>?_⟩⟩
  dsimp only at hg
  split at hg
  · rename_i k hk
    refine⟨F2,_,_,R2.sub,.cons (r1.le st2.ext.le) (.cons r2 .nil),hk,fun v F3 H3 n s3 r3=>⟨k,j4 r3,?_⟩⟩
    have R3:=R2.new n s3
    have st3:Step S S2 σ F H F3 H3:=(st1.trans st2).trans n.step
    cases k with
    | false=>cases hg;exact zQ (q _ F3 H3 R3 st3 (.bl false))
    | true=>
      obtain⟨⟨d3,S3⟩,h3,hg⟩:=ak hg
      refine zR ⟨S2,F3,d3,S3,R3,h3,fun v3 F4 H4 R4 Gy r4=>?_⟩
      dsimp only at hg
      split at hg
      · rename_i k' hk'
        cases hg
        exact⟨F4,_,_,R4.sub,.cons (r2.le fun b o z=>Gy.ext.le b o (n.le b o z)) (.cons r4 .nil),hk',fun v F5 H5 n5 s5 r5=>q v F5 H5 (R4.new n5 s5) ((st3.trans Gy).trans n5.step) r5⟩
      · cases hg
  · cases hg
theorem z8 {op op':CmpOp}(ho:qq X (compareOp op) f) (ho':qq X (compareOp op') f') (ha:JD X a ga) (hb:JD X b gb) (hc:JD X c gc) (hm:lastMarks [op,op'] [b,c]=false:=by with_unfolding_all rfl):
  JD X (.Compare a [op,op'] [b,c] pos) (GH f f' ga gb gc):=⟨fun B=>(zD ho ho' (ha.h B) (hb.h B) (hc.h B) hm).imp fun σ H Q h=>GJ h⟩
end
end L2
end
section
set_option Elab.async false
set_option linter.all false
set_option maxRecDepth 100000
namespace L2
open PySem PySem.Spec PyProof.Rows
theorem bO {α:Type}{c:Prop}{i:Decidable c}{x w:α}(h:(@ite _ c i (some x) none)=some w):c∧x=w:=by
 by_cases hc:c
 ·rw[if_pos hc] at h;exact⟨hc,Option.some.inj h⟩
 ·rw[if_neg hc] at h;cases h
theorem xT {α:Type}{c:Prop}{i:Decidable c}{x:Option α}{w:α}(h:(@ite _ c i x none)=some w):c∧x=some w:=by
 by_cases hc:c
 ·rw[if_pos hc] at h;exact⟨hc,h⟩
 ·rw[if_neg hc] at h;cases h
theorem z9 {F:Hp}{x:V}{ds:List D}(r:aQ F [x] ds):∃d,ds=[d]∧Rep F x d:=by
 cases r with
 | cons r rs=>cases rs;exact⟨_,rfl,r⟩
theorem ow {F:Hp}{x y:V}{ds:List D}(r:aQ F [x,y] ds):∃d e,ds=[d,e]∧Rep F x d∧Rep F y e:=by
 cases r with
 | cons r rs=>obtain⟨e,rfl,r2⟩:=z9 rs;exact⟨_,e,rfl,r,r2⟩
noncomputable def zc (C:Int→Int→Bool) (h:Int→Int→D):List D→Option U
 | [.int i,.int j]=>if C i j then some (.t (h i j)) else none
 | _=>none
section
variable {X:Cx}
theorem mK {o:Value→Value→Sem Value}{C:Int→Int→Bool}{h:Int→Int→D}{r:R2}(hr:mq X o r) (k:∀i j H Q,C i j=true→Q (toV (h i j)) H→r (.int i) (.int j) H Q) (hf:∀i j,oq (h i j)=true):qq X o (zc C h):=by
 intro pins s σ H x y v u Q I rx ry ⟨F,ds,w,sb,rs,hw,q⟩
 obtain⟨d,e,rfl,r1,r2⟩:=ow rs
 cases r1 <;> cases r2 <;> try (simp[zc] at hw;done)
 rename_i i j
 obtain⟨hc,rfl⟩:=bO hw
 exact hr pins s σ H _ _ v u Q I rx ry (k i j H Q hc (q _ F H (gg.refl ..) sb (tU (hf i j))))
noncomputable abbrev o7:=zc (fun _ _=>true) fun i j=>.int (i - j)
noncomputable abbrev zd:=zc (fun _ _=>true) fun i j=>.bl (decide (i < j))
noncomputable abbrev BP:=zc (fun _ _=>true) fun i j=>.bl (decide (i≤j))
noncomputable abbrev ET:=zc (fun _ _=>true) fun i j=>.bl (decide (j < i))
noncomputable abbrev OT:=zc (fun _ _=>true) fun i j=>.bl (decide (j≤i))
noncomputable abbrev DU:=zc (fun _ j=>decide (0 < j) && decide (j < 1073741824)) fun i j=>.int (i / j)
noncomputable abbrev qu:=zc (fun _ j=>decide (0 < j)) fun i j=>.int (i % j)
noncomputable abbrev vK:=zc (fun i j=>decide (0≤j) && (decide (j≤1000) && decide (i.natAbs < 2 ^ 64))) fun i j=>.int (i ^ j.toNat)
theorem mL:qq X (binaryOp .Sub) o7:=mK Dz (fun i j H Q _ q=>⟨i,j,rfl,rfl,q⟩) fun _ _=>rfl
theorem pK:qq X (compareOp .Lt) zd:=mK FT (fun i j H Q _ q=>⟨i,j,rfl,rfl,q⟩) fun _ _=>rfl
theorem pL:qq X (compareOp .LtE) BP:=mK FU (fun i j H Q _ q=>⟨i,j,rfl,rfl,q⟩) fun _ _=>rfl
theorem Aa:qq X (compareOp .Gt) ET:=mK FW (fun i j H Q _ q=>⟨i,j,rfl,rfl,q⟩) fun _ _=>rfl
theorem DV:qq X (compareOp .GtE) OT:=mK FY (fun i j H Q _ q=>⟨i,j,rfl,rfl,q⟩) fun _ _=>rfl
theorem wN:qq X (binaryOp .FloorDiv) DU:=mK Br (fun i j H Q c q=>⟨i,j,rfl,rfl,by simpa[FQ] using c,q⟩) fun _ _=>rfl
theorem jh:qq X (binaryOp .Mod) qu:=mK DB (fun i j H Q c q=>⟨i,j,rfl,rfl,by simpa using c,q⟩) fun _ _=>rfl
theorem pA:qq X (binaryOp .Pow) vK:=mK DC (fun i j H Q c q=>⟨i,j,rfl,rfl,by
 simp only[Bool.and_eq_true,decide_eq_true_eq] at c
 exact⟨c.1,Int.le_trans c.2.1 (by decide),c.2.2⟩,q⟩) fun _ _=>rfl
theorem Sub.iK {F H:Hp}{v:V}{ds:List D}(s:Sub F H) (r:Rep F v (.tup ds)):∃a vs,v= .ref a∧F a=some (.tup vs)∧Rd H a (.tup vs)∧aQ F vs ds:=by
 cases r with
 | tup e rs=>exact⟨_,_,rfl,e,Rd.of (s _ _ e),rs⟩
theorem Sub.ie {F H:Hp}{v:V}{ds:List D}(s:Sub F H) (r:Rep F v (.lst ds)):∃a vs,v= .ref a∧F a=some (.lst vs)∧Rd H a (.lst vs)∧aQ F vs ds:=by
 cases r with
 | lst e rs=>exact⟨_,_,rfl,e,Rd.of (s _ _ e),rs⟩
theorem _root_.L2.Rd.vH {pins:List (Addr×Obj)}{σ:St}{H:Hp}{s:Shared}(I:Inv X pins σ H s){l:Addr}{xs:List V}(h:Rd H l (.lst xs)):
  xs.length≤sizeLine∧∃its n,Vals xs its∧xs.length=its.length∧s.heap.get? l=some {cls:=.type "list",data:=.seq its.toArray n}:=by
 obtain⟨z,its,n,r,e⟩:=(h.ok I.hok:dU X.prog X.w H s.heap l (.lst xs))
 exact⟨z,its,n,r,r.length,e⟩
noncomputable def cD:List D→Option U
 | [.int i,.int j]=>some (.t (.int (i+j)))
 | [.str i,.str j]=>if i.length+j.length≤100000 then some (.t (.str (i++j))) else none
 | [.tup i,.tup j]=>if i.length+j.length≤100000 then some (.t (.tup (i++j))) else none
 | [.lst i,.lst j]=>if i.length+j.length≤100000 then some (.m (.lst (i++j))) else none
 | _=>none
theorem bI : qq X (binaryOp .Add) cD := by
  intro pins s σ H x y v u Q I rx ry ⟨F,ds,w,sb,rs,hw,q⟩
  obtain⟨d,e,rfl,r1,r2⟩:=ow rs
  cases d <;> cases e <;> try (simp[cD] at hw;done)
  · rename_i i j
    cases hw
    cases r1
    cases r2
    exact Dy pins s σ H _ _ v u Q I rx ry ⟨i,j,rfl,rfl,q _ F H (gg.refl ..) sb (.int _)⟩
  · rename_i i j
    obtain⟨hl,rfl⟩:=bO hw
    cases r1
    cases r2
    exact vA pins s σ H _ _ v u Q I rx ry ⟨i,j,rfl,rfl,iD hl,q _ F H (gg.refl ..) sb (.str _)⟩
  · rename_i i j
    obtain⟨hl,rfl⟩:=bO hw
    have Qu:=r2
    have Qv:=r1
    obtain⟨a,xs,rfl,fa,ha,oz⟩:=sb.iK r1
    obtain⟨b,ys,rfl,fb,hb,BQ⟩:=sb.iK r2
    by_cases hx:xs=[]
    · subst hx
      cases oz
      cases rx
      cases ry
      obtain⟨its,r1',p1,_⟩:=I.tuple (.inl ha)
      obtain⟨its2,r2',p2,_⟩:=I.tuple (.inl hb)
      cases r1'
      obtain⟨⟨cls,dd,data,sl⟩,ho,hc,n,hd⟩:=id p1
      obtain⟨⟨Kh,dd2,data2,sl2⟩,ho2,hc2,n2,hd2⟩:=id p2
      simp only at hc hd hc2 hd2
      subst hc hd hc2 hd2
      exact concat_meets ⟨_,ho,rfl⟩ ⟨_,ho2,rfl⟩ noFill_tuple_add seq_tuple_add PySem.F.slot_tuple_add PySem.F.entry_tuple_add (PySem.F.args_tuple_add_2 _ _)
        (tuple_addW0 a b _ _ n n2 dd dd2 sl sl2 (by simp)) ⟨ho,ho2,⟨.ref b,H,I,rfl,q _ F H (gg.refl ..) sb Qu⟩⟩
    · refine BC pins s σ H (.ref a) (.ref b) v u Q I rx ry ⟨a,b,xs,ys,rfl,rfl,.inl ha,.inl hb,hx,?_,fun hy=>?_,fun hy p hp=>?_⟩
      · rw[oz.length,BQ.length];exact iD hl
      · subst hy
        cases BQ
        exact q _ F H (gg.refl ..) sb (by show Rep F (.ref a) (.tup (i++[]));rw[List.append_nil];exact Qv)
      · exact q _ _ _ (gg.root sb hp _) (sb.su hp) (.tup aY ((oz.append BQ).le (lM (sb.fresh hp))))
  · rename_i i j
    obtain⟨hl,rfl⟩:=bO hw
    obtain⟨a,xs,rfl,fa,ha,oz⟩:=sb.ie r1
    obtain⟨b,ys,rfl,fb,hb,BQ⟩:=sb.ie r2
    cases rx
    cases ry
    obtain⟨z,its,n,r,hl1,e⟩:=Rd.vH I ha
    obtain⟨z2,its2,n2,r2,hl2,e2⟩:=Rd.vH I hb
    have hlen:xs.length+ys.length≤sizeLine:=by rw[oz.length,BQ.length];exact iD hl
    refine PySem.P.add_list e e2 ?_ (by rw[List.size_toArray,List.size_toArray];omega)
    have ea:its.toArray++its2.toArray=(its++its2).toArray:=by simp
    rw[ea]
    have hp:H s.heap.objs.size=none:=I.fresh
    refine⟨.ref _,_,I.Gv (t':=s.toks) (r.append r2) (by rw[List.length_append];omega),rfl,?_⟩
    exact q _ F _ (gg.obj hp _) (sb.same (gg.obj (F:=F) hp _).same) ⟨_,rfl,hp,sb.fresh hp,_,aY,oz.append BQ⟩
noncomputable def sy:List D→Option U:=zc (fun i j=>(decide (-(2 ^ 64) < i) && decide (i < 2 ^ 64)) || (decide (-(2 ^ 64) < j) && decide (j < 2 ^ 64))) fun i j=>.int (i * j)
theorem jO:qq X (binaryOp .Mult) sy:=mK DA (fun i j H Q c q=>⟨i,j,rfl,rfl,by
 simp only[Bool.or_eq_true,Bool.and_eq_true,decide_eq_true_eq] at c
 exact c,q⟩) fun _ _=>rfl
noncomputable def BR:List D→Option U
 | [.int i]=>some (.t (.int (-i)))
 | _=>none
theorem BS:FL X (unaryOp .USub) (fun x H Q=>rP BR [x] H Q):=by
 intro pins s σ H x v Q I rx ⟨F,ds,w,sb,rs,hw,q⟩
 obtain⟨d,rfl,r1⟩:=z9 rs
 cases r1 <;> try (simp[BR] at hw;done)
 rename_i i
 cases hw
 exact DE pins s σ H _ v Q I rx ⟨i,rfl,q _ F H (gg.refl ..) sb (.int _)⟩
noncomputable def Ba:List D→Option U
 | [.tup ds,.int i]=>(gG ds i).map .t
 | [.lst ds,.int i]=>(gG ds i).map .t
 | [.str z,.int i]=>if z.length≤100000 then(gG z.cps.toList i).map fun c=>.t (.str ⟨#[c]⟩) else none
 | _=>none
theorem GK:zK X (fun x y H Q=>rP Ba [x,y] H Q):=by
 intro value slice pins s σ H x y v u Q I rx ry ⟨F,ds,w,sb,rs,hw,q⟩ hsb
 obtain⟨d,e,rfl,r1,r2⟩:=ow rs
 cases d <;> cases e <;> try (simp[Ba] at hw;done)
 ·rename_i z i
  obtain⟨hl,hw⟩:=xT hw
  obtain⟨c,hc,hw⟩:=au hw
  subst hw
  cases r1
  cases r2
  exact zN value slice pins s σ H _ _ v u Q I rx ry ⟨z,i,c,rfl,rfl,iD hl,hc,q _ F H (gg.refl ..) sb (.str _)⟩ hsb
 ·rename_i ds i
  obtain⟨c,hc,hw⟩:=au (show(gG ds i).map U.t=some w from hw)
  subst hw
  obtain⟨a,xs,rfl,fa,ha,oz⟩:=sb.iK r1
  cases r2
  obtain⟨w',h1,h2⟩:=oz.gG hc
  exact zM value slice pins s σ H _ _ v u Q I rx ry ⟨a,xs,i,w',rfl,rfl,.inl ha,h1,q _ F H (gg.refl ..) sb h2⟩ hsb
 ·rename_i ds i
  obtain⟨c,hc,hw⟩:=au (show(gG ds i).map U.t=some w from hw)
  subst hw
  obtain⟨a,xs,rfl,fa,ha,oz⟩:=sb.ie r1
  cases r2
  obtain⟨w',h1,h2⟩:=oz.gG hc
  exact wI value slice pins s σ H _ _ v u Q I rx ry ⟨a,xs,i,w',rfl,rfl,.inl ha,h1,q _ F H (gg.refl ..) sb h2⟩ hsb
noncomputable def pM:List D→Option U
 | [.tup ds]=>some (.t (.int ds.length))
 | [.lst ds]=>some (.t (.int ds.length))
 | [.str z]=>if z.length≤100000 then some (.t (.int z.length)) else none
 | _=>none
theorem kR:dW X (.builtin "len") (rP pM):=by
 intro pins s σ H xs us Q I r ⟨F,ds,w,sb,rs,hw,q⟩
 match xs,ds,rs with
 | [],[],_=>exact absurd hw (by simp[pM])
 | [x],_,rs=>
  obtain⟨d,rfl,r1⟩:=z9 rs
  cases d <;> try (simp[pM] at hw;done)
  ·rename_i z
   obtain⟨hl,rfl⟩:=bO hw
   cases r1
   exact mD pins s σ H _ us Q I r ⟨z,rfl,iD hl,q _ F H (gg.refl ..) sb (.int _)⟩
  ·cases hw
   obtain⟨a,xs,rfl,fa,ha,oz⟩:=sb.iK r1
   exact jK pins s σ H _ us Q I r ⟨a,xs,rfl,.inr (.inl ha),by rw[oz.length];exact q _ F H (gg.refl ..) sb (.int _)⟩
  ·cases hw
   obtain⟨a,xs,rfl,fa,ha,oz⟩:=sb.ie r1
   exact jK pins s σ H _ us Q I r ⟨a,xs,rfl,.inl (.inl ha),by rw[oz.length];exact q _ F H (gg.refl ..) sb (.int _)⟩
 | _ :: _ :: _,[],rs=>cases rs
 | _ :: _ :: _,[_],rs=>cases rs with | cons _ rs=>cases rs
 | _ :: _ :: _,_ :: _ :: _,_=>exact absurd hw (by simp[pM])
end
end L2
end
section
set_option Elab.async false
set_option linter.all false
set_option maxRecDepth 100000
namespace L2
open PySem PySem.Spec PyProof.Rows
noncomputable def lC (i:Nat) (u:U) (S:SS):Option SS:=match S[i]? with
 | some (some (.b _))=>none
 | some _=>some (S.set i (some u))
 | none=>none
theorem xU {i:Nat}{u:U}{S S':SS}(h:lC i u S=some S'):S'=S.set i (some u)∧i < S.length∧∀o,S[i]?≠some (some (.b o)):=by
 unfold lC at h
 cases e:S[i]? with
 | none=>rw[e] at h;cases h
 | some w=>
  have hl:i < S.length:=(List.getElem?_eq_some_iff.mp e).1
  rw[e] at h
  cases w with
  | none=>cases h;exact⟨rfl,hl,fun o z=>by cases z⟩
  | some w=>
   cases w with
   | b o=>cases h
   | t d=>cases h;exact⟨rfl,hl,fun o z=>by cases z⟩
   | m d=>cases h;exact⟨rfl,hl,fun o z=>by cases z⟩
   | v d=>cases h;exact⟨rfl,hl,fun o z=>by cases z⟩
   | s d=>cases h;exact⟨rfl,hl,fun o z=>by cases z⟩
   | f d=>cases h;exact⟨rfl,hl,fun o z=>by cases z⟩
noncomputable def CO (B:Base) (S:SS) (σ:St) (F H:Hp) (v:V):U→Prop
 | .t d=>Rep F v d
 | .m o=>∃a,v= .ref a∧F a=none∧At F H a o∧¬dG S σ a∧B.H a=none
 | _=>False
theorem Rel.put {K : PySem.W.Frag} {B : Base} {S S' : SS} {σ : St} {F H : Hp} {i : Nat} {u : U} {v : V} (R : Rel K B S σ F H) (h : lC i u S = some S') (p : CO B S σ F H v u) : Rel K B S' (σ.set i (some v)) F H := by
  obtain⟨rfl,hl,nb⟩:=xU h
  have hl':i < σ.length:=by rw[←R.len];exact hl
  have out:∀{j:Nat},i≠j→(σ.set i (some v))[j]? =σ[j]?:=fun ne=>List.getElem?_set_ne ne
  have xV:(σ.set i (some v))[i]? =some (some v):=List.getElem?_set_self hl'
  have CP:∀j w a,i≠j→S[j]? =some (some w)→dY w=true→dY u=true→σ[j]? =some (some (.ref a))→v≠.ref a:=fun j w a ne hj hm hu hv z=>by
    cases u with
    | t d=>cases hu
    | v k=>cases hu
    | s k=>cases hu
    | f k=>cases hu
    | b o=>exact p
    | m o=>
      obtain⟨c,e,_,_,nm,_⟩:=p
      rw[z] at e
      cases e
      exact nm ⟨j,w,hj,hm,hv⟩
  refine⟨R.sub,by rw[List.length_set,List.length_set];exact R.len,fun j w hj=>?_,fun j k w1 w2 a h1 m1 h2 m2 v1 v2=>?_,fun j o a hj hv=>?_,fun j o a hj hv=>?_,fun j a hj=>?_,R.ext⟩
  · rcases get_set hj with⟨rfl,q,_⟩ | ⟨ne,q⟩
    · cases q
      refine⟨v,xV,?_⟩
      cases u with
      | t d=>exact p
      | m o=>obtain⟨a,e,f,h,_⟩:=p;exact⟨a,e,f,h⟩
      | b o=>cases p
      | v k=>cases p
      | s k=>cases p
      | f k=>cases p
    · rw[out ne];exact R.rep j w q
  · rcases get_set h1 with⟨rfl,q1,_⟩ | ⟨ne1,q1⟩
    · rcases get_set h2 with⟨rfl,q2,_⟩ | ⟨ne2,q2⟩
      · rfl
      · cases q1
        rw[xV] at v1
        rw[out ne2] at v2
        cases v1
        exact absurd rfl (CP k w2 a ne2 q2 m2 m1 v2)
    · rcases get_set h2 with⟨rfl,q2,_⟩ | ⟨ne2,q2⟩
      · cases q2
        rw[xV] at v2
        rw[out ne1] at v1
        cases v2
        exact absurd rfl (CP j w1 a ne1 q1 m1 m2 v1)
      · rw[out ne1] at v1
        rw[out ne2] at v2
        exact R.xS j k w1 w2 a q1 m1 q2 m2 v1 v2
  · rcases get_set hj with⟨rfl,q,_⟩ | ⟨ne,q⟩
    · cases q
      rw[xV] at hv
      cases hv
      obtain⟨c,e,_,_,_,hB⟩:=p
      cases e
      exact hB
    · rw[out ne] at hv;exact R.own j o a q hv
  · rcases get_set hj with⟨rfl,q,_⟩ | ⟨ne,q⟩
    · cases q;cases p
    · rw[out ne] at hv;exact R.bor j o a q hv
  · obtain⟨h1,o,h2⟩:=R.par j a hj
    have ne:i≠j:=fun z=>by subst z;exact nb o h2
    exact⟨by rw[out ne];exact h1,o,by rw[List.getElem?_set_ne ne];exact h2⟩
noncomputable def iM:GS:=fun S=>some (.nx S)
noncomputable def bg (a b:GS):GS:=fun S=>(a S).bind fun o=>match o with
 | .nx S1=>b S1
 | o=>some o
noncomputable def bR (i:Nat) (g:GE):GS:=fun S=>(g S).bind fun p=>match p.1 with
 | .m o=>(lC i (.m o) p.2).map .nx
 | u=>(fz u p.2).bind fun q=>(lC i (.t q.1) q.2).map .nx
noncomputable def pN (g:GE):GS:=fun S=>(g S).map fun p=>.nx p.2
noncomputable def cL (g:GE):GS:=fun S=>(g S).bind fun p=>match p.1 with
 | .v i=>match p.2[i]? with
  | some (some (.t d))=>some (.rt (.t d) p.2)
  | some (some (.m o))=>some (.rt (.m o) (p.2.set i none))
  | _=>none
 | .s _=>none
 | .f _=>none
 | u=>some (.rt u p.2)
noncomputable def GL:GS:=fun S=>some (.rt (.t .cg) S)
noncomputable def pB (q:GT) (a b:GS):GS:=fun S=>(q S).bind fun p=>if p.1 then a p.2 else b p.2
theorem wL.mono {K:PySem.W.Frag}{B:Base}{F F1:Hp}{D:Ends}(g:∀b o,F b=some o→F1 b=some o):∀{o:Out},wL K B F D o→wL K B F1 D o
 | .nx _,h=>fun σ' F' H' R le=>h σ' F' H' R fun b o z=>le b o (g b o z)
 | .bk _,h=>fun σ' F' H' R le=>h σ' F' H' R fun b o z=>le b o (g b o z)
 | .ct _,h=>fun σ' F' H' R le=>h σ' F' H' R fun b o z=>le b o (g b o z)
 | .rt _ _,h=>fun v σ' F' H' R le=>h v σ' F' H' R fun b o z=>le b o (g b o z)
section
variable {X:Cx}{a b c e:Expr}{pos p p2:Pos}{x:Str}{st:Stmt}{rest b1 b2 body:List Stmt}{g:GE}{s1 s2:GS}{q1:GT}
theorem fC:JB X [] iM:=⟨fun B=>Bj.imp fun D σ H ⟨S,F,o,R,h,k⟩=>by cases h;exact k σ F H R fun _ _ z=>z⟩
theorem aE (h1:JS X st s1) (h2:JB X rest s2):JB X (st :: rest) (bg s1 s2):=⟨fun B=>(zo (h1.h B) (h2.h B)).imp fun D σ H ⟨S,F,o,R,h,k⟩=>by
 obtain⟨o1,e1,h⟩:=ak h
 refine⟨S,F,o1,R,e1,?_⟩
 cases o1 with
 | nx S1=>exact fun σ' F' H' R' le=>⟨S1,F',o,R',h,k.mono le⟩
 | rt u S1=>cases h;exact k
 | bk S1=>cases h;exact k
 | ct S1=>cases h;exact k⟩
theorem aO (h1:JS X st s1):JB X [st] s1:=⟨fun B=>Bk (h1.h B)⟩
theorem jg.put {K:PySem.W.Frag}{B:Base}{S:SS}{σ:St}{H0 F H:Hp}{v:V}{o:MO}(r:jg K B S σ H0 F H v (.m o)):CO B S σ F H v (.m o):=by
 obtain⟨a,e,_,f,h,n,hB⟩:=r
 exact⟨a,e,f,h,n,hB⟩
theorem wO {i:Nat}{K:PySem.W.Frag}{B:Base}{D:Ends}{σ:St}{H:Hp}(h:tO K B (bR i g) D σ H):Bp (tE K B g) (qP i) D σ H:=by
 obtain⟨S,F,o,R,h,k⟩:=h
 obtain⟨⟨u,S1⟩,h1,h⟩:=ak h
 refine⟨S,F,u,S1,R,h1,fun v F1 H1 R1 st1 r1=>?_⟩
 have go:(∀o',u≠.m o')→(fz u S1).bind (fun q=>(lC i (.t q.1) q.2).map Out.nx)=some o→D.nx (σ.set i (some v)) H1:=fun _ h=>by
  obtain⟨⟨d,S2⟩,h2,h⟩:=ak h
  obtain⟨S3,h3,h⟩:=au h
  subst h
  obtain⟨F2,R2,st2,r2⟩:=z5 R1 st1 r1 h2
  exact k _ F2 H1 (R2.put h3 r2) st2.ext.le
 cases u with
 | m o'=>
  obtain⟨S3,h3,h⟩:=au (show(lC i (.m o') S1).map Out.nx=some o from h)
  subst h
  exact k _ F1 H1 (R1.put h3 r1.put) st1.ext.le
 | t d=>exact go (fun _ z=>by cases z) h
 | b d=>exact go (fun _ z=>by cases z) h
 | s d=>exact go (fun _ z=>by cases z) h
 | f d=>exact go (fun _ z=>by cases z) h
 | v d=>exact go (fun _ z=>by cases z) h
theorem bB {i:Nat}{pos':Pos}(hN:X.N.Nodup) (hi:X.N[i]? =some x) (hx:Loc X.env.scope x) (he:JE X e g) (hs:swapsWith e (some (.Name x pos')) pos.line X.env=pure false:=by rfl)
  (hf:X.fn x=true∨X.env.scope.names.lookup x=some .local:=by first | exact .inl rfl | exact .inr rfl | assumption):JS X (.Assign [.Name x pos'] e pos) (bR i g):=
 ⟨fun B=>(Ds hN hi hx (he.h B) hs hf).imp fun D σ H h=>wO h⟩
theorem mO (he:JE X e g) (hs:swapsWith e none pos.line X.env=pure false:=by rfl):JS X (.Expr e pos) (pN g):=⟨fun B=>(Bl (he.h B) hs).imp fun D σ H ⟨S,F,o,R,h,k⟩=>by
 obtain⟨⟨u,S1⟩,h1,h⟩:=au h
 subst h
 exact⟨S,F,u,S1,R,h1,fun v F1 H1 R1 st1 r1=>k σ F1 H1 R1 st1.ext.le⟩⟩
theorem Rel.drop {K:PySem.W.Frag}{B:Base}{S:SS}{σ:St}{F H:Hp}{i:Nat}{o:MO}(R:Rel K B S σ F H) (h:S[i]? =some (some (.m o))):Rel K B (S.set i none) σ F H:=by
 have back:∀{j w},(S.set i none)[j]? =some (some w)→i≠j∧S[j]? =some (some w):=fun {j w} z=>by
  rcases get_set z with⟨_,q,_⟩ | q
  ·cases q
  ·exact q
 refine⟨R.sub,by rw[List.length_set];exact R.len,fun j w z=>R.rep j w (back z).2,fun j k w1 w2 a h1 m1 h2 m2=>R.xS j k w1 w2 a (back h1).2 m1 (back h2).2 m2,fun j o a z=>R.own j o a (back z).2,fun j o a z=>R.bor j o a (back z).2,fun j a z=>?_,R.ext⟩
 obtain⟨k1,o',k2⟩:=R.par j a z
 have ne:i≠j:=fun z=>by subst z;rw[h] at k2;cases k2
 exact⟨k1,o',by rw[List.getElem?_set_ne ne];exact k2⟩
theorem br (he:JE X e g):JS X (.Return (some e) pos) (cL g):=⟨fun B=>(Dn (he.h B)).imp fun D σ H ⟨S,F,o,R,h,k⟩=>by
  obtain⟨⟨u,S1⟩,h1,h⟩:=ak h
  refine⟨S,F,u,S1,R,h1,fun v F1 H1 R1 st1 r1=>?_⟩
  cases u with
  | t d=>cases h;exact k v σ F1 H1 R1 st1.ext.le r1
  | b d=>cases h;cases r1
  | s d=>cases h
  | f d=>cases h
  | m o'=>cases h;exact k v σ F1 H1 R1 st1.ext.le (by obtain⟨a,e,h0,f,h,n,hB⟩:=r1;exact⟨a,e,hB,f,h,n,hB⟩)
  | v i =>
    obtain⟨hv,w,hw⟩:=r1
    dsimp only at h
    rw[hw] at h
    obtain⟨v',z1,z2⟩:=R1.rep i w hw
    rw[hv] at z1
    cases z1
    cases w with
    | t d=>cases h;exact k v σ F1 H1 R1 st1.ext.le z2
    | b d=>cases h
    | v d=>cases h
    | s d=>cases h
    | f d=>cases h
    | m o'=>
      cases h
      obtain⟨a,rfl,f,ha⟩:=z2
      have hB:=R1.own i o' a hw hv
      refine k _ σ F1 H1 (R1.drop hw) st1.ext.le ⟨a,rfl,hB,f,ha,fun⟨j,w,z,hm,hj⟩=>?_,hB⟩
      rcases get_set z with⟨_,q,_⟩ | ⟨ne,q⟩
      · cases q
      · exact ne (R1.xS i j _ w a hw rfl q hm hv hj)⟩
theorem ig (hc:JT X c q1) (ha:JB X b1 s1) (hb:JB X b2 s2):JS X (.If c b1 b2 pos) (pB q1 s1 s2):=⟨fun B=>(FF (hc.h B) (ha.h B) (hb.h B)).imp fun D σ H ⟨S,F,o,R,h,k⟩=>by
 obtain⟨⟨d,S1⟩,h1,h⟩:=ak h
 refine⟨S,F,d,S1,R,h1,fun F1 H1 R1 st1=>?_⟩
 cases d with
 | true=>exact zR ⟨S1,F1,o,R1,h,k.mono st1.ext.le⟩
 | false=>exact zQ ⟨S1,F1,o,R1,h,k.mono st1.ext.le⟩⟩
noncomputable abbrev GB:=D→SS→Option SS
noncomputable def Qw (K:PySem.W.Frag) (B:Base) (bd:GB):TG:=fun v σ H Q=>∃S F d S',Rel K B S σ F H∧Rep F v d∧bd d S=some S'∧∀σ',Rel K B S' σ' F H→Q σ' H
structure JG (X:Cx) (tg:Expr) (bd:GB):Prop where
 h:∀B,PG X tg (Qw X.K B bd)
noncomputable abbrev ze:=List D→SS→Option SS
noncomputable def KN (K:PySem.W.Frag) (B:Base) (bd:ze):Bm:=fun vs σ H Q=>∃S F ds S',Rel K B S σ F H∧aQ F vs ds∧bd ds S=some S'∧∀σ',Rel K B S' σ' F H→Q σ' H
structure ID (X:Cx) (Ab:List Expr) (bd:ze):Prop where
 h:∀B,CD X Ab (KN X.K B bd)
theorem PG.imp {tg:Expr}{t t':TG}(h:PG X tg t) (k:∀v σ H Q,t' v σ H Q→t v σ H Q):PG X tg t':=fun pins s σ H v u Q I r q=>h pins s σ H v u Q I r (k v σ H Q q)
theorem CD.imp {tg:List Expr}{t t':Bm}(h:CD X tg t) (k:∀v σ H Q,t' v σ H Q→t v σ H Q):CD X tg t':=fun pins s σ H v u Q I r q=>h pins s σ H v u Q I r (k v σ H Q q)
noncomputable def bName (i:Nat):GB:=fun d S=>lC i (.t d) S
theorem eU {i:Nat}(hN:X.N.Nodup) (hi:X.N[i]? =some x) (hx:Loc X.env.scope x) (hf:X.fn x=true∨X.env.scope.names.lookup x=some .local:=by first | exact .inl rfl | exact .inr rfl | assumption):JG X (.Name x pos) (bName i):=
 ⟨fun B=>(wm hN hi hx hf).imp fun v σ H Q ⟨S,F,d,S',R,r,h,k⟩=>k _ (R.put h r)⟩
noncomputable def tV:ze:=fun ds S=>match ds with
 | []=>some S
 | _=>none
noncomputable def ji (b:GB) (bs:ze):ze:=fun ds S=>match ds with
 | d :: r=>(b d S).bind fun S1=>bs r S1
 | []=>none
theorem sA:ID X [] tV:=⟨fun B=>Bo.imp fun vs σ H Q ⟨S,F,ds,S',R,r,h,k⟩=>by
 cases r with
 | nil=>cases h;exact⟨rfl,k σ R⟩
 | cons _ _=>cases h⟩
theorem jx {tg:Expr}{Ab:List Expr}{bd:GB}{GN:ze}(h1:JG X tg bd) (h2:ID X Ab GN) (hs:(assignEach (tg :: Ab) X.env).map (·.2)=assign tg X.env :: (assignEach Ab X.env).map (·.2):=by rfl):ID X (tg :: Ab) (ji bd GN):=
 ⟨fun B=>(zp (h1.h B) (h2.h B) hs).imp fun vs σ H Q ⟨S,F,ds,S',R,r,h,k⟩=>by
 cases r with
 | nil=>cases h
 | cons r rs=>
  obtain⟨S1,e1,h⟩:=ak h
  exact⟨_,_,rfl,S,F,_,S1,R,r,e1,fun σ1 R1=>⟨S1,F,_,S',R1,rs,h,k⟩⟩⟩
noncomputable def sC (n:Nat) (bs:ze):GB:=fun d S=>match d with
 | .tup ds=>if ds.length=n then bs ds S else none
 | _=>none
theorem vL {Ab:List Expr}{k0:Nat}{GN:ze}{n:Nat}(hc:X.calm=true) (h:ID X Ab GN) (hn:(assignEach Ab X.env).length=n:=by rfl) (hst:(assignEach Ab X.env).findIdx? (·.1)=none:=by rfl):JG X (.Tuple Ab k0 pos) (sC n GN):=
 ⟨fun B=>(Dq hc (h.h B) hn hst).imp fun v σ H Q ⟨S,F,d,S',R,r,h,k⟩=>by
 cases d <;> try (cases h)
 rename_i ds
 unfold sC at h
 dsimp only at h
 split at h
 ·rename_i hl
  obtain⟨a,vs,rfl,fa,ha,rs⟩:=R.sub.iK r
  exact⟨a,vs,rfl,.inl ha,by rw[rs.length];exact hl,S,F,ds,S',R,rs,h,k⟩
 ·cases h⟩
noncomputable def BU (bd:GB) (g:GD):GS:=fun S=>(g S).bind fun p=>(bd p.1 p.2).map .nx
theorem Ac {tg:Expr}{bd:GB}{gd:GD}(he:JD X e gd) (hg:JG X tg bd) (hs:swapsWithSole [tg] e pos.line X.env=pure false:=by rfl) (hw:swappedStores [tg] e X.env=pure none:=by rfl)
  (h1:(assignEach [tg] X.env).map (·.2)=[assign tg X.env]:=by rfl):JS X (.Assign [tg] e pos) (BU bd gd):=
 ⟨fun B=>(zq (he.h B) (hg.h B) hs hw h1).imp fun D σ H ⟨S,F,o,R,h,k⟩=>by
 obtain⟨⟨d,S1⟩,e1,h⟩:=ak h
 obtain⟨S2,e2,h⟩:=au h
 subst h
 exact⟨S,F,d,S1,R,e1,fun v F1 H1 R1 st1 r1=>⟨S1,F1,d,S2,R1,r1,e2,fun σ' R2=>k σ' F1 H1 R2 st1.ext.le⟩⟩⟩
noncomputable def Walk (J:It) (F:Hp) (ds:List D):Prop:=∀F' H',(∀b o,F b=some o→F' b=some o)→Sub F' H'→∀i,(∀d,ds[i]? =some d→J.go i H'∧∀x H2,J.Iu i H' x H2→H2=H'∧Rep F' x d)∧(ds.length≤i→J.stop i H')
noncomputable abbrev GI:=SS→Option (List D×SS)
noncomputable def OU (K:PySem.W.Frag) (B:Base) (gi:GI):TI:=fun σ H R=>∃S F ds S',Rel K B S σ F H∧gi S=some (ds,S')∧∀J F' H',Rel K B S' σ F' H'→Step S S' σ F H F' H'→Walk J F' ds→R J H'
structure JI (X:Cx) (tg e:Expr) (gi:GI):Prop where
 h:∀B,PI X tg e (OU X.K B gi)
theorem PI.orelse {tg:Expr}{wi:TI}(h:∀σ H R,wi σ H R→∃wi',PI X tg e wi'∧wi' σ H R):PI X tg e wi:=fun pins s σ H R I q=>let⟨_,h1,h2⟩:=h σ H R q;h1 pins s σ H R I h2
noncomputable def BV (g:GD):GI:=fun S=>(g S).bind fun p=>match p.1 with
 | .tup ds=>some (ds,p.2)
 | .lst ds=>some (ds,p.2)
 | _=>none
noncomputable def o8 (g:GD):GI:=fun S=>(g S).bind fun p=>match p.1 with
 | .tup ds=>some (ds,p.2)
 | .lst ds=>some (ds,p.2)
 | .str z=>some (z.cps.toList.map fun c=>.str ⟨#[c]⟩,p.2)
 | _=>none
theorem q8 {K:PySem.W.Frag}{F:Hp}{a:Addr}{vs:List V}{ds:List D}(fa:F a=some (.lst vs)) (rs:aQ F vs ds):Walk (J6 K a) F ds:=fun F' H' le sb i=>by
 have ha:lB K H' a vs:=.inl (Rd.of (sb a _ (le _ _ fa)))
 refine⟨fun d hd=>?_,fun hl=>⟨vs,ha,by rw[rs.length];exact hl⟩⟩
 obtain⟨v,h1,h2⟩:=rs.get hd
 refine⟨⟨vs,v,ha,h1⟩,fun x H2 y=>⟨y.1,?_⟩⟩
 have:=y.2 vs ha
 rw[h1] at this
 cases this
 exact h2.le le
theorem tW {K:PySem.W.Frag}{F:Hp}{a:Addr}{vs:List V}{ds:List D}(fa:F a=some (.tup vs)) (rs:aQ F vs ds):Walk (J7 K a) F ds:=fun F' H' le sb i=>by
 have ha:qO K H' a vs:=.inl (Rd.of (sb a _ (le _ _ fa)))
 refine⟨fun d hd=>?_,fun hl=>⟨vs,ha,by rw[rs.length];exact hl⟩⟩
 obtain⟨v,h1,h2⟩:=rs.get hd
 refine⟨⟨vs,v,ha,h1⟩,fun x H2 y=>⟨y.1,?_⟩⟩
 have:=y.2 vs ha
 rw[h1] at this
 cases this
 exact h2.le le
theorem Ad {F:Hp}{z:Str}:Walk (KH z) F (z.cps.toList.map fun c=>.str ⟨#[c]⟩):=fun F' H' le sb i=>by
 refine⟨fun d hd=>?_,fun hl=>(show z.cps.size≤i by simpa using hl)⟩
 rw[List.getElem?_map] at hd
 obtain⟨c,hc,rfl⟩:=au hd
 have hc':z.cps[i]? =some c:=by rw[←Array.getElem?_toList];exact hc
 refine⟨(Array.getElem?_eq_some_iff.mp hc').1,fun x H2 y=>⟨y.1,?_⟩⟩
 obtain⟨c2,k1,rfl⟩:=y.2
 rw[hc'] at k1
 cases k1
 exact .str _
theorem DW {tg:Expr}{gd:GD}(h:JD X e gd):JI X tg e (BV gd):=⟨fun B=>PI.orelse fun σ H R0 ⟨S,F,ds,S',R,hg,k⟩=>by
 obtain⟨⟨d,S1⟩,h1,hg⟩:=ak hg
 cases d <;> try (cases hg)
 ·refine⟨_,zx (h.h B),S,F,_,_,R,h1,fun v F1 H1 R1 st1 r1=>?_⟩
  obtain⟨a,vs,rfl,fa,ha,rs⟩:=R1.sub.iK r1
  exact⟨a,rfl,⟨vs,.inl ha⟩,k _ F1 H1 R1 st1 (tW fa rs)⟩
 ·refine⟨_,wu (h.h B),S,F,_,_,R,h1,fun v F1 H1 R1 st1 r1=>?_⟩
  obtain⟨a,vs,rfl,fa,ha,rs⟩:=R1.sub.ie r1
  exact⟨a,rfl,⟨vs,.inl ha⟩,k _ F1 H1 R1 st1 (q8 fa rs)⟩⟩
theorem jP {gd:GD}(h:JD X e gd):JI X (.Name x pos) e (o8 gd):=⟨fun B=>PI.orelse fun σ H R0 ⟨S,F,ds,S',R,hg,k⟩=>by
 obtain⟨⟨d,S1⟩,h1,hg⟩:=ak hg
 cases d <;> try (cases hg)
 ·refine⟨_,DQ (h.h B),S,F,_,_,R,h1,fun v F1 H1 R1 st1 r1=>?_⟩
  exact⟨_,wM r1,k _ F1 H1 R1 st1 Ad⟩
 ·refine⟨_,zx (h.h B),S,F,_,_,R,h1,fun v F1 H1 R1 st1 r1=>?_⟩
  obtain⟨a,vs,rfl,fa,ha,rs⟩:=R1.sub.iK r1
  exact⟨a,rfl,⟨vs,.inl ha⟩,k _ F1 H1 R1 st1 (tW fa rs)⟩
 ·refine⟨_,wu (h.h B),S,F,_,_,R,h1,fun v F1 H1 R1 st1 r1=>?_⟩
  obtain⟨a,vs,rfl,fa,ha,rs⟩:=R1.sub.ie r1
  exact⟨a,rfl,⟨vs,.inl ha⟩,k _ F1 H1 R1 st1 (q8 fa rs)⟩⟩
noncomputable def jk (lo:Int) (n:Nat):List D:=(List.range n).map fun(k:Nat)=>D.int (lo+(k:Int))
noncomputable def gn (gA:GA):GI:=fun S=>(gA S).bind fun p=>match p.1 with
 | [.int j]=>if j < 1000000∧-1000000 < j then some (jk 0 j.toNat,p.2) else none
 | _=>none
noncomputable def GO (gA:GA):GI:=fun S=>(gA S).bind fun p=>match p.1 with
 | [.int i,.int j]=>if i < 1000000∧-1000000 < i∧j < 1000000∧-1000000 < j then some (jk i (j - i).toNat,p.2) else none
 | _=>none
theorem Ae {F:Hp}{lo:Int}{n:Nat}:Walk (Iv lo n) F (jk lo n):=fun F' H' le sb i=>by
 refine⟨fun d hd=>?_,fun hl=>(show n≤i by simpa[jk] using hl)⟩
 unfold jk at hd
 rw[List.getElem?_map] at hd
 obtain⟨c,hc,rfl⟩:=au hd
 obtain⟨hl,e⟩:=List.getElem?_eq_some_iff.mp hc
 rw[List.getElem_range] at e
 subst e
 refine⟨show i < n by simpa using hl,fun x H2 y=>⟨y.1,?_⟩⟩
 rw[y.2]
 exact .int _
theorem gI {tg : Expr} {gA : GA} (hg : Gl X "range") (hm : X.mg "range" = none) (ha : JA X [a] gA) (hs : starEach [a] X.env = [(false, eval a X.env)] := by rfl) : JI X tg (.Call (.Name "range" p) [a] [] pos) (gn gA) :=
  ⟨fun B=>PI.orelse fun σ H R0 ⟨S,F,ds,S',R,hg',k⟩=>by
  obtain⟨⟨d,S1⟩,h1,hg'⟩:=ak hg'
  refine⟨_,xB hg hm (ha.h B) hs,S,F,d,S1,R,h1,fun vs F1 H1 R1 st1 r1=>?_⟩
  dsimp only at hg'
  split at hg'
  · split at hg'
    · rename_i j hj
      cases hg'
      cases r1 with
      | cons r rs=>
        cases rs
        exact⟨j,by rw[iE r],by omega,by omega,k _ F1 H1 R1 st1 Ae⟩
    · cases hg'
  · cases hg'⟩
noncomputable def loop (bd:GB) (body:GS):List D→SS→Option Out
 | [],S=>some (.nx S)
 | d :: ds,S=>(bd d S).bind fun S1=>(body S1).bind fun o=>match o with
  | .nx S2=>loop bd body ds S2
  | .ct S2=>loop bd body ds S2
  | .bk S2=>some (.nx S2)
  | .rt u S2=>some (.rt u S2)
noncomputable def mQ (bd:GB) (gi:GI) (body:GS):GS:=fun S=>(gi S).bind fun p=>loop bd body p.1 p.2
theorem j6 {tg iter:Expr}{bd:GB}{gi:GI}(hp:PassesOwn (model X.prog X.w) X.A X.env X.xe) (hc:X.calm=true) (hi:JI X tg iter gi) (hg:JG X tg bd) (hb:JB X body s1) (hs:∀x,foldedSetIterable iter X.env x=pure x:=by intro _;rfl):
  JS X (.For tg iter body [] pos) (mQ bd gi s1):=⟨fun B=>(Dt hp hc (hi.h B) (hg.h B) (hb.h B) hs).imp fun D σ H ⟨S,F,o,R,h,k⟩=>by
 obtain⟨⟨ds,S1⟩,h1,h⟩:=ak h
 refine⟨S,F,ds,S1,R,h1,fun J F1 H1 R1 st1 w=>?_⟩
 refine⟨fun i m σ' H'=>∃S' F',Rel X.K B S' σ' F' H'∧(∀b o,F1 b=some o→F' b=some o)∧i≤ds.length∧m=ds.length - i∧loop bd s1 (ds.drop i) S'=some o,⟨_,S1,F1,R1,fun _ _ z=>z,Nat.zero_le _,rfl,h⟩,?_⟩
 rintro i m σ' H' ⟨S',F',R',le,hl,rfl,j7⟩
 have w':=w F' H' le R'.sub i
 by_cases hlt:i < ds.length
 ·have hd:ds[i]? =some ds[i]:=List.getElem?_eq_getElem hlt
  obtain⟨go,yl⟩:=w'.1 _ hd
  rw[List.drop_eq_getElem_cons hlt] at j7
  obtain⟨S2,e2,j7⟩:=ak j7
  obtain⟨o2,e3,j7⟩:=ak j7
  refine .inr ⟨go,_,fun σ2 H2 n=>⟨ds.length - (i+1),by omega,n⟩,fun x H2 y=>?_⟩
  obtain⟨rfl,rx⟩:=yl x H2 y
  refine⟨S',F',_,S2,R',rx,e2,fun σ3 R3=>⟨S2,F',o2,R3,e3,?_⟩⟩
  cases o2 with
  | nx S3=>exact fun GP F4 H4 R4 DX=>⟨S3,F4,R4,fun b o z=>DX b o (le b o z),hlt,rfl,j7⟩
  | ct S3=>exact fun GP F4 H4 R4 DX=>⟨S3,F4,R4,fun b o z=>DX b o (le b o z),hlt,rfl,j7⟩
  | bk S3=>cases j7;exact fun GP F4 H4 R4 DX=>k GP F4 H4 R4 fun b o z=>DX b o (le b o (st1.ext.le b o z))
  | rt u S3=>cases j7;exact fun v GP F4 H4 R4 DX=>k v GP F4 H4 R4 fun b o z=>DX b o (le b o (st1.ext.le b o z))
 ·have e:i=ds.length:=by omega
  subst e
  rw[List.drop_length] at j7
  cases j7
  exact .inl ⟨w'.2 (Nat.le_refl _),k σ' F' H' R' fun b o z=>le b o (st1.ext.le b o z)⟩⟩
end
end L2
end
section
set_option Elab.async false
set_option linter.all false
set_option maxRecDepth 100000
namespace L2
open PySem PySem.Spec PyProof.Rows
noncomputable def EU:U→MO→Option U
 | .m _,o=>some (.m o)
 | .b _,o=>some (.b o)
 | _,_=>none
noncomputable def EV:U→Option MO
 | .m o=>some o
 | .b o=>some o
 | _=>none
noncomputable def o9 (S:SS) (i:Nat) (f:MO→Option (D×MO)):Option (D×SS):=match S[i]? with
 | some (some (.m o))=>(f o).map fun r=>(r.1,S.set i (some (.m r.2)))
 | some (some (.b o))=>(f o).map fun r=>(r.1,S.set i (some (.b r.2)))
 | _=>none
theorem At.GQ {F H:Hp}{a:Addr}{o:MO}{ob:Obj}{u:HO}(h:At F H a o):H a≠some (.ju ob u):=fun z=>by
 cases o with
 | lst ds=>obtain⟨vs,e,_⟩:=h;rw[z] at e;cases e
 | dct ds=>obtain⟨vs,e,_⟩:=h;rw[z] at e;cases e
 | vp ds=>obtain⟨vs,e,_⟩:=h;rw[z] at e;cases e
theorem tR.dG {K:PySem.W.Frag}{F H:Hp}{v:V}{u:U}(r:tR K F H v u) (hm:dY u=true):∃a o,v= .ref a∧F a=none∧EV u=some o∧At F H a o:=by
 cases u with
 | t d=>cases hm
 | v d=>cases hm
 | s d=>cases hm
 | f d=>cases hm
 | m o=>obtain⟨a,e,f,h⟩:=r;exact⟨a,o,e,f,rfl,h⟩
 | b o=>obtain⟨a,e,f,h⟩:=r;exact⟨a,o,e,f,rfl,h⟩
theorem Rel.write {K : PySem.W.Frag} {B : Base} {S : SS} {σ : St} {F H : Hp} {i : Nat} {u u' : U} {a : Addr} {ho : HO} {o : MO} (R : Rel K B S σ F H) (hS : S[i]? = some (some u)) (hu : EU u o = some u') (hv : σ[i]? = some (some (.ref a))) (ha : At F (upd H a ho) a o) :
    Rel K B (S.set i (some u')) σ F (upd H a ho)∧Step S (S.set i (some u')) σ F H F (upd H a ho):=by
  have hm:dY u=true∧dY u'=true:=by cases u <;> cases hu <;> exact⟨rfl,rfl⟩
  have GR:F a=none∧∀b ob w,H b=some (.ju ob w)→b≠a:=by
    obtain⟨v,h1,h2⟩:=R.rep i u hS
    rw[hv] at h1
    cases h1
    obtain⟨b,_,e,f,_,k⟩:=h2.dG hm.1
    cases e
    exact⟨f,fun b ob w z e=>k.GQ (by rw[e] at z;exact z)⟩
  have GV:=GR.1
  have KO:∀b ob w,H b=some (.ju ob w)→upd H a ho b=some (.ju ob w):=fun b ob w z=>by rw[aR (GR.2 b ob w z)];exact z
  have Qx:L2.dG S σ a:=⟨i,u,hS,hm.1,hv⟩
  have hl:i < S.length:=(List.getElem?_eq_some_iff.mp hS).1
  have kb:∀{j w},(S.set i (some u'))[j]? =some (some w)→(i=j∧u'=w)∨(i≠j∧S[j]? =some (some w)):=fun {j w} z=>by
    rcases get_set z with⟨e,q,_⟩ | q
    · exact .inl ⟨e,Option.some.inj q⟩
    · exact .inr q
  have orig:∀{j w},(S.set i (some u'))[j]? =some (some w)→dY w=true→∃w0,S[j]? =some (some w0)∧dY w0=true:=fun {j w} z hw=>by
    rcases kb z with⟨rfl,rfl⟩ | ⟨_,q⟩
    · exact⟨u,hS,hm.1⟩
    · exact⟨w,q,hw⟩
  have keepR:∀b o,b≠a→Rd H b o→Rd (upd H a ho) b o:=fun b o ne r=>by
    rcases r with r | ⟨ob,r⟩
    · exact .inl (by rw[aR ne];exact r)
    · exact .inr ⟨ob,by rw[aR ne];exact r⟩
  refine⟨⟨fun b o z=>by rw[aR (fun e=>by rw[e,GV] at z;cases z)];exact R.sub b o z,by rw[List.length_set];exact R.len,fun j w z=>?_,fun j k w1 w2 c z1 m1 z2 m2=>?_,fun j o' c z hc=>?_,fun j o' c z hc=>?_,fun j c z=>?_,?_⟩,⟨?_,fun c ⟨j,w,z,hw,hc⟩=>?_,fun j w z=>?_⟩⟩
  · rcases kb z with⟨rfl,rfl⟩ | ⟨ne,q⟩
    · refine⟨.ref a,hv,?_⟩
      cases u <;> cases hu
      · exact⟨a,rfl,GV,ha⟩
      · exact⟨a,rfl,GV,ha⟩
    · obtain⟨v,h1,h2⟩:=R.rep j w q
      refine⟨v,h1,?_⟩
      by_cases hw:dY w=true
      · obtain⟨c,o',rfl,f,e,h⟩:=h2.dG hw
        have hca:c≠a:=fun z=>ne (R.xS i j u w a hS hm.1 q hw hv (by rw[h1,z]))
        have h':At F (upd H a ho) c o':=h.le (fun _ _ z=>z) fun o z=>by rw[aR hca];exact z
        cases w <;> cases hw <;> cases e
        · exact⟨c,rfl,f,h'⟩
        · exact⟨c,rfl,f,h'⟩
      · cases w with
        | t d=>exact h2
        | v d=>exact h2
        | s d=>obtain⟨c,e,h⟩:=h2;exact⟨c,e,h.le KO⟩
        | f d=>exact h2
        | m o=>exact absurd rfl hw
        | b o=>exact absurd rfl hw
  · obtain⟨KP,q1,n1⟩:=orig z1 m1
    obtain⟨KQ,q2,n2⟩:=orig z2 m2
    exact R.xS j k KP KQ c q1 n1 q2 n2
  · rcases kb z with⟨rfl,rfl⟩ | ⟨_,q⟩
    · cases u <;> cases hu
      exact R.own _ _ c hS hc
    · exact R.own j o' c q hc
  · rcases kb z with⟨rfl,rfl⟩ | ⟨_,q⟩
    · cases u <;> cases hu
      exact R.bor _ _ c hS hc
    · exact R.bor j o' c q hc
  · obtain⟨k1,o',k2⟩:=R.par j c z
    refine⟨k1,?_⟩
    by_cases e:i=j
    · subst e
      rw[hS] at k2
      cases k2
      cases hu
      exact⟨o,List.getElem?_set_self hl⟩
    · exact⟨o',by rw[List.getElem?_set_ne e];exact k2⟩
  · refine⟨R.ext.le,fun b o z n=>?_,R.ext.jf,fun b o z=>?_,fun b o w z=>KO b o w (R.ext.ju b o w z)⟩
    · have hb:b≠a:=fun e=>by
        subst e
        cases u with
        | m o'=>rw[R.own i o' b hS hv] at z;cases z
        | b o'=>exact n (R.bor i o' b hS hv)
        | t d=>cases hu
        | v d=>cases hu
        | s d=>cases hu
        | f d=>cases hu
      rw[aR hb]
      exact R.ext.keep b o z n
    · by_cases hb:b=a
      · exact⟨ho,by rw[hb,aY]⟩
      · rw[aR hb];exact R.ext.there b o z
  · refine⟨fun _ _ z=>z,fun b o z n=>?_,fun _ _ _ _ z=>z,fun b o z=>?_,KO⟩
    · rw[aR (fun e=>n (by rw[e];exact Qx))];exact z
    · by_cases hb:b=a
      · exact⟨ho,by rw[hb,aY]⟩
      · exact⟨o,by rw[aR hb];exact z⟩
  · obtain⟨w0,q,n⟩:=orig z hw
    exact⟨j,w0,q,n,hc⟩
  · by_cases e:i=j
    · subst e;exact⟨u',List.getElem?_set_self hl⟩
    · exact⟨w,by rw[List.getElem?_set_ne e];exact z⟩
theorem q9 {S S':SS}{i:Nat}{f:MO→Option (D×MO)}{d:D}(h:o9 S i f=some (d,S')):∃u u' o o',S[i]? =some (some u)∧dY u=true∧EV u=some o∧f o=some (d,o')∧EU u o'=some u'∧S'=S.set i (some u'):=by
 unfold o9 at h
 split at h
 ·rename_i o e
  obtain⟨⟨d',o'⟩,h1,h⟩:=au h
  cases h
  exact⟨_,_,o,o',e,rfl,rfl,h1,rfl,rfl⟩
 ·rename_i o e
  obtain⟨⟨d',o'⟩,h1,h⟩:=au h
  cases h
  exact⟨_,_,o,o',e,rfl,rfl,h1,rfl,rfl⟩
 ·cases h
noncomputable def KR (r:V→List V→Hp→VK→Prop) (h:List D→MO→Option (D×MO)):Prop:=
 ∀F H a vs xs ds args res o',Sub F H→H a=some (.lst vs)→F a=none→aQ F vs ds→aQ F xs args→h args (.lst ds)=some (res,o')→
  ∀Q:VK,(∀rv ho,Rep F rv res→At F (upd H a ho) a o'→Q rv (upd H a ho))→r (.ref a) xs H Q
noncomputable def cU:MO→Bool
 | .lst _=>true
 | _=>false
noncomputable def CQ (S:SS) (i:Nat):Bool:=match S[i]? with
 | some (some (.m (.lst _)))=>true
 | some (some (.b (.lst _)))=>true
 | _=>false
theorem DY {K:PySem.W.Frag}{B:Base}{S:SS}{σ:St}{F H:Hp}{i:Nat}(R:Rel K B S σ F H) (h:CQ S i=true):∃u a vs ds,S[i]? =some (some u)∧dY u=true∧EV u=some (.lst ds)∧σ[i]? =some (some (.ref a))∧F a=none∧H a=some (.lst vs)∧aQ F vs ds:=by
 unfold CQ at h
 split at h
 ·rename_i ds e
  obtain⟨v,k1,a,rfl,f,vs,k2,k3⟩:=R.rep i _ e
  exact⟨_,a,vs,ds,e,rfl,rfl,k1,f,k2,k3⟩
 ·rename_i ds e
  obtain⟨v,k1,a,rfl,f,vs,k2,k3⟩:=R.rep i _ e
  exact⟨_,a,vs,ds,e,rfl,rfl,k1,f,k2,k3⟩
 ·cases h
noncomputable def eM (i:Nat) (h:List D→MO→Option (D×MO)) (gA:GA):GD:=fun S=>if CQ S i then(gA S).bind fun p=>o9 p.2 i (h p.1) else none
theorem Af {K:PySem.W.Frag}{B:Base}{S:SS}{σ:St}{F H:Hp}{i:Nat}{a:Addr}{u:U}{ds:List D}(R:Rel K B S σ F H) (hS:S[i]? =some (some u)) (hm:dY u=true) (hi:EV u=some (.lst ds)) (hv:σ[i]? =some (some (.ref a))):F a=none∧∃vs,H a=some (.lst vs)∧aQ F vs ds:=by
 obtain⟨v,k1,k2⟩:=R.rep i u hS
 rw[hv] at k1
 cases k1
 obtain⟨b,o2,e1,f,e2,k⟩:=k2.dG hm
 cases e1
 rw[hi] at e2
 cases e2
 exact⟨f,k⟩
section
variable {X:Cx}{a b c e:Expr}{es:List Expr}{pos p p2 apos cpos px:Pos}{x name:Str}{g ga gb gc:GD}{gA:GA}{id:String}
theorem mR {i:Nat}{r:V→List V→Hp→VK→Prop}{h:List D→MO→Option (D×MO)}(slot:Slot "list" name id) (hty:typeOf (.builtin id)=pure (.type "method_descriptor")) (hm:DL X id r) (hh:KR r h) (hl:∀args o,cU o=false→h args o=none) (ha:JA X (e :: es) gA)
  (hN:X.N[i]? =some x:=by rfl) (hv:A7 X.env.scope x:=by first | exact Or.inl rfl | exact Or.inr (Or.inl rfl) | exact Or.inr (Or.inr rfl))
  (hbase:attributeBase (.Name x px) name X.env (eval (.Name x px) X.env)=eval (.Name x px) X.env:=by rfl)
  (hfew:((backTo cpos (starEach (e :: es) X.env)).all (fun x=>!x.1) && (backToKw cpos (keywordEach [] X.env)).all (fun x=>x.1.isSome)
   && decide ((e :: es).length+([]:List Keyword).length+(if([]:List Keyword).isEmpty then 0 else 1) < 30))=true:=by rfl)
  (hline:(apos.endLine == cpos.line)=true:=by rfl) (hs:starEach (e :: es) X.env=(false,eval e X.env) :: starEach es X.env:=by rfl) (hplain:(backTo cpos (starEach es X.env)).any (·.1)=false:=by rfl)
  (hd:(x == ("__debug__":Str))=false:=by decide) (hcd:(x == ("__classdict__":Str))=false:=by decide):
  JD X (.Call (.Attribute (.Name x px) name apos) (e :: es) [] cpos) (eM i h gA):=
 ⟨fun B=>(Gs PySem.F.plainAttrs_list slot hty hm (iJ hN hv hd hcd) (ha.h B) hbase hfew hline hs hplain).imp fun σ H Q ⟨S,F,d,S',R,hg,q⟩=>by
 unfold eM at hg
 split at hg
 ·rename_i hL
  obtain⟨⟨args,S1⟩,h1,hg⟩:=ak hg
  obtain⟨u,u',o,o',hS,GW,hio,hf,GX,rfl⟩:=q9 hg
  obtain⟨u0,a,Qy,S8,_,_,_,hv0,_,hH,_⟩:=DY R hL
  cases o with
  | dct kvs=>rw[hl _ _ rfl] at hf;cases hf
  | vp kvs=>rw[hl _ _ rfl] at hf;cases hf
  | lst ds=>
   refine⟨.ref a,hv0,.inl ⟨rfl,Qy,lB.of hH⟩,S,F,args,S1,R,h1,fun xs F1 H1 R1 st1 r1=>?_⟩
   obtain⟨hf1,vs,Qz,rs⟩:=Af R1 hS GW hio hv0
   refine hh F1 H1 a vs xs ds args d o' R1.sub Qz hf1 rs r1 hf Q fun rv ho rr ha=>?_
   obtain⟨R2,st2⟩:=R1.write hS GX hv0 ha
   exact q rv F1 _ R2 (st1.trans st2) rr
 ·cases hg⟩
noncomputable def hAppend:List D→MO→Option (D×MO)
 | [d],.lst ds=>if ds.length < 100000 then some (.cg,.lst (ds++[d])) else none
 | _,_=>none
theorem kT : KR wJ hAppend := by
  intro F H a vs xs ds args res o' sb hH fa rs rx hw Q q
  unfold hAppend at hw
  split at hw
  · rename_i d ds' e2
    cases e2
    split at hw
    · rename_i hl
      cases hw
      cases rx with
      | cons r rr=>
        cases rr
        exact⟨a,vs,_,rfl,rfl,hH,by rw[rs.length];exact Nat.lt_of_lt_of_le hl (by decide),q .cg _ .cg ⟨_,aY,rs.append (.cons r .nil)⟩⟩
    · cases hw
  · cases hw
noncomputable def DZ:List D→MO→Option (D×MO)
 | [.int i],.lst ds=>if -(2 ^ 63)≤i∧i < 2 ^ 63 then(seqIndex? i ds.length).bind fun k=>(ds[k]?).map fun d=>(d,.lst (ds.eraseIdx k)) else none
 | _,_=>none
theorem aQ.eraseIdx {F:Hp}:∀{vs:List V}{ds:List D}(k:Nat),aQ F vs ds→aQ F (vs.eraseIdx k) (ds.eraseIdx k)
 | _,_,_,.nil=>.nil
 | _,_,0,.cons _ rs=>rs
 | _,_,k+1,.cons r rs=>.cons r (aQ.eraseIdx k rs)
noncomputable def tX:List D→MO→Option (D×MO)
 | [],.lst ds=>some (.cg,.lst ds.reverse)
 | _,_=>none
theorem aQ.reverse {F:Hp}:∀{vs:List V}{ds:List D},aQ F vs ds→aQ F vs.reverse ds.reverse
 | _,_,.nil=>.nil
 | _,_,.cons r rs=>by rw[List.reverse_cons,List.reverse_cons];exact(aQ.reverse rs).append (.cons r .nil)
end
end L2
end
section
set_option Elab.async false
set_option linter.all false
set_option maxRecDepth 100000
namespace L2
open PySem PySem.Spec PyProof.Rows
theorem jg.step {K:PySem.W.Frag}{B:Base}{S S':SS}{σ:St}{H0 F H F' H':Hp}{v:V}{u:U}(r:jg K B S σ H0 F H v u) (st:Step S S' σ F H F' H'):jg K B S' σ H0 F' H' v u:=by
 cases u with
 | t d=>exact r.le st.ext.le
 | b o=>exact r
 | v i=>obtain⟨h1,u,h2⟩:=r;exact⟨h1,st.slots i u h2⟩
 | s i=>obtain⟨a,e,h⟩:=r;exact⟨a,e,h.le st.ext.ju⟩
 | f i=>exact r
 | m o=>
  obtain⟨a,e,h0,f,h,n,hB⟩:=r
  obtain⟨ho,hh⟩:=h.has
  exact⟨a,e,h0,st.ext.jf a ho hh n f,h.le st.ext.le fun o z=>st.ext.keep a o z n,fun m=>n (st.mu a m),hB⟩
noncomputable abbrev GU:=SS→Option (List U×SS)
noncomputable def QA (K:PySem.W.Frag) (B:Base) (gu:GU):TA:=fun σ H Q=>∃S F us S',Rel K B S σ F H∧gu S=some (us,S')∧∀vs F' H',Rel K B S' σ F' H'→Step S S' σ F H F' H'→Paired (fun v u=>jg K B S' σ H F' H' v u) vs us→Q vs H'
structure JU (X:Cx) (es:List Expr) (gu:GU):Prop where
 h:∀B,PA X es (QA X.K B gu)
 len:∀S us S',gu S=some (us,S')→us.length=es.length
noncomputable def bC:GU:=fun S=>some ([],S)
noncomputable def aX (g:GD) (gu:GU):GU:=fun S=>(g S).bind fun p=>(gu p.2).map fun q=>(.t p.1 :: q.1,q.2)
noncomputable def cY (g:GE) (gu:GU):GU:=fun S=>(g S).bind fun p=>(gu p.2).map fun q=>(p.1 :: q.1,q.2)
section
variable {X:Cx}{e:Expr}{es:List Expr}{g:GD}{ge:GE}{gu:GU}
theorem aZ:JU X [] bC:=⟨fun B=>rW.imp fun σ H Q ⟨S,F,us,S',R,hg,q⟩=>by
 cases hg
 exact q [] F H R (Step.refl ..) .nil,fun S us S' h=>by cases h;rfl⟩
theorem aI (h:JD X e g) (hr:JU X es gu) (hs:starEach (e :: es) X.env=(false,eval e X.env) :: starEach es X.env:=by rfl):JU X (e :: es) (aX g gu):=
 ⟨fun B=>(kP (h.h B) (hr.h B) hs).imp fun σ H Q ⟨S,F,us,S',R,hg,q⟩=>by
 obtain⟨⟨d,S1⟩,h1,hg⟩:=ak hg
 obtain⟨⟨D0,S2⟩,h2,hg⟩:=au hg
 cases hg
 exact⟨S,F,d,S1,R,h1,fun v F1 H1 R1 st1 r1=>⟨S1,F1,D0,S2,R1,h2,fun vs F2 H2 R2 st2 r2=>q _ F2 H2 R2 (st1.trans st2) (.cons (r1.le st2.ext.le) (Paired.xw r2 fun _ _ z=>z.weak st1.ext.there))⟩⟩,
 fun S us S' hg=>by
  obtain⟨⟨d,S1⟩,h1,hg⟩:=ak hg
  obtain⟨⟨D0,S2⟩,h2,hg⟩:=au hg
  cases hg
  show D0.length+1=es.length+1
  rw[hr.len _ _ _ h2]⟩
theorem cE (h:JE X e ge) (hr:JU X es gu) (hs:starEach (e :: es) X.env=(false,eval e X.env) :: starEach es X.env:=by rfl):JU X (e :: es) (cY ge gu):=
 ⟨fun B=>(kP (h.h B) (hr.h B) hs).imp fun σ H Q ⟨S,F,us,S',R,hg,q⟩=>by
 obtain⟨⟨d,S1⟩,h1,hg⟩:=ak hg
 obtain⟨⟨D0,S2⟩,h2,hg⟩:=au hg
 cases hg
 exact⟨S,F,d,S1,R,h1,fun v F1 H1 R1 st1 r1=>⟨S1,F1,D0,S2,R1,h2,fun vs F2 H2 R2 st2 r2=>q _ F2 H2 R2 (st1.trans st2) (.cons (r1.step st2) (Paired.xw r2 fun _ _ z=>z.weak st1.ext.there))⟩⟩,
 fun S us S' hg=>by
  obtain⟨⟨d,S1⟩,h1,hg⟩:=ak hg
  obtain⟨⟨D0,S2⟩,h2,hg⟩:=au hg
  cases hg
  show D0.length+1=es.length+1
  rw[hr.len _ _ _ h2]⟩
end
noncomputable def resolve (S:SS):U→Option U
 | .t d=>some (.t d)
 | .v i=>match S[i]? with
  | some (some (.m o))=>some (.b o)
  | some (some (.b o))=>some (.b o)
  | _=>none
 | .m o=>some (.b o)
 | .b _=>none
 | .s ns=>some (.s ns)
 | .f a=>some (.f a)
noncomputable def bV (S:SS):List U→Option (List U)
 | []=>some []
 | u :: us=>(resolve S u).bind fun w=>(bV S us).map fun ws=>w :: ws
noncomputable def slotsOf:List U→List Nat
 | []=>[]
 | .v i :: us=>i :: slotsOf us
 | _ :: us=>slotsOf us
noncomputable def bS:List U→Nat
 | []=>0
 | .m _ :: us=>bS us+1
 | _ :: us=>bS us
noncomputable def wb:List U→List MO→SS→Option SS
 | [],[],S=>some S
 | .v i :: us,o :: outs,S=>match S[i]? with
  | some (some (.m _))=>wb us outs (S.set i (some (.m o)))
  | some (some (.b _))=>wb us outs (S.set i (some (.b o)))
  | _=>none
 | .m _ :: us,_ :: outs,S=>wb us outs S
 | .t _ :: us,outs,S=>wb us outs S
 | .s _ :: us,outs,S=>wb us outs S
 | .f _ :: us,outs,S=>wb us outs S
 | _,_,_=>none
noncomputable abbrev FM:=List U→Option (U×List MO)
noncomputable def aL (f:FM) (gu:GU):GE:=fun S=>(gu S).bind fun p=>
 if(slotsOf p.1).Nodup∧bS p.1≤1 then(bV p.2 p.1).bind fun us=>(f us).bind fun r=>(wb p.1 r.2 p.2).map fun S2=>(r.1,S2) else none
noncomputable def Ag (K:PySem.W.Frag) (F H:Hp) (v:V):U→Prop
 | .s ns=>∃a,v= .ref a∧BL K H a ns
 | .f a=>v= .ref a
 | .t d=>Rep F v d
 | .b o=>∃a,v= .ref a∧F a=none∧At F H a o
 | _=>False
noncomputable def addrs:List V→List U→List Addr
 | .ref a :: vs,.b _ :: us=>a :: addrs vs us
 | _ :: vs,_ :: us=>addrs vs us
 | _,_=>[]
structure Post (F H F' H':Hp) (as:List Addr) (outs:List MO):Prop where
 sub:Sub F' H'
 ext:Ext (fun a=>a∈as) F H F' H'
 out:Paired (fun a o=>F' a=none∧At F' H' a o) as outs
noncomputable def spT (K:PySem.W.Frag) (n:Nat) (f:FM):Sp:=fun vs H Q _=>vs.length=n∧∃F us r outs,Sub F H∧Paired (Ag K F H) vs us∧(addrs vs us).Nodup∧f us=some (r,outs)∧∀v F' H',Post F H F' H' (addrs vs us) outs→z6 H F' H' v r→Q v H'
section
variable {K:PySem.W.Frag}{B:Base}{S S1 S2:SS}{σ:St}{H0 F H F' H':Hp}
theorem kU {i:Nat}{w:U}(h:resolve S (.v i)=some w):∃u o,S[i]? =some (some u)∧dY u=true∧EV u=some o∧w= .b o:=by
 unfold resolve at h
 dsimp only at h
 split at h
 ·rename_i o e;cases h;exact⟨_,o,e,rfl,rfl,rfl⟩
 ·rename_i o e;cases h;exact⟨_,o,e,rfl,rfl,rfl⟩
 ·cases h
theorem pC (R:Rel K B S σ F H):∀{vs:List V}{us ws:List U},Paired (fun v u=>jg K B S σ H0 F H v u) vs us→bV S us=some ws→Paired (Ag K F H) vs ws
 | _,_,_,.nil,h=>by cases h;exact .nil
 | _,_,_,@Paired.cons _ _ _ v u vs us r rs,h=>by
  obtain⟨w,h1,h⟩:=ak h
  obtain⟨ws,h2,h⟩:=au h
  subst h
  refine .cons ?_ (pC R rs h2)
  cases u with
  | t d=>cases h1;exact r
  | s d=>cases h1;exact r
  | f d=>cases h1;exact r
  | b o=>cases h1
  | m o=>cases h1;obtain⟨a,e,_,f,k,_⟩:=r;exact⟨a,e,f,k⟩
  | v i=>
   obtain⟨u,o,hu,hm,hi,rfl⟩:=kU h1
   obtain⟨hv,_⟩:=r
   obtain⟨v',k1,k2⟩:=R.rep i u hu
   rw[hv] at k1
   cases k1
   obtain⟨a,o2,e,f,e2,k⟩:=k2.dG hm
   rw[hi] at e2
   cases e2
   exact⟨a,e,f,k⟩
theorem mS (R : Rel K B S σ F H) : ∀ {vs : List V} {us ws : List U}, Paired (fun v u => jg K B S σ H0 F H v u) vs us → bV S us = some ws → ∀ a ∈ addrs vs ws,
    (∃i u,i∈slotsOf us∧S[i]? =some (some u)∧dY u=true∧σ[i]? =some (some (.ref a)))∨(0 < bS us∧H0 a=none∧B.H a=none∧¬dG S σ a)
  | _,_,_,.nil,h,a,ha=>by cases h;cases ha
  | _,_,_,@Paired.cons _ _ _ v u vs us r rs,h,a,ha=>by
    obtain⟨w,h1,h⟩:=ak h
    obtain⟨ws,h2,h⟩:=au h
    subst h
    have ih:=mS R rs h2
    cases u with
    | t d=>
      cases h1
      have ha:a∈addrs vs ws:=by cases v <;> exact ha
      exact ih a ha
    | s d=>
      cases h1
      have ha:a∈addrs vs ws:=by cases v <;> exact ha
      exact ih a ha
    | f d=>
      cases h1
      have ha:a∈addrs vs ws:=by cases v <;> exact ha
      exact ih a ha
    | b o=>cases h1
    | m o =>
      cases h1
      obtain⟨c,rfl,k0,f,k,n,hB⟩:=r
      rcases List.mem_cons.mp (show a∈c :: addrs vs ws from ha) with rfl | ha
      · exact .inr ⟨Nat.succ_pos _,k0,hB,n⟩
      · rcases ih a ha with z | ⟨_,z⟩
        · exact .inl z
        · exact .inr ⟨Nat.succ_pos _,z⟩
    | v i =>
      obtain⟨u,o,hu,hm,hi,rfl⟩:=kU h1
      obtain⟨hv,_⟩:=r
      obtain⟨v',k1,k2⟩:=R.rep i u hu
      rw[hv] at k1
      cases k1
      obtain⟨c,o2,rfl,f,e2,k⟩:=k2.dG hm
      rcases List.mem_cons.mp (show a∈c :: addrs vs ws from ha) with rfl | ha
      · exact .inl ⟨i,u,List.mem_cons_self,hu,hm,hv⟩
      · rcases ih a ha with⟨j,w,z,z2⟩ | z
        · exact .inl ⟨j,w,List.mem_cons_of_mem _ z,z2⟩
        · exact .inr z
theorem dH (R : Rel K B S σ F H) : ∀ {vs : List V} {us ws : List U}, Paired (fun v u => jg K B S σ H0 F H v u) vs us → bV S us = some ws → (slotsOf us).Nodup → bS us ≤ 1 → (addrs vs ws).Nodup
  | _,_,_,.nil,h,_,_=>by cases h;exact List.nodup_nil
  | _,_,_,@Paired.cons _ _ _ v u vs us r rs,h,nd,fr=>by
    obtain⟨w,h1,h⟩:=ak h
    obtain⟨ws,h2,h⟩:=au h
    subst h
    cases u with
    | t d=>
      cases h1
      have:=dH R rs h2 nd fr
      cases v <;> exact this
    | s d=>
      cases h1
      have:=dH R rs h2 nd fr
      cases v <;> exact this
    | f d=>
      cases h1
      have:=dH R rs h2 nd fr
      cases v <;> exact this
    | b o=>cases h1
    | m o=>
      cases h1
      have S9:bS us=0:=by have:bS us+1≤1:=fr;omega
      obtain⟨c,rfl,k0,f,k,n,hB⟩:=r
      refine List.nodup_cons.mpr ⟨fun hc=>?_,dH R rs h2 nd (by omega)⟩
      rcases mS R rs h2 c hc with⟨j,w,_,z1,z2,z3⟩ | ⟨z,_⟩
      · exact n ⟨j,w,z1,z2,z3⟩
      · omega
    | v i =>
      obtain⟨u,o,hu,hm,hi,rfl⟩:=kU h1
      obtain⟨hv,_⟩:=r
      obtain⟨v',k1,k2⟩:=R.rep i u hu
      rw[hv] at k1
      cases k1
      obtain⟨c,o2,rfl,f,e2,k⟩:=k2.dG hm
      obtain⟨KS,KU⟩:=List.nodup_cons.mp (show(i :: slotsOf us).Nodup from nd)
      refine List.nodup_cons.mpr ⟨fun hc=>?_,dH R rs h2 KU fr⟩
      rcases mS R rs h2 c hc with⟨j,w,z0,z1,z2,z3⟩ | ⟨_,_,_,z⟩
      · have:=R.xS i j u w c hu hm z1 z2 hv z3
        subst this
        exact KS z0
      · exact z ⟨i,u,hu,hm,hv⟩
theorem kW (R : Rel K B S σ F H) (P : Addr → MO → Prop) : ∀ {vs : List V} {us ws : List U} {outs : List MO} {S1 S2 : SS}, Paired (fun v u => jg K B S σ H0 F H v u) vs us → bV S us = some ws → wb us outs S1 = some S2 → (slotsOf us).Nodup → Paired P (addrs vs ws) outs →
    S2.length=S1.length∧(∀j,j∉slotsOf us→S2[j]? =S1[j]?)∧∀j∈slotsOf us,∃u u' o a,S1[j]? =some (some u)∧EU u o=some u'∧S2[j]? =some (some u')∧σ[j]? =some (some (.ref a))∧P a o
  | _,_,_,_,_,_,.nil,h,hw,_,hp=>by
    cases h
    cases hp
    cases hw
    exact⟨rfl,fun _ _=>rfl,fun j hj=>by cases hj⟩
  | _, _, _, outs, S1, S2, @Paired.cons _ _ _ v u vs us r rs, h, hw, nd, hp => by
    obtain⟨w,h1,h⟩:=ak h
    obtain⟨ws,h2,h⟩:=au h
    subst h
    cases u with
    | t d =>
      cases h1
      have hp:Paired P (addrs vs ws) outs:=by cases v <;> exact hp
      have hw:wb us outs S1=some S2:=by
        cases outs <;> exact hw
      have ih:=kW R P rs h2 hw nd hp
      exact ih
    | s d =>
      cases h1
      have hp:Paired P (addrs vs ws) outs:=by cases v <;> exact hp
      have hw:wb us outs S1=some S2:=by
        cases outs <;> exact hw
      have ih:=kW R P rs h2 hw nd hp
      exact ih
    | f d =>
      cases h1
      have hp:Paired P (addrs vs ws) outs:=by cases v <;> exact hp
      have hw:wb us outs S1=some S2:=by
        cases outs <;> exact hw
      have ih:=kW R P rs h2 hw nd hp
      exact ih
    | b o=>cases h1
    | m o =>
      cases h1
      obtain⟨c,rfl,k0,f,k,n,hB⟩:=r
      cases hp with
      | cons p1 p2=>
        have ih:=kW R P rs h2 (show wb us _ S1=some S2 from hw) nd p2
        exact ih
    | v i =>
      obtain⟨u0,o0,hu,hm,hi,rfl⟩:=kU h1
      obtain⟨hv,_⟩:=r
      obtain⟨v',k1,k2⟩:=R.rep i u0 hu
      rw[hv] at k1
      cases k1
      obtain⟨c,o2,rfl,f,e2,k⟩:=k2.dG hm
      obtain⟨KS,KU⟩:=List.nodup_cons.mp (show(i :: slotsOf us).Nodup from nd)
      cases hp with
      | @cons _ o _ outs p1 p2 =>
        have go : ∀ u u', S1[i]? = some (some u) → EU u o = some u' → wb us outs (S1.set i (some u')) = some S2 → S2.length = S1.length ∧ (∀ j, j ∉ i :: slotsOf us → S2[j]? = S1[j]?) ∧ ∀ j ∈ i :: slotsOf us, ∃ u u' o a, S1[j]? = some (some u) ∧ EU u o = some u' ∧ S2[j]? = some (some u') ∧ σ[j]? = some (some (.ref a)) ∧ P a o := fun u u' e1 e2 hw => by
          obtain⟨l,out,xV⟩:=kW R P rs h2 hw KU p2
          refine⟨by rw[l,List.length_set],fun j hj=>?_,fun j hj=>?_⟩
          · rw[out j fun z=>hj (List.mem_cons_of_mem _ z),List.getElem?_set_ne fun z=>hj (by rw[z];exact List.mem_cons_self)]
          · by_cases e:i=j
            · subst e
              exact⟨u,u',o,c,e1,e2,by rw[out i KS];exact List.getElem?_set_self (List.getElem?_eq_some_iff.mp e1).1,hv,p1⟩
            · rcases List.mem_cons.mp hj with z | z
              · exact absurd z.symm e
              · obtain⟨w,w',o',a',q1,q2,q3,q4,q5⟩:=xV j z
                rw[List.getElem?_set_ne e] at q1
                exact⟨w,w',o',a',q1,q2,q3,q4,q5⟩
        unfold wb at hw
        split at hw
        · rename_i o' e;exact go _ _ e rfl hw
        · rename_i o' e;exact go _ _ e rfl hw
        · cases hw
end
theorem lO {K : PySem.W.Frag} {B : Base} {S0 S S2 : SS} {σ : St} {F0 H0 F H F' H' : Hp} {vs : List V} {us ws : List U} {outs : List MO} (R : Rel K B S σ F H) (st : Step S0 S σ F0 H0 F H) (rr : Paired (fun v u => jg K B S σ H0 F H v u) vs us) (hr : bV S us = some ws) (hw : wb us outs S = some S2) (nd : (slotsOf us).Nodup) (p : Post F H F' H' (addrs vs ws) outs) :
    Rel K B S2 σ F' H'∧Step S0 S2 σ F0 H0 F' H'∧∀a,dG S2 σ a→dG S σ a:=by
  obtain⟨hl,out,xV⟩:=kW R (fun a o=>F' a=none∧At F' H' a o) rr hr hw nd p.out
  have QB:∀{u:U}{o:MO}{u':U},EU u o=some u'→dY u=true∧dY u'=true∧EV u'=some o:=fun {u o u'} h=>by cases u <;> cases h <;> exact⟨rfl,rfl,rfl⟩
  have orig:∀{j w},S2[j]? =some (some w)→dY w=true→∃w0,S[j]? =some (some w0)∧dY w0=true:=fun {j w} z hm=>by
    by_cases hj:j∈slotsOf us
    · obtain⟨u,u',o,a,q1,q2,q3,q4,q5⟩:=xV j hj
      exact⟨u,q1,(QB q2).1⟩
    · rw[out j hj] at z;exact⟨w,z,hm⟩
  have mu:∀a,dG S2 σ a→dG S σ a:=fun a ⟨j,w,z,hm,hv⟩=>let⟨w0,q,n⟩:=orig z hm;⟨j,w0,q,n,hv⟩
  have wQ:=mS R rr hr
  refine⟨⟨p.sub,by rw[hl];exact R.len,fun j w z=>?_,fun j k w1 w2 c z1 m1 z2 m2=>?_,fun j o a z hv=>?_,fun j o a z hv=>?_,fun j a z=>?_,?_⟩,⟨⟨?_,?_,?_,?_,fun b o u z=>p.ext.ju b o u (st.ext.ju b o u z)⟩,fun a m=>st.mu a (mu a m),fun j u z=>?_⟩,mu⟩
  · by_cases hj:j∈slotsOf us
    · obtain⟨u,u',o,a,q1,q2,q3,q4,q5,q6⟩:=xV j hj
      rw[q3] at z
      cases z
      refine⟨.ref a,q4,?_⟩
      cases u <;> cases q2
      · exact⟨a,rfl,q5,q6⟩
      · exact⟨a,rfl,q5,q6⟩
    · rw[out j hj] at z
      obtain⟨v,h1,h2⟩:=R.rep j w z
      refine⟨v,h1,h2.le p.ext.le p.ext.ju fun a hm ha=>?_⟩
      have hna:a∉addrs vs ws:=fun hc=>by
        rcases wQ a hc with⟨i,u,q0,q1,q2,q3⟩ | ⟨_,_,_,q⟩
        · have:=R.xS i j u w a q1 q2 z hm q3 (by rw[h1,ha])
          subst this
          exact hj q0
        · exact q ⟨j,w,z,hm,by rw[h1,ha]⟩
      obtain⟨c,o,e,f,_,k⟩:=h2.dG hm
      rw[ha] at e
      cases e
      obtain⟨ho,hh⟩:=k.has
      exact⟨fun o q=>p.ext.keep a o q hna,p.ext.jf a ho hh hna f⟩
  · obtain⟨KP,q1,n1⟩:=orig z1 m1
    obtain⟨KQ,q2,n2⟩:=orig z2 m2
    exact R.xS j k KP KQ c q1 n1 q2 n2
  · by_cases hj:j∈slotsOf us
    · obtain⟨u,u',o',a',q1,q2,q3,q4,q5⟩:=xV j hj
      rw[q3] at z
      cases z
      cases u <;> cases q2
      exact R.own j _ a q1 hv
    · rw[out j hj] at z;exact R.own j o a z hv
  · by_cases hj:j∈slotsOf us
    · obtain⟨u,u',o',a',q1,q2,q3,q4,q5⟩:=xV j hj
      rw[q3] at z
      cases z
      cases u <;> cases q2
      exact R.bor j _ a q1 hv
    · rw[out j hj] at z;exact R.bor j o a z hv
  · obtain⟨k1,o,k2⟩:=R.par j a z
    refine⟨k1,?_⟩
    by_cases hj:j∈slotsOf us
    · obtain⟨u,u',o',a',q1,q2,q3,q4,q5⟩:=xV j hj
      rw[k2] at q1
      cases q1
      cases q2
      exact⟨_,q3⟩
    · exact⟨o,by rw[out j hj];exact k2⟩
  · refine R.ext.trans p.ext fun b hb=>?_
    rcases wQ b hb with⟨i,u,q0,q1,q2,q3⟩ | ⟨_,_,q,_⟩
    · cases u with
      | t d=>cases q2
      | v d=>cases q2
      | s d=>cases q2
      | f d=>cases q2
      | m o=>exact .inr (R.own i o b q1 q3)
      | b o=>exact .inl (R.bor i o b q1 q3)
    · exact .inr q
  · exact fun b o h=>p.ext.le b o (st.ext.le b o h)
  · intro b o h n
    refine p.ext.keep b o (st.ext.keep b o h n) fun hb=>?_
    rcases wQ b hb with⟨i,u,q0,q1,q2,q3⟩ | ⟨_,q,_⟩
    · exact n (st.mu b ⟨i,u,q1,q2,q3⟩)
    · rw[h] at q;cases q
  · intro b o h n f
    refine p.ext.jf b o (st.ext.keep b o h n) (fun hb=>?_) (st.ext.jf b o h n f)
    rcases wQ b hb with⟨i,u,q0,q1,q2,q3⟩ | ⟨_,q,_⟩
    · exact n (st.mu b ⟨i,u,q1,q2,q3⟩)
    · rw[h] at q;cases q
  · intro b o h
    obtain⟨o',h'⟩:=st.ext.there b o h
    exact p.ext.there b o' h'
  · obtain⟨u',h'⟩:=st.slots j u z
    by_cases hj:j∈slotsOf us
    · obtain⟨_,u2,_,_,_,_,q3,_⟩:=xV j hj
      exact⟨u2,q3⟩
    · exact⟨u',by rw[out j hj];exact h'⟩
section
variable {X:Cx}{e:Expr}{es:List Expr}{gu:GU}{x:Str}{p pos:Pos}{f:FM}{fa:Addr}{fd:FuncData}{ps:List Str}{k n:Nat}
theorem aM (F:bz X.prog X.w X.K X.mg X.base fQ k fa fd ps (spT X.K n f)) (hr:iw k X.A) (hg:Gl X x) (hm:X.mg x=some (.ref fa)) (hk:PySem.W.keepIn X.K (.ref fa)=true) (hb:Binds X.K fd ps []) (ha:JU X (e :: es) gu) (hn:(e :: es).length=n:=by rfl)
  (hdb:(x == ("__debug__":Str))=false:=by decide) (he:starEach (e :: es) X.env=(false,eval e X.env) :: starEach es X.env:=by rfl) (hpl:(backTo pos (starEach es X.env)).any (·.1)=false:=by rfl):
  JE X (.Call (.Name x p) (e :: es) [] pos) (aL f gu):=⟨fun B=>(Bu F hr hg hm hk hb .nil CL (ha.h B) hdb he hpl).imp fun σ H Q ⟨S,F0,u,S',R,hg,q⟩=>by
 obtain⟨⟨us,S1⟩,h1,hg⟩:=ak hg
 dsimp only at hg
 split at hg
 ·rename_i hc
  obtain⟨ws,h2,hg⟩:=ak hg
  obtain⟨⟨r,outs⟩,h3,hg⟩:=ak hg
  obtain⟨S2,h4,hg⟩:=au hg
  cases hg
  refine⟨S,F0,us,S1,R,h1,fun vs F1 H1 R1 st1 rr=>?_⟩
  show spT X.K n f (vs++[]) H1 Q E0
  rw[List.append_nil]
  have hlen:vs.length=n:=by rw[rr.length,ha.len _ _ _ h1];exact hn
  refine⟨hlen,F1,ws,r,outs,R1.sub,pC R1 rr h2,dH R1 rr h2 hc.1 hc.2,h3,fun v F2 H2 po rn=>?_⟩
  obtain⟨R2,st2,mu⟩:=lO R1 st1 rr h2 h4 hc.1 po
  refine q v F2 H2 R2 st2 ?_
  cases r with
  | t d=>exact rn
  | b o=>cases rn
  | v i=>cases rn
  | s i=>cases rn
  | f i=>cases rn
  | m o=>
   obtain⟨a,e,h0,f,h⟩:=rn
   refine⟨a,e,none_of st1.ext.there h0,f,h,fun m=>?_,none_of R1.ext.there h0⟩
   obtain⟨o',ho⟩:=R1.has (mu a m)
   rw[h0] at ho
   cases ho
 ·cases hg⟩
end
end L2
end
section
set_option Elab.async false
set_option linter.all false
set_option maxRecDepth 100000
namespace L2
open PySem PySem.Spec PyProof.Rows
noncomputable def aA:List U→SS→Option (List MO)
 | [],_=>some []
 | .b _ :: us,some (.b o) :: S=>(aA us S).map fun os=>o :: os
 | .b _ :: _,_=>none
 | _ :: us,_ :: S=>aA us S
 | _ :: _,[]=>none
noncomputable def aH (n:Nat) (g:GS):FM:=fun us=>(g (us.map some++List.replicate (n - us.length) none)).bind fun o=>match o with
 | .rt (.t d) S=>(aA us S).map fun os=>(.t d,os)
 | .rt (.m o) S=>(aA us S).map fun os=>(.m o,os)
 | .nx S=>(aA us S).map fun os=>(.t .cg,os)
 | _=>none
noncomputable def lent:List V→List U→List (Option Addr)
 | .ref a :: vs,.b _ :: us=>some a :: lent vs us
 | _ :: vs,_ :: us=>none :: lent vs us
 | _,_=>[]
theorem j8:∀(vs:List V) (us:List U) (a:Addr),some a∈lent vs us↔a∈addrs vs us
 | [],us,a=>by cases us <;> simp[lent,addrs]
 | v :: vs,[],a=>by cases v <;> simp[lent,addrs]
 | v :: vs,u :: us,a=>by
  have ih:=j8 vs us a
  cases v <;> cases u <;> simp[lent,addrs,ih]
theorem tY:∀{vs:List V}{us:List U}{i:Nat}{a:Addr},(lent vs us)[i]? =some (some a)→vs[i]? =some (.ref a)∧∃o,us[i]? =some (.b o)
 | [],us,i,a,h=>by cases us <;> simp[lent] at h
 | v :: vs,[],i,a,h=>by cases v <;> simp[lent] at h
 | v :: vs,u :: us,0,a,h=>by
  cases v <;> cases u <;> simp[lent] at h
  subst h
  exact⟨rfl,_,rfl⟩
 | v :: vs,u :: us,i+1,a,h=>by
  have h':(lent vs us)[i]? =some (some a):=by cases v <;> cases u <;> simpa[lent] using h
  simpa using tY h'
theorem sD {K:PySem.W.Frag}:∀{F H:Hp}{vs:List V}{us:List U}{i:Nat}{o:MO},Paired (Ag K F H) vs us→us[i]? =some (.b o)→∃a,vs[i]? =some (.ref a)∧(lent vs us)[i]? =some (some a)∧F a=none∧At F H a o
 | _,_,_,_,_,_,.nil,h=>by simp at h
 | _,_,_,_,0,o,@Paired.cons _ _ _ v u vs us r rs,h=>by
  simp at h
  subst h
  obtain⟨a,rfl,f,k⟩:=r
  exact⟨a,rfl,rfl,f,k⟩
 | _,_,_,_,i+1,o,@Paired.cons _ _ _ v u vs us r rs,h=>by
  obtain⟨a,h1,h2,h3⟩:=sD (i:=i) rs (by simpa using h)
  refine⟨a,by simpa using h1,?_,h3⟩
  cases v <;> cases u <;> simpa[lent] using h2
theorem rm : ∀ {vs : List V} {us : List U} {i j : Nat} {a : Addr}, (addrs vs us).Nodup → (lent vs us)[i]? = some (some a) → (lent vs us)[j]? = some (some a) → i = j
  | [],us,i,j,a,_,h,_=>by cases us <;> simp[lent] at h
  | v :: vs,[],i,j,a,_,h,_=>by cases v <;> simp[lent] at h
  | v :: vs, u :: us, i, j, a, nd, h1, h2 => by
    have ih:∀{i j},(addrs vs us).Nodup→(lent vs us)[i]? =some (some a)→(lent vs us)[j]? =some (some a)→i=j:=fun {i j}=>rm (i:=i) (j:=j)
    by_cases KW:∃c o,v= .ref c∧u= .b o
    · obtain⟨c,o,rfl,rfl⟩:=KW
      obtain⟨n1,n2⟩:=List.nodup_cons.mp (show(c :: addrs vs us).Nodup from nd)
      cases i with
      | zero=>
        cases j with
        | zero=>rfl
        | succ j=>
          have e1:c=a:=by simpa[lent] using h1
          have e2:(lent vs us)[j]? =some (some a):=by simpa[lent] using h2
          subst e1
          exact absurd ((j8 vs us c).mp (List.mem_of_getElem? e2)) n1
      | succ i=>
        have e1:(lent vs us)[i]? =some (some a):=by simpa[lent] using h1
        cases j with
        | zero=>
          have e2:c=a:=by simpa[lent] using h2
          subst e2
          exact absurd ((j8 vs us c).mp (List.mem_of_getElem? e1)) n1
        | succ j=>exact congrArg Nat.succ (ih n2 e1 (by simpa[lent] using h2))
    · have e1:lent (v :: vs) (u :: us)=none :: lent vs us:=by cases v <;> cases u <;> first | rfl | exact absurd ⟨_,_,rfl,rfl⟩ KW
      have e2:addrs (v :: vs) (u :: us)=addrs vs us:=by cases v <;> cases u <;> first | rfl | exact absurd ⟨_,_,rfl,rfl⟩ KW
      rw[e1] at h1 h2
      rw[e2] at nd
      cases i with
      | zero=>simp at h1
      | succ i=>
        cases j with
        | zero=>simp at h2
        | succ j=>exact congrArg Nat.succ (ih nd (by simpa using h1) (by simpa using h2))
theorem lP {α β:Type}{P:α→β→Prop}:∀{l:List α}{r:List β}{i:Nat}{y:β},Paired P l r→r[i]? =some y→∃x,l[i]? =some x∧P x y
 | _,_,_,_,.nil,h=>by simp at h
 | _,_,0,_,.cons p _,h=>by simp at h;subst h;exact⟨_,rfl,p⟩
 | _,_,i+1,_,.cons _ ps,h=>by
  obtain⟨x,h1,h2⟩:=lP (i:=i) ps (by simpa using h)
  exact⟨x,by simpa using h1,h2⟩
theorem rq {K:PySem.W.Frag}{F H:Hp}{vs:List V}{us:List U}{n:Nat}(sb:Sub F H) (ar:Paired (Ag K F H) vs us) (nd:(addrs vs us).Nodup) (N:List Str) (hN:N.length=n):
  Rel K ⟨lent vs us,F,H⟩ (us.map some++List.replicate (n - us.length) none) (start N vs) F H:=by
 have hl:vs.length=us.length:=ar.length
 have gS:∀{i:Nat}{u:U},(us.map some++List.replicate (n - us.length) none)[i]? =some (some u)→us[i]? =some u:=fun {i u} h=>by
  rw[List.getElem?_append] at h
  split at h
  ·rw[List.getElem?_map] at h
   obtain⟨w,h1,h2⟩:=au h
   cases h2
   exact h1
  ·rw[List.getElem?_replicate] at h
   split at h <;> cases h
 have KY:∀{i:Nat}{v:V},vs[i]? =some v→(start N vs)[i]? =some (some v):=fun {i v} h=>by
  unfold start
  have hi:=(List.getElem?_eq_some_iff.mp h).1
  rw[List.getElem?_append_left (by simpa using hi),List.getElem?_map,h]
  rfl
 have vb:∀{i:Nat}{v w:V},vs[i]? =some v→(start N vs)[i]? =some (some w)→v=w:=fun {i v w} h k=>by
  rw[KY h] at k
  cases k
  rfl
 have BW:∀{i:Nat}{u:U},us[i]? =some u→dY u=true→∃o a,u= .b o∧vs[i]? =some (.ref a)∧(lent vs us)[i]? =some (some a)∧F a=none∧At F H a o:=fun {i u} h hm=>by
  obtain⟨v,h1,h2⟩:=lP ar h
  cases u with
  | t d=>cases hm
  | v d=>cases hm
  | s d=>cases hm
  | f d=>cases hm
  | m o=>cases h2
  | b o=>obtain⟨a,k1,k2,k3,k4⟩:=sD ar h;exact⟨o,a,rfl,k1,k2,k3,k4⟩
 refine⟨sb,?_,fun i u h=>?_,fun i j u w a h1 m1 h2 m2 v1 v2=>?_,fun i o a h hv=>?_,fun i o a h hv=>?_,fun i a h=>?_,Ext.refl ..⟩
 ·unfold start;simp[hl,hN]
 ·obtain⟨v,h1,h2⟩:=lP ar (gS h)
  refine⟨v,KY h1,?_⟩
  cases u with
  | t d=>exact h2
  | s d=>exact h2
  | f d=>exact h2
  | v d=>cases h2
  | m o=>cases h2
  | b o=>exact h2
 ·obtain⟨_,a1,_,k1,k2,_⟩:=BW (gS h1) m1
  obtain⟨_,a2,_,l1,l2,_⟩:=BW (gS h2) m2
  have e1:=vb k1 v1
  have e2:=vb l1 v2
  cases e1
  cases e2
  exact rm nd k2 l2
 ·obtain⟨_,_,e,_⟩:=BW (gS h) rfl
  cases e
 ·obtain⟨_,a1,_,k1,k2,_⟩:=BW (gS h) rfl
  have e1:=vb k1 hv
  cases e1
  exact List.mem_of_getElem? k2
 ·obtain⟨k1,o,k2⟩:=tY h
  refine⟨KY k1,o,?_⟩
  have hi:=(List.getElem?_eq_some_iff.mp k2).1
  rw[List.getElem?_append_left (by simpa using hi),List.getElem?_map,k2]
  rfl
theorem sE {F' H' : Hp} : ∀ {vs : List V} {us : List U} {S : SS} {os : List MO}, aA us S = some os → vs.length = us.length → (∀ (i : Nat) (o : MO) (a : Addr), (lent vs us)[i]? = some (some a) → S[i]? = some (some (.b o)) → F' a = none ∧ At F' H' a o) → (∀ (i : Nat) (o : MO), us[i]? = some (.b o) → ∃ a, vs[i]? = some (.ref a)) →
    Paired (fun a o=>F' a=none∧At F' H' a o) (addrs vs us) os
  | [],[],S,os,h,_,_,_=>by cases S <;> (simp[aA] at h;subst h;exact .nil)
  | [],_ :: _,_,_,_,l,_,_=>by cases l
  | _ :: _,[],_,_,_,l,_,_=>by cases l
  | v :: vs, u :: us, S, os, h, l, k, kb => by
    have l':vs.length=us.length:=by simpa using l
    have kb':∀(i:Nat) (o:MO),us[i]? =some (.b o)→∃a,vs[i]? =some (.ref a):=fun i o z=>by simpa using kb (i+1) o (by simpa using z)
    by_cases hu:∃o,u= .b o
    · obtain⟨o,rfl⟩:=hu
      obtain⟨a,ha⟩:=kb 0 o rfl
      have ha:v= .ref a:=by simpa using ha
      subst ha
      cases S with
      | nil=>simp[aA] at h
      | cons s S=>
        cases s with
        | none=>simp[aA] at h
        | some s=>
          cases s with
          | b o'=>
            obtain⟨os',h1,h2⟩:=au (show(aA us S).map (fun os=>o' :: os)=some os from h)
            subst h2
            exact .cons (k 0 o' a rfl rfl) (sE h1 l' (fun i o a z1 z2=>k (i+1) o a (by simpa[lent] using z1) (by simpa using z2)) kb')
          | t d=>simp[aA] at h
          | m d=>simp[aA] at h
          | v d=>simp[aA] at h
          | s d=>simp[aA] at h
          | f d=>simp[aA] at h
    · cases S with
      | nil=>cases u <;> first | (simp[aA] at h;done) | exact absurd ⟨_,rfl⟩ hu
      | cons s S=>
        have h':aA us S=some os:=by cases u <;> first | exact absurd ⟨_,rfl⟩ hu | simpa[aA] using h
        have e2:addrs (v :: vs) (u :: us)=addrs vs us:=by cases v <;> cases u <;> first | rfl | exact absurd ⟨_,rfl⟩ hu
        have e1:lent (v :: vs) (u :: us)=none :: lent vs us:=by cases v <;> cases u <;> first | rfl | exact absurd ⟨_,rfl⟩ hu
        rw[e2]
        exact sE h' l' (fun i o a z1 z2=>k (i+1) o a (by rw[e1];simpa using z1) (by simpa using z2)) kb'
theorem post_of {K:PySem.W.Frag}{F0 H:Hp}{vs:List V}{us:List U}(ar:Paired (Ag K F0 H) vs us) (S':SS) (σ':St) (F' H':Hp) (os:List MO) (R':Rel K ⟨lent vs us,F0,H⟩ S' σ' F' H') (ho':aA us S'=some os):Post F0 H F' H' (addrs vs us) os:=by
 refine⟨R'.sub,⟨R'.ext.le,fun b o z n=>R'.ext.keep b o z fun m=>n ((j8 vs us b).mp m),fun b o z n=>R'.ext.jf b o z fun m=>n ((j8 vs us b).mp m),R'.ext.there,R'.ext.ju⟩,sE ho' ar.length (fun i o a z1 z2=>?_) fun i o z=>?_⟩
 ·obtain⟨k1,o2,k2⟩:=R'.par i a z1
  obtain⟨v,j1,j2⟩:=R'.rep i _ z2
  rw[k1] at j1
  cases j1
  obtain⟨c,e,f,k⟩:=j2
  cases e
  exact⟨f,k⟩
 ·obtain⟨a,h1,_⟩:=sD ar z
  exact⟨a,h1⟩
section
variable {P:Program}{w:World}{K:PySem.W.Frag}{mg:Str→Option Value}{base:Heap}
theorem qm {x qual:Str}{st:Stmt}{f:Addr}{fd:FuncData}{N ps:List Str}{k:Nat}{fm:FM}{g:GS}(F:m6 K x qual st f fd) (Sc:bH N ps (aB st))
  (hb:∀(cdv:Value) (A:Around) (outer:List Env) (s:Shared) (H:Hp) (E:XK),iw k (A.deeper (envOfC qual (aB st) s.heap.objs.size f cdv))→JB (vC fQ P w K mg base N qual (aB st) f cdv A outer s H E).Bh (bh st) g)
  (hf:∀us r,fm us=some r→aH N.length g us=some r):bz P w K mg base fQ (k+1) f fd ps (spT K ps.length fm):=by
 refine F.ok Sc (fun vs H Q E h=>h.1) fun cdv A outer s H vs Q E hr h=>?_
 obtain⟨hlen,F0,us,r,outs,sb,ar,nd,hfm,q⟩:=h
 have hrun:=hf us (r,outs) hfm
 have J:=hb cdv A outer s H E hr
 refine⟨_,J.h ⟨lent vs us,F0,H⟩,?_⟩
 have R0:=rq sb ar nd N rfl
 obtain⟨o,ho,hrun⟩:=ak hrun
 refine⟨_,F0,o,R0,ho,?_⟩
 have post:=post_of ar
 cases o with
 | bk S'=>cases hrun
 | ct S'=>cases hrun
 | nx S'=>
  obtain⟨os,h1,h2⟩:=au (show(aA us S').map _=some (r,outs) from hrun)
  cases h2
  exact fun σ' F' H' R' le=>q .cg F' H' (post S' σ' F' H' outs R' h1) .cg
 | rt u S'=>
  cases u with
  | b o=>cases hrun
  | v i=>cases hrun
  | s i=>cases hrun
  | f i=>cases hrun
  | t d=>
   obtain⟨os,h1,h2⟩:=au (show(aA us S').map _=some (r,outs) from hrun)
   cases h2
   exact fun v σ' F' H' R' le rr=>q v F' H' (post S' σ' F' H' outs R' h1) rr
  | m o=>
   obtain⟨os,h1,h2⟩:=au (show(aA us S').map _=some (r,outs) from hrun)
   cases h2
   exact fun v σ' F' H' R' le rr=>q v F' H' (post S' σ' F' H' outs R' h1) (by obtain⟨a,e,h0,f,h,n,hB⟩:=rr;exact⟨a,e,hB,f,h⟩)
end
end L2
end
section
set_option Elab.async false
set_option linter.all false
set_option maxRecDepth 100000
namespace L2
open PySem PySem.Spec PyProof.Rows
noncomputable def pO (S:SS) (i:Nat):Option U:=match S[i]? with
 | some (some (.t d))=>some (.t d)
 | some (some (.s d))=>some (.s d)
 | some (some (.f d))=>some (.f d)
 | some (some (.m _))=>some (.v i)
 | some (some (.b _))=>some (.v i)
 | _=>none
noncomputable def g8 (S:SS):List Nat→Option (List U)
 | []=>some []
 | i :: cap=>(pO S i).bind fun u=>(g8 S cap).map fun us=>u :: us
noncomputable def gq:GT:=fun S=>some (true,S)
noncomputable def d8 (cap:List Nat) (q:GT) (g:GD):List D→SS→List D→Option (List D×SS)
  | [],S,acc=>some (acc,S)
  | d :: ds, S, acc => (g8 S cap).bind fun us =>
    if(slotsOf us).Nodup∧bS us≤1 then(bV S us).bind fun ws=>(q (some (.t d) :: ws.map some)).bind fun p=>
      if p.1 then(g p.2).bind fun r=>(aA (.t d :: ws) r.2).bind fun outs=>(wb us outs S).bind fun S'=>d8 cap q g ds S' (acc++[r.1])
      else(aA (.t d :: ws) p.2).bind fun outs=>(wb us outs S).bind fun S'=>d8 cap q g ds S' acc
    else none
noncomputable def iN (cap:List Nat) (gi:GI) (q:GT) (g:GD):GE:=fun S=>(gi S).bind fun p=>if p.1.length≤100000 then(d8 cap q g p.1 p.2 []).map fun r=>(.m (.lst r.1),r.2) else none
structure KZ (X:Cx) (es:List Expr) (q:GT):Prop where
 h:∀B,ER X es (tQ X.K B q)
theorem iF {X:Cx}:KZ X [] gq:=⟨fun B pins s σ H Q I ⟨S,F,b,S',R,hg,q⟩=>by cases hg;exact BG pins s σ H Q I (q F H R (Step.refl ..))⟩
theorem Ah {K:PySem.W.Frag}{B:Base}{S:SS}{σ:St}{F H:Hp}(R:Rel K B S σ F H):∀{cap:List Nat}{us:List U},g8 S cap=some us→∃vs:List V,dX cap σ=vs.map some∧Paired (fun v u=>jg K B S σ H F H v u) vs us
  | [],us,h=>by cases h;exact⟨[],rfl,.nil⟩
  | i :: cap, us, h => by
    obtain⟨u,h1,h⟩:=ak h
    obtain⟨us',h2,h⟩:=au h
    subst h
    obtain⟨vs,k1,k2⟩:=Ah R h2
    have one:∀w,S[i]? =some (some w)→∃v,σ[i]? =some (some v)∧tR K F H v w:=R.rep i
    unfold pO at h1
    have fin:∀v,σ[i]? =some (some v)→jg K B S σ H F H v u→∃vs:List V,dX (i :: cap) σ=vs.map some∧Paired (fun v u=>jg K B S σ H F H v u) vs (u :: us'):=fun v e r=>
      ⟨v :: vs,by show(σ[i]?).join :: dX cap σ=_;rw[e,k1];rfl,.cons r k2⟩
    split at h1
    · rename_i d e
      cases h1
      obtain⟨v,e1,r⟩:=one _ e
      exact fin v e1 r
    · rename_i d e
      cases h1
      obtain⟨v,e1,r⟩:=one _ e
      exact fin v e1 r
    · rename_i d e
      cases h1
      obtain⟨v,e1,r⟩:=one _ e
      exact fin v e1 r
    · rename_i o e
      cases h1
      obtain⟨v,e1,r⟩:=one _ e
      exact fin v e1 ⟨e1,_,e⟩
    · rename_i o e
      cases h1
      obtain⟨v,e1,r⟩:=one _ e
      exact fin v e1 ⟨e1,_,e⟩
    · cases h1
theorem Ai {K:PySem.W.Frag}{B:Base}{S:SS}{σ:St}{F H:Hp}(R:Rel K B S σ F H) (d:D){us ws:List U}(h:bV S us=some ws):bV S (.t d :: us)=some (.t d :: ws):=by
 show(some (U.t d)).bind _=_
 show(bV S us).map _=_
 rw[h]
 rfl
theorem tZ {K : PySem.W.Frag} {B : Base} {cap : List Nat} {gi : GI} {q : GT} {g : GD} {σ : St} {H : Hp} {Q : VK} (h : tE K B (iN cap gi q g) σ H Q) : IB (OU K B gi) cap (fun σ H Q => ∃ B, tQ K B q σ H Q) (fun σ H Q => ∃ B, tD K B g σ H Q) σ H Q := by
  obtain⟨x,_⟩:∃x:Str,True:=⟨"",trivial⟩
  obtain⟨S,F,u,S',R,hg,k⟩:=h
  obtain⟨⟨ds,S1⟩,h1,hg⟩:=ak hg
  dsimp only at hg
  split at hg
  · rename_i hlen
    obtain⟨⟨res,Sf⟩,h2,hg⟩:=au hg
    cases hg
    refine⟨S,F,ds,S1,R,h1,fun J F1 H1 R1 st1 w=>?_⟩
    refine⟨fun i m ys H'=>∃S2 F2 acc,Rel K B S2 σ F2 H'∧Step S S2 σ F H F2 H'∧(∀b o,F1 b=some o→F2 b=some o)∧aQ F2 ys acc∧acc.length≤i∧i≤ds.length∧m=ds.length - i∧d8 cap q g (ds.drop i) S2 acc=some (res,Sf),
      ⟨_,S1,F1,[],R1,st1,fun _ _ z=>z,.nil,Nat.le_refl _,Nat.zero_le _,rfl,h2⟩,?_⟩
    rintro i m ys H' ⟨S2,F2,acc,R2,st2,le,ry,ha,hl,rfl,j7⟩
    refine⟨by rw[ry.length];exact Nat.lt_of_le_of_lt (Nat.le_trans ha (Nat.le_trans hl hlen)) (by decide),?_⟩
    have w':=w F2 H' le R2.sub i
    by_cases hlt:i < ds.length
    · have hd:ds[i]? =some ds[i]:=List.getElem?_eq_getElem hlt
      obtain⟨go,yl⟩:=w'.1 _ hd
      rw[List.drop_eq_getElem_cons hlt] at j7
      refine .inr ⟨go,fun xv H3 y=>?_⟩
      obtain⟨rfl,rx⟩:=yl xv H3 y
      obtain⟨us,e1,j7⟩:=ak j7
      skip
      split at j7
      · rename_i hnd
        obtain⟨ws,e2,j7⟩:=ak j7
        obtain⟨⟨bk,T1⟩,e3,j7⟩:=ak j7
        obtain⟨vs,k1,k2⟩:=Ah R2 e1
        have rr:Paired (fun v u=>jg K B S2 σ H3 F2 H3 v u) (xv :: vs) (.t ds[i] :: us):=.cons rx k2
        have er:=Ai R2 ds[i] e2
        have ar:=pC R2 rr er
        have nd:=dH R2 rr er hnd.1 hnd.2
        have R3:=rq (n:=ws.length+1) R2.sub ar nd (List.replicate (ws.length+1) x) (by simp)
        have hvl:vs.length=ws.length:=by have:=ar.length;simpa using this
        have es:start (List.replicate (ws.length+1) x) (xv :: vs)=some xv :: dX cap σ:=by
          unfold start;rw[k1];simp[hvl]
        have eS:(U.t ds[i] :: ws).map some++List.replicate (ws.length+1 - (U.t ds[i] :: ws).length) none=some (U.t ds[i]) :: ws.map some:=by simp
        rw[es,eS] at R3
        have back:∀(T2:SS) (F3 H4:Hp) (outs:List MO) (S3:SS),Rel K ⟨lent (xv :: vs) (U.t ds[i] :: ws),F2,H3⟩ T2 (some xv :: dX cap σ) F3 H4→aA (U.t ds[i] :: ws) T2=some outs→wb us outs S2=some S3→Rel K B S3 σ F3 H4∧Step S S3 σ F H F3 H4∧(∀b o,F2 b=some o→F3 b=some o):=fun T2 F3 H4 outs S3 RT ho hw=>by
          have po:=post_of ar T2 _ F3 H4 outs RT ho
          obtain⟨Ra,EW,_⟩:=lO (S0:=S2) (F0:=F2) (H0:=H3) R2 (Step.refl ..) rr er (show wb (U.t ds[i] :: us) outs S2=some S3 by cases outs <;> exact hw) hnd.1 po
          exact⟨Ra,st2.trans EW,EW.ext.le⟩
        refine⟨_,_,F2,bk,T1,R3,e3,fun F3 H4 OV QC=>?_⟩
        cases bk with
        | true=>
          obtain⟨⟨yd,T2⟩,e4,j7⟩:=ak (show(g T1).bind _=_ from j7)
          obtain⟨outs,e5,j7⟩:=ak j7
          obtain⟨S3,e6,j7⟩:=ak j7
          refine zR ⟨_,T1,F3,yd,T2,OV,e4,fun yv F4 H5 QD QE QF=>?_⟩
          obtain⟨Ra,EW,GY⟩:=back T2 F4 H5 outs S3 QD e5 e6
          refine⟨ds.length - (i+1),by omega,S3,F4,acc++[yd],Ra,EW,fun b o z=>GY b o (le b o z),(ry.le GY).append (.cons QF .nil),by simp;omega,hlt,rfl,j7⟩
        | false=>
          obtain⟨outs,e5,j7⟩:=ak (show(aA (U.t ds[i] :: ws) T1).bind _=_ from j7)
          obtain⟨S3,e6,j7⟩:=ak j7
          obtain⟨Ra,EW,GY⟩:=back T1 F3 H4 outs S3 OV e5 e6
          exact zQ ⟨ds.length - (i+1),by omega,S3,F3,acc,Ra,EW,fun b o z=>GY b o (le b o z),ry.le GY,by omega,hlt,rfl,j7⟩
      · cases j7
    · have e:i=ds.length:=by omega
      subst e
      rw[List.drop_length] at j7
      cases j7
      refine .inl ⟨w'.2 (Nat.le_refl _),fun p hp=>?_⟩
      have n:=gg.obj (F:=F2) hp (.lst ys)
      refine k (.ref p) F2 _ (R2.new n (R2.sub.same n.same)) (st2.trans n.step) ⟨p,rfl,none_of st2.ext.there hp,R2.sub.fresh hp,⟨ys,aY,ry⟩,fun m=>?_,none_of R2.ext.there hp⟩
      obtain⟨o,ho⟩:=R2.has m
      rw[hp] at ho
      cases ho
  · cases hg
theorem kX {X:Cx}{elt iter:Expr}{ifs:List Expr}{x:Str}{px pos:Pos}{scope:Scope}{cl:List (Str×Addr)}{cj:List Str}{cap:List Nat}{gi:GI}{q:GT}{g:GD}(T:iC X x cj cap scope cl) (hc:X.calm=true) (hi:JI X (.Name x px) iter gi)
  (ht:∀C s H fp,KZ (gj X (x :: cj) scope cl C s H fp) ifs q) (he:∀C s H fp,JD (gj X (x :: cj) scope cl C s H fp) elt g)
  (hs:∀x,foldedSetIterable iter X.env x=pure x:=by intro _;rfl):JE X (.ListComp elt [⟨.Name x px,iter,ifs,0⟩] scope pos) (iN cap gi q g):=⟨fun B=>by
 exact(zV (tc:=fun σ H Q=>∃B,tQ X.K B q σ H Q) (te:=fun σ H Q=>∃B,tD X.K B g σ H Q) T hc (hi.h B) (fun C s H fp pins s' σ H' Q I ⟨B',z⟩=>(ht C s H fp).h B' pins s' σ H' Q I z) (fun C s H fp pins s' σ H' Q I ⟨B',z⟩=>(he C s H fp).h B' pins s' σ H' Q I z) hs).imp fun σ H Q h=>tZ h⟩
theorem pP {X:Cx}{elt iter:Expr}{ifs:List Expr}{x y:Str}{px pos py spos:Pos}{scope:Scope}{cl:List (Str×Addr)}{cj:List Str}{cap:List Nat}{gi:GI}{q:GT}{g:GD}{i:Nat}(hN:X.N.Nodup) (hy:X.N[i]? =some y) (hx:Loc X.env.scope y) (T:iC X x cj cap scope cl) (hc:X.calm=true) (hi:JI X (.Name x px) iter gi)
  (ht:∀C s H fp,KZ (gj X (x :: cj) scope cl C s H fp) ifs q) (he:∀C s H fp,JD (gj X (x :: cj) scope cl C s H fp) elt g)
  (hsw:swapsWith (.ListComp elt [⟨.Name x px,iter,ifs,0⟩] scope pos) (some (.Name y py)) spos.line X.env=pure true:=by rfl) (hf:X.fn y=true∨X.env.scope.names.lookup y=some .local:=by first | exact .inl rfl | exact .inr rfl | assumption)
  (hs:∀x,foldedSetIterable iter X.env x=pure x:=by intro _;rfl):JS X (.Assign [.Name y py] (.ListComp elt [⟨.Name x px,iter,ifs,0⟩] scope pos) spos) (bR i (iN cap gi q g)):=⟨fun B=>
 (zW (tc:=fun σ H Q=>∃B,tQ X.K B q σ H Q) (te:=fun σ H Q=>∃B,tD X.K B g σ H Q) T hc (hi.h B) (fun C s H fp pins s' σ H' Q I ⟨B',z⟩=>(ht C s H fp).h B' pins s' σ H' Q I z) (fun C s H fp pins s' σ H' Q I ⟨B',z⟩=>(he C s H fp).h B' pins s' σ H' Q I z) hs hN hy hx hsw hf).imp fun D σ H h=>tZ (wO h)⟩
end L2
end
section
set_option Elab.async false
set_option linter.all false
set_option maxRecDepth 100000
namespace L2
open PySem PySem.Spec PyProof.Rows
mutual
noncomputable def m8:D→D→Bool
 | .cg,.cg=>true
 | .bl a,.bl b=>a == b
 | .int a,.int b=>a == b
 | .bl a,.int b=>(if a then 1 else 0) == b
 | .int a,.bl b=>a == (if b then 1 else 0)
 | .str a,.str b=>a == b
 | .tup a,.tup b=>lQ a b
 | .lst a,.lst b=>lQ a b
 | _,_=>false
noncomputable def lQ:List D→List D→Bool
 | [],[]=>true
 | a :: as,b :: bs=>m8 a b && lQ as bs
 | _,_=>false
end
mutual
noncomputable def j9:D→Nat
 | .tup ds=>bK ds+1
 | .lst ds=>bK ds+1
 | _=>0
noncomputable def bK:List D→Nat
 | []=>0
 | d :: ds=>max (j9 d) (bK ds)
end
mutual
theorem Aj:∀d:D,m8 d d=true
 | .cg=>rfl
 | .bl a=>by simp[m8]
 | .int a=>by simp[m8]
 | .str a=>by simp[m8]
 | .tup a=>by unfold m8;exact jy a
 | .lst a=>by unfold m8;exact jy a
theorem jy:∀ds:List D,lQ ds ds=true
 | []=>rfl
 | d :: ds=>by unfold lQ;rw[Aj d,jy ds];rfl
end
noncomputable def kg (as bs:List D) (j:Nat):Bool:=match as[j]?,bs[j]? with
 | some a,some b=>m8 a b
 | _,_=>true
theorem pQ (n:Nat) (e:Nat→Bool):(List.range (n+1)).all e=(e 0 && (List.range n).all fun j=>e (j+1)):=by
 rw[List.range_succ_eq_map,List.all_cons,List.all_map]
 rfl
theorem kh:∀{as bs:List D},as.length≠bs.length→lQ as bs=false
 | [],[],h=>absurd rfl h
 | [],_ :: _,_=>rfl
 | _ :: _,[],_=>rfl
 | a :: as,b :: bs,h=>by
  unfold lQ
  rw[kh (as:=as) (bs:=bs) (fun z=>h (by simp[z])),Bool.and_false]
theorem iO:∀{as bs:List D},as.length=bs.length→(List.range as.length).all (kg as bs)=lQ as bs
 | [],[],_=>rfl
 | [],_ :: _,h=>by cases h
 | _ :: _,[],h=>by cases h
 | a :: as,b :: bs,h=>by
  have h':as.length=bs.length:=by simpa using h
  show(List.range (as.length+1)).all _=_
  rw[pQ]
  unfold lQ
  have ih:=iO h'
  have e:(fun j=>kg (a :: as) (b :: bs) (j+1))=kg as bs:=by funext j;simp[kg]
  rw[e,ih]
  rfl
mutual
theorem Rep.uniq {F:Hp}:∀{v:V}{d e:D},Rep F v d→Rep F v e→d=e
 | _,_,_,.cg,r=>by cases r;rfl
 | _,_,_,.bl b,r=>by cases r;rfl
 | _,_,_,.int b,r=>by cases r;rfl
 | _,_,_,.str b,r=>by cases r;rfl
 | _,_,_,.tup e1 r1,r=>by
  cases r with
  | tup e2 r2=>rw[e1] at e2;cases e2;rw[aQ.uniq r1 r2]
  | lst e2 r2=>rw[e1] at e2;cases e2
 | _,_,_,.lst e1 r1,r=>by
  cases r with
  | tup e2 r2=>rw[e1] at e2;cases e2
  | lst e2 r2=>rw[e1] at e2;cases e2;rw[aQ.uniq r1 r2]
theorem aQ.uniq {F:Hp}:∀{vs:List V}{ds es:List D},aQ F vs ds→aQ F vs es→ds=es
 | _,_,_,.nil,r=>by cases r;rfl
 | _,_,_,.cons r1 s1,r=>by
  cases r with
  | cons r2 s2=>rw[Rep.uniq r1 r2,aQ.uniq s1 s2]
end
section
variable {X:Cx}{pins:List (Addr×Obj)}{σ:St}{F H:Hp}{s:Shared}
theorem Sub.isTup (I:Inv X pins σ H s) (sb:Sub F H){a:Addr}{vs:List V}(h:F a=some (.tup vs)):∃its:List Value,Vals vs its∧s.heap.IsTuple a its.toArray:=by
 obtain⟨its,rv,p,_⟩:=I.tuple (.inl (Rd.of (sb a _ h)))
 exact⟨its,rv,p⟩
theorem Sub.cU (I:Inv X pins σ H s) (sb:Sub F H){a:Addr}{vs:List V}(h:F a=some (.lst vs)):∃its:List Value,Vals vs its∧s.heap.IsList a its.toArray:=by
 obtain⟨its,rv,p,_⟩:=I.list (.inl (Rd.of (sb a _ h)))
 exact⟨its,rv,p.isList⟩
noncomputable def g9 (A:Around) (s:Shared) (its bJ:List Value) (ds es:List D):Prop:=∀j (h1:j < its.toArray.size) (h2:j < bJ.toArray.size),SeqAt.EqAt A.in1 s its.toArray[j] bJ.toArray[j] (kg ds es j)
theorem wR {n m:Nat}(h:n=m) (e:Nat→Bool):((List.range (min n m)).all e && n == m)=(List.range n).all e:=by
 subst h;simp
theorem mT {A:Around}{ca cb:Addr}{fE bJ:List Value}{ds es:List D}(hu:A.units < cLine) (pa:s.heap.IsTuple ca fE.toArray) (pb:s.heap.IsTuple cb bJ.toArray) (la:fE.length=ds.length) (lb:bJ.length=es.length) (h:g9 A s fE bJ ds es):
  SeqAt.RcAt A s (.ref ca) (.ref cb) (lQ ds es):=by
 have q:=SeqAt.RcAt.tuples (e:=kg ds es) pa pb hu h
 rw[List.size_toArray,List.size_toArray,la,lb] at q
 by_cases hl:ds.length=es.length
 ·rw[wR hl,iO hl] at q;exact q
 ·rw[kh hl]
  have:(ds.length == es.length)=false:=by simpa using hl
  rw[this,Bool.and_false] at q
  exact q
theorem pR {A:Around}{ca cb:Addr}{fE bJ:List Value}{ds es:List D}(hu:A.units < cLine) (pa:s.heap.IsTuple ca fE.toArray) (pb:s.heap.IsTuple cb bJ.toArray) (la:fE.length=ds.length) (lb:bJ.length=es.length) (h:g9 A s fE bJ ds es):
  SeqAt.RcNeAt A s (.ref ca) (.ref cb) (!lQ ds es):=by
 have q:=SeqAt.RcNeAt.tuples (e:=kg ds es) pa pb hu h
 rw[List.size_toArray,List.size_toArray,la,lb] at q
 by_cases hl:ds.length=es.length
 ·rw[wR hl,iO hl] at q;exact q
 ·rw[kh hl]
  have:(ds.length == es.length)=false:=by simpa using hl
  rw[this,Bool.and_false] at q
  exact q
theorem oA {A:Around}{ca cb:Addr}{fE bJ:List Value}{ds es:List D}(hu:A.units < cLine) (pa:s.heap.IsList ca fE.toArray) (pb:s.heap.IsList cb bJ.toArray) (la:fE.length=ds.length) (lb:bJ.length=es.length) (h:g9 A s fE bJ ds es):
  SeqAt.RcAt A s (.ref ca) (.ref cb) (lQ ds es):=by
 by_cases hl:ds.length=es.length
 ·have q:=SeqAt.RcAt.lists (e:=kg ds es) pa pb (by rw[List.size_toArray,List.size_toArray,la,lb];exact hl) hu h
  rw[List.size_toArray,la,iO hl] at q;exact q
 ·rw[kh hl]
  exact SeqAt.RcAt.lists_lengths pa pb (by rw[List.size_toArray,List.size_toArray,la,lb];simpa using hl) hu
theorem qw {A:Around}{ca cb:Addr}{fE bJ:List Value}{ds es:List D}(hu:A.units < cLine) (pa:s.heap.IsList ca fE.toArray) (pb:s.heap.IsList cb bJ.toArray) (la:fE.length=ds.length) (lb:bJ.length=es.length) (h:g9 A s fE bJ ds es):
  SeqAt.RcNeAt A s (.ref ca) (.ref cb) (!lQ ds es):=by
 by_cases hl:ds.length=es.length
 ·have q:=SeqAt.RcNeAt.lists (e:=kg ds es) pa pb (by rw[List.size_toArray,List.size_toArray,la,lb];exact hl) hu h
  rw[List.size_toArray,la,iO hl] at q;exact q
 ·rw[kh hl]
  exact SeqAt.RcNeAt.lists_lengths pa pb (by rw[List.size_toArray,List.size_toArray,la,lb];simpa using hl) hu
theorem cO {α:Type}(l:List α) (j:Nat) (h:j < l.toArray.size):l[j]? =some l.toArray[j]:=by
 have z:j < l.length:=by simpa using h
 simp[z]
mutual
theorem CS (I : Inv X pins σ H s) (sb : Sub F H) : ∀ (d : D) {e : D} {A : Around} {x y : V} {u w' : Value}, Rep F x d → Rep F y e → RelV x u → RelV y w' → A.units + j9 d < cLine → SeqAt.EqAt A s u w' (m8 d e) := fun d {e A x y u w'} r1 r2 rx ry hu => by
  cases r1 with
  | cg=>
    cases rx
    cases r2 with
    | cg=>cases ry;exact SeqAt.EqAt.same _
    | bl b=>cases ry;exact SeqAt.EqAt.none_bool b
    | int b=>obtain⟨tb,rfl⟩:=ry;exact SeqAt.EqAt.none_int b tb
    | str b=>obtain⟨tb,rfl⟩:=ry;exact SeqAt.EqAt.none_str b tb
    | @tup cb ki jz eb rb=>cases ry;obtain⟨bJ,iP,pb⟩:=sb.isTup I eb;exact SeqAt.EqAt.none_tuple pb (by omega)
    | @lst cb ki jz eb rb=>cases ry;obtain⟨bJ,iP,pb⟩:=sb.cU I eb;exact SeqAt.EqAt.none_list pb (by omega)
  | bl a=>
    cases rx
    cases r2 with
    | cg=>cases ry;exact SeqAt.EqAt.bool_none a
    | bl b=>cases ry;exact SeqAt.EqAt.bool_bool a b
    | int b=>obtain⟨tb,rfl⟩:=ry;exact SeqAt.EqAt.bool_int a b tb
    | str b=>obtain⟨tb,rfl⟩:=ry;exact SeqAt.EqAt.bool_str a b tb
    | @tup cb ki jz eb rb=>cases ry;obtain⟨bJ,iP,pb⟩:=sb.isTup I eb;exact SeqAt.EqAt.bool_tuple a pb (by omega)
    | @lst cb ki jz eb rb=>cases ry;obtain⟨bJ,iP,pb⟩:=sb.cU I eb;exact SeqAt.EqAt.bool_list a pb (by omega)
  | int a=>
    obtain⟨ta,rfl⟩:=rx
    cases r2 with
    | cg=>cases ry;exact SeqAt.EqAt.int_none a ta
    | bl b=>cases ry;exact SeqAt.EqAt.int_bool a ta b
    | int b=>obtain⟨tb,rfl⟩:=ry;exact SeqAt.EqAt.int_int a ta b tb
    | str b=>obtain⟨tb,rfl⟩:=ry;exact SeqAt.EqAt.int_str a ta b tb
    | @tup cb ki jz eb rb=>cases ry;obtain⟨bJ,iP,pb⟩:=sb.isTup I eb;exact SeqAt.EqAt.int_tuple a ta pb (by omega)
    | @lst cb ki jz eb rb=>cases ry;obtain⟨bJ,iP,pb⟩:=sb.cU I eb;exact SeqAt.EqAt.int_list a ta pb (by omega)
  | str a=>
    obtain⟨ta,rfl⟩:=rx
    cases r2 with
    | cg=>cases ry;exact SeqAt.EqAt.str_none a ta
    | bl b=>cases ry;exact SeqAt.EqAt.str_bool a ta b
    | int b=>obtain⟨tb,rfl⟩:=ry;exact SeqAt.EqAt.str_int a ta b tb
    | str b=>obtain⟨tb,rfl⟩:=ry;exact SeqAt.EqAt.str_str a ta b tb
    | @tup cb ki jz eb rb=>cases ry;obtain⟨bJ,iP,pb⟩:=sb.isTup I eb;exact SeqAt.EqAt.str_tuple a ta pb (by omega)
    | @lst cb ki jz eb rb=>cases ry;obtain⟨bJ,iP,pb⟩:=sb.cU I eb;exact SeqAt.EqAt.str_list a ta pb (by omega)
  | @tup ca GZ lD ea ra=>
    cases rx;obtain⟨fE,uc,pa⟩:=sb.isTup I ea
    cases r2 with
    | cg=>cases ry;exact SeqAt.EqAt.tuple_none pa (by omega)
    | bl b=>cases ry;exact SeqAt.EqAt.tuple_bool b pa (by omega)
    | int b=>obtain⟨tb,rfl⟩:=ry;exact SeqAt.EqAt.tuple_int b tb pa (by omega)
    | str b=>obtain⟨tb,rfl⟩:=ry;exact SeqAt.EqAt.tuple_str b tb pa (by omega)
    | @tup cb ki jz eb rb=>cases ry;obtain⟨bJ,iP,pb⟩:=sb.isTup I eb;exact(by
      have hd:A.units+(bK lD+1) < cLine:=hu
      have items:g9 A s fE bJ lD jz:=fun j h1 h2=>iQ I sb lD (A:=A.in1) ra rb uc iP (by show A.units+1+bK lD < cLine;omega) (cO fE j h1) (cO bJ j h2)
      by_cases hc:ca=cb
      · subst hc
        rw[ea] at eb
        cases eb
        obtain rfl:=aQ.uniq ra rb
        show SeqAt.EqAt A s _ _ (lQ lD lD)
        rw[jy]
        exact SeqAt.EqAt.same _
      · exact SeqAt.EqAt.of_refs hc (mT (by omega) pa pb (uc.length.symm.trans ra.length) (iP.length.symm.trans rb.length) items))
    | @lst cb ki jz eb rb=>cases ry;obtain⟨bJ,iP,pb⟩:=sb.cU I eb;exact SeqAt.EqAt.tuple_list pa pb (by omega)
  | @lst ca GZ lD ea ra=>
    cases rx;obtain⟨fE,uc,pa⟩:=sb.cU I ea
    cases r2 with
    | cg=>cases ry;exact SeqAt.EqAt.list_none pa (by omega)
    | bl b=>cases ry;exact SeqAt.EqAt.list_bool b pa (by omega)
    | int b=>obtain⟨tb,rfl⟩:=ry;exact SeqAt.EqAt.list_int b tb pa (by omega)
    | str b=>obtain⟨tb,rfl⟩:=ry;exact SeqAt.EqAt.list_str b tb pa (by omega)
    | @tup cb ki jz eb rb=>cases ry;obtain⟨bJ,iP,pb⟩:=sb.isTup I eb;exact SeqAt.EqAt.list_tuple pa pb (by omega)
    | @lst cb ki jz eb rb=>cases ry;obtain⟨bJ,iP,pb⟩:=sb.cU I eb;exact(by
      have hd:A.units+(bK lD+1) < cLine:=hu
      have items:g9 A s fE bJ lD jz:=fun j h1 h2=>iQ I sb lD (A:=A.in1) ra rb uc iP (by show A.units+1+bK lD < cLine;omega) (cO fE j h1) (cO bJ j h2)
      by_cases hc:ca=cb
      · subst hc
        rw[ea] at eb
        cases eb
        obtain rfl:=aQ.uniq ra rb
        show SeqAt.EqAt A s _ _ (lQ lD lD)
        rw[jy]
        exact SeqAt.EqAt.same _
      · exact SeqAt.EqAt.of_refs hc (oA (by omega) pa pb (uc.length.symm.trans ra.length) (iP.length.symm.trans rb.length) items))
theorem iQ (I : Inv X pins σ H s) (sb : Sub F H) : ∀ (ds : List D) {es : List D} {A : Around} {vs ws : List V} {us us' : List Value} {j : Nat} {u w' : Value}, aQ F vs ds → aQ F ws es → Vals vs us → Vals ws us' → A.units + bK ds < cLine → us[j]? = some u → us'[j]? = some w' → SeqAt.EqAt A s u w' (kg ds es j) := fun ds {es A vs ws us us' j u w'} r1 r2 v1 v2 hu h1 h2 => by
  cases r1 with
  | nil=>cases v1;simp at h1
  | @cons v d vs ds r rs =>
    cases v1 with
    | cons q qs=>
      cases r2 with
      | nil=>cases v2;simp at h2
      | @cons w e ws es r' rs'=>
        cases v2 with
        | cons q' QG=>
          have hd:A.units+max (j9 d) (bK ds) < cLine:=hu
          cases j with
          | zero=>
            simp at h1 h2
            subst h1 h2
            exact CS I sb d r r' q q' (by omega)
          | succ j=>
            simp at h1 h2
            have:=iQ I sb ds (A:=A) rs rs' qs QG (j:=j) (by omega) h1 h2
            simpa[kg] using this
end
end
end L2
end
section
set_option Elab.async false
set_option linter.all false
set_option maxRecDepth 100000
namespace L2
open PySem PySem.Spec PyProof.Rows
section
variable {X:Cx}{pins:List (Addr×Obj)}{σ:St}{F H:Hp}{s:Shared}
theorem G0 (I:Inv X pins σ H s) (sb:Sub F H){d e:D}{A:Around}{x y:V}{u w':Value}(r1:Rep F x d) (r2:Rep F y e) (rx:RelV x u) (ry:RelV y w') (hu:A.units+j9 d < cLine):SeqAt.RcAt A s u w' (m8 d e):=by
 cases r1 with
 | cg=>
  cases rx
  cases r2 with
  | cg=>cases ry;exact SeqAt.RcAt.none_none
  | bl b=>cases ry;exact SeqAt.RcAt.none_bool b
  | int b=>obtain⟨tb,rfl⟩:=ry;exact SeqAt.RcAt.none_int b tb
  | str b=>obtain⟨tb,rfl⟩:=ry;exact SeqAt.RcAt.none_str b tb
  | @tup cb ki jz eb rb=>cases ry;obtain⟨bJ,iP,pb⟩:=sb.isTup I eb;exact SeqAt.RcAt.none_tuple pb (by omega)
  | @lst cb ki jz eb rb=>cases ry;obtain⟨bJ,iP,pb⟩:=sb.cU I eb;exact SeqAt.RcAt.none_list pb (by omega)
 | bl a=>
  cases rx
  cases r2 with
  | cg=>cases ry;exact SeqAt.RcAt.bool_none a
  | bl b=>cases ry;exact SeqAt.RcAt.bool_bool a b
  | int b=>obtain⟨tb,rfl⟩:=ry;exact SeqAt.RcAt.bool_int a b tb
  | str b=>obtain⟨tb,rfl⟩:=ry;exact SeqAt.RcAt.bool_str a b tb
  | @tup cb ki jz eb rb=>cases ry;obtain⟨bJ,iP,pb⟩:=sb.isTup I eb;exact SeqAt.RcAt.bool_tuple a pb (by omega)
  | @lst cb ki jz eb rb=>cases ry;obtain⟨bJ,iP,pb⟩:=sb.cU I eb;exact SeqAt.RcAt.bool_list a pb (by omega)
 | int a=>
  obtain⟨ta,rfl⟩:=rx
  cases r2 with
  | cg=>cases ry;exact SeqAt.RcAt.int_none a ta
  | bl b=>cases ry;exact SeqAt.RcAt.int_bool a ta b
  | int b=>obtain⟨tb,rfl⟩:=ry;exact SeqAt.RcAt.int_int a ta b tb
  | str b=>obtain⟨tb,rfl⟩:=ry;exact SeqAt.RcAt.int_str a ta b tb
  | @tup cb ki jz eb rb=>cases ry;obtain⟨bJ,iP,pb⟩:=sb.isTup I eb;exact SeqAt.RcAt.int_tuple a ta pb (by omega)
  | @lst cb ki jz eb rb=>cases ry;obtain⟨bJ,iP,pb⟩:=sb.cU I eb;exact SeqAt.RcAt.int_list a ta pb (by omega)
 | str a=>
  obtain⟨ta,rfl⟩:=rx
  cases r2 with
  | cg=>cases ry;exact SeqAt.RcAt.str_none a ta
  | bl b=>cases ry;exact SeqAt.RcAt.str_bool a ta b
  | int b=>obtain⟨tb,rfl⟩:=ry;exact SeqAt.RcAt.str_int a ta b tb
  | str b=>obtain⟨tb,rfl⟩:=ry;exact SeqAt.RcAt.str_str a ta b tb
  | @tup cb ki jz eb rb=>cases ry;obtain⟨bJ,iP,pb⟩:=sb.isTup I eb;exact SeqAt.RcAt.str_tuple a ta pb (by omega)
  | @lst cb ki jz eb rb=>cases ry;obtain⟨bJ,iP,pb⟩:=sb.cU I eb;exact SeqAt.RcAt.str_list a ta pb (by omega)
 | @tup ca GZ lD ea ra=>
  cases rx;obtain⟨fE,uc,pa⟩:=sb.isTup I ea
  cases r2 with
  | cg=>cases ry;exact SeqAt.RcAt.tuple_none pa (by omega)
  | bl b=>cases ry;exact SeqAt.RcAt.tuple_bool b pa (by omega)
  | int b=>obtain⟨tb,rfl⟩:=ry;exact SeqAt.RcAt.tuple_int b tb pa (by omega)
  | str b=>obtain⟨tb,rfl⟩:=ry;exact SeqAt.RcAt.tuple_str b tb pa (by omega)
  | @tup cb ki jz eb rb=>cases ry;obtain⟨bJ,iP,pb⟩:=sb.isTup I eb;exact(by
   have hd:A.units+(bK lD+1) < cLine:=hu
   have items:g9 A s fE bJ lD jz:=fun j h1 h2=>iQ I sb lD (A:=A.in1) ra rb uc iP (by show A.units+1+bK lD < cLine;omega) (cO fE j h1) (cO bJ j h2)
   exact mT (by omega) pa pb (uc.length.symm.trans ra.length) (iP.length.symm.trans rb.length) items)
  | @lst cb ki jz eb rb=>cases ry;obtain⟨bJ,iP,pb⟩:=sb.cU I eb;exact SeqAt.RcAt.tuple_list pa pb (by omega)
 | @lst ca GZ lD ea ra=>
  cases rx;obtain⟨fE,uc,pa⟩:=sb.cU I ea
  cases r2 with
  | cg=>cases ry;exact SeqAt.RcAt.list_none pa (by omega)
  | bl b=>cases ry;exact SeqAt.RcAt.list_bool b pa (by omega)
  | int b=>obtain⟨tb,rfl⟩:=ry;exact SeqAt.RcAt.list_int b tb pa (by omega)
  | str b=>obtain⟨tb,rfl⟩:=ry;exact SeqAt.RcAt.list_str b tb pa (by omega)
  | @tup cb ki jz eb rb=>cases ry;obtain⟨bJ,iP,pb⟩:=sb.isTup I eb;exact SeqAt.RcAt.list_tuple pa pb (by omega)
  | @lst cb ki jz eb rb=>cases ry;obtain⟨bJ,iP,pb⟩:=sb.cU I eb;exact(by
   have hd:A.units+(bK lD+1) < cLine:=hu
   have items:g9 A s fE bJ lD jz:=fun j h1 h2=>iQ I sb lD (A:=A.in1) ra rb uc iP (by show A.units+1+bK lD < cLine;omega) (cO fE j h1) (cO bJ j h2)
   exact oA (by omega) pa pb (uc.length.symm.trans ra.length) (iP.length.symm.trans rb.length) items)
theorem BX (I:Inv X pins σ H s) (sb:Sub F H){d e:D}{A:Around}{x y:V}{u w':Value}(r1:Rep F x d) (r2:Rep F y e) (rx:RelV x u) (ry:RelV y w') (hu:A.units+j9 d < cLine):SeqAt.RcNeAt A s u w' (!m8 d e):=by
 cases r1 with
 | cg=>
  cases rx
  cases r2 with
  | cg=>cases ry;exact SeqAt.RcNeAt.none_none
  | bl b=>cases ry;exact SeqAt.RcNeAt.none_bool b
  | int b=>obtain⟨tb,rfl⟩:=ry;exact SeqAt.RcNeAt.none_int b tb
  | str b=>obtain⟨tb,rfl⟩:=ry;exact SeqAt.RcNeAt.none_str b tb
  | @tup cb ki jz eb rb=>cases ry;obtain⟨bJ,iP,pb⟩:=sb.isTup I eb;exact SeqAt.RcNeAt.none_tuple pb (by omega)
  | @lst cb ki jz eb rb=>cases ry;obtain⟨bJ,iP,pb⟩:=sb.cU I eb;exact SeqAt.RcNeAt.none_list pb (by omega)
 | bl a=>
  cases rx
  cases r2 with
  | cg=>cases ry;exact SeqAt.RcNeAt.bool_none a
  | bl b=>cases ry;exact SeqAt.RcNeAt.bool_bool a b
  | int b=>obtain⟨tb,rfl⟩:=ry;exact SeqAt.RcNeAt.bool_int a b tb
  | str b=>obtain⟨tb,rfl⟩:=ry;exact SeqAt.RcNeAt.bool_str a b tb
  | @tup cb ki jz eb rb=>cases ry;obtain⟨bJ,iP,pb⟩:=sb.isTup I eb;exact SeqAt.RcNeAt.bool_tuple a pb (by omega)
  | @lst cb ki jz eb rb=>cases ry;obtain⟨bJ,iP,pb⟩:=sb.cU I eb;exact SeqAt.RcNeAt.bool_list a pb (by omega)
 | int a=>
  obtain⟨ta,rfl⟩:=rx
  cases r2 with
  | cg=>cases ry;exact SeqAt.RcNeAt.int_none a ta
  | bl b=>cases ry;exact SeqAt.RcNeAt.int_bool a ta b
  | int b=>obtain⟨tb,rfl⟩:=ry;exact SeqAt.RcNeAt.int_int a ta b tb
  | str b=>obtain⟨tb,rfl⟩:=ry;exact SeqAt.RcNeAt.int_str a ta b tb
  | @tup cb ki jz eb rb=>cases ry;obtain⟨bJ,iP,pb⟩:=sb.isTup I eb;exact SeqAt.RcNeAt.int_tuple a ta pb (by omega)
  | @lst cb ki jz eb rb=>cases ry;obtain⟨bJ,iP,pb⟩:=sb.cU I eb;exact SeqAt.RcNeAt.int_list a ta pb (by omega)
 | str a=>
  obtain⟨ta,rfl⟩:=rx
  cases r2 with
  | cg=>cases ry;exact SeqAt.RcNeAt.str_none a ta
  | bl b=>cases ry;exact SeqAt.RcNeAt.str_bool a ta b
  | int b=>obtain⟨tb,rfl⟩:=ry;exact SeqAt.RcNeAt.str_int a ta b tb
  | str b=>obtain⟨tb,rfl⟩:=ry;exact SeqAt.RcNeAt.str_str a ta b tb
  | @tup cb ki jz eb rb=>cases ry;obtain⟨bJ,iP,pb⟩:=sb.isTup I eb;exact SeqAt.RcNeAt.str_tuple a ta pb (by omega)
  | @lst cb ki jz eb rb=>cases ry;obtain⟨bJ,iP,pb⟩:=sb.cU I eb;exact SeqAt.RcNeAt.str_list a ta pb (by omega)
 | @tup ca GZ lD ea ra=>
  cases rx;obtain⟨fE,uc,pa⟩:=sb.isTup I ea
  cases r2 with
  | cg=>cases ry;exact SeqAt.RcNeAt.tuple_none pa (by omega)
  | bl b=>cases ry;exact SeqAt.RcNeAt.tuple_bool b pa (by omega)
  | int b=>obtain⟨tb,rfl⟩:=ry;exact SeqAt.RcNeAt.tuple_int b tb pa (by omega)
  | str b=>obtain⟨tb,rfl⟩:=ry;exact SeqAt.RcNeAt.tuple_str b tb pa (by omega)
  | @tup cb ki jz eb rb=>cases ry;obtain⟨bJ,iP,pb⟩:=sb.isTup I eb;exact(by
   have hd:A.units+(bK lD+1) < cLine:=hu
   have items:g9 A s fE bJ lD jz:=fun j h1 h2=>iQ I sb lD (A:=A.in1) ra rb uc iP (by show A.units+1+bK lD < cLine;omega) (cO fE j h1) (cO bJ j h2)
   exact pR (by omega) pa pb (uc.length.symm.trans ra.length) (iP.length.symm.trans rb.length) items)
  | @lst cb ki jz eb rb=>cases ry;obtain⟨bJ,iP,pb⟩:=sb.cU I eb;exact SeqAt.RcNeAt.tuple_list pa pb (by omega)
 | @lst ca GZ lD ea ra=>
  cases rx;obtain⟨fE,uc,pa⟩:=sb.cU I ea
  cases r2 with
  | cg=>cases ry;exact SeqAt.RcNeAt.list_none pa (by omega)
  | bl b=>cases ry;exact SeqAt.RcNeAt.list_bool b pa (by omega)
  | int b=>obtain⟨tb,rfl⟩:=ry;exact SeqAt.RcNeAt.list_int b tb pa (by omega)
  | str b=>obtain⟨tb,rfl⟩:=ry;exact SeqAt.RcNeAt.list_str b tb pa (by omega)
  | @tup cb ki jz eb rb=>cases ry;obtain⟨bJ,iP,pb⟩:=sb.isTup I eb;exact SeqAt.RcNeAt.list_tuple pa pb (by omega)
  | @lst cb ki jz eb rb=>cases ry;obtain⟨bJ,iP,pb⟩:=sb.cU I eb;exact(by
   have hd:A.units+(bK lD+1) < cLine:=hu
   have items:g9 A s fE bJ lD jz:=fun j h1 h2=>iQ I sb lD (A:=A.in1) ra rb uc iP (by show A.units+1+bK lD < cLine;omega) (cO fE j h1) (cO bJ j h2)
   exact qw (by omega) pa pb (uc.length.symm.trans ra.length) (iP.length.symm.trans rb.length) items)
noncomputable def D3:List D→Option U
 | [a,b]=>if j9 a≤40 then some (.t (.bl (m8 a b))) else none
 | _=>none
noncomputable def EX:List D→Option U
 | [a,b]=>if j9 a≤40 then some (.t (.bl (!m8 a b))) else none
 | _=>none
theorem sF (hu:X.A.units+64 < cLine):qq X (compareOp .Eq) D3:=by
 intro pins s σ H x y v u Q I rx ry ⟨F,ds,w,sb,rs,hw,q⟩
 obtain⟨d,e,rfl,r1,r2⟩:=ow rs
 obtain⟨hd,rfl⟩:=bO (show(if j9 d≤40 then some (U.t (.bl (m8 d e))) else none)=some w from hw)
 exact G0 I sb r1 r2 rx ry (by omega) _ _ _ _ ⟨.bl _,H,I,rfl,q _ F H (gg.refl ..) sb (.bl _)⟩
theorem sG (hu:X.A.units+64 < cLine):qq X (compareOp .NotEq) EX:=by
 intro pins s σ H x y v u Q I rx ry ⟨F,ds,w,sb,rs,hw,q⟩
 obtain⟨d,e,rfl,r1,r2⟩:=ow rs
 obtain⟨hd,rfl⟩:=bO (show(if j9 d≤40 then some (U.t (.bl (!m8 d e))) else none)=some w from hw)
 exact BX I sb r1 r2 rx ry (by omega) _ _ _ _ ⟨.bl _,H,I,rfl,q _ F H (gg.refl ..) sb (.bl _)⟩
noncomputable def inD (x:D) (ds:List D):Bool:=ds.any fun y=>m8 y x
noncomputable def Bb:List D→Option U
 | [x,.tup ds]=>if bK ds≤40 then some (.t (.bl (inD x ds))) else none
 | [x,.lst ds]=>if bK ds≤40 then some (.t (.bl (inD x ds))) else none
 | [.str i,.str j]=>some (.t (.bl (!(Builtin.Str.occurrences j i 0 j.length 1).isEmpty)))
 | _=>none
noncomputable def jo:List D→Option U
 | [x,.tup ds]=>if bK ds≤40 then some (.t (.bl (!inD x ds))) else none
 | [x,.lst ds]=>if bK ds≤40 then some (.t (.bl (!inD x ds))) else none
 | [.str i,.str j]=>some (.t (.bl (!(!(Builtin.Str.occurrences j i 0 j.length 1).isEmpty))))
 | _=>none
theorem RelV.uniq {v w':V}{u:Value}(a:RelV v u) (b:RelV w' u):v=w':=by
 cases v <;> cases w' <;> simp only[RelV] at a b <;> first
  | rfl
  | (subst a;cases b;done)
  | (subst a;cases b;rfl)
  | (obtain⟨t,rfl⟩:=a;obtain⟨t',e⟩:=b;cases e;done)
  | (obtain⟨t,rfl⟩:=a;obtain⟨t',e⟩:=b;cases e;rfl)
  | (obtain⟨t,rfl⟩:=a;cases b;done)
  | (obtain⟨t,rfl⟩:=b;cases a;done)
open Classical in
noncomputable def vq (F:Hp) (d:D) (y:Value):Bool:=if h:∃(v:V) (dd:D),RelV v y∧Rep F v dd then m8 (Classical.choose (Classical.choose_spec h)) d else false
theorem Ak {v:V}{dd d:D}{y:Value}(a:RelV v y) (r:Rep F v dd):vq F d y=m8 dd d:=by
 unfold vq
 have h:∃(v:V) (dd:D),RelV v y∧Rep F v dd:=⟨v,dd,a,r⟩
 rw[dif_pos h]
 have k:=Classical.choose_spec (Classical.choose_spec h)
 have e1:=RelV.uniq k.1 a
 have r':Rep F (Classical.choose h) dd:=by rw[e1];exact r
 rw[Rep.uniq k.2 r']
theorem kj (I:Inv X pins σ H s) (sb:Sub F H){A:Around}{x:V}{u:Value}{d:D}(r:Rep F x d) (rx:RelV x u):∀{vs:List V}{ds:List D}{its:List Value},aQ F vs ds→Vals vs its→A.units+bK ds < cLine→
  (∀y∈its,SeqAt.EqAt A s y u (vq F d y))∧its.any (vq F d)=inD d ds
 | _,_,_,.nil,.nil,_=>⟨(fun y hy=>absurd hy (by simp)),rfl⟩
 | _,_,_,@aQ.cons _ v dd vs ds r1 rs,.cons q qs,hu=>by
  have hd:A.units+max (j9 dd) (bK ds) < cLine:=hu
  obtain⟨h1,h2⟩:=kj I sb (A:=A) r rx rs qs (by omega)
  refine⟨fun y hy=>?_,?_⟩
  ·rcases List.mem_cons.mp hy with rfl | hy
   ·rw[Ak q r1];exact CS I sb dd r1 r q rx (by omega)
   ·exact h1 y hy
  ·rw[List.any_cons,h2,Ak q r1]
   rfl
theorem Al (hu:X.A.units+64 < cLine):qq X (compareOp .In) Bb:=by
 intro pins s σ H x y v u Q I rx ry ⟨F,ds,w,sb,rs,hw,q⟩
 obtain⟨d,e,rfl,r1,r2⟩:=ow rs
 cases e with
 | tup ds=>
  obtain⟨hd,rfl⟩:=bO (show(if bK ds≤40 then some (U.t (.bl (inD d ds))) else none)=some w by cases d <;> exact hw)
  obtain⟨a,vs,rfl,fa,ha,rs⟩:=sb.iK r2
  cases ry
  obtain⟨its,rv,p⟩:=sb.isTup I fa
  obtain⟨h1,h2⟩:=kj I sb (A:=X.A.in1) r1 rx rs rv (by show X.A.units+1+bK ds < cLine;omega)
  refine SeqAt.in_tupleAt (vq F d) p (fun y hy=>h1 y (by simpa using hy)) ⟨.bl _,H,I,rfl,?_⟩
  rw[show its.toArray.any (vq F d)=its.any (vq F d) by simp,h2]
  exact q _ F H (gg.refl ..) sb (.bl _)
 | lst ds=>
  obtain⟨hd,rfl⟩:=bO (show(if bK ds≤40 then some (U.t (.bl (inD d ds))) else none)=some w by cases d <;> exact hw)
  obtain⟨a,vs,rfl,fa,ha,rs⟩:=sb.ie r2
  cases ry
  obtain⟨its,rv,p⟩:=sb.cU I fa
  obtain⟨h1,h2⟩:=kj I sb (A:=X.A.in1) r1 rx rs rv (by show X.A.units+1+bK ds < cLine;omega)
  refine SeqAt.in_listAt (vq F d) p (fun y hy=>h1 y (by simpa using hy)) ⟨.bl _,H,I,rfl,?_⟩
  rw[show its.toArray.any (vq F d)=its.any (vq F d) by simp,h2]
  exact q _ F H (gg.refl ..) sb (.bl _)
 | str j=>
  cases d <;> try (simp[Bb] at hw;done)
  rename_i i
  cases hw
  cases r1
  cases r2
  exact xC pins s σ H _ _ v u Q I rx ry ⟨i,j,rfl,rfl,q _ F H (gg.refl ..) sb (.bl _)⟩
 | cg=>cases d <;> (simp[Bb] at hw;done)
 | bl b=>cases d <;> (simp[Bb] at hw;done)
 | int b=>cases d <;> (simp[Bb] at hw;done)
theorem rz (hu:X.A.units+64 < cLine):qq X (compareOp .NotIn) jo:=by
 intro pins s σ H x y v u Q I rx ry ⟨F,ds,w,sb,rs,hw,q⟩
 obtain⟨d,e,rfl,r1,r2⟩:=ow rs
 cases e with
 | tup ds=>
  obtain⟨hd,rfl⟩:=bO (show(if bK ds≤40 then some (U.t (.bl (!inD d ds))) else none)=some w by cases d <;> exact hw)
  obtain⟨a,vs,rfl,fa,ha,rs⟩:=sb.iK r2
  cases ry
  obtain⟨its,rv,p⟩:=sb.isTup I fa
  obtain⟨h1,h2⟩:=kj I sb (A:=X.A.in1) r1 rx rs rv (by show X.A.units+1+bK ds < cLine;omega)
  refine SeqAt.notIn_tupleAt (vq F d) p (fun y hy=>h1 y (by simpa using hy)) ⟨.bl _,H,I,rfl,?_⟩
  rw[show its.toArray.any (vq F d)=its.any (vq F d) by simp,h2]
  exact q _ F H (gg.refl ..) sb (.bl _)
 | lst ds=>
  obtain⟨hd,rfl⟩:=bO (show(if bK ds≤40 then some (U.t (.bl (!inD d ds))) else none)=some w by cases d <;> exact hw)
  obtain⟨a,vs,rfl,fa,ha,rs⟩:=sb.ie r2
  cases ry
  obtain⟨its,rv,p⟩:=sb.cU I fa
  obtain⟨h1,h2⟩:=kj I sb (A:=X.A.in1) r1 rx rs rv (by show X.A.units+1+bK ds < cLine;omega)
  refine SeqAt.notIn_listAt (vq F d) p (fun y hy=>h1 y (by simpa using hy)) ⟨.bl _,H,I,rfl,?_⟩
  rw[show its.toArray.any (vq F d)=its.any (vq F d) by simp,h2]
  exact q _ F H (gg.refl ..) sb (.bl _)
 | str j=>
  cases d <;> try (simp[jo] at hw;done)
  rename_i i
  cases hw
  cases r1
  cases r2
  exact rT pins s σ H _ _ v u Q I rx ry ⟨i,j,rfl,rfl,q _ F H (gg.refl ..) sb (.bl _)⟩
 | cg=>cases d <;> (simp[jo] at hw;done)
 | bl b=>cases d <;> (simp[jo] at hw;done)
 | int b=>cases d <;> (simp[jo] at hw;done)
end
end L2
end
section
set_option Elab.async false
set_option linter.all false
set_option maxRecDepth 100000
namespace L2
open PySem PySem.Spec PyProof.Rows
noncomputable def gf (T:String) (d:D):Option Bool:=match T with
 | "tuple"=>some (dh d)
 | "list"=>some (zZ d)
 | "str"=>some (sf d)
 | "bool"=>some (qY d)
 | "int"=>some (sr d)
 | _=>none
theorem Am {K:PySem.W.Frag}{T:String}{d:D}{b:Bool}(h:gf T d=some b):PySem.W.kitOne K (.type (CM d)) (.type T)=some b:=by
 unfold gf at h
 split at h
 ·cases h;exact BI d
 ·cases h;exact BJ d
 ·cases h;exact z4 d
 ·cases h;exact DS d
 ·cases h;exact BK d
 ·cases h
noncomputable def cF:List String→D→Option Bool
 | [],_=>some false
 | T :: Ts,d=>match gf T d with
  | some true=>some true
  | some false=>cF Ts d
  | none=>none
section
variable {X:Cx}{pins:List (Addr×Obj)}{σ:St}{F H:Hp}{s:Shared}
theorem BY (I:Inv X pins σ H s) (sb:Sub F H){A:Around}{E:Value→Shared→Prop}{Q:Value→Shared→Prop}{x:V}{u:Value}{d:D}{c:Value}{b:Bool}(r:Rep F x d) (rx:RelV x u) (e:PySem.W.kitOne X.K (.type (CM d)) c=some b) (h:∀tk,Q (.bool b) {s with toks:=tk}):
  wpAny (model X.prog X.w) A (call (.builtin "isinstance") [u,c]) Q E s:=by
 cases r with
 | cg=>cases rx;exact PySem.W.kia_one PySem.W.kitx_none I.we True.intro e (fun z=>nomatch z) h
 | bl y=>cases rx;exact PySem.W.kia_one PySem.W.kitx_bool I.we True.intro e (fun z=>nomatch z) h
 | int i=>obtain⟨t,rfl⟩:=rx;exact PySem.W.kia_one PySem.W.kitx_int I.we True.intro e (fun z=>nomatch z) h
 | str y=>obtain⟨t,rfl⟩:=rx;exact PySem.W.kia_one PySem.W.kitx_str I.we True.intro e (fun z=>nomatch z) h
 | tup ea _=>
  cases rx
  obtain⟨its,_,o,h1,h2,_⟩:=sb.isTup I ea
  exact PySem.W.kia_one PySem.W.kitx_tuple I.we ⟨o,h1,h2⟩ e (fun z=>nomatch z) h
 | lst ea _=>
  cases rx
  obtain⟨its,_,o,h1,h2,_⟩:=sb.cU I ea
  exact PySem.W.kia_one PySem.W.kitx_list I.we ⟨o,h1,h2⟩ e (fun z=>nomatch z) h
end
noncomputable def rA (Ts:List String) (g:GD):GD:=fun S=>(g S).bind fun p=>(cF Ts p.1).map fun b=>(.bl b,p.2)
section
variable {X:Cx}{a b c e:Expr}{es:List Expr}{pos p p2 px:Pos}{x y:Str}{g ga gb gc:GD}{gA:GA}
theorem xW {T:String}{d:D}{b:Bool}(h:cF [T] d=some b):gf T d=some b:=by
 unfold cF at h
 cases e:gf T d with
 | none=>rw[e] at h;cases h
 | some k=>rw[e] at h;cases k <;> exact h
theorem cz {T:String}(hg:Gl X "isinstance") (hm:X.mg "isinstance" =none) (IE:Gl X y) (hm2:X.mg y=none) (hv2:bootBuiltins y=some (.type T)) (ha:JD X a ga) (hn2:y≠"__name__":=by decide) (hd2:(y == ("__debug__":Str))=false:=by decide)
    (hs:starEach [a,.Name y px] X.env=(false,eval a X.env) :: starEach [.Name y px] X.env:=by rfl) (hs2:starEach [.Name y px] X.env=(false,eval (.Name y px) X.env) :: starEach [] X.env:=by rfl) (hpl:(backTo pos (starEach [.Name y px] X.env)).any (·.1)=false:=by rfl):
    JD X (.Call (.Name "isinstance" p) [a,.Name y px] [] pos) (rA [T] ga):=⟨fun B=>
  (j3 (r := fun xs H Q => ∃ x F d b, xs = [x, .ty T] ∧ Sub F H ∧ Rep F x d ∧ gf T d = some b ∧ Q (.bl b) H) (fun pins s σ H xs us Q I r ⟨x, F, d, b, e1, sb, rd, hk, q⟩ => by
      subst e1
      obtain⟨u,w',rfl,ru,rw'⟩:=vals2 r
      cases rw'
      exact BY I sb rd ru (Am hk) fun tk=>⟨.bl b,H,I.tok tk,rfl,q⟩) hg hm PyProof.Rows.Boot.isinstance (kP (ha.h B) (kP (Bg (v:=.ty T) IE hm2 hv2 rfl hn2 hd2) rW hs2) hs) (by decide) (by decide) hs hpl).imp fun σ H Q ⟨S,F,d,S',R,hg,q⟩=>by
  obtain⟨⟨d1,S1⟩,h1,hg⟩:=ak hg
  obtain⟨k,h2,hg⟩:=au hg
  cases hg
  exact⟨S,F,d1,_,R,h1,fun v F1 H1 R1 st1 r1=>⟨v,F1,d1,k,rfl,R1.sub,r1,xW h2,q _ F1 H1 R1 st1 (.bl k)⟩⟩⟩
noncomputable def iR:List D→Option (List Bool)
 | []=>some []
 | .bl b :: ds=>(iR ds).map fun bs=>b :: bs
 | _=>none
theorem oB {F:Hp}:∀{vs:List V}{ds:List D}{bs:List Bool},aQ F vs ds→iR ds=some bs→vs=bs.map V.bl
 | _,_,_,.nil,h=>by cases h;rfl
 | _,_,_,@aQ.cons _ v d vs ds r rs,h=>by
  cases d <;> try (simp[iR] at h;done)
  obtain⟨bs,h1,h2⟩:=au (show(iR ds).map _=_ from h)
  subst h2
  rw[j4 r,oB rs h1]
  rfl
noncomputable def vM:List D→Option U
 | [.lst ds]=>(iR ds).map fun bs=>.t (.bl (bs.all id))
 | _=>none
noncomputable def K0:List D→Option U
 | [.lst ds]=>(iR ds).map fun bs=>.t (.bl (bs.any id))
 | _=>none
theorem mU {P:D→Prop}{F:Hp}{xs:List V}{ds:List D}{f:List D→Option U}{w':U}(rs:aQ F xs ds) (h:f ds=some w') (hn:f []=none) (h2:∀a b r,f (a :: b :: r)=none):∃x d,xs=[x]∧ds=[d]∧Rep F x d:=by
 cases rs with
 | nil=>rw[hn] at h;cases h
 | cons r rs=>
  cases rs with
  | nil=>exact⟨_,_,rfl,rfl,r⟩
  | cons _ _=>rw[h2] at h;cases h
theorem kY (hc:X.calm=true):dW X (.builtin "all") (rP vM):=by
 intro pins s σ H xs us Q I r ⟨F,ds,w,sb,rs,hw,q⟩
 obtain⟨x,d,rfl,rfl,r1⟩:=mU (P:=fun _=>True) rs hw rfl (fun d _ _=>by cases d <;> rfl)
 cases d <;> try (simp[vM] at hw;done)
 rename_i ds
 obtain⟨bs,h1,rfl⟩:=au (show(iR ds).map _=some w from hw)
 obtain⟨a,vs,rfl,fa,ha,oz⟩:=sb.ie r1
 obtain rfl:=oB oz h1
 exact xQ hc pins s σ H _ us Q I r ⟨a,bs,rfl,.inl ha,q _ F H (gg.refl ..) sb (.bl _)⟩
noncomputable def CT:List D→Option U
 | [.int i,.int j,.int k]=>some (.t (.int (if j < i then(if k < j then k else j) else if k < i then k else i)))
 | _=>none
noncomputable def wU:List D→Option U
 | [.int i,.int j]=>some (.t (.int (if j < i then j else i)))
 | _=>none
noncomputable def G1:List D→Option U
 | [.int i,.int j]=>some (.t (.int (if j > i then j else i)))
 | _=>none
theorem vN (hc : X.calm = true) : dW X (.builtin "min") (rP wU) := by
  intro pins s σ H xs us Q I r ⟨F,ds,w,sb,rs,hw,q⟩
  unfold wU at hw
  split at hw
  · rename_i i j
    cases hw
    cases rs with
    | cons r1 rs=>cases rs with
      | cons r2 rs=>
        cases rs
        rw[iE r1,iE r2] at r
        exact xD hc pins s σ H _ us Q I r ⟨i,j,rfl,q _ F H (gg.refl ..) sb (.int _)⟩
  · cases hw
noncomputable def pS:List D→Option U
 | [.tup ds]=>some (.m (.lst ds))
 | [.lst ds]=>some (.m (.lst ds))
 | _=>none
noncomputable def jq:List D→Option U
 | [.tup ds]=>some (.t (.tup ds))
 | [.lst ds]=>some (.t (.tup ds))
 | _=>none
theorem pT:dW X (.type "list") (rP pS):=by
 intro pins s σ H xs us Q I r ⟨F,ds,w,sb,rs,hw,q⟩
 obtain⟨x,d,rfl,rfl,r1⟩:=mU (P:=fun _=>True) rs hw rfl (fun d _ _=>by cases d <;> rfl)
 cases d <;> try (simp[pS] at hw;done)
 ·cases hw
  obtain⟨a,vs,rfl,fa,ha,oz⟩:=sb.iK r1
  exact mF pins s σ H _ us Q I r ⟨a,vs,rfl,.inr (.inl ha),fun p hp=>q _ F _ (gg.obj hp _) (sb.same (gg.obj (F:=F) hp _).same) ⟨p,rfl,hp,sb.fresh hp,vs,aY,oz⟩⟩
 ·cases hw
  obtain⟨a,vs,rfl,fa,ha,oz⟩:=sb.ie r1
  exact mF pins s σ H _ us Q I r ⟨a,vs,rfl,.inl (.inl ha),fun p hp=>q _ F _ (gg.obj hp _) (sb.same (gg.obj (F:=F) hp _).same) ⟨p,rfl,hp,sb.fresh hp,vs,aY,oz⟩⟩
theorem jj:dW X (.type "tuple") (rP jq):=by
 intro pins s σ H xs us Q I r ⟨F,ds,w,sb,rs,hw,q⟩
 obtain⟨x,d,rfl,rfl,r1⟩:=mU (P:=fun _=>True) rs hw rfl (fun d _ _=>by cases d <;> rfl)
 cases d <;> try (simp[jq] at hw;done)
 ·cases hw
  have r0:=r1
  obtain⟨a,vs,rfl,fa,ha,oz⟩:=sb.iK r1
  exact lF pins s σ H _ us Q I r ⟨a,vs,rfl,.inr ⟨.inl ha,q _ F H (gg.refl ..) sb r0⟩⟩
 ·cases hw
  obtain⟨a,vs,rfl,fa,ha,oz⟩:=sb.ie r1
  exact lF pins s σ H _ us Q I r ⟨a,vs,rfl,.inl ⟨.inl ha,fun p hp=>q _ _ _ (gg.root sb hp _) (sb.su hp) (.tup aY (oz.le (lM (sb.fresh hp))))⟩⟩
end
end L2
end
section
set_option Elab.async false
set_option linter.all false
set_option maxRecDepth 100000
namespace L2
open PySem PySem.Spec PyProof.Rows
noncomputable def keyOf:D→Option Key
 | .int i=>some (.inl i)
 | .str z=>some (.inr z)
 | _=>none
theorem nj {F:Hp}{v:V}{d:D}{k:Key}(r:Rep F v d) (h:keyOf d=some k):v=kV k:=by
 cases r <;> cases h <;> rfl
noncomputable def iS {κ:Type} [DecidableEq κ] (kvs:List (κ×D)) (k:κ):Option D:=(kvs.find? fun kv=>decide (kv.1=k)).map (·.2)
noncomputable def putD {κ:Type} [DecidableEq κ] (kvs:List (κ×D)) (k:κ) (d:D):List (κ×D):=
 if(kvs.any fun kv=>decide (kv.1=k))=true then kvs.map (fun kv=>if kv.1=k then(kv.1,d) else kv) else kvs++[(k,d)]
theorem nk {κ:Type} [DecidableEq κ] {F:Hp}{k:κ}{d:D}:∀{ws:List (κ×V)}{kvs:List (κ×D)},Paired (jw F) ws kvs→iS kvs k=some d→∃v,ni ws k=some v∧Rep F v d
 | _,_,.nil,h=>by cases h
 | _,_,@Paired.cons _ _ _ p q ws kvs r rs,h=>by
  by_cases e:q.1=k
  ·have e':p.1=k:=r.1.trans e
   refine⟨p.2,mw e',?_⟩
   have:iS (q :: kvs) k=some q.2:=by simp[iS,List.find?_cons,e]
   rw[this] at h
   cases h
   exact r.2
  ·have e':¬p.1=k:=fun z=>e (r.1.symm.trans z)
   have:iS (q :: kvs) k=iS kvs k:=by simp[iS,List.find?_cons,e]
   rw[this] at h
   obtain⟨v,h1,h2⟩:=nk rs h
   exact⟨v,by rw[mz e'];exact h1,h2⟩
theorem ud {κ:Type} [DecidableEq κ] {F:Hp}{k:κ}:∀{ws:List (κ×V)}{kvs:List (κ×D)},Paired (jw F) ws kvs→(ws.any fun kv=>decide (kv.1=k))=(kvs.any fun kv=>decide (kv.1=k))
 | _,_,.nil=>rfl
 | _,_,.cons r rs=>by rw[List.any_cons,List.any_cons,ud rs,r.1]
theorem ue {κ:Type} [DecidableEq κ] {F:Hp}{k:κ}{v:V}{d:D}(r:Rep F v d):∀{ws:List (κ×V)}{kvs:List (κ×D)},Paired (jw F) ws kvs→Paired (jw F) (ws.map fun kv=>if kv.1=k then(kv.1,v) else kv) (kvs.map fun kv=>if kv.1=k then(kv.1,d) else kv)
 | _,_,.nil=>.nil
 | _,_,@Paired.cons _ _ _ p q ws kvs h hs=>by
  refine .cons ?_ (ue r hs)
  show jw F (if p.1=k then(p.1,v) else p) (if q.1=k then(q.1,d) else q)
  rw[h.1]
  by_cases e:q.1=k
  ·rw[if_pos e,if_pos e];exact⟨rfl,r⟩
  ·rw[if_neg e,if_neg e];exact h
theorem oE {α β:Type}{P:α→β→Prop}{x:α}{y:β}(p:P x y):∀{l:List α}{r:List β},Paired P l r→Paired P (l++[x]) (r++[y])
 | _,_,.nil=>.cons p .nil
 | _,_,.cons q qs=>.cons q (oE p qs)
theorem uf {κ:Type} [DecidableEq κ] {F:Hp}{k:κ}{v:V}{d:D}{ws:List (κ×V)}{kvs:List (κ×D)}(h:Paired (jw F) ws kvs) (r:Rep F v d):Paired (jw F) (putK ws k v) (putD kvs k d):=by
 unfold putK putD
 rw[ud h]
 by_cases e:(kvs.any fun kv=>decide (kv.1=k))=true
 ·rw[if_pos e,if_pos e];exact ue r h
 ·rw[if_neg e,if_neg e];exact oE ⟨rfl,r⟩ h
noncomputable def keysOf:List D→Option (List Key)
 | []=>some []
 | d :: ds=>(keyOf d).bind fun k=>(keysOf ds).map fun ks=>k :: ks
noncomputable def An:D→Option (List Key)
 | .tup ds=>keysOf ds
 | _=>none
theorem oF {F:Hp}:∀{vs:List V}{ds:List D}{ks:List Key},aQ F vs ds→keysOf ds=some ks→vs=ks.map kV
 | _,_,_,.nil,h=>by cases h;rfl
 | _,_,_,.cons r rs,h=>by
  obtain⟨k,h1,h⟩:=ak h
  obtain⟨ks,h2,rfl⟩:=au h
  rw[nj r h1,oF rs h2]
  rfl
theorem ug {F H:Hp}{v:V}{d:D}{ks:List Key}(sb:Sub F H) (r:Rep F v d) (h:An d=some ks):∃b,v= .ref b∧H b=some (.tup (ks.map kV)):=by
 cases r with
 | tup e rs=>exact⟨_,rfl,by rw[←oF rs h];exact sb _ _ e⟩
 | cg=>cases h
 | bl _=>cases h
 | int _=>cases h
 | str _=>cases h
 | lst _ _=>cases h
noncomputable def oG:U→D→Option D
 | .t (.tup ds),.int i=>gG ds i
 | .t (.lst ds),.int i=>gG ds i
 | .m (.lst ds),.int i=>gG ds i
 | .b (.lst ds),.int i=>gG ds i
 | .s ns,.int i=>(gG ns i).map D.int
 | .m (.dct kvs),k=>(keyOf k).bind (iS kvs)
 | .b (.dct kvs),k=>(keyOf k).bind (iS kvs)
 | .m (.vp kvs),k=>(An k).bind (iS kvs)
 | .b (.vp kvs),k=>(An k).bind (iS kvs)
 | _,_=>none
noncomputable def fH (i:Nat) (gb:GD):GD:=fun S=>match S[i]? with
 | some (some _)=>(gb S).bind fun p=>match p.2[i]? with
  | some (some u)=>(oG u p.1).map fun d=>(d,p.2)
  | _=>none
 | _=>none
theorem BZ {α β:Type}(f:α→β){l:List α}{i:Int}{x:α}(h:gG l i=some x):gG (l.map f) i=some (f x):=by
 unfold gG at h ⊢
 rw[List.length_map]
 obtain⟨j,h1,h2⟩:=ak h
 rw[h1]
 show(l.map f)[j]? =_
 rw[List.getElem?_map,h2]
 rfl
section
variable {X:Cx}{a b c e value:Expr}{es:List Expr}{pos p p2 px pos':Pos}{x y:Str}{g ga gb gc gk gv:GD}{gA:GA}
theorem cG {i : Nat} (hu : X.A.units + 1 < cLine) (hb : JD X b gb) (hs : r9 b := by first | (intro _ _; rfl)) (hN : X.N[i]? = some x := by rfl) (hv : A7 X.env.scope x := by first | exact Or.inl rfl | exact Or.inr (Or.inl rfl) | exact Or.inr (Or.inr rfl))
    (hd:(x == ("__debug__":Str))=false:=by decide) (hcd:(x == ("__classdict__":Str))=false:=by decide):JD X (.Subscript (.Name x px) b pos) (fH i gb):=⟨fun B=>PE.orelse fun σ H Q ⟨S,F,d,S',R,hg,q⟩=>by
  unfold fH at hg
  split at hg
  · rename_i u0 K1
    obtain⟨v0,hv0,_⟩:=R.rep i u0 K1
    obtain⟨⟨k,S1⟩,h1,hg⟩:=ak hg
    dsimp only at hg
    split at hg
    · rename_i u hS
      obtain⟨d',hr,hg⟩:=au hg
      cases hg
      have wQ:∀F1 H1,Rel X.K B S' σ F1 H1→tR X.K F1 H1 v0 u:=fun F1 H1 R1=>by
        obtain⟨v,k1,k2⟩:=R1.rep i u hS
        rw[hv0] at k1
        cases k1
        exact k2
      have seq:∀(Y:V→V→Hp→VK→Prop),PE X (.Subscript (.Name x px) b pos) (EO Y (De i) (tD X.K B gb))→(∀v F1 H1,Rel X.K B S' σ F1 H1→Step S S' σ F H F1 H1→Rep F1 v k→Y v0 v H1 Q)→∃t',PE X (.Subscript (.Name x px) b pos) t'∧t' σ H Q:=fun Y hY h=>
        ⟨_,hY,v0,hv0,S,F,k,S',R,h1,fun v F1 H1 R1 st1 r1=>h v F1 H1 R1 st1 r1⟩
      have dict:∀kvs,(∀F1 H1,Rel X.K B S' σ F1 H1→∃a ws,v0= .ref a∧H1 a=some (.dK ws)∧Paired (jw F1) ws kvs)→(keyOf k).bind (iS kvs)=some d→∃t',PE X (.Subscript (.Name x px) b pos) t'∧t' σ H Q:=fun kvs hat hr=>by
        obtain⟨kk,e1,e2⟩:=ak hr
        refine⟨_,wB hu (iJ hN hv hd hcd) (hb.h B) hs,v0,hv0,S,F,k,S',R,h1,fun v F1 H1 R1 st1 r1=>?_⟩
        obtain⟨a,ws,rfl,ha,pr⟩:=hat F1 H1 R1
        obtain⟨w',z1,z2⟩:=nk pr e2
        rw[nj r1 e1]
        exact⟨a,w',rfl,by rw[←z1];exact rX.k ha,q w' F1 H1 R1 st1 z2⟩
      have CU:∀kvs,(∀F1 H1,Rel X.K B S' σ F1 H1→∃a ws,v0= .ref a∧H1 a=some (.dT ws)∧Paired (jw F1) ws kvs)→(An k).bind (iS kvs)=some d→∃t',PE X (.Subscript (.Name x px) b pos) t'∧t' σ H Q:=fun kvs hat hr=>by
        obtain⟨kk,e1,e2⟩:=ak hr
        refine⟨_,wB hu (iJ hN hv hd hcd) (hb.h B) hs,v0,hv0,S,F,k,S',R,h1,fun v F1 H1 R1 st1 r1=>?_⟩
        obtain⟨a,ws,rfl,ha,pr⟩:=hat F1 H1 R1
        obtain⟨w',z1,z2⟩:=nk pr e2
        obtain⟨b',rfl,hb'⟩:=ug R1.sub r1 e1
        exact⟨a,w',rfl,by rw[←z1];exact rX.t ha hb',q w' F1 H1 R1 st1 z2⟩
      have list:∀ds ii,k= .int ii→gG ds ii=some d→(∀F1 H1,Rel X.K B S' σ F1 H1→∃a vs,v0= .ref a∧(lB X.K H1 a vs∨qO X.K H1 a vs)∧aQ F1 vs ds)→∃t',PE X (.Subscript (.Name x px) b pos) t'∧t' σ H Q:=fun ds ii ek hrr hat=>by
        subst ek
        refine seq _ (zL zO (iJ hN hv hd hcd) (hb.h B) hs) fun v F1 H1 R1 st1 r1=>?_
        obtain⟨a,vs,rfl,ha,rs⟩:=hat F1 H1 R1
        obtain⟨w',z1,z2⟩:=rs.gG hrr
        rw[iE r1]
        rcases ha with ha | ha
        · exact .inl ⟨a,vs,ii,w',rfl,rfl,ha,z1,q w' F1 H1 R1 st1 z2⟩
        · exact .inr (.inl ⟨a,vs,ii,w',rfl,rfl,ha,z1,q w' F1 H1 R1 st1 z2⟩)
      unfold oG at hr
      split at hr
      · rename_i ds ii
        exact list ds ii rfl hr fun F1 H1 R1=>let⟨a,vs,e1,fa,ha,rs⟩:=R1.sub.iK (wQ F1 H1 R1);⟨a,vs,e1,.inr (.inl ha),rs⟩
      · rename_i ds ii
        exact list ds ii rfl hr fun F1 H1 R1=>let⟨a,vs,e1,fa,ha,rs⟩:=R1.sub.ie (wQ F1 H1 R1);⟨a,vs,e1,.inl (.inl ha),rs⟩
      · rename_i ds ii
        exact list ds ii rfl hr fun F1 H1 R1=>let⟨a,e1,fa,vs,ha,rs⟩:=wQ F1 H1 R1;⟨a,vs,e1,.inl (lB.of ha),rs⟩
      · rename_i ds ii
        exact list ds ii rfl hr fun F1 H1 R1=>let⟨a,e1,fa,vs,ha,rs⟩:=wQ F1 H1 R1;⟨a,vs,e1,.inl (lB.of ha),rs⟩
      · rename_i ns ii
        obtain⟨n,z1,z2⟩:=au hr
        subst z2
        refine seq _ (zL zO (iJ hN hv hd hcd) (hb.h B) hs) fun v F1 H1 R1 st1 r1=>?_
        obtain⟨a,e1,ha⟩:=wQ F1 H1 R1
        rw[iE r1]
        exact .inl ⟨a,ns.map V.int,ii,.int n,e1,rfl,ha.sq,BZ V.int z1,q _ F1 H1 R1 st1 (.int n)⟩
      · rename_i kvs
        exact dict kvs (fun F1 H1 R1=>let⟨a,e1,fa,ws,ha,pr⟩:=wQ F1 H1 R1;⟨a,ws,e1,ha,pr⟩) hr
      · rename_i kvs
        exact dict kvs (fun F1 H1 R1=>let⟨a,e1,fa,ws,ha,pr⟩:=wQ F1 H1 R1;⟨a,ws,e1,ha,pr⟩) hr
      · rename_i kvs
        exact CU kvs (fun F1 H1 R1=>let⟨a,e1,fa,ws,ha,pr⟩:=wQ F1 H1 R1;⟨a,ws,e1,ha,pr⟩) hr
      · rename_i kvs
        exact CU kvs (fun F1 H1 R1=>let⟨a,e1,fa,ws,ha,pr⟩:=wQ F1 H1 R1;⟨a,ws,e1,ha,pr⟩) hr
      · cases hr
    · cases hg
  · cases hg⟩
noncomputable def uh:U→Option Nat
 | .t (.tup ds)=>some ds.length
 | .t (.lst ds)=>some ds.length
 | .t (.str z)=>if z.length≤100000 then some z.length else none
 | .m (.lst ds)=>some ds.length
 | .b (.lst ds)=>some ds.length
 | .m (.dct ds)=>some ds.length
 | .b (.dct ds)=>some ds.length
 | .s ns=>some ns.length
 | _=>none
noncomputable def gr (i:Nat):GD:=fun S=>match S[i]? with
 | some (some u)=>(uh u).map fun n=>(.int (n:Nat),S)
 | _=>none
theorem fJ {α β:Type}{P:α→β→Prop}:∀{l:List α}{r:List β},Paired P l r→l.length=r.length
 | _,_,.nil=>rfl
 | _,_,.cons _ ps=>congrArg Nat.succ (fJ ps)
theorem d9 {i:Nat}(hg:Gl X "len") (hm:X.mg "len" =none) (hN:X.N[i]? =some x:=by rfl) (hv:A7 X.env.scope x:=by first | exact Or.inl rfl | exact Or.inr (Or.inl rfl) | exact Or.inr (Or.inr rfl))
  (hd:(x == ("__debug__":Str))=false:=by decide) (hcd:(x == ("__classdict__":Str))=false:=by decide) (he:starEach [.Name x px] X.env=(false,eval (.Name x px) X.env) :: starEach [] X.env:=by rfl) (hpl:(backTo pos (starEach [] X.env)).any (·.1)=false:=by rfl):
  JD X (.Call (.Name "len" p) [.Name x px] [] pos) (gr i):=⟨fun B=>PE.orelse fun σ H Q ⟨S,F,d,S',R,hg',q⟩=>by
 unfold gr at hg'
 split at hg'
 ·rename_i u hS
  obtain⟨n,hn,hg'⟩:=au hg'
  cases hg'
  obtain⟨v0,hv0,r0⟩:=R.rep i u hS
  have fin:=q (.int n) F H R (Step.refl ..) (.int _)
  have arg:PA X [.Name x px] (CG (De i) Ga):=kP (iJ hN hv hd hcd) rW he
  have list:∀a vs,v0= .ref a→(lB X.K H a vs∨qO X.K H a vs)→vs.length=n→∃t',PE X (.Call (.Name "len" p) [.Name x px] [] pos) t'∧t' σ H Q:=fun a vs e1 ha hl=>
   ⟨_,j3 jK hg hm PySem.boot_len arg (by decide) (by decide) he hpl,v0,hv0,a,vs,by rw[e1],ha,by rw[hl];exact fin⟩
  have dict:∀a ws,v0= .ref a→H a=some (.dK ws)→ws.length=n→∃t',PE X (.Call (.Name "len" p) [.Name x px] [] pos) t'∧t' σ H Q:=fun a vs e1 ha hl=>
   ⟨_,j3 xP hg hm PySem.boot_len arg (by decide) (by decide) he hpl,v0,hv0,a,vs,by rw[e1],ha,by rw[hl];exact fin⟩
  unfold uh at hn
  split at hn
  ·cases hn;obtain⟨a,vs,e1,fa,ha,rs⟩:=R.sub.iK r0;exact list a vs e1 (.inr (.inl ha)) rs.length
  ·cases hn;obtain⟨a,vs,e1,fa,ha,rs⟩:=R.sub.ie r0;exact list a vs e1 (.inl (.inl ha)) rs.length
  ·rename_i z
   obtain⟨hl,rfl⟩:=bO hn
   exact⟨_,j3 mD hg hm PySem.boot_len arg (by decide) (by decide) he hpl,v0,hv0,z,by rw[wM r0],iD hl,fin⟩
  ·cases hn;obtain⟨a,e1,fa,vs,ha,rs⟩:=r0;exact list a vs e1 (.inl (lB.of ha)) rs.length
  ·cases hn;obtain⟨a,e1,fa,vs,ha,rs⟩:=r0;exact list a vs e1 (.inl (lB.of ha)) rs.length
  ·cases hn;obtain⟨a,e1,fa,ws,ha,pr⟩:=r0;exact dict a ws e1 ha (fJ pr)
  ·cases hn;obtain⟨a,e1,fa,ws,ha,pr⟩:=r0;exact dict a ws e1 ha (fJ pr)
  ·cases hn;obtain⟨a,e1,ha⟩:=r0;exact list a _ e1 (.inl ha.sq) (by simp)
  ·cases hn
 ·cases hg'⟩
end
end L2
end
section
set_option Elab.async false
set_option linter.all false
set_option maxRecDepth 100000
namespace L2
open PySem PySem.Spec PyProof.Rows
noncomputable def lR (o:MO) (k d:D):Option MO:=match o with
 | .dct kvs=>(keyOf k).bind fun kk=>if kvs.length < 100000 then some (.dct (putD kvs kk d)) else none
 | .vp kvs=>(An k).bind fun kk=>if kvs.length < 100000 then some (.vp (putD kvs kk d)) else none
 | .lst ds=>match k with
  | .int i=>(xM ds.length i).map fun j=>.lst (ds.set j d)
  | _=>none
noncomputable def B0 (i:Nat) (gk gv:GD):GS:=fun S=>(gv S).bind fun p=>match p.2[i]? with
 | some (some _)=>(gk p.2).bind fun r=>(o9 r.2 i fun o=>(lR o r.1 p.1).map fun o'=>(.cg,o')).map fun z=>.nx z.2
 | _=>none
theorem aQ.set {F:Hp}{v:V}{d:D}(r:Rep F v d):∀{vs:List V}{ds:List D}(j:Nat),aQ F vs ds→aQ F (vs.set j v) (ds.set j d)
 | _,_,_,.nil=>.nil
 | _,_,0,.cons _ rs=>.cons r rs
 | _,_,j+1,.cons q rs=>.cons q (aQ.set r j rs)
section
variable {X:Cx}{a b c e value k:Expr}{es:List Expr}{pos p p2 px pos':Pos}{x y:Str}{g ga gb gc gk gv:GD}{gA:GA}
theorem Ao {i:Nat}(hu:X.A.units+1 < cLine) (hk:JD X k gk) (hval:JD X value gv) (hN:X.N[i]? =some x:=by rfl) (hv:A7 X.env.scope x:=by first | exact Or.inl rfl | exact Or.inr (Or.inl rfl) | exact Or.inr (Or.inr rfl))
  (hd:(x == ("__debug__":Str))=false:=by decide) (hcd:(x == ("__classdict__":Str))=false:=by decide)
  (hs:swapsWith value (some (.Subscript (.Name x px) k pos')) pos.line X.env=pure false:=by rfl)
  (hs1:swapsWithSole [.Subscript (.Name x px) k pos'] value pos.line X.env=pure false:=by rfl) (hs2:swappedStores [.Subscript (.Name x px) k pos'] value X.env=pure none:=by rfl)
  (QH:(assignEach [.Subscript (.Name x px) k pos'] X.env).map (·.2)=[assign (.Subscript (.Name x px) k pos') X.env]:=by rfl)
  (QI:∀v,assign (.Subscript (.Name x px) k pos') X.env v=(do
   let ov ←holding [v] (eval (.Name x px) X.env)
   let iv ←holding [v,ov] (eval k X.env)
   standAt pos'
   holding [v,ov,iv] (setItem ov iv v)
   release [v,ov,iv] []):=by intro _;rfl):
  JS X (.Assign [.Subscript (.Name x px) k pos'] value pos) (B0 i gk gv):=⟨fun B=>PS.orelse fun D σ H ⟨S,F,o,R,hg,q⟩=>by
 obtain⟨⟨d,S1⟩,h1,hg⟩:=ak hg
 dsimp only at hg
 split at hg
 ·rename_i u0 K1
  obtain⟨⟨kd,S2⟩,h2,hg⟩:=ak hg
  obtain⟨⟨nd,S3⟩,h3,hg⟩:=au hg
  subst hg
  obtain⟨u,u',mo,mo',hS,GW,hio,hf,GX,rfl⟩:=q9 h3
  obtain⟨Tc,hw,hf2⟩:=au hf
  cases hf2
  have hv0:∀F1 H1,Rel X.K B S1 σ F1 H1→∃v,σ[i]? =some (some v):=fun F1 H1 R1=>let⟨v,k1,_⟩:=R1.rep i u0 K1;⟨v,k1⟩
  cases mo with
  | dct kvs=>
   obtain⟨kk,e1,hw⟩:=ak hw
   obtain⟨hl,rfl⟩:=bO hw
   refine⟨_,wC hu (iJ hN hv hd hcd) (hk.h B) (hval.h B) hs,S,F,d,S1,R,h1,fun v F1 H1 R1 st1 r1=>?_⟩
   obtain⟨v0,hv0⟩:=hv0 F1 H1 R1
   refine⟨v0,hv0,S1,F1,kd,S2,R1,h2,fun y F2 H2 R2 st2 r2=>?_⟩
   obtain⟨v',k1,k2⟩:=R2.rep i u hS
   rw[hv0] at k1
   cases k1
   obtain⟨a,o2,rfl,fa,eo,k3⟩:=k2.dG GW
   rw[hio] at eo
   cases eo
   obtain⟨ws,ha,pr⟩:=k3
   rw[nj r2 e1]
   refine⟨a,_,rfl,tG.k ha (by rw[fJ pr];exact Nat.lt_of_lt_of_le hl (by decide)),?_⟩
   obtain⟨R3,st3⟩:=R2.write (ho:=.dK (putK ws kk v)) hS GX hv0 ⟨_,aY,uf pr (r1.le st2.ext.le)⟩
   exact q σ F2 _ R3 fun b o z=>st2.ext.le b o (st1.ext.le b o z)
  | vp kvs=>
   obtain⟨kk,e1,hw⟩:=ak hw
   obtain⟨hl,rfl⟩:=bO hw
   refine⟨_,wC hu (iJ hN hv hd hcd) (hk.h B) (hval.h B) hs,S,F,d,S1,R,h1,fun v F1 H1 R1 st1 r1=>?_⟩
   obtain⟨v0,hv0⟩:=hv0 F1 H1 R1
   refine⟨v0,hv0,S1,F1,kd,S2,R1,h2,fun y F2 H2 R2 st2 r2=>?_⟩
   obtain⟨v',k1,k2⟩:=R2.rep i u hS
   rw[hv0] at k1
   cases k1
   obtain⟨a,o2,rfl,fa,eo,k3⟩:=k2.dG GW
   rw[hio] at eo
   cases eo
   obtain⟨ws,ha,pr⟩:=k3
   obtain⟨b',rfl,hb'⟩:=ug R2.sub r2 e1
   refine⟨a,_,rfl,tG.t ha hb' (by rw[fJ pr];exact Nat.lt_of_lt_of_le hl (by decide)),?_⟩
   obtain⟨R3,st3⟩:=R2.write (ho:=.dT (putK ws kk v)) hS GX hv0 ⟨_,aY,uf pr (r1.le st2.ext.le)⟩
   exact q σ F2 _ R3 fun b o z=>st2.ext.le b o (st1.ext.le b o z)
  | lst ds=>
   unfold lR at hw
   dsimp only at hw
   split at hw
   ·rename_i ii
    obtain⟨j,e1,rfl⟩:=au hw
    refine⟨_,zq (hval.h B) (Dr (iJ hN hv hd hcd) (hk.h B) set_list QI) hs1 hs2 QH,S,F,d,S1,R,h1,fun v F1 H1 R1 st1 r1=>?_⟩
    obtain⟨v0,hv0⟩:=hv0 F1 H1 R1
    refine⟨v0,hv0,S1,F1,_,S2,R1,h2,fun y F2 H2 R2 st2 r2=>?_⟩
    obtain⟨v',k1,k2⟩:=R2.rep i u hS
    rw[hv0] at k1
    cases k1
    obtain⟨a,o2,rfl,fa,eo,k3⟩:=k2.dG GW
    rw[hio] at eo
    cases eo
    obtain⟨vs,ha,rs⟩:=k3
    rw[iE r2]
    refine⟨a,vs,_,j,rfl,rfl,ha,by rw[rs.length];exact e1,?_⟩
    obtain⟨R3,st3⟩:=R2.write (ho:=.lst (vs.set j v)) hS GX hv0 ⟨_,aY,rs.set (r1.le st2.ext.le) j⟩
    exact q σ F2 _ R3 fun b o z=>st2.ext.le b o (st1.ext.le b o z)
   ·cases hw
 ·cases hg⟩
end
end L2
end
section
set_option Elab.async false
set_option linter.all false
set_option maxRecDepth 100000
namespace L2
open PySem PySem.Spec PyProof.Rows
noncomputable def kq (g:Option GD) (S:SS):Option (Option Int×SS):=match g with
 | none=>some (none,S)
 | some g=>(g S).bind fun p=>match p.1 with
  | .int i=>some (some i,p.2)
  | _=>none
noncomputable def QJ (K:PySem.W.Frag) (B:Base) (g:Option GD):TO:=fun σ H Q=>∃S F o S',Rel K B S σ F H∧kq g S=some (o,S')∧∀F' H',Rel K B S' σ F' H'→Step S S' σ F H F' H'→Q o H'
structure JO (X:Cx) (e:Option Expr) (g:Option GD):Prop where
 h:∀B,PO X e (QJ X.K B g)
theorem PO.imp {X:Cx}{e:Option Expr}{t t':TO}(h:PO X e t) (k:∀σ H Q,t' σ H Q→t σ H Q):PO X e t':=fun pins s σ H Q I q=>h pins s σ H Q I (k σ H Q q)
theorem ia {X:Cx}:JO X none none:=⟨fun B=>By.imp fun σ H Q ⟨S,F,o,S',R,h,q⟩=>by cases h;exact q F H R (Step.refl ..)⟩
theorem fL {X:Cx}{e:Expr}{g:GD}(h:JD X e g):JO X (some e) (some g):=⟨fun B=>(BA (h.h B)).imp fun σ H Q ⟨S,F,o,S',R,h,q⟩=>by
 obtain⟨⟨d,S1⟩,h1,h⟩:=ak (show(g S).bind _=_ from h)
 cases d <;> try (cases h)
 exact⟨S,F,_,_,R,h1,fun v F1 H1 R1 st1 r1=>⟨_,iE r1,q F1 H1 R1 st1⟩⟩⟩
noncomputable def B3 (d:D) (lo hi:Option Int):Option U:=match d with
 | .tup ds=>some (.t (.tup (cutD ds lo hi)))
 | .lst ds=>some (.m (.lst (cutD ds lo hi)))
 | .str z=>if z.length≤100000 then some (.t (.str (Txt.slice z lo hi))) else none
 | _=>none
theorem aQ.cut {F:Hp}{vs:List V}{ds:List D}(rs:aQ F vs ds) (lo hi:Option Int):aQ F (tK vs lo hi) (cutD ds lo hi):=by
 unfold tK cutD
 rw[rs.length]
 exact(rs.drop _).take _
noncomputable def K2:V→Option Int→Option Int→Hp→VK→Prop:=fun x lo hi H Q=>∃F d u,Sub F H∧Rep F x d∧B3 d lo hi=some u∧∀v F' H',gg F H F' H'→Sub F' H'→z6 H F' H' v u→Q v H'
theorem K3 {X : Cx} : BB X K2 := by
  intro pins s σ H x v vl vu lo hi sl Q I rx hs pl pu ⟨F,d,u,sb,r,hf,q⟩
  cases d with
  | tup ds =>
    cases hf
    have r0:=r
    obtain⟨a,xs,rfl,fa,ha,rs⟩:=sb.iK r
    have hl:=rs.length
    by_cases hw:HT.fK xs.length 0 lo=0∧HT.fK xs.length xs.length hi=xs.length
    · cases rx
      obtain⟨its,rv,ht,hz⟩:=I.tuple (.inl ha)
      have hlen:its.toArray.size=xs.length:=by rw[List.size_toArray];exact rv.length.symm
      refine⟨"tuple",_,PyProof.Rows.slot_tuple_getitem.lookup,ht.typeIs,?_⟩
      refine HT.xR ht hs pl pu (by rw[hlen];exact hw) ⟨.ref a,H,I,rfl,q _ F H (gg.refl ..) sb ?_⟩
      have e:cutD ds lo hi=ds:=by
        unfold cutD
        rw[←hl,hw.1,hw.2,List.drop_zero,Nat.sub_zero,List.take_of_length_le (by rw[hl];exact Nat.le_refl _)]
      show Rep F _ (.tup (cutD ds lo hi))
      rw[e]
      exact r0
    · exact DK pins s σ H (.ref a) v vl vu lo hi sl Q I rx hs pl pu ⟨a,xs,rfl,.inl ha,hw,fun p hp=>q _ _ _ (gg.root sb hp _) (sb.su hp) (.tup aY ((rs.cut lo hi).le (lM (sb.fresh hp))))⟩
  | lst ds=>
    cases hf
    obtain⟨a,xs,rfl,fa,ha,rs⟩:=sb.ie r
    exact BD pins s σ H (.ref a) v vl vu lo hi sl Q I rx hs pl pu ⟨a,xs,rfl,.inl ha,fun p hp=>q _ F _ (gg.obj hp _) (sb.same (gg.obj (F:=F) hp _).same) ⟨p,rfl,hp,sb.fresh hp,_,aY,rs.cut lo hi⟩⟩
  | str z=>
    obtain⟨hl,rfl⟩:=bO hf
    cases r
    exact DR pins s σ H _ v vl vu lo hi sl Q I rx hs pl pu ⟨z,rfl,iD hl,fun _=>q _ F H (gg.refl ..) sb (.str _)⟩
  | cg=>cases hf
  | bl b=>cases hf
  | int b=>cases hf
noncomputable def qx (g:GD) (lo hi:Option GD):GE:=fun S=>(g S).bind fun p=>(kq lo p.2).bind fun l=>(kq hi l.2).bind fun h=>(B3 p.1 l.1 h.1).map fun u=>(u,h.2)
section
variable {X:Cx}{a b c e:Expr}{lo hi:Option Expr}{pos p p2 px:Pos}{x y:Str}{g ga:GD}{gA:GA}{gl gh:Option GD}
theorem eg (he:JD X e g) (hl:JO X lo gl) (hh:JO X hi gh):JE X (.Subscript e (.Slice lo hi none p2) pos) (qx g gl gh):=⟨fun B=>(zJ K3 (he.h B) (hl.h B) (hh.h B)).imp fun σ H Q ⟨S,F,u,S',R,hg,q⟩=>by
 obtain⟨⟨d,S1⟩,h1,hg⟩:=ak hg
 obtain⟨⟨l,S2⟩,h2,hg⟩:=ak hg
 obtain⟨⟨h,S3⟩,h3,hg⟩:=ak hg
 obtain⟨u',h4,hg⟩:=au hg
 cases hg
 exact⟨S,F,d,S1,R,h1,fun v F1 H1 R1 st1 r1=>⟨S1,F1,l,S2,R1,h2,fun F2 H2 R2 st2=>⟨S2,F2,h,_,R2,h3,fun F3 H3 R3 st3=>⟨F3,d,_,R3.sub,r1.le (fun b o z=>st3.ext.le b o (st2.ext.le b o z)),h4,fun v F4 H4 n s4 r4=>q v F4 H4 (R3.new n s4) (((st1.trans st2).trans st3).trans n.step) (r4.BN R3 ((st1.trans st2).trans st3))⟩⟩⟩⟩⟩
noncomputable def CV (d:D):Prop:=(toPy d).showable=true∧(toPy d).depth≤20∧(toPy d).shown.length≤sizeLine
noncomputable instance (d:D):Decidable (CV d):=by unfold CV;infer_instance
noncomputable def um:List D→Option U
 | [d]=>if CV d then some (.t (.str (toPy d).shown)) else none
 | _=>none
mutual
theorem Rep.nq {pins:List (Addr×Obj)}{σ:St}{F H:Hp}{s:Shared}(I:Inv X pins σ H s) (sb:Sub F H):∀{v:V}{d:D}{u:Value},Rep F v d→RelV v u→∃as,Reads s.heap u (toPy d) as
 | _,_,_,.cg,r=>by cases r;exact⟨[],.none⟩
 | _,_,_,.bl b,r=>by cases r;exact⟨[],.bool b⟩
 | _,_,_,.int i,r=>by obtain⟨t,rfl⟩:=r;exact⟨[],.int i t⟩
 | _,_,_,.str z,r=>by obtain⟨t,rfl⟩:=r;exact⟨[],.str z t⟩
 | _,_,_,.tup e rs,r=>by
  cases r
  obtain⟨its,rv,p⟩:=sb.isTup I e
  obtain⟨as,h⟩:=aQ.nq I sb rs rv
  obtain⟨o,ho,hc,n,hd⟩:=p
  exact⟨as,.tuple ho hc hd (by simpa using h)⟩
 | _,_,_,.lst e rs,r=>by
  cases r
  obtain⟨its,rv,p⟩:=sb.cU I e
  obtain⟨as,h⟩:=aQ.nq I sb rs rv
  obtain⟨o,ho,hc,n,hd⟩:=p
  exact⟨_ :: as,.list ho hc hd (by simpa using h)⟩
theorem aQ.nq {pins:List (Addr×Obj)}{σ:St}{F H:Hp}{s:Shared}(I:Inv X pins σ H s) (sb:Sub F H):∀{vs:List V}{ds:List D}{us:List Value},aQ F vs ds→Vals vs us→∃as,ReadsAll s.heap us (qZ ds) as
 | _,_,_,.nil,r=>by cases r;exact⟨[],.nil⟩
 | _,_,_,.cons q qs,r=>by
  cases r with
  | cons r rs=>
   obtain⟨as,h⟩:=Rep.nq I sb q r
   obtain⟨bs,k⟩:=aQ.nq I sb qs rs
   exact⟨as++bs,.cons h k⟩
end
theorem pU (hg:X.A.guards=some []) (hu:X.A.units+64 < cLine):dW X (.builtin "repr") (rP um):=by
 intro pins s σ H xs us Q I r ⟨F,ds,w,sb,rs,hw,q⟩
 obtain⟨x,d,rfl,rfl,r1⟩:=mU (P:=fun _=>True) rs hw rfl (fun d _ _=>rfl)
 obtain⟨hok,rfl⟩:=bO (show(if CV d then some (U.t (.str (toPy d).shown)) else none)=some w from hw)
 have fin:=q (.str (toPy d).shown) F H (gg.refl ..) sb (.str _)
 obtain⟨u,rfl,ru⟩:=vals1 r
 obtain⟨h1,h2,h3⟩:=hok
 have seq:∀a,x= .ref a→wpAny (model X.prog X.w) X.A (call (.builtin "repr") [u]) (EP X pins σ Q) X.xe s:=fun a e1=>by
  subst e1
  cases ru
  obtain⟨as,hr⟩:=Rep.nq I sb r1 (u:=.ref a) rfl
  exact repr_of_reads' hr h1 (fun z=>by rw[oh] at z;cases z) hg (by omega) (fun _ _ e=>e) (fun h' u tk hk=>⟨.str _,H,I.kept (t':=tk) hk,⟨u,rfl⟩,fin⟩) h3
 cases r1 with
 | cg=>cases ru;exact PySem.P.repr_of_none ⟨.str _,H,I.tok _,⟨_,rfl⟩,fin⟩
 | bl b=>cases ru;exact PySem.P.repr_of_bool ⟨.str _,H,I.tok _,⟨_,rfl⟩,fin⟩
 | int i=>obtain⟨t,rfl⟩:=ru;exact PySem.P.repr_of_int (by simpa[toPy,PyData.showable] using h1) ⟨.str _,H,I.tok _,⟨_,rfl⟩,fin⟩
 | str z=>obtain⟨t,rfl⟩:=ru;exact PySem.P.repr_of_str ⟨.str _,H,I.tok _,⟨_,rfl⟩,fin⟩ h3
 | tup e rs=>exact seq _ rfl
 | lst e rs=>exact seq _ rfl
end
end L2
end
section
set_option Elab.async false
set_option linter.all false
set_option maxRecDepth 100000
namespace L2
open PySem PySem.Spec PyProof.Rows
theorem mV {X : Cx} {x y : Str} {scope : Scope} {c : Addr} {i : Nat} (clos : closureFor scope X.env = pure [(y, c)]) (lK : ∀ z ∈ scope.names, z.2 ≠ .cell) (kind : scope.kind = .function) (names : ∀ z ∈ scope.names, z.2 = .local → scope.names.lookup z.1 = some .local)
    (loc:scope.names.lookup x=some .local) (hc:X.env.cells.lookup y=some c) (only:∀z∈scope.names,z.2= .free→z.1=y) (ne:x≠y) (hN:X.N[i]? =some y) (vis:X.env.scope.names.lookup y=some .cell) (rel:(relabel scope X.env).names.lookup y=some .cell):
    iC X x [y] [i] scope [(y,c)]:=by
  have look:∀n c',([(y,c)]:List (Str×Addr)).lookup n=some c'→n=y∧c'=c:=fun n c' h=>by
    rw[List.lookup_cons] at h
    cases e:n == y with
    | true=>rw[e] at h;cases h;exact⟨eq_of_beq e,rfl⟩
    | false=>rw[e] at h;cases h
  have self:([(y,c)]:List (Str×Addr)).lookup y=some c:=by rw[List.lookup_cons,beq_self_eq_true]
  refine⟨clos,lK,kind,names,loc,fun n c' h=>?_,fun n h=>?_,?_,rfl,fun j n h=>?_,fun n h=>?_⟩
  · obtain⟨rfl,rfl⟩:=look n c' h
    exact hc
  · have key:n=y:=by
      have go:∀k,(k=NameKind.cell∨k=NameKind.free)→(relabel scope X.env).names.lookup n=some k→n=y:=fun k hk e=>by
        have m:=PySem.mem_of_lookup e
        unfold relabel at m
        obtain⟨⟨n',k'⟩,hm,q⟩:=List.mem_map.mp m
        by_cases hf:k'= .free
        · have h0:n'=y:=only _ hm hf
          have e1:n'=n:=by
            have h1:=congrArg Prod.fst q
            dsimp only at h1
            split at h1 <;> exact h1
          exact e1.symm.trans h0
        · have z:(k' == NameKind.free)=false:=by simpa using hf
          simp only[z,Bool.false_and] at q
          have q2:k'=k:=by
            have:=congrArg Prod.snd q
            simpa using this
          rcases hk with rfl | rfl
          · exact absurd q2 (lK _ hm)
          · exact absurd q2 hf
      rcases h with h | h
      · exact go _ (.inl rfl) h
      · exact go _ (.inr rfl) h
    subst key
    exact⟨c,self⟩
  · simp[ne]
  · cases j with
    | zero=>cases h;exact⟨i,rfl,hN,.inr (.inl vis)⟩
    | succ j=>simp at h
  · have e:n=y:=by simpa using h
    subst e
    exact⟨.inl rel,⟨c,self⟩,by rw[vis];decide⟩
end L2
end
section
set_option Elab.async false
set_option linter.all false
set_option maxRecDepth 100000
namespace L2
open PySem PySem.Spec PyProof.Rows
section
variable {X:Cx}{a b c e:Expr}{es:List Expr}{pos p p2 px:Pos}{x y:Str}{f:FM}{fa:Addr}{fd:FuncData}{ps:List Str}{k n:Nat}
theorem kZ (a:List D) (o:MO) (h:cU o=false):hAppend a o=none:=by
 cases o with
 | lst ds=>cases h
 | dct k=>unfold hAppend;split <;> first | rfl | (rename_i e;cases e)
 | vp k=>unfold hAppend;split <;> first | rfl | (rename_i e;cases e)
end
end L2
end
section
set_option Elab.async false
set_option linter.all false
set_option maxRecDepth 100000
namespace L2
open PySem PySem.Spec PyProof.Rows
noncomputable def cM:List D→Option (List Int)
 | []=>some []
 | .int b :: ds=>(cM ds).map fun bs=>b :: bs
 | _=>none
section
variable {X:Cx}
end
end L2
end
section
set_option Elab.async false
set_option linter.all false
set_option maxRecDepth 100000
namespace L2
open PySem PySem.Spec PyProof.Rows
section
variable {prog:Program}{w:World}{A:Around}{R:Result→Shared→Prop}{I:Addr}{fp wr:List Addr}{G:Array GenState→Array GenState→Prop}{n:Nat}{P:Nat→Value→Prop}{St:Nat→Shared→Prop}
end
section
variable {prog:Program}{w:World}{A:Around}{E:Value→Shared→Prop}{s:Shared}
end
end L2
end
section
set_option Elab.async false
set_option linter.all false
set_option maxRecDepth 100000
namespace L2
open PySem PySem.Spec PyProof.Rows
section
variable {X:Cx}{a:Expr}{pos p p1 p2:Pos}{ga:GD}
end
end L2
end
section
set_option Elab.async false
set_option linter.all false
set_option maxRecDepth 100000
namespace L2
open PySem PySem.Spec PyProof.Rows
noncomputable def uo:U→Option (List D)
 | .t (.lst ds)=>some ds
 | .m (.lst ds)=>some ds
 | .b (.lst ds)=>some ds
 | _=>none
noncomputable def K4 (n:Bool) (i:Nat) (g:GD):GD:=fun S=>(g S).bind fun p=>match p.2[i]? with
 | some (some u)=>(uo u).bind fun ds=>if bK ds≤40 then some (.bl (n != inD p.1 ds),p.2) else none
 | _=>none
section
variable {X:Cx}{a:Expr}{x:Str}{px pos:Pos}{ga:GD}
end
end L2
end
section
set_option Elab.async false
set_option linter.all false
set_option maxRecDepth 100000
namespace L2
open PySem PySem.Spec PyProof.Rows
noncomputable def look:U→Option D
 | .t d=>some d
 | .m (.lst ds)=>some (.lst ds)
 | .b (.lst ds)=>some (.lst ds)
 | _=>none
noncomputable def G2 (f:List D→Option U) (i:Nat):GD:=fun S=>match S[i]? with
 | some (some u)=>(look u).bind fun d=>match f [d] with
  | some (.t e)=>if oq e=true then some (e,S) else none
  | _=>none
 | _=>none
noncomputable def K5 (Ts:List String) (i:Nat):GD:=fun S=>match S[i]? with
 | some (some u)=>(look u).bind fun d=>(cF Ts d).map fun b=>(.bl b,S)
 | _=>none
section
variable {X:Cx}{x y:Str}{p px py pos:Pos}{f:List D→Option U}
end
section
variable (S:SS) (i:Nat) (g:GD)
@[simp] theorem IF (f:List D→Option U):G2 f i S=match S[i]? with
 | some (some u)=>(look u).bind fun d=>match f [d] with
  | some (.t e)=>if oq e=true then some (e,S) else none
  | _=>none
 | _=>none:=rfl
@[simp] theorem K6 (Ts:List String):K5 Ts i S=match S[i]? with | some (some u)=>(look u).bind fun d=>(cF Ts d).map fun b=>(.bl b,S) | _=>none:=rfl
@[simp] theorem K7 (n:Bool):K4 n i g S=(g S).bind fun p=>match p.2[i]? with | some (some u)=>(uo u).bind fun ds=>if bK ds≤40 then some (.bl (n != inD p.1 ds),p.2) else none | _=>none:=rfl
@[simp] theorem G3 (d:D):look (.t d)=some d:=rfl
@[simp] theorem G4 (ds:List D):look (.m (.lst ds))=some (.lst ds):=rfl
@[simp] theorem G5 (ds:List D):look (.b (.lst ds))=some (.lst ds):=rfl
@[simp] theorem EY (ds:List D):uo (.t (.lst ds))=some ds:=rfl
@[simp] theorem EZ (ds:List D):uo (.m (.lst ds))=some ds:=rfl
@[simp] theorem E1 (ds:List D):uo (.b (.lst ds))=some ds:=rfl
@[simp] theorem E2 (ds:List D):tX [] (.lst ds)=some (.cg,.lst ds.reverse):=rfl
end
end L2
end
section
set_option Elab.async false
set_option linter.all false
set_option maxRecDepth 100000
namespace L2
open PySem PySem.Spec PyProof.Rows
section
variable {X:Cx}{a b c e:Expr}{es:List Expr}{pos p p2 px:Pos}{x y:Str}
noncomputable def G6:R2:=fun x y H Q=>∃l k xs,x= .ref l∧y= .int k∧Rd H l (.lst xs)∧-(2 ^ 63)≤k∧k < 2 ^ 63∧xs.length * k.toNat≤sizeLine∧
 ∀p,H p=none→Q (.ref p) (upd H p (.lst (List.replicate k.toNat xs).flatten))
theorem B4:mq X (binaryOp .Mult) G6:=by
 intro pins s σ H x y v u Q I rx ry h
 obtain⟨l,k,xs,rfl,rfl,hH,h1,h2,hz,q⟩:=h
 cases rx
 obtain⟨t,rfl⟩:=ry
 obtain⟨z,its,n,r,hl,e⟩:=hH.vH I
 have hlen:its.toArray.size * k.toNat≤sizeLine:=by rw[List.size_toArray,←hl];exact hz
 have hcap:¬its.toArray.size * k.toNat > (2 ^ 63 - 1) / 8:=by
  have:(sizeLine:Nat)≤(2 ^ 63 - 1) / 8:=by decide
  omega
 have hfit:¬(!Builtin.List.listFitsIndex k)=true:=by
  rw[fitsIndex_both h1 h2]
  exact Bool.false_ne_true
 have Aq:¬Builtin.List.listTooLong (its.toArray.size * k.toNat)=true:=by
  rw[tL hlen]
  exact Bool.false_ne_true
 have hnew:List.foldl (fun x1 x2=>x1++x2) #[] (List.replicate (if its.toArray.isEmpty=true then 0 else k.toNat) its.toArray)=(List.replicate k.toNat its).flatten.toArray:=by
  have f0:∀m:Nat,List.foldl (fun x1 x2=>x1++x2) #[] (List.replicate m its.toArray)=(List.replicate m its).flatten.toArray:=fun m=>by
   have:=foldl_rep its m []
   rw[List.nil_append] at this
   exact this
  rw[f0]
  cases its with
  | nil=>simp
  | cons a r'=>rw[if_neg (by simp)]
 refine wpAny_binaryOp_repeat_ref (T:="list") (U:="int") (by decide) ⟨_,e,rfl⟩ (fun s'=>typeIs_int s' k t) noFill_list_mul F.fills_int_mul F.slot_int_rmul repeat_list F.slot_int_index.lookup
  (call_meets F.slot_int_rmul (typeIs_int s k t) F.entry_int_rmul (F.args_int_rmul_2 _ _) (int___rmul___int_list k t l its.toArray n)
   ⟨e,rfl,⟨_,e,rfl⟩,call_meets F.slot_list_mul ⟨_,e,rfl⟩ F.entry_list_mul (F.args_list_mul_2 _ _) (AutoListH.list___mul___list_int_3 l its.toArray n k t hfit hcap Aq) ⟨e,?_⟩⟩)
 rw[hnew]
 exact⟨.ref _,_,I.Gv (t':=s.toks) (r.rep k.toNat) (by rw[len_rep,Nat.mul_comm];exact hz),rfl,q _ I.fresh⟩
theorem aQ.rep {F:Hp}{vs:List V}{ds:List D}(r:aQ F vs ds):∀k:Nat,aQ F (List.replicate k vs).flatten (List.replicate k ds).flatten
 | 0=>.nil
 | k+1=>by rw[List.replicate_succ,List.replicate_succ,List.flatten_cons,List.flatten_cons];exact r.append (aQ.rep r k)
noncomputable def uq:List D→Option U
 | [.lst ds,.int k]=>if 0≤k∧k.toNat≤100000∧ds.length * k.toNat≤100000 then some (.m (.lst (List.replicate k.toNat ds).flatten)) else none
 | _=>none
theorem B5:qq X (binaryOp .Mult) uq:=by
 intro pins s σ H x y v u Q I rx ry ⟨F,ds,w,sb,rs,hw,q⟩
 obtain⟨d,e,rfl,r1,r2⟩:=ow rs
 cases d <;> cases e <;> try (simp[uq] at hw;done)
 rename_i ds k
 obtain⟨⟨h1,h2,h3⟩,rfl⟩:=bO hw
 obtain⟨a,vs,rfl,fa,ha,oz⟩:=sb.ie r1
 have hy:=iE r2
 subst hy
 exact B4 pins s σ H _ _ v u Q I rx ry ⟨a,k,vs,rfl,rfl,ha,by omega,by omega,by rw[oz.length];exact Nat.le_trans h3 (by decide),
  fun p hp=>q _ F _ (gg.obj hp _) (sb.same (gg.obj (F:=F) hp _).same) ⟨p,rfl,hp,sb.fresh hp,_,aY,oz.rep _⟩⟩
noncomputable def B6:List D→Option U
 | [.int i]=>some (.t (.int i))
 | [.bl k]=>some (.t (.int (if k then 1 else 0)))
 | _=>none
theorem xX:dW X (.type "int") (rP B6):=by
 intro pins s σ H xs us Q I r ⟨F,ds,w,sb,rs,hw,q⟩
 obtain⟨x,d,rfl,rfl,r1⟩:=mU (P:=fun _=>True) rs hw rfl (fun d _ _=>by cases d <;> rfl)
 cases d <;> try (simp[B6] at hw;done)
 ·cases hw
  have hx:=j4 r1
  subst hx
  exact qQ pins s σ H _ us Q I r (.inr ⟨_,rfl,q _ F H (gg.refl ..) sb (.int _)⟩)
 ·cases hw
  have hx:=iE r1
  subst hx
  exact qQ pins s σ H _ us Q I r (.inl ⟨_,rfl,q _ F H (gg.refl ..) sb (.int _)⟩)
noncomputable def ur:V→List V→Hp→VK→Prop:=fun x vs H Q=>∃l b xs zs,x= .ref l∧vs=[.ref b]∧H l=some (.lst xs)∧Rd H b (.lst zs)∧xs.length+zs.length≤sizeLine∧Q .cg (upd H l (.lst (xs++zs)))
theorem vO:DL X "list.extend" ur:=by
 intro pins s σ H x vs v us Q I rx rv h
 obtain⟨l,b,xs,zs,rfl,rfl,hH,hB,hz,q⟩:=h
 cases rx
 obtain⟨u,rfl,ru⟩:=rv.one
 cases ru
 obtain⟨z,its,n,r,hl,e⟩:=I.vH hH
 obtain⟨z2,its2,n2,r2,hl2,e2⟩:=hB.vH I
 have hsz:its.toArray.size+its2.toArray.size≤sizeLine:=by rw[List.size_toArray,List.size_toArray];omega
 have Aq:¬(!its.toArray.isEmpty && Builtin.List.listTooLong (its.toArray.size+its2.toArray.size))=true:=by
  rw[tL hsz,Bool.and_false]
  exact Bool.false_ne_true
 refine call_meets F.slot_list_extend ⟨_,e,rfl⟩ F.entry_list_extend (F.args_list_extend_2 _ _)
  (AutoSeq1.list_extend_list_list_0 l its.toArray n b its2.toArray n2 Aq (by rw[List.size_toArray];omega) (by omega)) ⟨e,e2,?_⟩
 refine⟨.cg,_,I.Gu (its':=its++its2) hH e (by simp) (r.append r2) ?_,rfl,q⟩
 rw[List.length_append]
 omega
noncomputable def jQ:List D→MO→Option (D×MO)
 | [.lst es],.lst ds=>if ds.length+es.length≤100000 then some (.cg,.lst (ds++es)) else none
 | _,_=>none
theorem xY:KR ur jQ:=by
 intro F H a vs xs ds args res o' sb hH fa rs rx hw Q q
 unfold jQ at hw
 split at hw
 ·rename_i es ds' e2
  cases e2
  obtain⟨hl,hw⟩:=bO hw
  cases hw
  cases rx with
  | cons r rr=>
   cases rr
   obtain⟨b,zs,rfl,fb,hb,BQ⟩:=sb.ie r
   exact⟨a,b,vs,zs,rfl,rfl,hH,hb,by rw[rs.length,BQ.length];exact Nat.le_trans hl (by decide),q .cg _ .cg ⟨_,aY,rs.append BQ⟩⟩
 ·cases hw
theorem xZ (a:List D) (o:MO) (h:cU o=false):jQ a o=none:=by
 cases o with
 | lst ds=>cases h
 | dct k=>unfold jQ;split <;> first | rfl | (rename_i e;cases e)
 | vp k=>unfold jQ;split <;> first | rfl | (rename_i e;cases e)
noncomputable def CW:D→Bool
 | .cg=>true
 | _=>false
noncomputable def K8:List D→Option U
 | [d,.cg]=>some (.t (.bl (CW d)))
 | _=>none
noncomputable def K9 (f:Int→Int→Int) (i:Nat) (g:GD):GS:=fun S=>match S[i]? with
 | some (some (.t (.int n)))=>(g S).bind fun p=>match p.1 with
  | .int m=>(lC i (.t (.int (f n m))) p.2).map .nx
  | _=>none
 | _=>none
theorem lT {x : Str} {cj : List Str} {cap : List Nat} {scope : Scope} {cl : List (Str × Addr)} (clos : closureFor scope X.env = pure cl) (lK : ∀ z ∈ scope.names, z.2 ≠ .cell) (kind : scope.kind = .function) (names : ∀ z ∈ scope.names, z.2 = .local → scope.names.lookup z.1 = some .local)
    (loc:scope.names.lookup x=some .local) (hc:cl.map (fun p=>X.env.cells.lookup p.1)=cl.map (fun p=>some p.2)) (only:∀z∈scope.names,z.2= .free→z.1∈cj) (hcl:cl.map (·.1)=cj.reverse∨cl.map (·.1)=cj) (nd:(x :: cj).Nodup)
    (slot:cap.map (fun i=>X.N[i]?)=cj.map some) (vis:cj.map (fun n=>X.env.scope.names.lookup n)=cj.map fun _=>some .cell) (rel:cj.map (fun n=>(relabel scope X.env).names.lookup n)=cj.map fun _=>some .cell):
    iC X x cj cap scope cl:=by
  have all:∀{α β:Type}{f g:α→β}{l:List α},l.map f=l.map g→∀a∈l,f a=g a:=fun {α β f g l} h=>by
    induction l with
    | nil=>intro a m;cases m
    | cons b r ih=>
      intro a m
      rw[List.map_cons,List.map_cons] at h
      injection h with h1 h2
      rcases List.mem_cons.mp m with z | z
      · rw[z];exact h1
      · exact ih h2 a z
  have G7:∀n,n∈cj→∃c,cl.lookup n=some c:=fun n hn=>lookup_some (hcl.elim (fun z=>by rw[z];exact List.mem_reverse.mpr hn) fun z=>by rw[z];exact hn)
  have len:cap.length=cj.length:=by have:=congrArg List.length slot;simpa using this
  refine⟨clos,lK,kind,names,loc,fun n c h=>all hc (n,c) (PySem.mem_of_lookup h),fun n h=>?_,nd,len,fun j n h=>?_,fun n h=>⟨.inl (all rel n h),G7 n h,by rw[all vis n h];decide⟩⟩
  · refine G7 n ?_
    have go:∀k,(k=NameKind.cell∨k=NameKind.free)→(relabel scope X.env).names.lookup n=some k→n∈cj:=fun k hk e=>by
      have m:=PySem.mem_of_lookup e
      unfold relabel at m
      obtain⟨⟨n',k'⟩,hm,q⟩:=List.mem_map.mp m
      by_cases hf:k'= .free
      · have h0:n'∈cj:=only _ hm hf
        have e1:n'=n:=by
          have h1:=congrArg Prod.fst q
          dsimp only at h1
          split at h1 <;> exact h1
        rw[←e1]
        exact h0
      · have z:(k' == NameKind.free)=false:=by simpa using hf
        simp only[z,Bool.false_and] at q
        have q2:k'=k:=by
          have:=congrArg Prod.snd q
          simpa using this
        rcases hk with rfl | rfl
        · exact absurd q2 (lK _ hm)
        · exact absurd q2 hf
    rcases h with h | h
    · exact go _ (.inl rfl) h
    · exact go _ (.inr rfl) h
  · have e:=congrArg (fun l=>l[j]?) slot
    simp only[List.getElem?_map,h,Option.map_some] at e
    cases q:cap[j]? with
    | none=>rw[q] at e;cases e
    | some i=>
      rw[q] at e
      exact⟨i,rfl,Option.some.inj e,.inr (.inl (all vis n (List.mem_of_getElem? h)))⟩
end
end L2
end
section
set_option Elab.async false
set_option linter.all false
set_option maxRecDepth 100000
namespace L2
open PySem PySem.Spec PyProof.Rows
open AutoSeq1 (wpAny_loadPart')
noncomputable def G8 (k:Bool) (h:Heap) (a:Addr) (its:Array Value):Prop:=match k with
 | true=>h.IsList a its
 | false=>h.IsTuple a its
noncomputable def D4 (k:Bool) (h:Heap) (it a:Addr) (i:Nat):Prop:=match k with
 | true=>h.IsListIter it a i
 | false=>h.IsTupleIter it a i
noncomputable def QK:Bool→String
 | true=>"list_iterator"
 | false=>"tuple_iterator"
noncomputable def QL (k:Bool) (a:Addr):Obj:={cls:=.type (QK k),data:=.fields #[.ref a,.int 0 0]}
theorem G8.at {k:Bool}{h h':Heap}{a:Addr}{its:Array Value}(x:G8 k h a its) (g:∀o,h.get? a=some o→h'.get? a=some o):G8 k h' a its:=by
 cases k <;> exact let⟨o,ho,r⟩:=x;⟨o,g o ho,r⟩
theorem D4.at {k:Bool}{h h':Heap}{it a:Addr}{i:Nat}(x:D4 k h it a i) (g:∀o,h.get? it=some o→h'.get? it=some o):D4 k h' it a i:=by
 cases k <;> exact let⟨o,ho,r⟩:=x;⟨o,g o ho,r⟩
theorem D4.obj {k:Bool}{h:Heap}{it a:Addr}{i:Nat}(x:D4 k h it a i):∃o,h.get? it=some o∧∀v,o.data≠.cell v:=by
 cases k <;> exact let⟨o,ho,_,r⟩:=x;⟨o,ho,fun v z=>by rw[r] at z;cases z⟩
theorem D4.new (k:Bool) (h:Heap) (a:Addr):D4 k (h.push (QL k a)) h.objs.size a 0:=by
 cases k <;> exact⟨_,Heap.get?_push_size _ rfl,rfl,rfl⟩
section
variable {prog:Program}{w:World}{A:Around}{E:Value→Shared→Prop}{s:Shared}
end
end L2
end
section
set_option Elab.async false
set_option linter.all false
set_option maxRecDepth 100000
namespace L2
open PySem PySem.Spec PyProof.Rows
section
variable {prog:Program}{w:World}{A:Around}{E:Value→Shared→Prop}{s:Shared}
end
section
variable {X:Cx}{pins:List (Addr×Obj)}{σ:St}{H:Hp}{s:Shared}
end
end L2
end
section
set_option Elab.async false
set_option linter.all false
set_option maxRecDepth 100000
namespace L2
open PySem PySem.Spec PyProof.Rows
section
variable {prog:Program}{w:World}{A:Around}{E:Value→Shared→Prop}{s:Shared}
end
end L2
end
section
set_option Elab.async false
set_option linter.all false
set_option maxRecDepth 100000
namespace L2
open PySem PySem.Spec PyProof.Rows
section
variable {X:Cx}{a b c e:Expr}{body elts:List Expr}{pos p tpos:Pos}{jt:Nat}
theorem G8.lt {k:Bool}{h:Heap}{a:Addr}{its:Array Value}(x:G8 k h a its):a < h.objs.size:=by
 cases k <;> exact let⟨o,ho,_⟩:=x;Heap.lt_size ho
noncomputable def uu:D→Option (Bool×List D)
 | .lst ds=>some (true,ds)
 | .tup ds=>some (false,ds)
 | _=>none
noncomputable def CY (ds:List D):List D:=ds.mapIdx fun i d=>.tup [.int i,d]
noncomputable def G9 (gA:GA):GI:=fun S=>(gA S).bind fun p=>match p.1 with
 | [d]=>(uu d).map fun q=>(CY q.2,p.2)
 | _=>none
noncomputable def Hf (gA:GA):GI:=fun S=>(gA S).bind fun p=>match p.1 with
 | [d,e]=>(uu d).bind fun q=>(uu e).map fun r=>(List.zipWith (fun a b=>.tup [a,b]) q.2 r.2,p.2)
 | _=>none
end
end L2
end
section
set_option Elab.async false
set_option linter.all false
set_option maxRecDepth 100000
namespace L2
open PySem PySem.Spec PyProof.Rows
section
variable {X:Cx}{a b c e:Expr}{x y:Str}{p px py pos pos' tpos:Pos}{f:List D→Option U}{gb:GD}
theorem Vals.repl {v:V}{u:Value}(r:RelV v u):∀m:Nat,Vals (List.replicate m v) (List.replicate m u)
 | 0=>.nil
 | m+1=>.cons r (Vals.repl r m)
theorem aQ.repl {F:Hp}{v:V}{d:D}(r:Rep F v d):∀m:Nat,aQ F (List.replicate m v) (List.replicate m d)
 | 0=>.nil
 | m+1=>.cons r (aQ.repl r m)
end
end L2
end
section
set_option Elab.async false
set_option linter.all false
set_option maxRecDepth 100000
namespace L2
open PySem PySem.Spec PyProof.Rows
noncomputable def Hg:GE:=fun S=>some (.m (.vp []),S)
noncomputable def Hh:GE:=fun S=>some (.m (.dct []),S)
section
variable {X:Cx}{a b c e k:Expr}{x y:Str}{p px py pos pos' tpos apos cpos:Pos}{gk:GD}
noncomputable def D5 (d:D):List D→Option Nat
 | []=>none
 | e :: ds=>if m8 e d then some 0 else(D5 d ds).map (· +1)
noncomputable def D6:List D→MO→Option (D×MO)
 | [d],.lst ds=>if bK ds≤40∧ds.length < 100000 then(D5 d ds).map fun j=>(.int (j:Nat),.lst ds) else none
 | _,_=>none
end
end L2
end
section
set_option Elab.async false
set_option linter.all false
set_option maxRecDepth 100000
namespace L2
open PySem PySem.Spec PyProof.Rows
section
variable {X:Cx}{k v:Expr}{pos:Pos}{tk tv:TE}{gk gv:GD}
end
end L2
end
section
set_option Elab.async false
set_option linter.all false
set_option maxRecDepth 100000
namespace L2
open PySem PySem.Spec PyProof.Rows
noncomputable def CZ (kvs:List (Str×Int)) (z:Str):Option Int:=(kvs.find? fun p=>decide (p.1=z)).map (·.2)
noncomputable def Hi:Option Int→Option Value→Prop
 | some i,u=>∃t,u=some (.int i t)
 | none,u=>u=none
noncomputable def KTab (P:Program) (w:World) (K:PySem.W.Frag) (a:Addr) (kvs:List (Str×Int)):Prop:=
 (a == sysModules)=false∧∃o es ep,K.lookup a=some o∧o.ExactDict∧o.data= .dict es ep∧KeysOf (dg P w) es∧∀z,Hi (CZ kvs z) (findBy (dg P w).is es (.inr z))
section
variable {X:Cx}{pins:List (Addr×Obj)}{σ:St}{H:Hp}{s:Shared}{a:Addr}{kvs:List (Str×Int)}
theorem KTab.map (I:Inv X pins σ H s) (h:KTab X.prog X.w X.K a kvs):∃f:Key→Option Value,s.heap.MapOf (dg X.prog X.w) a f∧∀z,Hi (CZ kvs z) (f (.inr z)):=by
 obtain⟨_,o,es,ep,h1,h2,h3,h4,h5⟩:=h
 exact⟨_,⟨o,es,ep,I.we a o h1,h2,h3,h4,fun _=>rfl⟩,h5⟩
end
section
variable {X:Cx}{e f:Expr}{x:Str}{px pos apos cpos:Pos}{ty tx:TE}{g gd:GD}{a:Addr}{kvs:List (Str×Int)}
end
section
variable {X:Cx}{e:Expr}{x:Str}{px pos:Pos}{g:GD}{a:Addr}{zs:List Str}
end
end L2
end
section
set_option Elab.async false
set_option linter.all false
set_option maxRecDepth 100000
namespace L2
open PySem PySem.Spec PyProof.Rows
section
variable {X:Cx}{e f:Expr}{x:Str}{px pos apos cpos:Pos}{gk gd:GD}{ge:GE}
end
end L2
end
section
set_option Elab.async false
set_option linter.all false
set_option maxRecDepth 100000
namespace HT
open PySem PySem.Spec PyProof.Rows
section
variable {prog:Program}{w:World}{A:Around}{E:Value→Shared→Prop}{s:Shared}
end
end HT
namespace L2
open PySem PySem.Spec PyProof.Rows
section
variable {X:Cx}{e st:Expr}{te ts:TE}{pos p2:Pos}
noncomputable def Ar (d:D):Option U:=match d with
 | .tup ds=>some (.t (.tup ds.reverse))
 | .lst ds=>some (.m (.lst ds.reverse))
 | _=>none
noncomputable def La (g:GD) (gs:GD):GE:=fun S=>(g S).bind fun p=>(gs p.2).bind fun l=>match l.1 with
 | .int i=>if i=-1 then(Ar p.1).map fun u=>(u,l.2) else none
 | _=>none
@[simp] theorem Lb (g gs:GD) (S:SS):La g gs S=(g S).bind fun p=>(gs p.2).bind fun l=>match l.1 with
 | .int i=>if i=-1 then(Ar p.1).map fun u=>(u,l.2) else none
 | _=>none:=rfl
end
noncomputable def D7:List Int→Int
 | []=>0
 | [a]=>a
 | a :: b :: r=>max a (D7 (b :: r))
noncomputable def D8:List Int→Int
 | []=>0
 | [a]=>a
 | a :: b :: r=>min a (D8 (b :: r))
noncomputable def Hj:List D→Option U
 | [.lst ds]=>(cM ds).bind fun bs=>if bs=[] then none else some (.t (.int (D7 bs)))
 | _=>none
noncomputable def Hl:List D→Option U
 | [.lst ds]=>(cM ds).bind fun bs=>if bs=[] then none else some (.t (.int (D8 bs)))
 | _=>none
section
variable {X:Cx}
end
@[simp] theorem IG (ds:List D):Hj [.lst ds]=(cM ds).bind fun bs=>if bs=[] then none else some (.t (.int (D7 bs))):=rfl
@[simp] theorem II (ds:List D):Hl [.lst ds]=(cM ds).bind fun bs=>if bs=[] then none else some (.t (.int (D8 bs))):=rfl
end L2
namespace HT
open PySem PySem.Spec PyProof.Rows
section
variable {prog:Program}{w:World}{A:Around}{E:Value→Shared→Prop}{s:Shared}
end
end HT
namespace L2
open PySem PySem.Spec PyProof.Rows
section
variable {X:Cx}{pos:Pos}
noncomputable def Lc (n:Nat) (bs:ze):GB:=fun d S=>match d with
 | .lst ds=>if ds.length=n then bs ds S else none
 | _=>none
end
@[simp] theorem Ld (n:Nat) (bs:ze) (ds:List D) (S:SS):Lc n bs (.lst ds) S=if ds.length=n then bs ds S else none:=rfl
noncomputable def Ho:List D→Option U
 | [.bl a,.bl b]=>some (.t (.bl (a == b)))
 | _=>none
@[simp] theorem IJ (a b:Bool):Ho [.bl a,.bl b]=some (.t (.bl (a == b))):=rfl
end L2
end
section
set_option Elab.async false
set_option linter.all false
set_option maxRecDepth 100000
namespace L2
open PySem PySem.Spec PyProof.Rows PySem.Calls
noncomputable def C0 (h:Heap) (a:Addr) (ep:Nat) (t:SetTable):Prop:=∃o,h.get? a=some o∧o.ExactSet∧o.data= .set #[] ep t∧t.fits 0=true
theorem C0.typeIs {s:Shared}{a:Addr}{ep:Nat}{t:SetTable}(h:C0 s.heap a ep t):s.TypeIs (.ref a) "set":=let⟨o,h1,h2,_⟩:=h;⟨o,h1,h2.1⟩
section
variable {prog:Program}{w:World}{A:Around}{E:Value→Shared→Prop}{s:Shared}{a I:Addr}{ep:Nat}{t:SetTable}
noncomputable def As (h:Heap) (I a:Addr) (ep:Nat):Prop:=∃o,h.get? I=some o∧o.cls= .type "set_iterator"∧o.data= .fields #[.int 0 0,.int 0 0,.ref a,.int 0 0,.int ep 0]
theorem As.typeIs (h:As s.heap I a ep):s.TypeIs (.ref I) "set_iterator":=let⟨o,h1,h2,_⟩:=h;⟨o,h1,h2⟩
end
section
variable {X:Cx}{a:Expr}{pos p p1 p2:Pos}{ga:GD}
end
end L2
end
section
set_option Elab.async false
set_option linter.all false
set_option maxRecDepth 100000
namespace L2
open PySem PySem.Spec PyProof.Rows
noncomputable def eFn (a:Addr):GE:=fun S=>some (.f a,S)
section
variable {X:Cx}{x:Str}{p:Pos}{a:Addr}
theorem C1 (hg:Gl X x) (hm:X.mg x=some (.ref a)) (hd:(x == ("__debug__":Str))=false:=by decide):JE X (.Name x p) (eFn a):=
 ⟨fun B=>(Bf (v:=.ref a) hg hm rfl hd).imp fun σ H Q ⟨S,F,u,S',R,hg',q⟩=>by cases hg';exact q (.ref a) F H R (Step.refl ..) rfl⟩
end
noncomputable def pW (i:Nat) (sW:List (Addr×FM)) (gu:GU):GE:=fun S=>match S[i]? with
 | some (some (.f a))=>(sW.find? fun p=>p.1 == a).bind fun p=>aL p.2 gu S
 | _=>none
noncomputable def Defs (X:Cx) (k n:Nat):List (Addr×FM)→Prop
 | []=>True
 | (a,f) :: r=>(PySem.W.keepIn X.K (.ref a)=true∧∃fd ps,Binds X.K fd ps []∧bz X.prog X.w X.K X.mg X.base fQ k a fd ps (spT X.K n f))∧Defs X k n r
theorem Defs.get {X:Cx}{k n:Nat}{a:Addr}{p:Addr×FM}:∀{sW:List (Addr×FM)},Defs X k n sW→sW.find? (fun p=>p.1 == a)=some p→p.1=a∧PySem.W.keepIn X.K (.ref a)=true∧∃fd ps,Binds X.K fd ps []∧bz X.prog X.w X.K X.mg X.base fQ k a fd ps (spT X.K n p.2)
 | [],_,h=>by cases h
 | (b,f) :: r,h,e=>by
  rw[List.find?_cons] at e
  cases q:(b == a) with
  | true=>rw[q] at e;cases e;obtain rfl:=eq_of_beq q;exact⟨rfl,h.1.1,h.1.2⟩
  | false=>rw[q] at e;exact Defs.get h.2 e
section
variable {X:Cx}{e:Expr}{es:List Expr}{gu:GU}{x:Str}{p pos:Pos}{k n i:Nat}{t:TA}
theorem Au {sp:List V→Hp→VK→XK→Prop}{f:Addr}{fd:FuncData}{ps:List Str}{ds:List Value}{zE:List V}{E:XK}(F:bz X.prog X.w X.K X.mg X.base fQ k f fd ps sp) (hr:iw k X.A) (hN:X.N[i]? =some x) (hv:A7 X.env.scope x) (hk:PySem.W.keepIn X.K (.ref f)=true) (hb:Binds X.K fd ps ds) (hd:Vals zE ds) (hx:Passes fQ X E)
  (ha:PA X (e :: es) t) (hdb:(x == ("__debug__":Str))=false) (hcd:(x == ("__classdict__":Str))=false) (he:starEach (e :: es) X.env=(false,eval e X.env) :: starEach es X.env) (hpl:(backTo pos (starEach es X.env)).any (·.1)=false):
  PE X (.Call (.Name x p) (e :: es) [] pos) (fun σ H Q=>σ[i]? =some (some (.ref f))∧CH sp zE E t σ H Q):=by
 intro pins s σ H Q I ⟨hs,h⟩
 refine wpAny_Call_Name_kw ?_
 refine wpAny_mono (iJ (pos:=p) hN hv hdb hcd pins s σ H (fun v H1=>v= .ref f∧H1=H) I ⟨.ref f,hs,rfl,rfl⟩) (fun u s1 ⟨v,H1,I1,r,ev,eH⟩=>?_) fun _ _ z=>z
 subst ev eH
 obtain rfl:u=Value.ref f:=r
 refine PySem.W.callWith_K (h₀:=X.base) I1.ok.mod.Iq hk (fG (ha pos pins s1 σ _ _ I1 h) fun us s2 ⟨vs,H2,I2,r2,q⟩=>⟨I2.we,?_⟩) he hpl
 exact zF F hr hb hd hx I2 r2 q
theorem Av {sW : List (Addr × FM)} (i : Nat) (hD : Defs X k n sW) (hr : iw k X.A) (ha : JU X (e :: es) gu) (hN : X.N[i]? = some x := by rfl) (hv : A7 X.env.scope x := by first | exact Or.inl rfl | exact Or.inr (Or.inl rfl) | exact Or.inr (Or.inr rfl)) (hn : (e :: es).length = n := by rfl)
    (hdb:(x == ("__debug__":Str))=false:=by decide) (hcd:(x == ("__classdict__":Str))=false:=by decide) (he:starEach (e :: es) X.env=(false,eval e X.env) :: starEach es X.env:=by rfl) (hpl:(backTo pos (starEach es X.env)).any (·.1)=false:=by rfl):
    JE X (.Call (.Name x p) (e :: es) [] pos) (pW i sW gu):=⟨fun B=>by
  rintro pins s σ H Q I ⟨S,F0,u,S',R,hg,q⟩
  unfold pW at hg
  split at hg
  · rename_i a hs
    obtain⟨⟨a',f⟩,hf,IE⟩:=ak hg
    clear hg
    obtain⟨rfl,hk,fd,ps,hb,F⟩:=hD.get hf
    obtain⟨v,hsv,rv⟩:=R.rep i _ hs
    obtain rfl:v= .ref a':=rv
    refine Au F hr hN hv hk hb .nil CL (ha.h B) hdb hcd he hpl pins s σ H Q I ⟨hsv,?_⟩
    have hg:aL f gu S=some (u,S'):=IE
    clear IE
    unfold aL at hg
    obtain⟨⟨us,S1⟩,h1,hg⟩:=ak hg
    dsimp only at hg
    split at hg
    · rename_i hc
      obtain⟨ws,h2,hg⟩:=ak hg
      obtain⟨⟨r,outs⟩,h3,hg⟩:=ak hg
      obtain⟨S2,h4,hg⟩:=au hg
      cases hg
      refine⟨S,F0,us,S1,R,h1,fun vs F1 H1 R1 st1 rr=>?_⟩
      show spT X.K n f (vs++[]) H1 Q E0
      rw[List.append_nil]
      have hlen:vs.length=n:=by rw[rr.length,ha.len _ _ _ h1];exact hn
      refine⟨hlen,F1,ws,r,outs,R1.sub,pC R1 rr h2,dH R1 rr h2 hc.1 hc.2,h3,fun v F2 H2 po rn=>?_⟩
      obtain⟨R2,st2,mu⟩:=lO R1 st1 rr h2 h4 hc.1 po
      refine q v F2 H2 R2 st2 ?_
      cases r with
      | t d=>exact rn
      | b o=>cases rn
      | v i=>cases rn
      | s i=>cases rn
      | f i=>cases rn
      | m o=>
        obtain⟨a,e,h0,f,h⟩:=rn
        refine⟨a,e,none_of st1.ext.there h0,f,h,fun m=>?_,none_of R1.ext.there h0⟩
        obtain⟨o',ho⟩:=R1.has (mu a m)
        rw[h0] at ho
        cases ho
    · cases hg
  · cases hg⟩
end
end L2
end
section
set_option Elab.async false
set_option linter.all false
set_option maxRecDepth 100000
namespace L2
open PySem PySem.Spec PyProof.Rows
section
variable (S:SS) (d e:D) (o:MO) (i j:Nat) (g ga gb gc:GD) (ge:GE) (q q1 q2:GT) (gA:GA) (gu:GU) (a b:GS) (f f':List D→Option U) (fm:FM) (bd:GB) (gi:GI)
@[simp] theorem Le:ao i S=match S[i]? with | some (some (.t d))=>some (.t d,S) | some (some (.s d))=>some (.s d,S) | some (some (.f d))=>some (.f d,S) | some (some _)=>some (.v i,S) | _=>none:=rfl
@[simp] theorem QM:eC d S=some (d,S):=rfl
@[simp] theorem Lf:aq S=some ([],S):=rfl
@[simp] theorem IK:aa g gA S=(g S).bind fun p=>(gA p.2).map fun q=>(p.1 :: q.1,q.2):=rfl
@[simp] theorem QN:eP f gA S=(gA S).bind fun p=>(f p.1).map fun u=>(u,p.2):=rfl
@[simp] theorem QO:eF ge S=(ge S).bind fun p=>fz p.1 p.2:=rfl
@[simp] theorem QS:eT g S=(g S).map fun p=>(.t p.1,p.2):=rfl
@[simp] theorem Lg:fz (.t d) S=some (d,S):=rfl
@[simp] theorem Lh (ds:List D):fz (.m (.lst ds)) S=some (.lst ds,S):=rfl
@[simp] theorem Li:fz (.v i) S=match S[i]? with | some (some (.t d))=>some (d,S) | some (some (.m (.lst ds)))=>some (.lst ds,S.set i (some (.t (.lst ds)))) | _=>none:=rfl
@[simp] theorem QT:qB g S=(g S).bind fun p=>match p.1 with | .bl k=>some (k,p.2) | _=>none:=rfl
@[simp] theorem Lj:mH q S=(q S).map fun p=>(!p.1,p.2):=rfl
@[simp] theorem Lk:jX q1 q2 S=(q1 S).bind fun p=>if p.1 then q2 p.2 else some (false,p.2):=rfl
@[simp] theorem OW:A9 q1 q2 S=(q1 S).bind fun p=>if p.1 then some (true,p.2) else q2 p.2:=rfl
@[simp] theorem QU:eQ q S=(q S).map fun p=>(.bl p.1,p.2):=rfl
@[simp] theorem IL:gq S=some (true,S):=rfl
@[simp] theorem OX:GH f f' ga gb gc S=(ga S).bind fun p=>(gb p.2).bind fun q=>match f [p.1,q.1] with
 | some (.t (.bl k))=>if k then(gc q.2).bind fun r=>match f' [q.1,r.1] with
   | some (.t (.bl k'))=>some (.bl k',r.2)
   | _=>none
  else some (.bl false,q.2)
 | _=>none:=rfl
@[simp] theorem OY (g1 g2:GE):Qt q g1 g2 S=(q S).bind fun p=>if p.1 then g1 p.2 else g2 p.2:=rfl
@[simp] theorem Ll:iM S=some (.nx S):=rfl
@[simp] theorem vP:bg a b S=(a S).bind fun o=>match o with | .nx S1=>b S1 | o=>some o:=rfl
@[simp] theorem Lm:bR i ge S=(ge S).bind fun p=>match p.1 with | .m o=>(lC i (.m o) p.2).map .nx | u=>(fz u p.2).bind fun q=>(lC i (.t q.1) q.2).map .nx:=rfl
@[simp] theorem iT (u:U):lC i u S=match S[i]? with | some (some (.b _))=>none | some _=>some (S.set i (some u)) | none=>none:=rfl
@[simp] theorem IM:pN ge S=(ge S).map fun p=>.nx p.2:=rfl
@[simp] theorem Ln:cL ge S=(ge S).bind fun p=>match p.1 with
 | .v i=>match p.2[i]? with
  | some (some (.t d))=>some (.rt (.t d) p.2)
  | some (some (.m o))=>some (.rt (.m o) (p.2.set i none))
  | _=>none
 | .s _=>none
 | .f _=>none
 | u=>some (.rt u p.2):=rfl
@[simp] theorem IP:GL S=some (.rt (.t .cg) S):=rfl
@[simp] theorem OZ:pB q a b S=(q S).bind fun p=>if p.1 then a p.2 else b p.2:=rfl
@[simp] theorem Lo:BU bd g S=(g S).bind fun p=>(bd p.1 p.2).map .nx:=rfl
@[simp] theorem IQ:bName i d S=lC i (.t d) S:=rfl
@[simp] theorem Aw:mQ bd gi a S=(gi S).bind fun p=>loop bd a p.1 p.2:=rfl
@[simp] theorem D9:BV g S=(g S).bind fun p=>match p.1 with | .tup ds=>some (ds,p.2) | .lst ds=>some (ds,p.2) | _=>none:=rfl
@[simp] theorem sH:gn gA S=(gA S).bind fun p=>match p.1 with | [.int j]=>if j < 1000000∧-1000000 < j then some (jk 0 j.toNat,p.2) else none | _=>none:=rfl
@[simp] theorem IS:GO gA S=(gA S).bind fun p=>match p.1 with | [.int i,.int j]=>if i < 1000000∧-1000000 < i∧j < 1000000∧-1000000 < j then some (jk i (j - i).toNat,p.2) else none | _=>none:=rfl
@[simp] theorem Ea:loop bd a [] S=some (.nx S):=rfl
@[simp] theorem Lp:bC S=some ([],S):=rfl
@[simp] theorem Lq:aX g gu S=(g S).bind fun p=>(gu p.2).map fun q=>(.t p.1 :: q.1,q.2):=rfl
@[simp] theorem Lr:cY ge gu S=(ge S).bind fun p=>(gu p.2).map fun q=>(p.1 :: q.1,q.2):=rfl
@[simp] theorem IT:aL fm gu S=(gu S).bind fun p=>if(slotsOf p.1).Nodup∧bS p.1≤1 then(bV p.2 p.1).bind fun us=>(fm us).bind fun r=>(wb p.1 r.2 p.2).map fun S2=>(r.1,S2) else none:=rfl
@[simp] theorem E3:bV S []=some []:=rfl
@[simp] theorem Eb (u:U) (us:List U):bV S (u :: us)=(resolve S u).bind fun w=>(bV S us).map fun ws=>w :: ws:=rfl
@[simp] theorem IU:resolve S (.t d)=some (.t d):=rfl
@[simp] theorem IV:resolve S (.m o)=some (.b o):=rfl
@[simp] theorem IW (ns:List Int):resolve S (.s ns)=some (.s ns):=rfl
@[simp] theorem IX:resolve S (.v i)=match S[i]? with | some (some (.m o))=>some (.b o) | some (some (.b o))=>some (.b o) | _=>none:=rfl
@[simp] theorem Hq:slotsOf []=[]:=rfl
@[simp] theorem Ls (us:List U):slotsOf (.t d :: us)=slotsOf us:=rfl
@[simp] theorem Lu (us:List U):slotsOf (.m o :: us)=slotsOf us:=rfl
@[simp] theorem Lv (ns:List Int) (us:List U):slotsOf (.s ns :: us)=slotsOf us:=rfl
@[simp] theorem Lw (us:List U):slotsOf (.v i :: us)=i :: slotsOf us:=rfl
@[simp] theorem Hr:bS []=0:=rfl
@[simp] theorem Lx (us:List U):bS (.t d :: us)=bS us:=rfl
@[simp] theorem Ly (us:List U):bS (.m o :: us)=bS us+1:=rfl
@[simp] theorem Lz (ns:List Int) (us:List U):bS (.s ns :: us)=bS us:=rfl
@[simp] theorem LA (us:List U):bS (.v i :: us)=bS us:=rfl
@[simp] theorem Hs:wb [] [] S=some S:=rfl
@[simp] theorem LB (us:List U) (os:List MO):wb (.t d :: us) os S=wb us os S:=by cases os <;> rfl
@[simp] theorem LC (ns:List Int) (us:List U) (os:List MO):wb (.s ns :: us) os S=wb us os S:=by cases os <;> rfl
@[simp] theorem LD (us:List U) (os:List MO):wb (.m o :: us) (o' :: os) S=wb us os S:=rfl
@[simp] theorem LF (us:List U) (os:List MO):wb (.v i :: us) (o :: os) S=match S[i]? with | some (some (.m _))=>wb us os (S.set i (some (.m o))) | some (some (.b _))=>wb us os (S.set i (some (.b o))) | _=>none:=rfl
@[simp] theorem LG:fH i gb S=match S[i]? with | some (some _)=>(gb S).bind fun p=>(match p.2[i]? with | some (some u)=>(oG u p.1).map fun d=>(d,p.2) | _=>none) | _=>none:=rfl
@[simp] theorem LH:gr i S=match S[i]? with | some (some u)=>(uh u).map fun n=>(.int (n:Nat),S) | _=>none:=rfl
@[simp] theorem QV (h:List D→MO→Option (D×MO)):eM i h gA S=if CQ S i then(gA S).bind fun p=>o9 p.2 i (h p.1) else none:=rfl
@[simp] theorem LI (gk gv:GD):B0 i gk gv S=(gv S).bind fun p=>match p.2[i]? with | some (some _)=>(gk p.2).bind fun r=>(o9 r.2 i fun o=>(lR o r.1 p.1).map fun o'=>(.cg,o')).map fun z=>.nx z.2 | _=>none:=rfl
@[simp] theorem O0 (Ts:List String):rA Ts g S=(g S).bind fun p=>(cF Ts p.1).map fun b=>(.bl b,p.2):=rfl
@[simp] theorem Ec (ds:List D) (k:Int):oG (.t (.tup ds)) (.int k)=gG ds k:=rfl
@[simp] theorem Ed (ds:List D) (k:Int):oG (.t (.lst ds)) (.int k)=gG ds k:=rfl
@[simp] theorem Ef (ds:List D) (k:Int):oG (.m (.lst ds)) (.int k)=gG ds k:=rfl
@[simp] theorem Eg (ds:List D) (k:Int):oG (.b (.lst ds)) (.int k)=gG ds k:=rfl
@[simp] theorem E4 (ns:List Int) (k:Int):oG (.s ns) (.int k)=(gG ns k).map D.int:=rfl
@[simp] theorem IY (k:Int):keyOf (.int k)=some (.inl k):=rfl
@[simp] theorem IZ (k:Str):keyOf (.str k)=some (.inr k):=rfl
@[simp] theorem E5 (ds:List D):uh (.t (.tup ds))=some ds.length:=rfl
@[simp] theorem E6 (ds:List D):uh (.t (.lst ds))=some ds.length:=rfl
@[simp] theorem E7 (ds:List D):uh (.m (.lst ds))=some ds.length:=rfl
@[simp] theorem E8 (ds:List D):uh (.b (.lst ds))=some ds.length:=rfl
@[simp] theorem Ht (ns:List Int):uh (.s ns)=some ns.length:=rfl
@[simp] theorem O1 (C:Int→Int→Bool) (h:Int→Int→D) (x y:Int):zc C h [.int x,.int y]=if C x y then some (.t (h x y)) else none:=rfl
@[simp] theorem Hu (x y:Int):cD [.int x,.int y]=some (.t (.int (x+y))):=rfl
@[simp] theorem Hv (x y:Str):cD [.str x,.str y]=if x.length+y.length≤100000 then some (.t (.str (x++y))) else none:=rfl
@[simp] theorem Hw (x y:List D):cD [.tup x,.tup y]=if x.length+y.length≤100000 then some (.t (.tup (x++y))) else none:=rfl
@[simp] theorem Hx (x y:List D):cD [.lst x,.lst y]=if x.length+y.length≤100000 then some (.m (.lst (x++y))) else none:=rfl
@[simp] theorem LJ (x y:Int):sy [.int x,.int y]=if((decide (-(2 ^ 64) < x) && decide (x < 2 ^ 64)) || (decide (-(2 ^ 64) < y) && decide (y < 2 ^ 64))) then some (.t (.int (x * y))) else none:=rfl
@[simp] theorem LK (x:Int):BR [.int x]=some (.t (.int (-x))):=rfl
@[simp] theorem LL (ds:List D):d7 ds=if ds.length≤100000 then some (.t (.tup ds)) else none:=rfl
@[simp] theorem LM (ds:List D):fZ ds=if ds.length≤100000 then some (.m (.lst ds)) else none:=rfl
@[simp] theorem I0 (ds:List D) (k:Int):Ba [.tup ds,.int k]=(gG ds k).map .t:=rfl
@[simp] theorem Ja (ds:List D) (k:Int):Ba [.lst ds,.int k]=(gG ds k).map .t:=rfl
@[simp] theorem O2:D3 [d,e]=if j9 d≤40 then some (.t (.bl (m8 d e))) else none:=rfl
@[simp] theorem O3:EX [d,e]=if j9 d≤40 then some (.t (.bl (!m8 d e))) else none:=rfl
@[simp] theorem Jb (x y z:Int):CT [.int x,.int y,.int z]=some (.t (.int (if y < x then(if z < y then z else y) else if z < x then z else x))):=rfl
@[simp] theorem Jc (x y:Int):G1 [.int x,.int y]=some (.t (.int (if y > x then y else x))):=rfl
@[simp] theorem Hy (ds:List D):pM [.tup ds]=some (.t (.int ds.length)):=rfl
@[simp] theorem Hz (ds:List D):pM [.lst ds]=some (.t (.int ds.length)):=rfl
@[simp] theorem E9 (ds:List D):pS [.tup ds]=some (.m (.lst ds)):=rfl
@[simp] theorem Fb (ds:List D):pS [.lst ds]=some (.m (.lst ds)):=rfl
@[simp] theorem Eh (ds:List D):jq [.tup ds]=some (.t (.tup ds)):=rfl
@[simp] theorem Ei (ds:List D):jq [.lst ds]=some (.t (.tup ds)):=rfl
@[simp] theorem LN (ds:List D):vM [.lst ds]=(iR ds).map fun bs=>.t (.bl (bs.all id)):=rfl
@[simp] theorem LO (ds:List D):K0 [.lst ds]=(iR ds).map fun bs=>.t (.bl (bs.any id)):=rfl
@[simp] theorem B7:um [d]=if CV d then some (.t (.str (toPy d).shown)) else none:=rfl
@[simp] theorem Jd (x y:Str):m8 (.str x) (.str y)=(x == y):=by simp[m8]
@[simp] theorem Je (x y:Int):m8 (.int x) (.int y)=(x == y):=by simp[m8]
@[simp] theorem Jf (x:Str):j9 (.str x)=0:=by simp[j9]
@[simp] theorem Jg (x:Int):j9 (.int x)=0:=by simp[j9]
@[simp] theorem LP (h:MO→Option (D×MO)):o9 S i h=match S[i]? with | some (some (.m o))=>(h o).map fun r=>(r.1,S.set i (some (.m r.2))) | some (some (.b o))=>(h o).map fun r=>(r.1,S.set i (some (.b r.2))) | _=>none:=rfl
@[simp] theorem O4:CQ S i=match S[i]? with | some (some (.m (.lst _)))=>true | some (some (.b (.lst _)))=>true | _=>false:=rfl
@[simp] theorem Fc (kvs:List (Key×D)) (k:D):lR (.dct kvs) k d=(keyOf k).bind fun kk=>if kvs.length < 100000 then some (.dct (putD kvs kk d)) else none:=rfl
@[simp] theorem Fd (ds:List D) (k:Int):lR (.lst ds) (.int k) d=(xM ds.length k).map fun j=>.lst (ds.set j d):=rfl
@[simp] theorem HA (ds:List D):hAppend [d] (.lst ds)=if ds.length < 100000 then some (.cg,.lst (ds++[d])) else none:=rfl
@[simp] theorem Fe:aA [] S=some []:=by cases S <;> rfl
@[simp] theorem Jh (us:List U) (o2:MO):aA (.b o2 :: us) (some (.b o) :: S)=(aA us S).map fun os=>o :: os:=rfl
@[simp] theorem wV (us:List U) (x:Option U):aA (.t d :: us) (x :: S)=aA us S:=by cases x <;> rfl
end
structure lE where
 c:Int
 l:Int
 n:Int
noncomputable def iG (t:lE):List (Key×D):=[(.inr "cell",.int t.c),(.inr "left",.int t.l),(.inr "turn",.int t.n)]
noncomputable def Ej:List (Key×D)→Option lE
 | [(k1,.int c),(k2,.int l),(k3,.int n)]=>if k1= .inr "cell"∧k2= .inr "left"∧k3= .inr "turn" then some ⟨c,l,n⟩ else none
 | _=>none
@[simp] theorem LQ (t:lE):iS (iG t) (.inr "cell")=some (.int t.c):=by rfl
@[simp] theorem LR (t:lE):iS (iG t) (.inr "left")=some (.int t.l):=by rfl
@[simp] theorem LS (t:lE):iS (iG t) (.inr "turn")=some (.int t.n):=by rfl
@[simp] theorem Ji (t:lE) (x:Int):putD (iG t) (.inr "turn") (.int x)=iG {t with n:=x}:=by rfl
@[simp] theorem Jj (t:lE) (x:Int):putD (iG t) (.inr "left") (.int x)=iG {t with l:=x}:=by rfl
@[simp] theorem HB (t:lE):(iG t).length=3:=rfl
noncomputable def mixed (c n:Int):Int:=(((c % 2147483647+31 * (n+1) * (n+1)+1) * 48271) % 2147483629+7 * (n+1)) * 69621 % 2147483587 / 7
noncomputable def iA (t:lE) (m:Int):Int:=if 0 < t.l then t.l % m else mixed t.c t.n % m
noncomputable def cV (t:lE) (m:Int):lE:=if 0 < t.l then⟨t.c,t.l / m,t.n+1⟩ else⟨t.c,t.l,t.n+1⟩
end L2
end
section
set_option Elab.async false
set_option linter.all false
set_option maxRecDepth 100000
namespace L2
open PySem PySem.Spec PyProof.Rows
noncomputable def jR:GS:=
 (bg (pB (A9 (mH (qB (rA ["int"] (eF (ao 0))))) (qB (rA ["bool"] (eF (ao 0))))) (cL (eT (eC (.bl false)))) iM)
 (cL (eT (eQ (jX (qB (eF (eP BP (aa (eF (ao 1)) (aa (eF (ao 0)) aq))))) (qB (eF (eP BP (aa (eF (ao 0)) (aa (eF (ao 2)) aq))))))))))
noncomputable def lU:FM
 | [.t d,.t (.int l),.t (.int m)]=>some (.t (.bl (dP d l m)),[])
 | _=>none
theorem whole_run:∀us r,lU us=some r→aH 3 jR us=some r:=by
 intro us r h
 unfold lU at h
 split at h
 ·rename_i d l m
  cases h
  cases d <;> simp[aH,jR,dP,cF,gf,sr,qY]
  rename_i x
  by_cases h1:l≤x <;> simp[h1]
 ·cases h
noncomputable def jS:GS:=
 (cL (eT (eQ (jX (qB (rA ["tuple"] (eF (ao 0)))) (jX (qB (eF (eP BP (aa (eF (ao 1)) (aa (gr 0) aq))))) (qB (eF (eP BP (aa (gr 0) (aa (eF (ao 2)) aq))))))))))
noncomputable def iU:FM
 | [.t d,.t (.int l),.t (.int m)]=>some (.t (.bl (dQ d l m)),[])
 | _=>none
theorem x8:∀us r,iU us=some r→aH 3 jS us=some r:=by
 intro us r h
 unfold iU at h
 split at h
 ·rename_i d l m
  cases h
  cases d <;> simp[aH,jS,dQ,cF,gf,dh]
  rename_i x
  by_cases h1:l≤(x.length:Int) <;> simp[h1]
 ·cases h
end L2
end
section
set_option Elab.async false
set_option linter.all false
set_option maxRecDepth 100000
namespace Sw
open PySem PySem.Spec PyProof.Rows L2
noncomputable def cA (T:List (Str×Int)):D:=.tup (T.map fun p=>.tup [.str p.1,.int p.2])
noncomputable def dO (kr:FM) (cZ:FM):GS:=
 (bg (bR 5 (eT (eM 1 DZ (aa (eF (aL cZ (cY (ao 0) (aX (gr 1) bC)))) aq))))
 (bg (bR 6 (eP CT (aa (eC (.int 5)) (aa (eF (eP cD (aa (eF (eP o7 (aa (eF (ao 3)) (aa (eC (.int 4)) aq)))) (aa (eF (ao 4)) aq)))) (aa (eF (aL cZ (cY (ao 0) (aX (eC (.int 6)) bC)))) aq)))))
 (bg (bR 2 (eP cD (aa (eF (ao 2)) (aa (eF (eP d7 (aa (eF (eP d7 (aa (eF (ao 5)) (aa (eF (ao 6)) aq)))) aq))) aq))))
 (bR 3 (eP o7 (aa (eF (eP o7 (aa (eF (ao 3)) (aa (eF (ao 6)) aq)))) (aa (eC (.int 1)) aq)))))))
noncomputable def eV (kr:FM) (cZ:FM):GS:=
 (bg (bR 1 (aL kr bC))
 (bg (bR 2 (eP d7 aq))
 (bg (bR 3 (eT (eC (.int 12))))
 (bg (mQ (bName 4) (gn (aa (eF (eP Ba (aa (eF (eP fZ (aa (eC (.int 1)) (aa (eC (.int 2)) (aa (eC (.int 2)) (aa (eC (.int 3)) (aa (eC (.int 4)) aq))))))) (aa (eF (aL cZ (cY (ao 0) (aX (eC (.int 5)) bC)))) aq)))) aq)) (dO kr cZ))
 (cL (ao 2))))))
noncomputable def upTo (n:Nat):List Int:=(List.range n).map fun(k:Nat)=>(k:Int)
theorem uv (n:Nat):jk 0 n=(upTo n).map D.int:=by
 unfold jk upTo
 simp
end Sw
end
section
set_option Elab.async false
set_option linter.all false
set_option maxRecDepth 100000
namespace Sw
open PySem PySem.Spec PyProof.Rows L2
noncomputable def Ek:D→Option (Str×Int)
 | .tup [.str z,.int i]=>some (z,i)
 | _=>none
noncomputable def uw:List D→Option (List (Str×Int))
 | []=>some []
 | d :: ds=>(Ek d).bind fun p=>(uw ds).map fun ps=>p :: ps
noncomputable def tabOf:D→Option (List (Str×Int))
 | .tup ds=>uw ds
 | _=>none
@[simp] theorem x9 (T:List (Str×Int)):uw (T.map fun p=>.tup [.str p.1,.int p.2])=some T:=by
 induction T with
 | nil=>rfl
 | cons p T ih=>simp[uw,Ek,ih]
@[simp] theorem B8 (T:List (Str×Int)):tabOf (cA T)=some T:=x9 T
theorem pX:∀{ds:List D}{T:List (Str×Int)},uw ds=some T→ds=T.map fun p=>.tup [.str p.1,.int p.2]
  | [],T,h=>by cases h;rfl
  | d :: ds, T, h => by
    obtain⟨p,h1,h⟩:=ak h
    obtain⟨ps,h2,h⟩:=au h
    subst h
    unfold Ek at h1
    split at h1
    · cases h1
      rw[pX h2]
      rfl
    · cases h1
theorem vQ {d:D}{T:List (Str×Int)}(h:tabOf d=some T):d=cA T:=by
 unfold tabOf at h
 split at h
 ·rw[pX h];rfl
 ·cases h
end Sw
end
section
set_option Elab.async false
set_option linter.all false
set_option maxRecDepth 100000
namespace Sw
open PySem PySem.Spec PyProof.Rows L2
noncomputable def LU:List D:=[.cg,.bl true,.bl false,.int 0,.int (-1),.int 6,.int 10000000000000000000,.str "",.str "A",.str "a.b",.str "a1",.str "ninesigns",.tup [],.lst [],.tup [.str "a"],.lst [.str "a",.int 0],.tup [.str "a",.int 0]]
noncomputable def B9 (t:lE):D:=LU.getD (iA t 17).toNat .cg
noncomputable def sI (t:lE) (d:D):D×lE:=
 match d with
 | .tup ds=>if iA t 8 < 5 then
   (([.tup (cutD ds none (some (iA (cV t 8) (ds.length+1)))),.tup (ds++cutD ds (some (iA (cV t 8) (ds.length+1))) none),.tup (cutD ds none (some (iA (cV t 8) (ds.length+1)))++cutD ds (some (iA (cV t 8) (ds.length+1)+1)) none),.lst ds,.tup (ds++[.tup ds])]:List D).getD (iA t 8).toNat .cg,cV (cV t 8) (ds.length+1))
  else(B9 (cV t 8),cV (cV t 8) 17)
 | .int i=>if dP (.int i) 0 100000000000000000000=true∧iA t 8 < 5 then(([.int (i+1),.int (i - 1),.int 5,.int 9,.int 10]:List D).getD (iA t 8).toNat .cg,cV t 8) else(B9 (cV t 8),cV (cV t 8) 17)
 | .str z=>if iA t 8 < 6 then(([.str (z++("a":Str)),.str (Txt.slice z (some 1) none),.str (z++("A":Str)),.str "x",.str "now",.str "less"]:List D).getD (iA t 8).toNat .cg,cV t 8) else(B9 (cV t 8),cV (cV t 8) 17)
 | _=>(B9 (cV t 8),cV (cV t 8) 17)
noncomputable def wW:Nat→lE→D→D×lE
  | k + 1, t, .tup ds => if ds.length = 0 then sI t (.tup ds) else if 0 < iA t 4 then
      (.tup (cutD ds none (some (iA (cV t 4) ds.length))++[(wW k (cV (cV t 4) ds.length) (ds.getD (iA (cV t 4) ds.length).toNat .cg)).1]++cutD ds (some (iA (cV t 4) ds.length+1)) none),(wW k (cV (cV t 4) ds.length) (ds.getD (iA (cV t 4) ds.length).toNat .cg)).2)
    else sI (cV t 4) (.tup ds)
  | _,t,d=>sI t d
noncomputable def bx (cZ:FM) (aU:FM) (pY:FM) (ya:FM):GS:=
 (bg (pB (jX (qB (rA ["tuple"] (eF (ao 1)))) (jX (qB (eF (eP ET (aa (gr 1) (aa (eC (.int 0)) aq))))) (jX (qB (eF (eP ET (aa (eF (ao 2)) (aa (eC (.int 0)) aq))))) (qB (eF (eP ET (aa (eF (aL cZ (cY (ao 0) (aX (eC (.int 4)) bC)))) (aa (eC (.int 0)) aq)))))))) (bg (bR 3 (aL cZ (cY (ao 0) (aX (gr 1) bC))))
 (cL (eP cD (aa (eF (eP cD (aa (eF (qx (eF (ao 1)) none (some (eF (ao 3))))) (aa (eF (eP d7 (aa (eF (aL aU (cY (ao 0) (aX (fH 1 (eF (ao 3))) (aX (eF (eP o7 (aa (eF (ao 2)) (aa (eC (.int 1)) aq)))) bC))))) aq))) aq)))) (aa (eF (qx (eF (ao 1)) (some (eF (eP cD (aa (eF (ao 3)) (aa (eC (.int 1)) aq))))) none)) aq))))) iM)
 (bg (bR 4 (aL cZ (cY (ao 0) (aX (eC (.int 8)) bC))))
 (bg (pB (jX (qB (rA ["tuple"] (eF (ao 1)))) (qB (eF (eP zd (aa (eF (ao 4)) (aa (eC (.int 5)) aq)))))) (bg (bR 3 (aL cZ (cY (ao 0) (aX (eF (eP cD (aa (gr 1) (aa (eC (.int 1)) aq)))) bC))))
 (cL (eP Ba (aa (eF (eP fZ (aa (eF (qx (eF (ao 1)) none (some (eF (ao 3))))) (aa (eF (eP cD (aa (eF (ao 1)) (aa (eF (qx (eF (ao 1)) (some (eF (ao 3))) none)) aq)))) (aa (eF (eP cD (aa (eF (qx (eF (ao 1)) none (some (eF (ao 3))))) (aa (eF (qx (eF (ao 1)) (some (eF (eP cD (aa (eF (ao 3)) (aa (eC (.int 1)) aq))))) none)) aq)))) (aa (eF (eP pS (aa (eF (ao 1)) aq))) (aa (eF (eP cD (aa (eF (ao 1)) (aa (eF (eP d7 (aa (eF (ao 1)) aq))) aq)))) aq))))))) (aa (eF (ao 4)) aq))))) iM)
 (bg (pB (jX (qB (eF (aL pY (aX (eF (ao 1)) (aX (eF (eP vK (aa (eC (.int 10)) (aa (eC (.int 20)) aq)))) bC))))) (qB (eF (eP zd (aa (eF (ao 4)) (aa (eC (.int 5)) aq)))))) (cL (eP Ba (aa (eF (eP fZ (aa (eF (eP cD (aa (eF (ao 1)) (aa (eC (.int 1)) aq)))) (aa (eF (eP o7 (aa (eF (ao 1)) (aa (eC (.int 1)) aq)))) (aa (eC (.int 5)) (aa (eC (.int 9)) (aa (eC (.int 10)) aq))))))) (aa (eF (ao 4)) aq)))) iM)
 (bg (pB (jX (qB (rA ["str"] (eF (ao 1)))) (qB (eF (eP zd (aa (eF (ao 4)) (aa (eC (.int 6)) aq)))))) (cL (eP Ba (aa (eF (eP fZ (aa (eF (eP cD (aa (eF (ao 1)) (aa (eC (.str "a")) aq)))) (aa (eF (qx (eF (ao 1)) (some (eC (.int 1))) none)) (aa (eF (eP cD (aa (eF (ao 1)) (aa (eC (.str "A")) aq)))) (aa (eC (.str "x")) (aa (eC (.str "now")) (aa (eC (.str "less")) aq)))))))) (aa (eF (ao 4)) aq)))) iM)
 (cL (aL ya (cY (ao 0) bC))))))))
open Classical in
noncomputable def LV (j:Nat):FM
 | [.b (.dct kvs),.t d,.t (.int k)]=>(Ej kvs).bind fun t=>if 0≤k∧k < j∧je 5000 d∧0≤t.n∧t.n+2 * k < 600000 then some (.t (wW k.toNat t d).1,[.dct (iG (wW k.toNat t d).2)]) else none
 | _=>none
@[simp] theorem HC (g:GD) (lo hi:Option GD) (S:SS):qx g lo hi S=(g S).bind fun p=>(kq lo p.2).bind fun l=>(kq hi l.2).bind fun h=>(B3 p.1 l.1 h.1).map fun u=>(u,h.2):=rfl
@[simp] theorem LW (S:SS):kq none S=some (none,S):=rfl
@[simp] theorem LX (g:GD) (S:SS):kq (some g) S=(g S).bind fun p=>match p.1 with | .int i=>some (some i,p.2) | _=>none:=rfl
@[simp] theorem Ca (ds:List D) (lo hi:Option Int):B3 (.tup ds) lo hi=some (.t (.tup (cutD ds lo hi))):=rfl
@[simp] theorem Cb (ds:List D) (lo hi:Option Int):B3 (.lst ds) lo hi=some (.m (.lst (cutD ds lo hi))):=rfl
@[simp] theorem Jk (z:Str) (lo hi:Option Int):B3 (.str z) lo hi=if z.length≤100000 then some (.t (.str (Txt.slice z lo hi))) else none:=rfl
theorem Fits.mem {n:Nat}:∀{ds:List D}{d:D},Fits n ds→d∈ds→je n d
 | _ :: _,_,h,m=>by
  rcases List.mem_cons.mp m with rfl | m
  ·exact h.1
  ·exact Fits.mem h.2 m
end Sw
end
section
set_option Elab.async false
set_option linter.all false
set_option maxRecDepth 100000
namespace Sw
open PySem PySem.Spec PyProof.Rows L2
theorem Ax:∀(ts:List D) (S:SS),S.length=ts.length→aA (ts.map U.t) S=some []
 | [],S,_=>by cases S <;> rfl
 | d :: ts,[],h=>by cases h
 | d :: ts,x :: S,h=>by
  show aA (U.t d :: ts.map U.t) (x :: S)=_
  rw[wV]
  exact Ax ts S (by simpa using h)
theorem C2 (S:SS):∀ts:List D,bV S (ts.map U.t)=some (ts.map U.t)
 | []=>rfl
 | d :: ts=>by
  show(some (U.t d)).bind _=_
  rw[C2 S ts]
  rfl
theorem HD:∀ts:List D,slotsOf (ts.map U.t)=[]
 | []=>rfl
 | d :: ts=>HD ts
theorem HE:∀ts:List D,bS (ts.map U.t)=0
 | []=>rfl
 | d :: ts=>HE ts
theorem El (S:SS):∀ts:List D,wb (ts.map U.t) [] S=some S
 | []=>rfl
 | d :: ts=>El S ts
theorem pD {cap:List Nat}{q:GT}{g:GD}{S:SS}{ts:List D}(hc:g8 S cap=some (ts.map U.t)) (p:D→Bool) (f:D→D):∀(ds acc:List D),
    (∀d∈ds,q (some (.t d) :: ts.map fun x=>some (.t x))=some (p d,some (.t d) :: ts.map fun x=>some (.t x)))→(∀d∈ds,p d=true→g (some (.t d) :: ts.map fun x=>some (.t x))=some (f d,some (.t d) :: ts.map fun x=>some (.t x)))→
    d8 cap q g ds S acc=some (acc++(ds.filter p).map f,S)
  | [],acc,_,_=>by simp[d8]
  | d :: ds, acc, hq, hg => by
    have em:(ts.map U.t).map some=ts.map fun x=>some (U.t x):=by simp
    have eo:aA (.t d :: ts.map U.t) (some (.t d) :: ts.map fun x=>some (.t x))=some []:=by rw[wV];exact Ax ts _ (by simp)
    have q0:=hq d (List.mem_cons_self)
    unfold d8
    rw[hc]
    simp only[Option.bind_some]
    rw[if_pos ⟨by rw[HD];exact List.nodup_nil,by rw[HE];exact Nat.zero_le _⟩,C2]
    simp only[Option.bind_some]
    rw[em,q0]
    simp only[Option.bind_some]
    by_cases hp:p d=true
    · rw[if_pos hp,hg d List.mem_cons_self hp]
      simp only[Option.bind_some]
      rw[eo]
      simp only[Option.bind_some]
      rw[El]
      simp only[Option.bind_some]
      rw[pD hc p f ds (acc++[f d]) (fun e he=>hq e (List.mem_cons_of_mem _ he)) (fun e he=>hg e (List.mem_cons_of_mem _ he)),List.filter_cons_of_pos hp]
      simp
    · rw[if_neg hp,eo]
      simp only[Option.bind_some]
      rw[El]
      simp only[Option.bind_some]
      rw[pD hc p f ds acc (fun e he=>hq e (List.mem_cons_of_mem _ he)) (fun e he=>hg e (List.mem_cons_of_mem _ he)),List.filter_cons_of_neg hp]
theorem jA {cap:List Nat}{g:GD}{S:SS}{ts:List D}(hc:g8 S cap=some (ts.map U.t)) (f:D→D) (ds acc:List D) (hg:∀d∈ds,g (some (.t d) :: ts.map fun x=>some (.t x))=some (f d,some (.t d) :: ts.map fun x=>some (.t x))):
  d8 cap gq g ds S acc=some (acc++ds.map f,S):=by
 rw[pD hc (fun _=>true) f ds acc (fun _ _=>rfl) (fun d hd _=>hg d hd),List.filter_eq_self.mpr (fun _ _=>rfl)]
@[simp] theorem Cc (cap:List Nat) (gi:GI) (q:GT) (g:GD) (S:SS):iN cap gi q g S=(gi S).bind fun p=>if p.1.length≤100000 then(d8 cap q g p.1 p.2 []).map fun r=>(.m (.lst r.1),r.2) else none:=rfl
theorem jT (g:GD) (S:SS):o8 g S=(g S).bind fun p=>match p.1 with | .tup ds=>some (ds,p.2) | .lst ds=>some (ds,p.2) | .str z=>some (z.cps.toList.map fun c=>.str ⟨#[c]⟩,p.2) | _=>none:=rfl
theorem jB {α:Type}(f:α→Bool):∀ds:List α,iR (ds.map fun d=>.bl (f d))=some (ds.map f)
 | []=>rfl
 | d :: ds=>by simp[iR,jB f ds]
noncomputable def iB (p:Str×Int):D:=.tup [.str p.1,.int p.2]
end Sw
end
section
set_option Elab.async false
set_option linter.all false
set_option maxRecDepth 100000
namespace Sw
open PySem PySem.Spec PyProof.Rows L2
theorem yc {x:D}{z:Str}(h:m8 (.str z) x=true):x= .str z:=by
 cases x <;> simp[m8] at h
 rw[h]
end Sw
end
section
set_option Elab.async false
set_option linter.all false
set_option maxRecDepth 100000
namespace Sw
open PySem PySem.Spec PyProof.Rows L2
mutual
noncomputable def Sane:D→Prop
 | .int i=>i.natAbs < 10 ^ 30
 | .str z=>∀c∈z.cps.toList,c < 16 ^ 8
 | .tup ds=>gF ds
 | .lst ds=>gF ds
 | .cg=>True
 | .bl _=>True
noncomputable def gF:List D→Prop
 | []=>True
 | d :: ds=>Sane d∧gF ds
end
mutual
noncomputable def wD:D→Nat
 | .cg=>6
 | .bl _=>6
 | .int _=>40
 | .str z=>10 * z.length+2
 | .tup ds=>LY ds+4
 | .lst ds=>LY ds+4
noncomputable def LY:List D→Nat
 | []=>0
 | d :: ds=>wD d+2+LY ds
end
theorem gF.append:∀{as bs:List D},gF as→gF bs→gF (as++bs)
 | [],_,_,h=>h
 | _ :: _,_,h,k=>⟨h.1,gF.append h.2 k⟩
theorem gF.mem:∀{ds:List D}{d:D},gF ds→d∈ds→Sane d
 | _ :: _,_,h,m=>by
  rcases List.mem_cons.mp m with rfl | m
  ·exact h.1
  ·exact gF.mem h.2 m
theorem gF.of:∀{ds:List D},(∀d∈ds,Sane d)→gF ds
 | [],_=>True.intro
 | d :: ds,h=>⟨h d List.mem_cons_self,gF.of fun e he=>h e (List.mem_cons_of_mem _ he)⟩
theorem gF.cut {ds:List D}(h:gF ds) (lo hi:Option Int):gF (cutD ds lo hi):=gF.of fun d hd=>h.mem (List.mem_of_mem_drop (List.mem_of_mem_take hd))
structure Good (n k:Nat) (d:D):Prop where
 LZ:Sane d
 w:wD d≤n
 dep:j9 d≤k
theorem Good.mono {n k n' k':Nat}{d:D}(h:Good n k d) (a:n≤n') (b:k≤k'):Good n' k' d:=⟨h.LZ,Nat.le_trans h.w a,Nat.le_trans h.dep b⟩
end Sw
end
section
set_option Elab.async false
set_option linter.all false
set_option maxRecDepth 100000
namespace Sw
open PySem PySem.Spec PyProof.Rows L2
structure Ay (z:Str):Prop where
 len:z.length≤8
 Td:∀c∈z.cps.toList,c < 16 ^ 8
structure iy (p:Str×Int):Prop where
 nm:Ay p.1
 lo:0≤p.2
 hi:p.2≤10
end Sw
end
section
set_option Elab.async false
set_option linter.all false
set_option maxRecDepth 100000
namespace Sw
open PySem PySem.Spec PyProof.Rows L2
end Sw
end
section
set_option Elab.async false
set_option linter.all false
set_option maxRecDepth 100000
namespace Sw
open PySem PySem.Spec PyProof.Rows L2
noncomputable def vR (n:Nat):FM
 | [.s ns]=>if ns.length≤n then some (.t (.bl true),[]) else none
 | _=>none
theorem Em {K:PySem.W.Frag}{H:Hp}{a:Addr}{ns:List Int}{n:Nat}{E:XK}(hl:ns.length≤n) (hO:BE H) (hS:lB K H a (ns.map V.int)):spT K 1 (vR n) [.ref a] H (fun v _=>v= .bl true) E:=by
 have sc:BL K H a ns:=by
  rcases hS with(h | h) | h
  ·rcases hO a with z | ⟨o,xs,z⟩
   ·rw[h] at z;cases z
   ·rw[h] at z;cases z
  ·exact .inl h
  ·exact .inr h
 exact⟨rfl,fun _=>none,[.s ns],.t (.bl true),[],(fun b o z=>by cases z),.cons ⟨a,rfl,sc⟩ .nil,List.nodup_nil,by simp[vR,hl],fun v F' H' _ r=>j4 r⟩
end Sw
end
section
set_option Elab.async false
set_option linter.all false
set_option maxRecDepth 100000
namespace L2
open PySem PySem.Spec PyProof.Rows
section
variable (S:SS) (d:D) (i:Nat) (g ga gb gc:GD) (gA:GA)
@[simp] theorem L0 (f:Int→Int→Int):K9 f i g S=match S[i]? with
 | some (some (.t (.int n)))=>(g S).bind fun p=>match p.1 with
  | .int m=>(lC i (.t (.int (f n m))) p.2).map .nx
  | _=>none
 | _=>none:=rfl
@[simp] theorem L1:K8 [d,.cg]=some (.t (.bl (CW d))):=rfl
@[simp] theorem Jl (k:Bool):B6 [.bl k]=some (.t (.int (if k then 1 else 0))):=rfl
@[simp] theorem Az (ds:List D) (k:Int):uq [.lst ds,.int k]=if 0≤k∧k.toNat≤100000∧ds.length * k.toNat≤100000 then some (.m (.lst (List.replicate k.toNat ds).flatten)) else none:=rfl
@[simp] theorem Ff (es ds:List D):jQ [.lst es] (.lst ds)=if ds.length+es.length≤100000 then some (.cg,.lst (ds++es)) else none:=rfl
@[simp] theorem Jm:G9 gA S=(gA S).bind fun p=>match p.1 with
 | [d]=>(uu d).map fun q=>(CY q.2,p.2)
 | _=>none:=rfl
@[simp] theorem Jo:Hf gA S=(gA S).bind fun p=>match p.1 with
 | [d,e]=>(uu d).bind fun q=>(uu e).map fun r=>(List.zipWith (fun a b=>.tup [a,b]) q.2 r.2,p.2)
 | _=>none:=rfl
@[simp] theorem HF (ds:List D):uu (.lst ds)=some (true,ds):=rfl
@[simp] theorem HG (ds:List D):uu (.tup ds)=some (false,ds):=rfl
theorem ux (cap:List Nat) (gi:GI) (q:GT):iN cap gi q g S=(gi S).bind fun p=>if p.1.length≤100000 then(d8 cap q g p.1 p.2 []).map fun r=>(.m (.lst r.1),r.2) else none:=rfl
@[simp] theorem Jp (x y:Int):wU [.int x,.int y]=some (.t (.int (if y < x then y else x))):=rfl
end
end L2
namespace Sq
open PySem PySem.Spec PyProof.Rows L2 Sw
theorem mW {bd:GB}{body:GS}:∀(ds:List D) (I:List D→SS→Prop) (S:SS),I ds S→(∀d r S,I (d :: r) S→∃S1 S2,bd d S=some S1∧body S1=some (.nx S2)∧I r S2)→∃S',loop bd body ds S=some (.nx S')∧I [] S'
 | [],I,S,h,_=>⟨S,rfl,h⟩
 | d :: ds,I,S,h,k=>by
  obtain⟨S1,S2,e1,e2,h2⟩:=k d ds S h
  obtain⟨S',e,h'⟩:=mW ds I S2 h2 k
  refine⟨S',?_,h'⟩
  show((bd d S).bind fun S1=>(body S1).bind _)=_
  rw[e1,Option.bind_some,e2,Option.bind_some]
  exact e
theorem vU (cap : List Nat) (q : GT) (g : GD) (d : D) (ds : List D) (S : SS) (acc : List D) : d8 cap q g (d :: ds) S acc = (d8 cap q g [d] S acc).bind fun r => d8 cap q g ds r.2 r.1 := by
  simp only[d8]
  cases g8 S cap with
  | none=>rfl
  | some us =>
    simp only[Option.bind_some]
    split
    · cases bV S us with
      | none=>rfl
      | some ws =>
        simp only[Option.bind_some]
        cases q (some (.t d) :: ws.map some) with
        | none=>rfl
        | some p=>
          simp only[Option.bind_some]
          split
          · cases g p.2 with
            | none=>rfl
            | some r=>
              simp only[Option.bind_some]
              cases aA (.t d :: ws) r.2 with
              | none=>rfl
              | some outs=>
                simp only[Option.bind_some]
                cases wb us outs S with
                | none=>rfl
                | some S'=>rfl
          · cases aA (.t d :: ws) p.2 with
            | none=>rfl
            | some outs=>
              simp only[Option.bind_some]
              cases wb us outs S with
              | none=>rfl
              | some S'=>rfl
    · rfl
theorem sJ {cap:List Nat}{g:GD}:∀(ds:List D) (I:List D→List D→SS→Prop) (S:SS) (acc:List D),I ds acc S→(∀d r acc S,I (d :: r) acc S→∃acc' S',d8 cap gq g [d] S acc=some (acc',S')∧I r acc' S')→∃acc' S',d8 cap gq g ds S acc=some (acc',S')∧I [] acc' S'
 | [],I,S,acc,h,_=>⟨acc,S,rfl,h⟩
 | d :: ds,I,S,acc,h,k=>by
  obtain⟨a1,S1,e1,h1⟩:=k d ds acc S h
  obtain⟨a2,S2,e2,h2⟩:=sJ ds I S1 a1 h1 k
  exact⟨a2,S2,by rw[vU,e1];exact e2,h2⟩
theorem En {α:Type}{l:List α}{i:Int}{x:α}(h0:0≤i) (h:l[i.toNat]? =some x):gG l i=some x:=by
 have hl:=(List.getElem?_eq_some_iff.mp h).1
 unfold gG xM
 rw[if_pos h0,if_pos (by omega)]
 exact h
theorem lV {α:Type}{l:List α}{i:Int}(h0:0≤i) (h1:i < l.length):∃x,gG l i=some x∧l[i.toNat]? =some x:=by
 have h:i.toNat < l.length:=by omega
 exact⟨l[i.toNat],En h0 (List.getElem?_eq_getElem h),List.getElem?_eq_getElem h⟩
theorem rB {gA:GA}{S S':SS}{j:Int}(h:gA S=some ([.int j],S')) (h1:j < 1000000) (h2:-1000000 < j):gn gA S=some (jk 0 j.toNat,S'):=by
 unfold gn
 rw[h]
 simp only[Option.bind_some]
 rw[if_pos ⟨h1,h2⟩]
theorem Eo (i n:Nat) (j:Int) (S:SS) (h:S[i]? =some (some (.t (.int j)))) (hj:j.toNat=n) (h1:j < 1000000) (h2:-1000000 < j):gn (aa (eF (ao i)) aq) S=some (jk 0 n,S):=by
 have e:(aa (eF (ao i)) aq) S=some ([.int j],S):=by simp[h]
 rw[rB e h1 h2,hj]
theorem Ep (n:Nat):(-1000000:Int) < n:=Int.lt_of_lt_of_le (by decide) (Int.natCast_nonneg n)
theorem AA (i n:Nat) (S:SS) (h:S[i]? =some (some (.t (.int n)))) (hn:n < 1000000):gn (aa (eF (ao i)) aq) S=some (jk 0 n,S):=
 Eo i n n S h (Int.toNat_natCast n) (Int.ofNat_lt.mpr hn) (Ep n)
theorem Er (ds:List D) (n:Nat) (k:Int) (hk:k.toNat=n) (h:ds.length * n≤100000) (h1:0≤k) (h2:n≤100000):uq [.lst ds,.int k]=some (.m (.lst (List.replicate n ds).flatten)):=by
 subst hk
 rw[Az,if_pos ⟨h1,h2,h⟩]
theorem AB (ds:List D) (n:Nat) (h:ds.length * n≤100000) (hn:n≤100000):uq [.lst ds,.int n]=some (.m (.lst (List.replicate n ds).flatten)):=
 Er ds n n (Int.toNat_natCast n) h (Int.natCast_nonneg n) hn
theorem wX (x:D):∀n:Nat,(List.replicate n [x]).flatten=List.replicate n x
 | 0=>rfl
 | n+1=>by rw[List.replicate_succ,List.flatten_cons,wX x n];rfl
theorem AD (x:D) (n:Nat) (hn:n≤100000):uq [.lst [x],.int n]=some (.m (.lst (List.replicate n x))):=by
 rw[AB [x] n (by rw[List.length_singleton,Nat.one_mul];exact hn) hn,wX]
noncomputable def iV:GS:=
 (bg (bR 2 (eP cD (aa (eF (eP cD (aa (eF (eP sy (aa (eF (eP cD (aa (eF (eP qu (aa (eF (ao 0)) (aa (eF (eP vK (aa (eC (.int 10)) (aa (eC (.int 15)) aq)))) aq)))) (aa (eC (.int 1)) aq)))) (aa (eC (.int 48271)) aq)))) (aa (eF (eP sy (aa (eF (eP sy (aa (eF (ao 1)) (aa (eF (ao 1)) aq)))) (aa (eC (.int 16807)) aq)))) aq)))) (aa (eF (eP sy (aa (eF (ao 1)) (aa (eC (.int 7919)) aq)))) aq))))
 (cL (eP qu (aa (eF (eP sy (aa (eF (eP qu (aa (eF (ao 2)) (aa (eC (.int 2147483647)) aq)))) (aa (eC (.int 69621)) aq)))) (aa (eC (.int 2147483629)) aq)))))
noncomputable def uy:FM:=aH 3 iV
theorem Cd:∀us r,uy us=some r→aH 3 iV us=some r:=fun _ _ h=>h
theorem AE (c k:Int) (h0:0≤k) (h1:k < 1000000):∃v,uy [.t (.int c),.t (.int k)]=some (.t (.int v),[])∧0≤v∧v < 2147483629:=by
 refine⟨(((c % 10 ^ 15+1) * 48271+k * k * 16807+k * 7919) % 2147483647 * 69621) % 2147483629,?_,Int.emod_nonneg _ (by decide),Int.emod_lt_of_pos _ (by decide)⟩
 have a1:-18446744073709551616 < k:=by omega
 have a2:k < 18446744073709551616:=by omega
 simp[uy,aH,iV,aA,a1,a2]
noncomputable abbrev fd (c i l:Int):MO:=.lst [.int c,.int i,.int l]
noncomputable def eu (dj:FM):GS:=
 (bg (bR 2 (eP cD (aa (eF (eP sy (aa (eC (.int 7919)) (aa (eF (ao 1)) aq)))) (aa (eC (.int 1)) aq))))
 (bg (pB (qB (eF (eP zd (aa (eF (ao 1)) (aa (gr 0) aq))))) (bR 2 (eT (fH 0 (eF (ao 1))))) (pB (qB (eF (eP ET (aa (gr 0) (aa (eC (.int 0)) aq))))) (bR 2 (aL dj (aX (fH 0 (eF (eP qu (aa (eF (ao 1)) (aa (gr 0) aq))))) (aX (eF (ao 1)) bC)))) iM))
 (cL (eP fZ (aa (eF (ao 2)) (aa (eC (.int 0)) (aa (eF (eP sy (aa (eF (eP o7 (aa (eF (ao 2)) (aa (eF (eP vK (aa (eC (.int 10)) (aa (eC (.int 18)) aq)))) aq)))) (aa (eF (eP B6 (aa (eF (eP OT (aa (eF (ao 2)) (aa (eF (eP vK (aa (eC (.int 10)) (aa (eC (.int 18)) aq)))) aq)))) aq))) aq)))) aq)))))))
noncomputable def oH:FM:=aH 3 (eu uy)
theorem AF:∀us r,oH us=some r→aH 3 (eu uy) us=some r:=fun _ _ h=>h
theorem wY {ns:List Int}{k:Int}(h0:0≤k) (h1:k < 1000) (hn:ns.length < 1000):∃c l,oH [.s ns,.t (.int k)]=some (.m (fd c 0 l),[]):=by
 have a1:-18446744073709551616 < k:=by omega
 have a2:k < 18446744073709551616:=by omega
 by_cases hk:k < ns.length
 ·obtain⟨x,hx,_⟩:=lV (l:=ns) h0 hk
  refine⟨x,(x - 10 ^ 18) * (if decide (10 ^ 18≤x)=true then 1 else 0),?_⟩
  have e:gG ns k=some x:=hx
  by_cases hc:(1000000000000000000:Int)≤x <;> simp[oH,aH,eu,aA,a1,a2,hk,e,hc]
 ·by_cases hp:0 < ns.length
  ·have QW:(0:Int) < ns.length:=by omega
   have hne:(ns.length:Int)≠0:=by omega
   obtain⟨x,hx,_⟩:=lV (l:=ns) (i:=k % ns.length) (Int.emod_nonneg _ hne) (Int.emod_lt_of_pos _ QW)
   obtain⟨v,hv,v0,v1⟩:=AE x k h0 (by omega)
   have hc:¬(1000000000000000000:Int)≤v:=by omega
   refine⟨v,0,?_⟩
   simp[oH,aH,eu,aA,a1,a2,hk,hp,hx,hv,hc]
  ·have hc:¬(1000000000000000000:Int)≤7919 * k+1:=by omega
   refine⟨7919 * k+1,0,?_⟩
   simp[oH,aH,eu,aA,a1,a2,hk,hp,hc]
noncomputable def fT (dj:FM):GS:=
 (bg (B0 0 (eC (.int 1)) (eF (eP cD (aa (fH 0 (eC (.int 1))) (aa (eC (.int 1)) aq)))))
 (bg (pB (qB (eF (eP ET (aa (fH 0 (eC (.int 2))) (aa (eC (.int 0)) aq))))) (bg (bR 2 (eP qu (aa (fH 0 (eC (.int 2))) (aa (eF (ao 1)) aq))))
 (bg (B0 0 (eC (.int 2)) (eF (eP DU (aa (fH 0 (eC (.int 2))) (aa (eF (ao 1)) aq)))))
 (cL (ao 2)))) iM)
 (cL (eP qu (aa (eF (eP DU (aa (eF (aL dj (aX (fH 0 (eC (.int 0))) (aX (fH 0 (eC (.int 1))) bC)))) (aa (eC (.int 7)) aq)))) (aa (eF (ao 1)) aq))))))
noncomputable def dm:FM:=aH 3 (fT uy)
theorem AG:∀us r,dm us=some r→aH 3 (fT uy) us=some r:=fun _ _ h=>h
theorem eY (c l:Int){i m:Int}(h0:0≤i) (h1:i < 900000) (m0:0 < m) (m1:m < 1000000):∃v l',dm [.b (fd c i l),.t (.int m)]=some (.t (.int v),[fd c (i+1) l'])∧0≤v∧v < m:=by
 have q0:∀(a b c:D),gG [a,b,c] 0=some a∧gG [a,b,c] 1=some b∧gG [a,b,c] 2=some c:=fun _ _ _=>⟨rfl,rfl,rfl⟩
 have q1:xM 3 1=some 1∧xM 3 2=some 2:=⟨rfl,rfl⟩
 have m2:m < 1073741824:=by omega
 by_cases hl:0 < l
 ·refine⟨l % m,l / m,?_,Int.emod_nonneg _ (by omega),Int.emod_lt_of_pos _ m0⟩
  simp[dm,aH,fT,aA,q0,q1,hl,m0,m2,o9,lR]
 ·obtain⟨v,hv,v0,v1⟩:=AE c (i+1) (by omega) (by omega)
  refine⟨v / 7 % m,l,?_,Int.emod_nonneg _ (by omega),Int.emod_lt_of_pos _ m0⟩
  simp[dm,aH,fT,aA,q0,q1,hl,m0,m2,o9,lR,hv]
end Sq
end
section
set_option Elab.async false
set_option linter.all false
set_option maxRecDepth 100000
namespace Sw
open PySem PySem.Spec PyProof.Rows L2
noncomputable def one (p:Str×Int):List (Str×Int):=(upTo (p.2+1).toNat).map fun k=>(p.1,k)
noncomputable def jY (T:List (Str×Int)):List (Str×Int):=T.flatMap one
theorem mX (n:Nat):(upTo n).length=n:=by simp[upTo]
theorem mY:∀{T:List (Str×Int)},(∀p∈T,iy p)→(jY T).length≤11 * T.length
 | [],_=>Nat.le_refl _
 | p :: T,h=>by
  have ih:=mY (T:=T) fun q hq=>h q (List.mem_cons_of_mem _ hq)
  have a:=(h p List.mem_cons_self).lo
  have b:=(h p List.mem_cons_self).hi
  have e:(jY (p :: T)).length=(one p).length+(jY T).length:=by show(one p++jY T).length=_;rw[List.length_append]
  have e2:(one p).length=(p.2+1).toNat:=by unfold one;rw[List.length_map,mX]
  rw[e,e2]
  show _≤11 * (T.length+1)
  omega
theorem at2 (a b:D):gG [a,b] 0=some a∧gG [a,b] 1=some b:=⟨rfl,rfl⟩
noncomputable def eZ:GS:=
 (pN (eT (eM 1 hAppend (aa (eF (eP d7 (aa (fH 2 (eC (.int 0))) (aa (eF (ao 3)) aq)))) aq))))
noncomputable def dw:GS:=
 (mQ (bName 3) (gn (aa (eF (eP cD (aa (fH 2 (eC (.int 1))) (aa (eC (.int 1)) aq)))) aq)) (eZ))
noncomputable def fM:GS:=
 (bg (bR 1 (eP fZ aq))
 (bg (mQ (bName 2) (o8 (eF (ao 0))) (dw))
 (cL (ao 1))))
open Classical in
noncomputable def lG:FM
 | [.t td]=>(tabOf td).bind fun T=>if T.length≤4∧∀p∈T,iy p then some (.m (.lst ((jY T).map iB)),[]) else none
 | _=>none
theorem AH {T:List (Str×Int)}(h:T.length≤4) (h2:∀p∈T,iy p):lG [.t (cA T)]=some (.m (.lst ((jY T).map iB)),[]):=by
 unfold lG
 simp only[B8,Option.bind_some]
 rw[if_pos ⟨h,h2⟩]
theorem wZ {td:D}{p:Str×Int}:∀(ks:List Int) (acc:List D) (x:Option U),acc.length+ks.length < 1000→(x=none∨∃a,x=some (.t a))→
    ∃x',(x'=none∨∃a,x'=some (.t a))∧loop (bName 3) eZ (ks.map D.int) [some (.t td),some (.m (.lst acc)),some (.t (iB p)),x]=some (.nx [some (.t td),some (.m (.lst (acc++ks.map fun k=>iB (p.1,k)))),some (.t (iB p)),x'])
  | [],acc,x,_,hx=>⟨x,hx,by simp⟩
  | k :: ks, acc, x, hl, hx => by
    have hl:acc.length+(ks.length+1) < 1000:=hl
    obtain⟨x',hx',e⟩:=wZ (td:=td) (p:=p) ks (acc++[iB (p.1,k)]) (some (.t (.int k))) (by rw[List.length_append,List.length_singleton];omega) (.inr ⟨_,rfl⟩)
    refine⟨x',hx',?_⟩
    have eb:bName 3 (.int k) [some (.t td),some (.m (.lst acc)),some (.t (iB p)),x]=some [some (.t td),some (.m (.lst acc)),some (.t (iB p)),some (.t (.int k))]:=by
      rcases hx with rfl | ⟨a,rfl⟩ <;> rfl
    have h1:acc.length < 100000:=by omega
    have ew:eZ [some (.t td),some (.m (.lst acc)),some (.t (iB p)),some (.t (.int k))]=some (.nx [some (.t td),some (.m (.lst (acc++[iB (p.1,k)]))),some (.t (iB p)),some (.t (.int k))]):=by
      simp[eZ,iB,at2,h1]
    show((bName 3 (.int k) _).bind fun S1=>_)=_
    rw[eb,Option.bind_some,ew,Option.bind_some]
    show loop _ _ (ks.map D.int) _=_
    rw[e]
    simp
theorem Ce {p:Str×Int}{td:D}{acc:List D}{x:Option U}(h:iy p):gn (aa (eF (eP cD (aa (fH 2 (eC (.int 1))) (aa (eC (.int 1)) aq)))) aq) [some (.t td),some (.m (.lst acc)),some (.t (iB p)),x]=some ((upTo (p.2+1).toNat).map D.int,[some (.t td),some (.m (.lst acc)),some (.t (iB p)),x]):=by
 have a:=h.lo
 have b:=h.hi
 rw[←uv]
 have h1:p.2+1 < 1000000:=by omega
 have h2:-1000000 < p.2+1:=by omega
 simp[iB,at2,h1,h2]
theorem uz {td:D}:∀(T:List (Str×Int)) (acc:List D) (x y:Option U),(∀p∈T,iy p)→acc.length+11 * T.length < 900→(x=none∨∃a,x=some (.t a))→(y=none∨∃a,y=some (.t a))→
    ∃x' y',loop (bName 2) dw (T.map iB) [some (.t td),some (.m (.lst acc)),y,x]=some (.nx [some (.t td),some (.m (.lst (acc++(jY T).map iB))),y',x'])
  | [],acc,x,y,_,_,hx,hy=>⟨x,y,by simp[jY]⟩
  | p :: T, acc, x, y, h, hl, hx, hy => by
    have hp:=h p List.mem_cons_self
    have hl:acc.length+11 * (T.length+1) < 900:=hl
    have a:=hp.lo
    have b:=hp.hi
    have e2:(one p).length=(p.2+1).toNat:=by unfold one;rw[List.length_map,mX]
    obtain⟨x1,QX,e1⟩:=wZ (td:=td) (p:=p) (upTo (p.2+1).toNat) acc x (by rw[mX];omega) hx
    have e3:(upTo (p.2+1).toNat).map (fun k=>iB (p.1,k))=(one p).map iB:=by unfold one;rw[List.map_map];rfl
    rw[e3] at e1
    obtain⟨x',y',e⟩:=uz (td:=td) T (acc++(one p).map iB) x1 (some (.t (iB p))) (fun q hq=>h q (List.mem_cons_of_mem _ hq)) (by rw[List.length_append,List.length_map,e2];omega) QX (.inr ⟨_,rfl⟩)
    refine⟨x',y',?_⟩
    have eb:bName 2 (iB p) [some (.t td),some (.m (.lst acc)),y,x]=some [some (.t td),some (.m (.lst acc)),some (.t (iB p)),x]:=by
      rcases hy with rfl | ⟨a,rfl⟩ <;> rfl
    have ew:dw [some (.t td),some (.m (.lst acc)),some (.t (iB p)),x]=some (.nx [some (.t td),some (.m (.lst (acc++(one p).map iB))),some (.t (iB p)),x1]):=by
      unfold dw
      rw[Aw,Ce hp,Option.bind_some]
      exact e1
    show((bName 2 (iB p) _).bind fun S1=>_)=_
    rw[eb,Option.bind_some,ew,Option.bind_some]
    show loop _ _ (T.map iB) _=_
    rw[e]
    have:jY (p :: T)=one p++jY T:=rfl
    rw[this,List.map_append,List.append_assoc]
theorem AI:∀us r,lG us=some r→aH 4 fM us=some r:=by
 intro us r h
 unfold lG at h
 split at h
 ·rename_i td
  obtain⟨T,h1,h⟩:=ak h
  obtain⟨⟨h2,h3⟩,rfl⟩:=bO h
  have:=vQ h1
  subst this
  obtain⟨x',y',e⟩:=uz (td:=cA T) T [] none none h3 (by simp only[List.length_nil];omega) (.inl rfl) (.inl rfl)
  rw[List.nil_append] at e
  have e:loop (bName 2) dw (T.map iB) [some (.t (cA T)),some (.m (.lst [])),none,none]=_:=e
  have ei:o8 (eF (ao 0)) [some (.t (cA T)),some (.m (.lst [])),none,none]=some (T.map iB,[some (.t (cA T)),some (.m (.lst [])),none,none]):=rfl
  simp[aH,fM,ei,e]
 ·cases h
end Sw
end
section
set_option Elab.async false
set_option linter.all false
set_option maxRecDepth 100000
namespace Sq
open PySem PySem.Spec PyProof.Rows L2 Sw
theorem ku {n j:Nat}{d:D}{r:List D}(h:(jk 0 n).drop j=d :: r):j < n∧d= .int j∧(jk 0 n).drop (j+1)=r:=by
 have hl:j < n:=by
  have:=congrArg List.length h
  simp[jk] at this
  omega
 have h2:j < (jk 0 n).length:=by simpa[jk] using hl
 rw[List.drop_eq_getElem_cons h2] at h
 injection h with h3 h4
 refine⟨hl,?_,h4⟩
 rw[←h3]
 simp[jk]
theorem sL (n:Nat):(jk 0 n).length=n:=by simp[jk]
noncomputable def w4 (x:Option U):Prop:=x=none∨∃d,x=some (.t d)
theorem w4.t {d:D}:w4 (some (.t d)):=.inr ⟨d,rfl⟩
theorem w4.n:w4 none:=.inl rfl
noncomputable def pZ:List D:=[.str "a",.str "ab",.str "abc",.str "now",.str "any",.str "name",.str "less",.str "x",.str "zzzzzzzz"]
theorem Cf {i:Int}(h0:0≤i) (h1:i < 9):∃z,gG pZ i=some (.str z)∧Ay z:=by
 have:i=0∨i=1∨i=2∨i=3∨i=4∨i=5∨i=6∨i=7∨i=8:=by omega
 rcases this with rfl | rfl | rfl | rfl | rfl | rfl | rfl | rfl | rfl <;> exact⟨_,rfl,by decide,by decide⟩
theorem Cg {i:Int}(h0:0≤i) (h1:i < 4):∃m:Int,gG [D.int 1,.int 2,.int 2,.int 3] i=some (.int m)∧1≤m∧m≤3:=by
 have:i=0∨i=1∨i=2∨i=3:=by omega
 rcases this with rfl | rfl | rfl | rfl <;> exact⟨_,rfl,by decide,by decide⟩
noncomputable def dO (aD:FM):GS:=
 (bg (bR 7 (eP wU (aa (eF (aL aD (cY (ao 0) (aX (eC (.int 3)) bC)))) (aa (eF (eP cD (aa (eF (eP o7 (aa (eF (ao 4)) (aa (eF (ao 3)) aq)))) (aa (eF (ao 6)) aq)))) aq))))
 (bg (pN (eT (eM 5 hAppend (aa (eF (eP d7 (aa (fH 1 (eF (eP qu (aa (eF (eP cD (aa (eF (ao 2)) (aa (eF (ao 6)) aq)))) (aa (eC (.int 9)) aq))))) (aa (eF (ao 7)) aq)))) aq))))
 (bR 4 (eP o7 (aa (eF (eP o7 (aa (eF (ao 4)) (aa (eF (ao 7)) aq)))) (aa (eC (.int 1)) aq))))))
noncomputable def eV (aD:FM):GS:=
 (bg (bR 1 (eP fZ (aa (eC (.str "a")) (aa (eC (.str "ab")) (aa (eC (.str "abc")) (aa (eC (.str "now")) (aa (eC (.str "any")) (aa (eC (.str "name")) (aa (eC (.str "less")) (aa (eC (.str "x")) (aa (eC (.str "zzzzzzzz")) aq)))))))))))
 (bg (bR 2 (aL aD (cY (ao 0) (aX (eC (.int 9)) bC))))
 (bg (bR 3 (eP Ba (aa (eF (eP fZ (aa (eC (.int 1)) (aa (eC (.int 2)) (aa (eC (.int 2)) (aa (eC (.int 3)) aq)))))) (aa (eF (aL aD (cY (ao 0) (aX (eC (.int 4)) bC)))) aq))))
 (bg (bR 4 (eT (eC (.int 5))))
 (bg (bR 5 (eP fZ aq))
 (bg (mQ (bName 6) (gn (aa (eF (ao 3)) aq)) (dO aD))
 (cL (eP jq (aa (eF (ao 5)) aq)))))))))
noncomputable def yf:FM:=aH 8 (eV dm)
theorem AJ:∀us r,yf us=some r→aH 8 (eV dm) us=some r:=fun _ _ h=>h
theorem AK {c i l st m left k:Int}{T:List (Str×Int)}{x6 x7:Option U}(hi:0≤i) (hi1:i < 800000) (hs:0≤st) (hk:0≤k) (hl:0≤left - m+k) (hT:T.length < 10) (h6:w4 x6) (h7:w4 x7):
  ∃z v l' S1,bName 6 (.int k) [some (.b (fd c i l)),some (.m (.lst pZ)),some (.t (.int st)),some (.t (.int m)),some (.t (.int left)),some (.m (.lst (T.map iB))),x6,x7]=some S1∧iy (z,v)∧v≤left - m+k∧
   dO dm S1=some (.nx [some (.b (fd c (i+1) l')),some (.m (.lst pZ)),some (.t (.int st)),some (.t (.int m)),some (.t (.int (left - v - 1))),some (.m (.lst ((T++[(z,v)]).map iB))),some (.t (.int k)),some (.t (.int v))]):=by
 obtain⟨v,l',e1,v0,v1⟩:=eY c l hi (by omega) (m:=3) (by omega) (by omega)
 obtain⟨z,e2,nz⟩:=Cf (i:=(st+k) % 9) (Int.emod_nonneg _ (by decide)) (Int.emod_lt_of_pos _ (by decide))
 have hlen:(T.map iB).length < 100000:=by rw[List.length_map];omega
 have e3:T.length < 100000:=by omega
 refine⟨z,if left - m+k < v then left - m+k else v,l',[some (.b (fd c i l)),some (.m (.lst pZ)),some (.t (.int st)),some (.t (.int m)),some (.t (.int left)),some (.m (.lst (T.map iB))),some (.t (.int k)),x7],?_,⟨nz,?_,?_⟩,?_,?_⟩
 ·rcases h6 with rfl | ⟨d,rfl⟩ <;> rfl
 ·show(0:Int)≤if left - m+k < v then left - m+k else v;split <;> omega
 ·show(if left - m+k < v then left - m+k else v:Int)≤10;split <;> omega
 ·split <;> omega
 ·rcases h7 with rfl | ⟨d,rfl⟩ <;> simp[dO,e1,e2,e3,iB,o9,hAppend,CQ]
theorem Ci (c l:Int){i:Int}(h0:0≤i) (h1:i < 700000):∃T i' l',yf [.b (fd c i l)]=some (.t (cA T),[fd c i' l'])∧0 < T.length∧T.length≤3∧(∀p∈T,iy p)∧i≤i'∧i'≤i+10:=by
 obtain⟨st,l1,e1,s0,s1⟩:=eY c l h0 (by omega) (m:=9) (by omega) (by omega)
 obtain⟨a,l2,e2,a0,a1⟩:=eY c l1 (i:=i+1) (by omega) (by omega) (m:=4) (by omega) (by omega)
 obtain⟨m,e3,m0,m1⟩:=Cg a0 a1
 obtain⟨S',e4,j,T,i',l',x6,x7,left,hr,hj,O5,hT,hi,hi2,hleft,h6,h7,rfl⟩:=mW (bd:=bName 6) (body:=dO dm) (jk 0 m.toNat)
  (fun r S=>∃(j:Nat) (T:List (Str×Int)) (i' l':Int) (x6 x7:Option U) (left:Int),(jk 0 m.toNat).drop j=r∧j≤m.toNat∧T.length=j∧(∀p∈T,iy p)∧i≤i'∧i'=i+2+j∧0≤left - m+j∧w4 x6∧w4 x7∧
   S=[some (.b (fd c i' l')),some (.m (.lst pZ)),some (.t (.int st)),some (.t (.int m)),some (.t (.int left)),some (.m (.lst (T.map iB))),x6,x7])
  [some (.b (fd c (i+1+1) l2)),some (.m (.lst pZ)),some (.t (.int st)),some (.t (.int m)),some (.t (.int 5)),some (.m (.lst [])),none,none]
  ⟨0,[],i+1+1,l2,none,none,5,rfl,Nat.zero_le _,rfl,by simp,by omega,by push_cast;omega,by push_cast;omega,.n,.n,rfl⟩ (by
  rintro d r S ⟨j,T,i',l',x6,x7,left,hr,hj,O5,hT,hi,hi2,hleft,h6,h7,rfl⟩
  obtain⟨hjn,rfl,hr'⟩:=ku hr
  obtain⟨z,v,l'',S1,b1,b2,b3,b4⟩:=AK (c:=c) (i:=i') (l:=l') (st:=st) (m:=m) (left:=left) (k:=j) (T:=T) (by omega) (by omega) s0 (by omega) hleft (by omega) h6 h7
  refine⟨S1,_,b1,b4,j+1,T++[(z,v)],i'+1,l'',_,_,left - v - 1,hr',hjn,by simp[O5],?_,by omega,by push_cast;omega,by push_cast;omega,.t,.t,rfl⟩
  intro p hp
  rcases List.mem_append.mp hp with q | q
  ·exact hT p q
  ·rw[show p=(z,v) by simpa using q];exact b2)
 have hj:j=m.toNat:=by
  have:=congrArg List.length hr
  simp[jk] at this
  omega
 refine⟨T,i',l',?_,by omega,by omega,hT,hi,by omega⟩
 have b1:m < 1000000:=by omega
 have b2:-1000000 < m:=by omega
 simp[yf,aH,eV,e1,e2,e3,b1,b2,aA,cA]
 simp only[pZ] at e4
 rw[e4]
 simp[iB]
noncomputable def cH:GS:=
 (pN (eT (eM 1 jQ (aa (eF (iN [2] (gn (aa (eF (eP cD (aa (eF (ao 3)) (aa (eC (.int 1)) aq)))) aq)) gq (eF (eP d7 (aa (eF (ao 1)) (aa (eF (ao 0)) aq)))))) aq))))
noncomputable def cW:GS:=
 (bg (bR 1 (eP fZ aq))
 (bg (mQ (sC 2 (ji (bName 2) (ji (bName 3) tV))) (BV (eF (ao 0))) (cH))
 (cL (ao 1))))
noncomputable def iW:FM:=aH 4 cW
theorem AL:∀us r,iW us=some r→aH 4 cW us=some r:=fun _ _ h=>h
theorem yg {p:Str×Int}{td:D}{acc:List D}{x2 x3:Option U}(hp:iy p) (ha:acc.length < 1000) (h2:w4 x2) (h3:w4 x3):∃S1,sC 2 (ji (bName 2) (ji (bName 3) tV)) (iB p) [some (.t td),some (.m (.lst acc)),x2,x3]=some S1∧
  cH S1=some (.nx [some (.t td),some (.m (.lst (acc++(one p).map iB))),some (.t (.str p.1)),some (.t (.int p.2))]):=by
 refine⟨[some (.t td),some (.m (.lst acc)),some (.t (.str p.1)),some (.t (.int p.2))],?_,?_⟩
 ·rcases h2 with rfl | ⟨a,rfl⟩ <;> rcases h3 with rfl | ⟨b,rfl⟩ <;> rfl
 ·have a:=hp.lo
  have b:=hp.hi
  have b1:p.2+1 < 1000000:=by omega
  have b2:-1000000 < p.2+1:=by omega
  have e:=pD (cap:=[2]) (q:=gq) (g:=eF (eP d7 (aa (eF (ao 1)) (aa (eF (ao 0)) aq)))) (S:=[some (.t td),some (.m (.lst acc)),some (.t (.str p.1)),some (.t (.int p.2))]) (ts:=[.str p.1]) rfl (fun _=>true) (fun d=>.tup [.str p.1,d]) (jk 0 (p.2+1).toNat) [] (fun d _=>rfl) (fun d _ _=>by simp)
  have e5:(jk 0 (p.2+1).toNat).map (fun d=>D.tup [.str p.1,d])=(one p).map iB:=by rw[uv];unfold one iB;simp
  have e6:((one p).map iB).length=(p.2+1).toNat:=by unfold one;rw[List.length_map,List.length_map,mX]
  rw[List.filter_eq_self.mpr (fun _ _=>rfl),e5,List.nil_append] at e
  have l1:(p.2+1).toNat≤100000:=by omega
  have l2:acc.length+((one p).map iB).length≤100000:=by rw[e6];omega
  simp only[List.length_map] at l2
  simp[cH,Cc,b1,b2,sL,l1,e,l2,CQ,o9]
theorem w5 {T:List (Str×Int)}(h:T.length≤4) (h2:∀p∈T,iy p):iW [.t (cA T)]=some (.m (.lst ((jY T).map iB)),[]):=by
 obtain⟨S',e,done,rest,x2,x3,hd,hr,q2,q3,hs⟩:=mW (bd:=sC 2 (ji (bName 2) (ji (bName 3) tV))) (body:=cH) (T.map iB)
  (fun r S=>∃(done rest:List (Str×Int)) (x2 x3:Option U),T=done++rest∧r=rest.map iB∧w4 x2∧w4 x3∧S=[some (.t (cA T)),some (.m (.lst ((jY done).map iB))),x2,x3])
  [some (.t (cA T)),some (.m (.lst [])),none,none] ⟨[],T,none,none,rfl,rfl,.n,.n,rfl⟩ (by
  rintro d r S ⟨done,rest,x2,x3,hd,hr,q2,q3,rfl⟩
  cases rest with
  | nil=>cases hr
  | cons p rest=>
   injection hr with hr1 hr2
   subst hr1
   have hl:=mY (T:=done) fun q hq=>h2 q (by rw[hd];exact List.mem_append_left _ hq)
   have hdl:done.length≤4:=by have:=congrArg List.length hd;simp at this;omega
   obtain⟨S1,e1,e2⟩:=yg (p:=p) (td:=cA T) (acc:=(jY done).map iB) (x2:=x2) (x3:=x3) (h2 p (by rw[hd];simp)) (by rw[List.length_map];omega) q2 q3
   refine⟨S1,_,e1,e2,done++[p],rest,some (.t (.str p.1)),some (.t (.int p.2)),by rw[hd];simp,hr2,.t,.t,?_⟩
   have:jY (done++[p])=jY done++one p:=by simp[jY]
   rw[this,List.map_append])
 have:rest=[]:=by
  cases rest with
  | nil=>rfl
  | cons a b=>cases hr
 subst this
 rw[List.append_nil] at hd
 subst hd
 subst hs
 have e:loop (sC 2 (ji (bName 2) (ji (bName 3) tV))) cH (T.map iB) [some (.t (cA T)),some (.m (.lst [])),none,none]=_:=e
 have ei:BV (eF (ao 0)) [some (.t (cA T)),some (.m (.lst [])),none,none]=some (T.map iB,[some (.t (cA T)),some (.m (.lst [])),none,none]):=rfl
 simp only[iW,aH,cW]
 simp[ei,e,aA,-D9]
end Sq
end
section
set_option Elab.async false
set_option linter.all false
set_option maxRecDepth 100000
namespace Sq
open PySem PySem.Spec PyProof.Rows L2 Sw
noncomputable def dN (aD:FM) (aK:FM):GS:=
 (pN (eT (eM 5 hAppend (aa (eF (eP jq (aa (eF (iN [0,3] (gn (aa (eF (ao 4)) aq)) gq (eF (aL aD (cY (ao 1) (aX (eF (ao 2)) bC)))))) aq))) aq))))
noncomputable def cI (aD:FM) (aK:FM):GS:=
 (bg (bR 3 (eP cD (aa (eC (.int 1)) (aa (eF (aL aD (cY (ao 0) (aX (eC (.int 7)) bC)))) aq))))
 (bg (bR 4 (eP pM (aa (eF (aL aK (aX (eF (ao 1)) bC))) aq)))
 (bg (bR 5 (eP fZ aq))
 (bg (mQ (bName 6) (gn (aa (eF (ao 3)) aq)) (dN aD aK))
 (bg (bR 7 (iN [0,2] (gn (aa (eF (ao 3)) aq)) gq (fH 2 (eF (aL aD (cY (ao 1) (aX (gr 2) bC)))))))
 (bg (pB (qB (eF (eP D3 (aa (eF (aL aD (cY (ao 0) (aX (eC (.int 3)) bC)))) (aa (eC (.int 0)) aq))))) (bR 7 (eP uq (aa (eF (eP fZ (aa (fH 2 (eC (.int 0))) aq))) (aa (eF (ao 3)) aq)))) iM)
 (cL (eP d7 (aa (eF (eP jq (aa (eF (ao 5)) aq))) (aa (eF (eP jq (aa (eF (ao 7)) aq))) aq))))))))))
noncomputable def uA:FM:=aH 8 (cI dm iW)
theorem AM:∀us r,uA us=some r→aH 8 (cI dm iW) us=some r:=fun _ _ h=>h
noncomputable def cM (r:List Int):D:=.tup (r.map D.int)
theorem AN (c l : Int) {i m : Int} {a1 a2 a4 a5 a6 a7 : Option U} (n : Nat) (hi : 0 ≤ i) (hn : i + n < 800000) (m0 : 0 < m) (m1 : m < 1000000) :
    ∃(vs:List Int) (l':Int),d8 [0,3] gq (eF (aL dm (cY (ao 1) (aX (eF (ao 2)) bC)))) (jk 0 n) [some (.b (fd c i l)),a1,a2,some (.t (.int m)),a4,a5,a6,a7] []=some (vs.map D.int,[some (.b (fd c (i+n) l')),a1,a2,some (.t (.int m)),a4,a5,a6,a7])∧vs.length=n∧∀v∈vs,0≤v∧v < m:=by
  obtain⟨acc',S',e,j,vs,l',hr,hj,rfl,hl,hv,rfl⟩:=sJ (cap:=[0,3]) (g:=eF (aL dm (cY (ao 1) (aX (eF (ao 2)) bC)))) (jk 0 n)
    (fun r acc S=>∃(j:Nat) (vs:List Int) (l':Int),(jk 0 n).drop j=r∧j≤n∧acc=vs.map D.int∧vs.length=j∧(∀v∈vs,0≤v∧v < m)∧S=[some (.b (fd c (i+j) l')),a1,a2,some (.t (.int m)),a4,a5,a6,a7])
    [some (.b (fd c i l)),a1,a2,some (.t (.int m)),a4,a5,a6,a7] [] ⟨0,[],l,rfl,Nat.zero_le _,rfl,rfl,by simp,by simp⟩ (by
      rintro d r acc S ⟨j,vs,l',hr,hj,rfl,hl,hv,rfl⟩
      obtain⟨hjn,rfl,hr'⟩:=ku hr
      obtain⟨v,l'',e1,v0,v1⟩:=eY c l' (i:=i+j) (m:=m) (by omega) (by omega) m0 m1
      refine⟨(vs++[v]).map D.int,[some (.b (fd c (i+((j+1:Nat):Int)) l'')),a1,a2,some (.t (.int m)),a4,a5,a6,a7],?_,j+1,vs++[v],l'',hr',hjn,rfl,by simp[hl],?_,rfl⟩
      · have e2:i+((j+1:Nat):Int)=i+j+1:=by push_cast;omega
        rw[e2]
        simp[d8,g8,pO,e1,aA]
      · intro w hw
        rcases List.mem_append.mp hw with q | q
        · exact hv w q
        · rw[show w=v by simpa using q];exact⟨v0,v1⟩)
  have hj:j=n:=by
    have:=congrArg List.length hr
    simp[jk] at this
    omega
  subst hj
  exact⟨vs,l',e,hl,hv⟩
theorem AO (c l : Int) {i : Int} {menu : List D} {a1 a3 a4 a5 a6 a7 : Option U} (n : Nat) (hi : 0 ≤ i) (hn : i + n < 800000) (m0 : 0 < menu.length) (m1 : menu.length < 1000) :
    ∃(vs:List D) (l':Int),d8 [0,2] gq (fH 2 (eF (aL dm (cY (ao 1) (aX (gr 2) bC))))) (jk 0 n) [some (.b (fd c i l)),a1,some (.t (.lst menu)),a3,a4,a5,a6,a7] []=some (vs,[some (.b (fd c (i+n) l')),a1,some (.t (.lst menu)),a3,a4,a5,a6,a7])∧vs.length=n∧∀v∈vs,v∈menu:=by
  obtain⟨acc',S',e,j,l',hr,hj,hl,hv,rfl⟩:=sJ (cap:=[0,2]) (g:=fH 2 (eF (aL dm (cY (ao 1) (aX (gr 2) bC))))) (jk 0 n)
    (fun r acc S=>∃(j:Nat) (l':Int),(jk 0 n).drop j=r∧j≤n∧acc.length=j∧(∀v∈acc,v∈menu)∧S=[some (.b (fd c (i+j) l')),a1,some (.t (.lst menu)),a3,a4,a5,a6,a7])
    [some (.b (fd c i l)),a1,some (.t (.lst menu)),a3,a4,a5,a6,a7] [] ⟨0,l,rfl,Nat.zero_le _,rfl,by simp,by simp⟩ (by
      rintro d r acc S ⟨j,l',hr,hj,hl,hv,rfl⟩
      obtain⟨hjn,rfl,hr'⟩:=ku hr
      obtain⟨v,l'',e1,v0,v1⟩:=eY c l' (i:=i+j) (m:=menu.length) (by omega) (by omega) (by omega) (by omega)
      obtain⟨x,e3,e4⟩:=lV (l:=menu) v0 v1
      refine⟨acc++[x],[some (.b (fd c (i+((j+1:Nat):Int)) l'')),a1,some (.t (.lst menu)),a3,a4,a5,a6,a7],?_,j+1,l'',hr',hjn,by simp[hl],?_,rfl⟩
      · have e2:i+((j+1:Nat):Int)=i+j+1:=by push_cast;omega
        rw[e2]
        simp[d8,g8,pO,e1,aA,e3]
      · intro w hw
        rcases List.mem_append.mp hw with q | q
        · exact hv w q
        · rw[show w=x by simpa using q];exact List.mem_of_getElem? e4)
  have hj:j=n:=by
    have:=congrArg List.length hr
    simp[jk] at this
    omega
  subst hj
  exact⟨acc',l',e,hl,hv⟩
structure AQ (wide:Nat) (N:List (List Int)):Prop where
 pos:0 < N.length
 few:N.length≤7
 row:∀r∈N,r.length=wide∧∀v∈r,0≤v∧v < N.length
theorem yh (c l:Int){i:Int}{td md:D}{N:List (List Int)}{n wide j:Nat}{x6:Option U}(hi:0≤i) (hi2:i < 750000) (hw:wide≤44) (hn:0 < n) (hn2:n≤7) (hN:N.length≤7) (h6:w4 x6):
  ∃(vs:List Int) (l':Int) (S1:SS),bName 6 (.int j) [some (.b (fd c i l)),some (.t td),some (.t md),some (.t (.int n)),some (.t (.int wide)),some (.m (.lst (N.map cM))),x6,none]=some S1∧
   dN dm iW S1=some (.nx [some (.b (fd c (i+wide) l')),some (.t td),some (.t md),some (.t (.int n)),some (.t (.int wide)),some (.m (.lst ((N++[vs]).map cM))),some (.t (.int j)),none])∧vs.length=wide∧∀v∈vs,0≤v∧v < (n:Int):=by
 obtain⟨vs,l'',e4,hl,hv⟩:=AN c l (i:=i) (m:=n) (a1:=some (.t td)) (a2:=some (.t md)) (a4:=some (.t (.int wide))) (a5:=some (.m (.lst (N.map cM)))) (a6:=some (.t (.int j))) (a7:=none) wide (by omega) (by omega) (by omega) (by omega)
 refine⟨vs,l'',[some (.b (fd c i l)),some (.t td),some (.t md),some (.t (.int n)),some (.t (.int wide)),some (.m (.lst (N.map cM))),some (.t (.int j)),none],?_,?_,hl,hv⟩
 ·rcases h6 with rfl | ⟨d,rfl⟩ <;> rfl
 ·have b1:=fun S h=>AA 4 wide S h (by omega)
  have b3:wide≤100000:=by omega
  have b4:N.length < 100000:=by omega
  simp[dN,ux,-sH,b1,b3,b4,sL,e4,CQ,o9,hAppend,cM]
theorem nu {a b:GS}{S S1:SS}(h:a S=some (.nx S1)):bg a b S=b S1:=by
 show(a S).bind _=_
 rw[h]
 rfl
theorem Cj (c l:Int){i:Int}{T:List (Str×Int)}{menu:List D}(hi:0≤i) (hi2:i < 700000) (hT:T.length≤4) (hp:∀p∈T,iy p) (m0:0 < menu.length) (m1:menu.length < 1000):
  ∃(N:List (List Int)) (M:List D) (i' l':Int),uA [.b (fd c i l),.t (cA T),.t (.lst menu)]=some (.t (.tup [.tup (N.map cM),.tup M]),[fd c i' l'])∧AQ (jY T).length N∧M.length=N.length∧∀x∈M,x∈menu:=by
 obtain⟨a,l1,e1,a0,a1⟩:=eY c l hi (by omega) (m:=7) (by omega) (by omega)
 have e2:=w5 hT hp
 have hw:=mY hp
 generalize QY:(jY T).length=wide at hw
 obtain⟨n,hn⟩:∃n:Nat,(1+a)=(n:Int):=⟨(1+a).toNat,by omega⟩
 obtain⟨S1,e3,j,N,i2,l2,x6,hr,hj,hN,Es,h6,q1,q2,rfl⟩:=mW (bd:=bName 6) (body:=dN dm iW) (jk 0 n)
  (fun r S=>∃(j:Nat) (N:List (List Int)) (i' l':Int) (x6:Option U),(jk 0 n).drop j=r∧j≤n∧N.length=j∧(∀r∈N,r.length=wide∧∀v∈r,0≤v∧v < (n:Int))∧w4 x6∧i≤i'∧i'≤i+1+44 * (j:Int)∧
   S=[some (.b (fd c i' l')),some (.t (cA T)),some (.t (.lst menu)),some (.t (.int n)),some (.t (.int wide)),some (.m (.lst (N.map cM))),x6,none])
  [some (.b (fd c (i+1) l1)),some (.t (cA T)),some (.t (.lst menu)),some (.t (.int n)),some (.t (.int wide)),some (.m (.lst [])),none,none] ⟨0,[],i+1,l1,none,rfl,Nat.zero_le _,rfl,by simp,.n,by omega,by omega,by simp⟩ (by
   rintro d r S ⟨j,N,i',l',x6,hr,hj,hN,Es,h6,q1,q2,rfl⟩
   obtain⟨hjn,rfl,hr'⟩:=ku hr
   obtain⟨vs,l'',S1,e4,e5,hl,hv⟩:=yh c l' (i:=i') (td:=cA T) (md:=.lst menu) (N:=N) (n:=n) (wide:=wide) (j:=j) (x6:=x6) (by omega) (by omega) (by omega) (by omega) (by omega) (by omega) h6
   refine⟨S1,_,e4,e5,j+1,N++[vs],i'+wide,l'',some (.t (.int j)),hr',hjn,by simp[hN],?_,.t,by omega,by push_cast;omega,rfl⟩
   intro q hq
   rcases List.mem_append.mp hq with z | z
   ·exact Es q z
   ·rw[show q=vs by simpa using z];exact⟨hl,hv⟩)
 have hj:j=n:=by
  have:=congrArg List.length hr
  simp[jk] at this
  omega
 subst hj
 obtain⟨M,l3,e6,hM,QZ⟩:=AO c l2 (i:=i2) (menu:=menu) (a1:=some (.t (cA T))) (a3:=some (.t (.int j))) (a4:=some (.t (.int wide))) (a5:=some (.m (.lst (N.map cM)))) (a6:=x6) (a7:=none) j (by omega) (by omega) m0 m1
 obtain⟨b,l4,e7,b0,b1⟩:=eY c l3 (i:=i2+j) (m:=3) (by omega) (by omega) (by omega) (by omega)
 obtain⟨x0,e8,e9⟩:=lV (l:=menu) (i:=0) (by omega) (by omega)
 have c1:=fun S h=>AA 3 j S h (by omega)
 have c2:=AD x0 j (by omega)
 have c3:j≤100000:=by omega
 have mo:AQ wide N:=⟨by omega,by omega,fun r hr=>by rw[hN];exact Es r hr⟩
 have h0:(bR 3 (eP cD (aa (eC (.int 1)) (aa (eF (aL dm (cY (ao 0) (aX (eC (.int 7)) bC)))) aq)))) [some (.b (fd c i l)),some (.t (cA T)),some (.t (.lst menu)),none,none,none,none,none]=some (.nx [some (.b (fd c (i+1) l1)),some (.t (cA T)),some (.t (.lst menu)),some (.t (.int j)),none,none,none,none]):=by simp[e1,hn]
 have h1:(bR 4 (eP pM (aa (eF (aL iW (aX (eF (ao 1)) bC))) aq))) [some (.b (fd c (i+1) l1)),some (.t (cA T)),some (.t (.lst menu)),some (.t (.int j)),none,none,none,none]=some (.nx [some (.b (fd c (i+1) l1)),some (.t (cA T)),some (.t (.lst menu)),some (.t (.int j)),some (.t (.int wide)),none,none,none]):=by simp[e2,QY]
 have h2:(bR 5 (eP fZ aq)) [some (.b (fd c (i+1) l1)),some (.t (cA T)),some (.t (.lst menu)),some (.t (.int j)),some (.t (.int wide)),none,none,none]=some (.nx [some (.b (fd c (i+1) l1)),some (.t (cA T)),some (.t (.lst menu)),some (.t (.int j)),some (.t (.int wide)),some (.m (.lst [])),none,none]):=by simp[]
 have h3:(mQ (bName 6) (gn (aa (eF (ao 3)) aq)) (dN dm iW)) [some (.b (fd c (i+1) l1)),some (.t (cA T)),some (.t (.lst menu)),some (.t (.int j)),some (.t (.int wide)),some (.m (.lst [])),none,none]=some (.nx [some (.b (fd c i2 l2)),some (.t (cA T)),some (.t (.lst menu)),some (.t (.int j)),some (.t (.int wide)),some (.m (.lst (N.map cM))),x6,none]):=by simp[-sH,c1,e3]
 have h4:(bR 7 (iN [0,2] (gn (aa (eF (ao 3)) aq)) gq (fH 2 (eF (aL dm (cY (ao 1) (aX (gr 2) bC))))))) [some (.b (fd c i2 l2)),some (.t (cA T)),some (.t (.lst menu)),some (.t (.int j)),some (.t (.int wide)),some (.m (.lst (N.map cM))),x6,none]=some (.nx [some (.b (fd c (i2+j) l3)),some (.t (cA T)),some (.t (.lst menu)),some (.t (.int j)),some (.t (.int wide)),some (.m (.lst (N.map cM))),x6,some (.m (.lst M))]):=by simp[-sH,c1,ux,sL,c3,e6]
 have h5:(pB (qB (eF (eP D3 (aa (eF (aL dm (cY (ao 0) (aX (eC (.int 3)) bC)))) (aa (eC (.int 0)) aq))))) (bR 7 (eP uq (aa (eF (eP fZ (aa (fH 2 (eC (.int 0))) aq))) (aa (eF (ao 3)) aq)))) iM) [some (.b (fd c (i2+j) l3)),some (.t (cA T)),some (.t (.lst menu)),some (.t (.int j)),some (.t (.int wide)),some (.m (.lst (N.map cM))),x6,some (.m (.lst M))]=some (.nx [some (.b (fd c (i2+j+1) l4)),some (.t (cA T)),some (.t (.lst menu)),some (.t (.int j)),some (.t (.int wide)),some (.m (.lst (N.map cM))),x6,some (.m (.lst (if b=0 then List.replicate j x0 else M)))]):=by
  by_cases hb:b=0
  ·subst hb;simp[e7,-Az,c2,e8]
  ·simp[hb,e7]
 have Q0:(cL (eP d7 (aa (eF (eP jq (aa (eF (ao 5)) aq))) (aa (eF (eP jq (aa (eF (ao 7)) aq))) aq)))) [some (.b (fd c (i2+j+1) l4)),some (.t (cA T)),some (.t (.lst menu)),some (.t (.int j)),some (.t (.int wide)),some (.m (.lst (N.map cM))),x6,some (.m (.lst (if b=0 then List.replicate j x0 else M)))]=some (.rt (.t (.tup [.tup (N.map cM),.tup (if b=0 then List.replicate j x0 else M)])) [some (.b (fd c (i2+j+1) l4)),some (.t (cA T)),some (.t (.lst menu)),some (.t (.int j)),some (.t (.int wide)),some (.t (.lst (N.map cM))),x6,some (.t (.lst (if b=0 then List.replicate j x0 else M)))]):=by simp
 have all:cI dm iW [some (.b (fd c i l)),some (.t (cA T)),some (.t (.lst menu)),none,none,none,none,none]=some (.rt (.t (.tup [.tup (N.map cM),.tup (if b=0 then List.replicate j x0 else M)])) [some (.b (fd c (i2+j+1) l4)),some (.t (cA T)),some (.t (.lst menu)),some (.t (.int j)),some (.t (.int wide)),some (.t (.lst (N.map cM))),x6,some (.t (.lst (if b=0 then List.replicate j x0 else M)))]):=by
  unfold cI
  rw[nu h0,nu h1,nu h2,nu h3,nu h4,nu h5,Q0]
 refine⟨N,if b=0 then List.replicate j x0 else M,i2+j+1,l4,?_,mo,?_,?_⟩
 ·show(cI dm iW [some (.b (fd c i l)),some (.t (cA T)),some (.t (.lst menu)),none,none,none,none,none]).bind _=_
  rw[all]
  rfl
 ·split
  ·rw[List.length_replicate];exact hN.symm
  ·omega
 ·split
  ·intro x hx;rw[List.eq_of_mem_replicate hx];exact List.mem_of_getElem? e9
  ·exact QZ
end Sq
end
section
set_option Elab.async false
set_option linter.all false
set_option maxRecDepth 100000
namespace L2
open PySem PySem.Spec PyProof.Rows
noncomputable def lW:Option U→Bool
 | some (.b _)=>true
 | _=>false
@[simp] theorem O6:lW none=false:=rfl
@[simp] theorem O7 (d:D):lW (some (.t d))=false:=rfl
@[simp] theorem O8 (o:MO):lW (some (.m o))=false:=rfl
theorem gw (i:Nat) (u:U) (S:SS):lC i u S=(S[i]?).bind fun x=>if lW x then none else some (S.set i (some u)):=by
 unfold lC
 cases S[i]? with
 | none=>rfl
 | some x=>cases x with
  | none=>rfl
  | some u=>cases u <;> rfl
@[simp] theorem L3 (n:Nat) (bs:ze) (ds:List D) (S:SS):sC n bs (.tup ds) S=if ds.length=n then bs ds S else none:=rfl
@[simp] theorem Jq (b:GB) (bs:ze) (d:D) (r:List D) (S:SS):ji b bs (d :: r) S=(b d S).bind fun S1=>bs r S1:=rfl
@[simp] theorem L4 (S:SS):tV [] S=some S:=rfl
@[simp] theorem Jr (S:SS):Hg S=some (.m (.vp []),S):=rfl
@[simp] theorem Js (S:SS):Hh S=some (.m (.dct []),S):=rfl
@[simp] theorem HH (z:Str):oq (.str z)=true:=rfl
@[simp] theorem HJ (b:Bool):oq (.bl b)=true:=rfl
@[simp] theorem HK (b:Int):oq (.int b)=true:=rfl
@[simp] theorem HC (g:GD) (lo hi:Option GD) (S:SS):qx g lo hi S=(g S).bind fun p=>(kq lo p.2).bind fun l=>(kq hi l.2).bind fun h=>(B3 p.1 l.1 h.1).map fun u=>(u,h.2):=rfl
@[simp] theorem Fg (S:SS):kq none S=some (none,S):=rfl
@[simp] theorem Fi (g:GD) (S:SS):kq (some g) S=(g S).bind fun p=>match p.1 with | .int i=>some (some i,p.2) | _=>none:=rfl
@[simp] theorem Ca (ds:List D) (lo hi:Option Int):B3 (.tup ds) lo hi=some (.t (.tup (cutD ds lo hi))):=rfl
@[simp] theorem Cb (ds:List D) (lo hi:Option Int):B3 (.lst ds) lo hi=some (.m (.lst (cutD ds lo hi))):=rfl
@[simp] theorem HL (d:D) (ds:List D):D6 [d] (.lst ds)=if bK ds≤40∧ds.length < 100000 then(D5 d ds).map fun j=>(.int (j:Nat),.lst ds) else none:=rfl
@[simp] theorem Et (ds:List D):tX [] (.lst ds)=some (.cg,.lst ds.reverse):=rfl
theorem rC (bd:GB) (body:GS) (d:D) (ds:List D) (S:SS):loop bd body (d :: ds) S=(bd d S).bind fun S1=>(body S1).bind fun o=>match o with
  | .nx S2=>loop bd body ds S2
  | .ct S2=>loop bd body ds S2
  | .bk S2=>some (.nx S2)
  | .rt u S2=>some (.rt u S2):=rfl
end L2
end
section
set_option Elab.async false
set_option linter.all false
set_option maxRecDepth 100000
namespace Sg
open PySem PySem.Spec PyProof.Rows L2 Sw Sq L2
@[simp] theorem O9 (a:Addr) (S:SS):eFn a S=some (.f a,S):=rfl
@[simp] theorem Jt (S:SS) (a:Addr):resolve S (.f a)=some (.f a):=rfl
@[simp] theorem HM (i:Nat) (sW:List (Addr×FM)) (gu:GU) (S:SS):pW i sW gu S=match S[i]? with
 | some (some (.f a))=>(sW.find? fun p=>p.1 == a).bind fun p=>aL p.2 gu S
 | _=>none:=rfl
theorem nv (d:D) (l m:Int):iU [.t d,.t (.int l),.t (.int m)]=some (.t (.bl (dQ d l m)),[]):=rfl
theorem yi (d:D) (l m:Int):lU [.t d,.t (.int l),.t (.int m)]=some (.t (.bl (dP d l m)),[]):=rfl
theorem sM (a:D) (r:List D):gG (a :: r) 0=some a:=by
 unfold gG xM
 rw[if_pos (by decide),if_pos (by simp only[List.length_cons];omega)]
 rfl
theorem sN (a b:D) (r:List D):gG (a :: b :: r) 1=some b:=by
 unfold gG xM
 rw[if_pos (by decide),if_pos (by simp only[List.length_cons];omega)]
 rfl
noncomputable def dc (w c:Int):D→Bool
 | .tup ds=>decide ((ds.length:Int)=w) && ds.all fun s=>dP s 0 (c - 1)
 | _=>false
noncomputable def fR (cP:FM) (jC:FM):GS:=
 (cL (eT (eQ (jX (qB (eF (aL cP (aX (eF (ao 0)) (aX (eF (ao 1)) (aX (eF (ao 1)) bC)))))) (qB (eF (eP vM (aa (eF (iN [2] (o8 (eF (ao 0))) gq (eF (aL jC (aX (eF (ao 0)) (aX (eC (.int 0)) (aX (eF (eP o7 (aa (eF (ao 1)) (aa (eC (.int 1)) aq)))) bC))))))) aq))))))))
noncomputable def jU:FM:=aH 3 (fR iU lU)
theorem yj:∀us r,jU us=some r→aH 3 (fR iU lU) us=some r:=fun _ _ h=>h
theorem AR {d : D} (h : je 1000 d) (w c : Int) : jU [.t d, .t (.int w), .t (.int c)] = some (.t (.bl (dc w c d)), []) := by
  have e1:=nv d w w
  cases d with
  | tup ds =>
    have hl:ds.length≤100000:=Nat.le_trans h.1 (by decide)
    by_cases q:(ds.length:Int)=w
    · have e2:=jA (cap:=[2]) (g:=eF (aL lU (aX (eF (ao 0)) (aX (eC (.int 0)) (aX (eF (eP o7 (aa (eF (ao 1)) (aa (eC (.int 1)) aq)))) bC))))) (S:=[some (.t (.tup ds)),some (.t (.int w)),some (.t (.int c))]) (ts:=[.int c]) rfl (fun s=>.bl (dP s 0 (c - 1))) ds [] (by
        intro s hs
        have:=yi s 0 (c - 1)
        simp[this])
      rw[List.nil_append] at e2
      have e3:=jB (fun s=>dP s 0 (c - 1)) ds
      have e4:dQ (.tup ds) w w=true:=by simp[dQ,q]
      rw[e4] at e1
      have e5:(ds.map fun s=>dP s 0 (c - 1)).all id=ds.all fun s=>dP s 0 (c - 1):=by rw[List.all_map];rfl
      simp[jU,aH,fR,e1,jT,hl,e2,e3,e5,aA,dc,q]
    · have e4:dQ (.tup ds) w w=false:=by
        simp only[dQ,Bool.and_eq_false_iff,decide_eq_false_iff_not]
        omega
      rw[e4] at e1
      simp[jU,aH,fR,e1,aA,dc,q]
  | _=>simp[jU,aH,fR,e1,dQ,aA,dc]
noncomputable def iz (w:Int):D→Bool
 | .tup ds=>decide (ds≠[]) && ds.all (dc w ds.length)
 | _=>false
noncomputable def fS (ez:FM) (jD:FM):GS:=
 (bg (pB (A9 (mH (qB (rA ["tuple"] (eF (ao 1))))) (qB (eF (eP D3 (aa (gr 1) (aa (eC (.int 0)) aq)))))) (cL (eT (eC (.bl false)))) iM)
 (bg (bR 2 (eP pM (aa (eF (aL ez (aX (eF (ao 0)) bC))) aq)))
 (cL (eP vM (aa (eF (iN [1,2] (o8 (eF (ao 1))) gq (eF (aL jD (aX (eF (ao 0)) (aX (eF (ao 2)) (aX (gr 1) bC))))))) aq)))))
noncomputable def kB:FM:=aH 3 (fS lG jU)
theorem ym:∀us r,kB us=some r→aH 3 (fS lG jU) us=some r:=fun _ _ h=>h
theorem p5 {n:Nat}:∀{ds:List D}{x:D},Fits n ds→x∈ds→je n x
 | d :: ds,x,h,hx=>by
  rcases List.mem_cons.mp hx with rfl | q
  ·exact h.1
  ·exact p5 h.2 q
theorem uB {d : D} (h : je 1000 d) {td : D} {hs : List D} (e0 : lG [.t td] = some (.m (.lst hs), [])) : kB [.t td, .t d] = some (.t (.bl (iz hs.length d)), []) := by
  cases d with
  | tup ds =>
    have hl:ds.length≤100000:=Nat.le_trans h.1 (by decide)
    by_cases hn:ds=[]
    · subst hn;simp[kB,aH,fS,aA,iz,cF,gf,dh]
    · have n0:¬((ds.length:Int)=0):=by
        intro q
        exact hn (List.eq_nil_of_length_eq_zero (by omega))
      have e2:=jA (cap:=[1,2]) (g:=eF (aL jU (aX (eF (ao 0)) (aX (eF (ao 2)) (aX (gr 1) bC))))) (S:=[some (.t td),some (.t (.tup ds)),some (.t (.int hs.length))]) (ts:=[.tup ds,.int hs.length]) rfl (fun s=>.bl (dc hs.length ds.length s)) ds [] (by
        intro s hs'
        have:=AR (p5 h.2 hs') hs.length ds.length
        simp[this])
      rw[List.nil_append] at e2
      have e3:=jB (dc hs.length ds.length) ds
      have e5:(ds.map (dc hs.length ds.length)).all id=ds.all (dc hs.length ds.length):=by rw[List.all_map];rfl
      have en:iz hs.length (.tup ds)=ds.all (dc hs.length ds.length):=by simp[iz,hn]
      rw[en,←e5]
      simp[-List.all_map,kB,aH,fS,aA,cF,gf,dh,n0,hn,e0,jT,hl,e2,e3]
  | _=>simp[kB,aH,fS,aA,iz,cF,gf,dh]
noncomputable def gz:GS:=
 (cL (eT (eQ (jX (qB (rA ["int"] (eF (ao 0)))) (qB (eQ (mH (qB (rA ["bool"] (eF (ao 0)))))))))))
noncomputable def yp:FM:=aH 1 gz
theorem Ck:∀us r,yp us=some r→aH 1 gz us=some r:=fun _ _ h=>h
noncomputable def sO:D→Bool
 | .int _=>true
 | _=>false
theorem Eu (d:D):yp [.t d]=some (.t (.bl (sO d)),[]):=by cases d <;> simp[yp,aH,gz,aA,sO,cF,gf,sr,qY]
noncomputable def bM (aK:FM) (eB:FM):GS:=
 (bg (pB (A9 (mH (qB (rA ["tuple"] (eF (ao 4))))) (qB (eF (eP EX (aa (gr 4) (aa (eF (eP pM (aa (eF (aL aK (aX (eF (ao 0)) bC))) aq))) aq)))))) (cL (eT (eC (.bl false)))) iM)
 (pB (mH (qB (eF (eP vM (aa (eF (iN [2] (o8 (eF (ao 4))) gq (eQ (jX (qB (eF (aL eB (aX (eF (ao 0)) bC)))) (qB (GH BP zd (eC (.int 0)) (eF (ao 0)) (gr 1))))))) aq))))) (cL (eT (eC (.bl false)))) iM))
noncomputable def aF (aK:FM) (eB:FM):GS:=
 (bg (pB (A9 (mH (qB (rA ["tuple"] (eF (ao 1))))) (qB (eF (eP EX (aa (gr 1) (aa (eC (.int 2)) aq)))))) (cL (eT (eC (.bl false)))) iM)
 (bg (BU (sC 2 (ji (bName 2) (ji (bName 3) tV))) (eF (ao 1)))
 (bg (pB (A9 (mH (qB (rA ["tuple"] (eF (ao 2))))) (A9 (mH (qB (rA ["tuple"] (eF (ao 3))))) (A9 (qB (eF (eP zd (aa (gr 2) (aa (eC (.int 1)) aq))))) (qB (eF (eP EX (aa (gr 2) (aa (gr 3) aq)))))))) (cL (eT (eC (.bl false)))) iM)
 (bg (mQ (bName 4) (o8 (eF (ao 2))) (bM aK eB))
 (cL (eT (eC (.bl true))))))))
noncomputable def HN:FM:=aH 5 (aF iW yp)
theorem Ew:∀us r,HN us=some r→aH 5 (aF iW yp) us=some r:=fun _ _ h=>h
section
variable {f1 f2:FM}{td x1 x3:D}{N hs:List D}
theorem AS {o : D} (ho : je 1000 o) (e1 : f1 [.t td] = some (.m (.lst hs), [])) (e2 : ∀ d, f2 [.t d] = some (.t (.bl (sO d)), [])) :
    bM f1 f2 [some (.t td),some (.t x1),some (.t (.tup N)),some (.t x3),some (.t o)]=some (if dc hs.length N.length o=true then .nx [some (.t td),some (.t x1),some (.t (.tup N)),some (.t x3),some (.t o)] else .rt (.t (.bl false)) [some (.t td),some (.t x1),some (.t (.tup N)),some (.t x3),some (.t o)]):=by
  cases o with
  | tup ds =>
    have hl:ds.length≤100000:=Nat.le_trans ho.1 (by decide)
    by_cases q:(ds.length:Int)=hs.length
    · have e3:=jA (cap:=[2]) (g:=eQ (jX (qB (eF (aL f2 (aX (eF (ao 0)) bC)))) (qB (GH BP zd (eC (.int 0)) (eF (ao 0)) (gr 1))))) (S:=[some (.t td),some (.t x1),some (.t (.tup N)),some (.t x3),some (.t (.tup ds))]) (ts:=[.tup N]) rfl (fun s=>.bl (dP s 0 ((N.length:Int) - 1))) ds [] (by
        intro s hs'
        have:=e2 s
        cases s with
        | int i=>
          by_cases h0:0≤i
          · have:decide (i < (N.length:Int))=decide (i≤(N.length:Int) - 1):=decide_eq_decide.mpr (by omega)
            simp[e2,sO,dP,h0,BP,zd,this]
          · simp[e2,sO,dP,h0,BP,zd]
        | _=>simp[e2,sO,dP])
      rw[List.nil_append] at e3
      have e4:=jB (fun s=>dP s 0 ((N.length:Int) - 1)) ds
      have e5:(ds.map fun s=>dP s 0 ((N.length:Int) - 1)).all id=ds.all fun s=>dP s 0 ((N.length:Int) - 1):=by rw[List.all_map];rfl
      have en:dc hs.length N.length (.tup ds)=(ds.map fun s=>dP s 0 ((N.length:Int) - 1)).all id:=by rw[e5];simp[dc,q]
      rw[en]
      have q':ds.length=hs.length:=by omega
      have hl':hs.length≤100000:=by omega
      cases hA:(ds.map fun s=>dP s 0 ((N.length:Int) - 1)).all id with
      | true=>simp[-List.all_map,bM,cF,gf,dh,e1,q',jT,hl,hl',e3,e4,hA]
      | false=>simp[-List.all_map,bM,cF,gf,dh,e1,q',jT,hl,hl',e3,e4,hA]
    · have en:dc hs.length N.length (.tup ds)=false:=by simp[dc,q]
      have q':¬ds.length=hs.length:=by omega
      simp[bM,cF,gf,dh,e1,q',q,en]
  | _=>simp[bM,cF,gf,dh,dc]
end
end Sg
end
section
set_option Elab.async false
set_option linter.all false
set_option maxRecDepth 100000
namespace Sg
open PySem PySem.Spec PyProof.Rows L2 Sw Sq L2
section
variable {f1 f2:FM}{td x1 x3:D}{N hs:List D}
theorem rD (e1:f1 [.t td]=some (.m (.lst hs),[])) (e2:∀d,f2 [.t d]=some (.t (.bl (sO d)),[])):∀(R:List D) (x4:Option U),lW x4=false→(∀o∈R,je 1000 o)→
    ∃y4,loop (bName 4) (bM f1 f2) R [some (.t td),some (.t x1),some (.t (.tup N)),some (.t x3),x4]=some (if R.all (dc hs.length N.length)=true then .nx [some (.t td),some (.t x1),some (.t (.tup N)),some (.t x3),y4] else .rt (.t (.bl false)) [some (.t td),some (.t x1),some (.t (.tup N)),some (.t x3),y4])
  | [],x4,h4,_=>⟨x4,rfl⟩
  | o :: R, x4, h4, hR => by
    have tr:=AS (x1:=x1) (x3:=x3) (N:=N) (hR o List.mem_cons_self) e1 e2
    have eb:bName 4 o [some (.t td),some (.t x1),some (.t (.tup N)),some (.t x3),x4]=some [some (.t td),some (.t x1),some (.t (.tup N)),some (.t x3),some (.t o)]:=by simp[-iT,gw,h4]
    obtain⟨y4,ih⟩:=rD e1 e2 R (some (.t o)) rfl fun o ho=>hR o (List.mem_cons_of_mem _ ho)
    rw[rC,eb,Option.bind_some,tr,Option.bind_some]
    cases q:dc hs.length N.length o with
    | true=>
      refine⟨y4,?_⟩
      rw[if_pos rfl,List.all_cons,q,Bool.true_and]
      exact ih
    | false=>
      refine⟨some (.t o),?_⟩
      rw[if_neg (by decide),List.all_cons,q,Bool.false_and,if_neg (by decide)]
noncomputable def uC (w:Int):D→Bool
 | .tup [.tup N,.tup M]=>decide (1≤N.length) && (decide (N.length=M.length) && N.all (dc w N.length))
 | _=>false
theorem Cm {a b : D} (hf : je 1000 (.tup [a, b])) (e1 : f1 [.t td] = some (.m (.lst hs), [])) (e2 : ∀ d, f2 [.t d] = some (.t (.bl (sO d)), [])) : aH 5 (aF f1 f2) [.t td, .t (.tup [a, b])] = some (.t (.bl (uC hs.length (.tup [a, b]))), []) := by
  cases a with
  | tup N =>
    cases b with
    | tup M =>
      by_cases h1:1≤N.length
      · have HP:¬((N.length:Int) < 1):=by omega
        by_cases h2:N.length=M.length
        · obtain⟨y4,lp⟩:=rD (x1:=.tup [.tup N,.tup M]) (x3:=.tup M) (N:=N) e1 e2 N none rfl fun o ho=>p5 hf.2.1.2 ho
          have en:uC hs.length (.tup [.tup N,.tup M])=N.all (dc hs.length N.length):=by simp[uC,h1,h2.symm]
          rw[en]
          cases hA:N.all (dc hs.length N.length) with
          | true=>rw[hA,if_pos rfl] at lp;simp[aH,aF,aA,cF,gf,dh,HP,h2.symm,jT,lp]
          | false=>rw[hA,if_neg (by decide)] at lp;simp[aH,aF,aA,cF,gf,dh,HP,h2.symm,jT,lp]
        · have h2':¬((N.length:Int)=M.length):=by omega
          simp[aH,aF,aA,cF,gf,dh,HP,h2,h2',uC]
      · have HP:(N.length:Int) < 1:=by omega
        simp[aH,aF,aA,cF,gf,dh,h1,HP,uC]
    | _=>simp[aH,aF,aA,cF,gf,dh,uC]
  | _=>simp[aH,aF,aA,cF,gf,dh,uC]
theorem HQ {d:D}(hf:je 1000 d) (e1:f1 [.t td]=some (.m (.lst hs),[])) (e2:∀d,f2 [.t d]=some (.t (.bl (sO d)),[])):aH 5 (aF f1 f2) [.t td,.t d]=some (.t (.bl (uC hs.length d)),[]):=by
 cases d with
 | tup ds=>
  match ds,hf with
  | [],hf=>simp[aH,aF,aA,cF,gf,dh,uC]
  | [a],hf=>simp[aH,aF,aA,cF,gf,dh,uC]
  | [a,b],hf=>exact Cm hf e1 e2
  | a :: b :: c :: r,hf=>
   have:¬((r.length:Int)+1+1+1=2):=by omega
   simp[aH,aF,aA,cF,gf,dh,uC,this]
 | _=>simp[aH,aF,aA,cF,gf,dh,uC]
end
noncomputable def zf:D→Bool
 | .bl _=>true
 | _=>false
noncomputable def Pa:List Str:=["yes","no","open"]
noncomputable def vV (d:D):Bool:=inD d (Pa.map D.str)
noncomputable def AU:D→List D
 | .tup [_,.tup M]=>M
 | _=>[]
noncomputable def eG (dz:FM):GS:=
 (bg (pB (mH (qB (eF (aL dz (aX (eF (ao 0)) (aX (eF (ao 1)) bC)))))) (cL (eP fZ (aa (eC (.bl false)) (aa (eC (.bl false)) aq)))) iM)
 (bg (bR 2 (iN [] (o8 (fH 1 (eC (.int 1)))) gq (rA ["bool"] (eF (ao 0)))))
 (bg (bR 3 (iN [] (o8 (fH 1 (eC (.int 1)))) gq (eQ (jX (qB (rA ["str"] (eF (ao 0)))) (qB (eF (eP Bb (aa (eF (ao 0)) (aa (eF (eP d7 (aa (eC (.str "yes")) (aa (eC (.str "no")) (aa (eC (.str "open")) aq))))) aq)))))))))
 (cL (eP fZ (aa (eF (eP jo (aa (eC (.bl false)) (aa (eF (ao 2)) aq)))) (aa (eF (eP jo (aa (eC (.bl false)) (aa (eF (ao 3)) aq)))) aq)))))))
theorem xg (d:D):Bb [d,.tup [.str "yes",.str "no",.str "open"]]=some (.t (.bl (vV d))):=by
 have:bK [D.str "yes",.str "no",.str "open"]≤40:=by decide
 cases d <;> simp[Bb,this,vV,Pa]
theorem Ex {d:D}(h:vV d=true):sf d=true:=by
 unfold vV inD at h
 rw[List.any_map,List.any_eq_true] at h
 obtain⟨z,_,e⟩:=h
 rw[yc (show m8 (.str z) d=true from e)]
 rfl
theorem uD (bs : List Bool) : jo [.bl false, .lst (bs.map D.bl)] = some (.t (.bl (bs.all id))) := by
  have h:bK (bs.map D.bl)≤40:=by
    have:bK (bs.map D.bl)=0:=by
      induction bs with
      | nil=>rfl
      | cons b r ih=>show max 0 (bK (r.map D.bl))=0;rw[ih];rfl
    omega
  have e:(!inD (.bl false) (bs.map D.bl))=bs.all id:=by
    unfold inD
    induction bs with
    | nil=>rfl
    | cons b r ih=>
      have hr:bK (r.map D.bl)≤40:=by
        have:bK ((b :: r).map D.bl)=max 0 (bK (r.map D.bl)):=rfl
        omega
      rw[List.map_cons,List.any_cons,Bool.not_or,ih hr,List.all_cons]
      cases b <;> rfl
  show(if bK (bs.map D.bl)≤40 then some (U.t (.bl (!inD (.bl false) (bs.map D.bl)))) else none)=_
  rw[if_pos h,e]
section
variable {f1:FM}{td d:D}{M:List D}
theorem Ey (e1:f1 [.t td,.t d]=some (.t (.bl false),[])):aH 4 (eG f1) [.t td,.t d]=some (.m (.lst [.bl false,.bl false]),[]):=by
 simp[aH,eG,aA,e1]
theorem Cn {a:D}(hl:M.length≤100000) (e1:f1 [.t td,.t (.tup [a,.tup M])]=some (.t (.bl true),[])):aH 4 (eG f1) [.t td,.t (.tup [a,.tup M])]=some (.m (.lst [.bl (M.all zf),.bl (M.all vV)]),[]):=by
 have c1:=jA (cap:=[]) (g:=rA ["bool"] (eF (ao 0))) (S:=[some (.t td),some (.t (.tup [a,.tup M])),none,none]) (ts:=[]) rfl (fun s=>.bl (zf s)) M [] (by intro s _;cases s <;> simp[cF,gf,qY,zf])
 have c2:=jA (cap:=[]) (g:=eQ (jX (qB (rA ["str"] (eF (ao 0)))) (qB (eF (eP Bb (aa (eF (ao 0)) (aa (eF (eP d7 (aa (eC (.str "yes")) (aa (eC (.str "no")) (aa (eC (.str "open")) aq))))) aq))))))) (S:=[some (.t td),some (.t (.tup [a,.tup M])),some (.m (.lst (M.map fun s=>.bl (zf s)))),none]) (ts:=[]) rfl (fun s=>.bl (vV s)) M [] (by
  intro s _
  have i:=xg s
  cases q:sf s with
  | true=>simp[cF,gf,q,i]
  | false=>
   have:vV s=false:=by cases h:vV s with | false=>rfl | true=>rw[Ex h] at q;cases q
   simp[cF,gf,q,this])
 rw[List.nil_append] at c1 c2
 have n1:=uD (M.map zf)
 have n2:=uD (M.map vV)
 rw[List.map_map,List.all_map] at n1 n2
 have n1:jo [.bl false,.lst (M.map fun s=>.bl (zf s))]=some (.t (.bl (M.all zf))):=n1
 have n2:jo [.bl false,.lst (M.map fun s=>.bl (vV s))]=some (.t (.bl (M.all vV))):=n2
 simp[aH,eG,aA,e1,sN,jT,hl,c1,c2,n1,n2]
end
end Sg
end
section
set_option Elab.async false
set_option linter.all false
set_option maxRecDepth 100000
namespace Sg
open PySem PySem.Spec PyProof.Rows L2 Sw Sq
noncomputable def cQ (aD:FM):GS:=
 (bg (bR 2 (eP fZ (aa (eC (.int 0)) (aa (eC (.int 1)) (aa (eF (eP BR (aa (eC (.int 1)) aq))) (aa (eC (.int 7)) (aa (eC (.bl true)) (aa (eC (.bl false)) (aa (eC .cg) (aa (eC (.str "yes")) (aa (eC (.str "no")) (aa (eC (.str "open")) (aa (eC (.str "shut")) (aa (eC (.str "")) (aa (eF (eP d7 aq)) (aa (eF (eP d7 (aa (eC (.int 0)) aq))) (aa (eF (eP fZ (aa (eC (.int 0)) aq))) (aa (eF (eP vK (aa (eC (.int 10)) (aa (eC (.int 19)) aq)))) aq))))))))))))))))))
 (bg (bR 3 (aL aD (cY (ao 0) (aX (eF (eP cD (aa (gr 1) (aa (eC (.int 1)) aq)))) bC))))
 (bg (bR 4 (eT (fH 2 (eF (aL aD (cY (ao 0) (aX (gr 2) bC)))))))
 (bg (bR 5 (eP fZ (aa (eF (eP cD (aa (eF (qx (eF (ao 1)) none (some (eF (ao 3))))) (aa (eF (qx (eF (ao 1)) (some (eF (eP cD (aa (eF (ao 3)) (aa (eC (.int 1)) aq))))) none)) aq)))) (aa (eF (eP cD (aa (eF (eP cD (aa (eF (qx (eF (ao 1)) none (some (eF (ao 3))))) (aa (eF (qx (eF (ao 1)) (some (eF (ao 3))) (some (eF (eP cD (aa (eF (ao 3)) (aa (eC (.int 1)) aq))))))) aq)))) (aa (eF (qx (eF (ao 1)) (some (eF (ao 3))) none)) aq)))) (aa (eF (eP pS (aa (eF (ao 1)) aq))) aq)))))
 (bg (bR 5 (eP cD (aa (eF (ao 5)) (aa (eF (eP fZ (aa (eF (eP cD (aa (eF (eP cD (aa (eF (qx (eF (ao 1)) none (some (eF (ao 3))))) (aa (eF (eP d7 (aa (eF (ao 4)) aq))) aq)))) (aa (eF (qx (eF (ao 1)) (some (eF (ao 3))) none)) aq)))) (aa (eF (eP cD (aa (eF (eP cD (aa (eF (qx (eF (ao 1)) none (some (eF (ao 3))))) (aa (eF (eP d7 (aa (eF (ao 4)) aq))) aq)))) (aa (eF (qx (eF (ao 1)) (some (eF (eP cD (aa (eF (ao 3)) (aa (eC (.int 1)) aq))))) none)) aq)))) aq)))) aq))))
 (cL (eT (fH 5 (eF (aL aD (cY (ao 0) (aX (eC (.int 5)) bC))))))))))))
noncomputable def bx (aD:FM) (cJ:FM):GS:=
 (bg (BU (sC 2 (ji (bName 2) (ji (bName 3) tV))) (eF (ao 1)))
 (bg (bR 4 (aL aD (cY (ao 0) (aX (eC (.int 8)) bC))))
 (bg (pB (qB (eF (eP zd (aa (eF (ao 4)) (aa (eC (.int 3)) aq))))) (bg (bR 5 (aL aD (cY (ao 0) (aX (gr 2) bC))))
 (cL (eP d7 (aa (eF (eP cD (aa (eF (eP cD (aa (eF (qx (eF (ao 2)) none (some (eF (ao 5))))) (aa (eF (eP d7 (aa (eF (aL cJ (cY (ao 0) (aX (fH 2 (eF (ao 5))) bC)))) aq))) aq)))) (aa (eF (qx (eF (ao 2)) (some (eF (eP cD (aa (eF (ao 5)) (aa (eC (.int 1)) aq))))) none)) aq)))) (aa (eF (ao 3)) aq))))) iM)
 (bg (pB (qB (eF (eP D3 (aa (eF (ao 4)) (aa (eC (.int 3)) aq))))) (cL (eP d7 (aa (eF (aL cJ (cY (ao 0) (aX (eF (ao 2)) bC)))) (aa (eF (ao 3)) aq)))) iM)
 (bg (pB (qB (eF (eP zd (aa (eF (ao 4)) (aa (eC (.int 6)) aq))))) (cL (eP d7 (aa (eF (ao 2)) (aa (eF (aL cJ (cY (ao 0) (aX (eF (ao 3)) bC)))) aq)))) iM)
 (bg (pB (qB (eF (eP D3 (aa (eF (ao 4)) (aa (eC (.int 6)) aq))))) (cL (eP d7 (aa (eF (ao 2)) (aa (eF (ao 3)) aq)))) iM)
 (bg (bR 6 (eP fZ (aa (eC .cg) (aa (eF (eP d7 aq)) (aa (eC (.int 0)) (aa (eC (.str "judge")) (aa (eF (eP fZ (aa (eF (ao 2)) (aa (eF (ao 3)) aq)))) (aa (eF (eP d7 (aa (eF (ao 2)) aq))) (aa (eF (eP d7 (aa (eF (ao 3)) (aa (eF (ao 2)) aq)))) (aa (eF (eP d7 (aa (eF (ao 2)) (aa (eF (ao 3)) (aa (eF (eP d7 aq)) aq))))) (aa (eF (eP d7 (aa (eF (eP d7 aq)) (aa (eF (eP d7 aq)) aq)))) aq)))))))))))
 (bg (pN (eT (eM 6 hAppend (aa (eF (eP d7 (aa (eF (ao 2)) (aa (eF (eP pS (aa (eF (ao 3)) aq))) aq)))) aq))))
 (cL (eT (fH 6 (eF (aL aD (cY (ao 0) (aX (eC (.int 10)) bC)))))))))))))))
noncomputable def HR:List D:=[.int 0,.int 1,.int (-1),.int 7,.bl true,.bl false,.cg,.str "yes",.str "no",.str "open",.str "shut",.str "",.tup [],.tup [.int 0],.lst [.int 0],.int 10000000000000000000]
theorem fO (ds:List D) (lo hi:Option Int):(L2.cutD ds lo hi).length≤ds.length:=by
 unfold L2.cutD
 rw[List.length_take,List.length_drop]
 omega
theorem sP {ds:List D}{lo hi:Option Int}{x:D}(h:x∈L2.cutD ds lo hi):x∈ds:=List.mem_of_mem_drop (List.mem_of_mem_take h)
section
variable {f1:FM}{T0 T1 T2 T3:MO}{ds:List D}{k v w:Int}{o r:D}
theorem AV (hl:ds.length≤1000) (p1:f1 [.b T0,.t (.int ((ds.length:Int)+1))]=some (.t (.int k),[T1])) (p2:f1 [.b T1,.t (.int 16)]=some (.t (.int v),[T2])) (ho:gG HR v=some o) (p3:f1 [.b T2,.t (.int 5)]=some (.t (.int w),[T3]))
  (hw:gG [.tup (L2.cutD ds none (some k)++L2.cutD ds (some (k+1)) none),.tup (L2.cutD ds none (some k)++L2.cutD ds (some k) (some (k+1))++L2.cutD ds (some k) none),.lst ds,.tup (L2.cutD ds none (some k)++[o]++L2.cutD ds (some k) none),.tup (L2.cutD ds none (some k)++[o]++L2.cutD ds (some (k+1)) none)] w=some r):
  aH 6 (cQ f1) [.b T0,.t (.tup ds)]=some (.t r,[T3]):=by
 have c1:=fO ds none (some k)
 have c2:=fO ds (some (k+1)) none
 have c3:=fO ds (some k) (some (k+1))
 have c4:=fO ds (some k) none
 have l1:(L2.cutD ds none (some k)).length+(L2.cutD ds (some (k+1)) none).length≤100000:=by omega
 have l2:(L2.cutD ds none (some k)).length+(L2.cutD ds (some k) (some (k+1))).length≤100000:=by omega
 have l3:(L2.cutD ds none (some k)).length+(L2.cutD ds (some k) (some (k+1))).length+(L2.cutD ds (some k) none).length≤100000:=by omega
 have l4:(L2.cutD ds none (some k)).length+1≤100000:=by omega
 have l5:(L2.cutD ds none (some k)).length+1+(L2.cutD ds (some k) none).length≤100000:=by omega
 have l6:(L2.cutD ds none (some k)).length+1+(L2.cutD ds (some (k+1)) none).length≤100000:=by omega
 have Te:(L2.cutD ds none (some k)).length+((L2.cutD ds (some k) none).length+1)≤100000:=by omega
 unfold HR at ho
 generalize hA:L2.cutD ds none (some k)=A at *
 generalize hB:L2.cutD ds (some (k+1)) none=B at *
 generalize hC:L2.cutD ds (some k) (some (k+1))=C at *
 generalize hE:L2.cutD ds (some k) none=E at *
 have pw:vK [.int 10,.int 19]=some (.t (.int 10000000000000000000)):=rfl
 simp only[List.append_assoc,List.cons_append,List.nil_append] at hw
 simp[-iT,gw,aH,cQ,aA,p1,p2,ho,p3,hw,hA,hB,hC,hE,l1,l2,l3,l4,l5,l6,pw,lW]
end
theorem fits_of {n:Nat}:∀{l:List D},(∀x∈l,je n x)→Fits n l
 | [],_=>True.intro
 | x :: l,h=>⟨h x List.mem_cons_self,fits_of fun y hy=>h y (List.mem_cons_of_mem _ hy)⟩
theorem iX {n:Nat}{l:List D}(hl:l.length≤n) (h:∀x∈l,je n x):je n (.tup l):=⟨hl,fits_of h⟩
theorem Co:∀x∈HR,je 200 x:=by
 intro x hx
 simp only[HR,List.mem_cons,List.not_mem_nil,or_false] at hx
 rcases hx with rfl | rfl | rfl | rfl | rfl | rfl | rfl | rfl | rfl | rfl | rfl | rfl | rfl | rfl | rfl | rfl
 ·exact True.intro
 ·exact True.intro
 ·exact True.intro
 ·exact True.intro
 ·exact True.intro
 ·exact True.intro
 ·exact True.intro
 ·show 3≤200;omega
 ·show 2≤200;omega
 ·show 4≤200;omega
 ·show 4≤200;omega
 ·show 0≤200;omega
 ·exact⟨by show 0≤200;omega,True.intro⟩
 ·exact⟨by show 1≤200;omega,True.intro,True.intro⟩
 ·exact⟨by show 1≤200;omega,True.intro,True.intro⟩
 ·exact True.intro
noncomputable def yq:FM:=aH 6 (cQ dm)
theorem Cp:∀us r,yq us=some r→aH 6 (cQ dm) us=some r:=fun _ _ h=>h
theorem vW (c l:Int){i:Int}{ds:List D}(h0:0≤i) (h1:i < 800000) (hl:ds.length≤60) (hf:∀x∈ds,je 200 x):∃r i' l',yq [.b (fd c i l),.t (.tup ds)]=some (.t r,[fd c i' l'])∧je 200 r∧i≤i'∧i'≤i+3:=by
 obtain⟨k,l1,p1,k0,k1⟩:=eY c l h0 (by omega) (m:=(ds.length:Int)+1) (by omega) (by omega)
 obtain⟨v,l2,p2,v0,v1⟩:=eY c l1 (i:=i+1) (m:=16) (by omega) (by omega) (by omega) (by omega)
 obtain⟨w,l3,p3,w0,w1⟩:=eY c l2 (i:=i+1+1) (m:=5) (by omega) (by omega) (by omega) (by omega)
 obtain⟨o,ho,hm⟩:=lV (l:=HR) v0 (by show v < 16;omega)
 have fo:=Co o (List.mem_of_getElem? hm)
 have go:∀r,gG [.tup (L2.cutD ds none (some k)++L2.cutD ds (some (k+1)) none),.tup (L2.cutD ds none (some k)++L2.cutD ds (some k) (some (k+1))++L2.cutD ds (some k) none),.lst ds,.tup (L2.cutD ds none (some k)++[o]++L2.cutD ds (some k) none),.tup (L2.cutD ds none (some k)++[o]++L2.cutD ds (some (k+1)) none)] w=some r→je 200 r→
   ∃r i' l',yq [.b (fd c i l),.t (.tup ds)]=some (.t r,[fd c i' l'])∧je 200 r∧i≤i'∧i'≤i+3:=fun r hr hfr=>⟨r,_,_,AV (by omega) p1 p2 ho p3 hr,hfr,by omega,by omega⟩
 have c1:=fO ds none (some k)
 have c2:=fO ds (some (k+1)) none
 have c3:=fO ds (some k) (some (k+1))
 have c4:=fO ds (some k) none
 have fc:∀{lo hi:Option Int}{x:D},x∈L2.cutD ds lo hi→je 200 x:=fun h=>hf _ (sP h)
 have:w=0∨w=1∨w=2∨w=3∨w=4:=by omega
 rcases this with rfl | rfl | rfl | rfl | rfl
 ·exact go _ rfl (iX (by rw[List.length_append];omega) fun x hx=>by rcases List.mem_append.mp hx with q | q <;> exact fc q)
 ·refine go _ rfl (iX (by rw[List.length_append,List.length_append];omega) fun x hx=>?_)
  rcases List.mem_append.mp hx with q | q
  ·rcases List.mem_append.mp q with q | q <;> exact fc q
  ·exact fc q
 ·exact go _ rfl ⟨by omega,fits_of hf⟩
 ·refine go _ rfl (iX (by rw[List.length_append,List.length_append];show _+1+_≤_;omega) fun x hx=>?_)
  rcases List.mem_append.mp hx with q | q
  ·rcases List.mem_append.mp q with q | q
   ·exact fc q
   ·rw[List.mem_singleton.mp q];exact fo
  ·exact fc q
 ·refine go _ rfl (iX (by rw[List.length_append,List.length_append];show _+1+_≤_;omega) fun x hx=>?_)
  rcases List.mem_append.mp hx with q | q
  ·rcases List.mem_append.mp q with q | q
   ·exact fc q
   ·rw[List.mem_singleton.mp q];exact fo
  ·exact fc q
section
variable {f1 f2:FM}{T0 T1 T2 T3:MO}{A M:List D}{w k:Int}{r x:D}
theorem Cq (hA:A.length≤1000) (p1:f1 [.b T0,.t (.int 8)]=some (.t (.int w),[T1])) (hw:w < 3) (p2:f1 [.b T1,.t (.int A.length)]=some (.t (.int k),[T2])) (hk:gG A k=some x) (p3:f2 [.b T2,.t x]=some (.t r,[T3])):
  aH 7 (bx f1 f2) [.b T0,.t (.tup [.tup A,.tup M])]=some (.t (.tup [.tup (L2.cutD A none (some k)++[r]++L2.cutD A (some (k+1)) none),.tup M]),[T3]):=by
 have c1:=fO A none (some k)
 have c2:=fO A (some (k+1)) none
 have l1:(L2.cutD A none (some k)).length+1≤100000:=by omega
 have l2:(L2.cutD A none (some k)).length+1+(L2.cutD A (some (k+1)) none).length≤100000:=by omega
 simp[-iT,gw,lW,aH,bx,aA,p1,hw,p2,hk,p3,l1,l2]
theorem AW (p1:f1 [.b T0,.t (.int 8)]=some (.t (.int 3),[T1])) (p3:f2 [.b T1,.t (.tup A)]=some (.t r,[T3])):
  aH 7 (bx f1 f2) [.b T0,.t (.tup [.tup A,.tup M])]=some (.t (.tup [r,.tup M]),[T3]):=by
 simp[-iT,gw,lW,aH,bx,aA,p1,p3]
theorem AX (p1:f1 [.b T0,.t (.int 8)]=some (.t (.int w),[T1])) (h3:3 < w) (h6:w < 6) (p3:f2 [.b T1,.t (.tup M)]=some (.t r,[T3])):
  aH 7 (bx f1 f2) [.b T0,.t (.tup [.tup A,.tup M])]=some (.t (.tup [.tup A,r]),[T3]):=by
 have a1:¬w < 3:=by omega
 have a2:¬w=3:=by omega
 simp[-iT,gw,lW,aH,bx,aA,p1,a1,a2,h6,p3]
theorem Cr (p1:f1 [.b T0,.t (.int 8)]=some (.t (.int 6),[T1])):
  aH 7 (bx f1 f2) [.b T0,.t (.tup [.tup A,.tup M])]=some (.t (.tup [.tup A,.tup M]),[T1]):=by
 simp[-iT,gw,lW,aH,bx,aA,p1]
noncomputable def sQ (A M:List D):List D:=[.cg,.tup [],.int 0,.str "judge",.lst [.tup A,.tup M],.tup [.tup A],.tup [.tup M,.tup A],.tup [.tup A,.tup M,.tup []],.tup [.tup [],.tup []],.tup [.tup A,.lst M]]
theorem Cs (p1:f1 [.b T0,.t (.int 8)]=some (.t (.int 7),[T1])) (p2:f1 [.b T1,.t (.int 10)]=some (.t (.int k),[T2])) (hk:gG (sQ A M) k=some x):
  aH 7 (bx f1 f2) [.b T0,.t (.tup [.tup A,.tup M])]=some (.t x,[T2]):=by
 unfold sQ at hk
 simp[-iT,gw,lW,aH,bx,aA,p1,p2,hk]
end
noncomputable def uE:FM:=aH 7 (bx dm yq)
theorem yr:∀us r,uE us=some r→aH 7 (bx dm yq) us=some r:=fun _ _ h=>h
theorem AY (c l : Int) {i : Int} {A M : List D} (h0 : 0 ≤ i) (h1 : i < 700000) (a0 : 0 < A.length) (a1 : A.length ≤ 60) (hA : ∀ x ∈ A, ∃ ds, x = .tup ds ∧ ds.length ≤ 60 ∧ ∀ y ∈ ds, je 200 y) (m1 : M.length ≤ 60) (hM : ∀ x ∈ M, je 200 x) :
    ∃r i' l',uE [.b (fd c i l),.t (.tup [.tup A,.tup M])]=some (.t r,[fd c i' l'])∧je 200 r∧i≤i'∧i'≤i+8:=by
  have fA:∀x∈A,je 200 x:=fun x hx=>by obtain⟨ds,rfl,h2,h3⟩:=hA x hx;exact iX (by omega) h3
  have Ez:je 200 (.tup A):=iX (by omega) fA
  have Fj:je 200 (.tup M):=iX (by omega) hM
  have two:∀{a b:D},je 200 a→je 200 b→je 200 (.tup [a,b]):=fun ha hb=>⟨by show 2≤200;omega,ha,hb,True.intro⟩
  obtain⟨w,l1,p1,w0,w1⟩:=eY c l h0 (by omega) (m:=8) (by omega) (by omega)
  by_cases c3:w < 3
  · obtain⟨k,l2,p2,k0,k1⟩:=eY c l1 (i:=i+1) (m:=A.length) (by omega) (by omega) (by omega) (by omega)
    obtain⟨x,hk,hx⟩:=lV (l:=A) k0 k1
    obtain⟨ds,rfl,d1,d2⟩:=hA x (List.mem_of_getElem? hx)
    obtain⟨r,i3,l3,p3,fr,i4,i5⟩:=vW c l2 (i:=i+1+1) (ds:=ds) (by omega) (by omega) d1 d2
    refine⟨_,i3,l3,Cq (by omega) p1 c3 p2 hk p3,two (iX ?_ fun y hy=>?_) Fj,by omega,by omega⟩
    · have:=fO A none (some k)
      have:=fO A (some (k+1)) none
      rw[List.length_append,List.length_append]
      show _+1+_≤_
      omega
    · rcases List.mem_append.mp hy with q | q
      · rcases List.mem_append.mp q with q | q
        · exact fA _ (sP q)
        · rw[List.mem_singleton.mp q];exact fr
      · exact fA _ (sP q)
  · by_cases e3:w=3
    · subst e3
      obtain⟨r,i3,l3,p3,fr,i4,i5⟩:=vW c l1 (i:=i+1) (ds:=A) (by omega) (by omega) (by omega) fA
      exact⟨_,i3,l3,AW p1 p3,two fr Fj,by omega,by omega⟩
    · by_cases c6:w < 6
      · obtain⟨r,i3,l3,p3,fr,i4,i5⟩:=vW c l1 (i:=i+1) (ds:=M) (by omega) (by omega) (by omega) hM
        exact⟨_,i3,l3,AX p1 (by omega) c6 p3,two Ez fr,by omega,by omega⟩
      · by_cases e6:w=6
        · subst e6
          exact⟨_,_,_,Cr p1,two Ez Fj,by omega,by omega⟩
        · have e7:w=7:=by omega
          subst e7
          obtain⟨k,l2,p2,k0,k1⟩:=eY c l1 (i:=i+1) (m:=10) (by omega) (by omega) (by omega) (by omega)
          obtain⟨x,hk,hx⟩:=lV (l:=sQ A M) k0 (by show k < 10;omega)
          refine⟨x,_,_,Cs p1 p2 hk,?_,by omega,by omega⟩
          have hx:=List.mem_of_getElem? hx
          simp only[sQ,List.mem_cons,List.not_mem_nil,or_false] at hx
          have e0:je 200 (.tup []):=⟨by show 0≤200;omega,True.intro⟩
          rcases hx with rfl | rfl | rfl | rfl | rfl | rfl | rfl | rfl | rfl | rfl
          · exact True.intro
          · exact e0
          · exact True.intro
          · show 5≤200;omega
          · exact⟨by show 2≤200;omega,Ez,Fj,True.intro⟩
          · exact⟨by show 1≤200;omega,Ez,True.intro⟩
          · exact two Fj Ez
          · exact⟨by show 3≤200;omega,Ez,Fj,e0,True.intro⟩
          · exact two e0 e0
          · exact two Ez ⟨by omega,fits_of hM⟩
end Sg
end
section
set_option Elab.async false
set_option linter.all false
set_option maxRecDepth 100000
namespace Sg
open PySem PySem.Spec PyProof.Rows L2 Sw Sq
theorem xh {i:Nat}{g:GD}{S:SS}{a:Addr}(hc:S[i]? =some (some (.f a))) (f:D→D):∀(ds acc:List D),(∀d∈ds,g [some (.t d),some (.f a)]=some (f d,[some (.t d),some (.f a)]))→d8 [i] gq g ds S acc=some (acc++ds.map f,S)
 | [],acc,_=>by simp[d8]
 | d :: ds,acc,hg=>by
  have ih:=xh hc f ds (acc++[f d]) fun e he=>hg e (List.mem_cons_of_mem _ he)
  have h1:=hg d List.mem_cons_self
  have c:g8 S [i]=some [.f a]:=by simp[g8,pO,hc]
  have w:wb [.f a] [] S=some S:=rfl
  simp[d8,c,slotsOf,bS,h1,aA,w,ih]
noncomputable def iY:GS:=
 (cL (eT (rA ["bool"] (eF (ao 0)))))
noncomputable def gB:GS:=
 (cL (eP Bb (aa (eF (ao 0)) (aa (eF (eP d7 (aa (eC (.str "yes")) (aa (eC (.str "no")) (aa (eC (.str "open")) aq))))) aq))))
noncomputable def bq (cP:FM) (jE:FM) (jF:FM) (ir:FM) (cB:Addr) (bQ:Addr):GS:=
 (bg (pB (A9 (mH (qB (eF (aL cP (aX (eF (ao 1)) (aX (eC (.int 2)) (aX (eC (.int 2)) bC))))))) (mH (qB (eF (aL jE (aX (eF (ao 0)) (aX (fH 1 (eC (.int 0))) bC))))))) (cL (eT (eC (.bl false)))) iM)
 (bg (bR 3 (eP pM (aa (fH 1 (eC (.int 0))) aq)))
 (cL (eT (eQ (jX (qB (eF (aL cP (aX (fH 1 (eC (.int 1))) (aX (eF (ao 3)) (aX (eF (ao 3)) bC)))))) (qB (eF (eP vM (aa (eF (iN [2] (o8 (fH 1 (eC (.int 1)))) gq (eF (pW 1 [(cB,jF),(bQ,ir)] (aX (eF (ao 0)) bC))))) aq))))))))))
noncomputable def iZ (bW:FM) (cB:Addr):GS:=
 (cL (aL bW (aX (eF (ao 0)) (aX (eF (ao 1)) (cY (eFn cB) bC)))))
noncomputable def gC (bW:FM) (bQ:Addr):GS:=
 (cL (aL bW (aX (eF (ao 0)) (aX (eF (ao 1)) (cY (eFn bQ) bC)))))
noncomputable def nA:FM:=aH 1 iY
theorem yt:∀us r,nA us=some r→aH 1 iY us=some r:=fun _ _ h=>h
theorem AZ (d:D):nA [.t d]=some (.t (.bl (zf d)),[]):=by cases d <;> simp[nA,aH,iY,aA,cF,gf,qY,zf]
noncomputable def rE:FM:=aH 1 gB
theorem A0:∀us r,rE us=some r→aH 1 gB us=some r:=fun _ _ h=>h
theorem Ct (d:D):rE [.t d]=some (.t (.bl (vV d)),[]):=by
 have i:=xg d
 simp[rE,aH,gB,aA,i]
noncomputable def fU (w:Int) (wd:D→Bool):D→Bool
 | .tup [n,m]=>iz w n && (match n,m with | .tup N,.tup M=>decide (M.length=N.length) && M.all wd | _,_=>false)
 | _=>false
section
variable {f2 f3 f4 fw:FM}{td:D}{aT aV a:Addr}{w:Int}{wd:D→Bool}
theorem Cu {n m : D} (hf : je 1000 (.tup [n, m])) (e2 : f2 [.t td, .t n] = some (.t (.bl (iz w n)), [])) (hl : [(aT, f3), (aV, f4)].find? (fun p => p.1 == a) = some (a, fw)) (hw : ∀ x, fw [.t x] = some (.t (.bl (wd x)), [])) :
    aH 4 (bq iU f2 f3 f4 aT aV) [.t td,.t (.tup [n,m]),.f a]=some (.t (.bl (fU w wd (.tup [n,m]))),[]):=by
  have t1:iU [.t (.tup [n,m]),.t (.int 2),.t (.int 2)]=some (.t (.bl true),[]):=rfl
  cases q:iz w n with
  | false=>
    rw[q] at e2
    simp[aH,bq,aA,t1,sM,e2,fU,q]
  | true=>
    rw[q] at e2
    cases n with
    | tup N =>
      have t2:=nv m N.length N.length
      cases m with
      | tup M =>
        by_cases h:M.length=N.length
        · have t3:dQ (.tup M) N.length N.length=true:=by simp[dQ,h]
          rw[t3] at t2
          have hM:M.length≤100000:=Nat.le_trans hf.2.2.1.1 (by decide)
          have c:=xh (i:=2) (g:=eF (pW 1 [(aT,f3),(aV,f4)] (aX (eF (ao 0)) bC))) (S:=[some (.t td),some (.t (.tup [.tup N,.tup M])),some (.f a),some (.t (.int N.length))]) (a:=a) rfl (fun s=>.bl (wd s)) M [] (by
            intro s _
            have:=hw s
            simp[hl,this])
          rw[List.nil_append] at c
          have b:=jB wd M
          have e5:(M.map wd).all id=M.all wd:=by rw[List.all_map];rfl
          have en:fU w wd (.tup [.tup N,.tup M])=(M.map wd).all id:=by rw[e5];simp[fU,q,h]
          rw[en]
          simp[-List.all_map,aH,bq,aA,t1,sM,sN,e2,t2,jT,hM,c,b]
        · have t3:dQ (.tup M) N.length N.length=false:=by
            simp only[dQ,Bool.and_eq_false_iff,decide_eq_false_iff_not]
            omega
          rw[t3] at t2
          have en:fU w wd (.tup [.tup N,.tup M])=false:=by simp[fU,h]
          rw[en]
          simp[aH,bq,aA,t1,sM,sN,e2,t2]
      | _=>
        rw[show dQ _ (N.length:Int) N.length=false from rfl] at t2
        simp[aH,bq,aA,t1,sM,sN,e2,t2,fU]
    | _=>cases q
theorem C3 {d:D}(hf:je 1000 d) (e2:∀n,je 1000 n→f2 [.t td,.t n]=some (.t (.bl (iz w n)),[])) (hl:[(aT,f3),(aV,f4)].find? (fun p=>p.1 == a)=some (a,fw)) (hw:∀x,fw [.t x]=some (.t (.bl (wd x)),[])):
  aH 4 (bq iU f2 f3 f4 aT aV) [.t td,.t d,.f a]=some (.t (.bl (fU w wd d)),[]):=by
 have t1:=nv d 2 2
 cases d with
 | tup ds=>
  match ds,hf,t1 with
  | [],hf,t1=>simp[aH,bq,aA,t1,dQ,fU]
  | [a],hf,t1=>simp[aH,bq,aA,t1,dQ,fU]
  | [n,m],hf,t1=>exact Cu hf (e2 n hf.2.1) hl hw
  | x :: b :: c :: r,hf,t1=>
   have:¬((r.length:Int)+1+1+1≤2):=by omega
   have t2:dQ (.tup (x :: b :: c :: r)) 2 2=false:=by simp[dQ,this]
   rw[t2] at t1
   simp[aH,bq,aA,t1,fU]
 | _=>simp[aH,bq,aA,t1,dQ,fU]
end
noncomputable def C4 (aT aV:Addr):FM:=aH 4 (bq iU kB nA rE aT aV)
theorem EA (aT aV:Addr):∀us r,C4 aT aV us=some r→aH 4 (bq iU kB nA rE aT aV) us=some r:=fun _ _ h=>h
noncomputable def nB (aT aV:Addr):FM:=aH 2 (iZ (C4 aT aV) aT)
theorem yu (aT aV:Addr):∀us r,nB aT aV us=some r→aH 2 (iZ (C4 aT aV) aT) us=some r:=fun _ _ h=>h
noncomputable def nC (aT aV:Addr):FM:=aH 2 (gC (C4 aT aV) aV)
theorem yw (aT aV:Addr):∀us r,nC aT aV us=some r→aH 2 (gC (C4 aT aV) aV) us=some r:=fun _ _ h=>h
theorem judge_ok {d td:D}{hs:List D}(aT aV:Addr) (hf:je 1000 d) (e0:lG [.t td]=some (.m (.lst hs),[])):nB aT aV [.t td,.t d]=some (.t (.bl (fU hs.length zf d)),[]):=by
 have e:C4 aT aV [.t td,.t d,.f aT]=some (.t (.bl (fU hs.length zf d)),[]):=C3 hf (fun n hn=>uB hn e0) (by simp) AZ
 simp[nB,aH,iZ,aA,e,slotsOf,bS,wb]
theorem A1 {d td:D}{hs:List D}{aT aV:Addr}(hne:aT≠aV) (hf:je 1000 d) (e0:lG [.t td]=some (.m (.lst hs),[])):nC aT aV [.t td,.t d]=some (.t (.bl (fU hs.length vV d)),[]):=by
 have e:C4 aT aV [.t td,.t d,.f aV]=some (.t (.bl (fU hs.length vV d)),[]):=C3 hf (fun n hn=>uB hn e0) (by simp[hne]) Ct
 simp[nC,aH,gC,aA,e,slotsOf,bS,wb]
theorem xj (w : Int) (wd : D → Bool) (d : D) : fU w wd d = (uC w d && (AU d).all wd) := by
  unfold fU uC AU
  split
  · rename_i n m
    cases n with
    | tup N =>
      cases m with
      | tup M =>
        by_cases h:N.length=M.length
        · by_cases h0:N=[]
          · subst h0;simp[iz]
          · have:1≤N.length:=by cases N with | nil=>exact absurd rfl h0 | cons=>simp
            simp[iz,h0,h.symm,this]
        · have h':¬M.length=N.length:=fun q=>h q.symm
          simp[h,h']
      | _=>simp
    | _=>simp[iz]
  · rename_i hn
    split
    · rename_i N M;exact absurd rfl (hn _ _)
    · rfl
noncomputable def A2:FM:=aH 4 (eG HN)
theorem Cv:∀us r,A2 us=some r→aH 4 (eG HN) us=some r:=fun _ _ h=>h
theorem EB {d td:D}{hs:List D}(hf:je 1000 d) (e0:iW [.t td]=some (.m (.lst hs),[])):A2 [.t td,.t d]=some (.m (.lst [.bl (fU hs.length zf d),.bl (fU hs.length vV d)]),[]):=by
 have e1:HN [.t td,.t d]=some (.t (.bl (uC hs.length d)),[]):=HQ hf e0 Eu
 rw[xj,xj]
 cases q:uC hs.length d with
 | false=>
  rw[q] at e1
  exact Ey e1
 | true=>
  rw[q] at e1
  obtain⟨N,M,rfl⟩:∃N M,d= .tup [.tup N,.tup M]:=by
   unfold uC at q
   split at q
   ·exact⟨_,_,rfl⟩
   ·cases q
  exact Cn (Nat.le_trans hf.2.2.1.1 (by decide)) e1
end Sg
end
section
set_option Elab.async false
set_option linter.all false
set_option maxRecDepth 100000
namespace Sg
open PySem PySem.Spec PyProof.Rows L2 Sw Sq
noncomputable def p6 (aW:FM) (aN:FM) (aJ:FM) (aU:FM) (bu:FM) (aP:FM) (bw:FM):GS:=
 (bg (bR 7 (eP fZ (aa (eF (aL bu (aX (eF (ao 2)) (aX (eF (ao 6)) bC)))) (aa (eF (aL aP (aX (eF (ao 2)) (aX (eF (ao 6)) bC)))) aq))))
 (pB (qB (eF (eP EX (aa (eF (eP um (aa (eF (ao 7)) aq))) (aa (eF (eP um (aa (eF (aL bw (aX (eF (ao 2)) (aX (eF (ao 6)) bC)))) aq))) aq))))) (cL (eT (eC (.bl false)))) iM))
noncomputable def nD (aW:FM) (aN:FM) (aJ:FM) (aU:FM) (bu:FM) (aP:FM) (bw:FM):GS:=
 (bg (bR 4 (eP Ba (aa (eF (eP fZ (aa (eF (eP fZ (aa (eC (.bl true)) (aa (eC (.bl false)) aq)))) (aa (eF (eP fZ (aa (eC (.str "yes")) (aa (eC (.str "no")) (aa (eC (.str "open")) aq))))) aq)))) (aa (eF (eP qu (aa (eF (ao 3)) (aa (eC (.int 2)) aq)))) aq))))
 (bg (bR 5 (aL aJ (cY (aL aW (cY (ao 0) (aX (eF (eP cD (aa (eC (.int 1)) (aa (eF (ao 3)) aq)))) bC))) (aX (eF (ao 2)) (aX (eF (ao 4)) bC)))))
 (mQ (bName 6) (o8 (eF (eP fZ (aa (eF (ao 5)) (aa (eF (aL aU (cY (ao 1) (aX (eF (ao 5)) bC)))) aq))))) (p6 aW aN aJ aU bu aP bw))))
noncomputable def uF (aW:FM) (aN:FM) (aJ:FM) (aU:FM) (bu:FM) (aP:FM) (bw:FM):GS:=
 (bg (bR 1 (aL aW (cY (ao 0) (aX (eC (.int 0)) bC))))
 (bg (bR 2 (aL aN (cY (ao 1) bC)))
 (bg (mQ (bName 3) (gn (aa (eC (.int 12)) aq)) (nD aW aN aJ aU bu aP bw))
 (cL (eT (eC (.bl true)))))))
theorem Cw (a b:Bool):CV (.lst [.bl a,.bl b]):=by cases a <;> cases b <;> decide +kernel
theorem A3 {d:D}(h:CV d):um [d]=some (.t (.str (toPy d).shown)):=by show(if CV d then some (U.t (.str (toPy d).shown)) else none)=_;rw[if_pos h]
section
variable {f1 f2 f3 f4 f5 f6 f7:FM}{a0 a1 a3 a4 a5 x6 x7:Option U}{td d md:D}{a b:Bool}
theorem Cy (h7:lW x7=false) (e5:f5 [.t td,.t d]=some (.t (.bl a),[])) (e6:f6 [.t td,.t d]=some (.t (.bl b),[])) (e7:f7 [.t td,.t d]=some (.m (.lst [.bl a,.bl b]),[])):
  p6 f1 f2 f3 f4 f5 f6 f7 [a0,a1,some (.t td),a3,a4,a5,some (.t d),x7]=some (.nx [a0,a1,some (.t td),a3,a4,a5,some (.t d),some (.t (.lst [.bl a,.bl b]))]):=by
 have r:=A3 (Cw a b)
 simp[-iT,gw,-B7,p6,h7,e5,e6,e7,r]
theorem xm {P:D→Prop}(hP:∀d,P d→∃a b,f5 [.t td,.t d]=some (.t (.bl a),[])∧f6 [.t td,.t d]=some (.t (.bl b),[])∧f7 [.t td,.t d]=some (.m (.lst [.bl a,.bl b]),[])):∀(L:List D) (x6 x7:Option U),lW x6=false→lW x7=false→(∀d∈L,P d)→
  ∃y6 y7,lW y6=false∧lW y7=false∧loop (bName 6) (p6 f1 f2 f3 f4 f5 f6 f7) L [a0,a1,some (.t td),a3,a4,a5,x6,x7]=some (.nx [a0,a1,some (.t td),a3,a4,a5,y6,y7])
 | [],x6,x7,h6,h7,_=>⟨x6,x7,h6,h7,rfl⟩
 | d :: L,x6,x7,h6,h7,hL=>by
  obtain⟨a,b,e5,e6,e7⟩:=hP d (hL d List.mem_cons_self)
  have tr:=Cy (f1:=f1) (f2:=f2) (f3:=f3) (f4:=f4) (a0:=a0) (a1:=a1) (a3:=a3) (a4:=a4) (a5:=a5) h7 e5 e6 e7
  obtain⟨y6,y7,q6,q7,lp⟩:=xm hP L (some (.t d)) (some (.t (.lst [.bl a,.bl b]))) rfl rfl fun e he=>hL e (List.mem_cons_of_mem _ he)
  refine⟨y6,y7,q6,q7,?_⟩
  have eb:bName 6 d [a0,a1,some (.t td),a3,a4,a5,x6,x7]=some [a0,a1,some (.t td),a3,a4,a5,some (.t d),x7]:=by simp[-iT,gw,h6]
  rw[rC,eb,Option.bind_some,tr,Option.bind_some]
  exact lp
theorem Cz {ns:List Int}{T0 T1 T2 T3:MO}{k:Int}{menu:List D}{y6 y7:Option U}{x4 x5:Option U}(h4:lW x4=false) (h5:lW x5=false) (hm:gG [D.lst [.bl true,.bl false],.lst [.str "yes",.str "no",.str "open"]] (k % 2)=some (.lst menu))
  (e1:f1 [.s ns,.t (.int (1+k))]=some (.m T1,[])) (e3:f3 [.b T1,.t td,.t (.lst menu)]=some (.t md,[T2])) (e4:f4 [.b T0,.t md]=some (.t d,[T3]))
  (lp:loop (bName 6) (p6 f1 f2 f3 f4 f5 f6 f7) [md,d] [some (.s ns),some (.m T3),some (.t td),some (.t (.int k)),some (.t (.lst menu)),some (.t md),x6,x7]=some (.nx [some (.s ns),some (.m T3),some (.t td),some (.t (.int k)),some (.t (.lst menu)),some (.t md),y6,y7])):
  nD f1 f2 f3 f4 f5 f6 f7 [some (.s ns),some (.m T0),some (.t td),some (.t (.int k)),x4,x5,x6,x7]=some (.nx [some (.s ns),some (.m T3),some (.t td),some (.t (.int k)),some (.t (.lst menu)),some (.t md),y6,y7]):=by
 have hk:qu [.int k,.int 2]=some (.t (.int (k % 2))):=by simp
 simp[-iT,gw,nD,h4,h5,hm,e1,e3,e4,jT,lp]
end
noncomputable abbrev CA (aT aV:Addr) (g:FM→FM→FM→FM→FM→FM→FM→GS):GS:=g oH yf uA uE (nB aT aV) (nC aT aV) A2
theorem CB (j:Nat):∃menu,gG [D.lst [.bl true,.bl false],.lst [.str "yes",.str "no",.str "open"]] ((j:Int) % 2)=some (.lst menu)∧0 < menu.length∧menu.length < 1000∧∀x∈menu,je 200 x:=by
 have:(j:Int) % 2=0∨(j:Int) % 2=1:=by omega
 rcases this with e | e <;> rw[e]
 ·exact⟨[.bl true,.bl false],rfl,by decide,by decide,fun x hx=>by
   simp only[List.mem_cons,List.not_mem_nil,or_false] at hx
   rcases hx with rfl | rfl <;> exact True.intro⟩
 ·exact⟨[.str "yes",.str "no",.str "open"],rfl,by decide,by decide,fun x hx=>by
   simp only[List.mem_cons,List.not_mem_nil,or_false] at hx
   rcases hx with rfl | rfl | rfl
   ·show 3≤200;omega
   ·show 2≤200;omega
   ·show 4≤200;omega⟩
theorem EC {ns:List Int}{T:List (Str×Int)}{aT aV:Addr}(hne:aT≠aV){c i l:Int}{j:Nat}{x4 x5 x6 x7:Option U}(hj:j < 12) (hns:ns.length < 1000) (hi:0≤i) (hi2:i < 600000) (t1:T.length≤3) (t2:∀p∈T,iy p) (h4:lW x4=false) (h5:lW x5=false) (h6:lW x6=false) (h7:lW x7=false):
  ∃i' l' y4 y5 y6 y7,lW y4=false∧lW y5=false∧lW y6=false∧lW y7=false∧i≤i'∧i'≤i+8∧
   CA aT aV nD [some (.s ns),some (.m (fd c i l)),some (.t (cA T)),some (.t (.int j)),x4,x5,x6,x7]=some (.nx [some (.s ns),some (.m (fd c i' l')),some (.t (cA T)),some (.t (.int j)),y4,y5,y6,y7]):=by
 obtain⟨menu,hm,m0,m1,mf⟩:=CB j
 obtain⟨c1,l1,e1⟩:=wY (ns:=ns) (k:=1+(j:Int)) (by omega) (by omega) (by omega)
 obtain⟨N,M,i2,l2,e3,mo,ml,mm⟩:=Cj c1 l1 (i:=0) (T:=T) (menu:=menu) (by omega) (by omega) (by omega) t2 m0 m1
 have hw:=mY t2
 have hA:∀x∈N.map Sq.cM,∃ds,x= .tup ds∧ds.length≤60∧∀y∈ds,je 200 y:=fun x hx=>by
  obtain⟨r,hr,rfl⟩:=List.mem_map.mp hx
  refine⟨r.map D.int,rfl,by rw[List.length_map,(mo.row r hr).1];omega,fun y hy=>?_⟩
  obtain⟨k,_,rfl⟩:=List.mem_map.mp hy
  exact True.intro
 have few:=mo.few
 have pos:=mo.pos
 have hM:∀x∈M,je 200 x:=fun x hx=>mf x (mm x hx)
 obtain⟨d,i3,l3,e4,Q2,i4,i5⟩:=AY c l (i:=i) (A:=N.map Sq.cM) (M:=M) hi (by omega) (by rw[List.length_map];omega) (by rw[List.length_map];omega) hA (by omega) hM
 have fA:∀x∈N.map Sq.cM,je 200 x:=fun x hx=>by obtain⟨ds,rfl,h2,h3⟩:=hA x hx;exact iX (by omega) h3
 have fm:je 200 (.tup [.tup (N.map Sq.cM),.tup M]):=⟨by show 2≤200;omega,iX (by rw[List.length_map];omega) fA,iX (by omega) hM,True.intro⟩
 have h0:=AH (T:=T) (by omega) t2
 have h1:=w5 (T:=T) (by omega) t2
 obtain⟨y6,y7,q6,q7,lp⟩:=xm (f1:=oH) (f2:=yf) (f3:=uA) (f4:=uE) (f5:=nB aT aV) (f6:=nC aT aV) (f7:=A2) (td:=cA T) (a0:=some (.s ns)) (a1:=some (.m (fd c i3 l3))) (a3:=some (.t (.int j))) (a4:=some (.t (.lst menu))) (a5:=some (.t (.tup [.tup (N.map Sq.cM),.tup M]))) (P:=je 200)
  (fun d hd=>⟨_,_,judge_ok aT aV (hd.mono (by omega)) h0,A1 hne (hd.mono (by omega)) h0,EB (hd.mono (by omega)) h1⟩) [.tup [.tup (N.map Sq.cM),.tup M],d] x6 x7 h6 h7 (fun e he=>by
   rcases List.mem_cons.mp he with q | q
   ·rw[q];exact fm
   ·rw[List.mem_singleton.mp q];exact Q2)
 exact⟨i3,l3,_,_,y6,y7,rfl,rfl,q6,q7,i4,i5,Cz h4 h5 hm e1 e3 e4 lp⟩
noncomputable def L5 (aW:FM) (aN:FM) (aJ:FM) (aU:FM) (bu:FM) (aP:FM) (bw:FM):GS:=
 (bR 1 (aL aW (cY (ao 0) (aX (eC (.int 0)) bC))))
noncomputable def L6 (aW:FM) (aN:FM) (aJ:FM) (aU:FM) (bu:FM) (aP:FM) (bw:FM):GS:=
 (bR 2 (aL aN (cY (ao 1) bC)))
noncomputable def Pb (aW:FM) (aN:FM) (aJ:FM) (aU:FM) (bu:FM) (aP:FM) (bw:FM):GS:=
 (mQ (bName 3) (gn (aa (eC (.int 12)) aq)) (nD aW aN aJ aU bu aP bw))
noncomputable def Pc (aW:FM) (aN:FM) (aJ:FM) (aU:FM) (bu:FM) (aP:FM) (bw:FM):GS:=
 (cL (eT (eC (.bl true))))
theorem lw_eq (aW:FM) (aN:FM) (aJ:FM) (aU:FM) (bu:FM) (aP:FM) (bw:FM):uF aW aN aJ aU bu aP bw=bg (L5 aW aN aJ aU bu aP bw) (bg (L6 aW aN aJ aU bu aP bw) (bg (Pb aW aN aJ aU bu aP bw) (Pc aW aN aJ aU bu aP bw))):=rfl
theorem yx {aT aV : Addr} (hne : aT ≠ aV) : ∀ us r, vR 63 us = some r → aH 8 (CA aT aV uF) us = some r := by
  intro us r h
  unfold vR at h
  split at h
  · rename_i ns
    obtain⟨hl,rfl⟩:=bO h
    obtain⟨c,l,e1⟩:=wY (ns:=ns) (k:=0) (by omega) (by omega) (by omega)
    obtain⟨T,i',l',e2,t0,t1,t2,i0,i1⟩:=Ci c l (i:=0) (by omega) (by omega)
    obtain⟨S',e3,j,x3,x4,x5,x6,x7,i2,l2,hr,hj,b0,b1,q3,q4,q5,q6,q7,rfl⟩:=mW (bd:=bName 3) (body:=CA aT aV nD) (jk 0 12)
      (fun r S=>∃(j:Nat) (x3 x4 x5 x6 x7:Option U) (i l:Int),(jk 0 12).drop j=r∧j≤12∧0≤i∧i≤10+8 * j∧lW x3=false∧lW x4=false∧lW x5=false∧lW x6=false∧lW x7=false∧S=[some (.s ns),some (.m (fd c i l)),some (.t (cA T)),x3,x4,x5,x6,x7])
      [some (.s ns),some (.m (fd c i' l')),some (.t (cA T)),none,none,none,none,none] ⟨0,none,none,none,none,none,i',l',rfl,Nat.zero_le _,by omega,by omega,rfl,rfl,rfl,rfl,rfl,rfl⟩ (by
        rintro d r S ⟨j,x3,x4,x5,x6,x7,i,l,hr,hj,b0,b1,q3,q4,q5,q6,q7,rfl⟩
        obtain⟨hjn,rfl,hr'⟩:=ku hr
        obtain⟨i3,l3,y4,y5,y6,y7,r4,r5,r6,r7,g0,g1,e⟩:=EC (ns:=ns) (T:=T) (c:=c) (i:=i) (l:=l) hne hjn (by omega) b0 (by omega) t1 t2 q4 q5 q6 q7
        exact⟨_,_,by simp[-iT,gw,q3],e,j+1,_,y4,y5,y6,y7,i3,l3,hr',hjn,by omega,by omega,rfl,r4,r5,r6,r7,rfl⟩)
    show((CA aT aV uF) [some (.s ns),none,none,none,none,none,none,none]).bind _=_
    simp only[CA]
    rw[lw_eq]
    have s0:CA aT aV L5 [some (.s ns),none,none,none,none,none,none,none]=some (.nx [some (.s ns),some (.m (fd c 0 l)),none,none,none,none,none,none]):=by simp[L5,e1]
    have s1:CA aT aV L6 [some (.s ns),some (.m (fd c 0 l)),none,none,none,none,none,none]=some (.nx [some (.s ns),some (.m (fd c i' l')),some (.t (cA T)),none,none,none,none,none]):=by simp[L6,e2]
    have s2:CA aT aV Pb [some (.s ns),some (.m (fd c i' l')),some (.t (cA T)),none,none,none,none,none]=some (.nx [some (.s ns),some (.m (fd c i2 l2)),some (.t (cA T)),x3,x4,x5,x6,x7]):=by
      have g1:gn (aa (eC (.int 12)) aq) [some (.s ns),some (.m (fd c i' l')),some (.t (cA T)),none,none,none,none,none]=some (jk 0 12,[some (.s ns),some (.m (fd c i' l')),some (.t (cA T)),none,none,none,none,none]):=rB (j:=12) (by simp) (by omega) (by omega)
      show mQ _ _ _ _=_
      rw[Aw,g1,Option.bind_some]
      exact e3
    simp only[CA] at s0 s1 s2
    rw[vP,s0,Option.bind_some]
    simp only
    rw[vP,s1,Option.bind_some]
    simp only
    rw[vP,s2,Option.bind_some]
    simp only
    simp[Pc,aA]
  · cases h
end Sg
end
section
set_option Elab.async false
set_option linter.all false
set_option maxRecDepth 100000
namespace K37
open PySem PySem.Spec PyProof.Rows L2
def top (i:Nat):Stmt:=PySem.Challenge.pw_surewatch_k37_machines_of_any_thing.main.body.getD i (.Pass ⟨0,0,0,0⟩)
open L2 Sw Sq Sg
noncomputable abbrev gJ:Stmt:=top 1
theorem uG:bH ["thing","least","most"] ["thing","least","most"] (aB gJ):=⟨rfl,rfl,rfl,by decide +kernel,rfl,by decide +kernel,by decide +kernel⟩
theorem uH {P:Program}{w:World}{K:PySem.W.Frag}{mg:Str→Option Value}{base:Heap}{f:Addr}{fd:FuncData}{n:Nat}{fm:FM}(F:m6 K "is_whole" "is_whole" gJ f fd) (aG:mg "isinstance" =none) (sR:mg "int" =none) (jW:mg "bool" =none)
  (hf:∀us r,fm us=some r→aH 3 (jR) us=some r):bz P w K mg base fQ (n+1) f fd ["thing","least","most"] (spT K 3 fm):=
 qm (g:=jR) F uG (fun cdv A outer s H E hr=>(aE (ig (JW.t (ou (jm (iL (cz rfl aG rfl sR PyProof.Rows.Boot.int (JE.d (ah 0))))) (iI (iL (cz rfl aG rfl jW PyProof.Rows.Boot.bool (JE.d (ah 0))))))) (aO (br (JD.e gD))) fC)
  (aO (br (JD.e (j5 (JE.d (jN pL (JE.d (ah 1)) (JE.d (ah 0)))) (lN (JE.d (jN pL (JE.d (ah 0)) (JE.d (ah 2))))))))))) hf
noncomputable abbrev gK:Stmt:=top 2
theorem uI:bH ["thing","least","most"] ["thing","least","most"] (aB gK):=⟨rfl,rfl,rfl,by decide +kernel,rfl,by decide +kernel,by decide +kernel⟩
theorem uJ {P:Program}{w:World}{K:PySem.W.Frag}{mg:Str→Option Value}{base:Heap}{f:Addr}{fd:FuncData}{n:Nat}{fm:FM}(F:m6 K "is_tuple" "is_tuple" gK f fd) (aG:mg "isinstance" =none) (dB:mg "tuple" =none) (dR:mg "len" =none)
  (hf:∀us r,fm us=some r→aH 3 (jS) us=some r):bz P w K mg base fQ (n+1) f fd ["thing","least","most"] (spT K 3 fm):=
 qm (g:=jS) F uI (fun cdv A outer s H E hr=>(aO (br (JD.e (j5 (cz rfl aG rfl dB PyProof.Rows.Boot.tuple (JE.d (ah 0))) (j5 (JE.d (jN pL (JE.d (ah 1)) (d9 (i:=0) rfl dR))) (lN (JE.d (jN pL (d9 (i:=0) rfl dR) (JE.d (ah 2))))))))))) hf
noncomputable abbrev cR:Stmt:=top 4
theorem ff:bH ["table","happenings","entry","k"] ["table"] (aB cR):=⟨rfl,rfl,rfl,by decide +kernel,rfl,by decide +kernel,by decide +kernel⟩
theorem nF {P:Program}{w:World}{K:PySem.W.Frag}{mg:Str→Option Value}{base:Heap}{f:Addr}{fd:FuncData}{n:Nat}{fm:FM}(F:m6 K "happenings_of" "happenings_of" cR f fd) (eL:mg "range" =none)
  (hf:∀us r,fm us=some r→aH 4 (fM) us=some r):bz P w K mg base fQ (n+1) f fd ["table"] (spT K 1 fm):=
 qm (g:=fM) F ff (fun cdv A outer s H E hr=>(aE (bB (i:=1) ff.nd rfl (by first | exact Or.inl rfl | exact Or.inr rfl) (cX aC))
  (aE (j6 PassesOwn.never rfl (jP (JE.d (ah 0))) (eU (i:=2) ff.nd rfl (by first | exact Or.inl rfl | exact Or.inr rfl)) (aO (j6 PassesOwn.never rfl (gI rfl eL (aj (JE.d (bf bI (cG (i:=2) (dM hr) az (fun _ _=>rfl)) az)) aC)) (eU (i:=3) ff.nd rfl (by first | exact Or.inl rfl | exact Or.inr rfl)) (aO (mO (JD.e (mR (i:=1) PySem.F.slot_list_append PySem.F.type_list_append kQ kT kZ (aj (JE.d (cy (aj (cG (i:=2) (dM hr) az (fun _ _=>rfl)) (aj (JE.d (ah 3)) aC)))) aC))))))))
  (aO (br (ah 1)))))) hf
noncomputable abbrev gM:Stmt:=top 6
theorem uK:bH ["thing","width","count"] ["thing","width","count"] (aB gM):=⟨rfl,rfl,rfl,by decide +kernel,rfl,by decide +kernel,by decide +kernel⟩
theorem uL {P:Program}{w:World}{K:PySem.W.Frag}{mg:Str→Option Value}{base:Heap}{f:Addr}{fd:FuncData}{n:Nat}{fm:FM}(F:m6 K "is_leads" "is_leads" gM f fd) (pe:mg "all" =none)
  {gO:Addr}{jG:FuncData}{cP:FM}(lg:bz P w K mg base fQ n gO jG ["thing","least","most"] (spT K 3 cP)) (lq:Binds K jG ["thing","least","most"] []) (lu:PySem.W.keepIn K (.ref gO)=true) (lz:mg "is_tuple" =some (.ref gO))
  {nG:Addr}{rF:FuncData}{jC:FM}(yy:bz P w K mg base fQ n nG rF ["thing","least","most"] (spT K 3 jC)) (yz:Binds K rF ["thing","least","most"] []) (yC:PySem.W.keepIn K (.ref nG)=true) (yD:mg "is_whole" =some (.ref nG))
  (hf:∀us r,fm us=some r→aH 3 (fR cP jC) us=some r):bz P w K mg base fQ (n+1) f fd ["thing","width","count"] (spT K 3 fm):=
 qm (g:=fR cP jC) F uK (fun cdv A outer s H E hr=>(aO (br (JD.e (j5 (JE.d (aM lg hr rfl lz lu lq (aI (JE.d (ah 0)) (aI (JE.d (ah 1)) (aI (JE.d (ah 1)) aZ))))) (lN (JE.d (dZ (kY rfl) rfl pe PyProof.Rows.Boot.all (aj (JE.d (kX (mV (i:=2) rfl (by decide) rfl (by decide) rfl rfl (by decide) (by decide) rfl rfl rfl) rfl (jP (JE.d (ah 0))) (fun _ _ _ _=>iF) (fun _ _ _ _=>(JE.d (aM yy hr rfl yD yC yz (aI (JE.d (ah 0)) (aI az (aI (JE.d (bf mL (JE.d (ah 1)) az)) aZ)))))))) aC))))))))) hf
noncomputable abbrev gP:Stmt:=top 7
theorem oJ:bH ["table","thing","width"] ["table","thing"] (aB gP):=⟨rfl,rfl,rfl,by decide +kernel,rfl,by decide +kernel,by decide +kernel⟩
theorem uM {P:Program}{w:World}{K:PySem.W.Frag}{mg:Str→Option Value}{base:Heap}{f:Addr}{fd:FuncData}{n:Nat}{fm:FM}(F:m6 K "is_nexts" "is_nexts" gP f fd) (aG:mg "isinstance" =none) (dB:mg "tuple" =none) (dR:mg "len" =none) (pe:mg "all" =none)
  {i6:Addr}{kC:FuncData}{ez:FM}(p7:bz P w K mg base fQ n i6 kC ["table"] (spT K 1 ez)) (p8:Binds K kC ["table"] []) (p9:PySem.W.keepIn K (.ref i6)=true) (qb:mg "happenings_of" =some (.ref i6))
  {nH:Addr}{rG:FuncData}{jD:FM}(yE:bz P w K mg base fQ n nH rG ["thing","width","count"] (spT K 3 jD)) (yF:Binds K rG ["thing","width","count"] []) (yG:PySem.W.keepIn K (.ref nH)=true) (yH:mg "is_leads" =some (.ref nH))
  (hf:∀us r,fm us=some r→aH 3 (fS ez jD) us=some r):bz P w K mg base fQ (n+1) f fd ["table","thing"] (spT K 2 fm):=
 qm (g:=fS ez jD) F oJ (fun cdv A outer s H E hr=>(aE (ig (JW.t (ou (jm (iL (cz rfl aG rfl dB PyProof.Rows.Boot.tuple (JE.d (ah 1))))) (iI (gm (sF hr.units) (d9 (i:=1) rfl dR) az)))) (aO (br (JD.e gD))) fC)
  (aE (bB (i:=2) oJ.nd rfl (by first | exact Or.inl rfl | exact Or.inr rfl) (dZ kR rfl dR PySem.boot_len (aj (JE.d (aM p7 hr rfl qb p9 p8 (aI (JE.d (ah 0)) aZ))) aC)))
  (aO (br (dZ (kY rfl) rfl pe PyProof.Rows.Boot.all (aj (JE.d (kX (lT (cj:=["thing","width"]) (cap:=[1,2]) rfl (by decide) rfl (by decide) rfl rfl (by decide) (by first | exact Or.inl rfl | exact Or.inr rfl) (by decide) rfl rfl rfl) rfl (jP (JE.d (ah 1))) (fun _ _ _ _=>iF) (fun _ _ _ _=>(JE.d (aM yE hr rfl yH yG yF (aI (JE.d (ah 0)) (aI (JE.d (ah 2)) (aI (d9 (i:=1) rfl dR) aZ)))))))) aC))))))) hf
noncomputable abbrev fh:Stmt:=top 8
theorem lH:bH ["table","thing","is_word","count"] ["table","thing","is_word"] (aB fh):=⟨rfl,rfl,rfl,by decide +kernel,rfl,by decide +kernel,by decide +kernel⟩
theorem qy {P:Program}{w:World}{K:PySem.W.Frag}{mg:Str→Option Value}{base:Heap}{f:Addr}{fd:FuncData}{n:Nat}{fm:FM}(F:m6 K "is_machine" "is_machine" fh f fd) (dR:mg "len" =none) (pe:mg "all" =none)
  {gO:Addr}{jG:FuncData}{cP:FM}(lg:bz P w K mg base fQ n gO jG ["thing","least","most"] (spT K 3 cP)) (lq:Binds K jG ["thing","least","most"] []) (lu:PySem.W.keepIn K (.ref gO)=true) (lz:mg "is_tuple" =some (.ref gO))
  {nI:Addr}{rH:FuncData}{jE:FM}(yI:bz P w K mg base fQ n nI rH ["table","thing"] (spT K 2 jE)) (yJ:Binds K rH ["table","thing"] []) (yK:PySem.W.keepIn K (.ref nI)=true) (yL:mg "is_nexts" =some (.ref nI))
  {cB:Addr}{nJ:FuncData}{jF:FM}(yM:bz P w K mg base fQ n cB nJ ["thing"] (spT K 1 jF)) (yN:Binds K nJ ["thing"] []) (yO:PySem.W.keepIn K (.ref cB)=true) (rJ:mg "is_truth" =some (.ref cB))
  {bQ:Addr}{kD:FuncData}{ir:FM}(uN:bz P w K mg base fQ n bQ kD ["thing"] (spT K 1 ir)) (uO:Binds K kD ["thing"] []) (uP:PySem.W.keepIn K (.ref bQ)=true) (oK:mg "is_verdict" =some (.ref bQ))
  (hf:∀us r,fm us=some r→aH 4 (bq cP jE jF ir cB bQ) us=some r):bz P w K mg base fQ (n+1) f fd ["table","thing","is_word"] (spT K 3 fm):=
 qm (g:=bq cP jE jF ir cB bQ) F lH (fun cdv A outer s H E hr=>(aE (ig (JW.t (ou (jm (iL (JE.d (aM lg hr rfl lz lu lq (aI (JE.d (ah 1)) (aI az (aI az aZ))))))) (iI (jm (iL (JE.d (aM yI hr rfl yL yK yJ (aI (JE.d (ah 0)) (aI (cG (i:=1) (dM hr) az (fun _ _=>rfl)) aZ))))))))) (aO (br (JD.e gD))) fC)
  (aE (bB (i:=3) lH.nd rfl (by first | exact Or.inl rfl | exact Or.inr rfl) (dZ kR rfl dR PySem.boot_len (aj (cG (i:=1) (dM hr) az (fun _ _=>rfl)) aC)))
  (aO (br (JD.e (j5 (JE.d (aM lg hr rfl lz lu lq (aI (cG (i:=1) (dM hr) az (fun _ _=>rfl)) (aI (JE.d (ah 3)) (aI (JE.d (ah 3)) aZ))))) (lN (JE.d (dZ (kY rfl) rfl pe PyProof.Rows.Boot.all (aj (JE.d (kX (mV (i:=2) rfl (by decide) rfl (by decide) rfl rfl (by decide) (by decide) rfl rfl rfl) rfl (jP (cG (i:=1) (dM hr) az (fun _ _=>rfl))) (fun _ _ _ _=>iF) (fun _ _ _ _=>(JE.d (Av 1 ⟨⟨yO,nJ,["thing"],yN,yM⟩,⟨⟨uP,kD,["thing"],uO,uN⟩,True.intro⟩⟩ hr (aI (JE.d (ah 0)) aZ)))))) aC))))))))))) hf
noncomputable abbrev gQ:Stmt:=top 10
theorem uQ:bH ["thing"] ["thing"] (aB gQ):=⟨rfl,rfl,rfl,by decide +kernel,rfl,by decide +kernel,by decide +kernel⟩
theorem uR {P:Program}{w:World}{K:PySem.W.Frag}{mg:Str→Option Value}{base:Heap}{f:Addr}{fd:FuncData}{n:Nat}{fm:FM}(F:m6 K "is_truth" "is_truth" gQ f fd) (aG:mg "isinstance" =none) (jW:mg "bool" =none)
  (hf:∀us r,fm us=some r→aH 1 (iY) us=some r):bz P w K mg base fQ (n+1) f fd ["thing"] (spT K 1 fm):=
 qm (g:=iY) F uQ (fun cdv A outer s H E hr=>(aO (br (JD.e (cz rfl aG rfl jW PyProof.Rows.Boot.bool (JE.d (ah 0))))))) hf
noncomputable abbrev gR:Stmt:=top 11
theorem uS:bH ["table","thing"] ["table","thing"] (aB gR):=⟨rfl,rfl,rfl,by decide +kernel,rfl,by decide +kernel,by decide +kernel⟩
theorem uT {P:Program}{w:World}{K:PySem.W.Frag}{mg:Str→Option Value}{base:Heap}{f:Addr}{fd:FuncData}{n:Nat}{fm:FM}(F:m6 K "is_judge" "is_judge" gR f fd)
  {eO:Addr}{iu:FuncData}{bW:FM}(kE:bz P w K mg base fQ n eO iu ["table","thing","is_word"] (spT K 3 bW)) (kF:Binds K iu ["table","thing","is_word"] []) (kG:PySem.W.keepIn K (.ref eO)=true) (kH:mg "is_machine" =some (.ref eO)){cB:Addr}(rJ:mg "is_truth" =some (.ref cB))
  (hf:∀us r,fm us=some r→aH 2 (iZ bW cB) us=some r):bz P w K mg base fQ (n+1) f fd ["table","thing"] (spT K 2 fm):=
 qm (g:=iZ bW cB) F uS (fun cdv A outer s H E hr=>(aO (br (aM kE hr rfl kH kG kF (aI (JE.d (ah 0)) (aI (JE.d (ah 1)) (cE (C1 rfl rJ) aZ))))))) hf
noncomputable abbrev fj:Stmt:=top 13
theorem qz:bH ["thing"] ["thing"] (aB fj):=⟨rfl,rfl,rfl,by decide +kernel,rfl,by decide +kernel,by decide +kernel⟩
theorem qA {P:Program}{w:World}{K:PySem.W.Frag}{mg:Str→Option Value}{base:Heap}{f:Addr}{fd:FuncData}{n:Nat}{fm:FM}(F:m6 K "is_verdict" "is_verdict" fj f fd)
  (hf:∀us r,fm us=some r→aH 1 (gB) us=some r):bz P w K mg base fQ (n+1) f fd ["thing"] (spT K 1 fm):=
 qm (g:=gB) F qz (fun cdv A outer s H E hr=>(aO (br (jN (Al hr.units) (JE.d (ah 0)) (JE.d (cy (aj cu (aj cu (aj cu aC))))) (by with_unfolding_all rfl))))) hf
noncomputable abbrev fq:Stmt:=top 14
theorem qC:bH ["table","thing"] ["table","thing"] (aB fq):=⟨rfl,rfl,rfl,by decide +kernel,rfl,by decide +kernel,by decide +kernel⟩
theorem qD {P:Program}{w:World}{K:PySem.W.Frag}{mg:Str→Option Value}{base:Heap}{f:Addr}{fd:FuncData}{n:Nat}{fm:FM}(F:m6 K "is_watcher" "is_watcher" fq f fd)
  {eO:Addr}{iu:FuncData}{bW:FM}(kE:bz P w K mg base fQ n eO iu ["table","thing","is_word"] (spT K 3 bW)) (kF:Binds K iu ["table","thing","is_word"] []) (kG:PySem.W.keepIn K (.ref eO)=true) (kH:mg "is_machine" =some (.ref eO)){bQ:Addr}(oK:mg "is_verdict" =some (.ref bQ))
  (hf:∀us r,fm us=some r→aH 2 (gC bW bQ) us=some r):bz P w K mg base fQ (n+1) f fd ["table","thing"] (spT K 2 fm):=
 qm (g:=gC bW bQ) F qC (fun cdv A outer s H E hr=>(aO (br (aM kE hr rfl kH kG kF (aI (JE.d (ah 0)) (aI (JE.d (ah 1)) (cE (C1 rfl oK) aZ))))))) hf
noncomputable abbrev gT:Stmt:=top 16
theorem oM:bH ["_law_cell","_law_k","_law_by"] ["_law_cell","_law_k"] (aB gT):=⟨rfl,rfl,rfl,by decide +kernel,rfl,by decide +kernel,by decide +kernel⟩
theorem uU {P:Program}{w:World}{K:PySem.W.Frag}{mg:Str→Option Value}{base:Heap}{f:Addr}{fd:FuncData}{n:Nat}{fm:FM}(F:m6 K "_law_mix" "_law_mix" gT f fd)
  (hf:∀us r,fm us=some r→aH 3 (iV) us=some r):bz P w K mg base fQ (n+1) f fd ["_law_cell","_law_k"] (spT K 2 fm):=
 qm (g:=iV) F oM (fun cdv A outer s H E hr=>(aE (bB (i:=2) oM.nd rfl (by first | exact Or.inl rfl | exact Or.inr rfl) (bf bI (JE.d (bf bI (JE.d (bf jO (JE.d (bf bI (JE.d (bf jh (JE.d (ah 0)) (JE.d (bf pA az az)))) az)) az)) (JE.d (bf jO (JE.d (bf jO (JE.d (ah 1)) (JE.d (ah 1)))) az)))) (JE.d (bf jO (JE.d (ah 1)) az))))
  (aO (br (bf jh (JE.d (bf jO (JE.d (bf jh (JE.d (ah 2)) az)) az)) az))))) hf
noncomputable abbrev fV:Stmt:=top 17
theorem iH:bH ["_law_script","_law_k","_law_cell"] ["_law_script","_law_k"] (aB fV):=⟨rfl,rfl,rfl,by decide +kernel,rfl,by decide +kernel,by decide +kernel⟩
theorem sS {P:Program}{w:World}{K:PySem.W.Frag}{mg:Str→Option Value}{base:Heap}{f:Addr}{fd:FuncData}{n:Nat}{fm:FM}(F:m6 K "_law_feed" "_law_feed" fV f fd) (dR:mg "len" =none) (sR:mg "int" =none)
  {gU:Addr}{jH:FuncData}{dj:FM}(nK:bz P w K mg base fQ n gU jH ["_law_cell","_law_k"] (spT K 2 dj)) (nL:Binds K jH ["_law_cell","_law_k"] []) (nM:PySem.W.keepIn K (.ref gU)=true) (nN:mg "_law_mix" =some (.ref gU))
  (hf:∀us r,fm us=some r→aH 3 (eu dj) us=some r):bz P w K mg base fQ (n+1) f fd ["_law_script","_law_k"] (spT K 2 fm):=
 qm (g:=eu dj) F iH (fun cdv A outer s H E hr=>(aE (bB (i:=2) iH.nd rfl (by first | exact Or.inl rfl | exact Or.inr rfl) (bf bI (JE.d (bf jO az (JE.d (ah 1)))) az))
  (aE (ig (gm pK (JE.d (ah 1)) (d9 (i:=0) rfl dR)) (aO (bB (i:=2) iH.nd rfl (by first | exact Or.inl rfl | exact Or.inr rfl) (JD.e (cG (i:=0) (dM hr) (JE.d (ah 1)) (fun _ _=>rfl))))) (aO (ig (gm Aa (d9 (i:=0) rfl dR) az) (aO (bB (i:=2) iH.nd rfl (by first | exact Or.inl rfl | exact Or.inr rfl) (aM nK hr rfl nN nM nL (aI (cG (i:=0) (dM hr) (JE.d (bf jh (JE.d (ah 1)) (d9 (i:=0) rfl dR))) (fun _ _=>rfl)) (aI (JE.d (ah 1)) aZ))))) fC)))
  (aO (br (cX (aj (JE.d (ah 2)) (aj az (aj (JE.d (bf jO (JE.d (bf mL (JE.d (ah 2)) (JE.d (bf pA az az)))) (JE.d (gH xX rfl sR PyProof.Rows.Boot.int (aj (JE.d (jN DV (JE.d (ah 2)) (JE.d (bf pA az az)))) aC))))) aC))))))))) hf
noncomputable abbrev fW:Stmt:=top 18
theorem mZ:bH ["_law_feed_here","_law_many","_law_found"] ["_law_feed_here","_law_many"] (aB fW):=⟨rfl,rfl,rfl,by decide +kernel,rfl,by decide +kernel,by decide +kernel⟩
theorem sU {P:Program}{w:World}{K:PySem.W.Frag}{mg:Str→Option Value}{base:Heap}{f:Addr}{fd:FuncData}{n:Nat}{fm:FM}(F:m6 K "_law_take" "_law_take" fW f fd)
  {gU:Addr}{jH:FuncData}{dj:FM}(nK:bz P w K mg base fQ n gU jH ["_law_cell","_law_k"] (spT K 2 dj)) (nL:Binds K jH ["_law_cell","_law_k"] []) (nM:PySem.W.keepIn K (.ref gU)=true) (nN:mg "_law_mix" =some (.ref gU))
  (hf:∀us r,fm us=some r→aH 3 (fT dj) us=some r):bz P w K mg base fQ (n+1) f fd ["_law_feed_here","_law_many"] (spT K 2 fm):=
 qm (g:=fT dj) F mZ (fun cdv A outer s H E hr=>(aE (Ao (i:=0) (dM hr) az (JE.d (bf bI (cG (i:=0) (dM hr) az (fun _ _=>rfl)) az)))
  (aE (ig (gm Aa (cG (i:=0) (dM hr) az (fun _ _=>rfl)) az) (aE (bB (i:=2) mZ.nd rfl (by first | exact Or.inl rfl | exact Or.inr rfl) (bf jh (cG (i:=0) (dM hr) az (fun _ _=>rfl)) (JE.d (ah 1))))
  (aE (Ao (i:=0) (dM hr) az (JE.d (bf wN (cG (i:=0) (dM hr) az (fun _ _=>rfl)) (JE.d (ah 1)))))
  (aO (br (ah 2))))) fC)
  (aO (br (bf jh (JE.d (bf wN (JE.d (aM nK hr rfl nN nM nL (aI (cG (i:=0) (dM hr) az (fun _ _=>rfl)) (aI (cG (i:=0) (dM hr) az (fun _ _=>rfl)) aZ)))) az)) (JE.d (ah 1)))))))) hf
noncomputable abbrev fu:Stmt:=top 19
theorem bU:bH ["_law_feed_here","_law_pool","_law_start","_law_many","_law_left","_law_table_here","_law_k","_law_most"] ["_law_feed_here"] (aB fu):=⟨rfl,rfl,rfl,by decide +kernel,rfl,by decide +kernel,by decide +kernel⟩
theorem qE {P:Program}{w:World}{K:PySem.W.Frag}{mg:Str→Option Value}{base:Heap}{f:Addr}{fd:FuncData}{n:Nat}{fm:FM}(F:m6 K "_law_table" "_law_table" fu f fd) (eL:mg "range" =none) (ED:mg "min" =none) (dB:mg "tuple" =none)
  {bN:Addr}{cK:FuncData}{aD:FM}(bD:bz P w K mg base fQ n bN cK ["_law_feed_here","_law_many"] (spT K 2 aD)) (bE:Binds K cK ["_law_feed_here","_law_many"] []) (bF:PySem.W.keepIn K (.ref bN)=true) (bG:mg "_law_take" =some (.ref bN))
  (hf:∀us r,fm us=some r→aH 8 (eV aD) us=some r):bz P w K mg base fQ (n+1) f fd ["_law_feed_here"] (spT K 1 fm):=
 qm (g:=eV aD) F bU (fun cdv A outer s H E hr=>(aE (bB (i:=1) bU.nd rfl (by first | exact Or.inl rfl | exact Or.inr rfl) (cX (aj cu (aj cu (aj cu (aj cu (aj cu (aj cu (aj cu (aj cu (aj cu aC)))))))))))
  (aE (bB (i:=2) bU.nd rfl (by first | exact Or.inl rfl | exact Or.inr rfl) (aM bD hr rfl bG bF bE (cE (ah 0) (aI az aZ))))
  (aE (bB (i:=3) bU.nd rfl (by first | exact Or.inl rfl | exact Or.inr rfl) (CN GK (JE.d (cX (aj az (aj az (aj az (aj az aC)))))) (JE.d (aM bD hr rfl bG bF bE (cE (ah 0) (aI az aZ)))) (fun _ _=>rfl)))
  (aE (bB (i:=4) bU.nd rfl (by first | exact Or.inl rfl | exact Or.inr rfl) (JD.e az))
  (aE (bB (i:=5) bU.nd rfl (by first | exact Or.inl rfl | exact Or.inr rfl) (cX aC))
  (aE (j6 PassesOwn.never rfl (gI rfl eL (aj (JE.d (ah 3)) aC)) (eU (i:=6) bU.nd rfl (by first | exact Or.inl rfl | exact Or.inr rfl)) (aE (bB (i:=7) bU.nd rfl (by first | exact Or.inl rfl | exact Or.inr rfl) (dZ (vN rfl) rfl ED PyProof.Rows.Boot.min (aj (JE.d (aM bD hr rfl bG bF bE (cE (ah 0) (aI az aZ)))) (aj (JE.d (bf bI (JE.d (bf mL (JE.d (ah 4)) (JE.d (ah 3)))) (JE.d (ah 6)))) aC))))
  (aE (mO (JD.e (mR (i:=5) PySem.F.slot_list_append PySem.F.type_list_append kQ kT kZ (aj (JE.d (cy (aj (cG (i:=1) (dM hr) (JE.d (bf jh (JE.d (bf bI (JE.d (ah 2)) (JE.d (ah 6)))) az)) (fun _ _=>rfl)) (aj (JE.d (ah 7)) aC)))) aC))))
  (aO (bB (i:=4) bU.nd rfl (by first | exact Or.inl rfl | exact Or.inr rfl) (bf mL (JE.d (bf mL (JE.d (ah 4)) (JE.d (ah 7)))) az))))))
  (aO (br (gH jj rfl dB PyProof.Rows.Boot.tuple (aj (JE.d (ah 5)) aC))))))))))) hf
noncomputable abbrev bX:Stmt:=top 20
theorem dI:bH ["_law_table_here","_law_found","_law_name","_law_most"] ["_law_table_here"] (aB bX):=⟨rfl,rfl,rfl,by decide +kernel,rfl,by decide +kernel,by decide +kernel⟩
theorem lX {P:Program}{w:World}{K:PySem.W.Frag}{mg:Str→Option Value}{base:Heap}{f:Addr}{fd:FuncData}{n:Nat}{fm:FM}(F:m6 K "_law_happenings" "_law_happenings" bX f fd) (eL:mg "range" =none)
  (hf:∀us r,fm us=some r→aH 4 (cW) us=some r):bz P w K mg base fQ (n+1) f fd ["_law_table_here"] (spT K 1 fm):=
 qm (g:=cW) F dI (fun cdv A outer s H E hr=>(aE (bB (i:=1) dI.nd rfl (by first | exact Or.inl rfl | exact Or.inr rfl) (cX aC))
  (aE (j6 PassesOwn.never rfl (DW (JE.d (ah 0))) (vL rfl (jx (eU (i:=2) dI.nd rfl (by first | exact Or.inl rfl | exact Or.inr rfl)) (jx (eU (i:=3) dI.nd rfl (by first | exact Or.inl rfl | exact Or.inr rfl)) sA))) (aO (mO (JD.e (mR (i:=1) PySem.F.slot_list_extend PySem.F.type_list_extend vO xY xZ (aj (JE.d (kX (mV (i:=2) rfl (by decide) rfl (by decide) rfl rfl (by decide) (by decide) rfl rfl rfl) rfl (gI rfl eL (aj (JE.d (bf bI (JE.d (ah 3)) az)) aC)) (fun _ _ _ _=>iF) (fun _ _ _ _=>(JE.d (cy (aj (JE.d (ah 1)) (aj (JE.d (ah 0)) aC))))))) aC))))))
  (aO (br (ah 1)))))) hf
noncomputable abbrev dD:Stmt:=top 21
theorem bZ:bH ["_law_feed_here","_law_table_here","_law_menu","_law_many","_law_wide","_law_nexts","_law_spot","_law_marks"] ["_law_feed_here","_law_table_here","_law_menu"] (aB dD):=⟨rfl,rfl,rfl,by decide +kernel,rfl,by decide +kernel,by decide +kernel⟩
theorem pq {P:Program}{w:World}{K:PySem.W.Frag}{mg:Str→Option Value}{base:Heap}{f:Addr}{fd:FuncData}{n:Nat}{fm:FM}(F:m6 K "_law_machine" "_law_machine" dD f fd) (dR:mg "len" =none) (eL:mg "range" =none) (dB:mg "tuple" =none)
  {bN:Addr}{cK:FuncData}{aD:FM}(bD:bz P w K mg base fQ n bN cK ["_law_feed_here","_law_many"] (spT K 2 aD)) (bE:Binds K cK ["_law_feed_here","_law_many"] []) (bF:PySem.W.keepIn K (.ref bN)=true) (bG:mg "_law_take" =some (.ref bN))
  {bT:Addr}{dF:FuncData}{aK:FM}(gW:bz P w K mg base fQ n bT dF ["_law_table_here"] (spT K 1 aK)) (gX:Binds K dF ["_law_table_here"] []) (gY:PySem.W.keepIn K (.ref bT)=true) (gZ:mg "_law_happenings" =some (.ref bT))
  (hf:∀us r,fm us=some r→aH 8 (cI aD aK) us=some r):bz P w K mg base fQ (n+1) f fd ["_law_feed_here","_law_table_here","_law_menu"] (spT K 3 fm):=
 qm (g:=cI aD aK) F bZ (fun cdv A outer s H E hr=>(aE (bB (i:=3) bZ.nd rfl (by first | exact Or.inl rfl | exact Or.inr rfl) (bf bI az (JE.d (aM bD hr rfl bG bF bE (cE (ah 0) (aI az aZ))))))
  (aE (bB (i:=4) bZ.nd rfl (by first | exact Or.inl rfl | exact Or.inr rfl) (dZ kR rfl dR PySem.boot_len (aj (JE.d (aM gW hr rfl gZ gY gX (aI (JE.d (ah 1)) aZ))) aC)))
  (aE (bB (i:=5) bZ.nd rfl (by first | exact Or.inl rfl | exact Or.inr rfl) (cX aC))
  (aE (j6 PassesOwn.never rfl (gI rfl eL (aj (JE.d (ah 3)) aC)) (eU (i:=6) bZ.nd rfl (by first | exact Or.inl rfl | exact Or.inr rfl)) (aO (mO (JD.e (mR (i:=5) PySem.F.slot_list_append PySem.F.type_list_append kQ kT kZ (aj (JE.d (gH jj rfl dB PyProof.Rows.Boot.tuple (aj (JE.d (kX (lT (cj:=["_law_feed_here","_law_many"]) (cap:=[0,3]) rfl (by decide) rfl (by decide) rfl rfl (by decide) (by first | exact Or.inl rfl | exact Or.inr rfl) (by decide) rfl rfl rfl) rfl (gI rfl eL (aj (JE.d (ah 4)) aC)) (fun _ _ _ _=>iF) (fun _ _ _ _=>(JE.d (aM bD hr rfl bG bF bE (cE (ah 1) (aI (JE.d (ah 2)) aZ))))))) aC))) aC))))))
  (aE (pP (i:=7) bZ.nd rfl (by first | exact Or.inl rfl | exact Or.inr rfl) (lT (cj:=["_law_feed_here","_law_menu"]) (cap:=[0,2]) rfl (by decide) rfl (by decide) rfl rfl (by decide) (by first | exact Or.inl rfl | exact Or.inr rfl) (by decide) rfl rfl rfl) rfl (gI rfl eL (aj (JE.d (ah 3)) aC)) (fun _ _ _ _=>iF) (fun _ _ _ _=>(cG (i:=2) (dM hr) (JE.d (aM bD hr rfl bG bF bE (cE (ah 1) (aI (d9 (i:=2) rfl dR) aZ)))) (fun _ _=>rfl))))
  (aE (ig (gm (sF hr.units) (JE.d (aM bD hr rfl bG bF bE (cE (ah 0) (aI az aZ)))) az) (aO (bB (i:=7) bZ.nd rfl (by first | exact Or.inl rfl | exact Or.inr rfl) (bf B5 (JE.d (cX (aj (cG (i:=2) (dM hr) az (fun _ _=>rfl)) aC))) (JE.d (ah 3))))) fC)
  (aO (br (cy (aj (JE.d (gH jj rfl dB PyProof.Rows.Boot.tuple (aj (JE.d (ah 5)) aC))) (aj (JE.d (gH jj rfl dB PyProof.Rows.Boot.tuple (aj (JE.d (ah 7)) aC))) aC)))))))))))) hf
noncomputable abbrev fy:Stmt:=top 22
theorem qF:bH ["_law_thing"] ["_law_thing"] (aB fy):=⟨rfl,rfl,rfl,by decide +kernel,rfl,by decide +kernel,by decide +kernel⟩
theorem qG {P:Program}{w:World}{K:PySem.W.Frag}{mg:Str→Option Value}{base:Heap}{f:Addr}{fd:FuncData}{n:Nat}{fm:FM}(F:m6 K "_law_whole" "_law_whole" fy f fd) (aG:mg "isinstance" =none) (sR:mg "int" =none) (jW:mg "bool" =none)
  (hf:∀us r,fm us=some r→aH 1 (gz) us=some r):bz P w K mg base fQ (n+1) f fd ["_law_thing"] (spT K 1 fm):=
 qm (g:=gz) F qF (fun cdv A outer s H E hr=>(aO (br (JD.e (j5 (cz rfl aG rfl sR PyProof.Rows.Boot.int (JE.d (ah 0))) (lN (DT (cz rfl aG rfl jW PyProof.Rows.Boot.bool (JE.d (ah 0)))))))))) hf
noncomputable abbrev bY:Stmt:=top 23
theorem dJ:bH ["_law_table_here","_law_thing","_law_nexts","_law_marks","_law_one"] ["_law_table_here","_law_thing"] (aB bY):=⟨rfl,rfl,rfl,by decide +kernel,rfl,by decide +kernel,by decide +kernel⟩
theorem lY {P:Program}{w:World}{K:PySem.W.Frag}{mg:Str→Option Value}{base:Heap}{f:Addr}{fd:FuncData}{n:Nat}{fm:FM}(F:m6 K "_law_is_machine" "_law_is_machine" bY f fd) (aG:mg "isinstance" =none) (dB:mg "tuple" =none) (dR:mg "len" =none) (pe:mg "all" =none)
  {bT:Addr}{dF:FuncData}{aK:FM}(gW:bz P w K mg base fQ n bT dF ["_law_table_here"] (spT K 1 aK)) (gX:Binds K dF ["_law_table_here"] []) (gY:PySem.W.keepIn K (.ref bT)=true) (gZ:mg "_law_happenings" =some (.ref bT))
  {kI:Addr}{oN:FuncData}{eB:FM}(uV:bz P w K mg base fQ n kI oN ["_law_thing"] (spT K 1 eB)) (uW:Binds K oN ["_law_thing"] []) (uX:PySem.W.keepIn K (.ref kI)=true) (uY:mg "_law_whole" =some (.ref kI))
  (hf:∀us r,fm us=some r→aH 5 (aF aK eB) us=some r):bz P w K mg base fQ (n+1) f fd ["_law_table_here","_law_thing"] (spT K 2 fm):=
 qm (g:=aF aK eB) F dJ (fun cdv A outer s H E hr=>(aE (ig (JW.t (ou (jm (iL (cz rfl aG rfl dB PyProof.Rows.Boot.tuple (JE.d (ah 1))))) (iI (gm (sG hr.units) (d9 (i:=1) rfl dR) az)))) (aO (br (JD.e gD))) fC)
  (aE (Ac (JE.d (ah 1)) (vL rfl (jx (eU (i:=2) dJ.nd rfl (by first | exact Or.inl rfl | exact Or.inr rfl)) (jx (eU (i:=3) dJ.nd rfl (by first | exact Or.inl rfl | exact Or.inr rfl)) sA))))
  (aE (ig (JW.t (ou (jm (iL (cz rfl aG rfl dB PyProof.Rows.Boot.tuple (JE.d (ah 2))))) (ou (jm (iL (cz rfl aG rfl dB PyProof.Rows.Boot.tuple (JE.d (ah 3))))) (ou (gm pK (d9 (i:=2) rfl dR) az) (iI (gm (sG hr.units) (d9 (i:=2) rfl dR) (d9 (i:=3) rfl dR))))))) (aO (br (JD.e gD))) fC)
  (aE (j6 PassesOwn.never rfl (jP (JE.d (ah 2))) (eU (i:=4) dJ.nd rfl (by first | exact Or.inl rfl | exact Or.inr rfl)) (aE (ig (JW.t (ou (jm (iL (cz rfl aG rfl dB PyProof.Rows.Boot.tuple (JE.d (ah 4))))) (iI (gm (sG hr.units) (d9 (i:=4) rfl dR) (JE.d (dZ kR rfl dR PySem.boot_len (aj (JE.d (aM gW hr rfl gZ gY gX (aI (JE.d (ah 0)) aZ))) aC))))))) (aO (br (JD.e gD))) fC)
  (aO (ig (jm (iL (JE.d (dZ (kY rfl) rfl pe PyProof.Rows.Boot.all (aj (JE.d (kX (mV (i:=2) rfl (by decide) rfl (by decide) rfl rfl (by decide) (by decide) rfl rfl rfl) rfl (jP (JE.d (ah 4))) (fun _ _ _ _=>iF) (fun _ _ _ _=>(j5 (JE.d (aM uV hr rfl uY uX uW (aI (JE.d (ah 0)) aZ))) (lN (z8 pL pK az (JE.d (ah 0)) (d9 (i:=1) rfl dR))))))) aC))))) (aO (br (JD.e gD))) fC))))
  (aO (br (JD.e gD)))))))) hf
noncomputable abbrev g6:Stmt:=top 24
theorem kJ:bH ["_law_table_here","_law_thing","_law_truths","_law_texts"] ["_law_table_here","_law_thing"] (aB g6):=⟨rfl,rfl,rfl,by decide +kernel,rfl,by decide +kernel,by decide +kernel⟩
theorem uZ {P:Program}{w:World}{K:PySem.W.Frag}{mg:Str→Option Value}{base:Heap}{f:Addr}{fd:FuncData}{n:Nat}{fm:FM}(F:m6 K "_law_due" "_law_due" g6 f fd) (aG:mg "isinstance" =none) (jW:mg "bool" =none) (EE:mg "str" =none)
  {g7:Addr}{jI:FuncData}{dz:FM}(nO:bz P w K mg base fQ n g7 jI ["_law_table_here","_law_thing"] (spT K 2 dz)) (nP:Binds K jI ["_law_table_here","_law_thing"] []) (nQ:PySem.W.keepIn K (.ref g7)=true) (nR:mg "_law_is_machine" =some (.ref g7))
  (hf:∀us r,fm us=some r→aH 4 (eG dz) us=some r):bz P w K mg base fQ (n+1) f fd ["_law_table_here","_law_thing"] (spT K 2 fm):=
 qm (g:=eG dz) F kJ (fun cdv A outer s H E hr=>(aE (ig (jm (iL (JE.d (aM nO hr rfl nR nQ nP (aI (JE.d (ah 0)) (aI (JE.d (ah 1)) aZ)))))) (aO (br (cX (aj gD (aj gD aC))))) fC)
  (aE (pP (i:=2) kJ.nd rfl (by first | exact Or.inl rfl | exact Or.inr rfl) (pJ (by decide) (by decide) rfl (by decide) rfl) rfl (jP (cG (i:=1) (dM hr) az (fun _ _=>rfl))) (fun _ _ _ _=>iF) (fun _ _ _ _=>(cz rfl aG rfl jW PyProof.Rows.Boot.bool (JE.d (ah 0)))))
  (aE (pP (i:=3) kJ.nd rfl (by first | exact Or.inl rfl | exact Or.inr rfl) (pJ (by decide) (by decide) rfl (by decide) rfl) rfl (jP (cG (i:=1) (dM hr) az (fun _ _=>rfl))) (fun _ _ _ _=>iF) (fun _ _ _ _=>(j5 (cz rfl aG rfl EE PyProof.Rows.Boot.str (JE.d (ah 0))) (lN (JE.d (jN (Al hr.units) (JE.d (ah 0)) (JE.d (cy (aj cu (aj cu (aj cu aC))))) (by with_unfolding_all rfl)))))))
  (aO (br (cX (aj (JE.d (jN (rz hr.units) gD (JE.d (ah 2)) (by with_unfolding_all rfl))) (aj (JE.d (jN (rz hr.units) gD (JE.d (ah 3)) (by with_unfolding_all rfl))) aC))))))))) hf
noncomputable abbrev cS:Stmt:=top 25
theorem cC:bH ["_law_feed_here","_law_thing","_law_odd","_law_at","_law_one","_law_ways"] ["_law_feed_here","_law_thing"] (aB cS):=⟨rfl,rfl,rfl,by decide +kernel,rfl,by decide +kernel,by decide +kernel⟩
theorem nT {P:Program}{w:World}{K:PySem.W.Frag}{mg:Str→Option Value}{base:Heap}{f:Addr}{fd:FuncData}{n:Nat}{fm:FM}(F:m6 K "_law_bent_row" "_law_bent_row" cS f fd) (dR:mg "len" =none) (rK:mg "list" =none)
  {bN:Addr}{cK:FuncData}{aD:FM}(bD:bz P w K mg base fQ n bN cK ["_law_feed_here","_law_many"] (spT K 2 aD)) (bE:Binds K cK ["_law_feed_here","_law_many"] []) (bF:PySem.W.keepIn K (.ref bN)=true) (bG:mg "_law_take" =some (.ref bN))
  (hf:∀us r,fm us=some r→aH 6 (cQ aD) us=some r):bz P w K mg base fQ (n+1) f fd ["_law_feed_here","_law_thing"] (spT K 2 fm):=
 qm (g:=cQ aD) F cC (fun cdv A outer s H E hr=>(aE (bB (i:=2) cC.nd rfl (by first | exact Or.inl rfl | exact Or.inr rfl) (cX (aj az (aj az (aj (JE.d (GF BS az)) (aj az (aj gD (aj gD (aj z7 (aj cu (aj cu (aj cu (aj cu (aj cu (aj (JE.d (cy aC)) (aj (JE.d (cy (aj az aC))) (aj (JE.d (cX (aj az aC))) (aj (JE.d (bf pA az az)) aC))))))))))))))))))
  (aE (bB (i:=3) cC.nd rfl (by first | exact Or.inl rfl | exact Or.inr rfl) (aM bD hr rfl bG bF bE (cE (ah 0) (aI (JE.d (bf bI (d9 (i:=1) rfl dR) az)) aZ))))
  (aE (bB (i:=4) cC.nd rfl (by first | exact Or.inl rfl | exact Or.inr rfl) (JD.e (cG (i:=2) (dM hr) (JE.d (aM bD hr rfl bG bF bE (cE (ah 0) (aI (d9 (i:=2) rfl dR) aZ)))) (fun _ _=>rfl))))
  (aE (bB (i:=5) cC.nd rfl (by first | exact Or.inl rfl | exact Or.inr rfl) (cX (aj (JE.d (bf bI (JE.d (eg (JE.d (ah 1)) ia (fL (JE.d (ah 3))))) (JE.d (eg (JE.d (ah 1)) (fL (JE.d (bf bI (JE.d (ah 3)) az))) ia)))) (aj (JE.d (bf bI (JE.d (bf bI (JE.d (eg (JE.d (ah 1)) ia (fL (JE.d (ah 3))))) (JE.d (eg (JE.d (ah 1)) (fL (JE.d (ah 3))) (fL (JE.d (bf bI (JE.d (ah 3)) az))))))) (JE.d (eg (JE.d (ah 1)) (fL (JE.d (ah 3))) ia)))) (aj (JE.d (gH pT rfl rK PyProof.Rows.Boot.list (aj (JE.d (ah 1)) aC))) aC)))))
  (aE (bB (i:=5) cC.nd rfl (by first | exact Or.inl rfl | exact Or.inr rfl) (bf bI (JE.d (ah 5)) (JE.d (cX (aj (JE.d (bf bI (JE.d (bf bI (JE.d (eg (JE.d (ah 1)) ia (fL (JE.d (ah 3))))) (JE.d (cy (aj (JE.d (ah 4)) aC))))) (JE.d (eg (JE.d (ah 1)) (fL (JE.d (ah 3))) ia)))) (aj (JE.d (bf bI (JE.d (bf bI (JE.d (eg (JE.d (ah 1)) ia (fL (JE.d (ah 3))))) (JE.d (cy (aj (JE.d (ah 4)) aC))))) (JE.d (eg (JE.d (ah 1)) (fL (JE.d (bf bI (JE.d (ah 3)) az))) ia)))) aC))))))
  (aO (br (JD.e (cG (i:=5) (dM hr) (JE.d (aM bD hr rfl bG bF bE (cE (ah 0) (aI az aZ)))) (fun _ _=>rfl))))))))))) hf
noncomputable abbrev fX:Stmt:=top 26
theorem fB:bH ["_law_feed_here","_law_machine_here","_law_nexts","_law_marks","_law_way","_law_spot","_law_some"] ["_law_feed_here","_law_machine_here"] (aB fX):=⟨rfl,rfl,rfl,by decide +kernel,rfl,by decide +kernel,by decide +kernel⟩
theorem sV {P:Program}{w:World}{K:PySem.W.Frag}{mg:Str→Option Value}{base:Heap}{f:Addr}{fd:FuncData}{n:Nat}{fm:FM}(F:m6 K "_law_bent" "_law_bent" fX f fd) (dR:mg "len" =none) (rK:mg "list" =none)
  {bN:Addr}{cK:FuncData}{aD:FM}(bD:bz P w K mg base fQ n bN cK ["_law_feed_here","_law_many"] (spT K 2 aD)) (bE:Binds K cK ["_law_feed_here","_law_many"] []) (bF:PySem.W.keepIn K (.ref bN)=true) (bG:mg "_law_take" =some (.ref bN))
  {i7:Addr}{kK:FuncData}{cJ:FM}(i8:bz P w K mg base fQ n i7 kK ["_law_feed_here","_law_thing"] (spT K 2 cJ)) (i9:Binds K kK ["_law_feed_here","_law_thing"] []) (jc:PySem.W.keepIn K (.ref i7)=true) (jd:mg "_law_bent_row" =some (.ref i7))
  (hf:∀us r,fm us=some r→aH 7 (bx aD cJ) us=some r):bz P w K mg base fQ (n+1) f fd ["_law_feed_here","_law_machine_here"] (spT K 2 fm):=
 qm (g:=bx aD cJ) F fB (fun cdv A outer s H E hr=>(aE (Ac (JE.d (ah 1)) (vL rfl (jx (eU (i:=2) fB.nd rfl (by first | exact Or.inl rfl | exact Or.inr rfl)) (jx (eU (i:=3) fB.nd rfl (by first | exact Or.inl rfl | exact Or.inr rfl)) sA))))
  (aE (bB (i:=4) fB.nd rfl (by first | exact Or.inl rfl | exact Or.inr rfl) (aM bD hr rfl bG bF bE (cE (ah 0) (aI az aZ))))
  (aE (ig (gm pK (JE.d (ah 4)) az) (aE (bB (i:=5) fB.nd rfl (by first | exact Or.inl rfl | exact Or.inr rfl) (aM bD hr rfl bG bF bE (cE (ah 0) (aI (d9 (i:=2) rfl dR) aZ))))
  (aO (br (cy (aj (JE.d (bf bI (JE.d (bf bI (JE.d (eg (JE.d (ah 2)) ia (fL (JE.d (ah 5))))) (JE.d (cy (aj (JE.d (aM i8 hr rfl jd jc i9 (cE (ah 0) (aI (cG (i:=2) (dM hr) (JE.d (ah 5)) (fun _ _=>rfl)) aZ)))) aC))))) (JE.d (eg (JE.d (ah 2)) (fL (JE.d (bf bI (JE.d (ah 5)) az))) ia)))) (aj (JE.d (ah 3)) aC)))))) fC)
  (aE (ig (gm (sF hr.units) (JE.d (ah 4)) az) (aO (br (cy (aj (JE.d (aM i8 hr rfl jd jc i9 (cE (ah 0) (aI (JE.d (ah 2)) aZ)))) (aj (JE.d (ah 3)) aC))))) fC)
  (aE (ig (gm pK (JE.d (ah 4)) az) (aO (br (cy (aj (JE.d (ah 2)) (aj (JE.d (aM i8 hr rfl jd jc i9 (cE (ah 0) (aI (JE.d (ah 3)) aZ)))) aC))))) fC)
  (aE (ig (gm (sF hr.units) (JE.d (ah 4)) az) (aO (br (cy (aj (JE.d (ah 2)) (aj (JE.d (ah 3)) aC))))) fC)
  (aE (bB (i:=6) fB.nd rfl (by first | exact Or.inl rfl | exact Or.inr rfl) (cX (aj z7 (aj (JE.d (cy aC)) (aj az (aj cu (aj (JE.d (cX (aj (JE.d (ah 2)) (aj (JE.d (ah 3)) aC)))) (aj (JE.d (cy (aj (JE.d (ah 2)) aC))) (aj (JE.d (cy (aj (JE.d (ah 3)) (aj (JE.d (ah 2)) aC)))) (aj (JE.d (cy (aj (JE.d (ah 2)) (aj (JE.d (ah 3)) (aj (JE.d (cy aC)) aC))))) (aj (JE.d (cy (aj (JE.d (cy aC)) (aj (JE.d (cy aC)) aC)))) aC)))))))))))
  (aE (mO (JD.e (mR (i:=6) PySem.F.slot_list_append PySem.F.type_list_append kQ kT kZ (aj (JE.d (cy (aj (JE.d (ah 2)) (aj (JE.d (gH pT rfl rK PyProof.Rows.Boot.list (aj (JE.d (ah 3)) aC))) aC)))) aC))))
  (aO (br (JD.e (cG (i:=6) (dM hr) (JE.d (aM bD hr rfl bG bF bE (cE (ah 0) (aI az aZ)))) (fun _ _=>rfl)))))))))))))) hf
noncomputable abbrev m5:Stmt:=top 27
theorem kL:bH ["_law_script","_law_feed_here","_law_table_here","_law_k","_law_menu","_law_machine_here","_law_thing","_law_found"] ["_law_script"] (aB m5):=⟨rfl,rfl,rfl,by decide +kernel,rfl,by decide +kernel,by decide +kernel⟩
theorem EF {P:Program}{w:World}{K:PySem.W.Frag}{mg:Str→Option Value}{base:Heap}{f:Addr}{fd:FuncData}{n:Nat}{fm:FM}(F:m6 K "law" "law" m5 f fd) (eL:mg "range" =none) (xq:mg "repr" =none)
  {lZ:Addr}{qc:FuncData}{aW:FM}(qd:bz P w K mg base fQ n lZ qc ["_law_script","_law_k"] (spT K 2 aW)) (qg:Binds K qc ["_law_script","_law_k"] []) (qh:PySem.W.keepIn K (.ref lZ)=true) (qi:mg "_law_feed" =some (.ref lZ))
  {kM:Addr}{oO:FuncData}{aN:FM}(u5:bz P w K mg base fQ n kM oO ["_law_feed_here"] (spT K 1 aN)) (u6:Binds K oO ["_law_feed_here"] []) (u9:PySem.W.keepIn K (.ref kM)=true) (vc:mg "_law_table" =some (.ref kM))
  {jr:Addr}{lI:FuncData}{aJ:FM}(qH:bz P w K mg base fQ n jr lI ["_law_feed_here","_law_table_here","_law_menu"] (spT K 3 aJ)) (qI:Binds K lI ["_law_feed_here","_law_table_here","_law_menu"] []) (qJ:PySem.W.keepIn K (.ref jr)=true) (qK:mg "_law_machine" =some (.ref jr))
  {mh:Addr}{qj:FuncData}{aU:FM}(vX:bz P w K mg base fQ n mh qj ["_law_feed_here","_law_machine_here"] (spT K 2 aU)) (vY:Binds K qj ["_law_feed_here","_law_machine_here"] []) (vZ:PySem.W.keepIn K (.ref mh)=true) (v5:mg "_law_bent" =some (.ref mh))
  {nU:Addr}{rL:FuncData}{bu:FM}(yP:bz P w K mg base fQ n nU rL ["table","thing"] (spT K 2 bu)) (yQ:Binds K rL ["table","thing"] []) (yR:PySem.W.keepIn K (.ref nU)=true) (yS:mg "is_judge" =some (.ref nU))
  {kN:Addr}{oR:FuncData}{aP:FM}(vd:bz P w K mg base fQ n kN oR ["table","thing"] (spT K 2 aP)) (ve:Binds K oR ["table","thing"] []) (vf:PySem.W.keepIn K (.ref kN)=true) (vg:mg "is_watcher" =some (.ref kN))
  {nW:Addr}{rM:FuncData}{bw:FM}(yT:bz P w K mg base fQ n nW rM ["_law_table_here","_law_thing"] (spT K 2 bw)) (yU:Binds K rM ["_law_table_here","_law_thing"] []) (yV:PySem.W.keepIn K (.ref nW)=true) (yW:mg "_law_due" =some (.ref nW))
  (hf:∀us r,fm us=some r→aH 8 (uF aW aN aJ aU bu aP bw) us=some r):bz P w K mg base fQ (n+1) f fd ["_law_script"] (spT K 1 fm):=
 qm (g:=uF aW aN aJ aU bu aP bw) F kL (fun cdv A outer s H E hr=>(aE (bB (i:=1) kL.nd rfl (by first | exact Or.inl rfl | exact Or.inr rfl) (aM qd hr rfl qi qh qg (cE (ah 0) (aI az aZ))))
  (aE (bB (i:=2) kL.nd rfl (by first | exact Or.inl rfl | exact Or.inr rfl) (aM u5 hr rfl vc u9 u6 (cE (ah 1) aZ)))
  (aE (j6 PassesOwn.never rfl (gI rfl eL (aj az aC)) (eU (i:=3) kL.nd rfl (by first | exact Or.inl rfl | exact Or.inr rfl)) (aE (bB (i:=4) kL.nd rfl (by first | exact Or.inl rfl | exact Or.inr rfl) (CN GK (JE.d (cX (aj (JE.d (cX (aj gD (aj gD aC)))) (aj (JE.d (cX (aj cu (aj cu (aj cu aC))))) aC)))) (JE.d (bf jh (JE.d (ah 3)) az)) (fun _ _=>rfl)))
  (aE (bB (i:=5) kL.nd rfl (by first | exact Or.inl rfl | exact Or.inr rfl) (aM qH hr rfl qK qJ qI (cE (aM qd hr rfl qi qh qg (cE (ah 0) (aI (JE.d (bf bI az (JE.d (ah 3)))) aZ))) (aI (JE.d (ah 2)) (aI (JE.d (ah 4)) aZ)))))
  (aO (j6 PassesOwn.never rfl (jP (JE.d (cX (aj (JE.d (ah 5)) (aj (JE.d (aM vX hr rfl v5 vZ vY (cE (ah 1) (aI (JE.d (ah 5)) aZ)))) aC))))) (eU (i:=6) kL.nd rfl (by first | exact Or.inl rfl | exact Or.inr rfl)) (aE (bB (i:=7) kL.nd rfl (by first | exact Or.inl rfl | exact Or.inr rfl) (cX (aj (JE.d (aM yP hr rfl yS yR yQ (aI (JE.d (ah 2)) (aI (JE.d (ah 6)) aZ)))) (aj (JE.d (aM vd hr rfl vg vf ve (aI (JE.d (ah 2)) (aI (JE.d (ah 6)) aZ)))) aC))))
  (aO (ig (gm (sG hr.units) (JE.d (dZ (pU hr.gd hr.units) rfl xq PyProof.Rows.Boot.repr (aj (JE.d (ah 7)) aC))) (JE.d (dZ (pU hr.gd hr.units) rfl xq PyProof.Rows.Boot.repr (aj (JE.d (aM yT hr rfl yW yV yU (aI (JE.d (ah 2)) (aI (JE.d (ah 6)) aZ)))) aC)))) (aO (br (JD.e gD))) fC))))))))
  (aO (br (JD.e gD))))))) hf
end K37
end
set_option Elab.async false
set_option linter.all false
set_option maxRecDepth 100000
namespace K37
open PySem L2 Sw Sq Sg
set_option maxHeartbeats 0 in
theorem all_mk {l:PySem.W.OpenLaw}{w:World}{K:PySem.W.Frag}{h:Heap}{mg:Str→Option Value}{fa f1 f2 f3 f4 f5 f6 f7 f8 f9 L7 f11 L8 Ma Mb Mc Me Mf Mg Mh Mi Mj Mk:Addr}(X:K.In h) (G:h.Ns mainGlobals mg) (GV:mg "law" =some (.ref fa))
  {Q3 Q4 Q5 Q6 Q7 Q8 Q9 Rb Rc Rf Rg Rh Ri Rj Rk Rl Rm Rn Ml Mm Mn Mp Mq Mr Ms Mt Mu Mv Mw Mx My Mz MA MB MC MD ME MF MG MH MI MJ MK HS:Option Addr}{Ro sl2 Rp Rq Rr Rt Ru Rv Rw ML MM MN MP MQ MR MS MT MU MV MW MX MY:Array (Option Value)} {Rx Ry Rz RA Pd RB RC RD RE RG Pe RH RI RJ RK RL Pf RM RN RO RP RQ Pg RS RU RV RW RX Ph RY RZ R5 R6 R7 Pj R8 R9 Sa Sd Se Pk Sh Si Sj Sk Sl Pn Sm So Ss Su Sv Po Sx MZ M0 M1 M3 HU M4 M5 M6 M7 M8 HV M9 Na Nb Nc Nd HW Nf Ng Nh Ni Nj HX Nk Nl Nm Nn Np HY Nq Nr Nt Nu Nv HZ Nx Ny Nz NB NC Ia ND NF NG NH NI Ib NJ NK NL NN NO Ic NP NQ NR NS NT Ie NU NV NW NX NY Ig NZ N1 N2 N3 N4 Ih N5 N6 Ii Ij Ik EG Il:Value}
  (a1:PySem.W.nsIn K mainGlobals "is_whole" =some (some (.ref f1))) (l1:K.lookup f1=some ⟨Rx,Q3,.func (PySem.W.fnOf "is_whole" "is_whole" (bA gJ) (bh gJ) (aB gJ) .none Ry Rz RA Q4 Pd RB),Ro⟩) (c1:PySem.W.codeIn K Pd "is_whole" =true) (k1:PySem.W.keepIn K (.ref f1)=true)
  (a2:PySem.W.nsIn K mainGlobals "is_tuple" =some (some (.ref f2))) (l2:K.lookup f2=some ⟨RC,Q5,.func (PySem.W.fnOf "is_tuple" "is_tuple" (bA gK) (bh gK) (aB gK) .none RD RE RG Q6 Pe RH),sl2⟩) (c2:PySem.W.codeIn K Pe "is_tuple" =true) (k2:PySem.W.keepIn K (.ref f2)=true)
  (a3:PySem.W.nsIn K mainGlobals "happenings_of" =some (some (.ref f3))) (l3:K.lookup f3=some ⟨RI,Q7,.func (PySem.W.fnOf "happenings_of" "happenings_of" (bA cR) (bh cR) (aB cR) .none RJ RK RL Q8 Pf RM),Rp⟩) (c3:PySem.W.codeIn K Pf "happenings_of" =true) (k3:PySem.W.keepIn K (.ref f3)=true)
  (a4:PySem.W.nsIn K mainGlobals "is_leads" =some (some (.ref f4))) (l4:K.lookup f4=some ⟨RN,Q9,.func (PySem.W.fnOf "is_leads" "is_leads" (bA gM) (bh gM) (aB gM) .none RO RP RQ Rb Pg RS),Rq⟩) (c4:PySem.W.codeIn K Pg "is_leads" =true) (k4:PySem.W.keepIn K (.ref f4)=true)
  (a5:PySem.W.nsIn K mainGlobals "is_nexts" =some (some (.ref f5))) (l5:K.lookup f5=some ⟨RU,Rc,.func (PySem.W.fnOf "is_nexts" "is_nexts" (bA gP) (bh gP) (aB gP) .none RV RW RX Rf Ph RY),Rr⟩) (c5:PySem.W.codeIn K Ph "is_nexts" =true) (k5:PySem.W.keepIn K (.ref f5)=true)
  (a6:PySem.W.nsIn K mainGlobals "is_machine" =some (some (.ref f6))) (l6:K.lookup f6=some ⟨RZ,Rg,.func (PySem.W.fnOf "is_machine" "is_machine" (bA fh) (bh fh) (aB fh) .none R5 R6 R7 Rh Pj R8),Rt⟩) (c6:PySem.W.codeIn K Pj "is_machine" =true) (k6:PySem.W.keepIn K (.ref f6)=true)
  (a7:PySem.W.nsIn K mainGlobals "is_truth" =some (some (.ref f7))) (l7:K.lookup f7=some ⟨R9,Ri,.func (PySem.W.fnOf "is_truth" "is_truth" (bA gQ) (bh gQ) (aB gQ) .none Sa Sd Se Rj Pk Sh),Ru⟩) (c7:PySem.W.codeIn K Pk "is_truth" =true) (k7:PySem.W.keepIn K (.ref f7)=true)
  (a8:PySem.W.nsIn K mainGlobals "is_judge" =some (some (.ref f8))) (l8:K.lookup f8=some ⟨Si,Rk,.func (PySem.W.fnOf "is_judge" "is_judge" (bA gR) (bh gR) (aB gR) .none Sj Sk Sl Rl Pn Sm),Rv⟩) (c8:PySem.W.codeIn K Pn "is_judge" =true) (k8:PySem.W.keepIn K (.ref f8)=true)
  (a9:PySem.W.nsIn K mainGlobals "is_verdict" =some (some (.ref f9))) (l9:K.lookup f9=some ⟨So,Rm,.func (PySem.W.fnOf "is_verdict" "is_verdict" (bA fj) (bh fj) (aB fj) .none Ss Su Sv Rn Po Sx),Rw⟩) (c9:PySem.W.codeIn K Po "is_verdict" =true) (k9:PySem.W.keepIn K (.ref f9)=true)
  (a10:PySem.W.nsIn K mainGlobals "is_watcher" =some (some (.ref L7))) (N7:K.lookup L7=some ⟨MZ,Ml,.func (PySem.W.fnOf "is_watcher" "is_watcher" (bA fq) (bh fq) (aB fq) .none M0 M1 M3 Mm HU M4),ML⟩) (N8:PySem.W.codeIn K HU "is_watcher" =true) (Ju:PySem.W.keepIn K (.ref L7)=true)
  (a11:PySem.W.nsIn K mainGlobals "_law_mix" =some (some (.ref f11))) (N9:K.lookup f11=some ⟨M5,Mn,.func (PySem.W.fnOf "_law_mix" "_law_mix" (bA gT) (bh gT) (aB gT) .none M6 M7 M8 Mp HV M9),MM⟩) (Oa:PySem.W.codeIn K HV "_law_mix" =true) (Im:PySem.W.keepIn K (.ref f11)=true)
  (a12:PySem.W.nsIn K mainGlobals "_law_feed" =some (some (.ref L8))) (Ob:K.lookup L8=some ⟨Na,Mq,.func (PySem.W.fnOf "_law_feed" "_law_feed" (bA fV) (bh fV) (aB fV) .none Nb Nc Nd Mr HW Nf),MN⟩) (c12:PySem.W.codeIn K HW "_law_feed" =true) (DP:PySem.W.keepIn K (.ref L8)=true)
  (a13:PySem.W.nsIn K mainGlobals "_law_take" =some (some (.ref Ma))) (Oc:K.lookup Ma=some ⟨Ng,Ms,.func (PySem.W.fnOf "_law_take" "_law_take" (bA fW) (bh fW) (aB fW) .none Nh Ni Nj Mt HX Nk),MP⟩) (Od:PySem.W.codeIn K HX "_law_take" =true) (EH:PySem.W.keepIn K (.ref Ma)=true)
  (a14:PySem.W.nsIn K mainGlobals "_law_table" =some (some (.ref Mb))) (Oe:K.lookup Mb=some ⟨Nl,Mu,.func (PySem.W.fnOf "_law_table" "_law_table" (bA fu) (bh fu) (aB fu) .none Nm Nn Np Mv HY Nq),MQ⟩) (Of:PySem.W.codeIn K HY "_law_table" =true) (Jv:PySem.W.keepIn K (.ref Mb)=true)
  (a15:PySem.W.nsIn K mainGlobals "_law_happenings" =some (some (.ref Mc))) (Og:K.lookup Mc=some ⟨Nr,Mw,.func (PySem.W.fnOf "_law_happenings" "_law_happenings" (bA bX) (bh bX) (aB bX) .none Nt Nu Nv Mx HZ Nx),MR⟩) (Oh:PySem.W.codeIn K HZ "_law_happenings" =true) (Io:PySem.W.keepIn K (.ref Mc)=true)
  (a16:PySem.W.nsIn K mainGlobals "_law_machine" =some (some (.ref Me))) (Oi:K.lookup Me=some ⟨Ny,My,.func (PySem.W.fnOf "_law_machine" "_law_machine" (bA dD) (bh dD) (aB dD) .none Nz NB NC Mz Ia ND),MS⟩) (Oj:PySem.W.codeIn K Ia "_law_machine" =true) (Jw:PySem.W.keepIn K (.ref Me)=true)
  (a17:PySem.W.nsIn K mainGlobals "_law_whole" =some (some (.ref Mf))) (Ol:K.lookup Mf=some ⟨NF,MA,.func (PySem.W.fnOf "_law_whole" "_law_whole" (bA fy) (bh fy) (aB fy) .none NG NH NI MB Ib NJ),MT⟩) (Om:PySem.W.codeIn K Ib "_law_whole" =true) (Jx:PySem.W.keepIn K (.ref Mf)=true)
  (a18:PySem.W.nsIn K mainGlobals "_law_is_machine" =some (some (.ref Mg))) (Oo:K.lookup Mg=some ⟨NK,MC,.func (PySem.W.fnOf "_law_is_machine" "_law_is_machine" (bA bY) (bh bY) (aB bY) .none NL NN NO MD Ic NP),MU⟩) (Oq:PySem.W.codeIn K Ic "_law_is_machine" =true) (Jy:PySem.W.keepIn K (.ref Mg)=true)
  (a19:PySem.W.nsIn K mainGlobals "_law_due" =some (some (.ref Mh))) (Ot:K.lookup Mh=some ⟨NQ,ME,.func (PySem.W.fnOf "_law_due" "_law_due" (bA g6) (bh g6) (aB g6) .none NR NS NT MF Ie NU),MV⟩) (Ou:PySem.W.codeIn K Ie "_law_due" =true) (Jz:PySem.W.keepIn K (.ref Mh)=true)
  (a20:PySem.W.nsIn K mainGlobals "_law_bent_row" =some (some (.ref Mi))) (Ov:K.lookup Mi=some ⟨NV,MG,.func (PySem.W.fnOf "_law_bent_row" "_law_bent_row" (bA cS) (bh cS) (aB cS) .none NW NX NY MH Ig NZ),MW⟩) (Ow:PySem.W.codeIn K Ig "_law_bent_row" =true) (JC:PySem.W.keepIn K (.ref Mi)=true)
  (a21:PySem.W.nsIn K mainGlobals "_law_bent" =some (some (.ref Mj))) (Ox:K.lookup Mj=some ⟨N1,MI,.func (PySem.W.fnOf "_law_bent" "_law_bent" (bA fX) (bh fX) (aB fX) .none N2 N3 N4 MJ Ih N5),MX⟩) (Oz:PySem.W.codeIn K Ih "_law_bent" =true) (JF:PySem.W.keepIn K (.ref Mj)=true)
  (a22:PySem.W.nsIn K mainGlobals "law" =some (some (.ref Mk))) (OA:K.lookup Mk=some ⟨N6,MK,.func (PySem.W.fnOf "law" "law" (bA m5) (bh m5) (aB m5) .none Ii Ij Ik HS EG Il),MY⟩) (OB:PySem.W.codeIn K EG "law" =true) (OC:PySem.W.keepIn K (.ref Mk)=true)
  (kO:PySem.W.nsIn K mainGlobals "isinstance" =some none) (EI:PySem.W.nsIn K mainGlobals "int" =some none) (A4:PySem.W.nsIn K mainGlobals "bool" =some none) (v7:PySem.W.nsIn K mainGlobals "tuple" =some none) (EJ:PySem.W.nsIn K mainGlobals "len" =some none) (v8:PySem.W.nsIn K mainGlobals "range" =some none) (EK:PySem.W.nsIn K mainGlobals "all" =some none) (EL:PySem.W.nsIn K mainGlobals "min" =some none) (EM:PySem.W.nsIn K mainGlobals "str" =some none) (A5:PySem.W.nsIn K mainGlobals "list" =some none) (A6:PySem.W.nsIn K mainGlobals "repr" =some none) (hne:f7≠f9):
  ∃fd:FuncData,(∀(s:Shared) (v:Value),BindsTo s fd ⟨[v],[]⟩ [("_law_script",v)])∧∀base:Heap,K.In base→base.Ns mainGlobals mg→bz l.prog w K mg base fQ 6 fa fd ["_law_script"] (spT K 1 (vR 63)):=by
 have e:=GV.symm.trans (PySem.W.mg_of X G a22)
 cases e
 have F1:=cN (st:=gJ) l1 c1 k1
 have b1:=F1.binds (ps:=["thing","least","most"]) fun _ _ _ _ _ _ us hl=>match us,hl with | [_,_,_],_=>rfl
 have n1:=PySem.W.mg_of X G a1
 have F2:=cN (st:=gK) l2 c2 k2
 have b2:=F2.binds (ps:=["thing","least","most"]) fun _ _ _ _ _ _ us hl=>match us,hl with | [_,_,_],_=>rfl
 have n2:=PySem.W.mg_of X G a2
 have F3:=cN (st:=cR) l3 c3 k3
 have b3:=F3.binds (ps:=["table"]) fun _ _ _ _ _ _ us hl=>match us,hl with | [_],_=>rfl
 have n3:=PySem.W.mg_of X G a3
 have F4:=cN (st:=gM) l4 c4 k4
 have b4:=F4.binds (ps:=["thing","width","count"]) fun _ _ _ _ _ _ us hl=>match us,hl with | [_,_,_],_=>rfl
 have n4:=PySem.W.mg_of X G a4
 have F5:=cN (st:=gP) l5 c5 k5
 have b5:=F5.binds (ps:=["table","thing"]) fun _ _ _ _ _ _ us hl=>match us,hl with | [_,_],_=>rfl
 have n5:=PySem.W.mg_of X G a5
 have F6:=cN (st:=fh) l6 c6 k6
 have b6:=F6.binds (ps:=["table","thing","is_word"]) fun _ _ _ _ _ _ us hl=>match us,hl with | [_,_,_],_=>rfl
 have n6:=PySem.W.mg_of X G a6
 have F7:=cN (st:=gQ) l7 c7 k7
 have b7:=F7.binds (ps:=["thing"]) fun _ _ _ _ _ _ us hl=>match us,hl with | [_],_=>rfl
 have n7:=PySem.W.mg_of X G a7
 have F8:=cN (st:=gR) l8 c8 k8
 have b8:=F8.binds (ps:=["table","thing"]) fun _ _ _ _ _ _ us hl=>match us,hl with | [_,_],_=>rfl
 have n8:=PySem.W.mg_of X G a8
 have F9:=cN (st:=fj) l9 c9 k9
 have b9:=F9.binds (ps:=["thing"]) fun _ _ _ _ _ _ us hl=>match us,hl with | [_],_=>rfl
 have n9:=PySem.W.mg_of X G a9
 have Pp:=cN (st:=fq) N7 N8 Ju
 have Sy:=Pp.binds (ps:=["table","thing"]) fun _ _ _ _ _ _ us hl=>match us,hl with | [_,_],_=>rfl
 have Sz:=PySem.W.mg_of X G a10
 have Pq:=cN (st:=gT) N9 Oa Im
 have Pr:=Pq.binds (ps:=["_law_cell","_law_k"]) fun _ _ _ _ _ _ us hl=>match us,hl with | [_,_],_=>rfl
 have Pu:=PySem.W.mg_of X G a11
 have Pw:=cN (st:=fV) Ob c12 DP
 have SA:=Pw.binds (ps:=["_law_script","_law_k"]) fun _ _ _ _ _ _ us hl=>match us,hl with | [_,_],_=>rfl
 have SD:=PySem.W.mg_of X G a12
 have Px:=cN (st:=fW) Oc Od EH
 have JH:=Px.binds (ps:=["_law_feed_here","_law_many"]) fun _ _ _ _ _ _ us hl=>match us,hl with | [_,_],_=>rfl
 have JJ:=PySem.W.mg_of X G a13
 have Py:=cN (st:=fu) Oe Of Jv
 have SE:=Py.binds (ps:=["_law_feed_here"]) fun _ _ _ _ _ _ us hl=>match us,hl with | [_],_=>rfl
 have SG:=PySem.W.mg_of X G a14
 have Pz:=cN (st:=bX) Og Oh Io
 have PB:=Pz.binds (ps:=["_law_table_here"]) fun _ _ _ _ _ _ us hl=>match us,hl with | [_],_=>rfl
 have PD:=PySem.W.mg_of X G a15
 have PF:=cN (st:=dD) Oi Oj Jw
 have SH:=PF.binds (ps:=["_law_feed_here","_law_table_here","_law_menu"]) fun _ _ _ _ _ _ us hl=>match us,hl with | [_,_,_],_=>rfl
 have SI:=PySem.W.mg_of X G a16
 have PJ:=cN (st:=fy) Ol Om Jx
 have SJ:=PJ.binds (ps:=["_law_thing"]) fun _ _ _ _ _ _ us hl=>match us,hl with | [_],_=>rfl
 have SK:=PySem.W.mg_of X G a17
 have PK:=cN (st:=bY) Oo Oq Jy
 have SM:=PK.binds (ps:=["_law_table_here","_law_thing"]) fun _ _ _ _ _ _ us hl=>match us,hl with | [_,_],_=>rfl
 have SN:=PySem.W.mg_of X G a18
 have PL:=cN (st:=g6) Ot Ou Jz
 have SO:=PL.binds (ps:=["_law_table_here","_law_thing"]) fun _ _ _ _ _ _ us hl=>match us,hl with | [_,_],_=>rfl
 have SQ:=PySem.W.mg_of X G a19
 have PM:=cN (st:=cS) Ov Ow JC
 have SR:=PM.binds (ps:=["_law_feed_here","_law_thing"]) fun _ _ _ _ _ _ us hl=>match us,hl with | [_,_],_=>rfl
 have SV:=PySem.W.mg_of X G a20
 have PN:=cN (st:=fX) Ox Oz JF
 have SW:=PN.binds (ps:=["_law_feed_here","_law_machine_here"]) fun _ _ _ _ _ _ us hl=>match us,hl with | [_,_],_=>rfl
 have SX:=PySem.W.mg_of X G a21
 have SY:=cN (st:=m5) OA OB OC
 have aG:=PySem.W.mg_none_of X G kO
 have sR:=PySem.W.mg_none_of X G EI
 have jW:=PySem.W.mg_none_of X G A4
 have dB:=PySem.W.mg_none_of X G v7
 have dR:=PySem.W.mg_none_of X G EJ
 have eL:=PySem.W.mg_none_of X G v8
 have pe:=PySem.W.mg_none_of X G EK
 have ED:=PySem.W.mg_none_of X G EL
 have EE:=PySem.W.mg_none_of X G EM
 have rK:=PySem.W.mg_none_of X G A5
 have xq:=PySem.W.mg_none_of X G A6
 refine⟨PySem.W.fnOf "law" "law" (bA m5) (bh m5) (aB m5) .none Ii Ij Ik HS EG Il,fun s v=>.of_eq rfl,fun base _ _=>?_⟩
 have yX:=uH (P:=l.prog) (w:=w) (K:=K) (mg:=mg) (base:=base) (n:=0) F1 aG sR jW (fm:=lU) whole_run
 have rN:=uJ (P:=l.prog) (w:=w) (K:=K) (mg:=mg) (base:=base) (n:=0) F2 aG dB dR (fm:=iU) x8
 have qk:=nF (P:=l.prog) (w:=w) (K:=K) (mg:=mg) (base:=base) (n:=0) F3 eL (fm:=lG) AI
 have yY:=uR (P:=l.prog) (w:=w) (K:=K) (mg:=mg) (base:=base) (n:=0) F7 aG jW (fm:=nA) yt
 have vh:=qA (P:=l.prog) (w:=w) (K:=K) (mg:=mg) (base:=base) (n:=0) F9 (fm:=rE) A0
 have rO:=uU (P:=l.prog) (w:=w) (K:=K) (mg:=mg) (base:=base) (n:=0) Pq (fm:=uy) Cd
 have jJ:=lX (P:=l.prog) (w:=w) (K:=K) (mg:=mg) (base:=base) (n:=0) Pz eL (fm:=iW) AL
 have vj:=qG (P:=l.prog) (w:=w) (K:=K) (mg:=mg) (base:=base) (n:=0) PJ aG sR jW (fm:=yp) Ck
 have yZ:=uL (P:=l.prog) (w:=w) (K:=K) (mg:=mg) (base:=base) (n:=1) F4 pe (rN.mono (by omega)) b2 k2 n2 (yX.mono (by omega)) b1 k1 n1 (fm:=jU) yj
 have v9:=sS (P:=l.prog) (w:=w) (K:=K) (mg:=mg) (base:=base) (n:=1) Pw dR sR (rO.mono (by omega)) Pr Im Pu (fm:=oH) AF
 have jV:=sU (P:=l.prog) (w:=w) (K:=K) (mg:=mg) (base:=base) (n:=1) Px (rO.mono (by omega)) Pr Im Pu (fm:=dm) AG
 have nX:=lY (P:=l.prog) (w:=w) (K:=K) (mg:=mg) (base:=base) (n:=1) PK aG dB dR pe (jJ.mono (by omega)) PB Io PD (vj.mono (by omega)) SJ Jx SK (fm:=HN) Ew
 have y9:=uM (P:=l.prog) (w:=w) (K:=K) (mg:=mg) (base:=base) (n:=2) F5 aG dB dR pe (qk.mono (by omega)) b3 k3 n3 (yZ.mono (by omega)) b4 k4 n4 (fm:=kB) ym
 have vm:=qE (P:=l.prog) (w:=w) (K:=K) (mg:=mg) (base:=base) (n:=2) Py eL ED dB (jV.mono (by omega)) JH EH JJ (fm:=yf) AJ
 have qL:=pq (P:=l.prog) (w:=w) (K:=K) (mg:=mg) (base:=base) (n:=2) PF dR eL dB (jV.mono (by omega)) JH EH JJ (jJ.mono (by omega)) PB Io PD (fm:=uA) AM
 have za:=uZ (P:=l.prog) (w:=w) (K:=K) (mg:=mg) (base:=base) (n:=2) PL aG jW EE (nX.mono (by omega)) SM Jy SN (fm:=A2) Cv
 have ql:=nT (P:=l.prog) (w:=w) (K:=K) (mg:=mg) (base:=base) (n:=2) PM dR rK (jV.mono (by omega)) JH EH JJ (fm:=Sg.yq) Sg.Cp
 have oU:=qy (P:=l.prog) (w:=w) (K:=K) (mg:=mg) (base:=base) (n:=3) F6 dR pe (rN.mono (by omega)) b2 k2 n2 (y9.mono (by omega)) b5 k5 n5 (yY.mono (by omega)) b7 k7 n7 (vh.mono (by omega)) b9 k9 n9 (fm:=C4 f7 f9) (EA f7 f9)
 have wc:=sV (P:=l.prog) (w:=w) (K:=K) (mg:=mg) (base:=base) (n:=3) PN dR rK (jV.mono (by omega)) JH EH JJ (ql.mono (by omega)) SR JC SV (fm:=uE) yr
 have zb:=uT (P:=l.prog) (w:=w) (K:=K) (mg:=mg) (base:=base) (n:=4) F8 (oU.mono (by omega)) b6 k6 n6 n7 (fm:=nB f7 f9) (yu f7 f9)
 have vn:=qD (P:=l.prog) (w:=w) (K:=K) (mg:=mg) (base:=base) (n:=4) Pp (oU.mono (by omega)) b6 k6 n6 n9 (fm:=nC f7 f9) (yw f7 f9)
 exact EF (P:=l.prog) (w:=w) (K:=K) (mg:=mg) (base:=base) (n:=5) SY eL xq (v9.mono (by omega)) SA DP SD (vm.mono (by omega)) SE Jv SG (qL.mono (by omega)) SH Jw SI (wc.mono (by omega)) SW JF SX (zb.mono (by omega)) b8 k8 n8 (vn.mono (by omega)) Sy Ju Sz (za.mono (by omega)) SO Jz SQ (yx hne)
theorem walk {l:PySem.W.OpenLaw}{q:Program}{loose:List Str}{XP:(Str→Option Value)→Heap→Prop}{YP:World→Heap→Prop}{d:DefRec}{K:Params→PySem.W.Frag}(hn:l.most=some 63) (hdf:d.params.defaults=[])
  (hY:∀(w:World) (h:Heap),YP w h→(K w.params).In h)
  (F:∀(w:World) (mg:Str→Option Value) (fa:Addr) (h:Heap),(K w.params).In h→h.Ns mainGlobals mg→mg d.name=some (.ref fa)→
   ∃fd:FuncData,(∀(s:Shared) (u:Value),BindsTo s fd ⟨[u],[]⟩ [("_law_script",u)])∧∀base:Heap,(K w.params).In base→base.Ns mainGlobals mg→bz l.prog w (K w.params) mg base fQ 6 fa fd ["_law_script"] (spT (K w.params) 1 (vR 63))):
  PySem.W.WalkO q loose XP YP l.row.toRowW d [] (fun f vs=>PySem.call f vs):=
 L2.BF (n:=63) (k:=6) (x:="_law_script") (CX:=fun _=>fQ) (sp:=fun w=>spT (K w.params) 1 (vR 63)) hn (by decide) hdf ⟨rfl,by decide,by decide,rfl⟩ hY F (fun w H a ns hl hO hS=>Em hl hO hS) fun _ _ _ _ _ z=>z
end K37
open PySem PySem.W PyProof.Rows
noncomputable def PySem.W.Fast.tw12174590695775592609:Nat→Stmt:=K37.top
theorem PySem.W.Fast.te12174590695775592609:K37.top=PySem.W.Fast.tw12174590695775592609:=rfl
def K37.sc:Scope:=PySem.Challenge.pw_surewatch_k37_machines_of_any_thing.main.scope
noncomputable def PySem.W.Fast.tw4362526012153730413:Scope:=K37.sc
theorem PySem.W.Fast.te4362526012153730413:K37.sc=PySem.W.Fast.tw4362526012153730413:=rfl
def K37.pw:Program:={main:={body:=[K37.top 0,K37.top 1,K37.top 2,K37.top 3,K37.top 4,K37.top 5,K37.top 6,K37.top 7,K37.top 8,K37.top 9,K37.top 10,K37.top 11,K37.top 12,K37.top 13,K37.top 14,K37.top 15,K37.top 16,K37.top 17,K37.top 18,K37.top 19,K37.top 20,K37.top 21,K37.top 22,K37.top 23,K37.top 24,K37.top 25,K37.top 26,K37.top 27],scope:=K37.sc,futureAnnotations:=false,file:="/claim/cut.py",more:=[]},modules:=[],parses:=[],absent:=[],harvested:=[],given:={argv:=[],stdin:=[],environ:=some [([76,67,95,65,76,76],[67,46,85,84,70,45,56])]}}
def K37.rw:OpenLaw:={prog:=K37.pw,name:=(PySem.Str.ofString "law"),about:=[(PySem.Str.ofString "is_judge")],foot:=12,most:=some 63,bound:=none,writes:=false}
noncomputable def PySem.W.Fast.tw5240269049396888212:=0
noncomputable def PySem.W.Fast.tw10805620415784156350:=0
noncomputable def PySem.W.Fast.tw1755727741806192080:=0
noncomputable def PySem.W.Fast.tw1055706323284161487:=0
noncomputable def PySem.W.Fast.tw5204330609558818097:=0
noncomputable def PySem.W.Fast.tw16243608037078992779:=0
noncomputable def PySem.W.Fast.tw16278310094469763179:=0
noncomputable def PySem.W.Fast.tw13919614758107393419:=0
noncomputable def PySem.W.Fast.tw11125550221497153599:=0
noncomputable def PySem.W.Fast.tw7532011418967671030:=0
noncomputable def PySem.W.Fast.tw12956076874388245184:=0
noncomputable def PySem.W.Fast.tw461291309129976891:=0
noncomputable def PySem.W.Fast.tw2253766022046774421:=0
noncomputable def PySem.W.Fast.tw7254399242631604051:=0
noncomputable def PySem.W.Fast.tw14526460710089636690:=0
noncomputable def PySem.W.Fast.tw13476534120702605207:=0
noncomputable def PySem.W.Fast.tw3125593342092190988:=0
noncomputable def PySem.W.Fast.tw8369143926843234594:=0
noncomputable def PySem.W.Fast.tw12888771459625212248:=0
noncomputable def PySem.W.Fast.tw7870678620539975248:=0
noncomputable def PySem.W.Fast.tw14549506357634241882:=0
noncomputable def PySem.W.Fast.tw6672170688065697019:=0
noncomputable def PySem.W.Fast.tw12130098941018374289:=0
noncomputable def PySem.W.Fast.tw412628528490124706:=0
noncomputable def PySem.W.Fast.tw8721308435595392785:=0
noncomputable def PySem.W.Fast.tw7845788641967933166:=0
noncomputable def PySem.W.Fast.tw9327776523735642526:=0
noncomputable def PySem.W.Fast.tw1213374132538584044:=0
noncomputable def PySem.W.Fast.tw2303422090997044346:=0
noncomputable def PySem.W.Fast.tw7283994349838166685:=0
noncomputable def PySem.W.Fast.tw2138079021834319290:=0
noncomputable def PySem.W.Fast.tw4294943865522009365:=0
noncomputable def PySem.W.Fast.tw12482574194816684694:=0
noncomputable def PySem.W.Fast.tw10998912603063526422:=0
set_option maxRecDepth 100000 in
set_option maxHeartbeats 0 in
theorem K37.holds:K37.rw.Holds:=by
 w_on;o_law;k_head;(case hw=>w_witness2)
 k_fill
 refine K37.walk (l:=K37.rw) rfl rfl (fun w h Y=>PySem.W.kIn_of Y) ?F
 case F=>
  intro w mg fa h KX G hmg
  refine' K37.all_mk KX G hmg ?a1 ?l1 ?c1 ?k1 ?a2 ?l2 ?c2 ?k2 ?a3 ?l3 ?c3 ?k3 ?a4 ?l4 ?c4 ?k4 ?a5 ?l5 ?c5 ?k5 ?a6 ?l6 ?c6 ?k6 ?a7 ?l7 ?c7 ?k7 ?a8 ?l8 ?c8 ?k8 ?a9 ?l9 ?c9 ?k9 ?a10 ?N7 ?N8 ?Ju ?a11 ?N9 ?Oa ?Im ?a12 ?Ob ?c12 ?DP ?a13 ?Oc ?Od ?EH ?a14 ?Oe ?Of ?Jv ?a15 ?Og ?Oh ?Io ?a16 ?Oi ?Oj ?Jw ?a17 ?Ol ?Om ?Jx ?a18 ?Oo ?Oq ?Jy ?a19 ?Ot ?Ou ?Jz ?a20 ?Ov ?Ow ?JC ?a21 ?Ox ?Oz ?JF ?a22 ?OA ?OB ?OC ?kO ?EI ?A4 ?v7 ?EJ ?v8 ?EK ?EL ?EM ?A5 ?A6 ?hne
  (case a1=>k_is);(case l1=>k_is);(case c1=>k_is);(case k1=>k_is)
  (case a2=>k_is);(case l2=>k_is);(case c2=>k_is);(case k2=>k_is)
  (case a3=>k_is);(case l3=>k_is);(case c3=>k_is);(case k3=>k_is)
  (case a4=>k_is);(case l4=>k_is);(case c4=>k_is);(case k4=>k_is)
  (case a5=>k_is);(case l5=>k_is);(case c5=>k_is);(case k5=>k_is)
  (case a6=>k_is);(case l6=>k_is);(case c6=>k_is);(case k6=>k_is)
  (case a7=>k_is);(case l7=>k_is);(case c7=>k_is);(case k7=>k_is)
  (case a8=>k_is);(case l8=>k_is);(case c8=>k_is);(case k8=>k_is)
  (case a9=>k_is);(case l9=>k_is);(case c9=>k_is);(case k9=>k_is)
  (case a10=>k_is);(case N7=>k_is);(case N8=>k_is);(case Ju=>k_is)
  (case a11=>k_is);(case N9=>k_is);(case Oa=>k_is);(case Im=>k_is)
  (case a12=>k_is);(case Ob=>k_is);(case c12=>k_is);(case DP=>k_is)
  (case a13=>k_is);(case Oc=>k_is);(case Od=>k_is);(case EH=>k_is)
  (case a14=>k_is);(case Oe=>k_is);(case Of=>k_is);(case Jv=>k_is)
  (case a15=>k_is);(case Og=>k_is);(case Oh=>k_is);(case Io=>k_is)
  (case a16=>k_is);(case Oi=>k_is);(case Oj=>k_is);(case Jw=>k_is)
  (case a17=>k_is);(case Ol=>k_is);(case Om=>k_is);(case Jx=>k_is)
  (case a18=>k_is);(case Oo=>k_is);(case Oq=>k_is);(case Jy=>k_is)
  (case a19=>k_is);(case Ot=>k_is);(case Ou=>k_is);(case Jz=>k_is)
  (case a20=>k_is);(case Ov=>k_is);(case Ow=>k_is);(case JC=>k_is)
  (case a21=>k_is);(case Ox=>k_is);(case Oz=>k_is);(case JF=>k_is)
  (case a22=>k_is);(case OA=>k_is);(case OB=>k_is);(case OC=>k_is)
  (case kO=>k_is);(case EI=>k_is);(case A4=>k_is);(case v7=>k_is);(case EJ=>k_is);(case v8=>k_is);(case EK=>k_is);(case EL=>k_is);(case EM=>k_is);(case A5=>k_is);(case A6=>k_is);(case hne=>decide)
theorem PySem.Challenge.cw_surewatch_k37_machines_of_any_thing_holds : PySem.Challenge.rw_surewatch_k37_machines_of_any_thing.Holds :=
 K37.holds
