import PyProof.Rows.All
import Wide.All
import OpenK.AllK
import Wide.FinOn
import PyProof.EqAt
import PyProof.EqKinds
import PyProof.TupleCall
import Lean
import PySem.Challenge.RW_surewatch_k12_rows_and_tables_written
section
set_option Elab.async false
set_option linter.all false
set_option maxRecDepth 100000
namespace L2
open PySem PySem.Spec PyProof.Rows
noncomputable abbrev Key:=Sum Int Str
noncomputable def qy:Key→Value→Bool
 | .inl k,v=>Value.isInt k v
 | .inr x,v=>Value.isStrOf x v
noncomputable def Lp (w:World):Key→Int
 | .inl k=>hashInt k
 | .inr x=>hashStr w x
theorem cz:∀{k:Key}{v:Value},qy k v=true→(∃i t,k=Sum.inl i∧v=Value.int i t)∨(∃x t,k=Sum.inr x∧v=Value.str x t)
 | .inl i,v,h=>by
  obtain⟨t,e⟩:=Value.isInt_shape (k:=i) (v:=v) h
  exact .inl ⟨i,t,rfl,e⟩
 | .inr x,v,h=>by
  obtain⟨t,e⟩:=Value.isStrOf_shape (x:=x) (v:=v) h
  exact .inr ⟨x,t,rfl,e⟩
theorem yz (i:Int) (t:Tok):qy (.inl i) (.int i t)=true:=by simp[qy,Value.isInt]
theorem yC (x:Str) (t:Tok):qy (.inr x) (.str x t)=true:=by simp[qy,Value.isStrOf]
theorem Eo (a b:Int):decide ((Sum.inl a:Key)=Sum.inl b)=(a == b):=by
 by_cases e:a=b
 ·subst e;simp
 ·have h:¬(Sum.inl a:Key)=Sum.inl b:=fun q=>e (Sum.inl.inj q)
  rw[decide_eq_false h]
  exact(beq_eq_false_iff_ne.mpr e).symm
theorem Ep (a b:Str):decide ((Sum.inr a:Key)=Sum.inr b)=decide (a=b):=by
 by_cases e:a=b
 ·subst e;simp
 ·have h:¬(Sum.inr a:Key)=Sum.inr b:=fun q=>e (Sum.inr.inj q)
  rw[decide_eq_false h,decide_eq_false e]
theorem Er (a:Int) (b:Str):decide ((Sum.inl a:Key)=Sum.inr b)=false:=decide_eq_false (fun q=>nomatch q)
theorem Es (a:Str) (b:Int):decide ((Sum.inr a:Key)=Sum.inl b)=false:=decide_eq_false (fun q=>nomatch q)
noncomputable def bw (prog:Program) (w:World):PySem.KeyKind prog w Key where
  is:=qy
  hash:=Lp w
  inj := fun v a b ha hb => by
    rcases cz ha with⟨i,t,rfl,rfl⟩ | ⟨x,t,rfl,rfl⟩
    · rcases cz hb with⟨j,u,rfl,e⟩ | ⟨y,u,rfl,e⟩
      · injection e with e1 _;rw[e1]
      · exact nomatch e
    · rcases cz hb with⟨j,u,rfl,e⟩ | ⟨y,u,rfl,e⟩
      · exact nomatch e
      · injection e with e1 _;rw[e1]
  byValue:=fun k v h=>by
    rcases cz h with⟨i,t,rfl,rfl⟩ | ⟨x,t,rfl,rfl⟩ <;> rfl
  pyHash:=fun hv h=>by
    rcases cz hv with⟨i,t,rfl,rfl⟩ | ⟨x,t,rfl,rfl⟩
    · exact wpAny_pyHash_int h
    · exact wpAny_pyHash_str h
  eqBool:=fun hu hv h=>by
    rcases cz hu with⟨i,t,rfl,rfl⟩ | ⟨x,t,rfl,rfl⟩
    · rcases cz hv with⟨j,u,rfl,rfl⟩ | ⟨y,u,rfl,rfl⟩
      · rw[Eo] at h;exact wpAny_eqBool_int h
      · rw[Er] at h;exact SeqAt.EqAt.int_str i t y u _ _ _ _ h
    · rcases cz hv with⟨j,u,rfl,rfl⟩ | ⟨y,u,rfl,rfl⟩
      · rw[Es] at h;exact SeqAt.EqAt.str_int x t j u _ _ _ _ h
      · rw[Ep] at h;exact wpAny_eqBool_str h
  «strs»:=fun k x t v h=>by
    rcases cz h with⟨i,u,rfl,e⟩ | ⟨y,u,rfl,e⟩
    · exact nomatch e
    · injection e with e1 _
      subst e1
      cases v <;> rfl
theorem tT (prog:Program) (w:World) (i:Int) (t:Tok):(bw prog w).is (.inl i) (.int i t)=true:=yz i t
theorem jh (prog:Program) (w:World) (x:Str) (t:Tok):(bw prog w).is (.inr x) (.str x t)=true:=yC x t
end L2
namespace L2
open PySem PySem.Spec PyProof.Rows
inductive V where
 | bS | bl (b:Bool) | int (i:Int) | str (x:Str) | Lq (b:Array UInt8) | flt (b:UInt64) | ref (a:Addr) | ty (n:String)
 deriving DecidableEq
noncomputable def RelV:V→Value→Prop
 | .bS,u=>u=Value.none
 | .bl b,u=>u=Value.bool b
 | .int i,u=>∃t,u=Value.int i t
 | .str x,u=>∃t,u=Value.str x t
 | .Lq b,u=>∃t,u=Value.bytes b t
 | .flt b,u=>∃t,u=Value.float b t
 | .ref a,u=>u=Value.ref a
 | .ty n,u=>u=Value.type n
noncomputable abbrev Vals:List V→List Value→Prop:=Paired RelV
theorem Vals.length {xs:List V}{us:List Value}(r:Vals xs us):xs.length=us.length:=Paired.length r
theorem Vals.get:∀{xs:List V}{us:List Value}{i:Nat}{x:V},Vals xs us→xs[i]? =some x→∃u,us[i]? =some u∧RelV x u
 | _,_,_,_,.nil,e=>by simp at e
 | _,_,0,_,.cons r _,e=>by simp at e;subst e;exact⟨_,rfl,r⟩
 | _,_,i+1,x,.cons _ t,e=>by
  obtain⟨u,h1,h2⟩:=Vals.get (i:=i) (x:=x) t (by simpa using e)
  exact⟨u,by simpa using h1,h2⟩
theorem Vals.set {x:V}{u:Value}(r:RelV x u):∀{xs:List V}{us:List Value}(i:Nat),Vals xs us→Vals (xs.set i x) (us.set i u)
 | _,_,_,.nil=>.nil
 | _,_,0,.cons _ t=>.cons r t
 | _,_,i+1,.cons q t=>.cons q (Vals.set r i t)
theorem Vals.append:∀{xs ys:List V}{us ws:List Value},Vals xs us→Vals ys ws→Vals (xs++ys) (us++ws)
 | _,_,_,_,.nil,s=>s
 | _,_,_,_,.cons r t,s=>.cons r (Vals.append t s)
theorem Vals.take:∀{xs:List V}{us:List Value}(n:Nat),Vals xs us→Vals (xs.take n) (us.take n)
 | _,_,0,_=>.nil
 | _,_,_+1,.nil=>.nil
 | _,_,n+1,.cons r t=>.cons r (Vals.take n t)
theorem Vals.drop:∀{xs:List V}{us:List Value}(n:Nat),Vals xs us→Vals (xs.drop n) (us.drop n)
 | _,_,0,r=>r
 | _,_,_+1,.nil=>.nil
 | _,_,n+1,.cons _ t=>Vals.drop n t
noncomputable def nq:Option V→Option Value→Prop
 | some v,some u=>RelV v u
 | none,none=>True
 | _,_=>False
noncomputable def KV {κ:Type}:List (κ×V)→List (κ×Value)→Prop:=Paired fun(p:κ×V) (q:κ×Value)=>p.1=q.1∧RelV p.2 q.2
noncomputable def kV:Key→V
 | .inl i=>.int i
 | .inr x=>.str x
inductive HO where
 | lst (xs:List V)
 | tup (xs:List V)
 | dK (kvs:List (Key×V)) | dT (kvs:List (List Key×V))
 | set (S:Int→Bool) (n:Nat)
 | ins (C dx:Addr) (fs:List (Str×V))
 | own (x:Addr)
 | xd (fs:List (Str×V))
 | met (f x:Addr)
 | tM (lo hi:Int)
 | gm (o:Obj) (u:HO)
 | Cw (ps:Array Value)
 | ext (φ:Heap→Prop)
noncomputable abbrev Hp:=Addr→Option HO
noncomputable def upd (H:Hp) (a:Addr) (o:HO):Hp:=fun b=>if b=a then some o else H b
theorem aF {H:Hp}{a:Addr}{o:HO}:upd H a o a=some o:=by unfold upd;rw[if_pos rfl]
theorem aA {H:Hp}{a b:Addr}{o:HO}(h:b≠a):upd H a o b=H b:=by unfold upd;rw[if_neg h]
theorem HA {H:Hp}{a b:Addr}{o u:HO}(h:H a=some o) (h':H b=some u) (d:o≠u):a≠b:=by
 intro e;subst e;rw[h] at h';exact d (Option.some.inj h')
theorem aI {H:Hp}{a b:Addr}{o:HO}(h:H a=some o) (h':H b=none):a≠b:=by
 intro e;subst e;rw[h] at h';cases h'
section
variable (P:Program) (w:World)
noncomputable def cO (H:Hp) (h:Heap) (a:Addr):HO→Prop
 | .lst xs=>xs.length≤sizeLine∧∃(its:List Value) (n:Nat),Vals xs its∧h.get? a=some {cls:=.type "list",data:=.seq its.toArray n}
 | .tup xs=>xs.length≤sizeLine∧∃its:List Value,Vals xs its∧IsTup h a its.toArray
 | .dK kvs=>kvs.length≤sizeLine∧(a == sysModules)=false∧∃vs,KV kvs vs∧h.DictOf (bw P w) a vs
 | .dT kvs=>kvs.length≤sizeLine∧(a == sysModules)=false∧∃xs:List (List Key×Addr×Value),
   Paired (fun(p:List Key×V) (q:List Key×Addr×Value)=>p.1=q.1∧H q.2.1=some (.tup (p.1.map kV))∧RelV p.2 q.2.2) kvs xs∧
   ∃o es ep,h.get? a=some o∧o.ExactDict∧o.data= .dict es ep∧es.toList=xs.map (entryOfKey (tupleKind (bw P w)))∧(xs.map (·.1)).Nodup
 | .set S n=>h.SetOf (intKind P w) a S n
 | .ins C dx fs=>H dx=some (.own a)∧fs.length≤1000∧dx≠a∧h.get? a=some (PySem.W.instObj C dx)∧
   ∃mA,h.Ns1 dx mA∧(∀f,nq (fs.lookup f) (mA f))∧PySem.Within mA (fs.map (·.1))
 | .own _=>∃o,h.get? a=some o
 | .xd fs=>∃mA,h.Ns1 a mA∧∀f,nq (fs.lookup f) (mA f)
 | .tM lo hi=>∃t u v,h.get? a=some {cls:=.type "range",data:=.fields #[.int lo t,.int hi u,.int 1 v]}
 | .gm o u=>h.get? a=some o∧cO H h a u
 | .Cw ps=>h.get? a=some {cls:=.none,data:=.fields ps}
 | .met f x=>h.get? a=some (PySem.W.methodObj (.ref f) (.ref x))
 | .ext φ=>φ h∧(∃o,h.get? a=some o)∧∀h1 h2:Heap,φ h1→(∀o,h1.get? a=some o→h2.get? a=some o)→φ h2
noncomputable def jL (H:Hp) (h:Heap):Prop:=∀a o,H a=some o→cO P w H h a o
end
section
variable {P:Program}{w:World}{H H':Hp}{h h':Heap}{a:Addr}{o:HO}
theorem cO.lt (x:cO P w H h a o):a < h.objs.size:=by
 cases o with
 | lst xs=>obtain⟨_,_,_,_,e⟩:=x;exact Heap.lt_size e
 | tup xs=>obtain⟨_,_,_,p⟩:=x;exact p.lt
 | dK kvs=>obtain⟨_,_,_,_,o,_,_,e,_⟩:=x;exact Heap.lt_size e
 | dT kvs=>obtain⟨_,_,_,_,o,_,_,e,_⟩:=x;exact Heap.lt_size e
 | set S n=>obtain⟨o,_,_,_,e,_⟩:=x;exact Heap.lt_size e
 | ins C dx fs=>obtain⟨_,_,_,e,_⟩:=x;exact Heap.lt_size e
 | own y=>obtain⟨_,e⟩:=x;exact Heap.lt_size e
 | xd fs=>obtain⟨_,⟨_,_,_,e,_⟩,_⟩:=x;exact Heap.lt_size e
 | tM lo hi=>obtain⟨_,_,_,e⟩:=x;exact Heap.lt_size e
 | gm ob u=>obtain⟨e,_⟩:=x;exact Heap.lt_size e
 | Cw ps=>exact Heap.lt_size (show h.get? a=some _ from x)
 | met f y=>exact Heap.lt_size (show h.get? a=some _ from x)
 | ext φ=>obtain⟨_,⟨_,e⟩,_⟩:=x;exact Heap.lt_size e
theorem Paired.yD {α β:Type}{F G:α→β→Prop}:∀{l₁:List α}{l₂:List β},Paired F l₁ l₂→(∀a b,F a b→G a b)→Paired G l₁ l₂
 | _,_,.nil,_=>.nil
 | _,_,.cons r t,f=>.cons (f _ _ r) (Paired.yD t f)
theorem cO.stay (x:cO P w H h a o) (k:∀b u,(b=a∨H b=some (.own a))→h.get? b=some u→h'.get? b=some u)
  (ho:∀b,H b=some (.own a)→H' b=some (.own a)) (ht:∀b xs,H b=some (.tup xs)→H' b=some (.tup xs)):cO P w H' h' a o:=by
 induction o with
 | lst xs=>obtain⟨z,its,n,r,e⟩:=x;exact⟨z,its,n,r,k _ _ (.inl rfl) e⟩
 | tup xs=>obtain⟨z,its,r,ob,e,c⟩:=x;exact⟨z,its,r,ob,k _ _ (.inl rfl) e,c⟩
 | dK kvs=>obtain⟨z,y,vs,r,ob,es,ep,e,c⟩:=x;exact⟨z,y,vs,r,ob,es,ep,k _ _ (.inl rfl) e,c⟩
 | dT kvs=>
  obtain⟨z,y,xs,r,ob,es,ep,e,c⟩:=x
  exact⟨z,y,xs,Paired.yD r fun p q z=>⟨z.1,ht _ _ z.2.1,z.2.2⟩,ob,es,ep,k _ _ (.inl rfl) e,c⟩
 | set S n=>obtain⟨ob,es,ep,t,e,c⟩:=x;exact⟨ob,es,ep,t,k _ _ (.inl rfl) e,c⟩
 | ins C dx fs=>
  obtain⟨d,z,ne,e,mA,⟨od,es,ep,e2,c⟩,r⟩:=x
  exact⟨ho _ d,z,ne,k _ _ (.inl rfl) e,mA,⟨od,es,ep,k _ _ (.inr d) e2,c⟩,r⟩
 | own y=>obtain⟨ob,e⟩:=x;exact⟨ob,k _ _ (.inl rfl) e⟩
 | xd fs=>obtain⟨mA,⟨od,es,ep,e,c⟩,r⟩:=x;exact⟨mA,⟨od,es,ep,k _ _ (.inl rfl) e,c⟩,r⟩
 | tM lo hi=>obtain⟨t,u,v,e⟩:=x;exact⟨t,u,v,k _ _ (.inl rfl) e⟩
 | gm ob u ih=>obtain⟨e,q⟩:=x;exact⟨k _ _ (.inl rfl) e,ih q⟩
 | Cw ps=>
  have e:h.get? a=some {cls:=.none,data:=.fields ps}:=x
  show h'.get? a=some {cls:=.none,data:=.fields ps}
  exact k a _ (.inl rfl) e
 | met f y=>
  have e:h.get? a=some (PySem.W.methodObj (.ref f) (.ref y)):=x
  show h'.get? a=some (PySem.W.methodObj (.ref f) (.ref y))
  exact k a _ (.inl rfl) e
 | ext φ=>obtain⟨p,⟨o,e⟩,st⟩:=x;exact⟨st _ _ p fun o q=>k _ _ (.inl rfl) q,⟨o,k _ _ (.inl rfl) e⟩,st⟩
theorem jL.lt (x:jL P w H h) (e:H a=some o):a < h.objs.size:=(x a o e).lt
theorem jL.fresh (x:jL P w H h) (e:h.objs.size≤a):H a=none:=by
 cases q:H a with
 | none=>rfl
 | some u=>exact absurd (Nat.lt_of_lt_of_le (x.lt q) e) (Nat.lt_irrefl _)
theorem jL.kept (x:jL P w H h) (k:∀b u,h.get? b=some u→h'.get? b=some u):jL P w H h':=fun a o e=>
 (x a o e).stay (fun b u _ q=>k b u q) (fun _ q=>q) fun _ _ q=>q
theorem jL.laid (x:jL P w H h) (k:∀b u,h.get? b=some u→h'.get? b=some u) (hp:h.objs.size≤a) (new:cO P w (upd H a o) h' a o):jL P w (upd H a o) h':=fun b u e=>by
 have hn:=x.fresh hp
 by_cases hb:b=a
 ·subst hb;rw[aF] at e;cases e;exact new
 ·rw[aA hb] at e
  exact(x b u e).stay (fun c v _ q=>k c v q) (fun c q=>by rw[aA (aI q hn)];exact q) fun c xs q=>by rw[aA (aI q hn)];exact q
end
noncomputable def Rd (H:Hp) (a:Addr) (u:HO):Prop:=H a=some u∨∃o,H a=some (.gm o u)
theorem Rd.of {H:Hp}{a:Addr}{u:HO}(h:H a=some u):Rd H a u:=.inl h
theorem Rd.ok {P:Program}{w:World}{H:Hp}{h:Heap}{a:Addr}{u:HO}(r:Rd H a u) (x:jL P w H h):cO P w H h a u:=by
 rcases r with r | ⟨o,r⟩
 ·exact x a u r
 ·obtain⟨_,q⟩:=x a _ r
  exact q
noncomputable def HB:Option HO→Prop
 | some (.lst _)=>True
 | some (.dK _)=>True
 | some (.dT _)=>True
 | some (.set _ _)=>True
 | some (.ins _ _ _)=>True
 | some (.ext _)=>True
 | _=>False
section
variable {P:Program}{w:World}{H:Hp}{h h':Heap}{x e:Addr}{o':HO}
theorem jL.write (ok : jL P w H h) (mu : HB (H x)) (he : e = x ∨ H e = some (.own x)) (k : ∀ b u, b ≠ e → h.get? b = some u → h'.get? b = some u) (GZ : ∃ u, h'.get? e = some u)
    (new:cO P w (upd H x o') h' x o'):jL P w (upd H x o') h':=fun b u q=>by
  have HC:∀c y,H c=some (.own y)→c≠x:=fun c y r z=>by subst z;rw[r] at mu;exact mu
  have Lr:∀c xs,H c=some (.tup xs)→c≠x:=fun c xs r z=>by subst z;rw[r] at mu;exact mu
  by_cases hb:b=x
  · subst hb;rw[aF] at q;cases q;exact new
  · rw[aA hb] at q
    by_cases Et:b=e
    · have q':H b=some (.own x):=by
        rcases he with z | z
        · exact absurd (Et.trans z) hb
        · rw[Et];exact z
      rw[q] at q';cases q'
      obtain⟨v,hv⟩:=GZ
      exact⟨v,by rw[Et];exact hv⟩
    · refine(ok b u q).stay (fun c v hc r=>k c v ?_ r) (fun c r=>by rw[aA (HC c b r)];exact r) fun c xs r=>by rw[aA (Lr c xs r)];exact r
      rcases hc with rfl | hc
      · exact Et
      · rintro rfl
        rcases he with z | z
        · exact HC c b hc z
        · rw[hc] at z;cases z;exact hb rfl
end
structure Un (fs ex:List Addr) (H H':Hp) (h h':Heap):Prop where
 keep:∀b o,h.get? b=some o→H b=none→b∉fs→b∉ex→h'.get? b=some o
 slot:∀b o,h.get? b=some o→H b=none→b∈fs→b∉ex→∃sl,h'.get? b=some {o with slots:=sl}
 free:∀b o,h.get? b=some o→H b=none→b∉ex→H' b=none
 there:∀b o,h.get? b=some o→b∉ex→∃o',h'.get? b=some o'
 tups:∀b xs,H b=some (.tup xs)→H' b=some (.tup xs)
 j6:∀b o u,H b=some (.gm o u)→H' b=some (.gm o u)
 kN:∀b ps,H b=some (.Cw ps)→∃more,H' b=some (.Cw (ps++more))
section
variable {fs fs' ex ex':List Addr}{H H1 H2:Hp}{h h1 h2 h':Heap}{a x e:Addr}{o:HO}
theorem Un.any (u:Un fs ex H H1 h h1){b:Addr}{ob:Obj}(q:h.get? b=some ob) (n:H b=none) (hx:b∉ex):∃sl,h1.get? b=some {ob with slots:=sl}:=by
 by_cases hb:b∈fs
 ·exact u.slot b ob q n hb hx
 ·exact⟨ob.slots,u.keep b ob q n hb hx⟩
theorem Un.trans (a:Un fs ex H H1 h h1) (b:Un fs ex H1 H2 h1 h2):Un fs ex H H2 h h2 where
 keep:=fun c ob q n hc hx=>b.keep c ob (a.keep c ob q n hc hx) (a.free c ob q n hx) hc hx
 slot:=fun c ob q n hc hx=>by
  obtain⟨sl,e1⟩:=a.slot c ob q n hc hx
  obtain⟨Ls,e2⟩:=b.slot c _ e1 (a.free c ob q n hx) hc hx
  exact⟨Ls,e2⟩
 free:=fun c ob q n hx=>by
  obtain⟨o',e1⟩:=a.there c ob q hx
  exact b.free c o' e1 (a.free c ob q n hx) hx
 there:=fun c ob q hx=>by
  obtain⟨o',e1⟩:=a.there c ob q hx
  exact b.there c o' e1 hx
 tups:=fun c xs q=>b.tups c xs (a.tups c xs q)
 j6:=fun c ob xs q=>b.j6 c ob xs (a.j6 c ob xs q)
 kN:=fun c ps q=>by
  obtain⟨m1,e1⟩:=a.kN c ps q
  obtain⟨m2,e2⟩:=b.kN c _ e1
  exact⟨m1++m2,by rw[e2,Array.append_assoc]⟩
theorem Un.kept (k:∀b u,h.get? b=some u→h'.get? b=some u):Un fs ex H H h h':=
 ⟨fun b ob q _ _ _=>k b ob q,fun b ob q _ _ _=>⟨ob.slots,k b ob q⟩,fun _ _ _ n _=>n,fun b ob q _=>⟨ob,k b ob q⟩,fun _ _ q=>q,fun _ _ _ q=>q,fun _ ps q=>⟨#[],by rw[q];simp⟩⟩
theorem Un.refl:Un fs ex H H h h:=Un.kept fun _ _ q=>q
theorem Un.laid (k:∀b u,h.get? b=some u→h'.get? b=some u) (hp:h.objs.size≤a) (hn:H a=none):Un fs ex H (upd H a o) h h' where
 keep:=fun b u q _ _ _=>k b u q
 slot:=fun b u q _ _ _=>⟨u.slots,k b u q⟩
 free:=fun b u q n _=>by rw[aA (Nat.ne_of_lt (Nat.lt_of_lt_of_le (Heap.lt_size q) hp))];exact n
 there:=fun b u q _=>⟨u,k b u q⟩
 tups:=fun b xs q=>by rw[aA (aI q hn)];exact q
 j6:=fun b u xs q=>by rw[aA (aI q hn)];exact q
 kN:=fun b ps q=>⟨#[],by rw[aA (aI q hn),q];simp⟩
theorem Un.write (mu:HB (H x)) (he:e=x∨H e=some (.own x)) (k:∀b u,b≠e→h.get? b=some u→h'.get? b=some u) (GZ:∃u,h'.get? e=some u):Un fs ex H (upd H x o) h h':=by
 have hx:∀b,H b=none→b≠x:=fun b n z=>by subst z;rw[n] at mu;exact mu
 have hb:∀b,H b=none→b≠e:=fun b n z=>by
  subst z
  rcases he with r | r
  ·exact hx b n r
  ·rw[n] at r;cases r
 have hm:∀b u,H b=some u→¬HB (some u)→b≠x:=fun b u q nm z=>by subst z;rw[q] at mu;exact nm mu
 refine⟨fun b u q n _ _=>k b u (hb b n) q,fun b u q n _ _=>⟨u.slots,k b u (hb b n) q⟩,fun b u q n _=>by rw[aA (hx b n)];exact n,fun b u q _=>?_,
  fun b xs q=>by rw[aA (hm b _ q fun z=>z)];exact q,fun b u xs q=>by rw[aA (hm b _ q fun z=>z)];exact q,fun b ps q=>⟨#[],by rw[aA (hm b _ q fun z=>z),q];simp⟩⟩
 by_cases Et:b=e
 ·subst Et;exact GZ
 ·exact⟨u,k b u Et q⟩
theorem Un.mono (u:Un fs ex H H1 h h1) (hs:∀b∈fs,b∈fs') (hx:∀b∈ex,b∈ex'):Un fs' ex' H H1 h h1:=
 ⟨fun b ob q n hb he=>u.keep b ob q n (fun z=>hb (hs b z)) fun z=>he (hx b z),fun _ _ q n _ he=>u.any q n fun z=>he (hx _ z),fun b ob q n he=>u.free b ob q n fun z=>he (hx b z),fun b ob q he=>u.there b ob q fun z=>he (hx b z),u.tups,u.j6,u.kN⟩
end
noncomputable def Ke (h:Heap) (H:Hp):List Addr:=(List.range h.objs.size).filter fun a=>(H a).isSome
noncomputable def rJ (h:Heap) (H:Hp):Heap:=PySem.W.hideAll h (Ke h H)
theorem yE (h:Heap) (H:Hp):(rJ h H).objs.size=h.objs.size:=PySem.W.hideAll_size _ _
theorem Ai {h:Heap}{H:Hp}{b:Addr}{o:Obj}(e:h.get? b=some o) (n:H b=none):(rJ h H).get? b=some o:=
 PySem.W.hideAll_get _ e fun hm=>by
  have q:(H b).isSome=true:=(List.mem_filter.mp hm).2
  rw[n] at q;simp at q
theorem CD {h:Heap}{H:Hp}{b:Addr}{o:Obj}(e:(rJ h H).get? b=some o):h.get? b=some o∧H b=none:=by
 have e':h.get? b=some o:=PySem.W.of_hideAll (Ke h H) e
 refine⟨e',?_⟩
 cases q:H b with
 | none=>rfl
 | some x=>
  have hm:b∈Ke h H:=List.mem_filter.mpr ⟨List.mem_range.mpr (Heap.lt_size e'),by simp[q]⟩
  have z:(rJ h H).get? b=none:=PySem.W.hideAll_none (Ke h H) hm
  rw[z] at e;cases e
noncomputable def CF (g h:Heap) (L:Addr):List (Addr×Obj):=(List.range h.objs.size).filterMap fun a=>if a=L∨(g.get? a).isSome=true then none else(h.get? a).map fun o=>(a,o)
noncomputable def rest (g h:Heap) (L d:Addr):List (Addr×Obj):=(CF g h L).filter fun p=>decide (p.1≠d)
end L2
namespace L2
open PySem PySem.Spec PyProof.Rows
structure Mod (K:PySem.W.Frag) (mg:Str→Option Value) (base:Heap):Prop where
 Lu:K.In base
 glob:base.Ns mainGlobals mg
 blt:∃mb,base.Ns builtinsNs mb∧∀x:Str,x≠"__name__"→mb x=bootBuiltins x
 nolimit:base.NoLimit
structure Cx where
 prog:Program
 w:World
 K:PySem.W.Frag
 mg:Str→Option Value
 base:Heap
 A:Around
 N:List Str
 s₀:Shared
 H₀:Hp
 env:Env
 outer:List Env
 stack:List Env
 ex:List Addr
 fn:Str→Bool
 calm:Bool
 pn:List (Addr×Obj)
 xe:Value→Shared→Prop
noncomputable def frs (l:List Env):List Addr:=l.filterMap (·.frame)
noncomputable abbrev Cx.fs (X:Cx):List Addr:=frs X.outer
noncomputable def Aj (sc:Scope) (x:Str):Prop:=sc.names.lookup x=some .local∨sc.names.lookup x=some .cell∨sc.names.lookup x=some .free
noncomputable def Loc (sc:Scope) (x:Str):Prop:=sc.names.lookup x=some .local∨sc.names.lookup x=some .cell
noncomputable def Look (env:Env) (h:Heap) (m:Str→Option Value) (x:Str) (u:Value):Prop:=
 (env.kindOf x=some .local∧m x=some u)∨((env.kindOf x=some .cell∨env.kindOf x=some .free)∧∃c,env.cells.lookup x=some c∧h.IsCell c (some u))
structure Cx.Ok (X:Cx):Prop where
 mod:Mod X.K X.mg X.base
 kind:X.env.scope.kind= .function
 glob:X.env.globals=mainGlobals
 blt:X.env.builtins=builtinsNs
 above:X.s₀.heap.objs.size≤X.env.locals
 inj:∀x y c,X.env.cells.lookup x=some c→X.env.cells.lookup y=some c→x=y
 has:∀x,(X.env.kindOf x=some .cell∨X.env.kindOf x=some .free)→∃c,X.env.cells.lookup x=some c
 HD:∀x c,X.fn x=true→X.env.cells.lookup x=some c→X.s₀.heap.objs.size≤c
 hd:X.calm=true→X.A.handled=none
 frames:X.A.frames=some X.stack
 stk:X.stack=X.outer∨(X.stack=X.env :: X.outer∧X.env.frame=some X.env.locals)
 Kf:∀b∈X.ex,b≠X.env.locals∧∀x c,X.env.cells.lookup x=some c→c≠b
 bs:∀b o,X.base.get? b=some o→X.s₀.heap.get? b=some o∧X.H₀ b=none
 Ak:X.base.objs.size≤X.s₀.heap.objs.size
 yF:∀b o,X.base.get? b=some o→b∉X.ex
 yG:∀b∈X.ex,b∉X.fs
 nu:X.s₀.heap.FunFrames X.base X.outer
 Eu:∀b∈X.fs,X.H₀ b=none
structure Inv (X:Cx) (pins:List (Addr×Obj)) (σ:List (Option V)) (H:Hp) (s:Shared):Prop where
 ok:X.Ok
 os:s.os=X.s₀.os
 bare:AllBare s.gens
 base:Un X.fs X.ex X.H₀ H X.s₀.heap s.heap
 loc:∃m,s.heap.Ns X.env.locals m∧∀(i:Nat) (x:Str) (v:V),X.N[i]? =some x→σ[i]? =some (some v)→Aj X.env.scope x→∃u,RelV v u∧Look X.env s.heap m x u
 cell:∀x c,X.env.cells.lookup x=some c→∃v,s.heap.IsCell c v
 free:H X.env.locals=none
 jf:∀x c,X.env.cells.lookup x=some c→H c=none
 pin:∀p∈X.pn++pins,s.heap.get? p.1=some p.2∧H p.1=none∧p.1≠X.env.locals∧p.1∉X.fs∧∀v,p.2.data≠.cell v
 hok:jL X.prog X.w H s.heap
 len:σ.length=X.N.length
section
variable {X:Cx}{pins:List (Addr×Obj)}{σ:List (Option V)}{H H':Hp}{s:Shared}{h':Heap}
theorem Cx.Ok.fV (ok:X.Ok){b:Addr}{o:Obj}(e:X.base.get? b=some o):b∉X.fs:=fun hb=>by
 have:=(ok.nu.mem hb).1
 rw[e] at this;cases this
theorem Inv.bs (I:Inv X pins σ H s):∀b o,X.base.get? b=some o→s.heap.get? b=some o∧H b=none:=fun b o e=>
 ⟨I.base.keep b o (I.ok.bs b o e).1 (I.ok.bs b o e).2 (I.ok.fV e) (I.ok.yF b o e),I.base.free b o (I.ok.bs b o e).1 (I.ok.bs b o e).2 (I.ok.yF b o e)⟩
theorem Inv.bk (I:Inv X pins σ H s):∀b o,X.base.get? b=some o→s.heap.get? b=some o:=fun b o e=>(I.bs b o e).1
theorem Inv.mod (I:Inv X pins σ H s):Mod X.K X.mg X.base:=I.ok.mod
theorem Inv.xE (I:Inv X pins σ H s):X.K.In s.heap:=I.ok.mod.Lu.keeps I.bk
theorem Inv.nolimit (I:Inv X pins σ H s):s.heap.NoLimit:=I.ok.mod.nolimit.keeps I.bk
theorem Inv.lt (I:Inv X pins σ H s):X.env.locals < s.heap.objs.size:=let⟨_,hn,_⟩:=I.loc;hn.lt
theorem Inv.sz (I:Inv X pins σ H s):X.s₀.heap.objs.size≤s.heap.objs.size:=Nat.le_trans I.ok.above (Nat.le_of_lt I.lt)
theorem Inv.Ew (I:Inv X pins σ H s){a:Addr}(h:s.heap.objs.size≤a):a∉X.fs:=fun hb=>by
 obtain⟨_,o,ho,_⟩:=I.ok.nu.mem hb
 exact absurd (Nat.lt_of_lt_of_le (Heap.lt_size ho) (Nat.le_trans I.sz h)) (Nat.lt_irrefl _)
theorem Inv.Ex (I:Inv X pins σ H s):∀x c,X.env.cells.lookup x=some c→c≠X.env.locals:=fun x c e z=>by
 obtain⟨v,o,ho,hd⟩:=I.cell x c e
 obtain⟨m,⟨o',es,ep,ho',hd',_⟩,_⟩:=I.loc
 rw[z,ho'] at ho;cases ho;rw[hd'] at hd;cases hd
theorem Inv.nu (I:Inv X pins σ H s):s.heap.FunFrames X.base X.outer:=by
 have all:∀(l:List Env),(∀b∈frs l,b∈X.fs)→X.s₀.heap.FunFrames X.base l→s.heap.FunFrames X.base l:=by
  intro l
  induction l with
  | nil=>intro _ _;trivial
  | cons env r ih=>
   intro hs hl
   obtain⟨hk,⟨L,o,hf,hn,ho,hd⟩,hr⟩:=hl
   have hL:L∈X.fs:=hs L (by unfold frs;rw[List.filterMap_cons,hf];exact List.mem_cons_self)
   obtain⟨sl,e⟩:=I.base.slot L o ho (I.ok.Eu L hL) hL fun z=>I.ok.yG L z hL
   exact⟨hk,⟨L,_,hf,hn,e,hd⟩,ih (fun b hb=>hs b (by unfold frs;rw[List.filterMap_cons,hf];exact List.mem_cons_of_mem _ hb)) hr⟩
 exact all X.outer (fun _ hb=>hb) I.ok.nu
theorem Inv.stack (I:Inv X pins σ H s):s.heap.FunFrames X.base X.stack:=by
 rcases I.ok.stk with e | ⟨e,hf⟩
 ·rw[e];exact I.nu
 ·rw[e]
  obtain⟨m,hn,_⟩:=I.loc
  refine .cons (by rw[I.ok.kind];decide) hf hn ?_ I.nu
  exact Heap.get?_none_of_le (Nat.le_trans I.ok.Ak I.ok.above)
theorem Inv.lO (I:Inv X pins σ H s):∀b∈frs X.stack,b∈X.env.locals :: X.fs:=fun b hb=>by
 rcases I.ok.stk with e | ⟨e,hf⟩
 ·rw[e] at hb;exact List.mem_cons_of_mem _ hb
 ·rw[e] at hb
  unfold frs at hb
  rw[List.filterMap_cons,hf] at hb
  exact hb
theorem Inv.rK (I:Inv X pins σ H s):∀b∈frs X.stack,H b=none:=fun b hb=>by
 rcases List.mem_cons.mp (I.lO b hb) with e | hb
 ·rw[e];exact I.free
 ·obtain⟨_,o,ho,_⟩:=I.ok.nu.mem hb
  exact I.base.free b o ho (I.ok.Eu b hb) fun z=>I.ok.yG b z hb
theorem Inv.step {g':Array GenState}{t':Nat}{d':Drawn}{ch:List Addr}(I:Inv X pins σ H s)
  (hch:∀b∈ch,(b∈X.ex∨X.s₀.heap.objs.size≤b)∧b≠X.env.locals∧(∀x c,X.env.cells.lookup x=some c→c≠b)∧∀p∈X.pn++pins,p.1≠b)
  (keep:∀b o,b≠X.env.locals→b∉X.fs→b∉ch→s.heap.get? b=some o→H b=none→h'.get? b=some o)
  (slot:∀b o,b≠X.env.locals→b∈X.fs→b∉ch→s.heap.get? b=some o→H b=none→∃sl,h'.get? b=some {o with slots:=sl}) (free:∀b o,b∉ch→s.heap.get? b=some o→H b=none→H' b=none)
  (there:∀b o,b∉ch→s.heap.get? b=some o→∃o',h'.get? b=some o')
  (tups:∀b xs,H b=some (.tup xs)→H' b=some (.tup xs)) (j6:∀b o u,H b=some (.gm o u)→H' b=some (.gm o u)) (kN:∀b ps,H b=some (.Cw ps)→∃more,H' b=some (.Cw (ps++more)))
  (ns:∀m,s.heap.Ns X.env.locals m→h'.Ns X.env.locals m) (hok:jL X.prog X.w H' h') (hg:AllBare g'):
  Inv X pins σ H' {s with heap:=h',gens:=g',drawn:=d',toks:=t'}:=by
 have Pe:∀b o,X.s₀.heap.get? b=some o→b≠X.env.locals:=fun b o e=>Nat.ne_of_lt (Nat.lt_of_lt_of_le (Heap.lt_size e) I.ok.above)
 have Kg:∀b o,X.s₀.heap.get? b=some o→b∉X.ex→b∉ch:=fun b o e hx hb=>by
  rcases(hch b hb).1 with z | z
  ·exact hx z
  ·exact absurd (Nat.lt_of_lt_of_le (Heap.lt_size e) z) (Nat.lt_irrefl _)
 have cellK:∀x c,X.env.cells.lookup x=some c→∀v,s.heap.IsCell c v→h'.IsCell c v:=fun x c e v ⟨o,ho,hd⟩=>by
  have HE:c∉ch:=fun z=>(hch c z).2.2.1 x c e rfl
  by_cases hc:c∈X.fs
  ·obtain⟨sl,q⟩:=slot c o (I.Ex x c e) hc HE ho (I.jf x c e)
   exact⟨_,q,hd⟩
  ·exact⟨o,keep c o (I.Ex x c e) hc HE ho (I.jf x c e),hd⟩
 refine⟨I.ok,I.os,hg,⟨fun b o e n hb hx=>?_,fun b o e n hb hx=>?_,fun b o e n hx=>?_,fun b o e hx=>?_,fun b xs e=>tups b xs (I.base.tups b xs e),fun b o xs e=>j6 b o xs (I.base.j6 b o xs e),fun b ps e=>?_⟩,?_,fun x c e=>?_,?_,fun x c e=>?_,fun p hp=>?_,hok,I.len⟩
 ·exact keep b o (Pe b o e) hb (Kg b o e hx) (I.base.keep b o e n hb hx) (I.base.free b o e n hx)
 ·obtain⟨sl,e1⟩:=I.base.slot b o e n hb hx
  obtain⟨Ls,e2⟩:=slot b _ (Pe b o e) hb (Kg b o e hx) e1 (I.base.free b o e n hx)
  exact⟨Ls,e2⟩
 ·obtain⟨o',e1⟩:=I.base.there b o e hx
  exact free b o' (Kg b o e hx) e1 (I.base.free b o e n hx)
 ·obtain⟨o',e1⟩:=I.base.there b o e hx
  exact there b o' (Kg b o e hx) e1
 ·obtain⟨m1,e1⟩:=I.base.kN b ps e
  obtain⟨m2,e2⟩:=kN b _ e1
  exact⟨m1++m2,by rw[e2,Array.append_assoc]⟩
 ·obtain⟨m,hn,hl⟩:=I.loc
  refine⟨m,ns m hn,fun i x v e1 e2 e3=>?_⟩
  obtain⟨u,r,l⟩:=hl i x v e1 e2 e3
  refine⟨u,r,?_⟩
  rcases l with l | ⟨k,c,e,z⟩
  ·exact .inl l
  ·exact .inr ⟨k,c,e,cellK x c e _ z⟩
 ·obtain⟨v,z⟩:=I.cell x c e
  exact⟨v,cellK x c e v z⟩
 ·obtain⟨m,⟨o,_,_,ho,_⟩,_⟩:=I.loc
  exact free _ o (fun z=>(hch _ z).2.1 rfl) ho I.free
 ·obtain⟨v,o,ho,hd⟩:=I.cell x c e
  exact free c o (fun z=>(hch c z).2.2.1 x c e rfl) ho (I.jf x c e)
 ·obtain⟨e,n,ne,nf,d⟩:=I.pin p hp
  have HE:p.1∉ch:=fun z=>(hch p.1 z).2.2.2 p hp rfl
  exact⟨keep p.1 p.2 ne nf HE e n,free p.1 p.2 HE e n,ne,nf,d⟩
theorem Inv.un {t':Nat}(I:Inv X pins σ H s) (u:Un X.fs [] H H' s.heap h') (hok:jL X.prog X.w H' h'):Inv X pins σ H' {s with heap:=h',toks:=t'}:=by
 obtain⟨m,⟨o,es,ep,ho,r⟩,_⟩:=id I.loc
 obtain⟨sl,hL⟩:=u.any ho I.free (by simp)
 exact I.step (g':=s.gens) (d':=s.drawn) (ch:=[]) (fun _ z=>nomatch z) (fun b o _ hb _ e n=>u.keep b o e n hb (by simp)) (fun b o _ hb _ e n=>u.slot b o e n hb (by simp)) (fun b o _ e n=>u.free b o e n (by simp)) (fun b o _ e=>u.there b o e (by simp)) u.tups u.j6 u.kN (fun m' hm=>by
  obtain⟨o',es',Lv,ho',r'⟩:=hm
  rw[ho] at ho';cases ho'
  exact⟨_,es',Lv,hL,r'⟩) hok I.bare
theorem Inv.call {g':Array GenState}{t':Nat}{d':Drawn}{ch:List Addr}(I:Inv X pins σ H s) (u:Un (frs X.stack) ch H H' s.heap h') (hok:jL X.prog X.w H' h') (hg:AllBare g')
  (hch:∀b∈ch,(b∈X.ex∨X.s₀.heap.objs.size≤b)∧b≠X.env.locals∧(∀x c,X.env.cells.lookup x=some c→c≠b)∧∀p∈X.pn++pins,p.1≠b):
  Inv X pins σ H' {s with heap:=h',gens:=g',drawn:=d',toks:=t'}:=by
 obtain⟨m,⟨o,es,ep,ho,r⟩,_⟩:=id I.loc
 obtain⟨sl,hL⟩:=u.any ho I.free fun z=>(hch _ z).2.1 rfl
 exact I.step (ch:=ch) hch (fun b o hL hb hc e n=>u.keep b o e n (fun z=>(List.mem_cons.mp (I.lO b z)).elim hL hb) hc) (fun b o _ _ hc e n=>u.any e n hc) (fun b o hc e n=>u.free b o e n hc) (fun b o hc e=>u.there b o e hc) u.tups u.j6 u.kN (fun m' hm=>by
  obtain⟨o',es',Lv,ho',r'⟩:=hm
  rw[ho] at ho';cases ho'
  exact⟨_,es',Lv,hL,r'⟩) hok hg
theorem Inv.turned {t':Nat}{it:Addr}(I:Inv X pins σ H s) (k:∀b o,b≠it→s.heap.get? b=some o→h'.get? b=some o) (hn:H it=none) (hL:it≠X.env.locals)
  (h1:it∈X.ex∨X.s₀.heap.objs.size≤it) (h2:∀x c,X.env.cells.lookup x=some c→c≠it) (h3:∀p∈X.pn++pins,p.1≠it):Inv X pins σ H {s with heap:=h',toks:=t'}:=by
 have HF:∀b u,H b=some u→b≠it:=fun b u e z=>by rw[z,hn] at e;cases e
 refine I.step (g':=s.gens) (d':=s.drawn) (ch:=[it]) (fun b hb=>?_) (fun b o _ _ hc e _=>k b o (fun z=>hc (by simp[z])) e) (fun b o _ _ hc e _=>⟨o.slots,k b o (fun z=>hc (by simp[z])) e⟩) (fun _ _ _ _ n=>n)
  (fun b o hc e=>⟨o,k b o (fun z=>hc (by simp[z])) e⟩) (fun _ _ e=>e) (fun _ _ _ e=>e) (fun b ps e=>⟨#[],by rw[e];simp⟩) (fun m hm=>?_) (fun b u e=>?_) I.bare
 ·have e:b=it:=by simpa using hb
  subst e
  exact⟨h1,hL,h2,h3⟩
 ·obtain⟨o,es,ep,ho,r⟩:=hm
  exact⟨o,es,ep,k _ o (Ne.symm hL) ho,r⟩
 ·refine(I.hok b u e).stay (fun c v hc q=>k c v ?_ q) (fun _ q=>q) fun _ _ q=>q
  rcases hc with z | z
  ·rw[z];exact HF b u e
  ·exact HF c _ z
theorem Inv.tok (I:Inv X pins σ H s) (t:Nat):Inv X pins σ H {s with toks:=t}:=I.un (h':=s.heap) (t':=t) Un.refl I.hok
theorem Inv.kept {t':Nat}(I:Inv X pins σ H s) (k:∀b u,s.heap.get? b=some u→h'.get? b=some u):Inv X pins σ H {s with heap:=h',toks:=t'}:=I.un (Un.kept k) (I.hok.kept k)
theorem Inv.laid {a:Addr}{o:HO}{t':Nat}(I:Inv X pins σ H s) (k:∀b u,s.heap.get? b=some u→h'.get? b=some u) (hp:s.heap.objs.size≤a) (new:cO X.prog X.w (upd H a o) h' a o):
  Inv X pins σ (upd H a o) {s with heap:=h',toks:=t'}:=I.un (Un.laid k hp (I.hok.fresh hp)) (I.hok.laid k hp new)
theorem Inv.write {x e:Addr}{o:HO}{t':Nat}(I:Inv X pins σ H s) (mu:HB (H x)) (he:e=x∨H e=some (.own x)) (k:∀b u,b≠e→s.heap.get? b=some u→h'.get? b=some u) (GZ:∃u,h'.get? e=some u)
  (new:cO X.prog X.w (upd H x o) h' x o):Inv X pins σ (upd H x o) {s with heap:=h',toks:=t'}:=I.un (Un.write mu he k GZ) (I.hok.write mu he k GZ new)
theorem Inv.weak {σ':List (Option V)}(I:Inv X pins σ H s) (hl:σ'.length=σ.length) (w:∀(i:Nat) v,σ'[i]? =some (some v)→σ[i]? =some (some v)):Inv X pins σ' H s:=
 ⟨I.ok,I.os,I.bare,I.base,let⟨m,hn,hl'⟩:=I.loc;⟨m,hn,fun i x v e1 e2 e3=>hl' i x v e1 (w i v e2) e3⟩,I.cell,I.free,I.jf,I.pin,I.hok,hl.trans I.len⟩
theorem Inv.xF {DR:List (Addr×Obj)}(I:Inv X pins σ H s) (h:∀p∈DR,s.heap.get? p.1=some p.2∧H p.1=none∧p.1≠X.env.locals∧p.1∉X.fs∧∀v,p.2.data≠.cell v):Inv X DR σ H s:=
 ⟨I.ok,I.os,I.bare,I.base,I.loc,I.cell,I.free,I.jf,fun p hp=>(List.mem_append.mp hp).elim (fun z=>I.pin p (List.mem_append_left _ z)) (h p),I.hok,I.len⟩
theorem tU {N:List Str}(hN:N.Nodup){i j:Nat}{x:Str}(a:N[i]? =some x) (b:N[j]? =some x):i=j:=by
 obtain⟨h1,e1⟩:=List.getElem?_eq_some_iff.mp a
 obtain⟨h2,e2⟩:=List.getElem?_eq_some_iff.mp b
 exact(List.getElem_inj hN).mp (e1.trans e2.symm)
theorem yH {M : Model} {A : Around} {E : Value → Shared → Prop} {i : Nat} {x : Str} {v : V} {u : Value} {Q : Unit → Shared → Prop} (I : Inv X pins σ H s) (hN : X.N.Nodup) (hi : X.N[i]? = some x) (hx : Loc X.env.scope x) (r : RelV v u)
    (h:∀s',Inv X pins (σ.set i (some v)) H s'→(∃a,Heap.SameBut a s.heap s'.heap∧(a=X.env.locals∨X.env.cells.lookup x=some a))→Q () s') (hf:X.fn x=true∨X.env.scope.names.lookup x=some .local:=by first | exact .inl rfl | exact .inr rfl | assumption):wpAny M A (storeName X.env x u) Q E s:=by
  obtain⟨m,hn,hl⟩:=id I.loc
  have hcls:(X.env.scope.kind == .class || (X.env.scope.kind == .module && X.env.locals != X.env.globals))=false:=by rw[I.ok.kind];rfl
  have HG:i < σ.length:=by rw[I.len];exact(List.getElem?_eq_some_iff.mp hi).1
  have Ex:=I.Ex
  have tracked:∀{a:Addr}{h':Heap},(∃o,s.heap.get? a=some o∧H a=none)→Heap.SameBut a s.heap h'→jL X.prog X.w H h':=fun {a h'} ha hs b ob e=>by
    obtain⟨_,_,hfree⟩:=ha
    refine(I.hok b ob e).stay (fun c w' hc q=>(hs.2 c ?_).trans q) (fun _ q=>q) fun _ _ q=>q
    rintro rfl
    rcases hc with rfl | hc
    · rw[hfree] at e;cases e
    · rw[hfree] at hc;cases hc
  rcases hx with hk | hk
  · refine wpAny_storeName_local hk hn (fun h' hn' hs=>?_) hcls
    obtain⟨oL,_,_,Qh,_⟩:=id hn
    refine h _ ⟨I.ok,I.os,I.bare,⟨fun b o e n hb hx=>?_,fun b o e n hb hx=>?_,I.base.free,fun b o e hx=>?_,I.base.tups,I.base.j6,I.base.kN⟩,⟨_,hn',fun j y v' e1 e2 e3=>?_⟩,fun y c e=>?_,I.free,I.jf,fun p hp=>?_,tracked ⟨oL,Qh,I.free⟩ hs,by simpa using I.len⟩ ⟨_,hs,.inl rfl⟩
    · exact(hs.2 b (Nat.ne_of_lt (Nat.lt_of_lt_of_le (Heap.lt_size e) I.ok.above))).trans (I.base.keep b o e n hb hx)
    · obtain⟨sl,e1⟩:=I.base.slot b o e n hb hx
      exact⟨sl,(hs.2 b (Nat.ne_of_lt (Nat.lt_of_lt_of_le (Heap.lt_size e) I.ok.above))).trans e1⟩
    · obtain⟨o',e1⟩:=I.base.there b o e hx
      exact⟨o',(hs.2 b (Nat.ne_of_lt (Nat.lt_of_lt_of_le (Heap.lt_size e) I.ok.above))).trans e1⟩
    · by_cases hj:j=i
      · subst hj
        rw[hi] at e1;cases e1
        rw[List.getElem?_set_self HG] at e2
        cases e2
        exact⟨u,r,.inl ⟨hk,by simp⟩⟩
      · rw[List.getElem?_set_ne (Ne.symm hj)] at e2
        obtain⟨u',r',q⟩:=hl j y v' e1 e2 e3
        refine⟨u',r',?_⟩
        rcases q with⟨k,e⟩ | ⟨k,c,e,z⟩
        · refine .inl ⟨k,?_⟩
          have:y≠x:=fun e=>hj (tU hN e1 (e▸hi))
          simp[this,e]
        · exact .inr ⟨k,c,e,z.sameBut hs (Ex y c e)⟩
    · obtain⟨w',z⟩:=I.cell y c e
      exact⟨w',z.sameBut hs (Ex y c e)⟩
    · obtain⟨e,n,ne,nf,d⟩:=I.pin p hp
      exact⟨(hs.2 p.1 ne).trans e,n,ne,nf,d⟩
  · have hfn:X.fn x=true:=by
      rcases hf with z | z
      · exact z
      · rw[z] at hk;cases hk
    obtain⟨c,hc⟩:=I.ok.has x (.inl hk)
    obtain⟨w',z⟩:=I.cell x c hc
    refine wpAny_storeName_cell I.ok.kind hk hc z (fun h' hc' hs=>?_)
    obtain⟨oc,hoc,Lw⟩:=id z
    refine h {s with heap:=h'} ⟨I.ok,I.os,I.bare,⟨fun b o e n hb hx=>?_,fun b o e n hb hx=>?_,I.base.free,fun b o e hx=>?_,I.base.tups,I.base.j6,I.base.kN⟩,⟨m,hn.sameBut hs (Ne.symm (Ex x c hc)),fun j y v' e1 e2 e3=>?_⟩,fun y c' e=>?_,I.free,I.jf,fun p hp=>?_,tracked ⟨oc,hoc,I.jf x c hc⟩ hs,by simpa using I.len⟩ ⟨c,hs,.inr hc⟩
    · exact(hs.2 b (Nat.ne_of_lt (Nat.lt_of_lt_of_le (Heap.lt_size e) (I.ok.HD x c hfn hc)))).trans (I.base.keep b o e n hb hx)
    · obtain⟨sl,e1⟩:=I.base.slot b o e n hb hx
      exact⟨sl,(hs.2 b (Nat.ne_of_lt (Nat.lt_of_lt_of_le (Heap.lt_size e) (I.ok.HD x c hfn hc)))).trans e1⟩
    · obtain⟨o',e1⟩:=I.base.there b o e hx
      exact⟨o',(hs.2 b (Nat.ne_of_lt (Nat.lt_of_lt_of_le (Heap.lt_size e) (I.ok.HD x c hfn hc)))).trans e1⟩
    · by_cases hj:j=i
      · subst hj
        rw[hi] at e1;cases e1
        rw[List.getElem?_set_self HG] at e2
        cases e2
        exact⟨u,r,.inr ⟨.inl hk,c,hc,hc'⟩⟩
      · rw[List.getElem?_set_ne (Ne.symm hj)] at e2
        obtain⟨u',r',q⟩:=hl j y v' e1 e2 e3
        refine⟨u',r',?_⟩
        rcases q with q | ⟨k,c',e,z'⟩
        · exact .inl q
        · refine .inr ⟨k,c',e,z'.sameBut hs ?_⟩
          rintro rfl
          exact hj (tU hN e1 (I.ok.inj _ _ _ e hc▸hi))
    · by_cases hcc:c'=c
      · subst hcc;exact⟨_,hc'⟩
      · obtain⟨w2,z2⟩:=I.cell y c' e
        exact⟨w2,z2.sameBut hs hcc⟩
    · obtain⟨e,n,ne,nf,d⟩:=I.pin p hp
      refine⟨(hs.2 p.1 ?_).trans e,n,ne,nf,d⟩
      intro q
      rw[q,hoc] at e
      have q':oc=p.2:=Option.some.inj e
      exact d w' (by rw[←q'];exact Lw)
theorem nM {M:Model}{A:Around}{E:Value→Shared→Prop}{i:Nat}{x:Str}{v:V}{u:Value}{Q:Unit→Shared→Prop}(I:Inv X pins σ H s) (hN:X.N.Nodup) (hi:X.N[i]? =some x) (hx:Loc X.env.scope x) (r:RelV v u)
  (h:∀s',Inv X pins (σ.set i (some v)) H s'→Q () s') (hf:X.fn x=true∨X.env.scope.names.lookup x=some .local:=by first | exact .inl rfl | exact .inr rfl | assumption):wpAny M A (storeName X.env x u) Q E s:=
 yH I hN hi hx r (fun s' I' _=>h s' I') hf
theorem Inv.DS {s':Shared}{ch:List Addr}(I:Inv X pins σ H s) (ho:s'.os=s.os) (u:Un (frs X.stack) ch H H' s.heap s'.heap) (hok:jL X.prog X.w H' s'.heap) (hg:AllBare s'.gens)
  (hch:∀b∈ch,(b∈X.ex∨X.s₀.heap.objs.size≤b)∧b≠X.env.locals∧(∀x c,X.env.cells.lookup x=some c→c≠b)∧∀p∈X.pn++pins,p.1≠b):Inv X pins σ H' s':=by
 obtain⟨h',g',d',t',o'⟩:=s'
 have e:o'=s.os:=ho
 subst e
 exact I.call (g':=g') (t':=t') (d':=d') u hok hg hch
end
noncomputable abbrev XK:=Value→Option Addr→Hp→Prop
noncomputable abbrev St:=List (Option V)
noncomputable abbrev VK:=V→Hp→Prop
noncomputable abbrev TE:=St→Hp→VK→Prop
noncomputable abbrev TT:=St→Hp→(Bool→Hp→Prop)→Prop
noncomputable abbrev TA:=St→Hp→(List V→Hp→Prop)→Prop
structure Ends where
 nx:St→Hp→Prop
 rt:VK
 bk:St→Hp→Prop:=fun _ _=>False
 ct:St→Hp→Prop:=fun _ _=>False
noncomputable abbrev TS:=Ends→St→Hp→Prop
noncomputable def EP (X:Cx) (pins:List (Addr×Obj)) (σ:St) (Q:VK) (u:Value) (s':Shared):Prop:=∃v H',Inv X pins σ H' s'∧RelV v u∧Q v H'
noncomputable def TP (X:Cx) (pins:List (Addr×Obj)) (σ:St) (Q:Bool→Hp→Prop) (b:Bool) (s':Shared):Prop:=∃H',Inv X pins σ H' s'∧Q b H'
noncomputable def AP (X:Cx) (pins:List (Addr×Obj)) (σ:St) (Q:List V→Hp→Prop) (us:List Value) (s':Shared):Prop:=∃vs H',Inv X pins σ H' s'∧Vals vs us∧Q vs H'
noncomputable def SP (X:Cx) (pins:List (Addr×Obj)) (D:Ends) (f:Flow) (s':Shared):Prop:=
 match f with
 | .next=>∃σ' H',Inv X pins σ' H' s'∧D.nx σ' H'
 | .brk=>∃σ' H',Inv X pins σ' H' s'∧D.bk σ' H'
 | .cont=>∃σ' H',Inv X pins σ' H' s'∧D.ct σ' H'
 | .ret u=>∃v σ' H',Inv X pins σ' H' s'∧RelV v u∧D.rt v H'
noncomputable def PE (X:Cx) (e:Expr) (t:TE):Prop:=
 ∀(pins:List (Addr×Obj)) (s:Shared) (σ:St) (H:Hp) (Q:VK),Inv X pins σ H s→t σ H Q→wpAny (model X.prog X.w) X.A (eval e X.env) (EP X pins σ Q) X.xe s
noncomputable def PT (X:Cx) (e:Expr) (t:TT):Prop:=
 ∀(pins:List (Addr×Obj)) (s:Shared) (σ:St) (H:Hp) (Q:Bool→Hp→Prop),Inv X pins σ H s→t σ H Q→wpAny (model X.prog X.w) X.A (isTrue e X.env (eval e X.env)) (TP X pins σ Q) X.xe s
noncomputable def PW (X:Cx) (e:Expr) (t:TT):Prop:=
 ∀(whole:Sem Value) (pins:List (Addr×Obj)) (s:Shared) (σ:St) (H:Hp) (Q:Bool→Hp→Prop),Inv X pins σ H s→t σ H Q→wpAny (model X.prog X.w) X.A (isTrue e X.env whole) (TP X pins σ Q) X.xe s
theorem PW.pt {X:Cx}{e:Expr}{t:TT}(h:PW X e t):PT X e t:=h _
noncomputable def PA (X:Cx) (es:List Expr) (t:TA):Prop:=
 ∀(pos:Pos) (pins:List (Addr×Obj)) (s:Shared) (σ:St) (H:Hp) (Q:List V→Hp→Prop),Inv X pins σ H s→t σ H Q→wpAny (model X.prog X.w) X.A (spliced (backTo pos (starEach es X.env))) (AP X pins σ Q) X.xe s
noncomputable def PS (X:Cx) (st:Stmt) (t:TS):Prop:=
 ∀(pins:List (Addr×Obj)) (s:Shared) (σ:St) (H:Hp) (D:Ends),Inv X pins σ H s→t D σ H→wpAny (model X.prog X.w) X.A (exec st X.env) (SP X pins D) X.xe s
noncomputable def vQ (X:Cx) (st:List Stmt) (t:TS):Prop:=
 ∀(pins:List (Addr×Obj)) (s:Shared) (σ:St) (H:Hp) (D:Ends),Inv X pins σ H s→t D σ H→wpAny (model X.prog X.w) X.A (execs st X.env) (SP X pins D) X.xe s
theorem cP {α:Type}{t:Sem α}{Q Q':α→Shared→Prop}{M:Model}{A:Around}{E:Value→Shared→Prop}{s:Shared}(h:wpAny M A t Q E s) (hQ:∀a s,Q a s→Q' a s):wpAny M A t Q' E s:=wpAny_mono h hQ fun _ _ x=>x
end L2
namespace L2
open PySem PySem.Spec PyProof.Rows
section
variable {X:Cx}
theorem bin {a b:Expr}{ta tb:TE}(ha:PE X a ta) (hb:PE X b tb){pins:List (Addr×Obj)}{s:Shared}{σ:St}{H:Hp}{R:V→V→Hp→Prop}(I:Inv X pins σ H s) (h:ta σ H fun x H1=>tb σ H1 fun y H2=>R x y H2)
  {α:Type}{Q:α→Shared→Prop}{f:Value→Value→Sem α}
  (hf:∀v u s2 x y H2,Inv X pins σ H2 s2→RelV x v→RelV y u→R x y H2→wpAny (model X.prog X.w) X.A (f v u) Q X.xe s2):
  wpAny (model X.prog X.w) X.A (eval a X.env) (fun v s₁=>wpAny (model X.prog X.w) X.A (eval b X.env) (fun u s₂=>wpAny (model X.prog X.w) X.A (f v u) Q X.xe s₂) X.xe s₁) X.xe s:=by
 refine cP (ha pins s σ H _ I h) fun v s1 ⟨x,H1,I1,r1,q1⟩=>?_
 refine cP (hb pins s1 σ H1 _ I1 q1) fun u s2 ⟨y,H2,I2,r2,q2⟩=>?_
 exact hf v u s2 x y H2 I2 r1 r2 q2
noncomputable def Al (i:Nat):TE:=fun σ H Q=>∃v,σ[i]? =some (some v)∧Q v H
noncomputable def tC (v:V):TE:=fun _ H Q=>Q v H
theorem fW {i:Nat}{x:Str}{pos:Pos}(hN:X.N[i]? =some x) (hv:Aj X.env.scope x) (hd:(x == ("__debug__":Str))=false:=by decide) (hcd:(x == ("__classdict__":Str))=false:=by decide):PE X (.Name x pos) (Al i):=by
 intro pins s σ H Q I h
 obtain⟨v,e,h⟩:=h
 obtain⟨m,hn,hl⟩:=I.loc
 obtain⟨u,r,l⟩:=hl i x v hN e hv
 have fin:EP X pins σ Q u s:=⟨v,H,I,r,h⟩
 rcases l with⟨hk,hm⟩ | ⟨hk,c,hc,hcell⟩
 ·exact wpAny_Name (wpAny_loadName_local I.ok.kind hk hn hm fin) hd
 ·rcases hk with hk | hk
  ·exact wpAny_Name (wpAny_loadName_cell I.ok.kind hk hc hcell fin) hd
  ·exact wpAny_Name (wpAny_loadName_free I.ok.kind hk hc hcell fin hcd) hd
theorem Ey {i j pos}:PE X (.Constant (.int i) j pos) (tC (.int i)):=fun _ _ _ H _ I h=>wpAny_Constant_int ⟨.int i,H,I.tok _,⟨_,rfl⟩,h⟩
theorem HH {b j pos}:PE X (.Constant (.bool b) j pos) (tC (.bl b)):=fun _ _ _ H _ I h=>Constant_bool ⟨.bl b,H,I,rfl,h⟩
theorem Ez {j pos}:PE X (.Constant .none j pos) (tC .bS):=fun _ _ _ H _ I h=>Constant_none ⟨.bS,H,I,rfl,h⟩
theorem Am {x j pos}:PE X (.Constant (.str x) j pos) (tC (.str x)):=fun _ _ _ H _ I h=>Calls.Constant_str ⟨.str x,H,I.tok _,⟨_,rfl⟩,h⟩
noncomputable def Gl (X:Cx) (x:Str):Prop:=X.env.kindOf x=some .globalImplicit
theorem rL {E:Value→Shared→Prop}{pins:List (Addr×Obj)}{s:Shared}{σ:St}{H:Hp}{x:Str}{u:Value}{pos:Pos}{Q:Value→Shared→Prop}(I:Inv X pins σ H s) (hg:Gl X x) (hm:X.mg x=some u) (h:Q u s)
  (hd:(x == ("__debug__":Str))=false:=by decide):wpAny (model X.prog X.w) X.A (eval (.Name x pos) X.env) Q E s:=
 Calls.Name_function_global I.ok.kind hg (Calls.loadGlobal_global (by rw[I.ok.glob];exact I.mod.glob.keeps I.bk) hm h) hd
theorem nN {E:Value→Shared→Prop}{pins:List (Addr×Obj)}{s:Shared}{σ:St}{H:Hp}{x:Str}{u:Value}{pos:Pos}{Q:Value→Shared→Prop}(I:Inv X pins σ H s) (hg:Gl X x) (hm:X.mg x=none) (hv:bootBuiltins x=some u) (h:Q u s)
  (hn:x≠"__name__":=by decide) (hd:(x == ("__debug__":Str))=false:=by decide):wpAny (model X.prog X.w) X.A (eval (.Name x pos) X.env) Q E s:=by
 obtain⟨mb,h1,h2⟩:=I.mod.blt
 exact Calls.Name_function_global I.ok.kind hg (Calls.loadGlobal_builtin (by rw[I.ok.glob];exact I.mod.glob.keeps I.bk) hm (by rw[I.ok.blt];exact h1.keeps I.bk) ((h2 x hn).trans hv) h) hd
theorem nG {x:Str}{v:V}{u:Value}{pos:Pos}(hg:Gl X x) (hm:X.mg x=some u) (r:RelV v u) (hd:(x == ("__debug__":Str))=false:=by decide):PE X (.Name x pos) (tC v):=
 fun _ _ _ H _ I h=>rL I hg hm ⟨v,H,I,r,h⟩ hd
theorem CG {x:Str}{v:V}{u:Value}{pos:Pos}(hg:Gl X x) (hm:X.mg x=none) (hv:bootBuiltins x=some u) (r:RelV v u) (hn:x≠"__name__":=by decide) (hd:(x == ("__debug__":Str))=false:=by decide):PE X (.Name x pos) (tC v):=
 fun _ _ _ H _ I h=>nN I hg hm hv ⟨v,H,I,r,h⟩ hn hd
variable {a b:Expr}{ta tb:TE}{pos:Pos}
noncomputable def PC (X:Cx) (op:CmpOp) (a b:Expr) (t:TE):Prop:=
 ∀(pins:List (Addr×Obj)) (s:Shared) (σ:St) (H:Hp) (Q:VK),Inv X pins σ H s→t σ H Q→
  wpAny (model X.prog X.w) X.A (eval a X.env) (fun v s₁=>wpAny (model X.prog X.w) X.A (eval b X.env) (fun u s₂=>wpAny (model X.prog X.w) X.A (compareOp op v u) (EP X pins σ Q) X.xe s₂) X.xe s₁) X.xe s
theorem An (b:Expr){op:CmpOp}(h:op≠.In) (h2:op≠.NotIn):behindInMarks op b=false:=by
 have e1:(op == CmpOp.In)=false:=by cases op <;> first | rfl | exact absurd rfl h
 have e2:(op == CmpOp.NotIn)=false:=by cases op <;> first | rfl | exact absurd rfl h2
 cases b <;> simp[behindInMarks,e1,e2]
noncomputable def tB (t:TE):TT:=fun σ H Q=>t σ H fun x H1=>∃c,x= .bl c∧Q c H1
theorem EA {op:CmpOp}{t:TE}(h:PC X op a b t) (h1:behindInMarks op b=false:=by first | exact An _ (by decide) (by decide) | rfl):PT X (.Compare a [op] [b] pos) (tB t):=by
 intro pins s σ H Q I hw
 refine wpAny_isTrue_Compare1 (cP (h pins s σ H _ I hw) fun v s1 h1=>cP h1 fun u s2 h2=>cP h2 fun c s3 ⟨x,H1,I1,r1,q1⟩=>?_) h1
 obtain⟨d,rfl,q⟩:=q1
 cases r1
 exact wpAny_truthy_bool ⟨H1,I1,q⟩
theorem EB {e:Expr}{t:TE}(h:PE X e t) (he:∀whole,isTrue e X.env whole=(do let v ←whole;standAt e.pos;holding [v] (truthy v)):=by intro _;rfl):PT X e (tB t):=by
 intro pins s σ H Q I hw
 refine isTrue_plain (cP (h pins s σ H _ I hw) fun v s1 ⟨x,H1,I1,r1,q1⟩=>?_) (he _)
 obtain⟨d,rfl,q⟩:=q1
 cases r1
 exact wpAny_truthy_bool ⟨H1,I1,q⟩
variable {tA Pf:TT}{rest:List Expr}
noncomputable def Qi (t u:TT):TT:=fun σ H Q=>t σ H fun c H1=>if c=true then Q true H1 else u σ H1 Q
noncomputable def Lx (t:TT):TT:=fun σ H Q=>t σ H fun c H1=>Q (!c) H1
theorem pw_or1 (ha:PT X a tA):PW X (.BoolOp .Or [a] pos) tA:=by
 intro wh pins s σ H Q I h
 refine isTrue_or (cP (ha pins s σ H Q I h) fun c s1 e=>?_)
 cases c with
 | false=>exact isTrue_or_nil e
 | true=>exact e
theorem pw_or (ha:PT X a tA) (hb:PW X (.BoolOp .Or (b :: rest) pos) Pf):PW X (.BoolOp .Or (a :: b :: rest) pos) (Qi tA Pf):=by
 intro wh pins s σ H Q I h
 refine isTrue_or (cP (ha pins s σ H _ I h) fun c s1 ⟨H1,I1,q1⟩=>?_)
 cases c with
 | true=>exact⟨H1,I1,q1⟩
 | false=>exact hb wh pins s1 σ H1 Q I1 q1
theorem EC (ha:PT X a tA):PT X (.UnaryOp .Not a pos) (Lx tA):=by
 intro pins s σ H Q I h
 exact isTrue_not (ha pins s σ H (fun c H1=>Q (!c) H1) I h)
noncomputable def HJ (ta tb:TE):TE:=fun σ H Q=>ta σ H fun x H1=>∃c,x= .bl c∧if c=true then tb σ H1 Q else Q (.bl false) H1
theorem ED {op}{t:TE}(h:PE X a t):PE X (.BoolOp op [a] pos) t:=fun pins s σ H Q I hw=>BoolOp_one (h pins s σ H Q I hw)
theorem EE (ha:PE X a ta) (hb:PE X (.BoolOp .And (b :: rest) pos) tb):PE X (.BoolOp .And (a :: b :: rest) pos) (HJ ta tb):=by
 intro pins s σ H Q I h
 refine BoolOp_and (cP (ha pins s σ H _ I h) fun v s1 ⟨x,H1,I1,r1,q1⟩=>?_)
 obtain⟨c,rfl,q1⟩:=q1
 cases r1
 refine wpAny_truthy_bool ?_
 cases c with
 | true=>exact hb pins s1 σ H1 Q I1 q1
 | false=>exact⟨.bl false,H1,I1,rfl,q1⟩
end
end L2
namespace L2
open PySem PySem.Spec PyProof.Rows
noncomputable def iO (K:PySem.W.Frag) (H:Hp) (a:Addr) (xs:List V):Prop:=
 Rd H a (.lst xs)∨
  ∃(o:Obj) (its:Array Value) (n:Nat),K.lookup a=some o∧o.cls= .type "list"∧o.dict=none∧o.data= .seq its n∧its.size≤sizeLine∧Vals xs its.toList
noncomputable def p9 (K:PySem.W.Frag) (H:Hp) (a:Addr) (xs:List V):Prop:=
 Rd H a (.tup xs)∨
  ∃(o:Obj) (its:Array Value) (n:Nat),K.lookup a=some o∧o.cls= .type "tuple"∧o.data= .seq its n∧its.size≤sizeLine∧Vals xs its.toList
noncomputable def Ly:Value→Option V
 | .none=>some .bS
 | .bool b=>some (.bl b)
 | .int i _=>some (.int i)
 | .str x _=>some (.str x)
 | .bytes b _=>some (.Lq b)
 | .float b _=>some (.flt b)
 | .ref a=>some (.ref a)
 | .type n=>some (.ty n)
 | _=>none
theorem RelV.abs {x:V}{u:Value}(r:RelV x u):Ly u=some x:=by
 cases x with
 | bS=>cases r;rfl
 | bl _=>cases r;rfl
 | int _=>obtain⟨t,rfl⟩:=r;rfl
 | str _=>obtain⟨t,rfl⟩:=r;rfl
 | Lq _=>obtain⟨t,rfl⟩:=r;rfl
 | flt _=>obtain⟨t,rfl⟩:=r;rfl
 | ref _=>cases r;rfl
 | ty _=>cases r;rfl
theorem RelV.inj {x y:V}{u:Value}(r:RelV x u) (q:RelV y u):x=y:=Option.some.inj (r.abs.symm.trans q.abs)
theorem Vals.inj:∀{xs ys:List V}{us:List Value},Vals xs us→Vals ys us→xs=ys
 | _,_,_,.nil,.nil=>rfl
 | _,_,_,.cons r t,.cons r' t'=>by rw[r.inj r',Vals.inj t t']
section
variable {X:Cx}{pins:List (Addr×Obj)}{σ:St}{H:Hp}{s:Shared}{a:Addr}{xs ys:List V}
theorem iO.of {K:PySem.W.Frag}(h:H a=some (.lst xs)):iO K H a xs:=.inl (.inl h)
theorem p9.of {K:PySem.W.Frag}(h:H a=some (.tup xs)):p9 K H a xs:=.inl (.inl h)
theorem Inv.list (I:Inv X pins σ H s) (h:iO X.K H a xs):∃its:List Value,Vals xs its∧PlainL s.heap a its.toArray∧xs.length≤sizeLine:=by
 rcases h with h | ⟨o,its,n,hk,hc,hd,hs,hz,r⟩
 ·obtain⟨z,its,n,r,e⟩:=h.ok I.hok
  exact⟨its,r,⟨_,n,e,rfl,rfl,rfl⟩,z⟩
 ·refine⟨its.toList,r,⟨o,n,I.xE a o hk,hc,hd,by simpa using hs⟩,?_⟩
  have e:=r.length
  simp only[Array.length_toList] at e
  omega
theorem Inv.tuple (I:Inv X pins σ H s) (h:p9 X.K H a xs):∃its:List Value,Vals xs its∧IsTup s.heap a its.toArray∧xs.length≤sizeLine:=by
 rcases h with h | ⟨o,its,n,hk,hc,hs,hz,r⟩
 ·obtain⟨z,its,r,p⟩:=h.ok I.hok
  exact⟨its,r,p,z⟩
 ·refine⟨its.toList,r,⟨o,I.xE a o hk,hc,n,by simpa using hs⟩,?_⟩
  have e:=r.length
  simp only[Array.length_toList] at e
  omega
theorem Inv.tV (I:Inv X pins σ H s) (h:iO X.K H a xs) (h':iO X.K H a ys):xs=ys:=by
 obtain⟨its,r,⟨o,n,e,_,_,d⟩,_⟩:=I.list h
 obtain⟨its',r',⟨o',n',e',_,_,d'⟩,_⟩:=I.list h'
 rw[e] at e';cases e'
 rw[d] at d'
 injection d' with d1 _
 have:its=its':=by simpa using congrArg Array.toList d1
 subst this
 exact r.inj r'
theorem Inv.qz (I:Inv X pins σ H s) (h:p9 X.K H a xs) (h':p9 X.K H a ys):xs=ys:=by
 obtain⟨its,r,⟨o,e,_,n,d⟩,_⟩:=I.tuple h
 obtain⟨its',r',⟨o',e',_,n',d'⟩,_⟩:=I.tuple h'
 rw[e] at e';cases e'
 rw[d] at d'
 injection d' with d1 _
 have:its=its':=by simpa using congrArg Array.toList d1
 subst this
 exact r.inj r'
end
noncomputable abbrev Cx.nv (X:Cx) (E:Value→Shared→Prop):Cx:={X with xe:=E}
noncomputable abbrev Cx.CH (X:Cx):Cx:=X.nv fun _ _=>False
theorem Cx.Ok.nv {X:Cx}(ok:X.Ok) (E:Value→Shared→Prop):(X.nv E).Ok:=
 ⟨ok.mod,ok.kind,ok.glob,ok.blt,ok.above,ok.inj,ok.has,ok.HD,ok.hd,ok.frames,ok.stk,ok.Kf,ok.bs,ok.Ak,ok.yF,ok.yG,ok.nu,ok.Eu⟩
theorem Cx.Ok.g8 {X:Cx}{E:Value→Shared→Prop}(ok:(X.nv E).Ok):X.Ok:=
 ⟨ok.mod,ok.kind,ok.glob,ok.blt,ok.above,ok.inj,ok.has,ok.HD,ok.hd,ok.frames,ok.stk,ok.Kf,ok.bs,ok.Ak,ok.yF,ok.yG,ok.nu,ok.Eu⟩
section
variable {X:Cx}{pins:List (Addr×Obj)}{σ:St}{H:Hp}{s:Shared}{E:Value→Shared→Prop}
theorem Inv.nv (I:Inv X pins σ H s) (E:Value→Shared→Prop):Inv (X.nv E) pins σ H s:=⟨I.ok.nv E,I.os,I.bare,I.base,I.loc,I.cell,I.free,I.jf,I.pin,I.hok,I.len⟩
theorem Inv.g8 (I:Inv (X.nv E) pins σ H s):Inv X pins σ H s:=⟨I.ok.g8,I.os,I.bare,I.base,I.loc,I.cell,I.free,I.jf,I.pin,I.hok,I.len⟩
theorem SP.g8 {D:Ends}{f:Flow}{s':Shared}(h:SP (X.nv E) pins D f s'):SP X pins D f s':=by
 cases f with
 | next=>obtain⟨σ',H',I,q⟩:=h;exact⟨σ',H',I.g8,q⟩
 | brk=>obtain⟨σ',H',I,q⟩:=h;exact⟨σ',H',I.g8,q⟩
 | cont=>obtain⟨σ',H',I,q⟩:=h;exact⟨σ',H',I.g8,q⟩
 | ret u=>obtain⟨v,σ',H',I,r,q⟩:=h;exact⟨v,σ',H',I.g8,r,q⟩
theorem PE.CH {e:Expr}{t:TE}(h:PE X.CH e t):PE X e t:=fun pins s σ H Q I hw=>
 wpAny_mono (h pins s σ H Q (I.nv _) hw) (fun _ _ ⟨v,H',I',r,q⟩=>⟨v,H',I'.g8,r,q⟩) fun _ _ z=>False.elim z
theorem PT.CH {e:Expr}{t:TT}(h:PT X.CH e t):PT X e t:=fun pins s σ H Q I hw=>
 wpAny_mono (h pins s σ H Q (I.nv _) hw) (fun _ _ ⟨H',I',q⟩=>⟨H',I'.g8,q⟩) fun _ _ z=>False.elim z
theorem vQ.CH {st:List Stmt}{t:TS}(h:vQ X.CH st t):vQ X st t:=fun pins s σ H D I hw=>
 wpAny_mono (h pins s σ H D (I.nv _) hw) (fun _ _ q=>q.g8) fun _ _ z=>False.elim z
end
section
variable {X:Cx}{st:Stmt}{rest:List Stmt}{t u:TS}{e:Expr}{te:TE}{pos:Pos}
noncomputable def HK:TS:=fun D σ H=>D.nx σ H
noncomputable def Lz (t u:TS):TS:=fun D σ H=>t {D with nx:=u D} σ H
theorem CI:vQ X [] HK:=fun _ _ σ H _ I h=>wpAny_execs_nil ⟨σ,H,I,h⟩
theorem Ao (h1:PS X st t) (h2:vQ X rest u):vQ X (st :: rest) (Lz t u):=by
 intro pins s σ H D I h
 refine wpAny_execs_cons (cP (h1 pins s σ H {D with nx:=u D} I h) fun f s1 q=>?_)
 cases f with
 | next=>
  obtain⟨σ',H',I',q⟩:=q
  exact h2 pins s1 σ' H' D I' q
 | ret v=>exact q
 | brk=>exact q
 | cont=>exact q
theorem CJ (h1:PS X st t):vQ X [st] t:=by
 intro pins s σ H D I h
 refine wpAny_execs_cons (cP (h1 pins s σ H D I h) fun f s1 q=>?_)
 cases f with
 | next=>exact wpAny_execs_nil q
 | ret v=>exact q
 | brk=>exact q
 | cont=>exact q
theorem Inv.quiet {pins:List (Addr×Obj)}{σ:St}{H:Hp}{s:Shared}(I:Inv X pins σ H s):interactive X.env=false:=by simp[interactive,I.ok.kind]
noncomputable def HL (te:TE):TS:=fun D σ H=>te σ H fun _ H1=>D.nx σ H1
theorem CK (he:PE X e te) (hs:swapsWith e none pos.line X.env=pure false:=by rfl):PS X (.Expr e pos) (HL te):=by
 intro pins s σ H D I h
 exact wpAny_Expr_any (cP (he pins s σ H _ I h) fun v s1 ⟨x,H1,I1,r1,q1⟩=>⟨σ,H1,I1,q1⟩) I.quiet hs
noncomputable def LA (te:TE):TS:=fun D σ H=>te σ H D.rt
theorem EF (he:PE X e te):PS X (.Return (some e) pos) (LA te):=by
 intro pins s σ H D I h
 exact wpAny_Return_some (cP (he pins s σ H _ I h) fun v s1 ⟨x,H1,I1,r1,q1⟩=>⟨x,σ,H1,I1,r1,q1⟩)
noncomputable def LB (c:TT) (t u:TS):TS:=fun D σ H=>c σ H fun b H1=>if b=true then t D σ H1 else u D σ H1
theorem HM {c:Expr}{a b:List Stmt}{tc:TT}(hc:PT X c tc) (ha:vQ X a t) (hb:vQ X b u):PS X (.If c a b pos) (LB tc t u):=by
 intro pins s σ H D I h
 refine wpAny_If (cP (hc pins s σ H _ I h) fun d s1 ⟨H1,I1,q1⟩=>?_)
 cases d with
 | true=>exact ha pins s1 σ H1 D I1 q1
 | false=>exact hb pins s1 σ H1 D I1 q1
end
noncomputable abbrev TG:=V→St→Hp→(St→Hp→Prop)→Prop
noncomputable abbrev CL:=List V→St→Hp→(St→Hp→Prop)→Prop
noncomputable def PG (X:Cx) (target:Expr) (t:TG):Prop:=
 ∀(pins:List (Addr×Obj)) (s:Shared) (σ:St) (H:Hp) (v:V) (u:Value) (Q:St→Hp→Prop),Inv X pins σ H s→RelV v u→t v σ H Q→
  wpAny (model X.prog X.w) X.A (assign target X.env u) (fun _ s'=>∃σ' H',Inv X pins σ' H' s'∧Q σ' H') X.xe s
noncomputable def DT (X:Cx) (ts:List Expr) (t:CL):Prop:=
 ∀(pins:List (Addr×Obj)) (s:Shared) (σ:St) (H:Hp) (vs:List V) (us:List Value) (Q:St→Hp→Prop),Inv X pins σ H s→Vals vs us→t vs σ H Q→
  wpAny (model X.prog X.w) X.A (assignInOrder ((assignEach ts X.env).map (·.2)) us) (fun _ s'=>∃σ' H',Inv X pins σ' H' s'∧Q σ' H') X.xe s
noncomputable abbrev EG:=V→V→V→Hp→(Hp→Prop)→Prop
noncomputable def HN (X:Cx) (t:EG):Prop:=
 ∀(pins:List (Addr×Obj)) (s:Shared) (σ:St) (H:Hp) (o i v:V) (ov iv u:Value) (Q:Hp→Prop),Inv X pins σ H s→RelV o ov→RelV i iv→RelV v u→t o i v H Q→
  wpAny (model X.prog X.w) X.A (setItem ov iv u) (fun _ s'=>∃H',Inv X pins σ H' s'∧Q H') X.xe s
noncomputable abbrev Kh:=V→V→Hp→VK→Prop
noncomputable def LC (X:Cx) (op:Operator) (t:Kh):Prop:=
 ∀(pins:List (Addr×Obj)) (s:Shared) (σ:St) (H:Hp) (x y:V) (v u:Value) (Q:VK),Inv X pins σ H s→RelV x v→RelV y u→t x y H Q→
  wpAny (model X.prog X.w) X.A (inplaceOp op v u) (EP X pins σ Q) X.xe s
section
variable {X:Cx}{pos:Pos}
noncomputable def nO (i:Nat):TG:=fun v σ H Q=>Q (σ.set i (some v)) H
theorem nH {i:Nat}{x:Str}(hN:X.N.Nodup) (hi:X.N[i]? =some x) (hx:Loc X.env.scope x) (hf:X.fn x=true∨X.env.scope.names.lookup x=some .local:=by first | exact .inl rfl | exact .inr rfl | assumption):PG X (.Name x pos) (nO i):=by
 intro pins s σ H v u Q I r h
 exact wpAny_assign_Name (nM I hN hi hx r (fun s' I'=>⟨_,H,I',h⟩) hf)
noncomputable def HP:CL:=fun vs σ H Q=>vs=[]∧Q σ H
noncomputable def Aq (t:TG) (u:CL):CL:=fun vs σ H Q=>∃v r,vs=v :: r∧t v σ H fun σ' H'=>u r σ' H' Q
theorem xG:DT X [] HP:=by
 intro pins s σ H vs us Q I r h
 obtain⟨e,h⟩:=h
 subst e
 cases r
 exact assignInOrder_nil ⟨σ,H,I,h⟩
theorem nP {e:Expr}{es:List Expr}{t:TG}{u:CL}(h1:PG X e t) (h2:DT X es u)
  (hs:(assignEach (e :: es) X.env).map (·.2)=assign e X.env :: (assignEach es X.env).map (·.2):=by rfl):DT X (e :: es) (Aq t u):=by
 intro pins s σ H vs us Q I r h
 obtain⟨v,vr,e1,h⟩:=h
 subst e1
 cases r with
 | cons r rr=>
  rw[hs]
  refine assignInOrder_cons (cP (h1 pins s σ H _ _ _ I r h) fun _ s1 ⟨σ1,H1,I1,q1⟩=>?_)
  exact h2 pins s1 σ1 H1 _ _ Q I1 rr q1
noncomputable def HQ (K:PySem.W.Frag) (n:Nat) (t:CL):TG:=fun v σ H Q=>∃a xs,v= .ref a∧p9 K H a xs∧xs.length=n∧t xs σ H Q
theorem Ar {es:List Expr}{k:Nat}{t:CL}{n:Nat}(hc:X.calm=true) (h:DT X es t)
  (hn:(assignEach es X.env).length=n:=by rfl) (hst:(assignEach es X.env).findIdx? (·.1)=none:=by rfl):PG X (.Tuple es k pos) (HQ X.K n t):=by
 intro pins s σ H v u Q I r hw
 obtain⟨a,xs,e1,hq,hl,hw⟩:=hw
 subst e1
 cases r
 obtain⟨its,rv,ht,hz⟩:=I.tuple hq
 refine assign_Tuple_tuple (I.ok.hd hc) ht (by simp[hn,←hl,rv.length]) hst fun h' hx=>?_
 have I1:Inv X pins σ H {s with heap:=h'}:=I.kept (t':=s.toks) fun b o e=>hx b o (Nat.ne_of_lt (Heap.lt_size e)) e
 exact h pins _ σ H xs _ Q I1 (by simpa using rv) hw
noncomputable def LD (to ti:TE) (t:EG):TG:=fun v σ H Q=>to σ H fun o H1=>ti σ H1 fun i H2=>t o i v H2 fun H3=>Q σ H3
theorem EH {o i:Expr}{to ti:TE}{t:EG}(ho:PE X o to) (hi:PE X i ti) (hs:HN X t)
  (ha:∀v,assign (.Subscript o i pos) X.env v=(do
   let ov ←holding [v] (eval o X.env)
   let iv ←holding [v,ov] (eval i X.env)
   standAt pos
   holding [v,ov,iv] (setItem ov iv v)
   release [v,ov,iv] []):=by intro _;rfl):PG X (.Subscript o i pos) (LD to ti t):=by
 intro pins s σ H v u Q I r h
 rw[ha]
 refine wpAny_bind (wpAny_holding (cP (ho pins s σ H _ I h) fun ov s1 ⟨x,H1,I1,r1,q1⟩=>?_))
 refine wpAny_bind (wpAny_holding (cP (hi pins s1 σ H1 _ I1 q1) fun iv s2 ⟨y,H2,I2,r2,q2⟩=>?_))
 refine wpAny_bind (wpAny_standAt (wpAny_bind (wpAny_holding (cP (hs pins s2 σ H2 x y v ov iv u _ I2 r1 r2 r q2) fun _ s3 ⟨H3,I3,q3⟩=>?_))))
 exact wpAny_release ⟨σ,H3,I3,q3⟩
noncomputable def EI (te:TE) (g:TG):TS:=fun D σ H=>te σ H fun x H1=>g x σ H1 D.nx
theorem As {tg e:Expr}{te:TE}{g:TG}(he:PE X e te) (hg:PG X tg g) (hs:swapsWithSole [tg] e pos.line X.env=pure false:=by rfl) (hw:swappedStores [tg] e X.env=pure none:=by rfl)
  (h1:(assignEach [tg] X.env).map (·.2)=[assign tg X.env]:=by rfl):PS X (.Assign [tg] e pos) (EI te g):=by
 intro pins s σ H D I h
 refine wpAny_Assign_stores (cP (he pins s σ H _ I h) fun v s1 ⟨x,H1,I1,r1,q1⟩=>?_) hs hw
 rw[h1]
 exact cP (hg pins s1 σ H1 x v _ I1 r1 q1) fun _ s2 q=>q
theorem EJ {i:Nat}{x:Str}{e:Expr}{te:TE}{pos':Pos}(hN:X.N.Nodup) (hi:X.N[i]? =some x) (hx:Loc X.env.scope x) (he:PE X e te) (hs:swapsWith e (some (.Name x pos')) pos.line X.env=pure false:=by rfl) (hf:X.fn x=true∨X.env.scope.names.lookup x=some .local:=by first | exact .inl rfl | exact .inr rfl | assumption):
  PS X (.Assign [.Name x pos'] e pos) (EI te (nO i)):=by
 intro pins s σ H D I h
 refine wpAny_Assign_Name (cP (he pins s σ H _ I h) fun v s1 ⟨y,H1,I1,r1,q1⟩=>?_) hs
 exact nM I1 hN hi hx r1 (fun s2 I2=>⟨_,H1,I2,q1⟩) hf
noncomputable def LF (i:Nat) (te:TE) (ti:Kh):TS:=fun D σ H=>∃x,σ[i]? =some (some x)∧te σ H fun y H1=>ti x y H1 fun z H2=>D.nx (σ.set i (some z)) H2
theorem EK {i : Nat} {x : Str} {e : Expr} {te : TE} {op : Operator} {ti : Kh} {pos' : Pos} (hN : X.N.Nodup) (hi : X.N[i]? = some x) (hx : Loc X.env.scope x) (he : PE X e te) (ho : LC X op ti) (hf : X.fn x = true ∨ X.env.scope.names.lookup x = some .local := by first | exact .inl rfl | exact .inr rfl | assumption) :
    PS X (.AugAssign (.Name x pos') op e pos) (LF i te ti):=by
  intro pins s σ H D I h
  obtain⟨v,e1,h⟩:=h
  obtain⟨m,hn,hl⟩:=I.loc
  have vis:Aj X.env.scope x:=by rcases hx with k | k;exact .inl k;exact .inr (.inl k)
  obtain⟨u,r,l⟩:=hl i x v hi e1 vis
  refine wpAny_AugAssign_Name ?_
  have go:wpAny (model X.prog X.w) X.A (eval e X.env) (fun w s₂=>wpAny (model X.prog X.w) X.A (inplaceOp op u w) (fun r s₃=>wpAny (model X.prog X.w) X.A (storeName X.env x r) (fun _=>SP X pins D .next) X.xe s₃) X.xe s₂) X.xe s:=by
    refine cP (he pins s σ H _ I h) fun w s1 ⟨y,H1,I1,r1,q1⟩=>?_
    refine cP (ho pins s1 σ H1 v y u w _ I1 r r1 q1) fun z s2 ⟨zv,H2,I2,r2,q2⟩=>?_
    exact nM I2 hN hi hx r2 (fun s3 I3=>⟨_,H2,I3,q2⟩) hf
  rcases l with⟨hk,hm⟩ | ⟨hk,c,hc,hcell⟩
  · exact wpAny_loadName_local I.ok.kind hk hn hm go
  · rcases hk with hk | hk
    · exact wpAny_loadName_cell I.ok.kind hk hc hcell go
    · rcases hx with k | k
      · have:X.env.scope.names.lookup x=some .free:=hk
        rw[k] at this;cases this
      · have:X.env.scope.names.lookup x=some .free:=hk
        rw[k] at this;cases this
noncomputable def Pg (f:Int→Int→Int):Kh:=fun x y H Q=>∃i j,x= .int i∧y= .int j∧Q (.int (f i j)) H
theorem EL:LC X .Sub (Pg fun i j=>i - j):=by
 intro pins s σ H x y v u Q I r1 r2 h
 obtain⟨i,j,e1,e2,q⟩:=h
 subst e1;subst e2
 obtain⟨t,rfl⟩:=r1
 obtain⟨t',rfl⟩:=r2
 exact isub_int ⟨.int _,H,I.tok _,⟨_,rfl⟩,q⟩
end
section
variable {X:Cx}{pos:Pos}
end
structure It where
 go:Nat→Hp→Prop
 G0:Nat→Hp→V→Hp→Prop
 stop:Nat→Hp→Prop
noncomputable def jg (X:Cx) (pins:List (Addr×Obj)) (H:Hp) (b:Addr):Prop:=
 H b=none∧b≠X.env.locals∧b∉X.fs∧(b∈X.ex∨X.s₀.heap.objs.size≤b)∧(∀x c,X.env.cells.lookup x=some c→c≠b)∧∀p∈X.pn++pins,p.1≠b
theorem Inv.vU {X:Cx}{pins:List (Addr×Obj)}{σ:St}{H H':Hp}{s:Shared}{b:Addr}(I:Inv X pins σ H s) (hb:s.heap.objs.size≤b) (hn:H' b=none):jg X pins H' b:=by
 refine⟨hn,Nat.ne_of_gt (Nat.lt_of_lt_of_le I.lt hb),I.Ew hb,.inr (Nat.le_trans I.sz hb),fun x c e z=>?_,fun p hp z=>?_⟩
 ·obtain⟨v,q⟩:=I.cell x c e
  exact absurd (Nat.lt_of_lt_of_le q.lt (by rw[z];exact hb)) (Nat.lt_irrefl _)
 ·exact absurd (Nat.lt_of_lt_of_le (Heap.lt_size (I.pin p hp).1) (by rw[z];exact hb)) (Nat.lt_irrefl _)
structure Turn (P:Program) (w:World) (K:PySem.W.Frag) (tg:Expr) (J:It) (fp:List Addr) (it:Addr) (tn:Nat→Heap→Prop):Prop where
 mem:it∈fp
 obj:∀i h,tn i h→∀b∈fp,∃o,h.get? b=some o∧∀v,o.data≠.cell v
 keep:∀i h h',tn i h→(∀b∈fp,∀o,h.get? b=some o→h'.get? b=some o)→tn i h'
 item:∀(X:Cx),X.prog=P→X.w=w→X.K=K→X.calm=true→∀(i:Nat) (pins:List (Addr×Obj)) (s:Shared) (σ:St) (H:Hp) (E:Value→Shared→Prop),Inv X pins σ H s→(∀b∈fp,jg X pins H b)→tn i s.heap→J.go i H→
  wpAny (model P w) X.A (pyNext (.ref it)) (fun r s1=>∃u,r=some u∧
   wpAny (model P w) X.A (letOwnedTupleGo tg (.ref it) u) (fun _ s2=>∃x H',Inv X pins σ H' s2∧RelV x u∧J.G0 i H x H'∧tn (i+1) s2.heap∧∀b∈fp,H' b=none) E s1) E s
 done:∀(X:Cx),X.prog=P→X.w=w→X.K=K→X.calm=true→∀(i:Nat) (pins:List (Addr×Obj)) (s:Shared) (σ:St) (H:Hp) (E:Value→Shared→Prop),Inv X pins σ H s→(∀b∈fp,jg X pins H b)→tn i s.heap→J.stop i H→
  wpAny (model P w) X.A (pyNext (.ref it)) (fun r s1=>r=none∧Inv X pins σ H s1) E s
 self:∀(A:Around) (i:Nat) (s:Shared) (Q:Value→Shared→Prop) (E:Value→Shared→Prop),tn i s.heap→Q (.ref it) s→wpAny (model P w) A (pyIter (.ref it)) Q E s
noncomputable abbrev TI:=St→Hp→(It→Hp→Prop)→Prop
noncomputable def LG (X:Cx) (pins:List (Addr×Obj)) (σ:St) (tg:Expr) (R:It→Hp→Prop) (itv:Value) (s2:Shared):Prop:=
 ∃(it:Addr) (fp:List Addr) (tn:Nat→Heap→Prop) (J:It) (H':Hp),itv= .ref it∧Inv X pins σ H' s2∧Turn X.prog X.w X.K tg J fp it tn∧tn 0 s2.heap∧(∀b∈fp,jg X pins H' b)∧R J H'
noncomputable def PI (X:Cx) (tg iter:Expr) (wi:TI):Prop:=
 ∀(pins:List (Addr×Obj)) (s:Shared) (σ:St) (H:Hp) (R:It→Hp→Prop),Inv X pins σ H s→wi σ H R→
  wpAny (model X.prog X.w) X.A (eval iter X.env) (fun v s1=>wpAny (model X.prog X.w) X.A (pyIter v) (LG X pins σ tg R) X.xe s1) X.xe s
theorem Au {M : Model} {A : Around} {E : Value → Shared → Prop} {s : Shared} {tg : Expr} {it : Addr} {u : Value} {o : Obj} {n : String} {vs : Array Value} {Q : Unit → Shared → Prop} (ho : s.heap.get? it = some o) (hc : o.cls = .type n) (hd : o.data = .fields vs)
    (hn:["enumerate","zip","dict_itemiterator","dict_reverseitemiterator","odict_iterator","itertools.zip_longest","itertools.pairwise"].contains n=false) (hQ:Q () s):wpAny M A (letOwnedTupleGo tg (.ref it) u) Q E s:=by
  unfold letOwnedTupleGo
  cases tg <;> first
    | exact wpAny_pure hQ
    | (cases u <;> first
        | exact wpAny_pure hQ
        | (refine wpAny_bind (wpAny_load ho ?_)
           rw[hc,hd]
           show wpAny M A (if(["enumerate","zip","dict_itemiterator","dict_reverseitemiterator","odict_iterator","itertools.zip_longest","itertools.pairwise"].contains n && vs[0]? == some (rawInt _))=true then _ else _) Q E s
           rw[if_neg (by intro h;rw[hn,Bool.false_and] at h;cases h)]
           exact wpAny_pure hQ))
noncomputable def LH (K:PySem.W.Frag) (a:Addr):It:=
 ⟨fun i H=>∃xs x,iO K H a xs∧xs[i]? =some x,fun i H x H'=>H'=H∧∀xs,iO K H a xs→xs[i]? =some x,fun i H=>∃xs,iO K H a xs∧xs.length≤i⟩
noncomputable def LI (K:PySem.W.Frag) (a:Addr):It:=
 ⟨fun i H=>∃xs x,p9 K H a xs∧xs[i]? =some x,fun i H x H'=>H'=H∧∀xs,p9 K H a xs→xs[i]? =some x,fun i H=>∃xs,p9 K H a xs∧xs.length≤i⟩
noncomputable def Kl (lo:Int) (n:Nat):It:=⟨fun i _=>i < n,fun i H x H'=>H'=H∧x= .int (lo+i),fun i _=>n≤i⟩
theorem yI {P:Program}{w:World}{K:PySem.W.Frag}{tg:Expr}(a it:Addr):Turn P w K tg (LH K a) [it] it (fun i h=>h.IsListIter it a i) where
 mem:=by simp
 obj:=fun i h st b hb=>by
  have e:b=it:=by simpa using hb
  subst e
  obtain⟨o,e,c,d⟩:=st
  exact⟨o,e,fun v z=>by rw[d] at z;cases z⟩
 keep:=fun i h h' st k=>st.at fun o e=>k it (by simp) o e
 item:=by
  intro X hP hw hK hc i pins s σ H E I hf st hg
  subst hP hw hK
  obtain⟨xs,x,hq,hx⟩:=hg
  obtain⟨its,rv,p,hz⟩:=I.list hq
  obtain⟨u,hu,ru⟩:=rv.get hx
  obtain⟨f0,f1,f2,f3,f4,f5⟩:=hf it (by simp)
  refine wpAny_pyNext_list_item st p.isList (x:=u) (by simpa using hu) fun h' st' sb=>?_
  have I1:Inv X pins σ H {s with heap:=h'}:=I.turned (t':=s.toks) (fun b o hb e=>(sb.2 b hb).trans e) f0 f1 f3 f4 f5
  obtain⟨o,e,c,d⟩:=id st'
  exact⟨u,rfl,Au (s:={s with heap:=h'}) e c d (by decide) ⟨x,H,I1,ru,⟨rfl,fun ys hy=>by rw[I.tV hy hq];exact hx⟩,st',fun b hb=>(hf b hb).1⟩⟩
 done:=by
  intro X hP hw hK hc i pins s σ H E I hf st hg
  subst hP hw hK
  obtain⟨xs,hq,hx⟩:=hg
  obtain⟨its,rv,p,hz⟩:=I.list hq
  obtain⟨f0,f1,f2,f3,f4,f5⟩:=hf it (by simp)
  have hl:=rv.length
  exact wpAny_pyNext_list_end (I.ok.hd hc) st p.isList (by simp;omega) fun h' eb=>⟨rfl,I.turned (t':=s.toks) (fun b o hb e=>eb b o hb e) f0 f1 f3 f4 f5⟩
 self:=fun _ _ _ _ _ st h=>wpAny_pyIter_listiter st h
theorem vV {P:Program}{w:World}{K:PySem.W.Frag}{tg:Expr}(a it:Addr):Turn P w K tg (LI K a) [it] it (fun i h=>h.IsTupleIter it a i) where
 mem:=by simp
 obj:=fun i h st b hb=>by
  have e:b=it:=by simpa using hb
  subst e
  obtain⟨o,e,c,d⟩:=st
  exact⟨o,e,fun v z=>by rw[d] at z;cases z⟩
 keep:=fun i h h' st k=>st.at fun o e=>k it (by simp) o e
 item:=by
  intro X hP hw hK hc i pins s σ H E I hf st hg
  subst hP hw hK
  obtain⟨xs,x,hq,hx⟩:=hg
  obtain⟨its,rv,p,hz⟩:=I.tuple hq
  obtain⟨u,hu,ru⟩:=rv.get hx
  obtain⟨f0,f1,f2,f3,f4,f5⟩:=hf it (by simp)
  refine wpAny_pyNext_tuple_item st (show s.heap.IsTuple a its.toArray from p) (x:=u) (by simpa using hu) fun h' st' sb=>?_
  have I1:Inv X pins σ H {s with heap:=h'}:=I.turned (t':=s.toks) (fun b o hb e=>(sb.2 b hb).trans e) f0 f1 f3 f4 f5
  obtain⟨o,e,c,d⟩:=id st'
  exact⟨u,rfl,Au (s:={s with heap:=h'}) e c d (by decide) ⟨x,H,I1,ru,⟨rfl,fun ys hy=>by rw[I.qz hy hq];exact hx⟩,st',fun b hb=>(hf b hb).1⟩⟩
 done:=by
  intro X hP hw hK hc i pins s σ H E I hf st hg
  subst hP hw hK
  obtain⟨xs,hq,hx⟩:=hg
  obtain⟨its,rv,p,hz⟩:=I.tuple hq
  obtain⟨f0,f1,f2,f3,f4,f5⟩:=hf it (by simp)
  have hl:=rv.length
  exact wpAny_pyNext_tuple_end (I.ok.hd hc) st (show s.heap.IsTuple a its.toArray from p) (by simp;omega) fun h' eb=>⟨rfl,I.turned (t':=s.toks) (fun b o hb e=>eb b o hb e) f0 f1 f3 f4 f5⟩
 self:=fun _ _ _ _ _ st h=>wpAny_pyIter_tupleiter st h
theorem vW {P:Program}{w:World}{K:PySem.W.Frag}{tg:Expr}(it:Addr) (lo:Int) (n:Nat):Turn P w K tg (Kl lo n) [it] it (fun i h=>IsRangeIter h it (lo+(i:Nat) * 1) ((n:Int) - (i:Nat)) 1) where
  mem:=by simp
  obj := fun i h st b hb => by
    have e:b=it:=by simpa using hb
    subst e
    exact⟨_,st,fun v z=>by
      have z':Data.fields _=Data.cell v:=z
      cases z'⟩
  keep:=fun i h h' st k=>k it (by simp) _ st
  item:=by
    intro X hP hw hK hc i pins s σ H E I hf st hg
    subst hP hw hK
    obtain⟨f0,f1,f2,f3,f4,f5⟩:=hf it (by simp)
    have W:=Walks.range (prog:=X.prog) (w:=X.w) (I.ok.hd hc) it lo 1 n
    refine W.item i s _ _ hg st fun v h' tk hv st' kk=>?_
    obtain⟨t,rfl⟩:=hv
    have I1:Inv X pins σ H {s with heap:=h',toks:=tk}:=I.turned (fun b o hb e=>kk b o (by simpa using hb) e) f0 f1 f3 f4 f5
    refine⟨_,rfl,Au (s:={s with heap:=h',toks:=tk}) (n:="range_iterator") st' rfl rfl (by decide) ⟨.int (lo+i),H,I1,⟨t,?_⟩,⟨rfl,rfl⟩,st',fun b hb=>(hf b hb).1⟩⟩
    rw[Int.mul_one]
  done:=by
    intro X hP hw hK hc i pins s σ H E I hf st hg
    subst hP hw hK
    obtain⟨f0,f1,f2,f3,f4,f5⟩:=hf it (by simp)
    exact wpAny_pyNext_range_end (I.ok.hd hc) st (by have:n≤i:=hg;omega) fun h' eb=>⟨rfl,I.turned (t':=s.toks) (fun b o hb e=>eb b o hb e) f0 f1 f3 f4 f5⟩
  self:=fun _ _ _ _ _ st h=>wpAny_pyIter_rangeiter st h
end L2
namespace L2
open PySem PySem.Spec PyProof.Rows
section
variable {X:Cx}{tg:Expr}
noncomputable def Av (K:PySem.W.Frag) (tl:TE):TI:=fun σ H R=>tl σ H fun x H1=>∃a,x= .ref a∧(∃xs,iO K H1 a xs)∧R (LH K a) H1
noncomputable def LJ (K:PySem.W.Frag) (tl:TE):TI:=fun σ H R=>tl σ H fun x H1=>∃a,x= .ref a∧(∃xs,p9 K H1 a xs)∧R (LI K a) H1
theorem rM {l:Expr}{tl:TE}(hl:PE X l tl):PI X tg l (Av X.K tl):=by
 intro pins s σ H R I h
 refine cP (hl pins s σ H _ I h) fun v s1 ⟨x,H1,I1,r1,q1⟩=>?_
 obtain⟨a,e,⟨xs,hq⟩,q⟩:=q1
 subst e
 cases r1
 obtain⟨its,rv,p,hz⟩:=I1.list hq
 refine wpAny_pyIter_list p.isList ?_
 refine⟨s1.heap.objs.size,[s1.heap.objs.size],_,_,H1,rfl,I1.kept (t':=s1.toks) fun b o e=>Heap.get?_push_of_some _ e,yI a _,⟨_,Heap.get?_push_size _ rfl,rfl,rfl⟩,fun b hb=>?_,q⟩
 have e:b=s1.heap.objs.size:=by simpa using hb
 subst e
 exact I1.vU (Nat.le_refl _) (I1.hok.fresh (Nat.le_refl _))
theorem Aw {l:Expr}{tl:TE}(hl:PE X l tl):PI X tg l (LJ X.K tl):=by
 intro pins s σ H R I h
 refine cP (hl pins s σ H _ I h) fun v s1 ⟨x,H1,I1,r1,q1⟩=>?_
 obtain⟨a,e,⟨xs,hq⟩,q⟩:=q1
 subst e
 cases r1
 obtain⟨its,rv,p,hz⟩:=I1.tuple hq
 refine wpAny_pyIter_tuple (show s1.heap.IsTuple a its.toArray from p) ?_
 refine⟨s1.heap.objs.size,[s1.heap.objs.size],_,_,H1,rfl,I1.kept (t':=s1.toks) fun b o e=>Heap.get?_push_of_some _ e,vV a _,⟨_,Heap.get?_push_size _ rfl,rfl,rfl⟩,fun b hb=>?_,q⟩
 have e:b=s1.heap.objs.size:=by simpa using hb
 subst e
 exact I1.vU (Nat.le_refl _) (I1.hok.fresh (Nat.le_refl _))
theorem Ax {pins:List (Addr×Obj)}{σ:St}{H:Hp}{s:Shared}{R:It→Hp→Prop}{E:Value→Shared→Prop}{lo hi:Int}{t u v:Tok}{tk:Nat}(I:Inv X pins σ H s) (h1:-(2 ^ 62)≤lo) (h2:lo < 2 ^ 62) (h3:-(2 ^ 62)≤hi) (h4:hi < 2 ^ 62)
  (q:R (Kl lo (hi - lo).toNat) H):wpAny (model X.prog X.w) X.A (pyIter (.ref s.heap.objs.size)) (LG X pins σ tg R) E {s with heap:=s.heap.push {cls:=.type "range",data:=.fields #[.int lo t,.int hi u,.int 1 v]},toks:=tk}:=by
 refine wpAny_pyIter_range (IsRange.new ..) (small_one h1 h2 h3 h4) ?_
 have I1:Inv X pins σ H {s with heap:=s.heap.push {cls:=.type "range",data:=.fields #[.int lo t,.int hi u,.int 1 v]},toks:=tk}:=I.kept fun b o e=>Heap.get?_push_of_some _ e
 refine⟨(s.heap.push {cls:=.type "range",data:=.fields #[.int lo t,.int hi u,.int 1 v]}).objs.size,[(s.heap.push {cls:=.type "range",data:=.fields #[.int lo t,.int hi u,.int 1 v]}).objs.size],_,_,H,rfl,
  I1.kept (t':=tk) fun b o e=>Heap.get?_push_of_some _ e,vW _ lo (hi - lo).toNat,?_,fun b hb=>?_,q⟩
 ·have e1:lo+((0:Nat):Int) * 1=lo:=by simp
  have e2:(((hi - lo).toNat:Nat):Int) - ((0:Nat):Int)=Builtin.Range.rangeSize lo hi 1:=by rw[rangeSize_one];split <;> omega
  show IsRangeIter _ _ (lo+((0:Nat):Int) * 1) ((((hi - lo).toNat:Nat):Int) - ((0:Nat):Int)) 1
  rw[e1,e2]
  exact Heap.get?_push_size _ rfl
 ·have e:b=(s.heap.push {cls:=.type "range",data:=.fields #[.int lo t,.int hi u,.int 1 v]}).objs.size:=by simpa using hb
  subst e
  exact I1.vU (Nat.le_refl _) (I1.hok.fresh (Nat.le_refl _))
noncomputable def HR (ta:TA):TI:=fun σ H R=>ta σ H fun vs H1=>∃j:Int,vs=[.int j]∧-(2 ^ 62)≤j∧j < 2 ^ 62∧R (Kl 0 j.toNat) H1
theorem yJ {a:Expr}{ta:TA}{p pos:Pos}(hg:Gl X "range") (hm:X.mg "range" =none) (ha:PA X [a] ta) (hs:starEach [a] X.env=[(false,eval a X.env)]:=by rfl):PI X tg (.Call (.Name "range" p) [a] [] pos) (HR ta):=by
 intro pins s σ H R I h
 refine Call_ (nN I hg hm boot_range (PyProof.Rows.callWith_type1 (cP (ha pos pins s σ H _ I h) fun us s1 ⟨vs,H1,I1,r1,q1⟩=>?_) hs rfl))
 obtain⟨j,e,q1,q2,q⟩:=q1
 subst e
 cases r1 with
 | cons r rr=>
  cases rr
  obtain⟨t,rfl⟩:=r
  exact call_range_1 (Ax I1 (by omega) (by omega) q1 q2 (by simpa using q))
noncomputable def LK (wi:TI) (g:TG) (tb:TS):TS:=fun D σ H=>wi σ H fun J H1=>∃W:Nat→Nat→St→Hp→Prop,(∃m,W 0 m σ H1)∧∀i m σ H,W i m σ H→
 (J.stop i H∧D.nx σ H)∨(J.go i H∧∃N:St→Hp→Prop,(∀σ' H',N σ' H'→∃m',m' < m∧W (i+1) m' σ' H')∧∀x H',J.G0 i H x H'→g x σ H' fun σ2 H2=>tb {D with nx:=N,ct:=N,bk:=D.nx} σ2 H2)
noncomputable def g9 (fp:List Addr) (h:Heap):List (Addr×Obj):=fp.filterMap fun b=>(h.get? b).map fun o=>(b,o)
theorem bR {fp:List Addr}{h:Heap}{b:Addr}{o:Obj}(hb:b∈fp) (e:h.get? b=some o):(b,o)∈g9 fp h:=List.mem_filterMap.mpr ⟨b,hb,by rw[e];rfl⟩
theorem iE {fp:List Addr}{h:Heap}{p:Addr×Obj}(hp:p∈g9 fp h):p.1∈fp∧h.get? p.1=some p.2:=by
 obtain⟨b,hb,e⟩:=List.mem_filterMap.mp hp
 cases q:h.get? b with
 | none=>rw[q] at e;cases e
 | some o=>
  rw[q] at e
  have e':(b,o)=p:=Option.some.inj e
  subst e'
  exact⟨hb,q⟩
theorem Inv.pinned {pins:List (Addr×Obj)}{σ:St}{H:Hp}{s:Shared}{fp:List Addr}(I:Inv X pins σ H s) (hf:∀b∈fp,jg X pins H b) (ho:∀b∈fp,∃o,s.heap.get? b=some o∧∀v,o.data≠.cell v):Inv X (pins++g9 fp s.heap) σ H s:=
 I.xF fun p hp=>(List.mem_append.mp hp).elim (fun z=>I.pin p (List.mem_append_right _ z)) fun z=>by
  obtain⟨hb,e⟩:=iE z
  obtain⟨f0,f1,f2,_⟩:=hf p.1 hb
  obtain⟨o,e',d⟩:=ho p.1 hb
  rw[e] at e';cases e'
  exact⟨e,f0,f1,f2,d⟩
theorem Inv.gB {pins pl:List (Addr×Obj)}{σ:St}{H:Hp}{s:Shared}(I:Inv X (pins++pl) σ H s):Inv X pins σ H s:=I.xF fun p hp=>I.pin p (List.mem_append_right _ (List.mem_append_left _ hp))
theorem Ay {iter:Expr}{body:List Stmt}{wi:TI}{g:TG}{tb:TS}{pos:Pos}(hp:PassesOwn (model X.prog X.w) X.A X.env X.xe) (hc:X.calm=true) (hi:PI X tg iter wi) (hg:PG X tg g) (hb:vQ X body tb)
  (hs:∀x,foldedSetIterable iter X.env x=pure x:=by intro _;rfl):PS X (.For tg iter body [] pos) (LK wi g tb):=by
 intro pins s σ H D I h
 refine wpAny_For (cP (hi pins s σ H _ I h) fun v s1 h1=>cP h1 fun itv s2 h2=>?_) hs
 obtain⟨it,fp,tn,J,H2,e,I2,T,st2,f2,W,⟨m0,w0⟩,turn⟩:=h2
 subst e
 have EM:∀{H':Hp},(∀b∈fp,H' b=none)→∀b∈fp,jg X pins H' b:=fun hn b hb=>⟨hn b hb,(f2 b hb).2⟩
 refine codeAny_forLoop_any (fun n s'=>∃i σ' H',Inv X pins σ' H' s'∧tn i s'.heap∧(∀b∈fp,H' b=none)∧W i n σ' H') ?_ m0 ⟨0,σ,H2,I2,st2,fun b hb=>(f2 b hb).1,w0⟩
 rintro n s3 ⟨i,σ3,H3,I3,st3,Ph,w3⟩
 rcases turn i n σ3 H3 w3 with⟨stop,qn⟩ | ⟨go,N,hN,step⟩
 ·refine wpAny_passesOwn hp (cP (T.done X rfl rfl rfl hc i pins s3 σ3 H3 X.xe I3 (EM Ph) st3 stop) fun r s4 ⟨hr,I4⟩=>?_)
  subst hr
  exact wpAny_execs_nil ⟨σ3,H3,I4,qn⟩
 ·refine wpAny_passesOwn hp (cP (T.item X rfl rfl rfl hc i pins s3 σ3 H3 X.xe I3 (EM Ph) st3 go) fun r s4 ⟨u,hr,h4⟩=>?_)
  subst hr
  refine wpAny_passesOwn hp (cP h4 fun _ s5 ⟨x,H5,I5,r5,y5,LL,Qj⟩=>?_)
  have Qk:=I5.pinned (EM Qj) (T.obj _ _ LL)
  refine wpAny_passesOwn hp (cP (hg _ s5 σ3 H5 x u _ Qk r5 (step x H5 y5)) fun _ s6 ⟨Ql,H6,I6,q6⟩=>?_)
  refine wpAny_passesOwn hp (cP (hb _ s6 Ql H6 _ I6 q6) fun f s7 q7=>?_)
  have again:∀{Az:St}{H7:Hp},Inv X (pins++g9 fp s5.heap) Az H7 s7→N Az H7→∃m,m < n∧∃i σ' H',Inv X pins σ' H' s7∧tn i s7.heap∧(∀b∈fp,H' b=none)∧W i m σ' H':=fun {Az H7} I7 n7=>by
   obtain⟨m',hm,w7⟩:=hN Az H7 n7
   refine⟨m',hm,i+1,Az,H7,I7.gB,T.keep _ _ _ LL fun b hb o e=>(I7.pin (b,o) (List.mem_append_right _ (List.mem_append_right _ (bR hb e)))).1,fun b hb=>?_,w7⟩
   obtain⟨o,e,d⟩:=T.obj _ _ LL b hb
   exact(I7.pin (b,o) (List.mem_append_right _ (List.mem_append_right _ (bR hb e)))).2.1
  cases f with
  | next=>obtain⟨Az,H7,I7,n7⟩:=q7;exact again I7 n7
  | cont=>obtain⟨Az,H7,I7,n7⟩:=q7;exact again I7 n7
  | brk=>obtain⟨Az,H7,I7,q7⟩:=q7;exact⟨Az,H7,I7.gB,q7⟩
  | ret v=>obtain⟨x7,Az,H7,I7,r7,q7⟩:=q7;exact⟨x7,Az,H7,I7.gB,r7,q7⟩
end
end L2
namespace L2
open PySem PySem.Spec PyProof.Rows
noncomputable abbrev R2:=V→V→Hp→VK→Prop
noncomputable def mT (X:Cx) (f:Value→Value→Sem Value) (r:R2):Prop:=
 ∀(pins:List (Addr×Obj)) (s:Shared) (σ:St) (H:Hp) (x y:V) (v u:Value) (Q:VK),Inv X pins σ H s→RelV x v→RelV y u→r x y H Q→
  wpAny (model X.prog X.w) X.A (f v u) (EP X pins σ Q) X.xe s
noncomputable def bZ (X:Cx) (f:Value) (r:List V→Hp→VK→Prop):Prop:=
 ∀(pins:List (Addr×Obj)) (s:Shared) (σ:St) (H:Hp) (xs:List V) (us:List Value) (Q:VK),Inv X pins σ H s→Vals xs us→r xs H Q→
  wpAny (model X.prog X.w) X.A (call f us) (EP X pins σ Q) X.xe s
noncomputable def G1 (r:R2) (ta tb:TE):TE:=fun σ H Q=>ta σ H fun x H1=>tb σ H1 fun y H2=>r x y H2 Q
noncomputable def rI (C:Int→Int→Prop) (g:Int→Int→V):R2:=fun x y H Q=>∃i j,x= .int i∧y= .int j∧C i j∧Q (g i j) H
noncomputable def DU (g:Int→Int→V):R2:=fun x y H Q=>∃i j,x= .int i∧y= .int j∧Q (g i j) H
section
variable {X:Cx}{a b c:Expr}{ta tb tc:TE}{pos:Pos}
theorem EN (ha:PE X a ta) (hb:PE X b tb){pins:List (Addr×Obj)}{s:Shared}{σ:St}{H:Hp}{R:V→V→Hp→Prop}(I:Inv X pins σ H s)
  (h:ta σ H fun x H1=>tb σ H1 fun y H2=>R x y H2){Q:Value→Shared→Prop}{f:Value→Value→Sem Value}
  (hf:∀v u s2 x y H2,Inv X pins σ H2 s2→RelV x v→RelV y u→R x y H2→wpAny (model X.prog X.w) X.A (f v u) Q X.xe s2):
  wpAny (model X.prog X.w) X.A (eval a X.env) (fun v s₁=>wpAny (model X.prog X.w) X.A (eval b X.env) (fun u s₂=>wpAny (model X.prog X.w) X.A (f v u) Q X.xe s₂) X.xe s₁) X.xe s:=by
 refine cP (ha pins s σ H _ I h) fun v s1 ⟨x,H1,I1,r1,q1⟩=>?_
 refine cP (hb pins s1 σ H1 _ I1 q1) fun u s2 ⟨y,H2,I2,r2,q2⟩=>?_
 exact hf v u s2 x y H2 I2 r1 r2 q2
theorem HS {op:Operator}{r:R2}(ho:mT X (binaryOp op) r) (ha:PE X a ta) (hb:PE X b tb):PE X (.BinOp a op b pos) (G1 r ta tb):=by
 intro pins s σ H Q I h
 exact wpAny_BinOp (EN ha hb I h fun v u s2 x y H2 I2 rx ry q=>ho pins s2 σ H2 x y v u Q I2 rx ry q)
theorem Km {f:Value→Value→Sem Value}{C:Int→Int→Prop}{g:Int→Int→Int}
  (rule:∀(i j:Int) (t u:Tok) (s:Shared) (Q:Value→Shared→Prop) (E:Value→Shared→Prop),C i j→Q (.int (g i j) s.toks) {s with toks:=s.toks+1}→wpAny (model X.prog X.w) X.A (f (.int i t) (.int j u)) Q E s):
  mT X f (rI C fun i j=>.int (g i j)):=by
 intro pins s σ H x y v u Q I rx ry h
 obtain⟨i,j,rfl,rfl,hc,q⟩:=h
 obtain⟨t,rfl⟩:=rx
 obtain⟨t',rfl⟩:=ry
 exact rule i j t t' s _ _ hc ⟨.int (g i j),H,I.tok _,⟨_,rfl⟩,q⟩
theorem HU {f:Value→Value→Sem Value}{g:Int→Int→Int}
  (rule:∀(i j:Int) (t u:Tok) (s:Shared) (Q:Value→Shared→Prop) (E:Value→Shared→Prop),Q (.int (g i j) s.toks) {s with toks:=s.toks+1}→wpAny (model X.prog X.w) X.A (f (.int i t) (.int j u)) Q E s):
  mT X f (DU fun i j=>.int (g i j)):=by
 intro pins s σ H x y v u Q I rx ry h
 obtain⟨i,j,rfl,rfl,q⟩:=h
 obtain⟨t,rfl⟩:=rx
 obtain⟨t',rfl⟩:=ry
 exact rule i j t t' s _ _ ⟨.int (g i j),H,I.tok _,⟨_,rfl⟩,q⟩
theorem CM {f:Value→Value→Sem Value}{g:Int→Int→Bool}
  (rule:∀(i j:Int) (t u:Tok) (s:Shared) (Q:Value→Shared→Prop) (E:Value→Shared→Prop),Q (.bool (g i j)) s→wpAny (model X.prog X.w) X.A (f (.int i t) (.int j u)) Q E s):
  mT X f (DU fun i j=>.bl (g i j)):=by
 intro pins s σ H x y v u Q I rx ry h
 obtain⟨i,j,rfl,rfl,q⟩:=h
 obtain⟨t,rfl⟩:=rx
 obtain⟨t',rfl⟩:=ry
 exact rule i j t t' s _ _ ⟨.bl (g i j),H,I,rfl,q⟩
noncomputable def HV (i j:Int):Prop:=0 < j∧j < 1073741824
noncomputable def LM (i j:Int):Prop:=0≤j∧j≤1000000∧i.natAbs < 2 ^ 64
noncomputable def EO (i j:Int):Prop:=(-(2 ^ 64) < i∧i < 2 ^ 64)∨(-(2 ^ 64) < j∧j < 2 ^ 64)
theorem EO.ok {i j:Int}(h:EO i j):IntMulOk i j:=by
 rcases h with⟨h1,h2⟩ | ⟨h1,h2⟩
 ·exact .of_left (intBits_le_64 h1 h2)
 ·exact .of_right (intBits_le_64 h1 h2)
theorem ER:mT X (binaryOp .Add) (DU fun i j=>.int (i+j)):=HU fun _ _ _ _ _ _ _ q=>add_int q
theorem ES:mT X (binaryOp .Sub) (DU fun i j=>.int (i - j)):=HU fun _ _ _ _ _ _ _ q=>sub_int q
theorem ET:mT X (binaryOp .Mult) (rI EO fun i j=>.int (i * j)):=Km fun _ _ _ _ _ _ _ hc q=>mul_int q hc.ok
theorem CN:mT X (binaryOp .FloorDiv) (rI HV fun i j=>.int (i / j)):=Km fun i j _ _ _ _ _ hc q=>by
 have h1:(0:Int) < j:=hc.1
 have h2:j < 1073741824:=hc.2
 exact floordiv_int (by omega) (by rw[Int.fdiv_eq_ediv_of_nonneg i (by omega)];exact q) (.inl (PyProof.noPylong_small (by omega)))
theorem EU:mT X (binaryOp .Mod) (rI (fun _ j=>0 < j) fun i j=>.int (i % j)):=Km fun i j _ _ _ _ _ hc q=>by
 have h1:(0:Int) < j:=hc
 exact mod_int' (by omega) (by rw[Int.fmod_eq_emod_of_nonneg i (by omega)];exact q)
theorem EV:mT X (binaryOp .Pow) (rI LM fun i j=>.int (i ^ j.toNat)):=Km fun _ _ _ _ _ _ _ hc q=>pow_int_small hc.1 hc.2.1 hc.2.2 q
end
section
variable {X:Cx}{a b c:Expr}{ta tb tc:TE}{pos:Pos}
theorem AA {pins:List (Addr×Obj)}{σ:St}{H:Hp}{s:Shared}{Q:VK}{k k':Bool}(I:Inv X pins σ H s) (q:Q (.bl k) H) (e:k=k'):EP X pins σ Q (.bool k') s:=by
 subst e
 exact⟨.bl k,H,I,rfl,q⟩
theorem HW:mT X (compareOp .Lt) (DU fun i j=>.bl (decide (i < j))):=CM fun _ _ _ _ _ _ _ q=>lt_int q
theorem HX:mT X (compareOp .LtE) (DU fun i j=>.bl (decide (i≤j))):=CM fun _ _ _ _ _ _ _ q=>le_int q
theorem HY:mT X (compareOp .Gt) (DU fun i j=>.bl (decide (j < i))):=CM fun _ _ _ _ _ _ _ q=>gt_int q
theorem HZ:mT X (compareOp .GtE) (DU fun i j=>.bl (decide (j≤i))):=CM fun _ _ _ _ _ _ _ q=>ge_int q
theorem yK:mT X (compareOp .In) (fun x y H Q=>∃i j,x= .str i∧y= .str j∧Q (.bl (!(Builtin.Str.occurrences j i 0 j.length 1).isEmpty)) H):=by
 intro pins s σ H x y v u Q I rx ry h
 obtain⟨i,j,rfl,rfl,q⟩:=h
 obtain⟨t,rfl⟩:=rx
 obtain⟨t',rfl⟩:=ry
 exact in_str (AA I q rfl)
theorem EW:mT X (compareOp .Is) (fun x y H Q=>y= .bS∧Q (.bl (decide (x= .bS))) H):=by
 intro pins s σ H x y v u Q I rx ry h
 obtain⟨rfl,q⟩:=h
 cases ry
 refine is_none_gen (AA I q ?_)
 cases x <;> first
  | (cases rx;rfl)
  | (obtain⟨t,rfl⟩:=rx;rfl)
theorem mT.or {f:Value→Value→Sem Value}{r r':R2}(h:mT X f r) (h':mT X f r'):mT X f (fun x y H Q=>r x y H Q∨r' x y H Q):=by
 intro pins s σ H x y v u Q I rx ry q
 rcases q with q | q
 ·exact h pins s σ H x y v u Q I rx ry q
 ·exact h' pins s σ H x y v u Q I rx ry q
theorem AB (b:Expr){op:CmpOp}(h:op≠.In:=by decide) (h2:op≠.NotIn:=by decide):behindInMarks op b=false:=by
 have e1:(op == CmpOp.In)=false:=by cases op <;> first | rfl | exact absurd rfl h
 have e2:(op == CmpOp.NotIn)=false:=by cases op <;> first | rfl | exact absurd rfl h2
 cases b <;> simp[behindInMarks,e1,e2]
theorem CO {op:CmpOp}{r:R2}(ho:mT X (compareOp op) r) (ha:PE X a ta) (hb:PE X b tb) (hm:behindInMarks op b=false):PE X (.Compare a [op] [b] pos) (G1 r ta tb):=by
 intro pins s σ H Q I h
 exact wpAny_Compare1 (EN ha hb I h fun v u s2 x y H2 I2 rx ry q=>ho pins s2 σ H2 x y v u Q I2 rx ry q) hm
noncomputable def Ia (t:TE):TT:=fun σ H Q=>t σ H fun x H'=>∃k,x= .bl k∧Q k H'
theorem CP {op:CmpOp}{r:R2}(ho:mT X (compareOp op) r) (ha:PE X a ta) (hb:PE X b tb) (hm:behindInMarks op b=false):PT X (.Compare a [op] [b] pos) (Ia (G1 r ta tb)):=by
 intro pins s σ H Q I h
 refine wpAny_isTrue_Compare1 (cP (ha pins s σ H _ I h) fun v s1 ⟨x,H1,I1,r1,q1⟩=>cP (hb pins s1 σ H1 _ I1 q1) fun u s2 ⟨y,H2,I2,r2,q2⟩=>
  cP (ho pins s2 σ H2 x y v u _ I2 r1 r2 q2) fun c s3 ⟨z,H3,I3,r3,k,e,q3⟩=>?_) hm
 subst e
 cases r3
 exact wpAny_truthy_bool ⟨H3,I3,q3⟩
theorem lP:(sizeLine:Nat) < 2 ^ 63:=by rw[sizeLine_eq];decide
theorem vX:mT X (binaryOp .Add) (fun x y H Q=>∃i j,x= .str i∧y= .str j∧i.length+j.length≤sizeLine∧Q (.str (i++j)) H):=by
 intro pins s σ H x y v u Q I rx ry h
 obtain⟨i,j,rfl,rfl,hz,q⟩:=h
 obtain⟨t,rfl⟩:=rx
 obtain⟨t',rfl⟩:=ry
 exact add_str (fun t' tk=>⟨.str (i++j),H,I.tok _,⟨_,rfl⟩,q⟩) hz
theorem vals1 {x:V}{us:List Value}(r:Vals [x] us):∃u,us=[u]∧RelV x u:=by
 cases r with
 | cons r1 r2=>cases r2;exact⟨_,rfl,r1⟩
theorem vals2 {x y:V}{us:List Value}(r:Vals [x,y] us):∃u w',us=[u,w']∧RelV x u∧RelV y w':=by
 cases r with
 | cons r1 r2=>
  cases r2 with
  | cons r3 r4=>cases r4;exact⟨_,_,rfl,r1,r3⟩
theorem yL (hc:X.calm=true):bZ X (.builtin "max") (fun xs H Q=>∃i j,xs=[.int i,.int j]∧Q (.int (if j > i then j else i)) H):=by
 intro pins s σ H xs us Q I r h
 obtain⟨i,j,rfl,q⟩:=h
 obtain⟨u,w',rfl,⟨t,rfl⟩,⟨t',rfl⟩⟩:=vals2 r
 refine max_two_ints (I.ok.hd hc) fun h' tk k=>⟨_,H,I.kept k,?_,q⟩
 by_cases hj:j > i
 ·rw[if_pos hj,if_pos hj];exact⟨_,rfl⟩
 ·rw[if_neg hj,if_neg hj];exact⟨_,rfl⟩
end
end L2
namespace L2
open PySem PySem.Spec PyProof.Rows
section
variable {prog:Program}{w:World}{A:Around}{E:Value→Shared→Prop}{s:Shared}{K:PySem.W.Frag}{x dx C f:Addr}{mA:Str→Option Value}{name:Str}{v:Value}
end
theorem nq.some_of {v:V}{o:Option Value}(r:nq (some v) o):∃u,o=some u∧RelV v u:=by
 cases o with
 | none=>exact(show False from r).elim
 | some u=>exact⟨u,rfl,r⟩
section
variable {P:Program}{w:World}{H H':Hp}{h h':Heap}{a C dx:Addr}{fs fs':List (Str×V)}
end
structure LN (K:PySem.W.Frag) (C:Addr):Prop where
 pg:PySem.W.plainGet K C Str.empty=true
 hd:PySem.W.hasDictIn K C=true
 po:PySem.W.plainOver K C=true
 sa:PySem.W.findIn K (.ref C) "__setattr__" =some (some (.builtin "object.__setattr__"))
theorem LN.get {K:PySem.W.Frag}{C:Addr}(c:LN K C) (f:Str):PySem.W.plainGet K C f=true:=c.pg
section
variable {X:Cx}{pins:List (Addr×Obj)}{σ:St}{H:Hp}{s:Shared}{a C dx:Addr}{fs:List (Str×V)}{f:Str}{v:V}{A:Around}{E:Value→Shared→Prop}
end
section
variable {X:Cx}{o e value:Expr}{f:Str}{pos pos' tpos:Pos}{ta tv:TE}
end
section
variable {X:Cx}{pins:List (Addr×Obj)}{σ:St}{H:Hp}{s:Shared}{A:Around}{E:Value→Shared→Prop}{Q:Value→Shared→Prop}{c:Value}{b:Bool}
inductive nA (K:PySem.W.Frag) (H:Hp):V→Value→Prop where
 | bS:nA K H .bS (.type "NoneType")
 | bl (x:Bool):nA K H (.bl x) (.type "bool")
 | int (i:Int):nA K H (.int i) (.type "int")
 | str (x:Str):nA K H (.str x) (.type "str")
 | flt (x:UInt64):nA K H (.flt x) (.type "float")
 | lst {a:Addr}{xs:List V}(e:H a=some (.lst xs)):nA K H (.ref a) (.type "list")
 | gm {a:Addr}{o:Obj}{xs:List V}(e:H a=some (.gm o (.lst xs))):nA K H (.ref a) (.type "list")
 | tup {a:Addr}{xs:List V}(e:H a=some (.tup xs)):nA K H (.ref a) (.type "tuple")
 | dK {a:Addr}{kvs:List (Key×V)}(e:H a=some (.dK kvs)):nA K H (.ref a) (.type "dict")
 | dT {a:Addr}{kvs:List (List Key×V)}(e:H a=some (.dT kvs)):nA K H (.ref a) (.type "dict")
 | ins {a C dx:Addr}{fs:List (Str×V)}(e:H a=some (.ins C dx fs)) (cl:LN K C) (ha:PySem.W.findIn K (.ref C) "__class__" =some (some (.builtin "object.__class__")))
   (hn:PySem.W.specialIn K (.builtin "object.__class__") "__get__" =some (some (.builtin "getset_descriptor.__get__"))) (htk:PySem.W.takesIn K (.builtin "object.__class__")=some true)
   (hm:PySem.W.mroIn K C (.type "object")=some true):nA K H (.ref a) (.ref C)
end
end L2
namespace L2
open PySem PySem.Spec PyProof.Rows
structure fX (k:Nat) (A:Around):Prop where
 hd:A.handled=none
 dp:A.depth+3 * k+5 < recursionLimit
 un:A.units+16 * k+200 < cLine
 gd:A.guards=some []
theorem fX.mono {j k:Nat}{A:Around}(r:fX k A) (h:j≤k):fX j A:=⟨r.hd,by have:=r.dp;omega,by have:=r.un;omega,r.gd⟩
theorem fX.deeper {k:Nat}{A:Around}(r:fX (k+1) A) (env:Env):fX k (A.deeper env):=
 ⟨r.hd,by have:=r.dp;show A.depth+1+3 * k+5 < _;omega,by have:=r.un;show A.units+3+16 * k+200 < _;omega,r.gd⟩
theorem fX.in1 {k:Nat}{A:Around}(r:fX (k+1) A):fX k A.in1:=
 ⟨r.hd,by have:=r.dp;show A.depth+3 * k+5 < _;omega,by have:=r.un;show A.units+1+16 * k+200 < _;omega,r.gd⟩
theorem fX.depth {k:Nat}{A:Around}(r:fX k A):A.depth < recursionLimit:=by have:=r.dp;omega
theorem fX.units {k:Nat}{A:Around}(r:fX k A):A.units+64 < cLine:=by have:=r.un;omega
noncomputable def EX:TA:=fun _ H Q=>Q [] H
noncomputable def DV (ta:TE) (tr:TA):TA:=fun σ H Q=>ta σ H fun x H1=>tr σ H1 fun xs H2=>Q (x :: xs) H2
section
variable {X:Cx}{e:Expr}{es:List Expr}{te:TE}{t:TA}{pos:Pos}
theorem rN:PA X [] EX:=fun _ _ _ _ H Q I h=>Calls.spliced_nil ⟨[],H,I,.nil,h⟩
theorem jM (ha:PE X e te) (hr:PA X es t) (hs:starEach (e :: es) X.env=(false,eval e X.env) :: starEach es X.env:=by rfl):PA X (e :: es) (DV te t):=by
 intro pos pins s σ H Q I h
 rw[hs]
 show wpAny _ _ (spliced ((false,eval e X.env) :: backTo pos (starEach es X.env))) _ _ s
 refine Calls.spliced_cons (cP (ha pins s σ H _ I h) fun u s1 ⟨x,H1,I1,r1,q1⟩=>?_)
 exact cP (hr pos pins s1 σ H1 _ I1 q1) fun us s2 ⟨xs,H2,I2,r2,q2⟩=>⟨x :: xs,H2,I2,.cons r1 r2,q2⟩
noncomputable def LO (t:TA):TE:=fun σ H Q=>t σ H fun xs H1=>xs.length≤sizeLine∧∀p,H1 p=none→Q (.ref p) (upd H1 p (.tup xs))
noncomputable def LP (t:TA):TE:=fun σ H Q=>t σ H fun xs H1=>xs.length≤sizeLine∧∀p,H1 p=none→Q (.ref p) (upd H1 p (.lst xs))
theorem EY {x1}(h:PA X es t):PE X (.Tuple es x1 pos) (LO t):=by
 intro pins s σ H Q I hq
 refine wpAny_Tuple_spliced (cP (h pos pins s σ H _ I hq) fun us s1 ⟨xs,H1,I1,r,z,q⟩=>⟨by rw[←r.length];exact z,?_⟩)
 have hf:H1 s1.heap.objs.size=none:=I1.hok.fresh (Nat.le_refl _)
 refine⟨.ref s1.heap.objs.size,upd H1 s1.heap.objs.size (.tup xs),I1.laid (t':=s1.toks) (fun b u e=>Heap.get?_push_of_some _ e) (Nat.le_refl _) ?_,rfl,q _ hf⟩
 exact⟨z,us,r,⟨_,Heap.get?_push_size _ rfl,rfl,_,rfl⟩⟩
theorem EZ (h:PA X es t):PE X (.List es pos) (LP t):=by
 intro pins s σ H Q I hq
 refine wpAny_List_spliced (cP (h pos pins s σ H _ I hq) fun us s1 ⟨xs,H1,I1,r,z,q⟩=>⟨by rw[←r.length];exact z,?_⟩)
 have hf:H1 s1.heap.objs.size=none:=I1.hok.fresh (Nat.le_refl _)
 refine⟨.ref s1.heap.objs.size,upd H1 s1.heap.objs.size (.lst xs),I1.laid (t':=s1.toks) (fun b u e=>Heap.get?_push_of_some _ e) (Nat.le_refl _) ?_,rfl,q _ hf⟩
 exact⟨z,us,0,r,Heap.get?_push_size _ rfl⟩
end
noncomputable abbrev Sp:=List V→Hp→VK→XK→Prop
noncomputable abbrev yM:=List Env→Hp→Shared→XK→Value→Shared→Prop
structure vY (P:Program) (w:World) (K:PySem.W.Frag) (mg:Str→Option Value) (base:Heap) (A:Around) (outer:List Env) (s:Shared) (H:Hp):Prop where
 frames:A.frames=some outer
 mod:Mod K mg base
 bs:∀b o,base.get? b=some o→s.heap.get? b=some o∧H b=none
 Ak:base.objs.size≤s.heap.objs.size
 nu:s.heap.FunFrames base outer
 Eu:∀b∈frs outer,H b=none
 hok:jL P w H s.heap
 bare:AllBare s.gens
noncomputable def CE (outer:List Env) (P:Program) (w:World) (H:Hp) (s:Shared) (Q:VK) (u:Value) (s':Shared):Prop:=
 ∃v H',s'.os=s.os∧AllBare s'.gens∧Un (frs outer) [] H H' s.heap s'.heap∧jL P w H' s'.heap∧RelV v u∧Q v H'
noncomputable def CR (CX:yM) (outer:List Env) (P:Program) (w:World) (H:Hp) (s:Shared) (Q:VK) (E:XK) (r:Result) (s':Shared):Prop:=
 match r with
 | .ok (.ret u)=>CE outer P w H s Q u s'
 | .ok _=>False
 | .error e=>CX outer H s E e s'
structure bB (P:Program) (w:World) (K:PySem.W.Frag) (mg:Str→Option Value) (base:Heap) (CX:yM) (k:Nat) (f:Addr) (fd:FuncData) (ps:List Str) (sp:Sp):Prop where
 len:∀vs H Q E,sp vs H Q E→vs.length=ps.length
 run:∀(A:Around) (outer:List Env) (s:Shared) (H:Hp) (args:Args) (us:List Value) (vs:List V) (Q:VK) (E:XK),fX k A→vY P w K mg base A outer s H→BindsTo s fd args (ps.zip us)→Vals vs us→sp vs H Q E→
  codeAny (model P w) A (.call (.ref f) args) (CR CX outer P w H s Q E) s
theorem bB.mono {P:Program}{w:World}{K:PySem.W.Frag}{mg:Str→Option Value}{base:Heap}{CX:yM}{j k:Nat}{f:Addr}{fd:FuncData}{ps:List Str}{sp:Sp}(F:bB P w K mg base CX j f fd ps sp) (h:j≤k):
  bB P w K mg base CX k f fd ps sp:=⟨F.len,fun A outer s H args us vs Q E hr=>F.run A outer s H args us vs Q E (hr.mono h)⟩
theorem bB.imp {P:Program}{w:World}{K:PySem.W.Frag}{mg:Str→Option Value}{base:Heap}{CX:yM}{k:Nat}{f:Addr}{fd:FuncData}{ps:List Str}{sp Pj:Sp}(F:bB P w K mg base CX k f fd ps sp)
  (h:∀vs H Q E,Pj vs H Q E→sp vs H Q E):bB P w K mg base CX k f fd ps Pj:=
 ⟨fun vs H Q E q=>F.len vs H Q E (h _ _ _ _ q),fun A outer s H args us vs Q E hr he hb hv hs=>F.run A outer s H args us vs Q E hr he hb hv (h _ _ _ _ hs)⟩
theorem vY.in1 {P:Program}{w:World}{K:PySem.W.Frag}{mg:Str→Option Value}{base:Heap}{A:Around}{outer:List Env}{s:Shared}{H:Hp}(e:vY P w K mg base A outer s H):
  vY P w K mg base A.in1 outer s H:=⟨e.frames,e.mod,e.bs,e.Ak,e.nu,e.Eu,e.hok,e.bare⟩
section
variable {X:Cx}{pins:List (Addr×Obj)}{σ:St}{H:Hp}{s s':Shared}
theorem Inv.LQ (I:Inv X pins σ H s):vY X.prog X.w X.K X.mg X.base X.A X.stack s H:=
 ⟨I.ok.frames,I.ok.mod,I.bs,Nat.le_trans I.ok.Ak I.sz,I.stack,I.rK,I.hok,I.bare⟩
theorem Inv.after {Q:VK}{u:Value}(I:Inv X pins σ H s) (h:CE X.stack X.prog X.w H s Q u s'):EP X pins σ Q u s':=by
 obtain⟨v,H',os,bare,un,hok,r,q⟩:=h
 obtain⟨hh,g,d,t,os'⟩:=s'
 obtain rfl:os'=s.os:=os
 exact⟨v,H',I.call (h':=hh) (g':=g) (d':=d) (t':=t) (ch:=[]) un hok bare (fun b z=>absurd z (by simp)),r,q⟩
end
noncomputable def DW (sp:Sp) (Cy:List V) (E:XK) (t:TA):TE:=fun σ H Q=>t σ H fun vs H1=>sp (vs++Cy) H1 Q E
noncomputable def Binds (K:PySem.W.Frag) (fd:FuncData) (ps:List Str) (ds:List Value):Prop:=
 ∀(s:Shared) (us:List Value),K.In s.heap→(us++ds).length=ps.length→BindsTo s fd ⟨us,[]⟩ (ps.zip (us++ds))
theorem Binds.all {K:PySem.W.Frag}{fd:FuncData}{ps:List Str}(h:∀us:List Value,us.length=ps.length→bindArgs fd ⟨us,[]⟩=pure (ps.zip us)):Binds K fd ps []:=fun s us _ hl=>by
 rw[List.append_nil] at hl ⊢
 exact .of_eq (h us hl)
noncomputable def Passes (CX:yM) (X:Cx) (E:XK):Prop:=∀(pins:List (Addr×Obj)) (σ:St) (H:Hp) (s:Shared) (e:Value) (s':Shared),Inv X pins σ H s→CX X.stack H s E e s'→X.xe e s'
section
variable {X:Cx}{CX:yM}{k:Nat}{f C:Addr}{fd:FuncData}{ps:List Str}{sp:Sp}{Cy:List V}{ds:List Value}{E:XK}{x m:Str}{p pos apos:Pos}{e o:Expr}{es:List Expr}{ta:TE}{t:TA}
theorem AD {pins:List (Addr×Obj)}{σ:St}{H:Hp}{s:Shared}{Q:VK}{us:List Value}{vs:List V}(F:bB X.prog X.w X.K X.mg X.base CX k f fd ps sp) (hr:fX k X.A) (hb:Binds X.K fd ps ds) (hd:Vals Cy ds) (hx:Passes CX X E)
  (I:Inv X pins σ H s) (r:Vals vs us) (h:sp (vs++Cy) H Q E):wpAny (model X.prog X.w) X.A (call (.ref f) us) (EP X pins σ Q) X.xe s:=by
 have r2:Vals (vs++Cy) (us++ds):=r.append hd
 have hl:(us++ds).length=ps.length:=by rw[←r2.length];exact F.len _ _ _ _ h
 refine wpAny_call (codeAny_mono (F.run X.A X.stack s H ⟨us,[]⟩ (us++ds) (vs++Cy) Q E hr I.LQ (hb s us I.xE hl) r2 h) fun r s' hq=>?_)
 cases r with
 | error e=>exact hx pins σ H s e s' I hq
 | ok fl=>
  cases fl with
  | ret u=>exact I.after hq
  | next=>exact False.elim hq
  | brk=>exact False.elim hq
  | cont=>exact False.elim hq
theorem CQ (F:bB X.prog X.w X.K X.mg X.base CX k f fd ps sp) (hr:fX k X.A) (hg:Gl X x) (hm:X.mg x=some (.ref f)) (hk:PySem.W.keepIn X.K (.ref f)=true) (hb:Binds X.K fd ps ds) (hd:Vals Cy ds) (hx:Passes CX X E)
  (ha:PA X (e :: es) t) (hdb:(x == ("__debug__":Str))=false:=by decide) (he:starEach (e :: es) X.env=(false,eval e X.env) :: starEach es X.env:=by rfl) (hpl:(backTo pos (starEach es X.env)).any (·.1)=false:=by rfl):
  PE X (.Call (.Name x p) (e :: es) [] pos) (DW sp Cy E t):=by
 intro pins s σ H Q I h
 refine wpAny_Call_Name_kw (rL I hg hm ?_ hdb)
 refine PySem.W.callWith_K (h₀:=X.base) I.ok.mod.Lu hk (cP (ha pos pins s σ H _ I h) fun us s1 ⟨vs,H1,I1,r,q⟩=>⟨I1.xE,?_⟩) he hpl
 exact AD F hr hb hd hx I1 r q
theorem AE (F:bB X.prog X.w X.K X.mg X.base CX k f fd ps sp) (hr:fX k X.A) (hg:Gl X x) (hm:X.mg x=some (.ref f)) (hk:PySem.W.keepIn X.K (.ref f)=true) (hb:Binds X.K fd ps ds) (hd:Vals Cy ds) (hx:Passes CX X E)
  (hdb:(x == ("__debug__":Str))=false:=by decide):PE X (.Call (.Name x p) [] [] pos) (DW sp Cy E EX):=by
 intro pins s σ H Q I h
 refine wpAny_Call_Name_kw (rL I hg hm ?_ hdb)
 exact PySem.W.callWith_K0 I.xE hk (AD (us:=[]) F hr hb hd hx I .nil h)
end
section
variable {X:Cx}{CX:yM}{k:Nat}{f C:Addr}{fd:FuncData}{ps ks:List Str}{sp:Sp}{E:XK}{x m:Str}{p pos apos kpos:Pos}{e o:Expr}{es:List Expr}{kws:List Keyword}{te ta:TE}{t tk:TA}{nm:Option Str}
variable {g:List Value→List Value→List Value}{gV:List V→List V→List V}
end
structure bK (N P:List Str) (sc:Scope):Prop where
 kind:sc.kind= .function
 co:sc.isCoroutine=false
 gen:sc.isGenerator=false
 nd:N.Nodup
 pre:N.take P.length=P
 par:∀x∈P,sc.names.lookup x=some .local∨sc.names.lookup x=some .cell
 E1:∀y∈sc.names,y.2≠.free
theorem qA {kindOf:Str→Option NameKind}{x:Str}:∀{binds:List (Str×Value)}{m:Str→Option Value},(∀v,(x,v)∉binds)→bindL kindOf binds m x=m x
 | [],_,_=>rfl
 | (n,v) :: r,m,h=>by
  unfold bindL
  rw[qA fun w hw=>h w (List.mem_cons_of_mem _ hw)]
  split
  ·have:x≠n:=by rintro rfl;exact h v List.mem_cons_self
   simp[this]
  ·rfl
theorem qC {kindOf:Str→Option NameKind}{x:Str}:∀{binds:List (Str×Value)}{m:Str→Option Value},(∀v,(x,v)∉binds)→bindC kindOf binds m x=m x
 | [],_,_=>rfl
 | (n,v) :: r,m,h=>by
  unfold bindC
  rw[qC fun w hw=>h w (List.mem_cons_of_mem _ hw)]
  split
  ·rfl
  ·have:x≠n:=by rintro rfl;exact h v List.mem_cons_self
   simp[this]
theorem qD {kindOf:Str→Option NameKind}{x:Str}{v:Value}:∀{P:List Str}{vs:List Value}{i:Nat}{m:Str→Option Value},P.Nodup→P[i]? =some x→vs[i]? =some v→kindOf x=some .local→
  bindL kindOf (P.zip vs) m x=some v
 | [],_,_,_,_,h,_,_=>by simp at h
 | _ :: _,[],_,_,_,_,h,_=>by simp at h
 | p :: P,w :: vs,0,m,nd,h1,h2,hk=>by
  simp at h1 h2;subst h1;subst h2
  show bindL kindOf ((p,w) :: P.zip vs) m p=_
  unfold bindL
  rw[qA fun v hv=>(List.nodup_cons.mp nd).1 (List.of_mem_zip hv).1,if_pos hk]
  simp
 | p :: P,w :: vs,i+1,m,nd,h1,h2,hk=>by
  show bindL kindOf ((p,w) :: P.zip vs) m x=_
  unfold bindL
  exact qD (i:=i) (List.nodup_cons.mp nd).2 (by simpa using h1) (by simpa using h2) hk
theorem qE {kindOf:Str→Option NameKind}{x:Str}{v:Value}:∀{P:List Str}{vs:List Value}{i:Nat}{m:Str→Option Value},P.Nodup→P[i]? =some x→vs[i]? =some v→kindOf x≠some .local→
  bindC kindOf (P.zip vs) m x=some v
 | [],_,_,_,_,h,_,_=>by simp at h
 | _ :: _,[],_,_,_,_,h,_=>by simp at h
 | p :: P,w :: vs,0,m,nd,h1,h2,hk=>by
  simp at h1 h2;subst h1;subst h2
  show bindC kindOf ((p,w) :: P.zip vs) m p=_
  unfold bindC
  rw[qC fun v hv=>(List.nodup_cons.mp nd).1 (List.of_mem_zip hv).1,if_neg hk]
  simp
 | p :: P,w :: vs,i+1,m,nd,h1,h2,hk=>by
  show bindC kindOf ((p,w) :: P.zip vs) m x=_
  unfold bindC
  exact qE (i:=i) (List.nodup_cons.mp nd).2 (by simpa using h1) (by simpa using h2) hk
noncomputable def start (N:List Str) (vs:List V):St:=vs.map some++List.replicate (N.length - vs.length) none
noncomputable def vZ (CX:yM) (P:Program) (w:World) (K:PySem.W.Frag) (mg:Str→Option Value) (base:Heap) (N:List Str) (qual:Str) (scope:Scope) (f:Addr) (cd:Value) (A:Around) (outer:List Env) (s:Shared) (H:Hp) (E:XK):Cx where
 prog:=P
 w:=w
 K:=K
 mg:=mg
 base:=base
 A:=A.deeper (envOfC qual scope s.heap.objs.size f cd)
 N:=N
 s₀:=s
 H₀:=H
 env:=envOfC qual scope s.heap.objs.size f cd
 outer:=outer
 stack:=envOfC qual scope s.heap.objs.size f cd :: outer
 ex:=[]
 calm:=true
 fn:=fun _=>true
 pn:=[]
 xe:=fun e s'=>wpAny (model P w) (A.deeper (envOfC qual scope s.heap.objs.size f cd)) (leaving (envOfC qual scope s.heap.objs.size f cd) e) (fun _ s''=>CX outer H s E e s'') (fun e' s''=>CX outer H s E e' s'') s'
theorem tW {sc:Scope}{n:Nat}{x:Str}(h:sc.names.lookup x=some .cell):∃c,(cellsFrom n sc.names []).lookup x=some c:=by
 have q:=PySem.W.cellsFrom_some sc.names n [] (.inl h)
 exact Option.isSome_iff_exists.mp q
theorem yN {CX : yM} {P : Program} {w : World} {K : PySem.W.Frag} {mg : Str → Option Value} {base : Heap} {N ps : List Str} {qual : Str} {scope : Scope} {f : Addr} {cd : Value} {A : Around} {outer : List Env} {s s1 : Shared} {H : Hp} {E : XK} {us : List Value} {vs : List V}
    (S:bK N ps scope) (hd:A.handled=none) (e0:vY P w K mg base A outer s H) (hl:vs.length=ps.length) (r:Vals vs us)
    (x:InCallC s s.heap.objs.size (bindL (envOfC qual scope s.heap.objs.size f cd).kindOf (ps.zip us) fun _=>none) (cellsFrom (s.heap.objs.size+1) scope.names []) (bindC (envOfC qual scope s.heap.objs.size f cd).kindOf (ps.zip us) fun _=>none) s1):
    Inv (vZ CX P w K mg base N qual scope f cd A outer s H E) [] (start N vs) H s1:=by
  have hpl:ps.length≤N.length:=by have:=congrArg List.length S.pre;rw[List.length_take] at this;omega
  obtain⟨h1,tk,rfl,hk⟩:=x.done
  have Ib:∀b:Addr,b∉(vZ CX P w K mg base N qual scope f cd A outer s H E).ex:=fun b z=>absurd (show b∈([]:List Addr) from z) (by simp)
  refine⟨⟨e0.mod,S.kind,rfl,rfl,Nat.le_refl _,fun y z c h1 h2=>?_,fun y hy=>?_,fun y c _ h=>?_,fun _=>hd,Around.frames_deeper e0.frames,.inr ⟨rfl,rfl⟩,fun b z=>absurd z (Ib b),e0.bs,e0.Ak,fun b _ _=>Ib b,fun b z=>absurd z (Ib b),e0.nu,e0.Eu⟩,
    rfl,e0.bare,Un.kept hk,⟨_,x.toInCall.ns,fun i y v h1 h2 h3=>?_⟩,fun y c h=>⟨_,x.cell y c h⟩,e0.hok.fresh (Nat.le_refl _),fun y c h=>?_,fun p hp=>absurd (show p∈([]:List (Addr×Obj)) from hp) (by simp),e0.hok.kept hk,?_⟩
  · exact name_of_addr x.apart (PySem.mem_of_lookup h1) (PySem.mem_of_lookup h2)
  · have hy:scope.names.lookup y=some .cell∨scope.names.lookup y=some .free:=hy
    rcases hy with hy | hy
    · exact tW hy
    · exact absurd rfl (S.E1 _ (PySem.mem_of_lookup hy))
  · exact Nat.le_of_lt (x.above y c (PySem.mem_of_lookup h))
  · have hi:i < vs.length:=by
      unfold start at h2
      by_cases hi:i < vs.length
      · exact hi
      · rw[List.getElem?_append_right (by simpa using hi)] at h2
        rw[List.getElem?_replicate] at h2
        split at h2 <;> cases h2
    have ha:vs[i]? =some v:=by
      unfold start at h2
      rw[List.getElem?_append_left (by simpa using hi),List.getElem?_map] at h2
      cases e:vs[i]? with
      | none=>rw[e] at h2;cases h2
      | some a=>rw[e] at h2;cases h2;rfl
    obtain⟨u,hu,rv⟩:=r.get ha
    have hp:ps[i]? =some y:=by
      rw[←S.pre,List.getElem?_take_of_lt (by omega)];exact h1
    have Pk:ps.Nodup:=by rw[←S.pre];exact S.nd.sublist (List.take_sublist _ _)
    refine⟨u,rv,?_⟩
    rcases S.par y (List.mem_of_getElem? hp) with k | k
    · exact .inl ⟨k,qD Pk hp hu k⟩
    · obtain⟨c,e⟩:=tW (n:=s.heap.objs.size+1) k
      refine .inr ⟨.inl k,c,e,?_⟩
      have q:=x.cell y c e
      rw[qE Pk hp hu (by show scope.names.lookup y≠_;rw[k];decide)] at q
      exact q
  · exact e0.hok.fresh (Nat.le_of_lt (x.above y c (PySem.mem_of_lookup h)))
  · unfold start
    show _=N.length
    rw[List.length_append,List.length_map,List.length_replicate]
    omega
theorem Ic {CX:yM}{P:Program}{w:World}{K:PySem.W.Frag}{mg:Str→Option Value}{base:Heap}{k:Nat}{f:Addr}{name qual:Str}{params:Arguments}{body:List Stmt}{scope:Scope}{dV kV doc pm cdv ct oc:Value}{an od:Option Addr}
  {osl:Array (Option Value)}{N ps:List Str}{sp:Sp}(lk:K.lookup f=some ⟨oc,od,.func (PySem.W.fnOf name qual params body scope dV kV doc pm an cdv ct),osl⟩) (hcd:PySem.W.codeIn K cdv qual=true) (S:bK N ps scope)
  (len:∀vs H Q E,sp vs H Q E→vs.length=ps.length)
  (hbody:∀(A:Around) (outer:List Env) (s:Shared) (H:Hp) (vs:List V) (Q:VK) (E:XK),fX k (A.deeper (envOfC qual scope s.heap.objs.size f cdv))→sp vs H Q E→
   ∃t,vQ (vZ CX P w K mg base N qual scope f cdv A outer s H E) body t∧t {nx:=fun _ H'=>Q .bS H',rt:=Q} (start N vs) H):
  bB P w K mg base CX (k+1) f (PySem.W.fnOf name qual params body scope dV kV doc pm an cdv ct) ps sp:=by
 refine⟨len,fun A outer s H args us vs Q E hr e0 hb r DX=>?_⟩
 have hl:=len _ _ _ _ DX
 have KX:K.In s.heap:=e0.mod.Lu.keeps fun b o e=>(e0.bs b o e).1
 have lim:s.heap.NoLimit:=e0.mod.nolimit.keeps fun b o e=>(e0.bs b o e).1
 have hkind:∀y∈ps.zip us,scope.names.lookup y.1=some .local∨(scope.names.lookup y.1=some .cell∧((cellsFrom (s.heap.objs.size+1) scope.names []).lookup y.1).isSome=true):=fun⟨n,v⟩ hy=>by
  rcases S.par n (List.of_mem_zip hy).1 with q | q
  ·exact .inl q
  ·exact .inr ⟨q,PySem.W.cellsFrom_some _ _ _ (.inl q)⟩
 refine codeAny_call_function hr.depth (KX _ _ lk) rfl S.co S.gen rfl (PySem.W.codeRec_of KX hcd) (hb _ _ _ _ ?_)
 refine wpAny_newFunctionEnv_cells S.kind hkind fun env he s1 x=>?_
 subst he
 refine⟨lim.keeps x.toInCall.keep,codeAny_func ?_⟩
 obtain⟨t,ht,hq⟩:=hbody A outer s H vs Q E (hr.deeper _) DX
 have I:Inv (vZ CX P w K mg base N qual scope f cdv A outer s H E) [] (start N vs) H s1:=yN S hr.hd e0 hl r x
 refine wpAny_mono (ht [] s1 (start N vs) H _ I hq) (fun fl s' hs=>?_) fun e s' hs=>hs
 have fin:∀{σ':St}{H':Hp}{v:V}{u:Value},Inv (vZ CX P w K mg base N qual scope f cdv A outer s H E) [] σ' H' s'→RelV v u→Q v H'→CE outer P w H s Q u s':=
  fun {σ' H' v u} J rv q=>⟨v,H',J.os,J.bare,J.base,J.hok,rv,q⟩
 cases fl with
 | ret u=>
  obtain⟨v,σ',H',J,rv,q⟩:=hs
  exact fin J rv q
 | next=>
  obtain⟨σ',H',J,q⟩:=hs
  exact fin (v:=V.bS) (u:=Value.none) J rfl q
 | brk=>
  obtain⟨_,_,_,q⟩:=hs
  exact False.elim q
 | cont=>
  obtain⟨_,_,_,q⟩:=hs
  exact False.elim q
end L2
namespace L2
open PySem PySem.Spec PyProof.Rows
section
variable {X:Cx}{x:Str}{p pos:Pos}{e:Expr}{es:List Expr}{t:TA}{id T:String}{r:List V→Hp→VK→Prop}
noncomputable def Pn (r:List V→Hp→VK→Prop) (t:TA):TE:=fun σ H Q=>t σ H fun vs H1=>r vs H1 Q
theorem ji (hc:bZ X (.builtin id) r) (hg:Gl X x) (hm:X.mg x=none) (hv:bootBuiltins x=some (.builtin id)) (ha:PA X (e :: es) t) (hn:x≠"__name__":=by decide) (hdb:(x == ("__debug__":Str))=false:=by decide)
  (he:starEach (e :: es) X.env=(false,eval e X.env) :: starEach es X.env:=by rfl) (hpl:(backTo pos (starEach es X.env)).any (·.1)=false:=by rfl):PE X (.Call (.Name x p) (e :: es) [] pos) (Pn r t):=by
 intro pins s σ H Q I h
 refine wpAny_Call_Name_kw (nN I hg hm hv ?_ hn hdb)
 exact PyProof.Rows.callWith_builtin1 (cP (ha pos pins s σ H _ I h) fun us s1 ⟨vs,H1,I1,r1,q1⟩=>hc pins s1 σ H1 vs us Q I1 r1 q1) he hpl
theorem yO (hc:bZ X (.type T) r) (hg:Gl X x) (hm:X.mg x=none) (hv:bootBuiltins x=some (.type T)) (ha:PA X (e :: es) t) (hn:x≠"__name__":=by decide) (hdb:(x == ("__debug__":Str))=false:=by decide)
  (he:starEach (e :: es) X.env=(false,eval e X.env) :: starEach es X.env:=by rfl) (hpl:(backTo pos (starEach es X.env)).any (·.1)=false:=by rfl):PE X (.Call (.Name x p) (e :: es) [] pos) (Pn r t):=by
 intro pins s σ H Q I h
 refine wpAny_Call_Name_kw (nN I hg hm hv ?_ hn hdb)
 exact PyProof.Rows.callWith_type1 (cP (ha pos pins s σ H _ I h) fun us s1 ⟨vs,H1,I1,r1,q1⟩=>hc pins s1 σ H1 vs us Q I1 r1 q1) he hpl
end
end L2
namespace L2
open PySem PySem.Spec PyProof.Rows
section
variable {κ:Type} [DecidableEq κ]
noncomputable def lQ (kvs:List (κ×V)) (k:κ):Option V:=(kvs.find? fun kv=>decide (kv.1=k)).map (·.2)
noncomputable def putK (kvs:List (κ×V)) (k:κ) (v:V):List (κ×V):=
 if(kvs.any fun kv=>decide (kv.1=k))=true then kvs.map (fun kv=>if kv.1=k then(kv.1,v) else kv) else kvs++[(k,v)]
noncomputable def DY (kvs:List (κ×V)) (k:κ):List (κ×V):=kvs.filter fun kv=>decide (kv.1≠k)
theorem kO {p:κ×V}{r:List (κ×V)}{k:κ}(e:p.1=k):lQ (p :: r) k=some p.2:=by simp[lQ,List.find?_cons,e]
theorem kP {p:κ×V}{r:List (κ×V)}{k:κ}(e:¬p.1=k):lQ (p :: r) k=lQ r k:=by simp[lQ,List.find?_cons,e]
theorem tX (k:κ):∀kvs:List (κ×V),(kvs.any fun kv=>decide (kv.1=k))=(lQ kvs k).isSome
 | []=>rfl
 | p :: r=>by
  rw[List.any_cons]
  by_cases e:p.1=k
  ·simp only[kO e,decide_eq_true e,Bool.true_or,Option.isSome_some]
  ·rw[kP e,decide_eq_false e,Bool.false_or];exact tX k r
theorem jj (kvs:List (κ×V)) (k:κ) (v:V):(putK kvs k v).length≤kvs.length+1:=by
 unfold putK
 split
 ·rw[List.length_map];omega
 ·rw[List.length_append,List.length_cons,List.length_nil];omega
theorem nq.yP {o:Option V}{u:Option Value}(r:nq o u):o.isSome=u.isSome:=by
 cases o with
 | none=>cases u with
  | none=>rfl
  | some _=>exact(show False from r).elim
 | some _=>cases u with
  | none=>exact(show False from r).elim
  | some _=>rfl
theorem nq.getD {o:Option V}{u:Option Value}{d:V}{d':Value}(r:nq o u) (rd:RelV d d'):RelV (o.getD d) (u.getD d'):=by
 cases o with
 | none=>cases u with
  | none=>exact rd
  | some _=>exact(show False from r).elim
 | some _=>cases u with
  | none=>exact(show False from r).elim
  | some _=>exact r
theorem KV.val {kvs:List (κ×V)}{vs:List (κ×Value)}(r:KV kvs vs) (k:κ):nq (lQ kvs k) (valueAt vs k):=by
 unfold KV at r
 induction r with
 | nil=>exact True.intro
 | @cons p q ps qs h t ih=>
  obtain⟨h1,h2⟩:=h
  by_cases e:p.1=k
  ·have e':q.1=k:=h1.symm.trans e
   have b:valueAt (q :: qs) k=some q.2:=by simp[valueAt,List.find?_cons,e']
   rw[kO e,b];exact h2
  ·have e':¬q.1=k:=fun z=>e (h1.trans z)
   have b:valueAt (q :: qs) k=valueAt qs k:=by simp[valueAt,List.find?_cons,e']
   rw[kP e,b];exact ih
theorem KV.any {kvs:List (κ×V)}{vs:List (κ×Value)}(r:KV kvs vs) (k:κ):(kvs.any fun kv=>decide (kv.1=k))=vs.any fun kv=>decide (kv.1=k):=by
 unfold KV at r
 induction r with
 | nil=>rfl
 | cons h t ih=>rw[List.any_cons,List.any_cons,ih,h.1]
theorem KV.repl {kvs:List (κ×V)}{vs:List (κ×Value)}(r:KV kvs vs) (k:κ){y:V}{u:Value}(ry:RelV y u):
  KV (kvs.map fun kv=>if kv.1=k then(kv.1,y) else kv) (vs.map fun kv=>if kv.1=k then(kv.1,u) else kv):=by
 unfold KV at r ⊢
 induction r with
 | nil=>exact .nil
 | @cons p q ps qs h t ih=>
  rw[List.map_cons,List.map_cons]
  refine .cons ?_ ih
  obtain⟨h1,h2⟩:=h
  by_cases e:p.1=k
  ·rw[if_pos e,if_pos (h1.symm.trans e)];exact⟨h1,ry⟩
  ·rw[if_neg e,if_neg (fun z=>e (h1.trans z))];exact⟨h1,h2⟩
theorem KV.put {kvs:List (κ×V)}{vs:List (κ×Value)}(r:KV kvs vs) (k:κ){y:V}{u:Value}(ry:RelV y u):KV (putK kvs k y) (stored vs k u):=by
 unfold putK stored
 rw[r.any k]
 by_cases e:(vs.any fun kv=>decide (kv.1=k))=true
 ·rw[if_pos e,if_pos e];exact r.repl k ry
 ·rw[if_neg e,if_neg e];exact Paired.snoc r ⟨rfl,ry⟩
theorem KV.drop {kvs:List (κ×V)}{vs:List (κ×Value)}(r:KV kvs vs) (k:κ):KV (DY kvs k) (without vs k):=by
 unfold KV at r ⊢
 unfold DY without
 induction r with
 | nil=>exact .nil
 | @cons p q ps qs h t ih=>
  obtain⟨h1,h2⟩:=h
  rw[List.filter_cons,List.filter_cons]
  by_cases e:p.1=k
  ·have a:¬decide (p.1≠k)=true:=by simp[e]
   have b:¬decide (q.1≠k)=true:=by simp[h1.symm.trans e]
   rw[if_neg a,if_neg b];exact ih
  ·have e':¬q.1=k:=fun z=>e (h1.trans z)
   have a:decide (p.1≠k)=true:=by simp[e]
   have b:decide (q.1≠k)=true:=by simp[e']
   rw[if_pos a,if_pos b];exact .cons ⟨h1,h2⟩ ih
theorem KV.length {kvs:List (κ×V)}{vs:List (κ×Value)}(r:KV kvs vs):kvs.length=vs.length:=Paired.length r
end
theorem qF {P:Program}{w:World}{k:Key}{u:Value}(r:RelV (kV k) u):(bw P w).is k u=true:=by
 cases k with
 | inl i=>obtain⟨t,e⟩:=(show ∃t,u=Value.int i t from r);subst e;exact tT P w i t
 | inr x=>obtain⟨t,e⟩:=(show ∃t,u=Value.str x t from r);subst e;exact jh P w x t
theorem qG {P:Program}{w:World}:∀{ks:List Key}{us:List Value},Vals (ks.map kV) us→ItemsAre (bw P w) ks us
 | [],_,r=>by rw[List.map_nil] at r;cases r;exact .nil
 | k :: ks,_,r=>by
  rw[List.map_cons] at r
  cases r with
  | cons h t=>exact .cons (qF h) (qG t)
noncomputable abbrev KT (H:Hp):List (List Key×V)→List (List Key×Addr×Value)→Prop:=Paired fun p q=>p.1=q.1∧H q.2.1=some (.tup (p.1.map kV))∧RelV p.2 q.2.2
theorem KT.val {H:Hp}{kvs:List (List Key×V)}{xs:List (List Key×Addr×Value)}(r:KT H kvs xs) (k:List Key):nq (lQ kvs k) ((atKey xs k).map (·.2)):=by
 induction r with
 | nil=>exact True.intro
 | @cons p q ps qs h t ih=>
  obtain⟨h1,_,h2⟩:=h
  by_cases e:p.1=k
  ·have e':q.1=k:=h1.symm.trans e
   have b:atKey (q :: qs) k=some q.2:=by simp[atKey,List.find?_cons,e']
   rw[kO e,b];exact h2
  ·have e':¬q.1=k:=fun z=>e (h1.trans z)
   have b:atKey (q :: qs) k=atKey qs k:=by simp[atKey,List.find?_cons,e']
   rw[kP e,b];exact ih
theorem KT.repl {H:Hp}{kvs:List (List Key×V)}{xs:List (List Key×Addr×Value)}(r:KT H kvs xs) (k:List Key){y:V}{u:Value}(ry:RelV y u):
  KT H (kvs.map fun kv=>if kv.1=k then(kv.1,y) else kv) (xs.map (putAt k u)):=by
 induction r with
 | nil=>exact .nil
 | @cons p q ps qs h t ih=>
  rw[List.map_cons,List.map_cons]
  refine .cons ?_ ih
  obtain⟨h1,h2,h3⟩:=h
  unfold putAt
  by_cases e:p.1=k
  ·rw[if_pos e,if_pos (h1.symm.trans e)];exact⟨h1,h2,ry⟩
  ·rw[if_neg e,if_neg (fun z=>e (h1.trans z))];exact⟨h1,h2,h3⟩
theorem KT.put {H:Hp}{kvs:List (List Key×V)}{xs:List (List Key×Addr×Value)}(r:KT H kvs xs) (k:List Key){b:Addr}{y:V}{u:Value}(hb:H b=some (.tup (k.map kV))) (ry:RelV y u):
  KT H (putK kvs k y) (storedH xs k b u):=by
 have e:(kvs.any fun kv=>decide (kv.1=k))=(atKey xs k).isSome:=by
  rw[tX,(r.val k).yP,Option.isSome_map]
 unfold putK storedH
 rw[e]
 by_cases q:(atKey xs k).isSome=true
 ·rw[if_pos q,if_pos q];exact r.repl k ry
 ·rw[if_neg q,if_neg q];exact Paired.snoc r ⟨rfl,hb,ry⟩
theorem KT.keeps {H H':Hp}{kvs:List (List Key×V)}{xs:List (List Key×Addr×Value)}(r:KT H kvs xs) (ht:∀b ys,H b=some (.tup ys)→H' b=some (.tup ys)):KT H' kvs xs:=
 Paired.yD r fun _ _ z=>⟨z.1,ht _ _ z.2.1,z.2.2⟩
section
variable {P:Program}{w:World}{H:Hp}{h:Heap}{a:Addr}
theorem DZ {u:HO}(ok:jL P w H h) (e:Rd H a u):cO P w H h a u:=e.ok ok
theorem xH {kvs:List (Key×V)}(ok:jL P w H h) (e:Rd H a (.dK kvs)):kvs.length≤sizeLine∧(a == sysModules)=false∧∃vs,KV kvs vs∧h.DictOf (bw P w) a vs:=
 show cO P w H h a (.dK kvs) from DZ ok e
theorem D0 {kvs:List (Key×V)}(ok:jL P w H h) (e:H a=some (.dK kvs)):kvs.length≤sizeLine∧(a == sysModules)=false∧∃vs,KV kvs vs∧h.DictOf (bw P w) a vs:=xH ok (.inl e)
theorem v5 {ks:List Key}(ok:jL P w H h) (e:H a=some (.tup (ks.map kV))):(tupleKind (bw P w)).is h ks a:=by
 obtain⟨_,its,r,o,h1,h2,n,h3⟩:=(show cO P w H h a (.tup (ks.map kV)) from ok a _ e)
 exact⟨o,its.toArray,n,h1,h2,h3,by simpa using qG r⟩
theorem AF {kvs : List (List Key × V)} (ok : jL P w H h) (e : Rd H a (.dT kvs)) : kvs.length ≤ sizeLine ∧ (a == sysModules) = false ∧
    ∃xs,KT H kvs xs∧h.DictOfH (tupleKind (bw P w)) a xs:=by
  obtain⟨z,y,xs,r,o,es,ep,h1,h2,h3,h4,h5⟩:=(show cO P w H h a (.dT kvs) from DZ ok e)
  refine⟨z,y,xs,r,o,es,ep,h1,h2,h3,h4,fun x hx=>?_,h5⟩
  have all:∀{l:List (List Key×V)}{m:List (List Key×Addr×Value)},KT H l m→∀x∈m,(tupleKind (bw P w)).is h x.1 x.2.1:=by
    intro l m q
    induction q with
    | nil=>intro x hx;exact nomatch hx
    | @cons p q ps qs hq t ih=>
      intro x hx
      rcases List.mem_cons.mp hx with e | hx
      · subst e
        exact v5 ok (by rw[←hq.1];exact hq.2.1)
      · exact ih x hx
  exact all r x hx
theorem Ie {kvs:List (List Key×V)}(ok:jL P w H h) (e:H a=some (.dT kvs)):kvs.length≤sizeLine∧(a == sysModules)=false∧
  ∃xs,KT H kvs xs∧h.DictOfH (tupleKind (bw P w)) a xs:=AF ok (.inl e)
end
noncomputable def rO (H:Hp) (a:Addr) (y:V) (r:Option V):Prop:=
 (∃kvs k,Rd H a (.dK kvs)∧y=kV k∧r=lQ kvs k)∨∃kvs k b,Rd H a (.dT kvs)∧y= .ref b∧H b=some (.tup (k.map kV))∧r=lQ kvs k
noncomputable def tY (H:Hp) (a:Addr) (y v:V) (H':Hp):Prop:=
 (∃kvs k,H a=some (.dK kvs)∧y=kV k∧kvs.length < sizeLine∧H'=upd H a (.dK (putK kvs k v)))∨
 ∃kvs k b,H a=some (.dT kvs)∧y= .ref b∧H b=some (.tup (k.map kV))∧kvs.length < sizeLine∧H'=upd H a (.dT (putK kvs k v))
theorem rO.k {H:Hp}{a:Addr}{kvs:List (Key×V)}{k:Key}(e:H a=some (.dK kvs)):rO H a (kV k) (lQ kvs k):=.inl ⟨kvs,k,.inl e,rfl,rfl⟩
theorem rO.t {H:Hp}{a b:Addr}{kvs:List (List Key×V)}{k:List Key}(e:H a=some (.dT kvs)) (eb:H b=some (.tup (k.map kV))):rO H a (.ref b) (lQ kvs k):=.inr ⟨kvs,k,b,.inl e,rfl,eb,rfl⟩
theorem tY.k {H:Hp}{a:Addr}{kvs:List (Key×V)}{k:Key}{v:V}(e:H a=some (.dK kvs)) (hl:kvs.length < sizeLine):tY H a (kV k) v (upd H a (.dK (putK kvs k v))):=.inl ⟨kvs,k,e,rfl,hl,rfl⟩
theorem tY.t {H:Hp}{a b:Addr}{kvs:List (List Key×V)}{k:List Key}{v:V}(e:H a=some (.dT kvs)) (eb:H b=some (.tup (k.map kV))) (hl:kvs.length < sizeLine):
  tY H a (.ref b) v (upd H a (.dT (putK kvs k v))):=.inr ⟨kvs,k,b,e,rfl,eb,hl,rfl⟩
section
variable {X:Cx}{pins:List (Addr×Obj)}{σ:St}{H:Hp}{s:Shared}{a:Addr}{y v:V}{u r:Value}{o:Option V}{A:Around}{E:Value→Shared→Prop}
theorem Inv.big (I:Inv X pins σ H s):sysModules < s.heap.objs.size:=by
 have h:mainGlobals < s.heap.objs.size:=(I.mod.glob.keeps I.bk).lt
 exact Nat.lt_trans (by decide) h
theorem yQ {Q:Value→Shared→Prop}(hu:A.units+1 < cLine) (I:Inv X pins σ H s) (g:rO H a y (some v)) (ry:RelV y u) (h:∀w' s',Inv X pins σ H s'→RelV v w'→Q w' s'):
  wpAny (model X.prog X.w) A (getItem (.ref a) u) Q E s:=by
 rcases g with⟨kvs,k,e,ey,l⟩ | ⟨kvs,k,b,e,ey,eb,l⟩
 ·subst ey
  obtain⟨z,hd,vs,rel,dd⟩:=xH I.hok e
  obtain⟨w',hw,rw'⟩:=nq.some_of (v:=v) (o:=valueAt vs k) (by rw[l];exact rel.val k)
  exact wpAny_getItem_of (qF ry) dd.mapOf hw (h w' _ (I.tok _) rw')
 ·subst ey
  cases(show u=Value.ref b from ry)
  obtain⟨z,hd,xs,rel,dd⟩:=AF I.hok e
  obtain⟨w',hw,rw'⟩:=nq.some_of (v:=v) (o:=(atKey xs k).map (·.2)) (by rw[l];exact rel.val k)
  obtain⟨p,hp,hp2⟩:=Option.map_eq_some_iff.mp hw
  refine wpAny_getItem_heap (tupleKind_room_in1 hu) (v5 I.hok eb) dd hp ?_
  rw[hp2]
  exact h w' _ (I.tok _) rw'
theorem rQ {h':Heap}{t':Nat}{ob:HO}(I:Inv X pins σ H s) (mu:HB (H a)) (hs:Heap.SameBut a s.heap h') (he:∃q,h'.get? a=some q) (new:cO X.prog X.w (upd H a ob) h' a ob):
  Inv X pins σ (upd H a ob) {s with heap:=h',toks:=t'}:=
 I.write (x:=a) (e:=a) mu (.inl rfl) (fun b q hb z=>(hs.2 b hb).trans z) he new
theorem AG {P:Program}{w:World}{H':Hp}{h':Heap}{kvs:List (Key×V)}{vs:List (Key×Value)}(z:kvs.length≤sizeLine) (hd:(a == sysModules)=false) (rel:KV kvs vs) (dd:h'.DictOf (bw P w) a vs):
  cO P w H' h' a (.dK kvs):=⟨z,hd,vs,rel,dd⟩
theorem yR {H':Hp}{Q:Unit→Shared→Prop}(hu:A.units+1 < cLine) (I:Inv X pins σ H s) (g:tY H a y v H') (ry:RelV y u) (rv:RelV v r) (h:∀s',Inv X pins σ H' s'→Q () s'):
  wpAny (model X.prog X.w) A (setItem (.ref a) u r) Q E s:=by
 rcases g with⟨kvs,k,e,ey,l,eH⟩ | ⟨kvs,k,b,e,ey,eb,l,eH⟩
 ·subst ey eH
  obtain⟨z,hd,vs,rel,dd⟩:=D0 I.hok e
  have hz:vs.length≤sizeLine:=by rw[←rel.length];exact z
  have hl:(putK kvs k v).length≤sizeLine:=by have:=jj kvs k v;omega
  refine wpAny_setItem_pairs (hsz:=hz) (qF ry) dd fun h' E2 hs=>h _ ?_
  have he:∃q,h'.get? a=some q:=let⟨q,_,_,hq,_⟩:=E2;⟨q,hq⟩
  exact rQ I (by rw[e];exact True.intro) hs he (AG hl hd (rel.put k rv) E2)
 ·subst ey eH
  cases(show u=Value.ref b from ry)
  obtain⟨z,hd,xs,rel,dd⟩:=Ie I.hok e
  have hz:xs.length≤sizeLine:=by rw[←Paired.length rel];exact z
  have hl:(putK kvs k v).length≤sizeLine:=by have:=jj kvs k v;omega
  refine wpAny_setItem_heap (hsz:=hz) (tupleKind_room_in1 hu) (v5 I.hok eb) dd fun h' E2 hs=>h _ ?_
  obtain⟨q,es,ep,hq,h2,h3,h4,_,h5⟩:=E2
  refine rQ I (by rw[e];exact True.intro) hs ⟨q,hq⟩ ⟨hl,hd,_,(rel.put k eb rv).keeps fun c ys ec=>?_,q,es,ep,hq,h2,h3,h4,h5⟩
  rw[aA (HA ec e (fun z=>nomatch z))]
  exact ec
end
section
variable {X:Cx}{pins:List (Addr×Obj)}{σ:St}{H:Hp}{s:Shared}{a:Addr}{kvs:List (Key×V)}{k:Key}{u:Value}{A:Around}{E:Value→Shared→Prop}
theorem Ig {Q:Value→Shared→Prop}(I:Inv X pins σ H s) (e:Rd H a (.dK kvs)) (h:∀t s',Inv X pins σ H s'→Q (.int kvs.length t) s'):wpAny (model X.prog X.w) A (call (.builtin "len") [.ref a]) Q E s:=by
 obtain⟨z,hd,vs,rel,dd⟩:=xH I.hok e
 refine call_len_dict hd dd (by rw[←rel.length];rw[sizeLine_eq] at z;omega) ?_
 rw[←rel.length]
 exact h _ _ (I.tok _)
end
noncomputable def CS (i:Expr):Prop:=∀ov iv,subscripted i false ov iv=operate [ov,iv] (getItem ov iv)
theorem xJ {prog:Program}{w:World}{A:Around}{E:Value→Shared→Prop}{s:Shared}{env:Env}{value slice:Expr}{pos:Pos}{T id:String}{Q:Value→Shared→Prop}
  (hl:typeLookup (.type T) "__getitem__" =pure (some (.builtin id))) (hs:CS slice)
  (h:wpAny (model prog w) A (eval value env) (fun o s₁=>wpAny (model prog w) A (eval slice env) (fun i s₂=>s₂.TypeIs o T∧wpAny (model prog w) A (getItem o i) Q E s₂) E s₁) E s):
  wpAny (model prog w) A (eval (.Subscript value slice pos) env) Q E s:=by
 refine Subscript_ (wpAny_mono h (fun o s₁ h₁=>wpAny_mono h₁ (fun i s₂ h₂=>?_) fun _ _ x=>x) fun _ _ x=>x)
 obtain⟨hT,h₂⟩:=h₂
 unfold subscriptTail
 refine wpAny_bind ?_
 rw[getitemInPython_of_ne hT.not_modules]
 refine wpAny_bind (wpAny_specialOf hT hl ?_)
 have fin:wpAny (model prog w) A (subscripted slice false o i) (fun r s₃=>wpAny (model prog w) A (letTemporaryGo value o r >>= fun _=>pure r) Q E s₃) E s₂:=by
  rw[hs o i]
  exact wpAny_operating (wpAny_mono h₂ (fun r s₃ h₃=>wpAny_bind (wpAny_letTemporaryGo (wpAny_pure h₃))) fun _ _ x=>x)
 first
  | exact wpAny_pure (wpAny_bind fin)
  | exact wpAny_bind (wpAny_pure (wpAny_bind fin))
  | exact wpAny_bind fin
theorem tZ {X:Cx}{pins:List (Addr×Obj)}{σ:St}{H:Hp}{s:Shared}{a:Addr}{y:V}{o:Option V}(I:Inv X pins σ H s) (g:rO H a y o):s.TypeIs (.ref a) "dict":=by
 rcases g with⟨kvs,k,e,_,_⟩ | ⟨kvs,k,b,e,_,_,_⟩
 ·obtain⟨_,_,vs,_,dd⟩:=xH I.hok e
  exact dd.typeIs
 ·obtain⟨_,_,xs,_,dd⟩:=AF I.hok e
  exact dd.typeIs
noncomputable def Ih (td ty:TE):TE:=fun σ H Q=>td σ H fun x H1=>ty σ H1 fun y H2=>∃a v,x= .ref a∧rO H2 a y (some v)∧Q v H2
noncomputable def Ii (td ty tv:TE):TS:=fun D σ H=>tv σ H fun v H1=>td σ H1 fun x H2=>ty σ H2 fun y H3=>∃a H4,x= .ref a∧tY H3 a y v H4∧D.nx σ H4
section
variable {X:Cx}{o i e value:Expr}{pos pos' tpos:Pos}{td ty tv:TE}
theorem xK (hu:X.A.units+1 < cLine) (ho:PE X o td) (hi:PE X i ty) (hs:CS i):PE X (.Subscript o i pos) (Ih td ty):=by
 intro pins s σ H Q I h
 refine xJ PySem.F.slot_dict_getitem.lookup hs (cP (ho pins s σ H _ I h) fun u s1 ⟨x,H1,I1,rx,q1⟩=>cP (hi pins s1 σ H1 _ I1 q1) fun iv s2 ⟨y,H2,I2,ry,a,v,ex,g,q2⟩=>?_)
 subst ex
 obtain rfl:u=Value.ref a:=rx
 exact⟨tZ I2 g,yQ hu I2 g ry fun w' s3 I3 rw'=>⟨v,H2,I3,rw',q2⟩⟩
theorem xM (hu:X.A.units+1 < cLine) (ho:PE X o td) (hi:PE X i ty) (hv:PE X value tv) (hs:swapsWith value (some (.Subscript o i pos')) pos.line X.env=pure false):
  PS X (.Assign [.Subscript o i pos'] value pos) (Ii td ty tv):=by
 intro pins s σ H D I h
 refine wpAny_Assign_Subscript (cP (hv pins s σ H _ I h) fun r s1 ⟨v,H1,I1,rv,q1⟩=>cP (ho pins s1 σ H1 _ I1 q1) fun u s2 ⟨x,H2,I2,rx,q2⟩=>cP (hi pins s2 σ H2 _ I2 q2) fun iv s3 ⟨y,H3,I3,ry,a,H4,ex,g,q3⟩=>?_) hs
 subst ex
 obtain rfl:u=Value.ref a:=rx
 exact yR hu I3 g ry rv fun s4 I4=>⟨σ,H4,I4,q3⟩
end
theorem AH {P:Program}{w:World}{H:Hp}(h:Heap) (hb:sysModules < h.objs.size):cO P w H (h.push {cls:=.type "dict",data:=.dict #[]}) h.objs.size (.dK []):=
 ⟨Nat.zero_le _,beq_eq_false_iff_ne.mpr (Ne.symm (Nat.ne_of_lt hb)),[],.nil,Heap.DictOf.new h⟩
section
variable {X:Cx}{pos:Pos}
end
noncomputable def nQ:List (TE×TE)→St→Hp→(List (V×V)→Hp→Prop)→Prop
 | [],_,H,Q=>Q [] H
 | (tk,tv) :: r,σ,H,Q=>tk σ H fun x H1=>tv σ H1 fun y H2=>nQ r σ H2 fun ps H3=>Q ((x,y) :: ps) H3
noncomputable abbrev VV:List (V×V)→List (Value×Value)→Prop:=Paired fun p q=>RelV p.1 q.1∧RelV p.2 q.2
noncomputable def Ij (X:Cx) (pos:Pos) (keys:List (Option Expr)) (values:List Expr) (CT:List (TE×TE)):Prop:=
 ∀(pins:List (Addr×Obj)) (s:Shared) (σ:St) (H:Hp) (Q:List (V×V)→Hp→Prop),Inv X pins σ H s→nQ CT σ H Q→
  wpAny (model X.prog X.w) X.A (evalPairs (pairTrees keys values X.env pos)) (fun vs s'=>∃ps H',Inv X pins σ H' s'∧VV ps vs∧Q ps H') X.xe s
theorem CU {X:Cx}{pos:Pos}:Ij X pos [] [] []:=fun pins s σ H Q I h=>pairTrees_nil_walk ⟨[],H,I,.nil,h⟩
theorem AI {X:Cx}{pos:Pos}{k v:Expr}{ks:List (Option Expr)}{vs:List Expr}{tk tv:TE}{CT:List (TE×TE)}(hk:PE X k tk) (hv:PE X v tv) (hr:Ij X pos ks vs CT):
  Ij X pos (some k :: ks) (v :: vs) ((tk,tv) :: CT):=fun pins s σ H Q I h=>
 pairTrees_cons_walk (cP (hk pins s σ H _ I h) fun u s1 ⟨x,H1,I1,rx,q1⟩=>cP (hv pins s1 σ H1 _ I1 q1) fun w2 s2 ⟨y,H2,I2,ry,q2⟩=>
  cP (hr pins s2 σ H2 _ I2 q2) fun ws s3 ⟨ps,H3,I3,rel,q3⟩=>⟨(x,y) :: ps,H3,I3,.cons ⟨rx,ry⟩ rel,q3⟩)
noncomputable def jk (kvs more:List (Key×V)):List (Key×V):=more.foldl (fun acc kv=>putK acc kv.1 kv.2) kvs
theorem KV.merge:∀{more:List (Key×V)}{rs:List (Key×Value)}{kvs:List (Key×V)}{vs:List (Key×Value)},KV more rs→KV kvs vs→KV (jk kvs more) (merged vs rs):=by
 intro more rs kvs vs r
 unfold KV at r
 induction r generalizing kvs vs with
 | nil=>intro q;exact q
 | @cons p q ps qs h t ih=>
  intro r0
  have e:KV (putK kvs p.1 p.2) (stored vs q.1 q.2):=by
   have:=r0.put p.1 h.2
   rw[←h.1];exact this
  exact ih e
theorem jY:∀(more kvs:List (Key×V)),(jk kvs more).length≤kvs.length+more.length
 | [],kvs=>by show kvs.length≤kvs.length+0;omega
 | p :: r,kvs=>by
  have h1:=jY r (putK kvs p.1 p.2)
  have h2:=jj kvs p.1 p.2
  show(jk (putK kvs p.1 p.2) r).length≤_
  rw[List.length_cons];omega
theorem nR {P:Program}{w:World}:∀{kvs:List (Key×V)}{ws:List (Value×Value)},VV (kvs.map fun kv=>(kV kv.1,kv.2)) ws→∃rs,Carries (bw P w) ws rs∧KV kvs rs
  | [],_,r=>by rw[List.map_nil] at r;cases r;exact⟨[],True.intro,.nil⟩
  | p :: kvs, _, r => by
    rw[List.map_cons] at r
    cases r with
    | @cons a b as bs h t=>
      obtain⟨rs,c,q⟩:=nR (P:=P) (w:=w) t
      obtain⟨b1,b2⟩:=b
      exact⟨(p.1,b2) :: rs,⟨qF h.1,rfl,c⟩,.cons ⟨rfl,h.2⟩ q⟩
noncomputable def Ik (CT:List (TE×TE)):TE:=fun σ H Q=>∀p,H p=none→nQ CT σ (upd H p (.dK [])) fun ps H2=>H2 p=some (.dK [])∧∃kvs:List (Key×V),ps=kvs.map (fun kv=>(kV kv.1,kv.2))∧kvs.length≤15∧Q (.ref p) (upd H2 p (.dK (jk [] kvs)))
theorem CV {X:Cx}{pos:Pos}{keys:List (Option Expr)}{values:List Expr}{CT:List (TE×TE)}(h:Ij X pos keys values CT) (hall:keys.all (·.isSome)=true) (hl:keys.length=values.length) (h0:keys≠[])
  (LR:keys.length≤15):PE X (.Dict keys values pos) (Ik CT):=by
 intro pins s σ H Q I q
 have hn:=I.hok.fresh (Nat.le_refl s.heap.objs.size)
 have I1:=I.laid (a:=s.heap.objs.size) (o:=.dK []) (h':=s.heap.push {cls:=.type "dict",data:=.dict #[]}) (t':=s.toks) (fun _ _ q=>Heap.get?_push_of_some _ q) (Nat.le_refl _) (AH s.heap I.big)
 refine wpAny_Dict_walk (knd:=bw X.prog X.w) hall hl h0 LR (cP (h pins _ σ _ _ I1 (q _ hn)) fun ws s2 ⟨ps,H2,I2,rel,e,kvs,ep,lk,q2⟩=>?_)
 subst ep
 obtain⟨rs,c,rk⟩:=nR (P:=X.prog) (w:=X.w) rel
 obtain⟨z,hd,Kn,r0,dd⟩:=D0 I2.hok e
 cases r0
 refine⟨rs,c,dd,fun h' E2 hs=>⟨.ref s.heap.objs.size,_,?_,rfl,q2⟩⟩
 have hz:(jk [] kvs).length≤sizeLine:=by
  have h1:=jY kvs []
  rw[List.length_nil] at h1
  rw[sizeLine_eq];omega
 have he:∃q,h'.get? s.heap.objs.size=some q:=let⟨q,_,_,hq,_⟩:=E2;⟨q,hq⟩
 exact rQ I2 (by rw[e];exact True.intro) hs he (AG hz hd (rk.merge .nil) E2)
section
variable {X:Cx}{pins:List (Addr×Obj)}{σ:St}{H:Hp}{s:Shared}{a:Addr}{y d:V}{u r:Value}{o:Option V}{A:Around}{E:Value→Shared→Prop}
end
section
variable {X:Cx}{o e f:Expr}{apos cpos:Pos}{td ty tx:TE}
end
section
variable {X:Cx}{pins:List (Addr×Obj)}{σ:St}{H:Hp}{s:Shared}{a:Addr}{kvs:List (Key×V)}{A:Around}{E:Value→Shared→Prop}
end
section
variable {X:Cx}{pins:List (Addr×Obj)}{σ:St}{H:Hp}{s:Shared}{a:Addr}{y:V}{u:Value}{A:Around}{E:Value→Shared→Prop}
end
end L2
namespace HT
open PySem PyProof.Rows
section
open PySem.SeqAt
open PySem.AutoSeq1 (wpAny_loadPart')
open PySem.MeetsSeq PySem.MeetsSeq2 PySem.MeetsSeq3
end
section
variable {prog:Program}{w:World}{A:Around}{E:Value→Shared→Prop}{s:Shared}
theorem CW {t b:Addr}{vs ws:List Value}{Q:Value→Shared→Prop}(ht:IsTup s.heap t vs.toArray) (hb:IsTup s.heap b ws.toArray) (hv:vs≠[])
  (h1:ws=[]→Q (.ref t) s) (h2:ws≠[]→Q (.ref s.heap.objs.size) {s with heap:=s.heap.push {cls:=.type "tuple",data:=.seq (vs++ws).toArray}})
  (hsz:vs.length+ws.length≤sizeLine):wpAny (model prog w) A (binaryOp .Add (.ref t) (.ref b)) Q E s:=by
 obtain⟨⟨cls,dd,data,sl⟩,ho,hc,n,hd⟩:=id ht
 obtain⟨⟨LS,dd2,data2,sl2⟩,ho2,hc2,n2,hd2⟩:=id hb
 simp only at hc hd hc2 hd2
 subst hc hd hc2 hd2
 have e:vs.toArray++ws.toArray=(vs++ws).toArray:=by simp
 by_cases hw:ws=[]
 ·exact concat_meets ⟨_,ho,rfl⟩ ⟨_,ho2,rfl⟩ noFill_tuple_add seq_tuple_add PySem.F.slot_tuple_add PySem.F.entry_tuple_add (PySem.F.args_tuple_add_2 _ _)
   (tuple_addW1 t b vs.toArray ws.toArray n n2 dd dd2 sl sl2 (by simpa using hv) (by simp[hw])) ⟨ho,ho2,h1 hw⟩
 ·refine concat_meets ⟨_,ho,rfl⟩ ⟨_,ho2,rfl⟩ noFill_tuple_add seq_tuple_add PySem.F.slot_tuple_add PySem.F.entry_tuple_add (PySem.F.args_tuple_add_2 _ _)
   (tuple_addW2 t b vs.toArray ws.toArray n n2 dd dd2 sl sl2 (by simpa using hv) (by simpa using hw) (by rw[List.size_toArray,List.size_toArray];exact hsz)) ⟨ho,ho2,?_⟩
  rw[e]
  exact h2 hw
noncomputable def qb (n d:Nat):Option Int→Nat
 | none=>d
 | some v=>if v < 0 then(v+(n:Int)).toNat else min v.toNat n
end
end HT
namespace L2
open PySem PySem.Spec PyProof.Rows
noncomputable abbrev TO:=St→Hp→(Option Int→Hp→Prop)→Prop
noncomputable def PO (X:Cx) (e:Option Expr) (t:TO):Prop:=
 ∀(pins:List (Addr×Obj)) (s:Shared) (σ:St) (H:Hp) (Q:Option Int→Hp→Prop),Inv X pins σ H s→t σ H Q→
  wpAny (model X.prog X.w) X.A (evalPart e X.env) (fun u s'=>∃o H',Inv X pins σ H' s'∧IsPart u o∧Q o H') X.xe s
noncomputable def CY:TO:=fun _ H Q=>Q none H
noncomputable def Il (t:TE):TO:=fun σ H Q=>t σ H fun x H1=>∃i,x= .int i∧Q (some i) H1
section
variable {X:Cx}{e:Expr}{te:TE}{lo hi:Option Expr}{tl th:TO}{pos p2:Pos}
theorem CZ:PO X none CY:=by
 intro pins s σ H Q I h
 rw[evalPart_none]
 exact wpAny_pure ⟨none,H,I,.none,h⟩
theorem C0 (h:PE X e te):PO X (some e) (Il te):=by
 intro pins s σ H Q I hw
 rw[evalPart_some]
 refine cP (h pins s σ H _ I hw) fun u s1 ⟨x,H1,I1,r1,q1⟩=>?_
 obtain⟨i,rfl,q⟩:=q1
 obtain⟨t,rfl⟩:=r1
 exact⟨some i,H1,I1,.int i t,q⟩
noncomputable def G2 (X:Cx) (r:V→Option Int→Option Int→Hp→VK→Prop):Prop:=
 ∀(pins:List (Addr×Obj)) (s:Shared) (σ:St) (H:Hp) (x:V) (v vl vu:Value) (lo hi:Option Int) (sl:Addr) (Q:VK),Inv X pins σ H s→RelV x v→s.heap.IsSliceOf sl vl vu .none→IsPart vl lo→IsPart vu hi→r x lo hi H Q→
  ∃T id,typeLookup (.type T) "__getitem__" =pure (some (.builtin id))∧s.TypeIs v T∧wpAny (model X.prog X.w) X.A (getItem v (.ref sl)) (EP X pins σ Q) X.xe s
theorem G2.or {r r':V→Option Int→Option Int→Hp→VK→Prop}(h:G2 X r) (h':G2 X r'):G2 X (fun x lo hi H Q=>r x lo hi H Q∨r' x lo hi H Q):=by
 intro pins s σ H x v vl vu lo hi sl Q I rx hs pl pu q
 rcases q with q | q
 ·exact h pins s σ H x v vl vu lo hi sl Q I rx hs pl pu q
 ·exact h' pins s σ H x v vl vu lo hi sl Q I rx hs pl pu q
noncomputable def Qm (r:V→Option Int→Option Int→Hp→VK→Prop) (te:TE) (tl th:TO):TE:=fun σ H Q=>te σ H fun x H1=>tl σ H1 fun l H2=>th σ H2 fun u H3=>r x l u H3 Q
theorem AJ {r:V→Option Int→Option Int→Hp→VK→Prop}(hr:G2 X r) (he:PE X e te) (hl:PO X lo tl) (hu:PO X hi th):PE X (.Subscript e (.Slice lo hi none p2) pos) (Qm r te tl th):=by
 intro pins s σ H Q I h
 refine Subscript_ (cP (he pins s σ H _ I h) fun v s1 ⟨x,H1,I1,r1,q1⟩=>?_)
 refine wpAny_Slice (cP (hl pins s1 σ H1 _ I1 q1) fun vl s2 ⟨l,H2,I2,pl,q2⟩=>cP (hu pins s2 σ H2 _ I2 q2) fun vu s3 ⟨u,H3,I3,pu,q3⟩=>?_)
 rw[evalPart_none]
 refine wpAny_pure ?_
 have I4:Inv X pins σ H3 {s3 with heap:=s3.heap.push {cls:=.type "slice",data:=.fields #[vl,vu,.none]}}:=I3.kept (t':=s3.toks) fun b ob q=>Heap.get?_push_of_some _ q
 obtain⟨T,id,hT,ht,hg⟩:=hr pins {s3 with heap:=s3.heap.push {cls:=.type "slice",data:=.fields #[vl,vu,.none]}} σ H3 x v vl vu l u s3.heap.objs.size Q I4 r1 (Heap.IsSliceOf.new ..) pl pu q3
 show wpAny (model X.prog X.w) X.A (subscriptTail e (.Slice lo hi none p2) v (.ref s3.heap.objs.size)) (EP X pins σ Q) X.xe {s3 with heap:=s3.heap.push {cls:=.type "slice",data:=.fields #[vl,vu,.none]}}
 exact tail_any (ops:=[.ref s3.heap.objs.size,v]) ht hT hg (by with_unfolding_all rfl)
noncomputable def yS (xs:List V) (lo hi:Option Int):List V:=(xs.drop (HT.qb xs.length 0 lo)).take (HT.qb xs.length xs.length hi - HT.qb xs.length 0 lo)
theorem uc (xs:List V) (lo hi:Option Int):(yS xs lo hi).length≤xs.length:=by
 unfold yS
 rw[List.length_take,List.length_drop]
 omega
noncomputable def Im (K:PySem.W.Frag):R2:=fun x y H Q=>∃a b xs ys,x= .ref a∧y= .ref b∧p9 K H a xs∧p9 K H b ys∧xs≠[]∧xs.length+ys.length≤sizeLine∧
 (ys=[]→Q (.ref a) H)∧(ys≠[]→∀p,H p=none→Q (.ref p) (upd H p (.tup (xs++ys))))
theorem Vals.rR {xs:List V}{us:List Value}(r:Vals xs us):us=[]↔xs=[]:=by
 cases r with
 | nil=>simp
 | cons _ _=>simp
theorem C1:mT X (binaryOp .Add) (Im X.K):=by
 intro pins s σ H x y v u Q I rx ry h
 obtain⟨a,b,xs,ys,rfl,rfl,ha,hb,hx,hz,q1,q2⟩:=h
 cases rx
 cases ry
 obtain⟨its,r1,p1,_⟩:=I.tuple ha
 obtain⟨its2,r2,p2,_⟩:=I.tuple hb
 refine HT.CW p1 p2 (fun z=>hx (r1.rR.mp z)) (fun z=>⟨.ref a,H,I,rfl,q1 (r2.rR.mp z)⟩) (fun z=>?_) (by rw[←r1.length,←r2.length];exact hz)
 refine⟨.ref s.heap.objs.size,_,I.laid (t':=s.toks) (o:=.tup (xs++ys)) (fun b ob q=>Heap.get?_push_of_some _ q) (Nat.le_refl _) ?_,rfl,q2 (fun w=>z (r2.rR.mpr w)) _ (I.hok.fresh (Nat.le_refl _))⟩
 exact⟨by rw[List.length_append];exact hz,_,r1.append r2,IsTup.new _ _⟩
end
end L2
namespace L2
open PySem PySem.Spec PyProof.Rows
noncomputable def Cz (n:Nat) (i:Int):Option Nat:=if 0≤i then(if i < n then some i.toNat else none) else if -(n:Int)≤i then some (i+n).toNat else none
noncomputable def gC {α:Type}(xs:List α) (i:Int):Option α:=(Cz xs.length i).bind fun j=>xs[j]?
theorem xN {n:Nat}{i:Int}{j:Nat}(h:Cz n i=some j):seqIndex? i n=some j∧j < n∧-(n:Int)≤i∧i < n:=by
 unfold Cz at h
 by_cases h0:0≤i
 ·rw[if_pos h0] at h
  by_cases h1:i < n
  ·rw[if_pos h1] at h
   have e:i.toNat=j:=Option.some.inj h
   exact⟨by rw[seqIndex_of h0 h1,e],by omega,by omega,h1⟩
  ·rw[if_neg h1] at h;cases h
 ·rw[if_neg h0] at h
  by_cases h1:-(n:Int)≤i
  ·rw[if_pos h1] at h
   have e:(i+n).toNat=j:=Option.some.inj h
   exact⟨by rw[seqIndex_neg (by omega) h1,e],by omega,h1,by omega⟩
  ·rw[if_neg h1] at h;cases h
theorem rS {α:Type}{xs:List α}{i:Int}{v:α}(h:gC xs i=some v):∃j,seqIndex? i xs.length=some j∧xs[j]? =some v∧j < xs.length∧-(xs.length:Int)≤i∧i < xs.length:=by
 unfold gC at h
 cases e:Cz xs.length i with
 | none=>rw[e] at h;cases h
 | some j=>
  rw[e] at h
  obtain⟨h1,h2,h3,h4⟩:=xN e
  exact⟨j,h1,h,h2,h3,h4⟩
noncomputable def rT (b:Expr):Prop:=∀o i,subscripted b false o i=operate [o,i] (getItem o i)
noncomputable def AK (X:Cx) (r:R2):Prop:=
 ∀(value slice:Expr) (pins:List (Addr×Obj)) (s:Shared) (σ:St) (H:Hp) (x y:V) (v u:Value) (Q:VK),Inv X pins σ H s→RelV x v→RelV y u→r x y H Q→
  subscripted slice false v u=operate [v,u] (getItem v u)→wpAny (model X.prog X.w) X.A (subscriptTail value slice v u) (EP X pins σ Q) X.xe s
noncomputable def G3 (X:Cx) (id:String) (r:V→List V→Hp→VK→Prop):Prop:=
 ∀(pins:List (Addr×Obj)) (s:Shared) (σ:St) (H:Hp) (x:V) (xs:List V) (v:Value) (us:List Value) (Q:VK),Inv X pins σ H s→RelV x v→Vals xs us→r x xs H Q→
  wpAny (model X.prog X.w) X.A (call (.builtin id) (v :: us)) (EP X pins σ Q) X.xe s
section
variable {X:Cx}{a b:Expr}{ta tb:TE}{pos:Pos}
theorem AK.or {r r':R2}(h:AK X r) (h':AK X r'):AK X (fun x y H Q=>r x y H Q∨r' x y H Q):=by
 intro value slice pins s σ H x y v u Q I rx ry q hs
 rcases q with q | q
 ·exact h value slice pins s σ H x y v u Q I rx ry q hs
 ·exact h' value slice pins s σ H x y v u Q I rx ry q hs
theorem G3.or {id:String}{r r':V→List V→Hp→VK→Prop}(h:G3 X id r) (h':G3 X id r'):G3 X id (fun x xs H Q=>r x xs H Q∨r' x xs H Q):=by
 intro pins s σ H x xs v us Q I rx rs q
 rcases q with q | q
 ·exact h pins s σ H x xs v us Q I rx rs q
 ·exact h' pins s σ H x xs v us Q I rx rs q
theorem AL {r:R2}(hr:AK X r) (ha:PE X a ta) (hb:PE X b tb) (hs:rT b):PE X (.Subscript a b pos) (G1 r ta tb):=by
 intro pins s σ H Q I h
 exact Subscript_ (EN ha hb I h fun v u s2 x y H2 I2 rx ry q=>hr a b pins s2 σ H2 x y v u Q I2 rx ry q (hs _ _))
noncomputable def Io (K:PySem.W.Frag):R2:=fun x y H Q=>∃p xs i v,x= .ref p∧y= .int i∧iO K H p xs∧gC xs i=some v∧Q v H
noncomputable def Ip (K:PySem.W.Frag):R2:=fun x y H Q=>∃p xs i v,x= .ref p∧y= .int i∧p9 K H p xs∧gC xs i=some v∧Q v H
noncomputable def Iq:R2:=fun x y H Q=>∃z i c,x= .str z∧y= .int i∧z.length≤sizeLine∧gC z.cps.toList i=some c∧Q (.str ⟨#[c]⟩) H
theorem xO:AK X (Io X.K):=by
 intro value slice pins s σ H x y v u Q I rx ry h hs
 obtain⟨p,xs,i,z,rfl,rfl,hq,he,q⟩:=h
 cases rx
 obtain⟨t,rfl⟩:=ry
 obtain⟨its,r,pl,hz⟩:=I.list hq
 obtain⟨j,h1,h2,h3,h4,h5⟩:=rS he
 obtain⟨w,ew,rw'⟩:=r.get h2
 have hl:=r.length
 have hn:=lP
 have fin:EP X pins σ Q w s:=⟨z,H,I,rw',q⟩
 by_cases h0:0≤i
 ·have hj:i.toNat=j:=by
   rw[seqIndex_of h0 h5] at h1
   exact Option.some.inj h1
  exact item_listR pl.isList h0 (by omega) (by rw[hj];simpa using ew) fin hs
 ·have hj:(i+(its.toArray.size:Int)).toNat=j:=by
   rw[seqIndex_neg (by omega) h4] at h1
   rw[List.size_toArray,←hl]
   exact Option.some.inj h1
  exact subscriptTail_builtinR (x:=w) pl.isList.typeIs slot_list_getitem.lookup
   (wpAny_getItem_list_neg (Q:=fun r s'=>r=w∧EP X pins σ Q r s') pl.isList (by omega) (by rw[List.size_toArray] <;> omega) (by omega) (by rw[hj];simpa using ew) ⟨rfl,fin⟩) hs
theorem AM:AK X (Ip X.K):=by
 intro value slice pins s σ H x y v u Q I rx ry h hs
 obtain⟨p,xs,i,z,rfl,rfl,hq,he,q⟩:=h
 cases rx
 obtain⟨t,rfl⟩:=ry
 obtain⟨its,r,pl,hz⟩:=I.tuple hq
 obtain⟨j,h1,h2,h3,h4,h5⟩:=rS he
 obtain⟨w,ew,rw'⟩:=r.get h2
 have hl:=r.length
 have hn:=lP
 have fin:EP X pins σ Q w s:=⟨z,H,I,rw',q⟩
 exact subscriptTail_builtinR (x:=w) pl.typeIs slot_tuple_getitem.lookup
  (getItem_tuple (j:=j) (Q:=fun r s'=>r=w∧EP X pins σ Q r s') pl (by omega) (by omega) (by rw[List.size_toArray,←hl];exact h1) (by simpa using ew) ⟨rfl,fin⟩) hs
theorem AN:AK X Iq:=by
 intro value slice pins s σ H x y v u Q I rx ry h hs
 obtain⟨z,i,c,rfl,rfl,hz,he,q⟩:=h
 obtain⟨t,rfl⟩:=rx
 obtain⟨t',rfl⟩:=ry
 obtain⟨j,h1,h2,h3,h4,h5⟩:=rS he
 have hl:z.cps.toList.length=z.length:=by simp[Str.length]
 rw[hl] at h1 h4 h5
 have hn:=lP
 exact tail_any (typeIs_str s z t) slot_str_getitem.lookup (getItem_str (c:=c) (by
  have e1:decide (i < -(2 ^ 63:Int))=false:=decide_eq_false (by omega)
  have e2:decide (i≥2 ^ 63)=false:=decide_eq_false (by omega)
  rw[e1,e2,Bool.or_false]) (by rw[h1];simpa using h2) ⟨.str ⟨#[c]⟩,H,I.tok _,⟨_,rfl⟩,q⟩) hs
noncomputable def Qn (K:PySem.W.Frag):R2:=fun x y H Q=>Io K x y H Q∨Ip K x y H Q∨Iq x y H Q
theorem AO:AK X (Qn X.K):=xO.or (AM.or AN)
theorem v7 (its:List Value) (n j:Nat) (u:Value):Obj.mapSeq (·.setIfInBounds j u) {cls:=.type "list",data:=.seq its.toArray n}={cls:=.type "list",data:=.seq (its.set j u).toArray n}:=by
 simp[Obj.mapSeq]
theorem Inv.lst {pins:List (Addr×Obj)}{σ:St}{H:Hp}{s:Shared}{p:Addr}{xs:List V}(I:Inv X pins σ H s) (h:H p=some (.lst xs)):
  ∃(its:List Value) (n:Nat),Vals xs its∧s.heap.get? p=some {cls:=.type "list",data:=.seq its.toArray n}∧xs.length≤sizeLine:=by
 obtain⟨z,its,n,r,e⟩:=I.hok p _ h
 exact⟨its,n,r,e,z⟩
theorem Inv.E3 {pins:List (Addr×Obj)}{σ:St}{H:Hp}{s:Shared}{p:Addr}{xs ys:List V}{its its':List Value}{n n':Nat}{f:Obj→Obj}(I:Inv X pins σ H s) (h:H p=some (.lst xs))
  (ho:s.heap.get? p=some {cls:=.type "list",data:=.seq its.toArray n}) (hf:f {cls:=.type "list",data:=.seq its.toArray n}={cls:=.type "list",data:=.seq its'.toArray n'}) (r:Vals ys its') (hz:ys.length≤sizeLine) (t:Nat):
  Inv X pins σ (upd H p (.lst ys)) {s with heap:=s.heap.update p f,toks:=t}:=by
 have e:(s.heap.update p f).get? p=some {cls:=.type "list",data:=.seq its'.toArray n'}:=by
  rw[Heap.get?_update_self f ho (by rw[hf] <;> rfl),hf]
 refine I.write (x:=p) (e:=p) (by rw[h];trivial) (.inl rfl) (fun b u hb q=>(Heap.get?_update_other _ _ (Ne.symm hb)).trans q) ⟨_,e⟩ ?_
 exact⟨hz,its',n',r,e⟩
noncomputable def Ir:V→V→V→Hp→(Hp→Prop)→Prop:=fun o i v H Q=>∃p xs k j,o= .ref p∧i= .int k∧H p=some (.lst xs)∧Cz xs.length k=some j∧Q (upd H p (.lst (xs.set j v)))
theorem set_list:HN X Ir:=by
 intro pins s σ H o i v ov iv u Q I ro ri rv h
 obtain⟨p,xs,k,j,rfl,rfl,hp,hj,q⟩:=h
 cases ro
 obtain⟨t,rfl⟩:=ri
 obtain⟨its,n,r,ho,hz⟩:=I.lst hp
 obtain⟨h1,h2,h3,h4⟩:=xN hj
 have hl:=r.length
 have hn:=lP
 have I':Inv X pins σ (upd H p (.lst (xs.set j v))) {s with heap:=s.heap.update p (Obj.mapSeq (·.setIfInBounds j u))}:=
  I.E3 hp ho (v7 its n j u) (r.set rv j) (by rw[List.length_set];exact hz) s.toks
 by_cases h0:0≤k
 ·have hk:k.toNat=j:=by
   rw[seqIndex_of h0 h4] at h1
   exact Option.some.inj h1
  exact PySem.W.ki_setAt ho h0 (by omega) (by rw[List.size_toArray,←hl];exact h4) (by rw[hk];exact⟨_,I',q⟩)
 ·have hk:(k+(its.toArray.size:Int)).toNat=j:=by
   rw[seqIndex_neg (by omega) h3] at h1
   rw[List.size_toArray,←hl]
   exact Option.some.inj h1
  exact PySem.W.ki_setBack ho (by omega) (by rw[List.size_toArray,←hl];exact h3) (by omega) (by rw[hk];exact⟨_,I',q⟩)
theorem rU (lo hi:Option Int) (n:Nat):(sliceBounds lo hi none n).1=((HT.qb n 0 lo:Nat):Int)∧(sliceBounds lo hi none n).2.1=((HT.qb n n hi:Nat):Int)∧(sliceBounds lo hi none n).2.2=1:=by
 refine⟨?_,?_,rfl⟩
 ·cases lo with
  | none=>simp[sliceBounds,HT.qb]
  | some i=>
   simp only[sliceBounds,HT.qb,Option.getD_none,show(1:Int) > 0 by decide,if_true]
   by_cases h:i < 0
   ·simp only[h,if_true] <;> omega
   ·simp only[h,if_false] <;> omega
 ·cases hi with
  | none=>simp[sliceBounds,HT.qb]
  | some i=>
   simp only[sliceBounds,HT.qb,Option.getD_none,show(1:Int) > 0 by decide,if_true]
   by_cases h:i < 0
   ·simp only[h,if_true] <;> omega
   ·simp only[h,if_false] <;> omega
theorem qc (its:List Value) (lo hi:Option Int):slicePick its.toArray lo hi none=((its.drop (HT.qb its.length 0 lo)).take (HT.qb its.length its.length hi - HT.qb its.length 0 lo)).toArray:=by
 obtain⟨h1,h2,h3⟩:=rU lo hi its.toArray.size
 unfold slicePick
 rw[h1,h2,h3]
 simp only[sliceRange_one,pick_run,List.size_toArray] <;> rfl
noncomputable def LU (K:PySem.W.Frag):V→Option Int→Option Int→Hp→VK→Prop:=fun x lo hi H Q=>∃a xs,x= .ref a∧iO K H a xs∧∀p,H p=none→Q (.ref p) (upd H p (.lst (yS xs lo hi)))
theorem C2:G2 X (LU X.K):=by
 intro pins s σ H x v vl vu lo hi sl Q I rx hs pl pu h
 obtain⟨a,xs,rfl,hx,q⟩:=h
 cases rx
 obtain⟨its,r,ht,hz⟩:=I.list hx
 have hlen:=r.length
 refine⟨"list",_,slot_list_getitem.lookup,ht.isList.typeIs,?_⟩
 refine wpAny_getItem_list_slice ht.isList hs pl pu .none (by simp) ?_ (by rw[List.size_toArray] <;> omega)
 rw[qc,←hlen]
 refine⟨.ref s.heap.objs.size,_,I.laid (t':=s.toks) (o:=.lst (yS xs lo hi)) (fun b ob q=>Heap.get?_push_of_some _ q) (Nat.le_refl _) ?_,rfl,q _ (I.hok.fresh (Nat.le_refl _))⟩
 exact⟨Nat.le_trans (uc xs lo hi) hz,_,0,(r.drop (HT.qb xs.length 0 lo)).take (HT.qb xs.length xs.length hi - HT.qb xs.length 0 lo),Heap.get?_push_size _ rfl⟩
theorem iP:bZ X (.builtin "len") (fun xs H Q=>∃p ys,xs=[.ref p]∧(iO X.K H p ys∨p9 X.K H p ys)∧Q (.int ys.length) H):=by
 intro pins s σ H xs us Q I r h
 obtain⟨p,ys,rfl,hq,q⟩:=h
 obtain⟨u,rfl,rx⟩:=vals1 r
 cases rx
 have hn:=lP
 rcases hq with hq | hq
 ·obtain⟨its,r',pl,hz⟩:=I.list hq
  have hlen:=r'.length
  exact Calls.call_len_list pl.isList (by simp only[List.size_toArray] <;> omega) ⟨.int ys.length,H,I.tok _,⟨s.toks+1,by rw[List.size_toArray,hlen]⟩,q⟩
 ·obtain⟨its,r',pl,hz⟩:=I.tuple hq
  have hlen:=r'.length
  exact len_tuple pl (by simp only[List.size_toArray] <;> omega) ⟨.int ys.length,H,I.tok _,⟨s.toks+1,by rw[List.size_toArray,hlen]⟩,q⟩
theorem kQ:bZ X (.builtin "len") (fun xs H Q=>∃z,xs=[.str z]∧z.length≤sizeLine∧Q (.int z.length) H):=by
 intro pins s σ H xs us Q I r h
 obtain⟨z,rfl,hz,q⟩:=h
 obtain⟨u,rfl,t,rfl⟩:=vals1 r
 have hn:=lP
 exact len_str (by omega) ⟨.int z.length,H,I.tok _,⟨_,rfl⟩,q⟩
theorem bZ.or {f:Value}{r r':List V→Hp→VK→Prop}(h:bZ X f r) (h':bZ X f r'):bZ X f (fun xs H Q=>r xs H Q∨r' xs H Q):=by
 intro pins s σ H xs us Q I rs q
 rcases q with q | q
 ·exact h pins s σ H xs us Q I rs q
 ·exact h' pins s σ H xs us Q I rs q
theorem kR:bZ X (.type "list") (fun xs H Q=>∃p ys,xs=[.ref p]∧(iO X.K H p ys∨p9 X.K H p ys)∧∀l,H l=none→Q (.ref l) (upd H l (.lst ys))):=by
 intro pins s σ H xs us Q I r h
 obtain⟨p,ys,rfl,hq,q⟩:=h
 obtain⟨u,rfl,rx⟩:=vals1 r
 cases rx
 have fin:∀(its:List Value),Vals ys its→ys.length≤sizeLine→∀(h':Heap) (c':Nat),(∀b o',s.heap.get? b=some o'→h'.get? b=some o')→
   h'.get? s.heap.objs.size=some {cls:=.type "list",dict:=none,data:=.seq its.toArray c',slots:=#[]}→EP X pins σ Q (.ref s.heap.objs.size) {s with heap:=h'}:=fun its r' hz h' c' kp e=>
  ⟨.ref s.heap.objs.size,_,I.laid (t':=s.toks) kp (Nat.le_refl _) (show cO X.prog X.w _ h' _ (.lst ys) from⟨hz,its,c',r',e⟩),rfl,q _ (I.hok.fresh (Nat.le_refl _))⟩
 rcases hq with hq | hq
 ·obtain⟨its,r',pl,hz⟩:=I.list hq
  have hlen:=r'.length
  obtain⟨o,ho,hc,n,hd⟩:=pl.isList
  exact call_list_seq p (.inl rfl) ho hc hd (fun h' c' kp e=>fin its r' hz h' c' kp e) (by simp only[List.size_toArray] <;> omega)
 ·obtain⟨its,r',pl,hz⟩:=I.tuple hq
  have hlen:=r'.length
  obtain⟨o,ho,hc,n,hd⟩:=pl
  exact call_list_seq p (.inr rfl) ho hc hd (fun h' c' kp e=>fin its r' hz h' c' kp e) (by simp only[List.size_toArray] <;> omega)
theorem jZ:bZ X (.type "tuple") (fun xs H Q=>∃p ys,xs=[.ref p]∧((iO X.K H p ys∧∀l,H l=none→Q (.ref l) (upd H l (.tup ys)))∨(p9 X.K H p ys∧Q (.ref p) H))):=by
 intro pins s σ H xs us Q I r h
 obtain⟨p,ys,rfl,h⟩:=h
 obtain⟨u,rfl,rx⟩:=vals1 r
 cases rx
 rcases h with⟨hq,q⟩ | ⟨hq,q⟩
 ·obtain⟨its,r',pl,hz⟩:=I.list hq
  have hlen:=r'.length
  refine call_tuple_list pl.isList (fun h' kp=>?_) (by simp only[List.size_toArray] <;> omega)
  have I1:Inv X pins σ H {s with heap:=h'}:=I.kept (t':=s.toks) kp
  have I2:Inv X pins σ (upd H h'.objs.size (.tup ys)) {s with heap:=h'.push {cls:=.type "tuple",data:=.seq its.toArray}}:=
   I1.laid (t':=s.toks) (fun b o e=>Heap.get?_push_of_some _ e) (Nat.le_refl _) (show cO X.prog X.w _ _ _ (.tup ys) from⟨hz,its,r',IsTup.new _ _⟩)
  exact⟨.ref h'.objs.size,_,I2,rfl,q _ (I1.hok.fresh (Nat.le_refl _))⟩
 ·obtain⟨its,r',pl,hz⟩:=I.tuple hq
  exact call_tuple_same pl ⟨.ref p,H,I,rfl,q⟩
noncomputable def Po (K:PySem.W.Frag) (T:String) (x:V) (H:Hp):Prop:=match x with
 | .str _=>T="str"
 | .int _=>T="int"
 | .ref p=>(T="list"∧∃xs,iO K H p xs)∨(T="tuple"∧∃o,K.lookup p=some o∧o.cls= .type "tuple"∧o.dict=none)∨
   (T="dict"∧((∃kvs,H p=some (.dK kvs))∨∃kvs,H p=some (.dT kvs)))∨(T="set"∧∃S n,H p=some (.set S n))
 | _=>False
theorem E4 {pins : List (Addr × Obj)} {σ : St} {H : Hp} {s : Shared} {T : String} {x : V} {v : Value} (I : Inv X pins σ H s) (r : RelV x v) (ty : Po X.K T x H) :
    s.TypeIs v T∧∀a,v= .ref a→∃ob,s.heap.get? a=some ob∧ob.dict=none:=by
  cases x with
  | str z=>
    obtain⟨t,rfl⟩:=r
    cases(show T="str" from ty)
    exact⟨typeIs_str s z t,fun _ e=>nomatch e⟩
  | int i=>
    obtain⟨t,rfl⟩:=r
    cases(show T="int" from ty)
    exact⟨typeIs_int s i t,fun _ e=>nomatch e⟩
  | ref p =>
    cases r
    rcases ty with⟨rfl,xs,hq⟩ | ⟨rfl,o,hk,hc,hd⟩ | ⟨rfl,hk⟩ | ⟨rfl,S,n,hk⟩
    · obtain⟨its,_,pl,_⟩:=I.list hq
      refine⟨pl.isList.typeIs,fun a e=>?_⟩
      cases e
      obtain⟨o,n,e,c,hd,_⟩:=pl
      exact⟨o,e,hd⟩
    · refine⟨⟨o,I.xE p o hk,hc⟩,fun a e=>?_⟩
      cases e
      exact⟨o,I.xE _ o hk,hd⟩
    · have z:∃o,s.heap.get? p=some o∧o.ExactDict:=by
        rcases hk with⟨kvs,hk⟩ | ⟨kvs,hk⟩
        · obtain⟨_,_,_,_,o,_,_,e,ex,_⟩:=I.hok p _ hk
          exact⟨o,e,ex⟩
        · obtain⟨_,_,_,_,o,_,_,e,ex,_⟩:=I.hok p _ hk
          exact⟨o,e,ex⟩
      obtain⟨o,e,ex⟩:=z
      refine⟨⟨o,e,ex.1⟩,fun a e2=>?_⟩
      cases e2
      exact⟨o,e,ex.2.1⟩
    · obtain⟨o,_,_,_,e,ex,_⟩:=I.hok p _ hk
      refine⟨⟨o,e,ex.1⟩,fun a e2=>?_⟩
      cases e2
      exact⟨o,e,ex.2.1⟩
  | _=>exact False.elim ty
noncomputable def Qo (K:PySem.W.Frag) (T:String) (r:V→List V→Hp→VK→Prop) (to:TE) (t:TA):TE:=fun σ H Q=>to σ H fun x H1=>Po K T x H1∧t σ H1 fun xs H2=>r x xs H2 Q
variable {o e:Expr}{es:List Expr}{to:TE}{t:TA}{name:Str}{apos cpos:Pos}{T id:String}{r:V→List V→Hp→VK→Prop}
theorem Iu (pa:PlainAttrs T) (slot:Slot T name id) (hty:typeOf (.builtin id)=pure (.type "method_descriptor")) (hm:G3 X id r) (ho:PE X o to) (ha:PA X (e :: es) t)
  (hbase:attributeBase o name X.env (eval o X.env)=eval o X.env:=by rfl)
  (hfew:((backTo cpos (starEach (e :: es) X.env)).all (fun x=>!x.1) && (backToKw cpos (keywordEach [] X.env)).all (fun x=>x.1.isSome)
   && decide ((e :: es).length+([]:List Keyword).length+(if([]:List Keyword).isEmpty then 0 else 1) < 30))=true:=by rfl)
  (hline:(apos.endLine == cpos.line)=true:=by rfl) (hs:starEach (e :: es) X.env=(false,eval e X.env) :: starEach es X.env:=by rfl) (hplain:(backTo cpos (starEach es X.env)).any (·.1)=false:=by rfl):
  PE X (.Call (.Attribute o name apos) (e :: es) [] cpos) (Qo X.K T r to t):=by
 intro pins s σ H Q I h
 refine wpAny_Call_method_late hbase hfew hline rfl (cP (ho pins s σ H _ I h) fun v s1 ⟨x,H1,I1,r1,ty,q1⟩=>?_)
 obtain⟨h1,h2⟩:=E4 I1 r1 ty
 refine⟨T,id,pa,slot,hty,h1,h2,?_⟩
 have hA:=ha cpos pins s1 σ H1 _ I1 q1
 rw[hs] at hA ⊢
 refine Calls.callWith_builtin (by show(false || (backTo cpos (starEach es X.env)).any (·.1))=false;rw[hplain] <;> rfl) (Calls.evalArgs_plain ?_)
 exact cP hA fun us s2 ⟨vs,H2,I2,r2,q2⟩=>hm pins s2 σ H2 x vs v us Q I2 r1 r2 q2
end
end L2
namespace L2
open PySem PySem.Spec PyProof.Rows
noncomputable def Pp (X:Cx) (id:String) (r:V→List V→Hp→VK→Prop):Prop:=
 ∀(pins:List (Addr×Obj)) (s:Shared) (σ:St) (H:Hp) (x:V) (xs:List V) (v:Value) (us:List Value) (Q:VK),Inv X pins σ H s→RelV x v→Vals xs us→r x xs H Q→
  wpAny (model X.prog X.w) X.A (call (.builtin id) (v :: us)) (EP X pins σ Q) X.xe s
theorem Vals.one:∀{x:V}{us:List Value},Vals [x] us→∃u,us=[u]∧RelV x u
 | _,_,.cons r .nil=>⟨_,rfl,r⟩
theorem Vals.eraseIdx:∀{xs:List V}{us:List Value}(i:Nat),Vals xs us→Vals (xs.eraseIdx i) (us.eraseIdx i)
 | _,_,_,.nil=>.nil
 | _,_,0,.cons _ t=>t
 | _,_,i+1,.cons r t=>.cons r (Vals.eraseIdx i t)
theorem Vals.reverse {xs:List V}{us:List Value}(h:Vals xs us):Vals xs.reverse us.reverse:=by
 induction h with
 | nil=>exact .nil
 | cons r t ih=>rw[List.reverse_cons,List.reverse_cons];exact Vals.append ih (.cons r .nil)
theorem Vals.rep {xs:List V}{us:List Value}(h:Vals xs us):∀k:Nat,Vals (List.replicate k xs).flatten (List.replicate k us).flatten
 | 0=>.nil
 | k+1=>by
  rw[List.replicate_succ,List.replicate_succ,List.flatten_cons,List.flatten_cons]
  exact Vals.append h (Vals.rep h k)
theorem qH {α:Type}:∀(l:List α) (i:Nat),(l.eraseIdx i).length≤l.length
 | [],_=>Nat.le_refl _
 | _ :: _,0=>Nat.le_succ _
 | _ :: r,i+1=>Nat.succ_le_succ (qH r i)
section
variable {X:Cx}{pins:List (Addr×Obj)}{σ:St}{H:Hp}{s:Shared}{l b:Addr}{xs ys zs:List V}
theorem Inv.Iv {its its':List Value}{n:Nat}{f:Array Value→Array Value}{t':Nat}(I:Inv X pins σ H s) (hH:H l=some (.lst xs))
  (e:s.heap.get? l=some {cls:=.type "list",data:=.seq its.toArray n}) (hf:f its.toArray=its'.toArray) (hv:Vals ys its') (hz:ys.length≤sizeLine):
  Inv X pins σ (upd H l (.lst ys)) {s with heap:=s.heap.update l (Obj.mapSeq f),toks:=t'}:=by
 have q:=PySem.IsL.update e f
 rw[hf] at q
 refine I.write (x:=l) (e:=l) (by rw[hH];exact trivial) (.inl rfl) (fun b' u hb hu=>(Heap.get?_update_other s.heap (Obj.mapSeq f) (Ne.symm hb)).trans hu) ⟨_,q⟩ ?_
 exact⟨hz,its',_,hv,q⟩
theorem Inv.LV {its:List Value}{t':Nat}(I:Inv X pins σ H s) (hv:Vals ys its) (hz:ys.length≤sizeLine):
  Inv X pins σ (upd H s.heap.objs.size (.lst ys)) {s with heap:=s.heap.push {cls:=.type "list",data:=.seq its.toArray},toks:=t'}:=
 I.laid (fun _ _ q=>Heap.get?_push_of_some _ q) (Nat.le_refl _) ⟨hz,its,0,hv,Heap.get?_push_size _ rfl⟩
theorem Inv.fresh (I:Inv X pins σ H s):H s.heap.objs.size=none:=I.hok.fresh (Nat.le_refl _)
theorem Inv.AQ (I:Inv X pins σ H s) (hH:H l=some (.lst xs)):xs.length≤sizeLine∧∃(its:List Value) (n:Nat),Vals xs its∧xs.length=its.length∧s.heap.get? l=some {cls:=.type "list",data:=.seq its.toArray n}:=by
 obtain⟨z,its,n,r,e⟩:=I.hok l _ hH
 exact⟨z,its,n,r,r.length,e⟩
end
section
variable {X:Cx}
noncomputable def xP:V→List V→Hp→VK→Prop:=fun x vs H Q=>∃l xs y,x= .ref l∧vs=[y]∧H l=some (.lst xs)∧xs.length < sizeLine∧Q .bS (upd H l (.lst (xs++[y])))
theorem qI:Pp X "list.append" xP:=by
 intro pins s σ H x vs v us Q I rx rv h
 obtain⟨l,xs,y,rfl,rfl,hH,hz,q⟩:=h
 cases rx
 obtain⟨u,rfl,ru⟩:=rv.one
 obtain⟨z,its,n,r,hl,e⟩:=I.AQ hH
 refine call_meets F.slot_list_append ⟨_,e,rfl⟩ F.entry_list_append (F.args_list_append_2 _ _) (PySem.list_append l its.toArray n u (by rw[List.size_toArray];omega)) ⟨e,?_⟩
 refine⟨.bS,_,I.Iv (its':=its++[u]) hH e (by simp) (r.append (.cons ru .nil)) ?_,rfl,q⟩
 rw[List.length_append,List.length_singleton]
 omega
noncomputable def AR:V→List V→Hp→VK→Prop:=fun x vs H Q=>∃l xs i k y,x= .ref l∧vs=[.int i]∧H l=some (.lst xs)∧-(2 ^ 63)≤i∧i < 2 ^ 63∧seqIndex? i xs.length=some k∧xs[k]? =some y∧Q y (upd H l (.lst (xs.eraseIdx k)))
theorem AS:Pp X "list.pop" AR:=by
 intro pins s σ H x vs v us Q I rx rv h
 obtain⟨l,xs,i,k,y,rfl,rfl,hH,h1,h2,hk,hy,q⟩:=h
 cases rx
 obtain⟨u,rfl,ru⟩:=rv.one
 obtain⟨t,rfl⟩:=ru
 obtain⟨z,its,n,r,hl,e⟩:=I.AQ hH
 obtain⟨w,hw,rw'⟩:=r.get hy
 refine call_meets F.slot_list_pop ⟨_,e,rfl⟩ F.entry_list_pop (F.args_list_pop_2 _ _)
  (MeetsSeq.list_pop_at l its.toArray n i t k w (fitsIndex_both h1 h2) (by rw[List.size_toArray,←hl];exact hk) (by rw[←Array.getElem?_toList];exact hw) (by rw[List.size_toArray];omega)) ⟨e,?_⟩
 refine⟨y,_,I.Iv (its':=its.eraseIdx k) hH e ?_ (r.eraseIdx k) ?_,rw',q⟩
 ·show its.toArray.eraseIdxIfInBounds k=(its.eraseIdx k).toArray
  rw[List.eraseIdxIfInBounds_toArray]
 ·have:=qH xs k
  omega
end
section
variable {prog:Program}{w:World}{A:Around}{E:Value→Shared→Prop}{s:Shared}
end
section
variable {X:Cx}
end
end L2
namespace Pq
open PySem PySem.W PySem.Calls PyProof.Rows
theorem nB {P:Params}{h:Heap}:∀(ns:List Int) (vs:List Value),WellAll P h vs (ns.map WData.int)→IntsAre vs ns:=by
 intro ns
 induction ns with
 | nil=>
  intro vs w
  rw[List.map_nil] at w
  cases w
  exact .nil
 | cons n ns ih=>
  intro vs w
  rw[List.map_cons] at w
  cases w with
  | cons a b=>
   cases a
   exact .cons _ _ (ih _ b)
theorem yT {l:OpenLaw}{n:Nat}(hn:l.most=some n){P:Params}{h:Heap}{args:List WData}{vals:List Value}
  (hpre:l.row.toRowW.claim.pre args=true) (hwl:WellAll P h vals args):
  ∃a vs ns,vals=[Value.ref a]∧args=[WData.list (ns.map WData.int)]∧h.get? a=some {cls:=.type "list",data:=.seq vs.toArray}∧IntsAre vs ns∧ns.length≤n:=by
 have hsh:WShape.hasAll [] args [.list .int]=true:=(pre_splitW hpre).1
 have hc:l.pre.holds [] {args:=args}=true:=(pre_splitW hpre).2
 obtain⟨d,r,rfl,h1,h2⟩:=hasAllW_cons hsh
 obtain rfl:=hasAllW_nil h2
 obtain⟨xs,rfl,h3⟩:=hasW_list h1
 obtain⟨ns,rfl⟩:=items_int h3
 have hlen:ns.length≤n:=by
  unfold OpenLaw.pre at hc
  have h4:(WTm.not (.lt (.lit (.int (n:Int))) (.len (.arg 0)))).holds [] {args:=[.list (ns.map .int)]}=true:=by
   have h4:=(holds_andW hc).1
   rw[hn] at h4
   exact h4
  have h5:=condW_of h4 (w_not (w_lt w_lit (w_len_list (w_arg rfl))))
  rw[List.length_map] at h5
  refine Nat.le_of_not_lt fun q=>?_
  have q':(n:Int) < ((ns.length:Nat):Int):=by omega
  first
   | (rw[decide_eq_true q'] at h5;exact absurd h5 (by decide))
   | (simp at h5;omega)
 cases hwl with
 | cons w1 w2=>
  cases w2
  cases w1 with
  | list ho hall=>exact⟨_,_,ns,rfl,rfl,ho,nB ns _ hall,hlen⟩
theorem yU (l:OpenLaw) (args:List WData):l.row.toRowW.claim.post args (.bool true) args=true:=
 postW_of (r:=l.row.toRowW) (X:=(true == true))
  (show WShape.has [] (.bool true) .bool=true by first | rfl | decide | simp[WShape.has,WShape.arms,WShape.armsAll])
  (show(WTm.eq .res (.lit (.bool true))).value [] {args:=args,res:=some (.bool true),after:=args}=some (.bool (true == true)) from w_eq_bool (w_res rfl) w_lit) rfl
theorem ud {l:OpenLaw}{n:Nat}{q:Program}{loose:List Str}{XP:(Str→Option Value)→Heap→Prop}{YP:World→Heap→Prop}{d:DefRec}
  (hn:l.most=some n) (hdf:d.params.defaults=[])
  (call:∀(w:World) (s₀ s₁:Shared) (mg mb:Str→Option Value) (fa:Addr) (o:Obj) (pm cd doc:Value) (a:Addr) (vs:List Value) (ns:List Int),
   Ground q loose [] XP w s₀ mg mb s₁.heap→YP w s₁.heap→
   s₁.heap.get? fa=some o→o.data= .func (docDef d.name d.params d.body d.scope pm cd doc)→s₁.heap.CodeRec cd d.name→mg d.name=some (.ref fa)→
   s₁.heap.get? a=some {cls:=.type "list",data:=.seq vs.toArray}→IntsAre vs ns→ns.length≤n→s₁.gens=#[]→
   codeAny (model l.prog w) callerA (.call (.ref fa) ⟨[.ref a],[]⟩) (fun r s'=>r= .ok (.ret (.bool true))∧OldK s₁.heap s'.heap∧s'.os=s₁.os∧AllBare s'.gens) s₁):
  WalkO q loose XP YP l.row.toRowW d [] (fun f vs=>PySem.call f vs):=by
 intro w s₀ s₁ mg mb G Y fa o pm cd doc dV kV ho hd hcd hD hmg hg args vals as hpre hlay hrd hwl hlo
 obtain rfl:dV= .none:=Dflts.none hD hdf
 obtain rfl:kV= .none:=Dflts.noKw hD
 obtain⟨a,vs,ns,rfl,rfl,hobj,hints,hlen⟩:=yT hn hpre hwl
 refine enter_call (codeAny_mono (call w s₀ s₁ mg mb fa o pm cd doc a vs ns G Y ho (fd_plain hd) hcd hmg hobj hints hlen hg) fun r s' hq=>?_)
 obtain⟨rfl,h2,h3,h4⟩:=hq
 exact⟨.inl ⟨.bool true,.bool true,[],rfl,fun _=>rfl,.bool true,yU l _,fun _=>⟨List.Pairwise.nil,fun _ hm=>(nomatch hm)⟩⟩,h2,h3,h4⟩
section
variable {prog:Program}{w:World}{A:Around}{E:Value→Shared→Prop}{s:Shared}{K:Frag}
end
end Pq
namespace L2
open PySem PySem.Spec PyProof.Rows
theorem qJ:∀{vs:List Value}{ns:List Int},IntsAre vs ns→Vals (ns.map V.int) vs
 | _,_,.nil=>.nil
 | _,_,.cons n t h=>.cons ⟨t,rfl⟩ (qJ h)
noncomputable def C3 (H:Hp):Prop:=∀b,H b=none∨∃o xs,H b=some (.gm o (.lst xs))
theorem AU {P : Program} {w : World} {K : PySem.W.Frag} {mg mb : Str → Option Value} {CX : yM} {k : Nat} {fa a : Addr} {fd : FuncData} {x : Str} {sp : Sp} {s₁ : Shared} {vs : List Value} {ns : List Int}
    (KX:K.In s₁.heap) (hns:s₁.heap.Ns mainGlobals mg) (hb:s₁.heap.Ns builtinsNs mb) (Qp:∀x:Str,x≠"__name__"→mb x=bootBuiltins x) (hlim:s₁.heap.NoLimit) (hg:s₁.gens=#[])
    (ha:s₁.heap.get? a=some {cls:=.type "list",data:=.seq vs.toArray}) (hi:IntsAre vs ns) (hl:ns.length≤sizeLine) (hr:fX k callerA)
    (F:∀base:Heap,K.In base→base.Ns mainGlobals mg→bB P w K mg base CX k fa fd [x] sp) (hbind:∀(s:Shared) (u:Value),BindsTo s fd ⟨[u],[]⟩ [(x,u)])
    (DX:∀H:Hp,C3 H→iO K H a (ns.map V.int)→sp [.ref a] H (fun v _=>v= .bl true) fun _ _ _=>False)
    (LW:∀H e s',CX [] H s₁ (fun _ _ _=>False) e s'→False):
    codeAny (model P w) callerA (.call (.ref fa) ⟨[.ref a],[]⟩) (fun r s'=>r= .ok (.ret (.bool true))∧OldK s₁.heap s'.heap∧s'.os=s₁.os∧AllBare s'.gens) s₁:=by
  have rv:=qJ hi
  have lenV:=hi.length
  have core : ∀ H : Hp, C3 H → iO K H a (ns.map V.int) → jL P w H s₁.heap → (∀ b, H b ≠ none → b = a) → (H a ≠ none → K.lookup a = none) →
      codeAny (model P w) callerA (.call (.ref fa) ⟨[.ref a],[]⟩) (fun r s'=>r= .ok (.ret (.bool true))∧OldK s₁.heap s'.heap∧s'.os=s₁.os∧AllBare s'.gens) s₁:=by
    intro H hO hS hok hA hK
    have xQ:∀{b:Addr}{o:Obj},s₁.heap.get? b=some o→H b=none→(rJ s₁.heap H).get? b=some o:=fun e n=>Ai e n
    have Ib:∀{b:Addr}{o:Obj}{es:Array DictEntry}{ep:Nat},s₁.heap.get? b=some o→o.data= .dict es ep→H b=none:=fun {b o es ep} e d=>by
      cases q:H b with
      | none=>rfl
      | some u=>
        have e':b=a:=hA b (by rw[q];simp)
        subst e'
        rw[ha] at e;cases e
        have d':Data.seq vs.toArray _=Data.dict es ep:=d
        cases d'
    have Ko:∀{b:Addr}{m:Str→Option Value},s₁.heap.Ns b m→(rJ s₁.heap H).Ns b m:=fun {b m} ⟨o,es,ep,e,d,r⟩=>⟨o,es,ep,xQ e (Ib e d),d,r⟩
    have Pr:K.In (rJ s₁.heap H):=fun b o e=>xQ (KX b o e) (by
      cases q:H b with
      | none=>rfl
      | some u=>
        have e':b=a:=hA b (by rw[q];simp)
        subst e'
        rw[hK (by rw[q];simp)] at e;cases e)
    have hM:Mod K mg (rJ s₁.heap H):=⟨Pr,Ko hns,⟨mb,Ko hb,Qp⟩,let⟨mc,h1,h2⟩:=hlim;⟨mc,Ko h1,h2⟩⟩
    have e0:vY P w K mg (rJ s₁.heap H) callerA [] s₁ H:=⟨rfl,hM,fun b o e=>CD e,Nat.le_of_eq (yE _ _),trivial,fun b hb=>absurd (show b∈([]:List Addr) from hb) (by simp),hok,.of_eq hg⟩
    refine codeAny_mono ((F _ Pr (Ko hns)).run callerA [] s₁ H ⟨[.ref a],[]⟩ [.ref a] [.ref a] _ _ hr e0 (hbind s₁ (.ref a)) (.cons rfl .nil) (DX H hO hS)) fun r s' h=>?_
    cases r with
    | error e=>exact(LW H e s' h).elim
    | ok fl =>
      cases fl with
      | next=>exact False.elim h
      | brk=>exact False.elim h
      | cont=>exact False.elim h
      | ret u =>
        obtain⟨v,H',os,bare,un,LX,r',q⟩:=h
        have q':v= .bl true:=q
        subst q'
        obtain rfl:u=Value.bool true:=r'
        refine⟨rfl,OldK.of_keep fun b o e=>?_,os,bare⟩
        cases q:H b with
        | none=>exact un.keep b o e q (by intro z;exact absurd (show b∈([]:List Addr) from z) (by simp)) (by simp)
        | some u=>
          rcases hO b with z | ⟨ob,xs,z⟩
          · rw[q] at z;cases z
          · have z2:=un.j6 b ob _ z
            obtain⟨e1,_⟩:=hok b _ z
            obtain⟨e2,_⟩:=LX b _ z2
            rw[e] at e1;cases e1
            exact e2
  cases hk:K.lookup a with
  | some o=>
    have e:=KX a o hk
    rw[ha] at e
    cases e
    refine core (fun _=>none) (fun _=>.inl rfl) (.inr ⟨_,vs.toArray,_,hk,rfl,rfl,rfl,by rw[List.size_toArray,lenV];exact hl,by simpa using rv⟩) (fun b u z=>by have z':(none:Option HO)=some u:=z;cases z') (fun b z=>absurd rfl z) fun z=>absurd rfl z
  | none=>
    refine core (fun b=>if b=a then some (.gm {cls:=.type "list",data:=.seq vs.toArray} (.lst (ns.map V.int))) else none) (fun b=>?_) (.inl (.inr ⟨{cls:=.type "list",data:=.seq vs.toArray},if_pos rfl⟩)) (fun b u z=>?_) (fun b z=>?_) fun _=>hk
    · by_cases hb:b=a
      · exact .inr ⟨_,_,if_pos hb⟩
      · exact .inl (if_neg hb)
    · by_cases hb:b=a
      · have z':=(if_pos hb).symm.trans z
        cases z'
        subst hb
        exact⟨ha,by rw[List.length_map];exact hl,vs,_,rv,ha⟩
      · have z':=(if_neg hb).symm.trans z
        cases z'
    · by_cases hb:b=a
      · exact hb
      · exact absurd (if_neg hb) z
end L2
namespace L2
open PySem PySem.Spec PyProof.Rows
noncomputable abbrev S9 {K:PySem.W.Frag}{h:Heap}(_:K.In h):PySem.W.Frag:=K
theorem C4 {l : PySem.W.OpenLaw} {n k : Nat} {q : Program} {loose : List Str} {XP : (Str → Option Value) → Heap → Prop} {YP : World → Heap → Prop} {d : DefRec} {K : Params → PySem.W.Frag} {CX : World → yM} {sp : World → Sp} {x : Str}
    (hn:l.most=some n) (hn2:n≤sizeLine) (hdf:d.params.defaults=[]) (hr:fX k callerA)
    (hY:∀(w:World) (h:Heap),YP w h→(K w.params).In h)
    (F:∀(w:World) (mg:Str→Option Value) (fa:Addr) (h:Heap),(K w.params).In h→h.Ns mainGlobals mg→mg d.name=some (.ref fa)→
      ∃fd:FuncData,(∀(s:Shared) (u:Value),BindsTo s fd ⟨[u],[]⟩ [(x,u)])∧
        ∀base:Heap,(K w.params).In base→base.Ns mainGlobals mg→bB l.prog w (K w.params) mg base (CX w) k fa fd [x] (sp w))
    (DX:∀(w:World) (H:Hp) (a:Addr) (ns:List Int),ns.length≤n→C3 H→iO (K w.params) H a (ns.map V.int)→sp w [.ref a] H (fun v _=>v= .bl true) fun _ _ _=>False)
    (LW:∀(w:World) (H:Hp) (s:Shared) (e:Value) (s':Shared),CX w [] H s (fun _ _ _=>False) e s'→False):
    PySem.W.WalkO q loose XP YP l.row.toRowW d [] (fun f vs=>PySem.call f vs):=by
  refine Pq.ud hn hdf fun w s₀ s₁ mg mb fa o pm cd doc a vs ns G Y ho hd hcd hmg hobj hints hlen hg=>?_
  have KX:=hY w _ Y
  obtain⟨fd,hb,hF⟩:=F w mg fa _ KX G.T.g hmg
  exact AU KX G.T.g G.T.b G.T.builtins G.T.nolimit hg hobj hints (Nat.le_trans hlen hn2) hr hF hb (fun H hO hS=>DX w H a ns hlen hO hS) fun H e s'=>LW w H s₁ e s'
end L2
namespace L2
open PySem PySem.Spec PyProof.Rows
noncomputable def bE (s:Stmt):Arguments:=match s with
 | .FunctionDef _ a _ _ _ _ _ _ _ _=>a
 | _=>{posonlyargs:=[],args:=[],vararg:=none,kwonlyargs:=[],kw_defaults:=[],kwarg:=none,defaults:=[]}
noncomputable def bg (s:Stmt):List Stmt:=match s with
 | .FunctionDef _ _ b _ _ _ _ _ _ _=>b
 | _=>[]
noncomputable def au (s:Stmt):Scope:=match s with
 | .FunctionDef _ _ _ _ _ _ sc _ _ _=>sc
 | _=>{kind:=.function,names:=[],isGenerator:=false,isCoroutine:=false}
noncomputable abbrev gn:yM:=fun _ _ _ _ _ _=>False
noncomputable abbrev E0:XK:=fun _ _ _=>False
theorem D3 {X:Cx}:Passes gn X E0:=fun _ _ _ _ _ _ _ h=>h.elim
structure nT (K:PySem.W.Frag) (x qual:Str) (st:Stmt) (f:Addr) (fd:FuncData):Prop where
 ex:∃(oc:Value) (od:Option Addr) (kV doc pm:Value) (an:Option Addr) (cdv ct:Value) (osl:Array (Option Value)),
  fd=PySem.W.fnOf x qual (bE st) (bg st) (au st) .none kV doc pm an cdv ct∧K.lookup f=some ⟨oc,od,.func fd,osl⟩∧PySem.W.codeIn K cdv qual=true
 kp:PySem.W.keepIn K (.ref f)=true
section
variable {P:Program}{w:World}{K:PySem.W.Frag}{mg:Str→Option Value}{base:Heap}
theorem nT.ok {x qual:Str}{st:Stmt}{f:Addr}{fd:FuncData}{N ps:List Str}{k:Nat}{sp:Sp}(F:nT K x qual st f fd) (S:bK N ps (au st)) (len:∀vs H Q E,sp vs H Q E→vs.length=ps.length)
  (hbody:∀(cdv:Value) (A:Around) (outer:List Env) (s:Shared) (H:Hp) (vs:List V) (Q:VK) (E:XK),fX k (A.deeper (envOfC qual (au st) s.heap.objs.size f cdv))→sp vs H Q E→
   ∃t,vQ (vZ gn P w K mg base N qual (au st) f cdv A outer s H E).CH (bg st) t∧t {nx:=fun _ H'=>Q .bS H',rt:=Q} (start N vs) H):bB P w K mg base gn (k+1) f fd ps sp:=by
 obtain⟨oc,od,kV,doc,pm,an,cdv,ct,osl,rfl,lk,hcd⟩:=F.ex
 refine Ic lk hcd S len fun A outer s H vs Q E hr DX=>?_
 obtain⟨t,h,q⟩:=hbody cdv A outer s H vs Q E hr DX
 exact⟨t,h.CH,q⟩
theorem nT.binds {x qual:Str}{st:Stmt}{f:Addr}{fd:FuncData}{ps:List Str}(F:nT K x qual st f fd)
  (h:∀(kV doc pm:Value) (an:Option Addr) (cdv ct:Value) (us:List Value),us.length=ps.length→bindArgs (PySem.W.fnOf x qual (bE st) (bg st) (au st) .none kV doc pm an cdv ct) ⟨us,[]⟩=pure (ps.zip us)):Binds K fd ps []:=by
 obtain⟨oc,od,kV,doc,pm,an,cdv,ct,osl,rfl,lk,hcd⟩:=F.ex
 exact .all (h kV doc pm an cdv ct)
theorem cX {x qual:Str}{st:Stmt}{f:Addr}{oc:Value}{od an:Option Addr}{osl:Array (Option Value)}{kV doc pm cdv ct:Value}(l:K.lookup f=some ⟨oc,od,.func (PySem.W.fnOf x qual (bE st) (bg st) (au st) .none kV doc pm an cdv ct),osl⟩)
  (c:PySem.W.codeIn K cdv qual=true) (k:PySem.W.keepIn K (.ref f)=true):nT K x qual st f (PySem.W.fnOf x qual (bE st) (bg st) (au st) .none kV doc pm an cdv ct):=⟨⟨oc,od,kV,doc,pm,an,cdv,ct,osl,rfl,l,c⟩,k⟩
end
theorem cY {A:Around}{k:Nat}(hr:fX k A):A.units+1 < cLine:=Nat.lt_of_le_of_lt (Nat.add_le_add_left (by decide:1≤64) _) hr.units
section
variable {X:Cx}
theorem yV:bZ X (.builtin "len") (fun xs H Q=>∃a kvs,xs=[V.ref a]∧H a=some (.dK kvs)∧Q (.int kvs.length) H):=by
 intro pins s σ H xs us Q I r h
 obtain⟨a,kvs,rfl,ha,q⟩:=h
 obtain⟨u,rfl,ru⟩:=vals1 r
 cases ru
 exact Ig I (.inl ha) fun t s' I'=>⟨.int kvs.length,H,I',⟨t,rfl⟩,q⟩
end
theorem yW {A B:Prop}(h:B):if false=true then A else B:=by
 rw[if_neg Bool.false_ne_true]
 exact h
theorem yX {A B:Prop}(h:A):if true=true then A else B:=by
 rw[if_pos rfl]
 exact h
noncomputable def nU (H H':Hp):Prop:=∀b o,H b=some o→H' b=some o
theorem nU.refl (H:Hp):nU H H:=fun _ _ h=>h
theorem nU.trans {H H1 H2:Hp}(a:nU H H1) (b:nU H1 H2):nU H H2:=fun c o h=>b c o (a c o h)
theorem nU.free {H H':Hp}(e:nU H H'){l:Addr}(h:H' l=Option.none):H l=Option.none:=by
 cases q:H l with
 | none=>rfl
 | some o=>
  rw[e l o q] at h
  cases h
theorem nU.seq {K:PySem.W.Frag}{H H':Hp}{a:Addr}{xs:List V}(e:nU H H') (h:iO K H a xs):iO K H' a xs:=by
 rcases h with(h | ⟨o,h⟩) | h
 ·exact .inl (.inl (e _ _ h))
 ·exact .inl (.inr ⟨o,e _ _ h⟩)
 ·exact .inr h
section
variable {κ:Type} [DecidableEq κ]
end
end L2
end
section
set_option Elab.async false
set_option linter.all false
set_option maxRecDepth 100000
namespace L2
open PySem PySem.Spec PyProof.Rows
theorem jL.D4 {P:Program}{w:World}{H:Hp}{h:Heap}{a:Addr}{o:HO}(x:jL P w H h) (hn:H a=none) (new:cO P w (upd H a o) h a o):jL P w (upd H a o) h:=fun b u e=>by
 by_cases hb:b=a
 ·subst hb;rw[aF] at e;cases e;exact new
 ·rw[aA hb] at e
  exact(x b u e).stay (fun c v _ q=>q) (fun c q=>by rw[aA (aI q hn)];exact q) fun c xs q=>by rw[aA (aI q hn)];exact q
noncomputable def cj (X:Cx) (N':List Str) (scope:Scope) (cl:List (Str×Addr)) (C:Addr) (s:Shared) (H:Hp) (fp:List Addr):Cx:=
 {X with N:=N',s₀:=s,H₀:=H,env:=compEnvC scope cl C X.env,outer:=X.stack,stack:=X.stack,ex:=fp,fn:=fun _=>false,pn:=[],xe:=fun _ _=>False}
noncomputable def aU (cap:List Nat) (σ:St):St:=cap.map fun i=>(σ[i]?).join
structure gW (X:Cx) (x:Str) (bW:List Str) (cap:List Nat) (scope:Scope) (cl:List (Str×Addr)):Prop where
 clos:closureFor scope X.env=pure cl
 nW:∀y∈scope.names,y.2≠.cell
 kind:scope.kind= .function
 names:∀y∈scope.names,y.2= .local→scope.names.lookup y.1=some .local
 loc:scope.names.lookup x=some .local
 cells:∀n c,cl.lookup n=some c→X.env.cells.lookup n=some c
 has:∀n,((relabel scope X.env).names.lookup n=some .cell∨(relabel scope X.env).names.lookup n=some .free)→∃c,cl.lookup n=some c
 nd:(x :: bW).Nodup
 len:cap.length=bW.length
 slot:∀(j:Nat) n,bW[j]? =some n→∃i:Nat,cap[j]? =some i∧X.N[i]? =some n∧Aj X.env.scope n
 vis:∀n,n∈bW→((relabel scope X.env).names.lookup n=some .cell∨(relabel scope X.env).names.lookup n=some .free)∧(∃c,cl.lookup n=some c)∧X.env.scope.names.lookup n≠some .local
noncomputable def Iw (wi:TI) (cap:List Nat) (tc:TT) (te:TE):TE:=fun σ H Q=>wi σ H fun J H1=>∃W:Nat→Nat→List V→Hp→Prop,(∃m,W 0 m [] H1)∧∀i m ys H,W i m ys H→ys.length < sizeLine∧
  ((J.stop i H∧∀p,H p=none→Q (.ref p) (upd H p (.lst ys)))∨
   (J.go i H∧∀x H',J.G0 i H x H'→tc (some x :: aU cap σ) H' fun b H2=>if b=true then te (some x :: aU cap σ) H2 fun y H3=>∃m',m' < m∧W (i+1) m' (ys++[y]) H3 else ∃m',m' < m∧W (i+1) m' ys H2))
noncomputable def LY:TT:=fun _ H Q=>Q true H
noncomputable def D5 (X:Cx) (ifs:List Expr) (tc:TT):Prop:=
 ∀(pins:List (Addr×Obj)) (s:Shared) (σ:St) (H:Hp) (Q:Bool→Hp→Prop),Inv X pins σ H s→tc σ H Q→
  wpAny (model X.prog X.w) X.A (forIn ifs true fun c r=>if r=true then do let ok ←isTrue c X.env (eval c X.env);pure (ForInStep.yield ok) else pure (ForInStep.yield r)) (TP X pins σ Q) X.xe s
theorem C5 {X:Cx}:D5 X [] LY:=fun pins s σ H Q I h=>wpAny_tests_nil ⟨H,I,h⟩
theorem AV (ys:List Value) (y:Value):({cls:=.type "list",data:=.seq (ys.toArray.push y) (ys.length+1)}:Obj)={cls:=.type "list",data:=.seq (ys++[y]).toArray (ys++[y]).length}:=by
 rw[List.length_append,List.length_singleton,List.push_toArray]
theorem AW {X : Cx} {pins : List (Addr × Obj)} {σ : St} {H : Hp} {s s4 : Shared} {x : Str} {bW : List Str} {cap : List Nat} {scope : Scope} {cl : List (Str × Addr)} {C : Addr} {fp : List Addr} {m' : Str → Option Value}
    (I:Inv X pins σ H s) (T:gW X x bW cap scope cl) (hfp:∀b∈fp,jg X pins H b) (hfo:∀b∈fp,∃o,s.heap.get? b=some o)
    (hC:s.heap.objs.size≤C) (hns:s4.heap.Ns C m') (hos:s4.os=s.os) (hg:s4.gens=s.gens)
    (kept:∀b o,s.heap.get? b=some o→s4.heap.get? b=some o):
    Inv (cj X (x :: bW) scope cl C s H fp) [] (none :: aU cap σ) H s4:=by
  have fr:∀b,s.heap.objs.size≤b→H b=none:=fun b hb=>I.hok.fresh hb
  refine⟨⟨I.ok.mod,T.kind,I.ok.glob,I.ok.blt,hC,fun y z c h1 h2=>I.ok.inj y z c (T.cells _ _ h1) (T.cells _ _ h2),fun y hy=>T.has y hy,fun y c h=>(by cases h),I.ok.hd,I.ok.frames,.inl rfl,fun b hb=>⟨?_,fun y c e z=>?_⟩,I.bs,Nat.le_trans I.ok.Ak I.sz,fun b o e hb=>?_,fun b hb z=>?_,I.stack,I.rK⟩,
    hos,by rw[hg];exact I.bare,Un.kept kept,⟨m',hns,fun i y v h1 h2 h3=>?_⟩,fun y c h=>?_,fr C hC,fun y c h=>I.jf y c (T.cells _ _ h),fun p hp=>?_,I.hok.kept kept,?_⟩
  · obtain⟨o,e⟩:=hfo b hb
    exact Nat.ne_of_lt (Nat.lt_of_lt_of_le (Heap.lt_size e) hC)
  · exact(hfp b hb).2.2.2.2.1 y c (T.cells _ _ e) z
  · rcases(hfp b hb).2.2.2.1 with z | z
    · exact I.ok.yF b o e z
    · exact absurd (Nat.lt_of_lt_of_le (Heap.lt_size e) (Nat.le_trans I.ok.Ak z)) (Nat.lt_irrefl _)
  · rcases List.mem_cons.mp (I.lO b z) with q | q
    · exact(hfp b hb).2.1 q
    · exact(hfp b hb).2.2.1 q
  · cases i with
    | zero=>cases h2
    | succ j=>
      have h1:bW[j]? =some y:=by simpa[cj] using h1
      have h2:(aU cap σ)[j]? =some (some v):=by simpa using h2
      obtain⟨i,e1,e2,e3⟩:=T.slot j y h1
      have e4:σ[i]? =some (some v):=by
        unfold aU at h2
        rw[List.getElem?_map,e1] at h2
        have h2:some ((σ[i]?).join)=some (some v):=h2
        have h2:=Option.some.inj h2
        cases q:σ[i]? with
        | none=>rw[q] at h2;cases h2
        | some o=>rw[q] at h2;cases h2;rfl
      obtain⟨m,hn,hl⟩:=I.loc
      obtain⟨u,r,l⟩:=hl i y v e2 e4 e3
      obtain⟨k1,⟨c,hc⟩,k3⟩:=T.vis y (List.mem_of_getElem? h1)
      refine⟨u,r,.inr ⟨k1,c,hc,?_⟩⟩
      rcases l with⟨hk,_⟩ | ⟨hk,c',hc',z⟩
      · exact absurd hk k3
      · rw[T.cells _ _ hc] at hc'
        cases hc'
        obtain⟨o,ho,hd⟩:=z
        exact⟨o,kept _ _ ho,hd⟩
  · obtain⟨v,o,ho,hd⟩:=I.cell y c (T.cells _ _ h)
    exact⟨v,o,kept _ _ ho,hd⟩
  · exact absurd (show p∈([]:List (Addr×Obj)) from hp) (by simp)
  · show(none :: aU cap σ).length=(x :: bW).length
    simp[aU,T.len]
end L2
end
section
set_option Elab.async false
set_option linter.all false
set_option maxRecDepth 100000
namespace L2
open PySem PySem.Spec PyProof.Rows
theorem AX {α:Type}{M:Model}{A:Around}{E E':Value→Shared→Prop}{s:Shared}{t:Sem α}{Q:Unit→Shared→Prop}{Q':α→Shared→Prop}(h:wpAny M A (pure ():Sem Unit) Q E s) (k:Q () s→wpAny M A t Q' E' s):wpAny M A t Q' E' s:=
 fun Γ p hΓ=>k (h Γ p hΓ) Γ p hΓ
theorem v8 {X:Cx}{elt iter:Expr}{ifs:List Expr}{x:Str}{px pos:Pos}{scope:Scope}{cl:List (Str×Addr)}{bW:List Str}{cap:List Nat}{wi:TI}{tc:TT}{te:TE}{pins:List (Addr×Obj)}{s:Shared}{σ:St}{H:Hp}{Q:VK}{use:Option (Value→Sem Unit)}{Qf:Value→Shared→Prop}{pos2:Pos}
    (T:gW X x bW cap scope cl) (hc:X.calm=true) (hi:PI X (.Name x px) iter wi)
    (ht:∀C s H fp,D5 (cj X (x :: bW) scope cl C s H fp) ifs tc) (he:∀C s H fp,PE (cj X (x :: bW) scope cl C s H fp) elt te)
    (hs:∀x,foldedSetIterable iter X.env x=pure x) (I:Inv X pins σ H s) (h:Iw wi cap tc te σ H Q)
    (hend:∀(D C:Addr) (s7:Shared) (H6:Hp) (ys:List V),Inv X pins σ (upd H6 D (.lst ys)) s7→(∃m,s7.heap.Ns C m)→jg X pins (upd H6 D (.lst ys)) C→Q (.ref D) (upd H6 D (.lst ys))→compPost (model X.prog X.w) X.A X.xe use Qf (.ref D) C (.ok .next) s7):
    wpAny (model X.prog X.w) X.A (comprehension (.ListComp elt [⟨.Name x px,iter,ifs,0⟩] scope pos) scope X.env pos2 (newList []) false (eval iter X.env) use) Qf X.xe s:=by
  refine wpAny_comprehension_free (use:=use) rfl hs T.clos T.kind T.names (cP (hi pins s σ H _ I h) fun v s1 h1=>cP h1 fun itv s2 h2=>?_)
  obtain⟨it,fp,tn,J,H2,rfl,I2,qd,st2,f2,W,⟨m0,w0⟩,turn⟩:=h2
  refine wpAny_newObj_type (wpAny_newFunctionEnv T.nW (by intro y hy;simp at hy) (fun h4 rW nX=>?_) T.kind)
  dsimp only at rW nX ⊢
  generalize E5:s2.heap.push {cls:=.type "list",dict:=none,data:=.seq ([]:List Value).toArray}=H3 at rW nX ⊢
  have eC:H3.objs.size=s2.heap.objs.size+1:=by rw[←E5,Heap.size_push]
  generalize Qq:H3.objs.size=C at eC rW nX ⊢
  generalize eD:s2.heap.objs.size=D at eC ⊢
  have AY:C=D+1:=eC
  have hDC:D≠C:=by rw[AY];exact Nat.ne_of_lt (Nat.lt_succ_self D)
  have hC:s2.heap.objs.size≤C:=by rw[eD,AY];exact Nat.le_succ D
  have hD:s2.heap.objs.size≤D:=by rw[eD];exact Nat.le_refl D
  have kept:∀b o,s2.heap.get? b=some o→h4.get? b=some o:=fun b o e=>nX.extBut b o (Nat.ne_of_lt (Nat.lt_of_lt_of_le (Heap.lt_size e) hC)) (Heap.get?_push_of_some _ (E5▸Heap.get?_push_of_some _ e))
  have hacc:h4.get? D=some {cls:=.type "list",data:=.seq ([]:List Value).toArray ([]:List Value).length}:=nX.extBut _ _ hDC (Heap.get?_push_of_some _ (E5▸eD▸Heap.get?_push_size _ rfl))
  have Iz:∀b∈fp,∃o,s2.heap.get? b=some o:=fun b hb=>let⟨o,e,_⟩:=qd.obj _ _ st2 b hb;⟨o,e⟩
  have hDf:D∉fp:=fun hb=>by
    obtain⟨o,e⟩:=Iz D hb
    exact absurd (Nat.lt_of_lt_of_le (Heap.lt_size e) hD) (Nat.lt_irrefl _)
  have IA:tn 0 h4:=qd.keep _ _ _ st2 fun b _ o e=>kept b o e
  have key : ∀ s5 : Shared, s5 = { s2 with heap := h4, toks := s2.toks + ([] : List (Str × Value)).length } →
      codeAny (model X.prog X.w) X.A (.compLoop (.ListComp elt [⟨.Name x px,iter,ifs,0⟩] scope pos) 0 (.ref it) (.ref D) (compEnvC scope cl C X.env)) (compPost (model X.prog X.w) X.A X.xe use Qf (.ref D) C) s5:=by
    rintro s5 rfl
    have I4:Inv (cj X (x :: bW) scope cl C s2 H2 fp) [] (none :: aU cap σ) H2 {s2 with heap:=h4,toks:=s2.toks+([]:List (Str×Value)).length}:=
      AW (s4:={s2 with heap:=h4,toks:=s2.toks+([]:List (Str×Value)).length}) I2 T f2 Iz hC rW rfl rfl kept
    generalize hY:cj X (x :: bW) scope cl C s2 H2 fp=Y at I4
    have fD:∀{H':Hp},H' D=none→jg Y [] H' D:=fun {H'} hn=>by
      subst hY
      refine⟨hn,hDC,fun z=>(List.mem_cons.mp (I2.lO D z)).elim (fun q=>absurd (Nat.lt_of_lt_of_le (q▸I2.lt) hD) (Nat.lt_irrefl _)) fun q=>I2.Ew hD q,.inr hD,fun y c e z=>?_,fun p hp=>absurd (show p∈([]:List (Addr×Obj)) from hp) (by simp)⟩
      obtain⟨v,q⟩:=I2.cell y c (T.cells _ _ e)
      exact absurd (Nat.lt_of_lt_of_le q.lt (by rw[z];exact hD)) (Nat.lt_irrefl _)
    have fF:∀{H':Hp},(∀b∈fp,H' b=none)→∀b∈fp,jg Y [] H' b:=fun {H'} hn b hb=>by
      have q:=I4.ok.Kf b (by subst hY;exact hb)
      exact⟨hn b hb,fun z=>q.1 z,I4.ok.yG b (by subst hY;exact hb),.inl (by subst hY;exact hb),fun y c e z=>q.2 y c e z,fun p hp=>absurd (show p∈([]:List (Addr×Obj)) from(by subst hY;exact hp)) (by simp)⟩
    have eA:Y.A=X.A:=by subst hY;rfl
    have eP:Y.prog=X.prog:=by subst hY;rfl
    have eW:Y.w=X.w:=by subst hY;rfl
    have eK:Y.K=X.K:=by subst hY;rfl
    have eE:Y.env=compEnvC scope cl C X.env:=by subst hY;rfl
    have eX:Y.xe=fun _ _=>False:=by subst hY;rfl
    have eN:Y.N=x :: bW:=by subst hY;rfl
    have D6:Y.calm=true:=by subst hY;exact hc
    have LZ:D5 Y ifs tc:=by subst hY;exact ht _ _ _ _
    have L0:PE Y elt te:=by subst hY;exact he _ _ _ _
    have L1:PG Y (.Name x px) (nO 0):=nH (by rw[eN];exact T.nd) (by rw[eN];rfl) (by rw[eE];exact .inl (lookup_relabel_local T.loc)) (.inr (by rw[eE];exact lookup_relabel_local T.loc))
    have j7:∀(E':Value→Shared→Prop) (e:Value) (s':Shared),Y.xe e s'→E' e s':=fun E' e s' z=>by rw[eX] at z;exact z.elim
    refine codeAny_compLoop_tests (fun n s'=>∃i ys us H' o,Inv Y [] (o :: aU cap σ) H' s'∧tn i s'.heap∧(∀b∈fp,H' b=none)∧H' D=none∧s'.heap.get? D=some {cls:=.type "list",data:=.seq us.toArray us.length}∧Vals ys us∧W i n ys H') ?_ m0
      ⟨0,[],[],H2,none,I4,IA,fun b hb=>(f2 b hb).1,I2.hok.fresh hD,hacc,.nil,w0⟩
    rintro n s6 ⟨i,ys,us,H6,o6,I6,E6,E7,d6,a6,v6,w6⟩
    have L3:us.length=ys.length:=v6.length.symm
    obtain⟨hz,AZ⟩:=turn i n ys H6 w6
    rcases AZ with⟨stop,qn⟩ | ⟨go,step⟩
    · have q := qd.done Y eP eW eK D6 i [] s6 (o6 :: aU cap σ) H6 (notedBy (model X.prog X.w) X.A (compEnvC scope cl C X.env) fun e s' => compPost (model X.prog X.w) X.A X.xe use Qf (.ref D) C (.error e) s') I6 (fF E7) E6 stop
      rw[eA] at q
      have E8:=I6.pinned (fp:=[D]) (fun b hb=>by rw[List.mem_singleton.mp hb];exact fD d6) (fun b hb=>by rw[List.mem_singleton.mp hb];exact⟨_,a6,fun v z=>by cases z⟩)
      have q:=qd.done Y eP eW eK D6 i _ s6 (o6 :: aU cap σ) H6 (notedBy (model X.prog X.w) X.A (compEnvC scope cl C X.env) fun e s'=>compPost (model X.prog X.w) X.A X.xe use Qf (.ref D) C (.error e) s') E8 (fun b hb=>?_) E6 stop
      · rw [eA] at q
        refine cP q fun r s7 ⟨hr,I7⟩=>?_
        subst hr
        have a7:s7.heap.get? D=_:=(I7.pin (D,{cls:=.type "list",data:=.seq us.toArray us.length}) (List.mem_append_right _ (List.mem_append_right _ (bR (List.mem_singleton.mpr rfl) a6)))).1
        obtain⟨m7,C6,_⟩:=I7.loc
        rw[eE] at C6
        have A0:H6 D=none:=d6
        have L4:H6 C=none:=by have:=I7.free;rw[eE] at this;exact this
        have E9:jL X.prog X.w H6 s7.heap:=by have q:=I7.hok;rw[eP,eW] at q;exact q
        have new:cO X.prog X.w (upd H6 D (.lst ys)) s7.heap D (.lst ys):=⟨Nat.le_of_lt hz,us,us.length,v6,a7⟩
        have u7:Un (frs X.stack) fp H2 H6 s2.heap s7.heap:=by have:=I7.base;subst hY;exact this
        have L5:∀b o,s2.heap.get? b=some o→b≠D:=fun b o e=>Nat.ne_of_lt (Nat.lt_of_lt_of_le (Heap.lt_size e) hD)
        have u8:Un (frs X.stack) fp H2 (upd H6 D (.lst ys)) s2.heap s7.heap:=
          ⟨u7.keep,u7.slot,fun b o e n hx=>by rw[aA (L5 b o e)];exact u7.free b o e n hx,u7.there,
           fun b xs e=>by have z:=u7.tups b xs e;rw[aA (aI z A0)];exact z,fun b o u e=>by have z:=u7.j6 b o u e;rw[aA (aI z A0)];exact z,
           fun b ps e=>by obtain⟨more,z⟩:=u7.kN b ps e;exact⟨more,by rw[aA (aI z A0)];exact z⟩⟩
        have L6:s7.os=s2.os:=by have:=I7.os;subst hY;exact this
        have I9:Inv X pins σ (upd H6 D (.lst ys)) s7:=I2.DS (ch:=fp) L6 u8 (E9.D4 A0 new) I7.bare fun b hb=>⟨(f2 b hb).2.2.2.1,(f2 b hb).2.1,(f2 b hb).2.2.2.2.1,(f2 b hb).2.2.2.2.2⟩
        exact hend D C s7 H6 ys I9 ⟨m7,C6⟩ (I2.vU hC (by rw[aA (Ne.symm hDC)];exact L4)) (qn D A0)
      · obtain⟨f0,f1,Fb,f3,f4,f5⟩:=fF E7 b hb
        refine⟨f0,f1,Fb,f3,f4,fun p hp z=>?_⟩
        rcases List.mem_append.mp hp with q' | q'
        · exact f5 p (List.mem_append_left _ q') z
        · rcases List.mem_append.mp q' with q' | q'
          · exact absurd q' (by simp)
          · have:=(iE q').1
            rw[List.mem_singleton.mp this] at z
            exact hDf (z▸hb)
    · have E8:=I6.pinned (fp:=[D]) (fun b hb=>by rw[List.mem_singleton.mp hb];exact fD d6) (fun b hb=>by rw[List.mem_singleton.mp hb];exact⟨_,a6,fun v z=>by cases z⟩)
      have IB:∀{H':Hp},(∀b∈fp,H' b=none)→∀b∈fp,jg Y ([]++g9 [D] s6.heap) H' b:=fun {H'} hn b hb=>by
        obtain⟨f0,f1,Fb,f3,f4,f5⟩:=fF hn b hb
        refine⟨f0,f1,Fb,f3,f4,fun p hp z=>?_⟩
        rcases List.mem_append.mp hp with q' | q'
        · exact f5 p (List.mem_append_left _ q') z
        · rcases List.mem_append.mp q' with q' | q'
          · exact absurd q' (by simp)
          · have:=(iE q').1
            rw[List.mem_singleton.mp this] at z
            exact hDf (z▸hb)
      have q:=qd.item Y eP eW eK D6 i _ s6 (o6 :: aU cap σ) H6 (notedBy (model X.prog X.w) X.A (compEnvC scope cl C X.env) fun e s'=>compPost (model X.prog X.w) X.A X.xe use Qf (.ref D) C (.error e) s') E8 (IB E7) E6 go
      rw[eA] at q
      refine cP q fun r s7 ⟨u,hr,h7⟩=>?_
      subst hr
      refine AX h7 fun⟨xv,H8,I8,r8,y8,Fc,L7⟩=>?_
      have L8:=I8.pinned (IB L7) (qd.obj _ _ Fc)
      have qa:=L1 _ s7 (o6 :: aU cap σ) H8 xv u _ L8 r8 (show nO 0 xv (o6 :: aU cap σ) H8 (fun σ' H'=>σ'=some xv :: aU cap σ∧H'=H8) from⟨rfl,rfl⟩)
      rw[eP,eW,eA,eE] at qa
      refine wpAny_mono qa (fun _ s9 h9=>?_) (j7 _)
      obtain⟨Qs,H9,I9,e9,Ma⟩:=h9
      subst e9 Ma
      have qt:=LZ _ s9 _ _ _ I9 (step xv _ y8)
      rw[eP,eW,eA,eE] at qt
      refine wpAny_mono qt (fun ok Mb h10=>?_) (j7 _)
      obtain⟨Mc,IC,C7⟩:=h10
      have back:∀{s':Shared}{H':Hp},Inv Y (([]++g9 [D] s6.heap)++g9 fp s7.heap) (some xv :: aU cap σ) H' s'→Inv Y [] (some xv :: aU cap σ) H' s'∧tn (i+1) s'.heap∧(∀b∈fp,H' b=none)∧H' D=none∧s'.heap.get? D=some {cls:=.type "list",data:=.seq us.toArray us.length}:=fun {s' H'} J=>by
        refine⟨J.gB.gB,qd.keep _ _ _ Fc fun b hb o e=>(J.pin (b,o) (List.mem_append_right _ (List.mem_append_right _ (bR hb e)))).1,fun b hb=>?_,?_,?_⟩
        · obtain⟨o,e,d⟩:=qd.obj _ _ Fc b hb
          exact(J.pin (b,o) (List.mem_append_right _ (List.mem_append_right _ (bR hb e)))).2.1
        · exact(J.pin (D,_) (List.mem_append_right _ (List.mem_append_left _ (List.mem_append_right _ (bR (List.mem_singleton.mpr rfl) a6))))).2.1
        · exact(J.pin (D,_) (List.mem_append_right _ (List.mem_append_left _ (List.mem_append_right _ (bR (List.mem_singleton.mpr rfl) a6))))).1
      cases ok with
      | false=>
        rw[if_neg (by decide)] at C7 ⊢
        obtain⟨m',hm,Me⟩:=C7
        obtain⟨b1,b2,b3,b4,b5⟩:=back IC
        exact⟨m',hm,i+1,ys,us,Mc,some xv,b1,b2,b3,b4,b5,v6,Me⟩
      | true=>
        rw[if_pos rfl] at C7 ⊢
        have qe:=L0 _ Mb _ _ _ IC C7
        rw[eP,eW,eA,eE] at qe
        refine wpAny_mono qe (fun y Fd h11=>?_) (j7 _)
        obtain⟨yv,ID,Mf,Mg,m',hm,Mh⟩:=h11
        obtain⟨b1,b2,b3,b4,b5⟩:=back Mf
        refine append_at (hsz:=by rw[List.size_toArray,L3];exact Nat.le_of_lt hz) b5 fun h12 Fe Ff=>?_
        have Ae:∀b o,b≠D→Fd.heap.get? b=some o→h12.get? b=some o:=fun b o hb e=>Fe.extBut b o hb e
        obtain⟨g0,g1,g2,g3,g4,g5⟩:=fD b4
        have Mi:Inv Y [] (some xv :: aU cap σ) ID {Fd with heap:=h12}:=b1.turned (t':=Fd.toks) Ae g0 g1 g3 g4 g5
        refine⟨m',hm,i+1,ys++[yv],us++[y],ID,some xv,Mi,qd.keep _ _ _ b2 fun b hb o e=>Ae b o (fun z=>hDf (z▸hb)) e,b3,b4,Ff.trans (congrArg some (AV us y)),v6.append (.cons Mg .nil),Mh⟩
  exact codeAny_compStart_list (key _ rfl) (qd.self _ 0 _ _ _ IA (key _ rfl))
theorem ue {X:Cx}{elt iter:Expr}{ifs:List Expr}{x:Str}{px pos:Pos}{scope:Scope}{cl:List (Str×Addr)}{bW:List Str}{cap:List Nat}{wi:TI}{tc:TT}{te:TE}
  (T:gW X x bW cap scope cl) (hc:X.calm=true) (hi:PI X (.Name x px) iter wi)
  (ht:∀C s H fp,D5 (cj X (x :: bW) scope cl C s H fp) ifs tc) (he:∀C s H fp,PE (cj X (x :: bW) scope cl C s H fp) elt te)
  (hs:∀x,foldedSetIterable iter X.env x=pure x:=by intro _;rfl):
  PE X (.ListComp elt [⟨.Name x px,iter,ifs,0⟩] scope pos) (Iw wi cap tc te):=by
 intro pins s σ H Q I h
 rw[eval_ListComp]
 refine v8 T hc hi ht he hs I h ?_
 rintro p C s7 H6 ys I9 ⟨m7,C6⟩ ⟨g0,g1,g2,g3,g4,g5⟩ q
 exact⟨m7,C6,fun h' hs'=>⟨.ref p,_,I9.turned (t':=s7.toks) (fun b o hb e=>hs'.extBut b o hb e) g0 g1 g3 g4 g5,rfl,q⟩⟩
end L2
end
section
set_option Elab.async false
set_option linter.all false
set_option maxRecDepth 100000
namespace L2
open PySem PySem.Spec PyProof.Rows
noncomputable def Mj (z:Str):It:=⟨fun i _=>i < z.cps.size,fun i H x H'=>H'=H∧∃c,z.cps[i]? =some c∧x= .str ⟨#[c]⟩,fun i _=>z.cps.size≤i⟩
theorem A1 {P:Program}{w:World}{K:PySem.W.Frag}{x:Str}{px:Pos}(z:Str) (it:Addr) (t:Tok) (ty:String) (hW:∀A':Around,A'.handled=none→Walks P w A' it [it] [it] z.cps.size (SignAt z) fun i h=>h.IsStrIter it ty z t i)
  (hself:∀(A:Around) (i:Nat) (s:Shared) (Q:Value→Shared→Prop) (E:Value→Shared→Prop),s.heap.IsStrIter it ty z t i→Q (.ref it) s→wpAny (model P w) A (pyIter (.ref it)) Q E s):
  Turn P w K (.Name x px) (Mj z) [it] it (fun i h=>i≤z.cps.size∧h.IsStrIter it ty z t i) where
 mem:=by simp
 obj:=fun i h st b hb=>by
  obtain rfl:b=it:=by simpa using hb
  obtain⟨o,e,c,d⟩:=st.2
  exact⟨o,e,fun v q=>by rw[d] at q;cases q⟩
 keep:=fun i h h' st k=>by
  obtain⟨o,e,r⟩:=st.2
  exact⟨st.1,o,k it (by simp) o e,r⟩
 item:=by
  intro X hP hw hK hc i pins s σ H E I hf st hg
  subst hP hw hK
  obtain⟨f0,f1,f2,f3,f4,f5⟩:=hf it (by simp)
  refine(hW X.A (I.ok.hd hc)).item i s _ _ hg st.2 fun v h' tk hv st' kk=>?_
  obtain⟨c,u,hc',rfl⟩:=hv
  exact⟨_,rfl,wpAny_pure ⟨.str ⟨#[c]⟩,H,I.turned (fun b o hb e=>kk b o (by simpa using hb) e) f0 f1 f3 f4 f5,⟨u,rfl⟩,⟨rfl,c,hc',rfl⟩,⟨hg,st'⟩,fun b hb=>(hf b hb).1⟩⟩
 done:=by
  intro X hP hw hK hc i pins s σ H E I hf st hg
  subst hP hw hK
  obtain⟨f0,f1,f2,f3,f4,f5⟩:=hf it (by simp)
  obtain⟨s1,s2⟩:=st
  have e:i=z.cps.size:=Nat.le_antisymm s1 hg
  subst e
  exact(hW X.A (I.ok.hd hc)).done s _ _ s2 fun h' tk kk=>⟨rfl,I.turned (fun b o hb e=>kk b o (by simpa using hb) e) f0 f1 f3 f4 f5⟩
 self:=fun A i s Q E st h=>hself A i s Q E st.2 h
noncomputable def Mk (tl:TE):TI:=fun σ H R=>tl σ H fun x H1=>∃z,x= .str z∧R (Mj z) H1
theorem Fg {X:Cx}{x:Str}{px:Pos}{l:Expr}{tl:TE}(hl:PE X l tl):PI X (.Name x px) l (Mk tl):=by
 intro pins s σ H R I h
 refine cP (hl pins s σ H _ I h) fun v s1 ⟨y,H1,I1,r1,q1⟩=>?_
 obtain⟨z,rfl,q⟩:=q1
 obtain⟨t,rfl⟩:=r1
 refine wpAny_pyIter_strU ?_
 have hst:∀ty,strIterType z=ty→(s1.heap.push {cls:=.type (strIterType z),data:=.fields #[.str z t,.int 0 0]}).IsStrIter s1.heap.objs.size ty z t 0:=fun ty e=>⟨_,Heap.get?_push_size _ rfl,by rw[←e],rfl⟩
 have go:∀ty,strIterType z=ty→(∀A':Around,A'.handled=none→Walks X.prog X.w A' s1.heap.objs.size [s1.heap.objs.size] [s1.heap.objs.size] z.cps.size (SignAt z) fun i h=>h.IsStrIter s1.heap.objs.size ty z t i)→
   (∀(A:Around) (i:Nat) (s:Shared) (Q:Value→Shared→Prop) (E:Value→Shared→Prop),s.heap.IsStrIter s1.heap.objs.size ty z t i→Q (.ref s1.heap.objs.size) s→wpAny (model X.prog X.w) A (pyIter (.ref s1.heap.objs.size)) Q E s)→
   LG X pins σ (.Name x px) R (.ref s1.heap.objs.size) {s1 with heap:=s1.heap.push {cls:=.type (strIterType z),data:=.fields #[.str z t,.int 0 0]}}:=fun ty e hW hself=>by
  refine⟨s1.heap.objs.size,[s1.heap.objs.size],_,_,H1,rfl,I1.kept (t':=s1.toks) fun b o e=>Heap.get?_push_of_some _ e,A1 z _ t ty hW hself,⟨Nat.zero_le _,hst ty e⟩,fun b hb=>?_,q⟩
  obtain rfl:b=s1.heap.objs.size:=by simpa using hb
  exact I1.vU (Nat.le_refl _) (I1.hok.fresh (Nat.le_refl _))
 cases ha:z.cps.all (· < 128)
 ·exact go "str_iterator" (by simp[strIterType,ha]) (fun A' hA=>Walks.strWide hA _ z t) fun A i s Q E st h=>wpAny_pyIter_striter_wide st h
 ·exact go "str_ascii_iterator" (by simp[strIterType,ha]) (fun A' hA=>Walks.strAscii hA _ z t) fun A i s Q E st h=>wpAny_pyIter_striter_ascii st h
theorem uf {bs:List Bool}:∀{us:List Value},Vals (bs.map V.bl) us→us=bs.map Value.bool:=by
 induction bs with
 | nil=>intro us r;cases r;rfl
 | cons b bs ih=>
  intro us r
  cases r with
  | cons r1 r2=>
   cases r1
   rw[ih r2]
   rfl
theorem v9 (bs:List Bool):((List.range bs.length).all fun i=>(bs[i]?).getD true)=bs.all id:=by
 rw[Bool.eq_iff_iff,List.all_eq_true,List.all_eq_true]
 constructor
 ·intro h b hb
  obtain⟨i,hi,rfl⟩:=List.mem_iff_getElem.mp hb
  have:=h i (List.mem_range.mpr hi)
  simpa[hi] using this
 ·intro h i hi
  have hi:=List.mem_range.mp hi
  simp only[List.getElem?_eq_getElem hi,Option.getD_some]
  exact h _ (List.getElem_mem hi)
theorem wc (bs:List Bool):((List.range bs.length).any fun i=>(bs[i]?).getD false)=bs.any id:=by
 rw[Bool.eq_iff_iff,List.any_eq_true,List.any_eq_true]
 constructor
 ·rintro⟨i,hi,h⟩
  have hi:=List.mem_range.mp hi
  simp only[List.getElem?_eq_getElem hi,Option.getD_some] at h
  exact⟨_,List.getElem_mem hi,h⟩
 ·rintro⟨b,hb,h⟩
  obtain⟨i,hi,rfl⟩:=List.mem_iff_getElem.mp hb
  exact⟨i,List.mem_range.mpr hi,by simpa[hi] using h⟩
theorem yY {X:Cx}(hc:X.calm=true):bZ X (.builtin "all") (fun xs H Q=>∃(p:Addr) (bs:List Bool),xs=[.ref p]∧iO X.K H p (bs.map V.bl)∧Q (.bl (bs.all id)) H):=by
 intro pins s σ H xs us Q I r h
 obtain⟨p,bs,rfl,hp,q⟩:=h
 obtain⟨u,rfl,ru⟩:=vals1 r
 cases ru
 obtain⟨its,rv,pl,hz⟩:=I.list hp
 obtain rfl:=uf rv
 have hlt:p < s.heap.objs.size:=by obtain⟨_,e,_⟩:=pl.isList;exact Heap.lt_size e
 refine call_all_walk (wpAny_pyIter_list pl.isList ?_)
 refine⟨s.heap.objs.size,[s.heap.objs.size,p],[s.heap.objs.size],_,_,_,fun i=>(bs[i]?).getD true,rfl,Walks.list (A:=X.A.in1) (I.ok.hd hc) _ p (Nat.ne_of_lt hlt) _,
  ⟨⟨_,Heap.get?_push_size _ rfl,rfl,rfl⟩,pl.isList.push _⟩,fun i v s' Q' E' hP hQ=>?_,fun h' tk hk=>?_⟩
 ·have hP:(bs.map Value.bool)[i]? =some v:=by simpa using hP
  rw[List.getElem?_map] at hP
  cases e:bs[i]? with
  | none=>rw[e] at hP;cases hP
  | some b=>
   rw[e] at hP
   cases hP
   simp only[e,Option.getD_some] at hQ
   exact wpAny_truthy_bool hQ
 ·have e:((List.range (bs.map Value.bool).toArray.size).all fun i=>(bs[i]?).getD true)=bs.all id:=by
   rw[List.size_toArray,List.length_map];exact v9 bs
  rw[e]
  exact⟨.bl (bs.all id),H,I.kept (t':=tk) fun b o e=>hk b o (fun hm=>by rw[List.mem_singleton.mp hm] at e;exact Nat.lt_irrefl _ (Heap.lt_size e)) (Heap.get?_push_of_some _ e),rfl,q⟩
theorem yZ {X:Cx}(hc:X.calm=true):bZ X (.builtin "any") (fun xs H Q=>∃(p:Addr) (bs:List Bool),xs=[.ref p]∧iO X.K H p (bs.map V.bl)∧Q (.bl (bs.any id)) H):=by
 intro pins s σ H xs us Q I r h
 obtain⟨p,bs,rfl,hp,q⟩:=h
 obtain⟨u,rfl,ru⟩:=vals1 r
 cases ru
 obtain⟨its,rv,pl,hz⟩:=I.list hp
 obtain rfl:=uf rv
 have hlt:p < s.heap.objs.size:=by obtain⟨_,e,_⟩:=pl.isList;exact Heap.lt_size e
 refine call_any_walk (wpAny_pyIter_list pl.isList ?_)
 refine⟨s.heap.objs.size,[s.heap.objs.size,p],[s.heap.objs.size],_,_,_,fun i=>(bs[i]?).getD false,rfl,Walks.list (A:=X.A.in1) (I.ok.hd hc) _ p (Nat.ne_of_lt hlt) _,
  ⟨⟨_,Heap.get?_push_size _ rfl,rfl,rfl⟩,pl.isList.push _⟩,fun i v s' Q' E' hP hQ=>?_,fun h' tk hk=>?_⟩
 ·have hP:(bs.map Value.bool)[i]? =some v:=by simpa using hP
  rw[List.getElem?_map] at hP
  cases e:bs[i]? with
  | none=>rw[e] at hP;cases hP
  | some b=>
   rw[e] at hP
   cases hP
   simp only[e,Option.getD_some] at hQ
   exact wpAny_truthy_bool hQ
 ·have e:((List.range (bs.map Value.bool).toArray.size).any fun i=>(bs[i]?).getD false)=bs.any id:=by
   rw[List.size_toArray,List.length_map];exact wc bs
  rw[e]
  exact⟨.bl (bs.any id),H,I.kept (t':=tk) fun b o e=>hk b o (fun hm=>by rw[List.mem_singleton.mp hm] at e;exact Nat.lt_irrefl _ (Heap.lt_size e)) (Heap.get?_push_of_some _ e),rfl,q⟩
end L2
end
section
set_option Elab.async false
set_option linter.all false
set_option maxRecDepth 100000
namespace L2
open PySem PySem.Spec PyProof.Rows
inductive D where
 | bS | bl (b:Bool) | int (i:Int) | str (z:Str) | tup (ds:List D) | lst (ds:List D)
mutual
inductive Rep (H:Hp):V→D→Prop
 | bS:Rep H .bS .bS
 | bl (b:Bool):Rep H (.bl b) (.bl b)
 | int (i:Int):Rep H (.int i) (.int i)
 | str (z:Str):Rep H (.str z) (.str z)
 | tup {a:Addr}{vs:List V}{ds:List D}(e:H a=some (.tup vs)) (r:aG H vs ds):Rep H (.ref a) (.tup ds)
 | lst {a:Addr}{vs:List V}{ds:List D}(e:H a=some (.lst vs)) (r:aG H vs ds):Rep H (.ref a) (.lst ds)
inductive aG (H:Hp):List V→List D→Prop
 | nil:aG H [] []
 | cons {v:V}{d:D}{vs:List V}{ds:List D}(r:Rep H v d) (rs:aG H vs ds):aG H (v :: vs) (d :: ds)
end
noncomputable def Ml:HO→Bool
 | .lst _=>true
 | .tup _=>true
 | .gm _ _=>true
 | _=>false
noncomputable def qg (H H':Hp):Prop:=∀b o,Ml o=true→H b=some o→H' b=some o
theorem qg.refl (H:Hp):qg H H:=fun _ _ _ h=>h
theorem qg.trans {H H1 H2:Hp}(x:qg H H1) (y:qg H1 H2):qg H H2:=fun b o s h=>y b o s (x b o s h)
theorem qg.seq {K:PySem.W.Frag}{H H':Hp}{a:Addr}{xs:List V}(e:qg H H') (h:iO K H a xs):iO K H' a xs:=by
 rcases h with(h | ⟨o,h⟩) | h
 ·exact .inl (.inl (e _ _ rfl h))
 ·exact .inl (.inr ⟨o,e _ _ rfl h⟩)
 ·exact .inr h
theorem qg.of {H H':Hp}(x:nU H H'):qg H H':=fun b o _ h=>x b o h
theorem aG.length {H:Hp}:∀{vs:List V}{ds:List D},aG H vs ds→vs.length=ds.length
 | _,_,.nil=>rfl
 | _,_,.cons _ rs=>congrArg Nat.succ (aG.length rs)
theorem aG.get {H:Hp}:∀{vs:List V}{ds:List D}{i:Nat}{d:D},aG H vs ds→ds[i]? =some d→∃v,vs[i]? =some v∧Rep H v d
 | _,_,_,_,.nil,e=>by simp at e
 | _,_,0,_,.cons r _,e=>by simp at e;subst e;exact⟨_,rfl,r⟩
 | _,_,i+1,_,.cons _ rs,e=>by
  obtain⟨v,h1,h2⟩:=aG.get (i:=i) rs (by simpa using e)
  exact⟨v,by simpa using h1,h2⟩
theorem aG.append {H:Hp}:∀{vs ws:List V}{ds es:List D},aG H vs ds→aG H ws es→aG H (vs++ws) (ds++es)
 | _,_,_,_,.nil,s=>s
 | _,_,_,_,.cons r rs,s=>.cons r (aG.append rs s)
theorem aG.take {H:Hp}:∀{vs:List V}{ds:List D}(n:Nat),aG H vs ds→aG H (vs.take n) (ds.take n)
 | _,_,0,_=>.nil
 | _,_,_+1,.nil=>.nil
 | _,_,n+1,.cons r rs=>.cons r (aG.take n rs)
theorem aG.drop {H:Hp}:∀{vs:List V}{ds:List D}(n:Nat),aG H vs ds→aG H (vs.drop n) (ds.drop n)
 | _,_,0,rs=>rs
 | _,_,_+1,.nil=>.nil
 | _,_,n+1,.cons _ rs=>aG.drop n rs
noncomputable def D7:D→String
 | .bS=>"NoneType" | .bl _=>"bool" | .int _=>"int" | .str _=>"str" | .tup _=>"tuple" | .lst _=>"list"
open PySem.W in
noncomputable def d7 (T U:String):Option Bool:=if(Value.type T == Value.type U)=true then some true else if kitMeta U=true then(fastBuiltinMro T).map (·.contains (Value.type U)) else none
theorem Rep.ty {K:PySem.W.Frag}{H:Hp}{v:V}{d:D}(r:Rep H v d):nA K H v (.type (D7 d)):=by
 cases r with
 | bS=>exact .bS
 | bl b=>exact .bl b
 | int i=>exact .int i
 | str z=>exact .str z
 | tup e _=>exact .tup e
 | lst e _=>exact .lst e
noncomputable def we:D→Bool
 | .tup _=>true
 | _=>false
noncomputable def A2:D→Bool
 | .lst _=>true
 | _=>false
noncomputable def j8:D→Bool
 | .str _=>true
 | _=>false
noncomputable def A3:D→Bool
 | .bl _=>true
 | _=>false
noncomputable def wg:D→Bool
 | .int _=>true
 | .bl _=>true
 | _=>false
theorem C8 {K:PySem.W.Frag}(d:D):PySem.W.kitOne K (.type (D7 d)) (.type "tuple")=some (we d):=by
 cases d with
 | bS=>exact(show d7 "NoneType" "tuple" =some false by decide +kernel)
 | bl b=>exact(show d7 "bool" "tuple" =some false by decide +kernel)
 | int i=>exact(show d7 "int" "tuple" =some false by decide +kernel)
 | str z=>exact(show d7 "str" "tuple" =some false by decide +kernel)
 | tup ds=>exact(show d7 "tuple" "tuple" =some true by decide +kernel)
 | lst ds=>exact(show d7 "list" "tuple" =some false by decide +kernel)
theorem C9 {K:PySem.W.Frag}(d:D):PySem.W.kitOne K (.type (D7 d)) (.type "list")=some (A2 d):=by
 cases d with
 | bS=>exact(show d7 "NoneType" "list" =some false by decide +kernel)
 | bl b=>exact(show d7 "bool" "list" =some false by decide +kernel)
 | int i=>exact(show d7 "int" "list" =some false by decide +kernel)
 | str z=>exact(show d7 "str" "list" =some false by decide +kernel)
 | tup ds=>exact(show d7 "tuple" "list" =some false by decide +kernel)
 | lst ds=>exact(show d7 "list" "list" =some true by decide +kernel)
theorem A4 {K:PySem.W.Frag}(d:D):PySem.W.kitOne K (.type (D7 d)) (.type "str")=some (j8 d):=by
 cases d with
 | bS=>exact(show d7 "NoneType" "str" =some false by decide +kernel)
 | bl b=>exact(show d7 "bool" "str" =some false by decide +kernel)
 | int i=>exact(show d7 "int" "str" =some false by decide +kernel)
 | str z=>exact(show d7 "str" "str" =some true by decide +kernel)
 | tup ds=>exact(show d7 "tuple" "str" =some false by decide +kernel)
 | lst ds=>exact(show d7 "list" "str" =some false by decide +kernel)
theorem Fi {K:PySem.W.Frag}(d:D):PySem.W.kitOne K (.type (D7 d)) (.type "bool")=some (A3 d):=by
 cases d with
 | bS=>exact(show d7 "NoneType" "bool" =some false by decide +kernel)
 | bl b=>exact(show d7 "bool" "bool" =some true by decide +kernel)
 | int i=>exact(show d7 "int" "bool" =some false by decide +kernel)
 | str z=>exact(show d7 "str" "bool" =some false by decide +kernel)
 | tup ds=>exact(show d7 "tuple" "bool" =some false by decide +kernel)
 | lst ds=>exact(show d7 "list" "bool" =some false by decide +kernel)
theorem Dc {K:PySem.W.Frag}(d:D):PySem.W.kitOne K (.type (D7 d)) (.type "int")=some (wg d):=by
 cases d with
 | bS=>exact(show d7 "NoneType" "int" =some false by decide +kernel)
 | bl b=>exact(show d7 "bool" "int" =some true by decide +kernel)
 | int i=>exact(show d7 "int" "int" =some true by decide +kernel)
 | str z=>exact(show d7 "str" "int" =some false by decide +kernel)
 | tup ds=>exact(show d7 "tuple" "int" =some false by decide +kernel)
 | lst ds=>exact(show d7 "list" "int" =some false by decide +kernel)
end L2
end
section
set_option Elab.async false
set_option linter.all false
set_option maxRecDepth 100000
namespace HT
open PySem PySem.Spec PyProof.Rows
section
variable {prog:Program}{w:World}{A:Around}{E:Value→Shared→Prop}{s:Shared}
end
end HT
end
section
set_option Elab.async false
set_option linter.all false
set_option maxRecDepth 100000
namespace L2
open PySem PySem.Spec PyProof.Rows
section
variable {X:Cx}
theorem Rep.gD {H:Hp}{v:V}{ds:List D}(r:Rep H v (.tup ds)):∃a vs,v= .ref a∧H a=some (.tup vs)∧aG H vs ds:=by
 cases r with
 | tup e rs=>exact⟨_,_,rfl,e,rs⟩
theorem Rep.gg {H:Hp}{v:V}{ds:List D}(r:Rep H v (.lst ds)):∃a vs,v= .ref a∧H a=some (.lst vs)∧aG H vs ds:=by
 cases r with
 | lst e rs=>exact⟨_,_,rfl,e,rs⟩
noncomputable def cutD (ds:List D) (lo hi:Option Int):List D:=(ds.drop (HT.qb ds.length 0 lo)).take (HT.qb ds.length ds.length hi - HT.qb ds.length 0 lo)
theorem aG.gC {H:Hp}{vs:List V}{ds:List D}{i:Int}{d:D}(r:aG H vs ds) (h:L2.gC ds i=some d):∃v,L2.gC vs i=some v∧Rep H v d:=by
 have hl:=r.length
 unfold L2.gC at h ⊢
 rw[hl]
 cases e:Cz ds.length i with
 | none=>rw[e] at h;cases h
 | some j=>
  rw[e] at h
  exact r.get h
end
end L2
end
section
set_option Elab.async false
set_option linter.all false
set_option maxRecDepth 100000
namespace L2
open PySem PySem.Spec PyProof.Rows
theorem ug {scope:Scope}{env:Env}{n:Str}{k:NameKind}(h:(relabel scope env).names.lookup n=some k):(n,k)∈(relabel scope env).names:=PySem.mem_of_lookup h
theorem iQ {X:Cx}{x:Str}{scope:Scope}(h1:∀y∈scope.names,y.2≠.free) (h2:∀y∈scope.names,y.2≠.cell) (h3:scope.kind= .function) (h4:∀y∈scope.names,y.2= .local→scope.names.lookup y.1=some .local) (h5:scope.names.lookup x=some .local):
  gW X x [] [] scope []:=by
 refine⟨closureFor_none h1,h2,h3,h4,h5,fun n c h=>(by cases h),fun n h=>?_,by simp,rfl,fun j n h=>(by simp at h),fun n h=>(by simp at h)⟩
 have no:∀k,(k=NameKind.cell∨k=NameKind.free)→(relabel scope X.env).names.lookup n≠some k:=fun k hk e=>by
  have m:=ug e
  unfold relabel at m
  obtain⟨⟨n',k'⟩,hm,q⟩:=List.mem_map.mp m
  have z:(k' == NameKind.free)=false:=by simpa using h1 _ hm
  simp only[z,Bool.false_and,if_false] at q
  have q2:k'=k:=by
   have:=congrArg Prod.snd q
   simpa using this
  rcases hk with rfl | rfl
  ·exact h2 _ hm q2
  ·exact h1 _ hm q2
 rcases h with h | h
 ·exact absurd h (no _ (.inl rfl))
 ·exact absurd h (no _ (.inr rfl))
mutual
noncomputable def Fj (n:Nat):D→Prop
 | .str z=>z.length≤n
 | .tup ds=>ds.length≤n∧Fits n ds
 | .lst ds=>ds.length≤n∧Fits n ds
 | .bS=>True
 | .bl _=>True
 | .int _=>True
noncomputable def Fits (n:Nat):List D→Prop
 | []=>True
 | d :: ds=>Fj n d∧Fits n ds
end
mutual
theorem Fj.mono {n m:Nat}(l:n≤m):∀{d:D},Fj n d→Fj m d
 | .str _,h=>Nat.le_trans h l
 | .tup _,h=>⟨Nat.le_trans h.1 l,Fits.mono l h.2⟩
 | .lst _,h=>⟨Nat.le_trans h.1 l,Fits.mono l h.2⟩
 | .bS,_=>True.intro
 | .bl _,_=>True.intro
 | .int _,_=>True.intro
theorem Fits.mono {n m:Nat}(l:n≤m):∀{ds:List D},Fits n ds→Fits m ds
 | [],_=>True.intro
 | _ :: _,h=>⟨Fj.mono l h.1,Fits.mono l h.2⟩
end
theorem Fits.append {n:Nat}:∀{ds es:List D},Fits n ds→Fits n es→Fits n (ds++es)
 | [],_,_,h=>h
 | _ :: _,_,h,k=>⟨h.1,Fits.append h.2 k⟩
theorem Fits.take {n:Nat}:∀{ds:List D}(k:Nat),Fits n ds→Fits n (ds.take k)
 | _,0,_=>True.intro
 | [],_+1,_=>True.intro
 | _ :: _,k+1,h=>⟨h.1,Fits.take k h.2⟩
theorem Fits.drop {n:Nat}:∀{ds:List D}(k:Nat),Fits n ds→Fits n (ds.drop k)
 | _,0,h=>h
 | [],_+1,_=>True.intro
 | _ :: _,k+1,h=>Fits.drop k h.2
theorem Fits.get {n:Nat}:∀{ds:List D}{i:Nat}{d:D},Fits n ds→ds[i]? =some d→Fj n d
 | [],_,_,_,e=>by simp at e
 | _ :: _,0,_,h,e=>by simp at e;subst e;exact h.1
 | _ :: _,i+1,_,h,e=>Fits.get (i:=i) h.2 (by simpa using e)
noncomputable def eL (d:D) (l m:Int):Bool:=match d with
 | .int i=>decide (l≤i) && decide (i≤m)
 | _=>false
noncomputable def nY (d:D) (l m:Int):Bool:=match d with
 | .tup ds=>decide (l≤(ds.length:Int)) && decide ((ds.length:Int)≤m)
 | _=>false
end L2
end
section
set_option Elab.async false
set_option linter.all false
set_option maxRecDepth 100000
namespace L2
open PySem PySem.Spec PyProof.Rows
theorem vals3 {x y z:V}{us:List Value}(r:Vals [x,y,z] us):∃u v w',us=[u,v,w']∧RelV x u∧RelV y v∧RelV z w':=by
 cases r with
 | cons r1 r=>
  obtain⟨v,w',rfl,r2,r3⟩:=vals2 r
  exact⟨_,_,_,rfl,r1,r2,r3⟩
end L2
end
section
set_option Elab.async false
set_option linter.all false
set_option maxRecDepth 100000
namespace L2
open PySem PySem.Spec PyProof.Rows
theorem y9 {X:Cx}(hc:X.calm=true):bZ X (.builtin "min") (fun xs H Q=>∃i j k:Int,xs=[.int i,.int j,.int k]∧Q (.int (if j < i then(if k < j then k else j) else if k < i then k else i)) H):=by
 intro pins s σ H xs us Q I r h
 obtain⟨i,j,k,rfl,q⟩:=h
 obtain⟨u,v,w',rfl,⟨t,rfl⟩,⟨t',rfl⟩,⟨t'',rfl⟩⟩:=vals3 r
 refine min_three_ints (I.ok.hd hc) fun h' tk kk=>⟨_,H,I.kept kk,?_,q⟩
 by_cases h1:j < i
 ·rw[if_pos h1,if_pos h1]
  by_cases h2:k < j
  ·rw[if_pos h2,if_pos h2];exact⟨_,rfl⟩
  ·rw[if_neg h2,if_neg h2];exact⟨_,rfl⟩
 ·rw[if_neg h1,if_neg h1]
  by_cases h2:k < i
  ·rw[if_pos h2,if_pos h2];exact⟨_,rfl⟩
  ·rw[if_neg h2,if_neg h2];exact⟨_,rfl⟩
end L2
end
section
set_option Elab.async false
set_option linter.all false
set_option maxRecDepth 100000
namespace L2
open PySem PySem.Spec PyProof.Rows
mutual
noncomputable def toPy:D→PyData
 | .bS=>.none
 | .bl b=>.bool b
 | .int i=>.int i
 | .str z=>.str z
 | .tup ds=>.tuple (dH ds)
 | .lst ds=>.list (dH ds)
noncomputable def dH:List D→List PyData
 | []=>[]
 | d :: ds=>toPy d :: dH ds
end
section
variable {X:Cx}{pins:List (Addr×Obj)}{σ:St}{H:Hp}{s:Shared}
end
mutual
theorem mU:∀d:D,(toPy d).hasDict=false
 | .bS=>rfl
 | .bl _=>rfl
 | .int _=>rfl
 | .str _=>rfl
 | .tup ds=>iR ds
 | .lst ds=>iR ds
theorem iR:∀ds:List D,PyData.hasDictAll (dH ds)=false
 | []=>rfl
 | d :: ds=>by
  show((toPy d).hasDict || PyData.hasDictAll (dH ds))=false
  rw[mU d,iR ds]
  rfl
end
end L2
end
section
set_option Elab.async false
set_option linter.all false
set_option maxRecDepth 100000
namespace L2
open PySem PySem.Spec PyProof.Rows
inductive MO where
 | lst (ds:List D)
 | dct (kvs:List (Key×D))
 | vR (kvs:List (List Key×D))
inductive U where
 | t (d:D) | m (o:MO) | b (o:MO) | v (i:Nat) | s (ns:List Int) | f (a:Addr)
noncomputable abbrev SS:=List (Option U)
noncomputable def Sub (F H:Hp):Prop:=∀a o,F a=some o→H a=some o
noncomputable def eG {κ:Type}(F:Hp) (p:κ×V) (q:κ×D):Prop:=p.1=q.1∧Rep F p.2 q.2
noncomputable def At (F H:Hp) (a:Addr):MO→Prop
 | .lst ds=>∃vs,H a=some (.lst vs)∧aG F vs ds
 | .dct kvs=>∃ws,H a=some (.dK ws)∧Paired (eG F) ws kvs
 | .vR kvs=>∃ws,H a=some (.dT ws)∧Paired (eG F) ws kvs
noncomputable def cZ:U→Bool
 | .m _=>true
 | .b _=>true
 | _=>false
noncomputable def cg (S:SS) (σ:St) (a:Addr):Prop:=∃(i:Nat) (u:U),S[i]? =some (some u)∧cZ u=true∧σ[i]? =some (some (.ref a))
noncomputable def Dd (K:PySem.W.Frag) (H:Hp) (a:Addr) (ns:List Int):Prop:=
 (∃o,H a=some (.gm o (.lst (ns.map V.int))))∨∃(o:Obj) (its:Array Value) (n:Nat),K.lookup a=some o∧o.cls= .type "list"∧o.dict=none∧o.data= .seq its n∧its.size≤sizeLine∧Vals (ns.map V.int) its.toList
theorem Dd.sq {K:PySem.W.Frag}{H:Hp}{a:Addr}{ns:List Int}:Dd K H a ns→iO K H a (ns.map V.int)
 | .inl h=>.inl (.inr h)
 | .inr h=>.inr h
noncomputable def uh (K:PySem.W.Frag) (F H:Hp) (v:V):U→Prop
 | .t d=>Rep F v d
 | .m o=>∃a,v= .ref a∧F a=none∧At F H a o
 | .b o=>∃a,v= .ref a∧F a=none∧At F H a o
 | .v _=>False
 | .s ns=>∃a,v= .ref a∧Dd K H a ns
 | .f a=>v= .ref a
structure Ext (M:Addr→Prop) (F H F' H':Hp):Prop where
 le:∀b o,F b=some o→F' b=some o
 keep:∀b o,H b=some o→¬M b→H' b=some o
 fV:∀b o,H b=some o→¬M b→F b=none→F' b=none
 there:∀b o,H b=some o→∃o',H' b=some o'
 gm:∀b o u,H b=some (.gm o u)→H' b=some (.gm o u)
structure Base where
 P:List (Option Addr)
 F:Hp
 H:Hp
noncomputable def Base.M (B:Base) (a:Addr):Prop:=some a∈B.P
structure Rel (K:PySem.W.Frag) (B:Base) (S:SS) (σ:St) (F H:Hp):Prop where
 sub:Sub F H
 len:S.length=σ.length
 rep:∀(i:Nat) u,S[i]? =some (some u)→∃v,σ[i]? =some (some v)∧uh K F H v u
 xR:∀(i j:Nat) u w a,S[i]? =some (some u)→cZ u=true→S[j]? =some (some w)→cZ w=true→σ[i]? =some (some (.ref a))→σ[j]? =some (some (.ref a))→i=j
 own:∀(i:Nat) o a,S[i]? =some (some (.m o))→σ[i]? =some (some (.ref a))→B.H a=none
 bor:∀(i:Nat) o a,S[i]? =some (some (.b o))→σ[i]? =some (some (.ref a))→B.M a
 par:∀(i:Nat) a,B.P[i]? =some (some a)→σ[i]? =some (some (.ref a))∧∃o,S[i]? =some (some (.b o))
 ext:Ext B.M B.F B.H F H
structure Step (S S':SS) (σ:St) (F H F' H':Hp):Prop where
 ext:Ext (cg S σ) F H F' H'
 mu:∀a,cg S' σ a→cg S σ a
 slots:∀(i:Nat) u,S[i]? =some (some u)→∃u',S'[i]? =some (some u')
theorem Ext.refl (M:Addr→Prop) (F H:Hp):Ext M F H F H:=⟨fun _ _ h=>h,fun _ _ h _=>h,fun _ _ _ _ h=>h,fun _ o h=>⟨o,h⟩,fun _ _ _ h=>h⟩
theorem Ext.trans {M M':Addr→Prop}{F H F1 H1 F2 H2:Hp}(x:Ext M F H F1 H1) (y:Ext M' F1 H1 F2 H2) (s:∀b,M' b→M b∨H b=none):Ext M F H F2 H2 where
 le:=fun b o h=>y.le b o (x.le b o h)
 keep:=fun b o h n=>y.keep b o (x.keep b o h n) fun q=>(s b q).elim n fun z=>by rw[h] at z;cases z
 fV:=fun b o h n f=>y.fV b o (x.keep b o h n) (fun q=>(s b q).elim n fun z=>by rw[h] at z;cases z) (x.fV b o h n f)
 there:=fun b o h=>let⟨o',h'⟩:=x.there b o h;y.there b o' h'
 gm:=fun b o u h=>y.gm b o u (x.gm b o u h)
theorem Step.refl (S:SS) (σ:St) (F H:Hp):Step S S σ F H F H:=⟨Ext.refl _ _ _,fun _ h=>h,fun _ u h=>⟨u,h⟩⟩
theorem Step.trans {S S1 S2:SS}{σ:St}{F H F1 H1 F2 H2:Hp}(x:Step S S1 σ F H F1 H1) (y:Step S1 S2 σ F1 H1 F2 H2):Step S S2 σ F H F2 H2:=
 ⟨x.ext.trans y.ext fun b q=>.inl (x.mu b q),fun a q=>x.mu a (y.mu a q),fun i u h=>let⟨u',h'⟩:=x.slots i u h;y.slots i u' h'⟩
mutual
theorem Rep.le {F F':Hp}(g:∀b o,F b=some o→F' b=some o):∀{v:V}{d:D},Rep F v d→Rep F' v d
 | _,_,.bS=>.bS
 | _,_,.bl b=>.bl b
 | _,_,.int i=>.int i
 | _,_,.str z=>.str z
 | _,_,.tup e r=>.tup (g _ _ e) (aG.le g r)
 | _,_,.lst e r=>.lst (g _ _ e) (aG.le g r)
theorem aG.le {F F':Hp}(g:∀b o,F b=some o→F' b=some o):∀{vs:List V}{ds:List D},aG F vs ds→aG F' vs ds
 | _,_,.nil=>.nil
 | _,_,.cons r rs=>.cons (Rep.le g r) (aG.le g rs)
end
theorem um {κ:Type}{F F':Hp}(g:∀b o,F b=some o→F' b=some o){ws:List (κ×V)}{kvs:List (κ×D)}(r:Paired (eG F) ws kvs):Paired (eG F') ws kvs:=
 Paired.yD r fun _ _ z=>⟨z.1,z.2.le g⟩
theorem At.le {F F' H H':Hp}{a:Addr}(g:∀b o,F b=some o→F' b=some o) (k:∀o,H a=some o→H' a=some o):∀{o:MO},At F H a o→At F' H' a o
 | .lst _,⟨vs,e,r⟩=>⟨vs,k _ e,r.le g⟩
 | .dct _,⟨ws,e,r⟩=>⟨ws,k _ e,um g r⟩
 | .vR _,⟨ws,e,r⟩=>⟨ws,k _ e,um g r⟩
theorem At.has {F H:Hp}{a:Addr}:∀{o:MO},At F H a o→∃u,H a=some u
 | .lst _,⟨_,e,_⟩=>⟨_,e⟩
 | .dct _,⟨_,e,_⟩=>⟨_,e⟩
 | .vR _,⟨_,e,_⟩=>⟨_,e⟩
noncomputable def fY (K:PySem.W.Frag) (B:Base) (S:SS) (σ:St) (H0 F H:Hp) (v:V):U→Prop
 | .t d=>Rep F v d
 | .m o=>∃a,v= .ref a∧H0 a=none∧F a=none∧At F H a o∧¬cg S σ a∧B.H a=none
 | .v i=>σ[i]? =some (some v)∧∃u,S[i]? =some (some u)
 | .b _=>False
 | .s ns=>∃a,v= .ref a∧Dd K H a ns
 | .f a=>v= .ref a
theorem PE.imp {X:Cx}{e:Expr}{t t':TE}(h:PE X e t) (k:∀σ H Q,t' σ H Q→t σ H Q):PE X e t':=fun pins s σ H Q I q=>h pins s σ H Q I (k σ H Q q)
theorem PT.imp {X:Cx}{e:Expr}{t t':TT}(h:PT X e t) (k:∀σ H Q,t' σ H Q→t σ H Q):PT X e t':=fun pins s σ H Q I q=>h pins s σ H Q I (k σ H Q q)
theorem PW.imp {X:Cx}{e:Expr}{t t':TT}(h:PW X e t) (k:∀σ H Q,t' σ H Q→t σ H Q):PW X e t':=fun w pins s σ H Q I q=>h w pins s σ H Q I (k σ H Q q)
theorem PA.imp {X:Cx}{e:List Expr}{t t':TA}(h:PA X e t) (k:∀σ H Q,t' σ H Q→t σ H Q):PA X e t':=fun p pins s σ H Q I q=>h p pins s σ H Q I (k σ H Q q)
theorem PS.imp {X:Cx}{e:Stmt}{t t':TS}(h:PS X e t) (k:∀D σ H,t' D σ H→t D σ H):PS X e t':=fun pins s σ H Q I q=>h pins s σ H Q I (k Q σ H q)
theorem vQ.imp {X:Cx}{e:List Stmt}{t t':TS}(h:vQ X e t) (k:∀D σ H,t' D σ H→t D σ H):vQ X e t':=fun pins s σ H Q I q=>h pins s σ H Q I (k Q σ H q)
theorem PE.orelse {X:Cx}{e:Expr}{t:TE}(h:∀σ H Q,t σ H Q→∃t',PE X e t'∧t' σ H Q):PE X e t:=fun pins s σ H Q I q=>let⟨_,h1,h2⟩:=h σ H Q q;h1 pins s σ H Q I h2
theorem PS.orelse {X:Cx}{e:Stmt}{t:TS}(h:∀D σ H,t D σ H→∃t',PS X e t'∧t' D σ H):PS X e t:=fun pins s σ H Q I q=>let⟨_,h1,h2⟩:=h Q σ H q;h1 pins s σ H Q I h2
noncomputable abbrev GE:=SS→Option (U×SS)
noncomputable abbrev GD:=SS→Option (D×SS)
noncomputable abbrev GT:=SS→Option (Bool×SS)
noncomputable abbrev GA:=SS→Option (List D×SS)
inductive Out where
 | nx (S:SS) | rt (u:U) (S:SS) | bk (S:SS) | ct (S:SS)
noncomputable abbrev GS:=SS→Option Out
noncomputable def tE (K:PySem.W.Frag) (B:Base) (g:GE):TE:=fun σ H Q=>∃S F u S',Rel K B S σ F H∧g S=some (u,S')∧∀v F' H',Rel K B S' σ F' H'→Step S S' σ F H F' H'→fY K B S' σ H F' H' v u→Q v H'
noncomputable def tD (K:PySem.W.Frag) (B:Base) (g:GD):TE:=fun σ H Q=>∃S F d S',Rel K B S σ F H∧g S=some (d,S')∧∀v F' H',Rel K B S' σ F' H'→Step S S' σ F H F' H'→Rep F' v d→Q v H'
noncomputable def tQ (K:PySem.W.Frag) (B:Base) (g:GT):TT:=fun σ H Q=>∃S F b S',Rel K B S σ F H∧g S=some (b,S')∧∀F' H',Rel K B S' σ F' H'→Step S S' σ F H F' H'→Q b H'
noncomputable def Pu (K:PySem.W.Frag) (B:Base) (g:GA):TA:=fun σ H Q=>∃S F ds S',Rel K B S σ F H∧g S=some (ds,S')∧∀vs F' H',Rel K B S' σ F' H'→Step S S' σ F H F' H'→aG F' vs ds→Q vs H'
noncomputable def xS (K:PySem.W.Frag) (B:Base) (F:Hp) (D:Ends):Out→Prop
 | .nx S=>∀σ' F' H',Rel K B S σ' F' H'→(∀b o,F b=some o→F' b=some o)→D.nx σ' H'
 | .bk S=>∀σ' F' H',Rel K B S σ' F' H'→(∀b o,F b=some o→F' b=some o)→D.bk σ' H'
 | .ct S=>∀σ' F' H',Rel K B S σ' F' H'→(∀b o,F b=some o→F' b=some o)→D.ct σ' H'
 | .rt u S=>∀v σ' F' H',Rel K B S σ' F' H'→(∀b o,F b=some o→F' b=some o)→fY K B S σ' B.H F' H' v u→D.rt v H'
noncomputable def tO (K:PySem.W.Frag) (B:Base) (g:GS):TS:=fun D σ H=>∃S F o,Rel K B S σ F H∧g S=some o∧xS K B F D o
structure JE (X:Cx) (e:Expr) (g:GE):Prop where
 h:∀B,PE X e (tE X.K B g)
structure JD (X:Cx) (e:Expr) (g:GD):Prop where
 h:∀B,PE X e (tD X.K B g)
structure JT (X:Cx) (e:Expr) (g:GT):Prop where
 h:∀B,PT X e (tQ X.K B g)
structure JW (X:Cx) (e:Expr) (g:GT):Prop where
 h:∀B,PW X e (tQ X.K B g)
structure JA (X:Cx) (es:List Expr) (g:GA):Prop where
 h:∀B,PA X es (Pu X.K B g)
structure JS (X:Cx) (st:Stmt) (g:GS):Prop where
 h:∀B,PS X st (tO X.K B g)
structure JB (X:Cx) (st:List Stmt) (g:GS):Prop where
 h:∀B,vQ X st (tO X.K B g)
noncomputable def fz:U→SS→Option (D×SS)
 | .t d,S=>some (d,S)
 | .m (.lst ds),S=>some (.lst ds,S)
 | .v i,S=>match S[i]? with
  | some (some (.t d))=>some (d,S)
  | some (some (.m (.lst ds)))=>some (.lst ds,S.set i (some (.t (.lst ds))))
  | _=>none
 | _,_=>none
theorem get_set {α:Type}{l:List α}{i j:Nat}{x y:α}(h:(l.set i x)[j]? =some y):(i=j∧x=y∧i < l.length)∨(i≠j∧l[j]? =some y):=by
 by_cases e:i=j
 ·subst e
  by_cases hl:i < l.length
  ·rw[List.getElem?_set_self hl] at h;exact .inl ⟨rfl,Option.some.inj h,hl⟩
  ·rw[List.getElem?_eq_none (by simpa using hl)] at h;cases h
 ·rw[List.getElem?_set_ne e] at h;exact .inr ⟨e,h⟩
theorem Sub.gm {F H:Hp}{a:Addr}{o:HO}(s:Sub F H) (h:H a=some o):Sub (upd F a o) H:=fun b u e=>by
 by_cases hb:b=a
 ·subst hb;rw[aF] at e;cases e;exact h
 ·rw[aA hb] at e;exact s b u e
theorem Sub.fresh {F H:Hp}{p:Addr}(s:Sub F H) (h:H p=Option.none):F p=Option.none:=by
 cases e:F p with
 | none=>rfl
 | some o=>have q:=s p o e;rw[h] at q;cases q
theorem j9 {F:Hp}{a:Addr}{o:HO}(h:F a=none):∀b u,F b=some u→upd F a o b=some u:=fun b u e=>by rw[aA (aI e h)];exact e
theorem Dd.le {K:PySem.W.Frag}{H H':Hp}{a:Addr}{ns:List Int}(k:∀b o u,H b=some (.gm o u)→H' b=some (.gm o u)):Dd K H a ns→Dd K H' a ns
 | .inl ⟨o,h⟩=>.inl ⟨o,k _ _ _ h⟩
 | .inr h=>.inr h
theorem uh.le {K:PySem.W.Frag}{F F' H H':Hp}{v:V}(g:∀b o,F b=some o→F' b=some o) (kf:∀b o u,H b=some (.gm o u)→H' b=some (.gm o u)):∀{u:U},uh K F H v u→(∀a,cZ u=true→v= .ref a→(∀o,H a=some o→H' a=some o)∧F' a=none)→uh K F' H' v u
 | .t _,h,_=>Rep.le g h
 | .m _,⟨a,e,_,h⟩,k=>let⟨k1,k2⟩:=k a rfl e;⟨a,e,k2,h.le g k1⟩
 | .b _,⟨a,e,_,h⟩,k=>let⟨k1,k2⟩:=k a rfl e;⟨a,e,k2,h.le g k1⟩
 | .v _,h,_=>h
 | .s _,⟨a,e,h⟩,_=>⟨a,e,h.le kf⟩
 | .f _,h,_=>h
theorem A5 {K : PySem.W.Frag} {B : Base} {S S' : SS} {σ : St} {H0 F0 F H : Hp} {v : V} {u : U} {d : D} {S0 : SS} (R : Rel K B S σ F H) (st : Step S0 S σ F0 H0 F H) (r : fY K B S σ H0 F H v u) (e : fz u S = some (d, S')) :
    ∃F',Rel K B S' σ F' H∧Step S0 S' σ F0 H0 F' H∧Rep F' v d:=by
  cases u with
  | t d'=>cases e;exact⟨F,R,st,r⟩
  | b o=>cases r
  | s o=>cases e
  | f o=>cases e
  | m o =>
    cases o with
    | dct kvs=>cases e
    | vR kvs=>cases e
    | lst ds=>
      cases e
      obtain⟨a,rfl,h0,hf,⟨vs,ha,rs⟩,nm,hB⟩:=r
      have g:=j9 (o:=.lst vs) hf
      refine⟨upd F a (.lst vs),⟨R.sub.gm ha,R.len,fun i u h=>?_,R.xR,R.own,R.bor,R.par,?_⟩,⟨⟨fun b o h=>g b o (st.ext.le b o h),st.ext.keep,fun b o h n f=>?_,st.ext.there,st.ext.gm⟩,st.mu,st.slots⟩,.lst aF (rs.le g)⟩
      · obtain⟨w,h1,h2⟩:=R.rep i u h
        refine⟨w,h1,h2.le g (fun _ _ _ z=>z) fun c hm hc=>⟨fun o q=>q,?_⟩⟩
        have hca:c≠a:=fun z=>nm ⟨i,u,h,hm,by rw[h1,hc,z]⟩
        rw[aA hca]
        cases u with
        | m o=>obtain⟨c',e',f',_⟩:=h2;rw[hc] at e';cases e';exact f'
        | b o=>obtain⟨c',e',f',_⟩:=h2;rw[hc] at e';cases e';exact f'
        | t d=>cases hm
        | v j=>cases hm
        | s j=>cases hm
        | f j=>cases hm
      · exact⟨fun b o h=>g b o (R.ext.le b o h),R.ext.keep,fun b o h n f=>by rw[aA (fun z=>by rw[z,hB] at h;cases h)];exact R.ext.fV b o h n f,R.ext.there,R.ext.gm⟩
      · rw[aA (fun z=>by rw[z,h0] at h;cases h)]
        exact st.ext.fV b o h n f
  | v i =>
    obtain⟨hv,u,hu⟩:=r
    unfold fz at e
    simp only[hu] at e
    cases u with
    | t d'=>
      cases e
      obtain⟨w,h1,h2⟩:=R.rep i _ hu
      rw[hv] at h1
      cases h1
      exact⟨F,R,st,h2⟩
    | b o=>cases e
    | v j=>cases e
    | s j=>cases e
    | f j=>cases e
    | m o =>
      cases o with
      | dct kvs=>cases e
      | vR kvs=>cases e
      | lst ds =>
        cases e
        obtain⟨w,h1,a,rfl,hf,⟨vs,ha,rs⟩⟩:=R.rep i _ hu
        have hiv:σ[i]? =some (some (.ref a)):=h1
        rw[hv] at h1
        cases h1
        have hB:=R.own i _ a hu hiv
        have g:=j9 (o:=.lst vs) hf
        have back:∀j w,(S.set i (some (.t (.lst ds))))[j]? =some (some w)→cZ w=true→i≠j∧S[j]? =some (some w):=fun j w h hm=>by
          rcases get_set h with⟨_,q,_⟩ | q
          · cases q;cases hm
          · exact q
        have mu:∀c,cg (S.set i (some (.t (.lst ds)))) σ c→cg S σ c:=fun c ⟨j,w,h,hm,z⟩=>⟨j,w,(back j w h hm).2,hm,z⟩
        refine⟨upd F a (.lst vs),⟨R.sub.gm ha,by rw[List.length_set];exact R.len,fun j u h=>?_,fun j k u w c h1 m1 h2 m2=>R.xR j k u w c (back j u h1 m1).2 m1 (back k w h2 m2).2 m2,fun j o c h=>R.own j o c (back j _ h rfl).2,fun j o c h=>R.bor j o c (back j _ h rfl).2,fun j c h=>?_,?_⟩,
          ⟨⟨fun b o h=>g b o (st.ext.le b o h),st.ext.keep,fun b o h n f=>?_,st.ext.there,st.ext.gm⟩,fun c q=>st.mu c (mu c q),fun j u h=>?_⟩,.lst aF (rs.le g)⟩
        · rcases get_set h with⟨rfl,q,_⟩ | ⟨ne,q⟩
          · cases q
            exact⟨.ref a,hiv,.lst aF (rs.le g)⟩
          · obtain⟨w,h1,h2⟩:=R.rep j u q
            refine⟨w,h1,h2.le g (fun _ _ _ z=>z) fun c hm hc=>⟨fun o q=>q,?_⟩⟩
            have hca:c≠a:=fun z=>ne (R.xR i j _ u a hu rfl q hm hiv (by rw[h1,hc,z]))
            rw[aA hca]
            cases u with
            | m o=>obtain⟨c',e',f',_⟩:=h2;rw[hc] at e';cases e';exact f'
            | b o=>obtain⟨c',e',f',_⟩:=h2;rw[hc] at e';cases e';exact f'
            | t d=>cases hm
            | v j=>cases hm
            | s j=>cases hm
            | f j=>cases hm
        · obtain⟨h1,o,h2⟩:=R.par j c h
          refine⟨h1,o,?_⟩
          have ne:i≠j:=fun z=>by subst z;rw[hu] at h2;cases h2
          rw[List.getElem?_set_ne ne]
          exact h2
        · exact⟨fun b o h=>g b o (R.ext.le b o h),R.ext.keep,fun b o h n f=>by rw[aA (fun z=>by rw[z,hB] at h;cases h)];exact R.ext.fV b o h n f,R.ext.there,R.ext.gm⟩
        · have hb:b≠a:=fun z=>n (st.mu b ⟨i,_,hu,rfl,by rw[z];exact hiv⟩)
          rw[aA hb]
          exact st.ext.fV b o h n f
        · obtain⟨u',h'⟩:=st.slots j u h
          by_cases hj:i=j
          · subst hj
            exact⟨.t (.lst ds),List.getElem?_set_self (List.getElem?_eq_some_iff.mp h').1⟩
          · exact⟨u',by rw[List.getElem?_set_ne hj];exact h'⟩
noncomputable def eF (g:GE):GD:=fun S=>(g S).bind fun p=>fz p.1 p.2
theorem JE.d {X:Cx}{e:Expr}{g:GE}(h:JE X e g):JD X e (eF g):=⟨fun B=>(h.h B).imp fun σ H Q ⟨S,F,d,S',R,hg,q⟩=>by
 unfold eF at hg
 cases e1:g S with
 | none=>rw[e1] at hg;cases hg
 | some p=>
  obtain⟨u,S1⟩:=p
  rw[e1] at hg
  refine⟨S,F,u,S1,R,e1,fun v F1 H1 R1 st1 r1=>?_⟩
  obtain⟨F2,R2,st2,r2⟩:=A5 R1 st1 r1 hg
  exact q v F2 H1 R2 st2 r2⟩
noncomputable def eT (g:GD):GE:=fun S=>(g S).map fun p=>(.t p.1,p.2)
theorem JD.e {X:Cx}{e:Expr}{g:GD}(h:JD X e g):JE X e (eT g):=⟨fun B=>(h.h B).imp fun σ H Q ⟨S,F,u,S',R,hg,q⟩=>by
 unfold eT at hg
 cases e1:g S with
 | none=>rw[e1] at hg;cases hg
 | some p=>
  obtain⟨d,S1⟩:=p
  rw[e1] at hg
  cases hg
  exact⟨S,F,d,S1,R,e1,fun v F1 H1 R1 st1 r1=>q v F1 H1 R1 st1 r1⟩⟩
end L2
end
section
set_option Elab.async false
set_option linter.all false
set_option maxRecDepth 100000
namespace L2
open PySem PySem.Spec PyProof.Rows
structure d8 (F H F' H':Hp):Prop where
 le:∀b o,F b=some o→F' b=some o
 same:∀b o,H b=some o→H' b=some o
 fV:∀b o,H b=some o→F b=none→F' b=none
theorem d8.refl (F H:Hp):d8 F H F H:=⟨fun _ _ h=>h,fun _ _ h=>h,fun _ _ _ h=>h⟩
theorem d8.trans {F H F1 H1 F2 H2:Hp}(x:d8 F H F1 H1) (y:d8 F1 H1 F2 H2):d8 F H F2 H2:=
 ⟨fun b o h=>y.le b o (x.le b o h),fun b o h=>y.same b o (x.same b o h),fun b o h f=>y.fV b o (x.same b o h) (x.fV b o h f)⟩
theorem d8.step {S:SS}{σ:St}{F H F' H':Hp}(n:d8 F H F' H'):Step S S σ F H F' H':=
 ⟨⟨n.le,fun b o h _=>n.same b o h,fun b o h _ f=>n.fV b o h f,fun b o h=>⟨o,n.same b o h⟩,fun b o u h=>n.same b _ h⟩,fun _ h=>h,fun _ u h=>⟨u,h⟩⟩
theorem d8.obj {F H:Hp}{p:Addr}(h:H p=none) (o:HO):d8 F H F (upd H p o):=
 ⟨fun _ _ q=>q,fun b u q=>by rw[aA (aI q h)];exact q,fun _ _ _ q=>q⟩
theorem Rd.same {H H':Hp}{a:Addr}{u:HO}(k:∀b o,H b=some o→H' b=some o):Rd H a u→Rd H' a u
 | .inl h=>.inl (k _ _ h)
 | .inr ⟨o,h⟩=>.inr ⟨o,k _ _ h⟩
theorem Sub.same {F H H':Hp}(s:Sub F H) (k:∀b o,H b=some o→H' b=some o):Sub F H':=fun a o e=>k a o (s a o e)
theorem Sub.nZ {F H:Hp}{p:Addr}{o:HO}(s:Sub F H) (h:H p=none):Sub (upd F p o) (upd H p o):=fun b u e=>by
 by_cases hb:b=p
 ·subst hb;rw[aF] at e;cases e;exact aF
 ·rw[aA hb] at e;have q:=s b u e;rw[aA (aI q h)];exact q
theorem d8.root {F H:Hp}{p:Addr}(s:Sub F H) (h:H p=none) (o:HO):d8 F H (upd F p o) (upd H p o):=
 ⟨j9 (s.fresh h),fun b u q=>by rw[aA (aI q h)];exact q,fun b u q f=>by rw[aA (aI q h)];exact f⟩
theorem Rel.has {K:PySem.W.Frag}{B:Base}{S:SS}{σ:St}{F H:Hp}(R:Rel K B S σ F H){a:Addr}(m:cg S σ a):∃o,H a=some o:=by
 obtain⟨i,u,h,hm,hv⟩:=m
 obtain⟨v,h1,h2⟩:=R.rep i u h
 rw[hv] at h1
 cases h1
 cases u with
 | t d=>cases hm
 | v j=>cases hm
 | s j=>cases hm
 | f j=>cases hm
 | m o=>obtain⟨b,e,_,h⟩:=h2;cases e;exact h.has
 | b o=>obtain⟨b,e,_,h⟩:=h2;cases e;exact h.has
theorem Rel.new {K:PySem.W.Frag}{B:Base}{S:SS}{σ:St}{F H F' H':Hp}(R:Rel K B S σ F H) (n:d8 F H F' H') (s:Sub F' H'):Rel K B S σ F' H' where
 sub:=s
 len:=R.len
 rep:=fun i u h=>by
  obtain⟨v,h1,h2⟩:=R.rep i u h
  refine⟨v,h1,h2.le n.le (fun b o u z=>n.same b _ z) fun a hm ha=>⟨fun o q=>n.same a o q,?_⟩⟩
  obtain⟨o,ho⟩:=R.has ⟨i,u,h,hm,by rw[h1,ha]⟩
  refine n.fV a o ho ?_
  cases u with
  | t d=>cases hm
  | v j=>cases hm
  | s j=>cases hm
  | f j=>cases hm
  | m o=>obtain⟨b,e,f,_⟩:=h2;rw[ha] at e;cases e;exact f
  | b o=>obtain⟨b,e,f,_⟩:=h2;rw[ha] at e;cases e;exact f
 xR:=R.xR
 own:=R.own
 bor:=R.bor
 par:=R.par
 ext:=⟨fun b o h=>n.le b o (R.ext.le b o h),fun b o h m=>n.same b o (R.ext.keep b o h m),fun b o h m f=>n.fV b o (R.ext.keep b o h m) (R.ext.fV b o h m f),fun b o h=>let⟨o',h'⟩:=R.ext.there b o h;⟨o',n.same b o' h'⟩,fun b o u h=>n.same b _ (R.ext.gm b o u h)⟩
noncomputable def A6 (H0 F H:Hp) (v:V):U→Prop
 | .t d=>Rep F v d
 | .m o=>∃a,v= .ref a∧H0 a=none∧F a=none∧At F H a o
 | _=>False
theorem none_of {H H':Hp}{a:Addr}(t:∀b o,H b=some o→∃o',H' b=some o') (h:H' a=none):H a=none:=by
 cases e:H a with
 | none=>rfl
 | some o=>obtain⟨o',h'⟩:=t a o e;rw[h] at h';cases h'
theorem A6.De {K:PySem.W.Frag}{B:Base}{S S0:SS}{σ:St}{H0 F0 F1 H1 F H:Hp}{v:V}{u:U}(R:Rel K B S σ F1 H1) (st:Step S0 S σ F0 H0 F1 H1) (r:A6 H1 F H v u):fY K B S σ H0 F H v u:=by
 cases u with
 | t d=>exact r
 | b o=>cases r
 | v i=>cases r
 | s i=>cases r
 | f i=>cases r
 | m o=>
  obtain⟨a,e,h0,f,h⟩:=r
  refine⟨a,e,none_of st.ext.there h0,f,h,fun m=>?_,none_of R.ext.there h0⟩
  obtain⟨o,ho⟩:=R.has m
  rw[h0] at ho
  cases ho
noncomputable def rP (f:List D→Option U):List V→Hp→VK→Prop:=fun xs H Q=>∃F ds u,Sub F H∧aG F xs ds∧f ds=some u∧∀v F' H',d8 F H F' H'→Sub F' H'→A6 H F' H' v u→Q v H'
noncomputable def mV:D→Bool
 | .tup _=>false
 | .lst _=>false
 | _=>true
noncomputable def toV:D→V
 | .bl b=>.bl b
 | .int i=>.int i
 | .str z=>.str z
 | _=>.bS
theorem uo {F:Hp}:∀{d:D},mV d=true→Rep F (toV d) d
 | .bS,_=>.bS
 | .bl b,_=>.bl b
 | .int i,_=>.int i
 | .str z,_=>.str z
 | .tup _,h=>by cases h
 | .lst _,h=>by cases h
noncomputable def aB (i:Nat):GE:=fun S=>match S[i]? with
 | some (some (.t d))=>some (.t d,S)
 | some (some (.s d))=>some (.s d,S) | some (some (.f d))=>some (.f d,S)
 | some (some _)=>some (.v i,S)
 | _=>none
noncomputable def eC (d:D):GD:=fun S=>some (d,S)
noncomputable def aq:GA:=fun S=>some ([],S)
noncomputable def ah (g:GD) (ga:GA):GA:=fun S=>(g S).bind fun p=>(ga p.2).map fun q=>(p.1 :: q.1,q.2)
noncomputable def eP (f:List D→Option U) (ga:GA):GE:=fun S=>(ga S).bind fun p=>(f p.1).map fun u=>(u,p.2)
section
variable {X:Cx}{a b c e:Expr}{es:List Expr}{pos p p2:Pos}{x:Str}{g ga gb gc:GD}{gA:GA}{f f':List D→Option U}
theorem ak (i:Nat) (hN:X.N[i]? =some x:=by rfl) (hv:Aj X.env.scope x:=by first | exact Or.inl rfl | exact Or.inr (Or.inl rfl) | exact Or.inr (Or.inr rfl)) (hd:(x == ("__debug__":Str))=false:=by decide)
  (hcd:(x == ("__classdict__":Str))=false:=by decide):JE X (.Name x pos) (aB i):=⟨fun B=>(fW hN hv hd hcd).imp fun σ H Q ⟨S,F,u,S',R,hg,q⟩=>by
 unfold aB at hg
 cases hs:S[i]? with
 | none=>rw[hs] at hg;cases hg
 | some o=>
  cases o with
  | none=>rw[hs] at hg;cases hg
  | some w=>
   rw[hs] at hg
   obtain⟨v,h1,h2⟩:=R.rep i w hs
   refine⟨v,h1,?_⟩
   cases w with
   | t d=>cases hg;exact q v F H R (Step.refl ..) h2
   | m o=>cases hg;exact q v F H R (Step.refl ..) ⟨h1,_,hs⟩
   | b o=>cases hg;exact q v F H R (Step.refl ..) ⟨h1,_,hs⟩
   | s j=>cases hg;exact q v F H R (Step.refl ..) h2
   | f j=>cases hg;exact q v F H R (Step.refl ..) h2
   | v j=>cases hg;exact q v F H R (Step.refl ..) ⟨h1,_,hs⟩⟩
theorem za {d:D}(hf:mV d=true) (h:PE X e (tC (toV d))):JD X e (eC d):=⟨fun B=>h.imp fun σ H Q ⟨S,F,u,S',R,hg,q⟩=>by
 cases hg
 exact q _ F H R (Step.refl ..) (uo hf)⟩
theorem aD {i j}:JD X (.Constant (.int i) j pos) (eC (.int i)):=za rfl Ey
theorem oh {i j}:JD X (.Constant (.bool i) j pos) (eC (.bl i)):=za rfl HH
theorem A7 {j}:JD X (.Constant .none j pos) (eC .bS):=za rfl Ez
theorem bN {i j}:JD X (.Constant (.str i) j pos) (eC (.str i)):=za rfl Am
theorem aK:JA X [] aq:=⟨fun B=>rN.imp fun σ H Q ⟨S,F,u,S',R,hg,q⟩=>by
 cases hg
 exact q [] F H R (Step.refl ..) .nil⟩
theorem aa {α β:Type}{o:Option α}{f:α→Option β}{y:β}(h:o.bind f=some y):∃z,o=some z∧f z=some y:=by
 cases o with
 | none=>cases h
 | some z=>exact⟨z,rfl,h⟩
theorem aj {α β:Type}{o:Option α}{f:α→β}{y:β}(h:o.map f=some y):∃z,o=some z∧f z=y:=by
 cases o with
 | none=>cases h
 | some z=>exact⟨z,rfl,Option.some.inj h⟩
theorem az (h:JD X e g) (hr:JA X es gA) (hs:starEach (e :: es) X.env=(false,eval e X.env) :: starEach es X.env:=by rfl):JA X (e :: es) (ah g gA):=
 ⟨fun B=>(jM (h.h B) (hr.h B) hs).imp fun σ H Q ⟨S,F,u,S',R,hg,q⟩=>by
 obtain⟨⟨d,S1⟩,h1,hg⟩:=aa hg
 obtain⟨⟨ds,S2⟩,h2,hg⟩:=aj hg
 cases hg
 exact⟨S,F,d,S1,R,h1,fun v F1 H1 R1 st1 r1=>⟨S1,F1,ds,S2,R1,h2,fun vs F2 H2 R2 st2 r2=>q _ F2 H2 R2 (st1.trans st2) (.cons (r1.le st2.ext.le) r2)⟩⟩⟩
theorem iS {K:PySem.W.Frag}{B:Base}{σ:St}{H:Hp}{Q:VK}{r:List V→Hp→VK→Prop}(hr:∀vs H1 Q1,rP f vs H1 Q1→r vs H1 Q1) (h:tE K B (eP f gA) σ H Q):Pu K B gA σ H fun vs H1=>r vs H1 Q:=by
 obtain⟨S,F,u,S',R,hg,q⟩:=h
 obtain⟨⟨ds,S1⟩,h1,hg⟩:=aa hg
 obtain⟨u',h2,hg⟩:=aj hg
 cases hg
 exact⟨S,F,ds,S1,R,h1,fun vs F1 H1 R1 st1 r1=>hr _ _ _ ⟨F1,ds,_,R1.sub,r1,h2,fun v F2 H2 n s2 r2=>q v F2 H2 (R1.new n s2) (st1.trans n.step) (r2.De R1 st1)⟩⟩
theorem dc {id:String}(hc:bZ X (.builtin id) (rP f)) (hg:Gl X x) (hm:X.mg x=none) (hv:bootBuiltins x=some (.builtin id)) (ha:JA X (e :: es) gA) (hn:x≠"__name__":=by decide) (hdb:(x == ("__debug__":Str))=false:=by decide)
  (he:starEach (e :: es) X.env=(false,eval e X.env) :: starEach es X.env:=by rfl) (hpl:(backTo pos (starEach es X.env)).any (·.1)=false:=by rfl):JE X (.Call (.Name x p) (e :: es) [] pos) (eP f gA):=
 ⟨fun B=>(ji hc hg hm hv (ha.h B) hn hdb he hpl).imp fun σ H Q h=>iS (fun _ _ _ z=>z) h⟩
theorem jN {T:String}(hc:bZ X (.type T) (rP f)) (hg:Gl X x) (hm:X.mg x=none) (hv:bootBuiltins x=some (.type T)) (ha:JA X (e :: es) gA) (hn:x≠"__name__":=by decide) (hdb:(x == ("__debug__":Str))=false:=by decide)
  (he:starEach (e :: es) X.env=(false,eval e X.env) :: starEach es X.env:=by rfl) (hpl:(backTo pos (starEach es X.env)).any (·.1)=false:=by rfl):JE X (.Call (.Name x p) (e :: es) [] pos) (eP f gA):=
 ⟨fun B=>(yO hc hg hm hv (ha.h B) hn hdb he hpl).imp fun σ H Q h=>iS (fun _ _ _ z=>z) h⟩
noncomputable abbrev tN (X:Cx) (o:Value→Value→Sem Value) (f:List D→Option U):Prop:=mT X o (fun x y H Q=>rP f [x,y] H Q)
theorem kT {K:PySem.W.Frag}{B:Base}{σ:St}{H:Hp}{Q:VK}(h:tE K B (eP f (ah ga (ah gb aq))) σ H Q):G1 (fun x y H Q=>rP f [x,y] H Q) (tD K B ga) (tD K B gb) σ H Q:=by
 obtain⟨S,F,u,S',R,hg,q⟩:=h
 obtain⟨⟨ds,S1⟩,h1,hg⟩:=aa hg
 obtain⟨u',h2,hg⟩:=aj hg
 cases hg
 obtain⟨⟨d1,T1⟩,k1,h1⟩:=aa h1
 obtain⟨⟨Tc,T2⟩,k2,h1⟩:=aj h1
 cases h1
 obtain⟨⟨d2,T3⟩,k3,k2⟩:=aa k2
 obtain⟨⟨Td,T4⟩,k4,k2⟩:=aj k2
 cases k2
 cases k4
 exact⟨S,F,d1,T1,R,k1,fun v1 F1 H1 R1 st1 r1=>⟨T1,F1,d2,_,R1,k3,fun v2 F2 H2 R2 st2 r2=>⟨F2,_,_,R2.sub,.cons (r1.le st2.ext.le) (.cons r2 .nil),h2,fun v F3 H3 n s3 r3=>q v F3 H3 (R2.new n s3) ((st1.trans st2).trans n.step) (r3.De R2 (st1.trans st2))⟩⟩⟩
theorem bO {op:Operator}(ho:tN X (binaryOp op) f) (ha:JD X a ga) (hb:JD X b gb):JE X (.BinOp a op b pos) (eP f (ah ga (ah gb aq))):=
 ⟨fun B=>(HS ho (ha.h B) (hb.h B)).imp fun σ H Q h=>kT h⟩
theorem lR {op:CmpOp}(ho:tN X (compareOp op) f) (ha:JD X a ga) (hb:JD X b gb) (hm:behindInMarks op b=false:=by first | exact AB _ | rfl):JE X (.Compare a [op] [b] pos) (eP f (ah ga (ah gb aq))):=
 ⟨fun B=>(CO ho (ha.h B) (hb.h B) hm).imp fun σ H Q h=>kT h⟩
theorem A8 (hr:AK X (fun x y H Q=>rP f [x,y] H Q)) (ha:JD X a ga) (hb:JD X b gb) (hs:rT b):JE X (.Subscript a b pos) (eP f (ah ga (ah gb aq))):=
 ⟨fun B=>(AL hr (ha.h B) (hb.h B) hs).imp fun σ H Q h=>kT h⟩
noncomputable def lT:List D→Option U:=fun ds=>if ds.length≤100000 then some (.t (.tup ds)) else none
noncomputable def nC:List D→Option U:=fun ds=>if ds.length≤100000 then some (.m (.lst ds)) else none
theorem gX {n:Nat}(h:n≤100000):n≤sizeLine:=Nat.le_trans h (by decide)
end
end L2
end
section
set_option Elab.async false
set_option linter.all false
set_option maxRecDepth 100000
namespace L2
open PySem PySem.Spec PyProof.Rows
section
variable {X:Cx}{a b c e:Expr}{es:List Expr}{pos p p2:Pos}{x:Str}{g ga gb gc:GD}{gA:GA}{f f':List D→Option U}
theorem iT {x1}(h:JA X es gA):JE X (.Tuple es x1 pos) (eP lT gA):=
 ⟨fun B=>(EY (h.h B)).imp fun σ H Q z=>iS (r:=fun xs H1 Q=>xs.length≤sizeLine∧∀p,H1 p=none→Q (.ref p) (upd H1 p (.tup xs))) (fun vs H1 Q1 ⟨F,ds,u,sb,rs,hf,q⟩=>by
 unfold lT at hf
 split at hf
 ·rename_i hl
  cases hf
  refine⟨by rw[rs.length];exact gX hl,fun p hp=>?_⟩
  exact q _ _ _ (d8.root sb hp _) (sb.nZ hp) (.tup aF (rs.le (j9 (sb.fresh hp))))
 ·cases hf) z⟩
theorem lU (h:JA X es gA):JE X (.List es pos) (eP nC gA):=
 ⟨fun B=>(EZ (h.h B)).imp fun σ H Q z=>iS (r:=fun xs H1 Q=>xs.length≤sizeLine∧∀p,H1 p=none→Q (.ref p) (upd H1 p (.lst xs))) (fun vs H1 Q1 ⟨F,ds,u,sb,rs,hf,q⟩=>by
 unfold nC at hf
 split at hf
 ·rename_i hl
  cases hf
  refine⟨by rw[rs.length];exact gX hl,fun p hp=>?_⟩
  exact q _ F _ (d8.obj hp _) (sb.same (d8.obj (F:=F) hp _).same) ⟨p,rfl,hp,sb.fresh hp,vs,aF,rs⟩
 ·cases hf) z⟩
noncomputable def qB (g:GD):GT:=fun S=>(g S).bind fun p=>match p.1 with
 | .bl k=>some (k,p.2)
 | _=>none
noncomputable def rX (g:GT):GT:=fun S=>(g S).map fun p=>(!p.1,p.2)
noncomputable def wj (g h:GT):GT:=fun S=>(g S).bind fun p=>if p.1 then h p.2 else some (false,p.2)
noncomputable def xT (g h:GT):GT:=fun S=>(g S).bind fun p=>if p.1 then some (true,p.2) else h p.2
noncomputable def eQ (g:GT):GD:=fun S=>(g S).map fun p=>(.bl p.1,p.2)
theorem kU {S:SS}{k:Bool}{S':SS}(h:qB g S=some (k,S')):g S=some (.bl k,S'):=by
 obtain⟨⟨d,S1⟩,h1,h⟩:=aa h
 cases d <;> cases h
 exact h1
theorem lV {F:Hp}{v:V}{k:Bool}(r:Rep F v (.bl k)):v= .bl k:=by cases r;rfl
theorem dz {F:Hp}{v:V}{i:Int}(r:Rep F v (.int i)):v= .int i:=by cases r;rfl
theorem xU {F:Hp}{v:V}{i:Str}(r:Rep F v (.str i)):v= .str i:=by cases r;rfl
theorem kg (h:JD X e g) (he:∀whole,isTrue e X.env whole=(do let v ←whole;standAt e.pos;holding [v] (truthy v)):=by intro _;rfl):JT X e (qB g):=
 ⟨fun B=>(EB (h.h B) he).imp fun σ H Q ⟨S,F,k,S',R,hg,q⟩=>⟨S,F,.bl k,S',R,kU hg,fun v F' H' R' st r=>⟨k,lV r,q F' H' R' st⟩⟩⟩
theorem IE {K:PySem.W.Frag}{B:Base}{gE:GE}{σ:St}{H:Hp}{Q:VK}(h:tD K B (eF gE) σ H Q):tE K B gE σ H Q:=by
 obtain⟨S,F,d,S',R,hg,q⟩:=h
 obtain⟨⟨u,S1⟩,h1,hg⟩:=aa hg
 refine⟨S,F,u,S1,R,h1,fun v F1 H1 R1 st1 r1=>?_⟩
 obtain⟨F2,R2,st2,r2⟩:=A5 R1 st1 r1 hg
 exact q v F2 H1 R2 st2 r2
theorem dg {op:CmpOp}(ho:tN X (compareOp op) f) (ha:JD X a ga) (hb:JD X b gb) (hm:behindInMarks op b=false:=by first | exact AB _ | rfl):JT X (.Compare a [op] [b] pos) (qB (eF (eP f (ah ga (ah gb aq))))):=
 ⟨fun B=>(CP ho (ha.h B) (hb.h B) hm).imp fun σ H Q ⟨S,F,k,S',R,hg,q⟩=>kT (IE ⟨S,F,.bl k,S',R,kU hg,fun v F' H' R' st r=>⟨k,lV r,q F' H' R' st⟩⟩)⟩
theorem lW {q1:GT}(h:JT X a q1):JT X (.UnaryOp .Not a pos) (rX q1):=
 ⟨fun B=>(EC (h.h B)).imp fun σ H Q ⟨S,F,k,S',R,hg,q⟩=>by
 obtain⟨⟨d,S1⟩,h1,hg⟩:=aj hg
 cases hg
 exact⟨S,F,d,_,R,h1,fun F' H' R' st=>q F' H' R' st⟩⟩
theorem dP {q1:GT}(h:JT X a q1):JW X (.BoolOp .Or [a] pos) q1:=⟨fun B=>pw_or1 (h.h B)⟩
theorem j0 {r:List Expr}{q1 q2:GT}(h:JT X a q1) (hr:JW X (.BoolOp .Or (b :: r) pos) q2):JW X (.BoolOp .Or (a :: b :: r) pos) (xT q1 q2):=
 ⟨fun B=>(pw_or (h.h B) (hr.h B)).imp fun σ H Q ⟨S,F,k,S',R,hg,q⟩=>by
 obtain⟨⟨d,S1⟩,h1,hg⟩:=aa hg
 refine⟨S,F,d,S1,R,h1,fun F1 H1 R1 st1=>?_⟩
 cases d with
 | false=>exact yW ⟨S1,F1,k,S',R1,hg,fun F2 H2 R2 st2=>q F2 H2 R2 (st1.trans st2)⟩
 | true=>cases hg;exact yX (q F1 H1 R1 st1)⟩
theorem JW.t {q1:GT}(h:JW X e q1):JT X e q1:=⟨fun B=>(h.h B).pt⟩
theorem wk {op}(h:JD X a g):JD X (.BoolOp op [a] pos) (eQ (qB g)):=⟨fun B=>(ED (h.h B)).imp fun σ H Q ⟨S,F,k,S',R,hg,q⟩=>by
 obtain⟨⟨d,S1⟩,h1,hg⟩:=aj hg
 cases hg
 exact⟨S,F,.bl d,_,R,kU h1,q⟩⟩
theorem rY {r:List Expr}{q2:GT}(h:JD X a g) (hr:JD X (.BoolOp .And (b :: r) pos) (eQ q2)):JD X (.BoolOp .And (a :: b :: r) pos) (eQ (wj (qB g) q2)):=
 ⟨fun B=>(EE (h.h B) (hr.h B)).imp fun σ H Q ⟨S,F,k,S',R,hg,q⟩=>by
 obtain⟨⟨d,S1⟩,h1,hg⟩:=aj hg
 cases hg
 obtain⟨⟨d1,S2⟩,h1,h2⟩:=aa h1
 refine⟨S,F,.bl d1,S2,R,kU h1,fun v F1 H1 R1 st1 r1=>⟨d1,lV r1,?_⟩⟩
 cases d1 with
 | true=>
  have h2:q2 S2=some (d,S1):=h2
  exact yX ⟨S2,F1,.bl d,S1,R1,by show(q2 S2).map _=_;rw[h2];rfl,fun v F2 H2 R2 st2 r2=>q v F2 H2 R2 (st1.trans st2) r2⟩
 | false=>cases h2;exact yW (q _ F1 H1 R1 st1 (.bl false))⟩
noncomputable def Qt (q:GT) (g h:GE):GE:=fun S=>(q S).bind fun p=>if p.1 then g p.2 else h p.2
theorem fY.weak {K:PySem.W.Frag}{B:Base}{S:SS}{σ:St}{H0 H1 F H:Hp}{v:V}(t:∀b o,H0 b=some o→∃o',H1 b=some o'):∀{u:U},fY K B S σ H1 F H v u→fY K B S σ H0 F H v u
 | .t _,h=>h
 | .s _,h=>h
 | .f _,h=>h
 | .m _,⟨a,e,h0,h⟩=>⟨a,e,none_of t h0,h⟩
 | .v _,h=>h
 | .b _,h=>h
noncomputable def Qu (f f':List D→Option U) (ga gb gc:GD):GD:=fun S=>(ga S).bind fun p=>(gb p.2).bind fun q=>match f [p.1,q.1] with
 | some (.t (.bl k))=>if k then(gc q.2).bind fun r=>match f' [q.1,r.1] with
   | some (.t (.bl k'))=>some (.bl k',r.2)
   | _=>none
  else some (.bl false,q.2)
 | _=>none
end
end L2
end
section
set_option Elab.async false
set_option linter.all false
set_option maxRecDepth 100000
namespace L2
open PySem PySem.Spec PyProof.Rows
theorem aL {α:Type}{c:Prop}{i:Decidable c}{x w:α}(h:(@ite _ c i (some x) none)=some w):c∧x=w:=by
 by_cases hc:c
 ·rw[if_pos hc] at h;exact⟨hc,Option.some.inj h⟩
 ·rw[if_neg hc] at h;cases h
theorem qK {α:Type}{c:Prop}{i:Decidable c}{x:Option α}{w:α}(h:(@ite _ c i x none)=some w):c∧x=some w:=by
 by_cases hc:c
 ·rw[if_pos hc] at h;exact⟨hc,h⟩
 ·rw[if_neg hc] at h;cases h
theorem D8 {F:Hp}{x:V}{ds:List D}(r:aG F [x] ds):∃d,ds=[d]∧Rep F x d:=by
 cases r with
 | cons r rs=>cases rs;exact⟨_,rfl,r⟩
theorem oq {F:Hp}{x y:V}{ds:List D}(r:aG F [x,y] ds):∃d e,ds=[d,e]∧Rep F x d∧Rep F y e:=by
 cases r with
 | cons r rs=>obtain⟨e,rfl,r2⟩:=D8 rs;exact⟨_,e,rfl,r,r2⟩
noncomputable def Af (C:Int→Int→Bool) (h:Int→Int→D):List D→Option U
 | [.int i,.int j]=>if C i j then some (.t (h i j)) else none
 | _=>none
section
variable {X:Cx}
theorem kW {o:Value→Value→Sem Value}{C:Int→Int→Bool}{h:Int→Int→D}{r:R2}(hr:mT X o r) (k:∀i j H Q,C i j=true→Q (toV (h i j)) H→r (.int i) (.int j) H Q) (hf:∀i j,mV (h i j)=true):tN X o (Af C h):=by
 intro pins s σ H x y v u Q I rx ry ⟨F,ds,w,sb,rs,hw,q⟩
 obtain⟨d,e,rfl,r1,r2⟩:=oq rs
 cases r1 <;> cases r2 <;> try (simp[Af] at hw;done)
 rename_i i j
 obtain⟨hc,rfl⟩:=aL hw
 exact hr pins s σ H _ _ v u Q I rx ry (k i j H Q hc (q _ F H (d8.refl ..) sb (uo (hf i j))))
noncomputable abbrev A9:=Af (fun _ _=>true) fun i j=>.int (i - j)
noncomputable abbrev Mm:=Af (fun _ _=>true) fun i j=>.bl (decide (i < j))
noncomputable abbrev IF:=Af (fun _ _=>true) fun i j=>.bl (decide (i≤j))
noncomputable abbrev IG:=Af (fun _ _=>true) fun i j=>.bl (decide (j < i))
noncomputable abbrev Pw:=Af (fun _ _=>true) fun i j=>.bl (decide (j≤i))
noncomputable abbrev Df:=Af (fun _ j=>decide (0 < j) && decide (j < 1073741824)) fun i j=>.int (i / j)
noncomputable abbrev wm:=Af (fun _ j=>decide (0 < j)) fun i j=>.int (i % j)
noncomputable abbrev II:=Af (fun i j=>decide (0≤j) && (decide (j≤1000) && decide (i.natAbs < 2 ^ 64))) fun i j=>.int (i ^ j.toNat)
theorem nI:tN X (binaryOp .Sub) A9:=kW ES (fun i j H Q _ q=>⟨i,j,rfl,rfl,q⟩) fun _ _=>rfl
theorem Ba:tN X (compareOp .Lt) Mm:=kW HW (fun i j H Q _ q=>⟨i,j,rfl,rfl,q⟩) fun _ _=>rfl
theorem rZ:tN X (compareOp .LtE) IF:=kW HX (fun i j H Q _ q=>⟨i,j,rfl,rfl,q⟩) fun _ _=>rfl
theorem r9:tN X (compareOp .Gt) IG:=kW HY (fun i j H Q _ q=>⟨i,j,rfl,rfl,q⟩) fun _ _=>rfl
theorem Fl:tN X (compareOp .GtE) Pw:=kW HZ (fun i j H Q _ q=>⟨i,j,rfl,rfl,q⟩) fun _ _=>rfl
theorem se:tN X (binaryOp .FloorDiv) Df:=kW CN (fun i j H Q c q=>⟨i,j,rfl,rfl,by simpa[HV] using c,q⟩) fun _ _=>rfl
theorem jO:tN X (binaryOp .Mod) wm:=kW EU (fun i j H Q c q=>⟨i,j,rfl,rfl,by simpa using c,q⟩) fun _ _=>rfl
theorem Dg:tN X (binaryOp .Pow) II:=kW EV (fun i j H Q c q=>⟨i,j,rfl,rfl,by
 simp only[Bool.and_eq_true,decide_eq_true_eq] at c
 exact⟨c.1,Int.le_trans c.2.1 (by decide),c.2.2⟩,q⟩) fun _ _=>rfl
theorem Sub.gD {F H:Hp}{v:V}{ds:List D}(s:Sub F H) (r:Rep F v (.tup ds)):∃a vs,v= .ref a∧F a=some (.tup vs)∧Rd H a (.tup vs)∧aG F vs ds:=by
 cases r with
 | tup e rs=>exact⟨_,_,rfl,e,Rd.of (s _ _ e),rs⟩
theorem Sub.gg {F H:Hp}{v:V}{ds:List D}(s:Sub F H) (r:Rep F v (.lst ds)):∃a vs,v= .ref a∧F a=some (.lst vs)∧Rd H a (.lst vs)∧aG F vs ds:=by
 cases r with
 | lst e rs=>exact⟨_,_,rfl,e,Rd.of (s _ _ e),rs⟩
theorem _root_.L2.Rd.AQ {pins:List (Addr×Obj)}{σ:St}{H:Hp}{s:Shared}(I:Inv X pins σ H s){l:Addr}{xs:List V}(h:Rd H l (.lst xs)):
  xs.length≤sizeLine∧∃its n,Vals xs its∧xs.length=its.length∧s.heap.get? l=some {cls:=.type "list",data:=.seq its.toArray n}:=by
 obtain⟨z,its,n,r,e⟩:=(h.ok I.hok:cO X.prog X.w H s.heap l (.lst xs))
 exact⟨z,its,n,r,r.length,e⟩
noncomputable def eO:List D→Option U
 | [.int i,.int j]=>some (.t (.int (i+j)))
 | [.str i,.str j]=>if i.length+j.length≤100000 then some (.t (.str (i++j))) else none
 | [.tup i,.tup j]=>if i.length+j.length≤100000 then some (.t (.tup (i++j))) else none
 | [.lst i,.lst j]=>if i.length+j.length≤100000 then some (.m (.lst (i++j))) else none
 | _=>none
theorem cG : tN X (binaryOp .Add) eO := by
  intro pins s σ H x y v u Q I rx ry ⟨F,ds,w,sb,rs,hw,q⟩
  obtain⟨d,e,rfl,r1,r2⟩:=oq rs
  cases d <;> cases e <;> try (simp[eO] at hw;done)
  · rename_i i j
    cases hw
    cases r1
    cases r2
    exact ER pins s σ H _ _ v u Q I rx ry ⟨i,j,rfl,rfl,q _ F H (d8.refl ..) sb (.int _)⟩
  · rename_i i j
    obtain⟨hl,rfl⟩:=aL hw
    cases r1
    cases r2
    exact vX pins s σ H _ _ v u Q I rx ry ⟨i,j,rfl,rfl,gX hl,q _ F H (d8.refl ..) sb (.str _)⟩
  · rename_i i j
    obtain⟨hl,rfl⟩:=aL hw
    have Qv:=r2
    have Qw:=r1
    obtain⟨a,xs,rfl,fa,ha,lX⟩:=sb.gD r1
    obtain⟨b,ys,rfl,fb,hb,D9⟩:=sb.gD r2
    by_cases hx:xs=[]
    · subst hx
      cases lX
      cases rx
      cases ry
      obtain⟨its,r1',p1,_⟩:=I.tuple (.inl ha)
      obtain⟨its2,r2',p2,_⟩:=I.tuple (.inl hb)
      cases r1'
      obtain⟨⟨cls,dd,data,sl⟩,ho,hc,n,hd⟩:=id p1
      obtain⟨⟨LS,dd2,data2,sl2⟩,ho2,hc2,n2,hd2⟩:=id p2
      simp only at hc hd hc2 hd2
      subst hc hd hc2 hd2
      exact concat_meets ⟨_,ho,rfl⟩ ⟨_,ho2,rfl⟩ noFill_tuple_add seq_tuple_add PySem.F.slot_tuple_add PySem.F.entry_tuple_add (PySem.F.args_tuple_add_2 _ _)
        (tuple_addW0 a b _ _ n n2 dd dd2 sl sl2 (by simp)) ⟨ho,ho2,⟨.ref b,H,I,rfl,q _ F H (d8.refl ..) sb Qv⟩⟩
    · refine C1 pins s σ H (.ref a) (.ref b) v u Q I rx ry ⟨a,b,xs,ys,rfl,rfl,.inl ha,.inl hb,hx,?_,fun hy=>?_,fun hy p hp=>?_⟩
      · rw[lX.length,D9.length];exact gX hl
      · subst hy
        cases D9
        exact q _ F H (d8.refl ..) sb (by show Rep F (.ref a) (.tup (i++[]));rw[List.append_nil];exact Qw)
      · exact q _ _ _ (d8.root sb hp _) (sb.nZ hp) (.tup aF ((lX.append D9).le (j9 (sb.fresh hp))))
  · rename_i i j
    obtain⟨hl,rfl⟩:=aL hw
    obtain⟨a,xs,rfl,fa,ha,lX⟩:=sb.gg r1
    obtain⟨b,ys,rfl,fb,hb,D9⟩:=sb.gg r2
    cases rx
    cases ry
    obtain⟨z,its,n,r,hl1,e⟩:=Rd.AQ I ha
    obtain⟨z2,its2,n2,r2,hl2,e2⟩:=Rd.AQ I hb
    have hlen:xs.length+ys.length≤sizeLine:=by rw[lX.length,D9.length];exact gX hl
    refine PySem.P.add_list e e2 ?_ (by rw[List.size_toArray,List.size_toArray];omega)
    have ea:its.toArray++its2.toArray=(its++its2).toArray:=by simp
    rw[ea]
    have hp:H s.heap.objs.size=none:=I.fresh
    refine⟨.ref _,_,I.LV (t':=s.toks) (r.append r2) (by rw[List.length_append];omega),rfl,?_⟩
    exact q _ F _ (d8.obj hp _) (sb.same (d8.obj (F:=F) hp _).same) ⟨_,rfl,hp,sb.fresh hp,_,aF,lX.append D9⟩
noncomputable def wu:List D→Option U:=Af (fun i j=>(decide (-(2 ^ 64) < i) && decide (i < 2 ^ 64)) || (decide (-(2 ^ 64) < j) && decide (j < 2 ^ 64))) fun i j=>.int (i * j)
theorem kX:tN X (binaryOp .Mult) wu:=kW ET (fun i j H Q c q=>⟨i,j,rfl,rfl,by
 simp only[Bool.or_eq_true,Bool.and_eq_true,decide_eq_true_eq] at c
 exact c,q⟩) fun _ _=>rfl
noncomputable def Mn:List D→Option U
 | [.int i]=>some (.t (.int (-i)))
 | _=>none
noncomputable def CA:List D→Option U
 | [.tup ds,.int i]=>(gC ds i).map .t
 | [.lst ds,.int i]=>(gC ds i).map .t
 | [.str z,.int i]=>if z.length≤100000 then(gC z.cps.toList i).map fun c=>.t (.str ⟨#[c]⟩) else none
 | _=>none
theorem Fo:AK X (fun x y H Q=>rP CA [x,y] H Q):=by
 intro value slice pins s σ H x y v u Q I rx ry ⟨F,ds,w,sb,rs,hw,q⟩ hsb
 obtain⟨d,e,rfl,r1,r2⟩:=oq rs
 cases d <;> cases e <;> try (simp[CA] at hw;done)
 ·rename_i z i
  obtain⟨hl,hw⟩:=qK hw
  obtain⟨c,hc,hw⟩:=aj hw
  subst hw
  cases r1
  cases r2
  exact AN value slice pins s σ H _ _ v u Q I rx ry ⟨z,i,c,rfl,rfl,gX hl,hc,q _ F H (d8.refl ..) sb (.str _)⟩ hsb
 ·rename_i ds i
  obtain⟨c,hc,hw⟩:=aj (show(gC ds i).map U.t=some w from hw)
  subst hw
  obtain⟨a,xs,rfl,fa,ha,lX⟩:=sb.gD r1
  cases r2
  obtain⟨w',h1,h2⟩:=lX.gC hc
  exact AM value slice pins s σ H _ _ v u Q I rx ry ⟨a,xs,i,w',rfl,rfl,.inl ha,h1,q _ F H (d8.refl ..) sb h2⟩ hsb
 ·rename_i ds i
  obtain⟨c,hc,hw⟩:=aj (show(gC ds i).map U.t=some w from hw)
  subst hw
  obtain⟨a,xs,rfl,fa,ha,lX⟩:=sb.gg r1
  cases r2
  obtain⟨w',h1,h2⟩:=lX.gC hc
  exact xO value slice pins s σ H _ _ v u Q I rx ry ⟨a,xs,i,w',rfl,rfl,.inl ha,h1,q _ F H (d8.refl ..) sb h2⟩ hsb
noncomputable def uq:List D→Option U
 | [.tup ds]=>some (.t (.int ds.length))
 | [.lst ds]=>some (.t (.int ds.length))
 | [.str z]=>if z.length≤100000 then some (.t (.int z.length)) else none
 | _=>none
theorem zb:bZ X (.builtin "len") (rP uq):=by
 intro pins s σ H xs us Q I r ⟨F,ds,w,sb,rs,hw,q⟩
 match xs,ds,rs with
 | [],[],_=>exact absurd hw (by simp[uq])
 | [x],_,rs=>
  obtain⟨d,rfl,r1⟩:=D8 rs
  cases d <;> try (simp[uq] at hw;done)
  ·rename_i z
   obtain⟨hl,rfl⟩:=aL hw
   cases r1
   exact kQ pins s σ H _ us Q I r ⟨z,rfl,gX hl,q _ F H (d8.refl ..) sb (.int _)⟩
  ·cases hw
   obtain⟨a,xs,rfl,fa,ha,lX⟩:=sb.gD r1
   exact iP pins s σ H _ us Q I r ⟨a,xs,rfl,.inr (.inl ha),by rw[lX.length];exact q _ F H (d8.refl ..) sb (.int _)⟩
  ·cases hw
   obtain⟨a,xs,rfl,fa,ha,lX⟩:=sb.gg r1
   exact iP pins s σ H _ us Q I r ⟨a,xs,rfl,.inl (.inl ha),by rw[lX.length];exact q _ F H (d8.refl ..) sb (.int _)⟩
 | _ :: _ :: _,[],rs=>cases rs
 | _ :: _ :: _,[_],rs=>cases rs with | cons _ rs=>cases rs
 | _ :: _ :: _,_ :: _ :: _,_=>exact absurd hw (by simp[uq])
end
end L2
end
section
set_option Elab.async false
set_option linter.all false
set_option maxRecDepth 100000
namespace L2
open PySem PySem.Spec PyProof.Rows
noncomputable def jV (i:Nat) (u:U) (S:SS):Option SS:=match S[i]? with
 | some (some (.b _))=>none
 | some _=>some (S.set i (some u))
 | none=>none
theorem zc {i:Nat}{u:U}{S S':SS}(h:jV i u S=some S'):S'=S.set i (some u)∧i < S.length∧∀o,S[i]?≠some (some (.b o)):=by
 unfold jV at h
 cases e:S[i]? with
 | none=>rw[e] at h;cases h
 | some w=>
  have hl:i < S.length:=(List.getElem?_eq_some_iff.mp e).1
  rw[e] at h
  cases w with
  | none=>cases h;exact⟨rfl,hl,fun o z=>by cases z⟩
  | some w=>
   cases w with
   | b o=>cases h
   | t d=>cases h;exact⟨rfl,hl,fun o z=>by cases z⟩
   | m d=>cases h;exact⟨rfl,hl,fun o z=>by cases z⟩
   | v d=>cases h;exact⟨rfl,hl,fun o z=>by cases z⟩
   | s d=>cases h;exact⟨rfl,hl,fun o z=>by cases z⟩
   | f d=>cases h;exact⟨rfl,hl,fun o z=>by cases z⟩
noncomputable def Ea (B:Base) (S:SS) (σ:St) (F H:Hp) (v:V):U→Prop
 | .t d=>Rep F v d
 | .m o=>∃a,v= .ref a∧F a=none∧At F H a o∧¬cg S σ a∧B.H a=none
 | _=>False
theorem Rel.put {K : PySem.W.Frag} {B : Base} {S S' : SS} {σ : St} {F H : Hp} {i : Nat} {u : U} {v : V} (R : Rel K B S σ F H) (h : jV i u S = some S') (p : Ea B S σ F H v u) : Rel K B S' (σ.set i (some v)) F H := by
  obtain⟨rfl,hl,nb⟩:=zc h
  have hl':i < σ.length:=by rw[←R.len];exact hl
  have out:∀{j:Nat},i≠j→(σ.set i (some v))[j]? =σ[j]?:=fun ne=>List.getElem?_set_ne ne
  have zd:(σ.set i (some v))[i]? =some (some v):=List.getElem?_set_self hl'
  have Eb:∀j w a,i≠j→S[j]? =some (some w)→cZ w=true→cZ u=true→σ[j]? =some (some (.ref a))→v≠.ref a:=fun j w a ne hj hm hu hv z=>by
    cases u with
    | t d=>cases hu
    | v k=>cases hu
    | s k=>cases hu
    | f k=>cases hu
    | b o=>exact p
    | m o=>
      obtain⟨c,e,_,_,nm,_⟩:=p
      rw[z] at e
      cases e
      exact nm ⟨j,w,hj,hm,hv⟩
  refine⟨R.sub,by rw[List.length_set,List.length_set];exact R.len,fun j w hj=>?_,fun j k w1 w2 a h1 m1 h2 m2 v1 v2=>?_,fun j o a hj hv=>?_,fun j o a hj hv=>?_,fun j a hj=>?_,R.ext⟩
  · rcases get_set hj with⟨rfl,q,_⟩ | ⟨ne,q⟩
    · cases q
      refine⟨v,zd,?_⟩
      cases u with
      | t d=>exact p
      | m o=>obtain⟨a,e,f,h,_⟩:=p;exact⟨a,e,f,h⟩
      | b o=>cases p
      | v k=>cases p
      | s k=>cases p
      | f k=>cases p
    · rw[out ne];exact R.rep j w q
  · rcases get_set h1 with⟨rfl,q1,_⟩ | ⟨ne1,q1⟩
    · rcases get_set h2 with⟨rfl,q2,_⟩ | ⟨ne2,q2⟩
      · rfl
      · cases q1
        rw[zd] at v1
        rw[out ne2] at v2
        cases v1
        exact absurd rfl (Eb k w2 a ne2 q2 m2 m1 v2)
    · rcases get_set h2 with⟨rfl,q2,_⟩ | ⟨ne2,q2⟩
      · cases q2
        rw[zd] at v2
        rw[out ne1] at v1
        cases v2
        exact absurd rfl (Eb j w1 a ne1 q1 m1 m2 v1)
      · rw[out ne1] at v1
        rw[out ne2] at v2
        exact R.xR j k w1 w2 a q1 m1 q2 m2 v1 v2
  · rcases get_set hj with⟨rfl,q,_⟩ | ⟨ne,q⟩
    · cases q
      rw[zd] at hv
      cases hv
      obtain⟨c,e,_,_,_,hB⟩:=p
      cases e
      exact hB
    · rw[out ne] at hv;exact R.own j o a q hv
  · rcases get_set hj with⟨rfl,q,_⟩ | ⟨ne,q⟩
    · cases q;cases p
    · rw[out ne] at hv;exact R.bor j o a q hv
  · obtain⟨h1,o,h2⟩:=R.par j a hj
    have ne:i≠j:=fun z=>by subst z;exact nb o h2
    exact⟨by rw[out ne];exact h1,o,by rw[List.getElem?_set_ne ne];exact h2⟩
noncomputable def iF:GS:=fun S=>some (.nx S)
noncomputable def bq (a b:GS):GS:=fun S=>(a S).bind fun o=>match o with
 | .nx S1=>b S1
 | o=>some o
noncomputable def cV (i:Nat) (g:GE):GS:=fun S=>(g S).bind fun p=>match p.1 with
 | .m o=>(jV i (.m o) p.2).map .nx
 | u=>(fz u p.2).bind fun q=>(jV i (.t q.1) q.2).map .nx
noncomputable def xV (g:GE):GS:=fun S=>(g S).map fun p=>.nx p.2
noncomputable def dJ (g:GE):GS:=fun S=>(g S).bind fun p=>match p.1 with
 | .v i=>match p.2[i]? with
  | some (some (.t d))=>some (.rt (.t d) p.2)
  | some (some (.m o))=>some (.rt (.m o) (p.2.set i none))
  | _=>none
 | .s _=>none
 | .f _=>none
 | u=>some (.rt u p.2)
noncomputable def IJ:GS:=fun S=>some (.rt (.t .bS) S)
noncomputable def qL (q:GT) (a b:GS):GS:=fun S=>(q S).bind fun p=>if p.1 then a p.2 else b p.2
theorem xS.mono {K:PySem.W.Frag}{B:Base}{F F1:Hp}{D:Ends}(g:∀b o,F b=some o→F1 b=some o):∀{o:Out},xS K B F D o→xS K B F1 D o
 | .nx _,h=>fun σ' F' H' R le=>h σ' F' H' R fun b o z=>le b o (g b o z)
 | .bk _,h=>fun σ' F' H' R le=>h σ' F' H' R fun b o z=>le b o (g b o z)
 | .ct _,h=>fun σ' F' H' R le=>h σ' F' H' R fun b o z=>le b o (g b o z)
 | .rt _ _,h=>fun v σ' F' H' R le=>h v σ' F' H' R fun b o z=>le b o (g b o z)
section
variable {X:Cx}{a b c e:Expr}{pos p p2:Pos}{x:Str}{st:Stmt}{rest b1 b2 body:List Stmt}{g:GE}{s1 s2:GS}{q1:GT}
theorem dM:JB X [] iF:=⟨fun B=>CI.imp fun D σ H ⟨S,F,o,R,h,k⟩=>by cases h;exact k σ F H R fun _ _ z=>z⟩
theorem aC (h1:JS X st s1) (h2:JB X rest s2):JB X (st :: rest) (bq s1 s2):=⟨fun B=>(Ao (h1.h B) (h2.h B)).imp fun D σ H ⟨S,F,o,R,h,k⟩=>by
 obtain⟨o1,e1,h⟩:=aa h
 refine⟨S,F,o1,R,e1,?_⟩
 cases o1 with
 | nx S1=>exact fun σ' F' H' R' le=>⟨S1,F',o,R',h,k.mono le⟩
 | rt u S1=>cases h;exact k
 | bk S1=>cases h;exact k
 | ct S1=>cases h;exact k⟩
theorem aM (h1:JS X st s1):JB X [st] s1:=⟨fun B=>CJ (h1.h B)⟩
theorem fY.put {K:PySem.W.Frag}{B:Base}{S:SS}{σ:St}{H0 F H:Hp}{v:V}{o:MO}(r:fY K B S σ H0 F H v (.m o)):Ea B S σ F H v (.m o):=by
 obtain⟨a,e,_,f,h,n,hB⟩:=r
 exact⟨a,e,f,h,n,hB⟩
theorem Dh {i:Nat}{K:PySem.W.Frag}{B:Base}{D:Ends}{σ:St}{H:Hp}(h:tO K B (cV i g) D σ H):EI (tE K B g) (nO i) D σ H:=by
 obtain⟨S,F,o,R,h,k⟩:=h
 obtain⟨⟨u,S1⟩,h1,h⟩:=aa h
 refine⟨S,F,u,S1,R,h1,fun v F1 H1 R1 st1 r1=>?_⟩
 have go:(∀o',u≠.m o')→(fz u S1).bind (fun q=>(jV i (.t q.1) q.2).map Out.nx)=some o→D.nx (σ.set i (some v)) H1:=fun _ h=>by
  obtain⟨⟨d,S2⟩,h2,h⟩:=aa h
  obtain⟨S3,h3,h⟩:=aj h
  subst h
  obtain⟨F2,R2,st2,r2⟩:=A5 R1 st1 r1 h2
  exact k _ F2 H1 (R2.put h3 r2) st2.ext.le
 cases u with
 | m o'=>
  obtain⟨S3,h3,h⟩:=aj (show(jV i (.m o') S1).map Out.nx=some o from h)
  subst h
  exact k _ F1 H1 (R1.put h3 r1.put) st1.ext.le
 | t d=>exact go (fun _ z=>by cases z) h
 | b d=>exact go (fun _ z=>by cases z) h
 | s d=>exact go (fun _ z=>by cases z) h
 | f d=>exact go (fun _ z=>by cases z) h
 | v d=>exact go (fun _ z=>by cases z) h
theorem bC {i:Nat}{pos':Pos}(hN:X.N.Nodup) (hi:X.N[i]? =some x) (hx:Loc X.env.scope x) (he:JE X e g) (hs:swapsWith e (some (.Name x pos')) pos.line X.env=pure false:=by rfl)
  (hf:X.fn x=true∨X.env.scope.names.lookup x=some .local:=by first | exact .inl rfl | exact .inr rfl | assumption):JS X (.Assign [.Name x pos'] e pos) (cV i g):=
 ⟨fun B=>(EJ hN hi hx (he.h B) hs hf).imp fun D σ H h=>Dh h⟩
theorem xW (he:JE X e g) (hs:swapsWith e none pos.line X.env=pure false:=by rfl):JS X (.Expr e pos) (xV g):=⟨fun B=>(CK (he.h B) hs).imp fun D σ H ⟨S,F,o,R,h,k⟩=>by
 obtain⟨⟨u,S1⟩,h1,h⟩:=aj h
 subst h
 exact⟨S,F,u,S1,R,h1,fun v F1 H1 R1 st1 r1=>k σ F1 H1 R1 st1.ext.le⟩⟩
theorem Rel.drop {K:PySem.W.Frag}{B:Base}{S:SS}{σ:St}{F H:Hp}{i:Nat}{o:MO}(R:Rel K B S σ F H) (h:S[i]? =some (some (.m o))):Rel K B (S.set i none) σ F H:=by
 have back:∀{j w},(S.set i none)[j]? =some (some w)→i≠j∧S[j]? =some (some w):=fun {j w} z=>by
  rcases get_set z with⟨_,q,_⟩ | q
  ·cases q
  ·exact q
 refine⟨R.sub,by rw[List.length_set];exact R.len,fun j w z=>R.rep j w (back z).2,fun j k w1 w2 a h1 m1 h2 m2=>R.xR j k w1 w2 a (back h1).2 m1 (back h2).2 m2,fun j o a z=>R.own j o a (back z).2,fun j o a z=>R.bor j o a (back z).2,fun j a z=>?_,R.ext⟩
 obtain⟨k1,o',k2⟩:=R.par j a z
 have ne:i≠j:=fun z=>by subst z;rw[h] at k2;cases k2
 exact⟨k1,o',by rw[List.getElem?_set_ne ne];exact k2⟩
theorem bG (he:JE X e g):JS X (.Return (some e) pos) (dJ g):=⟨fun B=>(EF (he.h B)).imp fun D σ H ⟨S,F,o,R,h,k⟩=>by
  obtain⟨⟨u,S1⟩,h1,h⟩:=aa h
  refine⟨S,F,u,S1,R,h1,fun v F1 H1 R1 st1 r1=>?_⟩
  cases u with
  | t d=>cases h;exact k v σ F1 H1 R1 st1.ext.le r1
  | b d=>cases h;cases r1
  | s d=>cases h
  | f d=>cases h
  | m o'=>cases h;exact k v σ F1 H1 R1 st1.ext.le (by obtain⟨a,e,h0,f,h,n,hB⟩:=r1;exact⟨a,e,hB,f,h,n,hB⟩)
  | v i =>
    obtain⟨hv,w,hw⟩:=r1
    dsimp only at h
    rw[hw] at h
    obtain⟨v',z1,z2⟩:=R1.rep i w hw
    rw[hv] at z1
    cases z1
    cases w with
    | t d=>cases h;exact k v σ F1 H1 R1 st1.ext.le z2
    | b d=>cases h
    | v d=>cases h
    | s d=>cases h
    | f d=>cases h
    | m o'=>
      cases h
      obtain⟨a,rfl,f,ha⟩:=z2
      have hB:=R1.own i o' a hw hv
      refine k _ σ F1 H1 (R1.drop hw) st1.ext.le ⟨a,rfl,hB,f,ha,fun⟨j,w,z,hm,hj⟩=>?_,hB⟩
      rcases get_set z with⟨_,q,_⟩ | ⟨ne,q⟩
      · cases q
      · exact ne (R1.xR i j _ w a hw rfl q hm hv hj)⟩
theorem gF (hc:JT X c q1) (ha:JB X b1 s1) (hb:JB X b2 s2):JS X (.If c b1 b2 pos) (qL q1 s1 s2):=⟨fun B=>(HM (hc.h B) (ha.h B) (hb.h B)).imp fun D σ H ⟨S,F,o,R,h,k⟩=>by
 obtain⟨⟨d,S1⟩,h1,h⟩:=aa h
 refine⟨S,F,d,S1,R,h1,fun F1 H1 R1 st1=>?_⟩
 cases d with
 | true=>exact yX ⟨S1,F1,o,R1,h,k.mono st1.ext.le⟩
 | false=>exact yW ⟨S1,F1,o,R1,h,k.mono st1.ext.le⟩⟩
noncomputable abbrev GB:=D→SS→Option SS
noncomputable def Qx (K:PySem.W.Frag) (B:Base) (bd:GB):TG:=fun v σ H Q=>∃S F d S',Rel K B S σ F H∧Rep F v d∧bd d S=some S'∧∀σ',Rel K B S' σ' F H→Q σ' H
structure JG (X:Cx) (tg:Expr) (bd:GB):Prop where
 h:∀B,PG X tg (Qx X.K B bd)
noncomputable abbrev Ag:=List D→SS→Option SS
noncomputable def Mp (K:PySem.W.Frag) (B:Base) (bd:Ag):CL:=fun vs σ H Q=>∃S F ds S',Rel K B S σ F H∧aG F vs ds∧bd ds S=some S'∧∀σ',Rel K B S' σ' F H→Q σ' H
structure Kp (X:Cx) (Bb:List Expr) (bd:Ag):Prop where
 h:∀B,DT X Bb (Mp X.K B bd)
theorem PG.imp {tg:Expr}{t t':TG}(h:PG X tg t) (k:∀v σ H Q,t' v σ H Q→t v σ H Q):PG X tg t':=fun pins s σ H v u Q I r q=>h pins s σ H v u Q I r (k v σ H Q q)
theorem DT.imp {tg:List Expr}{t t':CL}(h:DT X tg t) (k:∀v σ H Q,t' v σ H Q→t v σ H Q):DT X tg t':=fun pins s σ H v u Q I r q=>h pins s σ H v u Q I r (k v σ H Q q)
noncomputable def bName (i:Nat):GB:=fun d S=>jV i (.t d) S
theorem fE {i:Nat}(hN:X.N.Nodup) (hi:X.N[i]? =some x) (hx:Loc X.env.scope x) (hf:X.fn x=true∨X.env.scope.names.lookup x=some .local:=by first | exact .inl rfl | exact .inr rfl | assumption):JG X (.Name x pos) (bName i):=
 ⟨fun B=>(nH hN hi hx hf).imp fun v σ H Q ⟨S,F,d,S',R,r,h,k⟩=>k _ (R.put h r)⟩
noncomputable def ou:Ag:=fun ds S=>match ds with
 | []=>some S
 | _=>none
noncomputable def gY (b:GB) (bs:Ag):Ag:=fun ds S=>match ds with
 | d :: r=>(b d S).bind fun S1=>bs r S1
 | []=>none
theorem sf:Kp X [] ou:=⟨fun B=>xG.imp fun vs σ H Q ⟨S,F,ds,S',R,r,h,k⟩=>by
 cases r with
 | nil=>cases h;exact⟨rfl,k σ R⟩
 | cons _ _=>cases h⟩
theorem iG {tg:Expr}{Bb:List Expr}{bd:GB}{IK:Ag}(h1:JG X tg bd) (h2:Kp X Bb IK) (hs:(assignEach (tg :: Bb) X.env).map (·.2)=assign tg X.env :: (assignEach Bb X.env).map (·.2):=by rfl):Kp X (tg :: Bb) (gY bd IK):=
 ⟨fun B=>(nP (h1.h B) (h2.h B) hs).imp fun vs σ H Q ⟨S,F,ds,S',R,r,h,k⟩=>by
 cases r with
 | nil=>cases h
 | cons r rs=>
  obtain⟨S1,e1,h⟩:=aa h
  exact⟨_,_,rfl,S,F,_,S1,R,r,e1,fun σ1 R1=>⟨S1,F,_,S',R1,rs,h,k⟩⟩⟩
noncomputable def qh (n:Nat) (bs:Ag):GB:=fun d S=>match d with
 | .tup ds=>if ds.length=n then bs ds S else none
 | _=>none
theorem wz {Bb:List Expr}{k0:Nat}{IK:Ag}{n:Nat}(hc:X.calm=true) (h:Kp X Bb IK) (hn:(assignEach Bb X.env).length=n:=by rfl) (hst:(assignEach Bb X.env).findIdx? (·.1)=none:=by rfl):JG X (.Tuple Bb k0 pos) (qh n IK):=
 ⟨fun B=>(Ar hc (h.h B) hn hst).imp fun v σ H Q ⟨S,F,d,S',R,r,h,k⟩=>by
 cases d <;> try (cases h)
 rename_i ds
 unfold qh at h
 dsimp only at h
 split at h
 ·rename_i hl
  obtain⟨a,vs,rfl,fa,ha,rs⟩:=R.sub.gD r
  exact⟨a,vs,rfl,.inl ha,by rw[rs.length];exact hl,S,F,ds,S',R,rs,h,k⟩
 ·cases h⟩
noncomputable def Fp (bd:GB) (g:GD):GS:=fun S=>(g S).bind fun p=>(bd p.1 p.2).map .nx
theorem Fq {tg:Expr}{bd:GB}{gd:GD}(he:JD X e gd) (hg:JG X tg bd) (hs:swapsWithSole [tg] e pos.line X.env=pure false:=by rfl) (hw:swappedStores [tg] e X.env=pure none:=by rfl)
  (h1:(assignEach [tg] X.env).map (·.2)=[assign tg X.env]:=by rfl):JS X (.Assign [tg] e pos) (Fp bd gd):=
 ⟨fun B=>(As (he.h B) (hg.h B) hs hw h1).imp fun D σ H ⟨S,F,o,R,h,k⟩=>by
 obtain⟨⟨d,S1⟩,e1,h⟩:=aa h
 obtain⟨S2,e2,h⟩:=aj h
 subst h
 exact⟨S,F,d,S1,R,e1,fun v F1 H1 R1 st1 r1=>⟨S1,F1,d,S2,R1,r1,e2,fun σ' R2=>k σ' F1 H1 R2 st1.ext.le⟩⟩⟩
noncomputable def Walk (J:It) (F:Hp) (ds:List D):Prop:=∀F' H',(∀b o,F b=some o→F' b=some o)→Sub F' H'→∀i,(∀d,ds[i]? =some d→J.go i H'∧∀x H2,J.G0 i H' x H2→H2=H'∧Rep F' x d)∧(ds.length≤i→J.stop i H')
noncomputable abbrev GI:=SS→Option (List D×SS)
noncomputable def Mq (K:PySem.W.Frag) (B:Base) (gi:GI):TI:=fun σ H R=>∃S F ds S',Rel K B S σ F H∧gi S=some (ds,S')∧∀J F' H',Rel K B S' σ F' H'→Step S S' σ F H F' H'→Walk J F' ds→R J H'
structure JI (X:Cx) (tg e:Expr) (gi:GI):Prop where
 h:∀B,PI X tg e (Mq X.K B gi)
theorem PI.orelse {tg:Expr}{wi:TI}(h:∀σ H R,wi σ H R→∃wi',PI X tg e wi'∧wi' σ H R):PI X tg e wi:=fun pins s σ H R I q=>let⟨_,h1,h2⟩:=h σ H R q;h1 pins s σ H R I h2
noncomputable def Di (g:GD):GI:=fun S=>(g S).bind fun p=>match p.1 with
 | .tup ds=>some (ds,p.2)
 | .lst ds=>some (ds,p.2)
 | _=>none
noncomputable def sr (g:GD):GI:=fun S=>(g S).bind fun p=>match p.1 with
 | .tup ds=>some (ds,p.2)
 | .lst ds=>some (ds,p.2)
 | .str z=>some (z.cps.toList.map fun c=>.str ⟨#[c]⟩,p.2)
 | _=>none
theorem qM {K:PySem.W.Frag}{F:Hp}{a:Addr}{vs:List V}{ds:List D}(fa:F a=some (.lst vs)) (rs:aG F vs ds):Walk (LH K a) F ds:=fun F' H' le sb i=>by
 have ha:iO K H' a vs:=.inl (Rd.of (sb a _ (le _ _ fa)))
 refine⟨fun d hd=>?_,fun hl=>⟨vs,ha,by rw[rs.length];exact hl⟩⟩
 obtain⟨v,h1,h2⟩:=rs.get hd
 refine⟨⟨vs,v,ha,h1⟩,fun x H2 y=>⟨y.1,?_⟩⟩
 have:=y.2 vs ha
 rw[h1] at this
 cases this
 exact h2.le le
theorem ur {K:PySem.W.Frag}{F:Hp}{a:Addr}{vs:List V}{ds:List D}(fa:F a=some (.tup vs)) (rs:aG F vs ds):Walk (LI K a) F ds:=fun F' H' le sb i=>by
 have ha:p9 K H' a vs:=.inl (Rd.of (sb a _ (le _ _ fa)))
 refine⟨fun d hd=>?_,fun hl=>⟨vs,ha,by rw[rs.length];exact hl⟩⟩
 obtain⟨v,h1,h2⟩:=rs.get hd
 refine⟨⟨vs,v,ha,h1⟩,fun x H2 y=>⟨y.1,?_⟩⟩
 have:=y.2 vs ha
 rw[h1] at this
 cases this
 exact h2.le le
theorem Bc {F:Hp}{z:Str}:Walk (Mj z) F (z.cps.toList.map fun c=>.str ⟨#[c]⟩):=fun F' H' le sb i=>by
 refine⟨fun d hd=>?_,fun hl=>(show z.cps.size≤i by simpa using hl)⟩
 rw[List.getElem?_map] at hd
 obtain⟨c,hc,rfl⟩:=aj hd
 have hc':z.cps[i]? =some c:=by rw[←Array.getElem?_toList];exact hc
 refine⟨(Array.getElem?_eq_some_iff.mp hc').1,fun x H2 y=>⟨y.1,?_⟩⟩
 obtain⟨c2,k1,rfl⟩:=y.2
 rw[hc'] at k1
 cases k1
 exact .str _
theorem Ft {tg:Expr}{gd:GD}(h:JD X e gd):JI X tg e (Di gd):=⟨fun B=>PI.orelse fun σ H R0 ⟨S,F,ds,S',R,hg,k⟩=>by
 obtain⟨⟨d,S1⟩,h1,hg⟩:=aa hg
 cases d <;> try (cases hg)
 ·refine⟨_,Aw (h.h B),S,F,_,_,R,h1,fun v F1 H1 R1 st1 r1=>?_⟩
  obtain⟨a,vs,rfl,fa,ha,rs⟩:=R1.sub.gD r1
  exact⟨a,rfl,⟨vs,.inl ha⟩,k _ F1 H1 R1 st1 (ur fa rs)⟩
 ·refine⟨_,rM (h.h B),S,F,_,_,R,h1,fun v F1 H1 R1 st1 r1=>?_⟩
  obtain⟨a,vs,rfl,fa,ha,rs⟩:=R1.sub.gg r1
  exact⟨a,rfl,⟨vs,.inl ha⟩,k _ F1 H1 R1 st1 (qM fa rs)⟩⟩
theorem su {gd:GD}(h:JD X e gd):JI X (.Name x pos) e (sr gd):=⟨fun B=>PI.orelse fun σ H R0 ⟨S,F,ds,S',R,hg,k⟩=>by
 obtain⟨⟨d,S1⟩,h1,hg⟩:=aa hg
 cases d <;> try (cases hg)
 ·refine⟨_,Fg (h.h B),S,F,_,_,R,h1,fun v F1 H1 R1 st1 r1=>?_⟩
  exact⟨_,xU r1,k _ F1 H1 R1 st1 Bc⟩
 ·refine⟨_,Aw (h.h B),S,F,_,_,R,h1,fun v F1 H1 R1 st1 r1=>?_⟩
  obtain⟨a,vs,rfl,fa,ha,rs⟩:=R1.sub.gD r1
  exact⟨a,rfl,⟨vs,.inl ha⟩,k _ F1 H1 R1 st1 (ur fa rs)⟩
 ·refine⟨_,rM (h.h B),S,F,_,_,R,h1,fun v F1 H1 R1 st1 r1=>?_⟩
  obtain⟨a,vs,rfl,fa,ha,rs⟩:=R1.sub.gg r1
  exact⟨a,rfl,⟨vs,.inl ha⟩,k _ F1 H1 R1 st1 (qM fa rs)⟩⟩
noncomputable def tM (lo:Int) (n:Nat):List D:=(List.range n).map fun(k:Nat)=>D.int (lo+(k:Int))
noncomputable def ow (gA:GA):GI:=fun S=>(gA S).bind fun p=>match p.1 with
 | [.int j]=>if j < 1000000∧-1000000 < j then some (tM 0 j.toNat,p.2) else none
 | _=>none
noncomputable def IL (gA:GA):GI:=fun S=>(gA S).bind fun p=>match p.1 with
 | [.int i,.int j]=>if i < 1000000∧-1000000 < i∧j < 1000000∧-1000000 < j then some (tM i (j - i).toNat,p.2) else none
 | _=>none
theorem Bd {F:Hp}{lo:Int}{n:Nat}:Walk (Kl lo n) F (tM lo n):=fun F' H' le sb i=>by
 refine⟨fun d hd=>?_,fun hl=>(show n≤i by simpa[tM] using hl)⟩
 unfold tM at hd
 rw[List.getElem?_map] at hd
 obtain⟨c,hc,rfl⟩:=aj hd
 obtain⟨hl,e⟩:=List.getElem?_eq_some_iff.mp hc
 rw[List.getElem_range] at e
 subst e
 refine⟨show i < n by simpa using hl,fun x H2 y=>⟨y.1,?_⟩⟩
 rw[y.2]
 exact .int _
theorem lY {tg : Expr} {gA : GA} (hg : Gl X "range") (hm : X.mg "range" = none) (ha : JA X [a] gA) (hs : starEach [a] X.env = [(false, eval a X.env)] := by rfl) : JI X tg (.Call (.Name "range" p) [a] [] pos) (ow gA) :=
  ⟨fun B=>PI.orelse fun σ H R0 ⟨S,F,ds,S',R,hg',k⟩=>by
  obtain⟨⟨d,S1⟩,h1,hg'⟩:=aa hg'
  refine⟨_,yJ hg hm (ha.h B) hs,S,F,d,S1,R,h1,fun vs F1 H1 R1 st1 r1=>?_⟩
  dsimp only at hg'
  split at hg'
  · split at hg'
    · rename_i j hj
      cases hg'
      cases r1 with
      | cons r rs=>
        cases rs
        exact⟨j,by rw[dz r],by omega,by omega,k _ F1 H1 R1 st1 Bd⟩
    · cases hg'
  · cases hg'⟩
noncomputable def loop (bd:GB) (body:GS):List D→SS→Option Out
 | [],S=>some (.nx S)
 | d :: ds,S=>(bd d S).bind fun S1=>(body S1).bind fun o=>match o with
  | .nx S2=>loop bd body ds S2
  | .ct S2=>loop bd body ds S2
  | .bk S2=>some (.nx S2)
  | .rt u S2=>some (.rt u S2)
noncomputable def oz (bd:GB) (gi:GI) (body:GS):GS:=fun S=>(gi S).bind fun p=>loop bd body p.1 p.2
theorem sy {tg iter:Expr}{bd:GB}{gi:GI}(hp:PassesOwn (model X.prog X.w) X.A X.env X.xe) (hc:X.calm=true) (hi:JI X tg iter gi) (hg:JG X tg bd) (hb:JB X body s1) (hs:∀x,foldedSetIterable iter X.env x=pure x:=by intro _;rfl):
  JS X (.For tg iter body [] pos) (oz bd gi s1):=⟨fun B=>(Ay hp hc (hi.h B) (hg.h B) (hb.h B) hs).imp fun D σ H ⟨S,F,o,R,h,k⟩=>by
 obtain⟨⟨ds,S1⟩,h1,h⟩:=aa h
 refine⟨S,F,ds,S1,R,h1,fun J F1 H1 R1 st1 w=>?_⟩
 refine⟨fun i m σ' H'=>∃S' F',Rel X.K B S' σ' F' H'∧(∀b o,F1 b=some o→F' b=some o)∧i≤ds.length∧m=ds.length - i∧loop bd s1 (ds.drop i) S'=some o,⟨_,S1,F1,R1,fun _ _ z=>z,Nat.zero_le _,rfl,h⟩,?_⟩
 rintro i m σ' H' ⟨S',F',R',le,hl,rfl,bV⟩
 have w':=w F' H' le R'.sub i
 by_cases hlt:i < ds.length
 ·have hd:ds[i]? =some ds[i]:=List.getElem?_eq_getElem hlt
  obtain⟨go,yl⟩:=w'.1 _ hd
  rw[List.drop_eq_getElem_cons hlt] at bV
  obtain⟨S2,e2,bV⟩:=aa bV
  obtain⟨o2,e3,bV⟩:=aa bV
  refine .inr ⟨go,_,fun σ2 H2 n=>⟨ds.length - (i+1),by omega,n⟩,fun x H2 y=>?_⟩
  obtain⟨rfl,rx⟩:=yl x H2 y
  refine⟨S',F',_,S2,R',rx,e2,fun σ3 R3=>⟨S2,F',o2,R3,e3,?_⟩⟩
  cases o2 with
  | nx S3=>exact fun Be F4 H4 R4 wA=>⟨S3,F4,R4,fun b o z=>wA b o (le b o z),hlt,rfl,bV⟩
  | ct S3=>exact fun Be F4 H4 R4 wA=>⟨S3,F4,R4,fun b o z=>wA b o (le b o z),hlt,rfl,bV⟩
  | bk S3=>cases bV;exact fun Be F4 H4 R4 wA=>k Be F4 H4 R4 fun b o z=>wA b o (le b o (st1.ext.le b o z))
  | rt u S3=>cases bV;exact fun v Be F4 H4 R4 wA=>k v Be F4 H4 R4 fun b o z=>wA b o (le b o (st1.ext.le b o z))
 ·have e:i=ds.length:=by omega
  subst e
  rw[List.drop_length] at bV
  cases bV
  exact .inl ⟨w'.2 (Nat.le_refl _),k σ' F' H' R' fun b o z=>le b o (st1.ext.le b o z)⟩⟩
end
end L2
end
section
set_option Elab.async false
set_option linter.all false
set_option maxRecDepth 100000
namespace L2
open PySem PySem.Spec PyProof.Rows
noncomputable def G4:U→MO→Option U
 | .m _,o=>some (.m o)
 | .b _,o=>some (.b o)
 | _,_=>none
noncomputable def G5:U→Option MO
 | .m o=>some o
 | .b o=>some o
 | _=>none
noncomputable def wB (S:SS) (i:Nat) (f:MO→Option (D×MO)):Option (D×SS):=match S[i]? with
 | some (some (.m o))=>(f o).map fun r=>(r.1,S.set i (some (.m r.2)))
 | some (some (.b o))=>(f o).map fun r=>(r.1,S.set i (some (.b r.2)))
 | _=>none
theorem At.IM {F H:Hp}{a:Addr}{o:MO}{ob:Obj}{u:HO}(h:At F H a o):H a≠some (.gm ob u):=fun z=>by
 cases o with
 | lst ds=>obtain⟨vs,e,_⟩:=h;rw[z] at e;cases e
 | dct ds=>obtain⟨vs,e,_⟩:=h;rw[z] at e;cases e
 | vR ds=>obtain⟨vs,e,_⟩:=h;rw[z] at e;cases e
theorem uh.cg {K:PySem.W.Frag}{F H:Hp}{v:V}{u:U}(r:uh K F H v u) (hm:cZ u=true):∃a o,v= .ref a∧F a=none∧G5 u=some o∧At F H a o:=by
 cases u with
 | t d=>cases hm
 | v d=>cases hm
 | s d=>cases hm
 | f d=>cases hm
 | m o=>obtain⟨a,e,f,h⟩:=r;exact⟨a,o,e,f,rfl,h⟩
 | b o=>obtain⟨a,e,f,h⟩:=r;exact⟨a,o,e,f,rfl,h⟩
theorem Rel.write {K : PySem.W.Frag} {B : Base} {S : SS} {σ : St} {F H : Hp} {i : Nat} {u u' : U} {a : Addr} {ho : HO} {o : MO} (R : Rel K B S σ F H) (hS : S[i]? = some (some u)) (hu : G4 u o = some u') (hv : σ[i]? = some (some (.ref a))) (ha : At F (upd H a ho) a o) :
    Rel K B (S.set i (some u')) σ F (upd H a ho)∧Step S (S.set i (some u')) σ F H F (upd H a ho):=by
  have hm:cZ u=true∧cZ u'=true:=by cases u <;> cases hu <;> exact⟨rfl,rfl⟩
  have IP:F a=none∧∀b ob w,H b=some (.gm ob w)→b≠a:=by
    obtain⟨v,h1,h2⟩:=R.rep i u hS
    rw[hv] at h1
    cases h1
    obtain⟨b,_,e,f,_,k⟩:=h2.cg hm.1
    cases e
    exact⟨f,fun b ob w z e=>k.IM (by rw[e] at z;exact z)⟩
  have IQ:=IP.1
  have G6:∀b ob w,H b=some (.gm ob w)→upd H a ho b=some (.gm ob w):=fun b ob w z=>by rw[aA (IP.2 b ob w z)];exact z
  have Qy:L2.cg S σ a:=⟨i,u,hS,hm.1,hv⟩
  have hl:i < S.length:=(List.getElem?_eq_some_iff.mp hS).1
  have kb:∀{j w},(S.set i (some u'))[j]? =some (some w)→(i=j∧u'=w)∨(i≠j∧S[j]? =some (some w)):=fun {j w} z=>by
    rcases get_set z with⟨e,q,_⟩ | q
    · exact .inl ⟨e,Option.some.inj q⟩
    · exact .inr q
  have orig:∀{j w},(S.set i (some u'))[j]? =some (some w)→cZ w=true→∃w0,S[j]? =some (some w0)∧cZ w0=true:=fun {j w} z hw=>by
    rcases kb z with⟨rfl,rfl⟩ | ⟨_,q⟩
    · exact⟨u,hS,hm.1⟩
    · exact⟨w,q,hw⟩
  have keepR:∀b o,b≠a→Rd H b o→Rd (upd H a ho) b o:=fun b o ne r=>by
    rcases r with r | ⟨ob,r⟩
    · exact .inl (by rw[aA ne];exact r)
    · exact .inr ⟨ob,by rw[aA ne];exact r⟩
  refine⟨⟨fun b o z=>by rw[aA (fun e=>by rw[e,IQ] at z;cases z)];exact R.sub b o z,by rw[List.length_set];exact R.len,fun j w z=>?_,fun j k w1 w2 c z1 m1 z2 m2=>?_,fun j o' c z hc=>?_,fun j o' c z hc=>?_,fun j c z=>?_,?_⟩,⟨?_,fun c ⟨j,w,z,hw,hc⟩=>?_,fun j w z=>?_⟩⟩
  · rcases kb z with⟨rfl,rfl⟩ | ⟨ne,q⟩
    · refine⟨.ref a,hv,?_⟩
      cases u <;> cases hu
      · exact⟨a,rfl,IQ,ha⟩
      · exact⟨a,rfl,IQ,ha⟩
    · obtain⟨v,h1,h2⟩:=R.rep j w q
      refine⟨v,h1,?_⟩
      by_cases hw:cZ w=true
      · obtain⟨c,o',rfl,f,e,h⟩:=h2.cg hw
        have hca:c≠a:=fun z=>ne (R.xR i j u w a hS hm.1 q hw hv (by rw[h1,z]))
        have h':At F (upd H a ho) c o':=h.le (fun _ _ z=>z) fun o z=>by rw[aA hca];exact z
        cases w <;> cases hw <;> cases e
        · exact⟨c,rfl,f,h'⟩
        · exact⟨c,rfl,f,h'⟩
      · cases w with
        | t d=>exact h2
        | v d=>exact h2
        | s d=>obtain⟨c,e,h⟩:=h2;exact⟨c,e,h.le G6⟩
        | f d=>exact h2
        | m o=>exact absurd rfl hw
        | b o=>exact absurd rfl hw
  · obtain⟨Mr,q1,n1⟩:=orig z1 m1
    obtain⟨Ms,q2,n2⟩:=orig z2 m2
    exact R.xR j k Mr Ms c q1 n1 q2 n2
  · rcases kb z with⟨rfl,rfl⟩ | ⟨_,q⟩
    · cases u <;> cases hu
      exact R.own _ _ c hS hc
    · exact R.own j o' c q hc
  · rcases kb z with⟨rfl,rfl⟩ | ⟨_,q⟩
    · cases u <;> cases hu
      exact R.bor _ _ c hS hc
    · exact R.bor j o' c q hc
  · obtain⟨k1,o',k2⟩:=R.par j c z
    refine⟨k1,?_⟩
    by_cases e:i=j
    · subst e
      rw[hS] at k2
      cases k2
      cases hu
      exact⟨o,List.getElem?_set_self hl⟩
    · exact⟨o',by rw[List.getElem?_set_ne e];exact k2⟩
  · refine⟨R.ext.le,fun b o z n=>?_,R.ext.fV,fun b o z=>?_,fun b o w z=>G6 b o w (R.ext.gm b o w z)⟩
    · have hb:b≠a:=fun e=>by
        subst e
        cases u with
        | m o'=>rw[R.own i o' b hS hv] at z;cases z
        | b o'=>exact n (R.bor i o' b hS hv)
        | t d=>cases hu
        | v d=>cases hu
        | s d=>cases hu
        | f d=>cases hu
      rw[aA hb]
      exact R.ext.keep b o z n
    · by_cases hb:b=a
      · exact⟨ho,by rw[hb,aF]⟩
      · rw[aA hb];exact R.ext.there b o z
  · refine⟨fun _ _ z=>z,fun b o z n=>?_,fun _ _ _ _ z=>z,fun b o z=>?_,G6⟩
    · rw[aA (fun e=>n (by rw[e];exact Qy))];exact z
    · by_cases hb:b=a
      · exact⟨ho,by rw[hb,aF]⟩
      · exact⟨o,by rw[aA hb];exact z⟩
  · obtain⟨w0,q,n⟩:=orig z hw
    exact⟨j,w0,q,n,hc⟩
  · by_cases e:i=j
    · subst e;exact⟨u',List.getElem?_set_self hl⟩
    · exact⟨w,by rw[List.getElem?_set_ne e];exact z⟩
theorem qN {S S':SS}{i:Nat}{f:MO→Option (D×MO)}{d:D}(h:wB S i f=some (d,S')):∃u u' o o',S[i]? =some (some u)∧cZ u=true∧G5 u=some o∧f o=some (d,o')∧G4 u o'=some u'∧S'=S.set i (some u'):=by
 unfold wB at h
 split at h
 ·rename_i o e
  obtain⟨⟨d',o'⟩,h1,h⟩:=aj h
  cases h
  exact⟨_,_,o,o',e,rfl,rfl,h1,rfl,rfl⟩
 ·rename_i o e
  obtain⟨⟨d',o'⟩,h1,h⟩:=aj h
  cases h
  exact⟨_,_,o,o',e,rfl,rfl,h1,rfl,rfl⟩
 ·cases h
noncomputable def Mt (r:V→List V→Hp→VK→Prop) (h:List D→MO→Option (D×MO)):Prop:=
 ∀F H a vs xs ds args res o',Sub F H→H a=some (.lst vs)→F a=none→aG F vs ds→aG F xs args→h args (.lst ds)=some (res,o')→
  ∀Q:VK,(∀rv ho,Rep F rv res→At F (upd H a ho) a o'→Q rv (upd H a ho))→r (.ref a) xs H Q
noncomputable def cF:MO→Bool
 | .lst _=>true
 | _=>false
noncomputable def IS (S:SS) (i:Nat):Bool:=match S[i]? with
 | some (some (.m (.lst _)))=>true
 | some (some (.b (.lst _)))=>true
 | _=>false
theorem Fv {K:PySem.W.Frag}{B:Base}{S:SS}{σ:St}{F H:Hp}{i:Nat}(R:Rel K B S σ F H) (h:IS S i=true):∃u a vs ds,S[i]? =some (some u)∧cZ u=true∧G5 u=some (.lst ds)∧σ[i]? =some (some (.ref a))∧F a=none∧H a=some (.lst vs)∧aG F vs ds:=by
 unfold IS at h
 split at h
 ·rename_i ds e
  obtain⟨v,k1,a,rfl,f,vs,k2,k3⟩:=R.rep i _ e
  exact⟨_,a,vs,ds,e,rfl,rfl,k1,f,k2,k3⟩
 ·rename_i ds e
  obtain⟨v,k1,a,rfl,f,vs,k2,k3⟩:=R.rep i _ e
  exact⟨_,a,vs,ds,e,rfl,rfl,k1,f,k2,k3⟩
 ·cases h
noncomputable def eM (i:Nat) (h:List D→MO→Option (D×MO)) (gA:GA):GD:=fun S=>if IS S i then(gA S).bind fun p=>wB p.2 i (h p.1) else none
theorem Bf {K:PySem.W.Frag}{B:Base}{S:SS}{σ:St}{F H:Hp}{i:Nat}{a:Addr}{u:U}{ds:List D}(R:Rel K B S σ F H) (hS:S[i]? =some (some u)) (hm:cZ u=true) (hi:G5 u=some (.lst ds)) (hv:σ[i]? =some (some (.ref a))):F a=none∧∃vs,H a=some (.lst vs)∧aG F vs ds:=by
 obtain⟨v,k1,k2⟩:=R.rep i u hS
 rw[hv] at k1
 cases k1
 obtain⟨b,o2,e1,f,e2,k⟩:=k2.cg hm
 cases e1
 rw[hi] at e2
 cases e2
 exact⟨f,k⟩
section
variable {X:Cx}{a b c e:Expr}{es:List Expr}{pos p p2 apos cpos px:Pos}{x name:Str}{g ga gb gc:GD}{gA:GA}{id:String}
theorem sA {i:Nat}{r:V→List V→Hp→VK→Prop}{h:List D→MO→Option (D×MO)}(slot:Slot "list" name id) (hty:typeOf (.builtin id)=pure (.type "method_descriptor")) (hm:G3 X id r) (hh:Mt r h) (hl:∀args o,cF o=false→h args o=none) (ha:JA X (e :: es) gA)
  (hN:X.N[i]? =some x:=by rfl) (hv:Aj X.env.scope x:=by first | exact Or.inl rfl | exact Or.inr (Or.inl rfl) | exact Or.inr (Or.inr rfl))
  (hbase:attributeBase (.Name x px) name X.env (eval (.Name x px) X.env)=eval (.Name x px) X.env:=by rfl)
  (hfew:((backTo cpos (starEach (e :: es) X.env)).all (fun x=>!x.1) && (backToKw cpos (keywordEach [] X.env)).all (fun x=>x.1.isSome)
   && decide ((e :: es).length+([]:List Keyword).length+(if([]:List Keyword).isEmpty then 0 else 1) < 30))=true:=by rfl)
  (hline:(apos.endLine == cpos.line)=true:=by rfl) (hs:starEach (e :: es) X.env=(false,eval e X.env) :: starEach es X.env:=by rfl) (hplain:(backTo cpos (starEach es X.env)).any (·.1)=false:=by rfl)
  (hd:(x == ("__debug__":Str))=false:=by decide) (hcd:(x == ("__classdict__":Str))=false:=by decide):
  JD X (.Call (.Attribute (.Name x px) name apos) (e :: es) [] cpos) (eM i h gA):=
 ⟨fun B=>(Iu PySem.F.plainAttrs_list slot hty hm (fW hN hv hd hcd) (ha.h B) hbase hfew hline hs hplain).imp fun σ H Q ⟨S,F,d,S',R,hg,q⟩=>by
 unfold eM at hg
 split at hg
 ·rename_i hL
  obtain⟨⟨args,S1⟩,h1,hg⟩:=aa hg
  obtain⟨u,u',o,o',hS,IT,hio,hf,IU,rfl⟩:=qN hg
  obtain⟨u0,a,Kn,Te,_,_,_,hv0,_,hH,_⟩:=Fv R hL
  cases o with
  | dct kvs=>rw[hl _ _ rfl] at hf;cases hf
  | vR kvs=>rw[hl _ _ rfl] at hf;cases hf
  | lst ds=>
   refine⟨.ref a,hv0,.inl ⟨rfl,Kn,iO.of hH⟩,S,F,args,S1,R,h1,fun xs F1 H1 R1 st1 r1=>?_⟩
   obtain⟨hf1,vs,Qz,rs⟩:=Bf R1 hS IT hio hv0
   refine hh F1 H1 a vs xs ds args d o' R1.sub Qz hf1 rs r1 hf Q fun rv ho rr ha=>?_
   obtain⟨R2,st2⟩:=R1.write hS IU hv0 ha
   exact q rv F1 _ R2 (st1.trans st2) rr
 ·cases hg⟩
noncomputable def hAppend:List D→MO→Option (D×MO)
 | [d],.lst ds=>if ds.length < 100000 then some (.bS,.lst (ds++[d])) else none
 | _,_=>none
theorem qO : Mt xP hAppend := by
  intro F H a vs xs ds args res o' sb hH fa rs rx hw Q q
  unfold hAppend at hw
  split at hw
  · rename_i d ds' e2
    cases e2
    split at hw
    · rename_i hl
      cases hw
      cases rx with
      | cons r rr=>
        cases rr
        exact⟨a,vs,_,rfl,rfl,hH,by rw[rs.length];exact Nat.lt_of_lt_of_le hl (by decide),q .bS _ .bS ⟨_,aF,rs.append (.cons r .nil)⟩⟩
    · cases hw
  · cases hw
noncomputable def jl:List D→MO→Option (D×MO)
 | [.int i],.lst ds=>if -(2 ^ 63)≤i∧i < 2 ^ 63 then(seqIndex? i ds.length).bind fun k=>(ds[k]?).map fun d=>(d,.lst (ds.eraseIdx k)) else none
 | _,_=>none
theorem aG.eraseIdx {F:Hp}:∀{vs:List V}{ds:List D}(k:Nat),aG F vs ds→aG F (vs.eraseIdx k) (ds.eraseIdx k)
 | _,_,_,.nil=>.nil
 | _,_,0,.cons _ rs=>rs
 | _,_,k+1,.cons r rs=>.cons r (aG.eraseIdx k rs)
theorem Bg : Mt AR jl := by
  intro F H a vs xs ds args res o' sb hH fa rs rx hw Q q
  unfold jl at hw
  split at hw
  · rename_i i ds' e2
    cases e2
    split at hw
    · rename_i hb
      obtain⟨k,hk,hw⟩:=aa hw
      obtain⟨d,hd,hw⟩:=aj hw
      cases hw
      cases rx with
      | cons r rr=>
        cases rr
        obtain⟨v,k1,k2⟩:=rs.get hd
        exact⟨a,vs,i,k,v,rfl,by rw[dz r],hH,hb.1,hb.2,by rw[rs.length];exact hk,k1,q v _ k2 ⟨_,aF,rs.eraseIdx k⟩⟩
    · cases hw
  · cases hw
noncomputable def uu:List D→MO→Option (D×MO)
 | [],.lst ds=>some (.bS,.lst ds.reverse)
 | _,_=>none
theorem aG.reverse {F:Hp}:∀{vs:List V}{ds:List D},aG F vs ds→aG F vs.reverse ds.reverse
 | _,_,.nil=>.nil
 | _,_,.cons r rs=>by rw[List.reverse_cons,List.reverse_cons];exact(aG.reverse rs).append (.cons r .nil)
end
end L2
end
section
set_option Elab.async false
set_option linter.all false
set_option maxRecDepth 100000
namespace L2
open PySem PySem.Spec PyProof.Rows
theorem fY.step {K:PySem.W.Frag}{B:Base}{S S':SS}{σ:St}{H0 F H F' H':Hp}{v:V}{u:U}(r:fY K B S σ H0 F H v u) (st:Step S S' σ F H F' H'):fY K B S' σ H0 F' H' v u:=by
 cases u with
 | t d=>exact r.le st.ext.le
 | b o=>exact r
 | v i=>obtain⟨h1,u,h2⟩:=r;exact⟨h1,st.slots i u h2⟩
 | s i=>obtain⟨a,e,h⟩:=r;exact⟨a,e,h.le st.ext.gm⟩
 | f i=>exact r
 | m o=>
  obtain⟨a,e,h0,f,h,n,hB⟩:=r
  obtain⟨ho,hh⟩:=h.has
  exact⟨a,e,h0,st.ext.fV a ho hh n f,h.le st.ext.le fun o z=>st.ext.keep a o z n,fun m=>n (st.mu a m),hB⟩
noncomputable abbrev GU:=SS→Option (List U×SS)
noncomputable def QA (K:PySem.W.Frag) (B:Base) (gu:GU):TA:=fun σ H Q=>∃S F us S',Rel K B S σ F H∧gu S=some (us,S')∧∀vs F' H',Rel K B S' σ F' H'→Step S S' σ F H F' H'→Paired (fun v u=>fY K B S' σ H F' H' v u) vs us→Q vs H'
structure JU (X:Cx) (es:List Expr) (gu:GU):Prop where
 h:∀B,PA X es (QA X.K B gu)
 len:∀S us S',gu S=some (us,S')→us.length=es.length
noncomputable def cQ:GU:=fun S=>some ([],S)
noncomputable def cu (g:GD) (gu:GU):GU:=fun S=>(g S).bind fun p=>(gu p.2).map fun q=>(.t p.1 :: q.1,q.2)
noncomputable def jW (g:GE) (gu:GU):GU:=fun S=>(g S).bind fun p=>(gu p.2).map fun q=>(p.1 :: q.1,q.2)
section
variable {X:Cx}{e:Expr}{es:List Expr}{g:GD}{ge:GE}{gu:GU}
theorem bT:JU X [] cQ:=⟨fun B=>rN.imp fun σ H Q ⟨S,F,us,S',R,hg,q⟩=>by
 cases hg
 exact q [] F H R (Step.refl ..) .nil,fun S us S' h=>by cases h;rfl⟩
theorem br (h:JD X e g) (hr:JU X es gu) (hs:starEach (e :: es) X.env=(false,eval e X.env) :: starEach es X.env:=by rfl):JU X (e :: es) (cu g gu):=
 ⟨fun B=>(jM (h.h B) (hr.h B) hs).imp fun σ H Q ⟨S,F,us,S',R,hg,q⟩=>by
 obtain⟨⟨d,S1⟩,h1,hg⟩:=aa hg
 obtain⟨⟨Fw,S2⟩,h2,hg⟩:=aj hg
 cases hg
 exact⟨S,F,d,S1,R,h1,fun v F1 H1 R1 st1 r1=>⟨S1,F1,Fw,S2,R1,h2,fun vs F2 H2 R2 st2 r2=>q _ F2 H2 R2 (st1.trans st2) (.cons (r1.le st2.ext.le) (Paired.yD r2 fun _ _ z=>z.weak st1.ext.there))⟩⟩,
 fun S us S' hg=>by
  obtain⟨⟨d,S1⟩,h1,hg⟩:=aa hg
  obtain⟨⟨Fw,S2⟩,h2,hg⟩:=aj hg
  cases hg
  show Fw.length+1=es.length+1
  rw[hr.len _ _ _ h2]⟩
theorem ia (h:JE X e ge) (hr:JU X es gu) (hs:starEach (e :: es) X.env=(false,eval e X.env) :: starEach es X.env:=by rfl):JU X (e :: es) (jW ge gu):=
 ⟨fun B=>(jM (h.h B) (hr.h B) hs).imp fun σ H Q ⟨S,F,us,S',R,hg,q⟩=>by
 obtain⟨⟨d,S1⟩,h1,hg⟩:=aa hg
 obtain⟨⟨Fw,S2⟩,h2,hg⟩:=aj hg
 cases hg
 exact⟨S,F,d,S1,R,h1,fun v F1 H1 R1 st1 r1=>⟨S1,F1,Fw,S2,R1,h2,fun vs F2 H2 R2 st2 r2=>q _ F2 H2 R2 (st1.trans st2) (.cons (r1.step st2) (Paired.yD r2 fun _ _ z=>z.weak st1.ext.there))⟩⟩,
 fun S us S' hg=>by
  obtain⟨⟨d,S1⟩,h1,hg⟩:=aa hg
  obtain⟨⟨Fw,S2⟩,h2,hg⟩:=aj hg
  cases hg
  show Fw.length+1=es.length+1
  rw[hr.len _ _ _ h2]⟩
end
noncomputable def resolve (S:SS):U→Option U
 | .t d=>some (.t d)
 | .v i=>match S[i]? with
  | some (some (.m o))=>some (.b o)
  | some (some (.b o))=>some (.b o)
  | _=>none
 | .m o=>some (.b o)
 | .b _=>none
 | .s ns=>some (.s ns)
 | .f a=>some (.f a)
noncomputable def bF (S:SS):List U→Option (List U)
 | []=>some []
 | u :: us=>(resolve S u).bind fun w=>(bF S us).map fun ws=>w :: ws
noncomputable def slotsOf:List U→List Nat
 | []=>[]
 | .v i :: us=>i :: slotsOf us
 | _ :: us=>slotsOf us
noncomputable def bL:List U→Nat
 | []=>0
 | .m _ :: us=>bL us+1
 | _ :: us=>bL us
noncomputable def wb:List U→List MO→SS→Option SS
 | [],[],S=>some S
 | .v i :: us,o :: outs,S=>match S[i]? with
  | some (some (.m _))=>wb us outs (S.set i (some (.m o)))
  | some (some (.b _))=>wb us outs (S.set i (some (.b o)))
  | _=>none
 | .m _ :: us,_ :: outs,S=>wb us outs S
 | .t _ :: us,outs,S=>wb us outs S
 | .s _ :: us,outs,S=>wb us outs S
 | .f _ :: us,outs,S=>wb us outs S
 | _,_,_=>none
noncomputable abbrev FM:=List U→Option (U×List MO)
noncomputable def bA (f:FM) (gu:GU):GE:=fun S=>(gu S).bind fun p=>
 if(slotsOf p.1).Nodup∧bL p.1≤1 then(bF p.2 p.1).bind fun us=>(f us).bind fun r=>(wb p.1 r.2 p.2).map fun S2=>(r.1,S2) else none
noncomputable def Bh (K:PySem.W.Frag) (F H:Hp) (v:V):U→Prop
 | .s ns=>∃a,v= .ref a∧Dd K H a ns
 | .f a=>v= .ref a
 | .t d=>Rep F v d
 | .b o=>∃a,v= .ref a∧F a=none∧At F H a o
 | _=>False
noncomputable def addrs:List V→List U→List Addr
 | .ref a :: vs,.b _ :: us=>a :: addrs vs us
 | _ :: vs,_ :: us=>addrs vs us
 | _,_=>[]
structure Post (F H F' H':Hp) (as:List Addr) (outs:List MO):Prop where
 sub:Sub F' H'
 ext:Ext (fun a=>a∈as) F H F' H'
 out:Paired (fun a o=>F' a=none∧At F' H' a o) as outs
noncomputable def spT (K:PySem.W.Frag) (n:Nat) (f:FM):Sp:=fun vs H Q _=>vs.length=n∧∃F us r outs,Sub F H∧Paired (Bh K F H) vs us∧(addrs vs us).Nodup∧f us=some (r,outs)∧∀v F' H',Post F H F' H' (addrs vs us) outs→A6 H F' H' v r→Q v H'
section
variable {K:PySem.W.Frag}{B:Base}{S S1 S2:SS}{σ:St}{H0 F H F' H':Hp}
theorem jP {i:Nat}{w:U}(h:resolve S (.v i)=some w):∃u o,S[i]? =some (some u)∧cZ u=true∧G5 u=some o∧w= .b o:=by
 unfold resolve at h
 dsimp only at h
 split at h
 ·rename_i o e;cases h;exact⟨_,o,e,rfl,rfl,rfl⟩
 ·rename_i o e;cases h;exact⟨_,o,e,rfl,rfl,rfl⟩
 ·cases h
theorem kY (R:Rel K B S σ F H):∀{vs:List V}{us ws:List U},Paired (fun v u=>fY K B S σ H0 F H v u) vs us→bF S us=some ws→Paired (Bh K F H) vs ws
 | _,_,_,.nil,h=>by cases h;exact .nil
 | _,_,_,@Paired.cons _ _ _ v u vs us r rs,h=>by
  obtain⟨w,h1,h⟩:=aa h
  obtain⟨ws,h2,h⟩:=aj h
  subst h
  refine .cons ?_ (kY R rs h2)
  cases u with
  | t d=>cases h1;exact r
  | s d=>cases h1;exact r
  | f d=>cases h1;exact r
  | b o=>cases h1
  | m o=>cases h1;obtain⟨a,e,_,f,k,_⟩:=r;exact⟨a,e,f,k⟩
  | v i=>
   obtain⟨u,o,hu,hm,hi,rfl⟩:=jP h1
   obtain⟨hv,_⟩:=r
   obtain⟨v',k1,k2⟩:=R.rep i u hu
   rw[hv] at k1
   cases k1
   obtain⟨a,o2,e,f,e2,k⟩:=k2.cg hm
   rw[hi] at e2
   cases e2
   exact⟨a,e,f,k⟩
theorem kZ (R : Rel K B S σ F H) : ∀ {vs : List V} {us ws : List U}, Paired (fun v u => fY K B S σ H0 F H v u) vs us → bF S us = some ws → ∀ a ∈ addrs vs ws,
    (∃i u,i∈slotsOf us∧S[i]? =some (some u)∧cZ u=true∧σ[i]? =some (some (.ref a)))∨(0 < bL us∧H0 a=none∧B.H a=none∧¬cg S σ a)
  | _,_,_,.nil,h,a,ha=>by cases h;cases ha
  | _,_,_,@Paired.cons _ _ _ v u vs us r rs,h,a,ha=>by
    obtain⟨w,h1,h⟩:=aa h
    obtain⟨ws,h2,h⟩:=aj h
    subst h
    have ih:=kZ R rs h2
    cases u with
    | t d=>
      cases h1
      have ha:a∈addrs vs ws:=by cases v <;> exact ha
      exact ih a ha
    | s d=>
      cases h1
      have ha:a∈addrs vs ws:=by cases v <;> exact ha
      exact ih a ha
    | f d=>
      cases h1
      have ha:a∈addrs vs ws:=by cases v <;> exact ha
      exact ih a ha
    | b o=>cases h1
    | m o =>
      cases h1
      obtain⟨c,rfl,k0,f,k,n,hB⟩:=r
      rcases List.mem_cons.mp (show a∈c :: addrs vs ws from ha) with rfl | ha
      · exact .inr ⟨Nat.succ_pos _,k0,hB,n⟩
      · rcases ih a ha with z | ⟨_,z⟩
        · exact .inl z
        · exact .inr ⟨Nat.succ_pos _,z⟩
    | v i =>
      obtain⟨u,o,hu,hm,hi,rfl⟩:=jP h1
      obtain⟨hv,_⟩:=r
      obtain⟨v',k1,k2⟩:=R.rep i u hu
      rw[hv] at k1
      cases k1
      obtain⟨c,o2,rfl,f,e2,k⟩:=k2.cg hm
      rcases List.mem_cons.mp (show a∈c :: addrs vs ws from ha) with rfl | ha
      · exact .inl ⟨i,u,List.mem_cons_self,hu,hm,hv⟩
      · rcases ih a ha with⟨j,w,z,z2⟩ | z
        · exact .inl ⟨j,w,List.mem_cons_of_mem _ z,z2⟩
        · exact .inr z
theorem cA (R : Rel K B S σ F H) : ∀ {vs : List V} {us ws : List U}, Paired (fun v u => fY K B S σ H0 F H v u) vs us → bF S us = some ws → (slotsOf us).Nodup → bL us ≤ 1 → (addrs vs ws).Nodup
  | _,_,_,.nil,h,_,_=>by cases h;exact List.nodup_nil
  | _,_,_,@Paired.cons _ _ _ v u vs us r rs,h,nd,fr=>by
    obtain⟨w,h1,h⟩:=aa h
    obtain⟨ws,h2,h⟩:=aj h
    subst h
    cases u with
    | t d=>
      cases h1
      have:=cA R rs h2 nd fr
      cases v <;> exact this
    | s d=>
      cases h1
      have:=cA R rs h2 nd fr
      cases v <;> exact this
    | f d=>
      cases h1
      have:=cA R rs h2 nd fr
      cases v <;> exact this
    | b o=>cases h1
    | m o=>
      cases h1
      have Tf:bL us=0:=by have:bL us+1≤1:=fr;omega
      obtain⟨c,rfl,k0,f,k,n,hB⟩:=r
      refine List.nodup_cons.mpr ⟨fun hc=>?_,cA R rs h2 nd (by omega)⟩
      rcases kZ R rs h2 c hc with⟨j,w,_,z1,z2,z3⟩ | ⟨z,_⟩
      · exact n ⟨j,w,z1,z2,z3⟩
      · omega
    | v i =>
      obtain⟨u,o,hu,hm,hi,rfl⟩:=jP h1
      obtain⟨hv,_⟩:=r
      obtain⟨v',k1,k2⟩:=R.rep i u hu
      rw[hv] at k1
      cases k1
      obtain⟨c,o2,rfl,f,e2,k⟩:=k2.cg hm
      obtain⟨Mu,G7⟩:=List.nodup_cons.mp (show(i :: slotsOf us).Nodup from nd)
      refine List.nodup_cons.mpr ⟨fun hc=>?_,cA R rs h2 G7 fr⟩
      rcases kZ R rs h2 c hc with⟨j,w,z0,z1,z2,z3⟩ | ⟨_,_,_,z⟩
      · have:=R.xR i j u w c hu hm z1 z2 hv z3
        subst this
        exact Mu z0
      · exact z ⟨i,u,hu,hm,hv⟩
theorem jQ (R : Rel K B S σ F H) (P : Addr → MO → Prop) : ∀ {vs : List V} {us ws : List U} {outs : List MO} {S1 S2 : SS}, Paired (fun v u => fY K B S σ H0 F H v u) vs us → bF S us = some ws → wb us outs S1 = some S2 → (slotsOf us).Nodup → Paired P (addrs vs ws) outs →
    S2.length=S1.length∧(∀j,j∉slotsOf us→S2[j]? =S1[j]?)∧∀j∈slotsOf us,∃u u' o a,S1[j]? =some (some u)∧G4 u o=some u'∧S2[j]? =some (some u')∧σ[j]? =some (some (.ref a))∧P a o
  | _,_,_,_,_,_,.nil,h,hw,_,hp=>by
    cases h
    cases hp
    cases hw
    exact⟨rfl,fun _ _=>rfl,fun j hj=>by cases hj⟩
  | _, _, _, outs, S1, S2, @Paired.cons _ _ _ v u vs us r rs, h, hw, nd, hp => by
    obtain⟨w,h1,h⟩:=aa h
    obtain⟨ws,h2,h⟩:=aj h
    subst h
    cases u with
    | t d =>
      cases h1
      have hp:Paired P (addrs vs ws) outs:=by cases v <;> exact hp
      have hw:wb us outs S1=some S2:=by
        cases outs <;> exact hw
      have ih:=jQ R P rs h2 hw nd hp
      exact ih
    | s d =>
      cases h1
      have hp:Paired P (addrs vs ws) outs:=by cases v <;> exact hp
      have hw:wb us outs S1=some S2:=by
        cases outs <;> exact hw
      have ih:=jQ R P rs h2 hw nd hp
      exact ih
    | f d =>
      cases h1
      have hp:Paired P (addrs vs ws) outs:=by cases v <;> exact hp
      have hw:wb us outs S1=some S2:=by
        cases outs <;> exact hw
      have ih:=jQ R P rs h2 hw nd hp
      exact ih
    | b o=>cases h1
    | m o =>
      cases h1
      obtain⟨c,rfl,k0,f,k,n,hB⟩:=r
      cases hp with
      | cons p1 p2=>
        have ih:=jQ R P rs h2 (show wb us _ S1=some S2 from hw) nd p2
        exact ih
    | v i =>
      obtain⟨u0,o0,hu,hm,hi,rfl⟩:=jP h1
      obtain⟨hv,_⟩:=r
      obtain⟨v',k1,k2⟩:=R.rep i u0 hu
      rw[hv] at k1
      cases k1
      obtain⟨c,o2,rfl,f,e2,k⟩:=k2.cg hm
      obtain⟨Mu,G7⟩:=List.nodup_cons.mp (show(i :: slotsOf us).Nodup from nd)
      cases hp with
      | @cons _ o _ outs p1 p2 =>
        have go : ∀ u u', S1[i]? = some (some u) → G4 u o = some u' → wb us outs (S1.set i (some u')) = some S2 → S2.length = S1.length ∧ (∀ j, j ∉ i :: slotsOf us → S2[j]? = S1[j]?) ∧ ∀ j ∈ i :: slotsOf us, ∃ u u' o a, S1[j]? = some (some u) ∧ G4 u o = some u' ∧ S2[j]? = some (some u') ∧ σ[j]? = some (some (.ref a)) ∧ P a o := fun u u' e1 e2 hw => by
          obtain⟨l,out,zd⟩:=jQ R P rs h2 hw G7 p2
          refine⟨by rw[l,List.length_set],fun j hj=>?_,fun j hj=>?_⟩
          · rw[out j fun z=>hj (List.mem_cons_of_mem _ z),List.getElem?_set_ne fun z=>hj (by rw[z];exact List.mem_cons_self)]
          · by_cases e:i=j
            · subst e
              exact⟨u,u',o,c,e1,e2,by rw[out i Mu];exact List.getElem?_set_self (List.getElem?_eq_some_iff.mp e1).1,hv,p1⟩
            · rcases List.mem_cons.mp hj with z | z
              · exact absurd z.symm e
              · obtain⟨w,w',o',a',q1,q2,q3,q4,q5⟩:=zd j z
                rw[List.getElem?_set_ne e] at q1
                exact⟨w,w',o',a',q1,q2,q3,q4,q5⟩
        unfold wb at hw
        split at hw
        · rename_i o' e;exact go _ _ e rfl hw
        · rename_i o' e;exact go _ _ e rfl hw
        · cases hw
end
theorem gG {K : PySem.W.Frag} {B : Base} {S0 S S2 : SS} {σ : St} {F0 H0 F H F' H' : Hp} {vs : List V} {us ws : List U} {outs : List MO} (R : Rel K B S σ F H) (st : Step S0 S σ F0 H0 F H) (rr : Paired (fun v u => fY K B S σ H0 F H v u) vs us) (hr : bF S us = some ws) (hw : wb us outs S = some S2) (nd : (slotsOf us).Nodup) (p : Post F H F' H' (addrs vs ws) outs) :
    Rel K B S2 σ F' H'∧Step S0 S2 σ F0 H0 F' H'∧∀a,cg S2 σ a→cg S σ a:=by
  obtain⟨hl,out,zd⟩:=jQ R (fun a o=>F' a=none∧At F' H' a o) rr hr hw nd p.out
  have QB:∀{u:U}{o:MO}{u':U},G4 u o=some u'→cZ u=true∧cZ u'=true∧G5 u'=some o:=fun {u o u'} h=>by cases u <;> cases h <;> exact⟨rfl,rfl,rfl⟩
  have orig:∀{j w},S2[j]? =some (some w)→cZ w=true→∃w0,S[j]? =some (some w0)∧cZ w0=true:=fun {j w} z hm=>by
    by_cases hj:j∈slotsOf us
    · obtain⟨u,u',o,a,q1,q2,q3,q4,q5⟩:=zd j hj
      exact⟨u,q1,(QB q2).1⟩
    · rw[out j hj] at z;exact⟨w,z,hm⟩
  have mu:∀a,cg S2 σ a→cg S σ a:=fun a ⟨j,w,z,hm,hv⟩=>let⟨w0,q,n⟩:=orig z hm;⟨j,w0,q,n,hv⟩
  have xX:=kZ R rr hr
  refine⟨⟨p.sub,by rw[hl];exact R.len,fun j w z=>?_,fun j k w1 w2 c z1 m1 z2 m2=>?_,fun j o a z hv=>?_,fun j o a z hv=>?_,fun j a z=>?_,?_⟩,⟨⟨?_,?_,?_,?_,fun b o u z=>p.ext.gm b o u (st.ext.gm b o u z)⟩,fun a m=>st.mu a (mu a m),fun j u z=>?_⟩,mu⟩
  · by_cases hj:j∈slotsOf us
    · obtain⟨u,u',o,a,q1,q2,q3,q4,q5,q6⟩:=zd j hj
      rw[q3] at z
      cases z
      refine⟨.ref a,q4,?_⟩
      cases u <;> cases q2
      · exact⟨a,rfl,q5,q6⟩
      · exact⟨a,rfl,q5,q6⟩
    · rw[out j hj] at z
      obtain⟨v,h1,h2⟩:=R.rep j w z
      refine⟨v,h1,h2.le p.ext.le p.ext.gm fun a hm ha=>?_⟩
      have hna:a∉addrs vs ws:=fun hc=>by
        rcases xX a hc with⟨i,u,q0,q1,q2,q3⟩ | ⟨_,_,_,q⟩
        · have:=R.xR i j u w a q1 q2 z hm q3 (by rw[h1,ha])
          subst this
          exact hj q0
        · exact q ⟨j,w,z,hm,by rw[h1,ha]⟩
      obtain⟨c,o,e,f,_,k⟩:=h2.cg hm
      rw[ha] at e
      cases e
      obtain⟨ho,hh⟩:=k.has
      exact⟨fun o q=>p.ext.keep a o q hna,p.ext.fV a ho hh hna f⟩
  · obtain⟨Mr,q1,n1⟩:=orig z1 m1
    obtain⟨Ms,q2,n2⟩:=orig z2 m2
    exact R.xR j k Mr Ms c q1 n1 q2 n2
  · by_cases hj:j∈slotsOf us
    · obtain⟨u,u',o',a',q1,q2,q3,q4,q5⟩:=zd j hj
      rw[q3] at z
      cases z
      cases u <;> cases q2
      exact R.own j _ a q1 hv
    · rw[out j hj] at z;exact R.own j o a z hv
  · by_cases hj:j∈slotsOf us
    · obtain⟨u,u',o',a',q1,q2,q3,q4,q5⟩:=zd j hj
      rw[q3] at z
      cases z
      cases u <;> cases q2
      exact R.bor j _ a q1 hv
    · rw[out j hj] at z;exact R.bor j o a z hv
  · obtain⟨k1,o,k2⟩:=R.par j a z
    refine⟨k1,?_⟩
    by_cases hj:j∈slotsOf us
    · obtain⟨u,u',o',a',q1,q2,q3,q4,q5⟩:=zd j hj
      rw[k2] at q1
      cases q1
      cases q2
      exact⟨_,q3⟩
    · exact⟨o,by rw[out j hj];exact k2⟩
  · refine R.ext.trans p.ext fun b hb=>?_
    rcases xX b hb with⟨i,u,q0,q1,q2,q3⟩ | ⟨_,_,q,_⟩
    · cases u with
      | t d=>cases q2
      | v d=>cases q2
      | s d=>cases q2
      | f d=>cases q2
      | m o=>exact .inr (R.own i o b q1 q3)
      | b o=>exact .inl (R.bor i o b q1 q3)
    · exact .inr q
  · exact fun b o h=>p.ext.le b o (st.ext.le b o h)
  · intro b o h n
    refine p.ext.keep b o (st.ext.keep b o h n) fun hb=>?_
    rcases xX b hb with⟨i,u,q0,q1,q2,q3⟩ | ⟨_,q,_⟩
    · exact n (st.mu b ⟨i,u,q1,q2,q3⟩)
    · rw[h] at q;cases q
  · intro b o h n f
    refine p.ext.fV b o (st.ext.keep b o h n) (fun hb=>?_) (st.ext.fV b o h n f)
    rcases xX b hb with⟨i,u,q0,q1,q2,q3⟩ | ⟨_,q,_⟩
    · exact n (st.mu b ⟨i,u,q1,q2,q3⟩)
    · rw[h] at q;cases q
  · intro b o h
    obtain⟨o',h'⟩:=st.ext.there b o h
    exact p.ext.there b o' h'
  · obtain⟨u',h'⟩:=st.slots j u z
    by_cases hj:j∈slotsOf us
    · obtain⟨_,u2,_,_,_,_,q3,_⟩:=zd j hj
      exact⟨u2,q3⟩
    · exact⟨u',by rw[out j hj];exact h'⟩
section
variable {X:Cx}{e:Expr}{es:List Expr}{gu:GU}{x:Str}{p pos:Pos}{f:FM}{fa:Addr}{fd:FuncData}{ps:List Str}{k n:Nat}
theorem bh (F:bB X.prog X.w X.K X.mg X.base gn k fa fd ps (spT X.K n f)) (hr:fX k X.A) (hg:Gl X x) (hm:X.mg x=some (.ref fa)) (hk:PySem.W.keepIn X.K (.ref fa)=true) (hb:Binds X.K fd ps []) (ha:JU X (e :: es) gu) (hn:(e :: es).length=n:=by rfl)
  (hdb:(x == ("__debug__":Str))=false:=by decide) (he:starEach (e :: es) X.env=(false,eval e X.env) :: starEach es X.env:=by rfl) (hpl:(backTo pos (starEach es X.env)).any (·.1)=false:=by rfl):
  JE X (.Call (.Name x p) (e :: es) [] pos) (bA f gu):=⟨fun B=>(CQ F hr hg hm hk hb .nil D3 (ha.h B) hdb he hpl).imp fun σ H Q ⟨S,F0,u,S',R,hg,q⟩=>by
 obtain⟨⟨us,S1⟩,h1,hg⟩:=aa hg
 dsimp only at hg
 split at hg
 ·rename_i hc
  obtain⟨ws,h2,hg⟩:=aa hg
  obtain⟨⟨r,outs⟩,h3,hg⟩:=aa hg
  obtain⟨S2,h4,hg⟩:=aj hg
  cases hg
  refine⟨S,F0,us,S1,R,h1,fun vs F1 H1 R1 st1 rr=>?_⟩
  show spT X.K n f (vs++[]) H1 Q E0
  rw[List.append_nil]
  have hlen:vs.length=n:=by rw[rr.length,ha.len _ _ _ h1];exact hn
  refine⟨hlen,F1,ws,r,outs,R1.sub,kY R1 rr h2,cA R1 rr h2 hc.1 hc.2,h3,fun v F2 H2 po rn=>?_⟩
  obtain⟨R2,st2,mu⟩:=gG R1 st1 rr h2 h4 hc.1 po
  refine q v F2 H2 R2 st2 ?_
  cases r with
  | t d=>exact rn
  | b o=>cases rn
  | v i=>cases rn
  | s i=>cases rn
  | f i=>cases rn
  | m o=>
   obtain⟨a,e,h0,f,h⟩:=rn
   refine⟨a,e,none_of st1.ext.there h0,f,h,fun m=>?_,none_of R1.ext.there h0⟩
   obtain⟨o',ho⟩:=R1.has (mu a m)
   rw[h0] at ho
   cases ho
 ·cases hg⟩
end
end L2
end
section
set_option Elab.async false
set_option linter.all false
set_option maxRecDepth 100000
namespace L2
open PySem PySem.Spec PyProof.Rows
noncomputable def aE:List U→SS→Option (List MO)
 | [],_=>some []
 | .b _ :: us,some (.b o) :: S=>(aE us S).map fun os=>o :: os
 | .b _ :: _,_=>none
 | _ :: us,_ :: S=>aE us S
 | _ :: _,[]=>none
noncomputable def aT (n:Nat) (g:GS):FM:=fun us=>(g (us.map some++List.replicate (n - us.length) none)).bind fun o=>match o with
 | .rt (.t d) S=>(aE us S).map fun os=>(.t d,os)
 | .rt (.m o) S=>(aE us S).map fun os=>(.m o,os)
 | .nx S=>(aE us S).map fun os=>(.t .bS,os)
 | _=>none
noncomputable def lent:List V→List U→List (Option Addr)
 | .ref a :: vs,.b _ :: us=>some a :: lent vs us
 | _ :: vs,_ :: us=>none :: lent vs us
 | _,_=>[]
theorem jm:∀(vs:List V) (us:List U) (a:Addr),some a∈lent vs us↔a∈addrs vs us
 | [],us,a=>by cases us <;> simp[lent,addrs]
 | v :: vs,[],a=>by cases v <;> simp[lent,addrs]
 | v :: vs,u :: us,a=>by
  have ih:=jm vs us a
  cases v <;> cases u <;> simp[lent,addrs,ih]
theorem uv:∀{vs:List V}{us:List U}{i:Nat}{a:Addr},(lent vs us)[i]? =some (some a)→vs[i]? =some (.ref a)∧∃o,us[i]? =some (.b o)
 | [],us,i,a,h=>by cases us <;> simp[lent] at h
 | v :: vs,[],i,a,h=>by cases v <;> simp[lent] at h
 | v :: vs,u :: us,0,a,h=>by
  cases v <;> cases u <;> simp[lent] at h
  subst h
  exact⟨rfl,_,rfl⟩
 | v :: vs,u :: us,i+1,a,h=>by
  have h':(lent vs us)[i]? =some (some a):=by cases v <;> cases u <;> simpa[lent] using h
  simpa using uv h'
theorem sC {K:PySem.W.Frag}:∀{F H:Hp}{vs:List V}{us:List U}{i:Nat}{o:MO},Paired (Bh K F H) vs us→us[i]? =some (.b o)→∃a,vs[i]? =some (.ref a)∧(lent vs us)[i]? =some (some a)∧F a=none∧At F H a o
 | _,_,_,_,_,_,.nil,h=>by simp at h
 | _,_,_,_,0,o,@Paired.cons _ _ _ v u vs us r rs,h=>by
  simp at h
  subst h
  obtain⟨a,rfl,f,k⟩:=r
  exact⟨a,rfl,rfl,f,k⟩
 | _,_,_,_,i+1,o,@Paired.cons _ _ _ v u vs us r rs,h=>by
  obtain⟨a,h1,h2,h3⟩:=sC (i:=i) rs (by simpa using h)
  refine⟨a,by simpa using h1,?_,h3⟩
  cases v <;> cases u <;> simpa[lent] using h2
theorem qP : ∀ {vs : List V} {us : List U} {i j : Nat} {a : Addr}, (addrs vs us).Nodup → (lent vs us)[i]? = some (some a) → (lent vs us)[j]? = some (some a) → i = j
  | [],us,i,j,a,_,h,_=>by cases us <;> simp[lent] at h
  | v :: vs,[],i,j,a,_,h,_=>by cases v <;> simp[lent] at h
  | v :: vs, u :: us, i, j, a, nd, h1, h2 => by
    have ih:∀{i j},(addrs vs us).Nodup→(lent vs us)[i]? =some (some a)→(lent vs us)[j]? =some (some a)→i=j:=fun {i j}=>qP (i:=i) (j:=j)
    by_cases Mv:∃c o,v= .ref c∧u= .b o
    · obtain⟨c,o,rfl,rfl⟩:=Mv
      obtain⟨n1,n2⟩:=List.nodup_cons.mp (show(c :: addrs vs us).Nodup from nd)
      cases i with
      | zero=>
        cases j with
        | zero=>rfl
        | succ j=>
          have e1:c=a:=by simpa[lent] using h1
          have e2:(lent vs us)[j]? =some (some a):=by simpa[lent] using h2
          subst e1
          exact absurd ((jm vs us c).mp (List.mem_of_getElem? e2)) n1
      | succ i=>
        have e1:(lent vs us)[i]? =some (some a):=by simpa[lent] using h1
        cases j with
        | zero=>
          have e2:c=a:=by simpa[lent] using h2
          subst e2
          exact absurd ((jm vs us c).mp (List.mem_of_getElem? e1)) n1
        | succ j=>exact congrArg Nat.succ (ih n2 e1 (by simpa[lent] using h2))
    · have e1:lent (v :: vs) (u :: us)=none :: lent vs us:=by cases v <;> cases u <;> first | rfl | exact absurd ⟨_,_,rfl,rfl⟩ Mv
      have e2:addrs (v :: vs) (u :: us)=addrs vs us:=by cases v <;> cases u <;> first | rfl | exact absurd ⟨_,_,rfl,rfl⟩ Mv
      rw[e1] at h1 h2
      rw[e2] at nd
      cases i with
      | zero=>simp at h1
      | succ i=>
        cases j with
        | zero=>simp at h2
        | succ j=>exact congrArg Nat.succ (ih nd (by simpa using h1) (by simpa using h2))
theorem kh {α β:Type}{P:α→β→Prop}:∀{l:List α}{r:List β}{i:Nat}{y:β},Paired P l r→r[i]? =some y→∃x,l[i]? =some x∧P x y
 | _,_,_,_,.nil,h=>by simp at h
 | _,_,0,_,.cons p _,h=>by simp at h;subst h;exact⟨_,rfl,p⟩
 | _,_,i+1,_,.cons _ ps,h=>by
  obtain⟨x,h1,h2⟩:=kh (i:=i) ps (by simpa using h)
  exact⟨x,by simpa using h1,h2⟩
theorem jR {K:PySem.W.Frag}{F H:Hp}{vs:List V}{us:List U}{n:Nat}(sb:Sub F H) (ar:Paired (Bh K F H) vs us) (nd:(addrs vs us).Nodup) (N:List Str) (hN:N.length=n):
  Rel K ⟨lent vs us,F,H⟩ (us.map some++List.replicate (n - us.length) none) (start N vs) F H:=by
 have hl:vs.length=us.length:=ar.length
 have gS:∀{i:Nat}{u:U},(us.map some++List.replicate (n - us.length) none)[i]? =some (some u)→us[i]? =some u:=fun {i u} h=>by
  rw[List.getElem?_append] at h
  split at h
  ·rw[List.getElem?_map] at h
   obtain⟨w,h1,h2⟩:=aj h
   cases h2
   exact h1
  ·rw[List.getElem?_replicate] at h
   split at h <;> cases h
 have Mw:∀{i:Nat}{v:V},vs[i]? =some v→(start N vs)[i]? =some (some v):=fun {i v} h=>by
  unfold start
  have hi:=(List.getElem?_eq_some_iff.mp h).1
  rw[List.getElem?_append_left (by simpa using hi),List.getElem?_map,h]
  rfl
 have vb:∀{i:Nat}{v w:V},vs[i]? =some v→(start N vs)[i]? =some (some w)→v=w:=fun {i v w} h k=>by
  rw[Mw h] at k
  cases k
  rfl
 have Dj:∀{i:Nat}{u:U},us[i]? =some u→cZ u=true→∃o a,u= .b o∧vs[i]? =some (.ref a)∧(lent vs us)[i]? =some (some a)∧F a=none∧At F H a o:=fun {i u} h hm=>by
  obtain⟨v,h1,h2⟩:=kh ar h
  cases u with
  | t d=>cases hm
  | v d=>cases hm
  | s d=>cases hm
  | f d=>cases hm
  | m o=>cases h2
  | b o=>obtain⟨a,k1,k2,k3,k4⟩:=sC ar h;exact⟨o,a,rfl,k1,k2,k3,k4⟩
 refine⟨sb,?_,fun i u h=>?_,fun i j u w a h1 m1 h2 m2 v1 v2=>?_,fun i o a h hv=>?_,fun i o a h hv=>?_,fun i a h=>?_,Ext.refl ..⟩
 ·unfold start;simp[hl,hN]
 ·obtain⟨v,h1,h2⟩:=kh ar (gS h)
  refine⟨v,Mw h1,?_⟩
  cases u with
  | t d=>exact h2
  | s d=>exact h2
  | f d=>exact h2
  | v d=>cases h2
  | m o=>cases h2
  | b o=>exact h2
 ·obtain⟨_,a1,_,k1,k2,_⟩:=Dj (gS h1) m1
  obtain⟨_,a2,_,l1,l2,_⟩:=Dj (gS h2) m2
  have e1:=vb k1 v1
  have e2:=vb l1 v2
  cases e1
  cases e2
  exact qP nd k2 l2
 ·obtain⟨_,_,e,_⟩:=Dj (gS h) rfl
  cases e
 ·obtain⟨_,a1,_,k1,k2,_⟩:=Dj (gS h) rfl
  have e1:=vb k1 hv
  cases e1
  exact List.mem_of_getElem? k2
 ·obtain⟨k1,o,k2⟩:=uv h
  refine⟨Mw k1,o,?_⟩
  have hi:=(List.getElem?_eq_some_iff.mp k2).1
  rw[List.getElem?_append_left (by simpa using hi),List.getElem?_map,k2]
  rfl
theorem sD {F' H' : Hp} : ∀ {vs : List V} {us : List U} {S : SS} {os : List MO}, aE us S = some os → vs.length = us.length → (∀ (i : Nat) (o : MO) (a : Addr), (lent vs us)[i]? = some (some a) → S[i]? = some (some (.b o)) → F' a = none ∧ At F' H' a o) → (∀ (i : Nat) (o : MO), us[i]? = some (.b o) → ∃ a, vs[i]? = some (.ref a)) →
    Paired (fun a o=>F' a=none∧At F' H' a o) (addrs vs us) os
  | [],[],S,os,h,_,_,_=>by cases S <;> (simp[aE] at h;subst h;exact .nil)
  | [],_ :: _,_,_,_,l,_,_=>by cases l
  | _ :: _,[],_,_,_,l,_,_=>by cases l
  | v :: vs, u :: us, S, os, h, l, k, kb => by
    have l':vs.length=us.length:=by simpa using l
    have kb':∀(i:Nat) (o:MO),us[i]? =some (.b o)→∃a,vs[i]? =some (.ref a):=fun i o z=>by simpa using kb (i+1) o (by simpa using z)
    by_cases hu:∃o,u= .b o
    · obtain⟨o,rfl⟩:=hu
      obtain⟨a,ha⟩:=kb 0 o rfl
      have ha:v= .ref a:=by simpa using ha
      subst ha
      cases S with
      | nil=>simp[aE] at h
      | cons s S=>
        cases s with
        | none=>simp[aE] at h
        | some s=>
          cases s with
          | b o'=>
            obtain⟨os',h1,h2⟩:=aj (show(aE us S).map (fun os=>o' :: os)=some os from h)
            subst h2
            exact .cons (k 0 o' a rfl rfl) (sD h1 l' (fun i o a z1 z2=>k (i+1) o a (by simpa[lent] using z1) (by simpa using z2)) kb')
          | t d=>simp[aE] at h
          | m d=>simp[aE] at h
          | v d=>simp[aE] at h
          | s d=>simp[aE] at h
          | f d=>simp[aE] at h
    · cases S with
      | nil=>cases u <;> first | (simp[aE] at h;done) | exact absurd ⟨_,rfl⟩ hu
      | cons s S=>
        have h':aE us S=some os:=by cases u <;> first | exact absurd ⟨_,rfl⟩ hu | simpa[aE] using h
        have e2:addrs (v :: vs) (u :: us)=addrs vs us:=by cases v <;> cases u <;> first | rfl | exact absurd ⟨_,rfl⟩ hu
        have e1:lent (v :: vs) (u :: us)=none :: lent vs us:=by cases v <;> cases u <;> first | rfl | exact absurd ⟨_,rfl⟩ hu
        rw[e2]
        exact sD h' l' (fun i o a z1 z2=>k (i+1) o a (by rw[e1];simpa using z1) (by simpa using z2)) kb'
theorem post_of {K:PySem.W.Frag}{F0 H:Hp}{vs:List V}{us:List U}(ar:Paired (Bh K F0 H) vs us) (S':SS) (σ':St) (F' H':Hp) (os:List MO) (R':Rel K ⟨lent vs us,F0,H⟩ S' σ' F' H') (ho':aE us S'=some os):Post F0 H F' H' (addrs vs us) os:=by
 refine⟨R'.sub,⟨R'.ext.le,fun b o z n=>R'.ext.keep b o z fun m=>n ((jm vs us b).mp m),fun b o z n=>R'.ext.fV b o z fun m=>n ((jm vs us b).mp m),R'.ext.there,R'.ext.gm⟩,sD ho' ar.length (fun i o a z1 z2=>?_) fun i o z=>?_⟩
 ·obtain⟨k1,o2,k2⟩:=R'.par i a z1
  obtain⟨v,j1,j2⟩:=R'.rep i _ z2
  rw[k1] at j1
  cases j1
  obtain⟨c,e,f,k⟩:=j2
  cases e
  exact⟨f,k⟩
 ·obtain⟨a,h1,_⟩:=sC ar z
  exact⟨a,h1⟩
section
variable {P:Program}{w:World}{K:PySem.W.Frag}{mg:Str→Option Value}{base:Heap}
theorem uw {x qual:Str}{st:Stmt}{f:Addr}{fd:FuncData}{N ps:List Str}{k:Nat}{fm:FM}{g:GS}(F:nT K x qual st f fd) (Sc:bK N ps (au st))
  (hb:∀(cdv:Value) (A:Around) (outer:List Env) (s:Shared) (H:Hp) (E:XK),fX k (A.deeper (envOfC qual (au st) s.heap.objs.size f cdv))→JB (vZ gn P w K mg base N qual (au st) f cdv A outer s H E).CH (bg st) g)
  (hf:∀us r,fm us=some r→aT N.length g us=some r):bB P w K mg base gn (k+1) f fd ps (spT K ps.length fm):=by
 refine F.ok Sc (fun vs H Q E h=>h.1) fun cdv A outer s H vs Q E hr h=>?_
 obtain⟨hlen,F0,us,r,outs,sb,ar,nd,hfm,q⟩:=h
 have hrun:=hf us (r,outs) hfm
 have J:=hb cdv A outer s H E hr
 refine⟨_,J.h ⟨lent vs us,F0,H⟩,?_⟩
 have R0:=jR sb ar nd N rfl
 obtain⟨o,ho,hrun⟩:=aa hrun
 refine⟨_,F0,o,R0,ho,?_⟩
 have post:=post_of ar
 cases o with
 | bk S'=>cases hrun
 | ct S'=>cases hrun
 | nx S'=>
  obtain⟨os,h1,h2⟩:=aj (show(aE us S').map _=some (r,outs) from hrun)
  cases h2
  exact fun σ' F' H' R' le=>q .bS F' H' (post S' σ' F' H' outs R' h1) .bS
 | rt u S'=>
  cases u with
  | b o=>cases hrun
  | v i=>cases hrun
  | s i=>cases hrun
  | f i=>cases hrun
  | t d=>
   obtain⟨os,h1,h2⟩:=aj (show(aE us S').map _=some (r,outs) from hrun)
   cases h2
   exact fun v σ' F' H' R' le rr=>q v F' H' (post S' σ' F' H' outs R' h1) rr
  | m o=>
   obtain⟨os,h1,h2⟩:=aj (show(aE us S').map _=some (r,outs) from hrun)
   cases h2
   exact fun v σ' F' H' R' le rr=>q v F' H' (post S' σ' F' H' outs R' h1) (by obtain⟨a,e,h0,f,h,n,hB⟩:=rr;exact⟨a,e,hB,f,h⟩)
end
end L2
end
section
set_option Elab.async false
set_option linter.all false
set_option maxRecDepth 100000
namespace L2
open PySem PySem.Spec PyProof.Rows
noncomputable def Bj (S:SS) (i:Nat):Option U:=match S[i]? with
 | some (some (.t d))=>some (.t d)
 | some (some (.s d))=>some (.s d)
 | some (some (.f d))=>some (.f d)
 | some (some (.m _))=>some (.v i)
 | some (some (.b _))=>some (.v i)
 | _=>none
noncomputable def gq (S:SS):List Nat→Option (List U)
 | []=>some []
 | i :: cap=>(Bj S i).bind fun u=>(gq S cap).map fun us=>u :: us
noncomputable def j3:GT:=fun S=>some (true,S)
noncomputable def gH (cap:List Nat) (q:GT) (g:GD):List D→SS→List D→Option (List D×SS)
  | [],S,acc=>some (acc,S)
  | d :: ds, S, acc => (gq S cap).bind fun us =>
    if(slotsOf us).Nodup∧bL us≤1 then(bF S us).bind fun ws=>(q (some (.t d) :: ws.map some)).bind fun p=>
      if p.1 then(g p.2).bind fun r=>(aE (.t d :: ws) r.2).bind fun outs=>(wb us outs S).bind fun S'=>gH cap q g ds S' (acc++[r.1])
      else(aE (.t d :: ws) p.2).bind fun outs=>(wb us outs S).bind fun S'=>gH cap q g ds S' acc
    else none
noncomputable def qQ (cap:List Nat) (gi:GI) (q:GT) (g:GD):GE:=fun S=>(gi S).bind fun p=>if p.1.length≤100000 then(gH cap q g p.1 p.2 []).map fun r=>(.m (.lst r.1),r.2) else none
structure Kq (X:Cx) (es:List Expr) (q:GT):Prop where
 h:∀B,D5 X es (tQ X.K B q)
theorem lg {X:Cx}:Kq X [] j3:=⟨fun B pins s σ H Q I ⟨S,F,b,S',R,hg,q⟩=>by cases hg;exact C5 pins s σ H Q I (q F H R (Step.refl ..))⟩
theorem wC {K:PySem.W.Frag}{B:Base}{S:SS}{σ:St}{F H:Hp}(R:Rel K B S σ F H):∀{cap:List Nat}{us:List U},gq S cap=some us→∃vs:List V,aU cap σ=vs.map some∧Paired (fun v u=>fY K B S σ H F H v u) vs us
  | [],us,h=>by cases h;exact⟨[],rfl,.nil⟩
  | i :: cap, us, h => by
    obtain⟨u,h1,h⟩:=aa h
    obtain⟨us',h2,h⟩:=aj h
    subst h
    obtain⟨vs,k1,k2⟩:=wC R h2
    have one:∀w,S[i]? =some (some w)→∃v,σ[i]? =some (some v)∧uh K F H v w:=R.rep i
    unfold Bj at h1
    have fin:∀v,σ[i]? =some (some v)→fY K B S σ H F H v u→∃vs:List V,aU (i :: cap) σ=vs.map some∧Paired (fun v u=>fY K B S σ H F H v u) vs (u :: us'):=fun v e r=>
      ⟨v :: vs,by show(σ[i]?).join :: aU cap σ=_;rw[e,k1];rfl,.cons r k2⟩
    split at h1
    · rename_i d e
      cases h1
      obtain⟨v,e1,r⟩:=one _ e
      exact fin v e1 r
    · rename_i d e
      cases h1
      obtain⟨v,e1,r⟩:=one _ e
      exact fin v e1 r
    · rename_i d e
      cases h1
      obtain⟨v,e1,r⟩:=one _ e
      exact fin v e1 r
    · rename_i o e
      cases h1
      obtain⟨v,e1,r⟩:=one _ e
      exact fin v e1 ⟨e1,_,e⟩
    · rename_i o e
      cases h1
      obtain⟨v,e1,r⟩:=one _ e
      exact fin v e1 ⟨e1,_,e⟩
    · cases h1
theorem lq {K:PySem.W.Frag}{B:Base}{S:SS}{σ:St}{F H:Hp}(R:Rel K B S σ F H) (d:D){us ws:List U}(h:bF S us=some ws):bF S (.t d :: us)=some (.t d :: ws):=by
 show(some (U.t d)).bind _=_
 show(bF S us).map _=_
 rw[h]
 rfl
theorem Bk {K : PySem.W.Frag} {B : Base} {cap : List Nat} {gi : GI} {q : GT} {g : GD} {σ : St} {H : Hp} {Q : VK} (h : tE K B (qQ cap gi q g) σ H Q) : Iw (Mq K B gi) cap (fun σ H Q => ∃ B, tQ K B q σ H Q) (fun σ H Q => ∃ B, tD K B g σ H Q) σ H Q := by
  obtain⟨x,_⟩:∃x:Str,True:=⟨"",trivial⟩
  obtain⟨S,F,u,S',R,hg,k⟩:=h
  obtain⟨⟨ds,S1⟩,h1,hg⟩:=aa hg
  dsimp only at hg
  split at hg
  · rename_i hlen
    obtain⟨⟨res,Sf⟩,h2,hg⟩:=aj hg
    cases hg
    refine⟨S,F,ds,S1,R,h1,fun J F1 H1 R1 st1 w=>?_⟩
    refine⟨fun i m ys H'=>∃S2 F2 acc,Rel K B S2 σ F2 H'∧Step S S2 σ F H F2 H'∧(∀b o,F1 b=some o→F2 b=some o)∧aG F2 ys acc∧acc.length≤i∧i≤ds.length∧m=ds.length - i∧gH cap q g (ds.drop i) S2 acc=some (res,Sf),
      ⟨_,S1,F1,[],R1,st1,fun _ _ z=>z,.nil,Nat.le_refl _,Nat.zero_le _,rfl,h2⟩,?_⟩
    rintro i m ys H' ⟨S2,F2,acc,R2,st2,le,ry,ha,hl,rfl,bV⟩
    refine⟨by rw[ry.length];exact Nat.lt_of_le_of_lt (Nat.le_trans ha (Nat.le_trans hl hlen)) (by decide),?_⟩
    have w':=w F2 H' le R2.sub i
    by_cases hlt:i < ds.length
    · have hd:ds[i]? =some ds[i]:=List.getElem?_eq_getElem hlt
      obtain⟨go,yl⟩:=w'.1 _ hd
      rw[List.drop_eq_getElem_cons hlt] at bV
      refine .inr ⟨go,fun xv H3 y=>?_⟩
      obtain⟨rfl,rx⟩:=yl xv H3 y
      obtain⟨us,e1,bV⟩:=aa bV
      skip
      split at bV
      · rename_i hnd
        obtain⟨ws,e2,bV⟩:=aa bV
        obtain⟨⟨bk,T1⟩,e3,bV⟩:=aa bV
        obtain⟨vs,k1,k2⟩:=wC R2 e1
        have rr:Paired (fun v u=>fY K B S2 σ H3 F2 H3 v u) (xv :: vs) (.t ds[i] :: us):=.cons rx k2
        have er:=lq R2 ds[i] e2
        have ar:=kY R2 rr er
        have nd:=cA R2 rr er hnd.1 hnd.2
        have R3:=jR (n:=ws.length+1) R2.sub ar nd (List.replicate (ws.length+1) x) (by simp)
        have hvl:vs.length=ws.length:=by have:=ar.length;simpa using this
        have es:start (List.replicate (ws.length+1) x) (xv :: vs)=some xv :: aU cap σ:=by
          unfold start;rw[k1];simp[hvl]
        have eS:(U.t ds[i] :: ws).map some++List.replicate (ws.length+1 - (U.t ds[i] :: ws).length) none=some (U.t ds[i]) :: ws.map some:=by simp
        rw[es,eS] at R3
        have back:∀(T2:SS) (F3 H4:Hp) (outs:List MO) (S3:SS),Rel K ⟨lent (xv :: vs) (U.t ds[i] :: ws),F2,H3⟩ T2 (some xv :: aU cap σ) F3 H4→aE (U.t ds[i] :: ws) T2=some outs→wb us outs S2=some S3→Rel K B S3 σ F3 H4∧Step S S3 σ F H F3 H4∧(∀b o,F2 b=some o→F3 b=some o):=fun T2 F3 H4 outs S3 RT ho hw=>by
          have po:=post_of ar T2 _ F3 H4 outs RT ho
          obtain⟨Ra,qR,_⟩:=gG (S0:=S2) (F0:=F2) (H0:=H3) R2 (Step.refl ..) rr er (show wb (U.t ds[i] :: us) outs S2=some S3 by cases outs <;> exact hw) hnd.1 po
          exact⟨Ra,st2.trans qR,qR.ext.le⟩
        refine⟨_,_,F2,bk,T1,R3,e3,fun F3 H4 Ec IV=>?_⟩
        cases bk with
        | true=>
          obtain⟨⟨yd,T2⟩,e4,bV⟩:=aa (show(g T1).bind _=_ from bV)
          obtain⟨outs,e5,bV⟩:=aa bV
          obtain⟨S3,e6,bV⟩:=aa bV
          refine yX ⟨_,T1,F3,yd,T2,Ec,e4,fun yv F4 H5 IW IX IY=>?_⟩
          obtain⟨Ra,qR,wF⟩:=back T2 F4 H5 outs S3 IW e5 e6
          refine⟨ds.length - (i+1),by omega,S3,F4,acc++[yd],Ra,qR,fun b o z=>wF b o (le b o z),(ry.le wF).append (.cons IY .nil),by simp;omega,hlt,rfl,bV⟩
        | false=>
          obtain⟨outs,e5,bV⟩:=aa (show(aE (U.t ds[i] :: ws) T1).bind _=_ from bV)
          obtain⟨S3,e6,bV⟩:=aa bV
          obtain⟨Ra,qR,wF⟩:=back T1 F3 H4 outs S3 Ec e5 e6
          exact yW ⟨ds.length - (i+1),by omega,S3,F3,acc,Ra,qR,fun b o z=>wF b o (le b o z),ry.le wF,by omega,hlt,rfl,bV⟩
      · cases bV
    · have e:i=ds.length:=by omega
      subst e
      rw[List.drop_length] at bV
      cases bV
      refine .inl ⟨w'.2 (Nat.le_refl _),fun p hp=>?_⟩
      have n:=d8.obj (F:=F2) hp (.lst ys)
      refine k (.ref p) F2 _ (R2.new n (R2.sub.same n.same)) (st2.trans n.step) ⟨p,rfl,none_of st2.ext.there hp,R2.sub.fresh hp,⟨ys,aF,ry⟩,fun m=>?_,none_of R2.ext.there hp⟩
      obtain⟨o,ho⟩:=R2.has m
      rw[hp] at ho
      cases ho
  · cases hg
theorem sE {X:Cx}{elt iter:Expr}{ifs:List Expr}{x:Str}{px pos:Pos}{scope:Scope}{cl:List (Str×Addr)}{bW:List Str}{cap:List Nat}{gi:GI}{q:GT}{g:GD}(T:gW X x bW cap scope cl) (hc:X.calm=true) (hi:JI X (.Name x px) iter gi)
  (ht:∀C s H fp,Kq (cj X (x :: bW) scope cl C s H fp) ifs q) (he:∀C s H fp,JD (cj X (x :: bW) scope cl C s H fp) elt g)
  (hs:∀x,foldedSetIterable iter X.env x=pure x:=by intro _;rfl):JE X (.ListComp elt [⟨.Name x px,iter,ifs,0⟩] scope pos) (qQ cap gi q g):=⟨fun B=>by
 exact(ue (tc:=fun σ H Q=>∃B,tQ X.K B q σ H Q) (te:=fun σ H Q=>∃B,tD X.K B g σ H Q) T hc (hi.h B) (fun C s H fp pins s' σ H' Q I ⟨B',z⟩=>(ht C s H fp).h B' pins s' σ H' Q I z) (fun C s H fp pins s' σ H' Q I ⟨B',z⟩=>(he C s H fp).h B' pins s' σ H' Q I z) hs).imp fun σ H Q h=>Bk h⟩
end L2
end
section
set_option Elab.async false
set_option linter.all false
set_option maxRecDepth 100000
namespace L2
open PySem PySem.Spec PyProof.Rows
mutual
noncomputable def iD:D→D→Bool
 | .bS,.bS=>true
 | .bl a,.bl b=>a == b
 | .int a,.int b=>a == b
 | .bl a,.int b=>(if a then 1 else 0) == b
 | .int a,.bl b=>a == (if b then 1 else 0)
 | .str a,.str b=>a == b
 | .tup a,.tup b=>ki a b
 | .lst a,.lst b=>ki a b
 | _,_=>false
noncomputable def ki:List D→List D→Bool
 | [],[]=>true
 | a :: as,b :: bs=>iD a b && ki as bs
 | _,_=>false
end
mutual
noncomputable def fK:D→Nat
 | .tup ds=>bu ds+1
 | .lst ds=>bu ds+1
 | _=>0
noncomputable def bu:List D→Nat
 | []=>0
 | d :: ds=>max (fK d) (bu ds)
end
mutual
theorem oA:∀d:D,iD d d=true
 | .bS=>rfl
 | .bl a=>by simp[iD]
 | .int a=>by simp[iD]
 | .str a=>by simp[iD]
 | .tup a=>by unfold iD;exact iH a
 | .lst a=>by unfold iD;exact iH a
theorem iH:∀ds:List D,ki ds ds=true
 | []=>rfl
 | d :: ds=>by unfold ki;rw[oA d,iH ds];rfl
end
noncomputable def jo (as bs:List D) (j:Nat):Bool:=match as[j]?,bs[j]? with
 | some a,some b=>iD a b
 | _,_=>true
theorem oB (n:Nat) (e:Nat→Bool):(List.range (n+1)).all e=(e 0 && (List.range n).all fun j=>e (j+1)):=by
 rw[List.range_succ_eq_map,List.all_cons,List.all_map]
 rfl
theorem jq:∀{as bs:List D},as.length≠bs.length→ki as bs=false
 | [],[],h=>absurd rfl h
 | [],_ :: _,_=>rfl
 | _ :: _,[],_=>rfl
 | a :: as,b :: bs,h=>by
  unfold ki
  rw[jq (as:=as) (bs:=bs) (fun z=>h (by simp[z])),Bool.and_false]
theorem gI:∀{as bs:List D},as.length=bs.length→(List.range as.length).all (jo as bs)=ki as bs
 | [],[],_=>rfl
 | [],_ :: _,h=>by cases h
 | _ :: _,[],h=>by cases h
 | a :: as,b :: bs,h=>by
  have h':as.length=bs.length:=by simpa using h
  show(List.range (as.length+1)).all _=_
  rw[oB]
  unfold ki
  have ih:=gI h'
  have e:(fun j=>jo (a :: as) (b :: bs) (j+1))=jo as bs:=by funext j;simp[jo]
  rw[e,ih]
  rfl
mutual
theorem Rep.uniq {F:Hp}:∀{v:V}{d e:D},Rep F v d→Rep F v e→d=e
 | _,_,_,.bS,r=>by cases r;rfl
 | _,_,_,.bl b,r=>by cases r;rfl
 | _,_,_,.int b,r=>by cases r;rfl
 | _,_,_,.str b,r=>by cases r;rfl
 | _,_,_,.tup e1 r1,r=>by
  cases r with
  | tup e2 r2=>rw[e1] at e2;cases e2;rw[aG.uniq r1 r2]
  | lst e2 r2=>rw[e1] at e2;cases e2
 | _,_,_,.lst e1 r1,r=>by
  cases r with
  | tup e2 r2=>rw[e1] at e2;cases e2
  | lst e2 r2=>rw[e1] at e2;cases e2;rw[aG.uniq r1 r2]
theorem aG.uniq {F:Hp}:∀{vs:List V}{ds es:List D},aG F vs ds→aG F vs es→ds=es
 | _,_,_,.nil,r=>by cases r;rfl
 | _,_,_,.cons r1 s1,r=>by
  cases r with
  | cons r2 s2=>rw[Rep.uniq r1 r2,aG.uniq s1 s2]
end
section
variable {X:Cx}{pins:List (Addr×Obj)}{σ:St}{F H:Hp}{s:Shared}
theorem Sub.isTup (I:Inv X pins σ H s) (sb:Sub F H){a:Addr}{vs:List V}(h:F a=some (.tup vs)):∃its:List Value,Vals vs its∧s.heap.IsTuple a its.toArray:=by
 obtain⟨its,rv,p,_⟩:=I.tuple (.inl (Rd.of (sb a _ h)))
 exact⟨its,rv,p⟩
theorem Sub.cF (I:Inv X pins σ H s) (sb:Sub F H){a:Addr}{vs:List V}(h:F a=some (.lst vs)):∃its:List Value,Vals vs its∧s.heap.IsList a its.toArray:=by
 obtain⟨its,rv,p,_⟩:=I.list (.inl (Rd.of (sb a _ h)))
 exact⟨its,rv,p.isList⟩
noncomputable def fG (A:Around) (s:Shared) (its aW:List Value) (ds es:List D):Prop:=∀j (h1:j < its.toArray.size) (h2:j < aW.toArray.size),SeqAt.EqAt A.in1 s its.toArray[j] aW.toArray[j] (jo ds es j)
theorem xY {n m:Nat}(h:n=m) (e:Nat→Bool):((List.range (min n m)).all e && n == m)=(List.range n).all e:=by
 subst h;simp
theorem lu {A:Around}{ca cb:Addr}{dG aW:List Value}{ds es:List D}(hu:A.units < cLine) (pa:s.heap.IsTuple ca dG.toArray) (pb:s.heap.IsTuple cb aW.toArray) (la:dG.length=ds.length) (lb:aW.length=es.length) (h:fG A s dG aW ds es):
  SeqAt.RcAt A s (.ref ca) (.ref cb) (ki ds es):=by
 have q:=SeqAt.RcAt.tuples (e:=jo ds es) pa pb hu h
 rw[List.size_toArray,List.size_toArray,la,lb] at q
 by_cases hl:ds.length=es.length
 ·rw[xY hl,gI hl] at q;exact q
 ·rw[jq hl]
  have:(ds.length == es.length)=false:=by simpa using hl
  rw[this,Bool.and_false] at q
  exact q
theorem oE {A:Around}{ca cb:Addr}{dG aW:List Value}{ds es:List D}(hu:A.units < cLine) (pa:s.heap.IsTuple ca dG.toArray) (pb:s.heap.IsTuple cb aW.toArray) (la:dG.length=ds.length) (lb:aW.length=es.length) (h:fG A s dG aW ds es):
  SeqAt.RcNeAt A s (.ref ca) (.ref cb) (!ki ds es):=by
 have q:=SeqAt.RcNeAt.tuples (e:=jo ds es) pa pb hu h
 rw[List.size_toArray,List.size_toArray,la,lb] at q
 by_cases hl:ds.length=es.length
 ·rw[xY hl,gI hl] at q;exact q
 ·rw[jq hl]
  have:(ds.length == es.length)=false:=by simpa using hl
  rw[this,Bool.and_false] at q
  exact q
theorem mW {A:Around}{ca cb:Addr}{dG aW:List Value}{ds es:List D}(hu:A.units < cLine) (pa:s.heap.IsList ca dG.toArray) (pb:s.heap.IsList cb aW.toArray) (la:dG.length=ds.length) (lb:aW.length=es.length) (h:fG A s dG aW ds es):
  SeqAt.RcAt A s (.ref ca) (.ref cb) (ki ds es):=by
 by_cases hl:ds.length=es.length
 ·have q:=SeqAt.RcAt.lists (e:=jo ds es) pa pb (by rw[List.size_toArray,List.size_toArray,la,lb];exact hl) hu h
  rw[List.size_toArray,la,gI hl] at q;exact q
 ·rw[jq hl]
  exact SeqAt.RcAt.lists_lengths pa pb (by rw[List.size_toArray,List.size_toArray,la,lb];simpa using hl) hu
theorem qi {A:Around}{ca cb:Addr}{dG aW:List Value}{ds es:List D}(hu:A.units < cLine) (pa:s.heap.IsList ca dG.toArray) (pb:s.heap.IsList cb aW.toArray) (la:dG.length=ds.length) (lb:aW.length=es.length) (h:fG A s dG aW ds es):
  SeqAt.RcNeAt A s (.ref ca) (.ref cb) (!ki ds es):=by
 by_cases hl:ds.length=es.length
 ·have q:=SeqAt.RcNeAt.lists (e:=jo ds es) pa pb (by rw[List.size_toArray,List.size_toArray,la,lb];exact hl) hu h
  rw[List.size_toArray,la,gI hl] at q;exact q
 ·rw[jq hl]
  exact SeqAt.RcNeAt.lists_lengths pa pb (by rw[List.size_toArray,List.size_toArray,la,lb];simpa using hl) hu
theorem cy {α:Type}(l:List α) (j:Nat) (h:j < l.toArray.size):l[j]? =some l.toArray[j]:=by
 have z:j < l.length:=by simpa using h
 simp[z]
mutual
theorem Ed (I : Inv X pins σ H s) (sb : Sub F H) : ∀ (d : D) {e : D} {A : Around} {x y : V} {u w' : Value}, Rep F x d → Rep F y e → RelV x u → RelV y w' → A.units + fK d < cLine → SeqAt.EqAt A s u w' (iD d e) := fun d {e A x y u w'} r1 r2 rx ry hu => by
  cases r1 with
  | bS=>
    cases rx
    cases r2 with
    | bS=>cases ry;exact SeqAt.EqAt.same _
    | bl b=>cases ry;exact SeqAt.EqAt.none_bool b
    | int b=>obtain⟨tb,rfl⟩:=ry;exact SeqAt.EqAt.none_int b tb
    | str b=>obtain⟨tb,rfl⟩:=ry;exact SeqAt.EqAt.none_str b tb
    | @tup cb jr iI eb rb=>cases ry;obtain⟨aW,gJ,pb⟩:=sb.isTup I eb;exact SeqAt.EqAt.none_tuple pb (by omega)
    | @lst cb jr iI eb rb=>cases ry;obtain⟨aW,gJ,pb⟩:=sb.cF I eb;exact SeqAt.EqAt.none_list pb (by omega)
  | bl a=>
    cases rx
    cases r2 with
    | bS=>cases ry;exact SeqAt.EqAt.bool_none a
    | bl b=>cases ry;exact SeqAt.EqAt.bool_bool a b
    | int b=>obtain⟨tb,rfl⟩:=ry;exact SeqAt.EqAt.bool_int a b tb
    | str b=>obtain⟨tb,rfl⟩:=ry;exact SeqAt.EqAt.bool_str a b tb
    | @tup cb jr iI eb rb=>cases ry;obtain⟨aW,gJ,pb⟩:=sb.isTup I eb;exact SeqAt.EqAt.bool_tuple a pb (by omega)
    | @lst cb jr iI eb rb=>cases ry;obtain⟨aW,gJ,pb⟩:=sb.cF I eb;exact SeqAt.EqAt.bool_list a pb (by omega)
  | int a=>
    obtain⟨ta,rfl⟩:=rx
    cases r2 with
    | bS=>cases ry;exact SeqAt.EqAt.int_none a ta
    | bl b=>cases ry;exact SeqAt.EqAt.int_bool a ta b
    | int b=>obtain⟨tb,rfl⟩:=ry;exact SeqAt.EqAt.int_int a ta b tb
    | str b=>obtain⟨tb,rfl⟩:=ry;exact SeqAt.EqAt.int_str a ta b tb
    | @tup cb jr iI eb rb=>cases ry;obtain⟨aW,gJ,pb⟩:=sb.isTup I eb;exact SeqAt.EqAt.int_tuple a ta pb (by omega)
    | @lst cb jr iI eb rb=>cases ry;obtain⟨aW,gJ,pb⟩:=sb.cF I eb;exact SeqAt.EqAt.int_list a ta pb (by omega)
  | str a=>
    obtain⟨ta,rfl⟩:=rx
    cases r2 with
    | bS=>cases ry;exact SeqAt.EqAt.str_none a ta
    | bl b=>cases ry;exact SeqAt.EqAt.str_bool a ta b
    | int b=>obtain⟨tb,rfl⟩:=ry;exact SeqAt.EqAt.str_int a ta b tb
    | str b=>obtain⟨tb,rfl⟩:=ry;exact SeqAt.EqAt.str_str a ta b tb
    | @tup cb jr iI eb rb=>cases ry;obtain⟨aW,gJ,pb⟩:=sb.isTup I eb;exact SeqAt.EqAt.str_tuple a ta pb (by omega)
    | @lst cb jr iI eb rb=>cases ry;obtain⟨aW,gJ,pb⟩:=sb.cF I eb;exact SeqAt.EqAt.str_list a ta pb (by omega)
  | @tup ca IZ jX ea ra=>
    cases rx;obtain⟨dG,ux,pa⟩:=sb.isTup I ea
    cases r2 with
    | bS=>cases ry;exact SeqAt.EqAt.tuple_none pa (by omega)
    | bl b=>cases ry;exact SeqAt.EqAt.tuple_bool b pa (by omega)
    | int b=>obtain⟨tb,rfl⟩:=ry;exact SeqAt.EqAt.tuple_int b tb pa (by omega)
    | str b=>obtain⟨tb,rfl⟩:=ry;exact SeqAt.EqAt.tuple_str b tb pa (by omega)
    | @tup cb jr iI eb rb=>cases ry;obtain⟨aW,gJ,pb⟩:=sb.isTup I eb;exact(by
      have hd:A.units+(bu jX+1) < cLine:=hu
      have items:fG A s dG aW jX iI:=fun j h1 h2=>gK I sb jX (A:=A.in1) ra rb ux gJ (by show A.units+1+bu jX < cLine;omega) (cy dG j h1) (cy aW j h2)
      by_cases hc:ca=cb
      · subst hc
        rw[ea] at eb
        cases eb
        obtain rfl:=aG.uniq ra rb
        show SeqAt.EqAt A s _ _ (ki jX jX)
        rw[iH]
        exact SeqAt.EqAt.same _
      · exact SeqAt.EqAt.of_refs hc (lu (by omega) pa pb (ux.length.symm.trans ra.length) (gJ.length.symm.trans rb.length) items))
    | @lst cb jr iI eb rb=>cases ry;obtain⟨aW,gJ,pb⟩:=sb.cF I eb;exact SeqAt.EqAt.tuple_list pa pb (by omega)
  | @lst ca IZ jX ea ra=>
    cases rx;obtain⟨dG,ux,pa⟩:=sb.cF I ea
    cases r2 with
    | bS=>cases ry;exact SeqAt.EqAt.list_none pa (by omega)
    | bl b=>cases ry;exact SeqAt.EqAt.list_bool b pa (by omega)
    | int b=>obtain⟨tb,rfl⟩:=ry;exact SeqAt.EqAt.list_int b tb pa (by omega)
    | str b=>obtain⟨tb,rfl⟩:=ry;exact SeqAt.EqAt.list_str b tb pa (by omega)
    | @tup cb jr iI eb rb=>cases ry;obtain⟨aW,gJ,pb⟩:=sb.isTup I eb;exact SeqAt.EqAt.list_tuple pa pb (by omega)
    | @lst cb jr iI eb rb=>cases ry;obtain⟨aW,gJ,pb⟩:=sb.cF I eb;exact(by
      have hd:A.units+(bu jX+1) < cLine:=hu
      have items:fG A s dG aW jX iI:=fun j h1 h2=>gK I sb jX (A:=A.in1) ra rb ux gJ (by show A.units+1+bu jX < cLine;omega) (cy dG j h1) (cy aW j h2)
      by_cases hc:ca=cb
      · subst hc
        rw[ea] at eb
        cases eb
        obtain rfl:=aG.uniq ra rb
        show SeqAt.EqAt A s _ _ (ki jX jX)
        rw[iH]
        exact SeqAt.EqAt.same _
      · exact SeqAt.EqAt.of_refs hc (mW (by omega) pa pb (ux.length.symm.trans ra.length) (gJ.length.symm.trans rb.length) items))
theorem gK (I : Inv X pins σ H s) (sb : Sub F H) : ∀ (ds : List D) {es : List D} {A : Around} {vs ws : List V} {us us' : List Value} {j : Nat} {u w' : Value}, aG F vs ds → aG F ws es → Vals vs us → Vals ws us' → A.units + bu ds < cLine → us[j]? = some u → us'[j]? = some w' → SeqAt.EqAt A s u w' (jo ds es j) := fun ds {es A vs ws us us' j u w'} r1 r2 v1 v2 hu h1 h2 => by
  cases r1 with
  | nil=>cases v1;simp at h1
  | @cons v d vs ds r rs =>
    cases v1 with
    | cons q qs=>
      cases r2 with
      | nil=>cases v2;simp at h2
      | @cons w e ws es r' rs'=>
        cases v2 with
        | cons q' QC=>
          have hd:A.units+max (fK d) (bu ds) < cLine:=hu
          cases j with
          | zero=>
            simp at h1 h2
            subst h1 h2
            exact Ed I sb d r r' q q' (by omega)
          | succ j=>
            simp at h1 h2
            have:=gK I sb ds (A:=A) rs rs' qs QC (j:=j) (by omega) h1 h2
            simpa[jo] using this
end
end
end L2
end
section
set_option Elab.async false
set_option linter.all false
set_option maxRecDepth 100000
namespace L2
open PySem PySem.Spec PyProof.Rows
section
variable {X:Cx}{pins:List (Addr×Obj)}{σ:St}{F H:Hp}{s:Shared}
theorem I0 (I:Inv X pins σ H s) (sb:Sub F H){d e:D}{A:Around}{x y:V}{u w':Value}(r1:Rep F x d) (r2:Rep F y e) (rx:RelV x u) (ry:RelV y w') (hu:A.units+fK d < cLine):SeqAt.RcAt A s u w' (iD d e):=by
 cases r1 with
 | bS=>
  cases rx
  cases r2 with
  | bS=>cases ry;exact SeqAt.RcAt.none_none
  | bl b=>cases ry;exact SeqAt.RcAt.none_bool b
  | int b=>obtain⟨tb,rfl⟩:=ry;exact SeqAt.RcAt.none_int b tb
  | str b=>obtain⟨tb,rfl⟩:=ry;exact SeqAt.RcAt.none_str b tb
  | @tup cb jr iI eb rb=>cases ry;obtain⟨aW,gJ,pb⟩:=sb.isTup I eb;exact SeqAt.RcAt.none_tuple pb (by omega)
  | @lst cb jr iI eb rb=>cases ry;obtain⟨aW,gJ,pb⟩:=sb.cF I eb;exact SeqAt.RcAt.none_list pb (by omega)
 | bl a=>
  cases rx
  cases r2 with
  | bS=>cases ry;exact SeqAt.RcAt.bool_none a
  | bl b=>cases ry;exact SeqAt.RcAt.bool_bool a b
  | int b=>obtain⟨tb,rfl⟩:=ry;exact SeqAt.RcAt.bool_int a b tb
  | str b=>obtain⟨tb,rfl⟩:=ry;exact SeqAt.RcAt.bool_str a b tb
  | @tup cb jr iI eb rb=>cases ry;obtain⟨aW,gJ,pb⟩:=sb.isTup I eb;exact SeqAt.RcAt.bool_tuple a pb (by omega)
  | @lst cb jr iI eb rb=>cases ry;obtain⟨aW,gJ,pb⟩:=sb.cF I eb;exact SeqAt.RcAt.bool_list a pb (by omega)
 | int a=>
  obtain⟨ta,rfl⟩:=rx
  cases r2 with
  | bS=>cases ry;exact SeqAt.RcAt.int_none a ta
  | bl b=>cases ry;exact SeqAt.RcAt.int_bool a ta b
  | int b=>obtain⟨tb,rfl⟩:=ry;exact SeqAt.RcAt.int_int a ta b tb
  | str b=>obtain⟨tb,rfl⟩:=ry;exact SeqAt.RcAt.int_str a ta b tb
  | @tup cb jr iI eb rb=>cases ry;obtain⟨aW,gJ,pb⟩:=sb.isTup I eb;exact SeqAt.RcAt.int_tuple a ta pb (by omega)
  | @lst cb jr iI eb rb=>cases ry;obtain⟨aW,gJ,pb⟩:=sb.cF I eb;exact SeqAt.RcAt.int_list a ta pb (by omega)
 | str a=>
  obtain⟨ta,rfl⟩:=rx
  cases r2 with
  | bS=>cases ry;exact SeqAt.RcAt.str_none a ta
  | bl b=>cases ry;exact SeqAt.RcAt.str_bool a ta b
  | int b=>obtain⟨tb,rfl⟩:=ry;exact SeqAt.RcAt.str_int a ta b tb
  | str b=>obtain⟨tb,rfl⟩:=ry;exact SeqAt.RcAt.str_str a ta b tb
  | @tup cb jr iI eb rb=>cases ry;obtain⟨aW,gJ,pb⟩:=sb.isTup I eb;exact SeqAt.RcAt.str_tuple a ta pb (by omega)
  | @lst cb jr iI eb rb=>cases ry;obtain⟨aW,gJ,pb⟩:=sb.cF I eb;exact SeqAt.RcAt.str_list a ta pb (by omega)
 | @tup ca IZ jX ea ra=>
  cases rx;obtain⟨dG,ux,pa⟩:=sb.isTup I ea
  cases r2 with
  | bS=>cases ry;exact SeqAt.RcAt.tuple_none pa (by omega)
  | bl b=>cases ry;exact SeqAt.RcAt.tuple_bool b pa (by omega)
  | int b=>obtain⟨tb,rfl⟩:=ry;exact SeqAt.RcAt.tuple_int b tb pa (by omega)
  | str b=>obtain⟨tb,rfl⟩:=ry;exact SeqAt.RcAt.tuple_str b tb pa (by omega)
  | @tup cb jr iI eb rb=>cases ry;obtain⟨aW,gJ,pb⟩:=sb.isTup I eb;exact(by
   have hd:A.units+(bu jX+1) < cLine:=hu
   have items:fG A s dG aW jX iI:=fun j h1 h2=>gK I sb jX (A:=A.in1) ra rb ux gJ (by show A.units+1+bu jX < cLine;omega) (cy dG j h1) (cy aW j h2)
   exact lu (by omega) pa pb (ux.length.symm.trans ra.length) (gJ.length.symm.trans rb.length) items)
  | @lst cb jr iI eb rb=>cases ry;obtain⟨aW,gJ,pb⟩:=sb.cF I eb;exact SeqAt.RcAt.tuple_list pa pb (by omega)
 | @lst ca IZ jX ea ra=>
  cases rx;obtain⟨dG,ux,pa⟩:=sb.cF I ea
  cases r2 with
  | bS=>cases ry;exact SeqAt.RcAt.list_none pa (by omega)
  | bl b=>cases ry;exact SeqAt.RcAt.list_bool b pa (by omega)
  | int b=>obtain⟨tb,rfl⟩:=ry;exact SeqAt.RcAt.list_int b tb pa (by omega)
  | str b=>obtain⟨tb,rfl⟩:=ry;exact SeqAt.RcAt.list_str b tb pa (by omega)
  | @tup cb jr iI eb rb=>cases ry;obtain⟨aW,gJ,pb⟩:=sb.isTup I eb;exact SeqAt.RcAt.list_tuple pa pb (by omega)
  | @lst cb jr iI eb rb=>cases ry;obtain⟨aW,gJ,pb⟩:=sb.cF I eb;exact(by
   have hd:A.units+(bu jX+1) < cLine:=hu
   have items:fG A s dG aW jX iI:=fun j h1 h2=>gK I sb jX (A:=A.in1) ra rb ux gJ (by show A.units+1+bu jX < cLine;omega) (cy dG j h1) (cy aW j h2)
   exact mW (by omega) pa pb (ux.length.symm.trans ra.length) (gJ.length.symm.trans rb.length) items)
theorem Dk (I:Inv X pins σ H s) (sb:Sub F H){d e:D}{A:Around}{x y:V}{u w':Value}(r1:Rep F x d) (r2:Rep F y e) (rx:RelV x u) (ry:RelV y w') (hu:A.units+fK d < cLine):SeqAt.RcNeAt A s u w' (!iD d e):=by
 cases r1 with
 | bS=>
  cases rx
  cases r2 with
  | bS=>cases ry;exact SeqAt.RcNeAt.none_none
  | bl b=>cases ry;exact SeqAt.RcNeAt.none_bool b
  | int b=>obtain⟨tb,rfl⟩:=ry;exact SeqAt.RcNeAt.none_int b tb
  | str b=>obtain⟨tb,rfl⟩:=ry;exact SeqAt.RcNeAt.none_str b tb
  | @tup cb jr iI eb rb=>cases ry;obtain⟨aW,gJ,pb⟩:=sb.isTup I eb;exact SeqAt.RcNeAt.none_tuple pb (by omega)
  | @lst cb jr iI eb rb=>cases ry;obtain⟨aW,gJ,pb⟩:=sb.cF I eb;exact SeqAt.RcNeAt.none_list pb (by omega)
 | bl a=>
  cases rx
  cases r2 with
  | bS=>cases ry;exact SeqAt.RcNeAt.bool_none a
  | bl b=>cases ry;exact SeqAt.RcNeAt.bool_bool a b
  | int b=>obtain⟨tb,rfl⟩:=ry;exact SeqAt.RcNeAt.bool_int a b tb
  | str b=>obtain⟨tb,rfl⟩:=ry;exact SeqAt.RcNeAt.bool_str a b tb
  | @tup cb jr iI eb rb=>cases ry;obtain⟨aW,gJ,pb⟩:=sb.isTup I eb;exact SeqAt.RcNeAt.bool_tuple a pb (by omega)
  | @lst cb jr iI eb rb=>cases ry;obtain⟨aW,gJ,pb⟩:=sb.cF I eb;exact SeqAt.RcNeAt.bool_list a pb (by omega)
 | int a=>
  obtain⟨ta,rfl⟩:=rx
  cases r2 with
  | bS=>cases ry;exact SeqAt.RcNeAt.int_none a ta
  | bl b=>cases ry;exact SeqAt.RcNeAt.int_bool a ta b
  | int b=>obtain⟨tb,rfl⟩:=ry;exact SeqAt.RcNeAt.int_int a ta b tb
  | str b=>obtain⟨tb,rfl⟩:=ry;exact SeqAt.RcNeAt.int_str a ta b tb
  | @tup cb jr iI eb rb=>cases ry;obtain⟨aW,gJ,pb⟩:=sb.isTup I eb;exact SeqAt.RcNeAt.int_tuple a ta pb (by omega)
  | @lst cb jr iI eb rb=>cases ry;obtain⟨aW,gJ,pb⟩:=sb.cF I eb;exact SeqAt.RcNeAt.int_list a ta pb (by omega)
 | str a=>
  obtain⟨ta,rfl⟩:=rx
  cases r2 with
  | bS=>cases ry;exact SeqAt.RcNeAt.str_none a ta
  | bl b=>cases ry;exact SeqAt.RcNeAt.str_bool a ta b
  | int b=>obtain⟨tb,rfl⟩:=ry;exact SeqAt.RcNeAt.str_int a ta b tb
  | str b=>obtain⟨tb,rfl⟩:=ry;exact SeqAt.RcNeAt.str_str a ta b tb
  | @tup cb jr iI eb rb=>cases ry;obtain⟨aW,gJ,pb⟩:=sb.isTup I eb;exact SeqAt.RcNeAt.str_tuple a ta pb (by omega)
  | @lst cb jr iI eb rb=>cases ry;obtain⟨aW,gJ,pb⟩:=sb.cF I eb;exact SeqAt.RcNeAt.str_list a ta pb (by omega)
 | @tup ca IZ jX ea ra=>
  cases rx;obtain⟨dG,ux,pa⟩:=sb.isTup I ea
  cases r2 with
  | bS=>cases ry;exact SeqAt.RcNeAt.tuple_none pa (by omega)
  | bl b=>cases ry;exact SeqAt.RcNeAt.tuple_bool b pa (by omega)
  | int b=>obtain⟨tb,rfl⟩:=ry;exact SeqAt.RcNeAt.tuple_int b tb pa (by omega)
  | str b=>obtain⟨tb,rfl⟩:=ry;exact SeqAt.RcNeAt.tuple_str b tb pa (by omega)
  | @tup cb jr iI eb rb=>cases ry;obtain⟨aW,gJ,pb⟩:=sb.isTup I eb;exact(by
   have hd:A.units+(bu jX+1) < cLine:=hu
   have items:fG A s dG aW jX iI:=fun j h1 h2=>gK I sb jX (A:=A.in1) ra rb ux gJ (by show A.units+1+bu jX < cLine;omega) (cy dG j h1) (cy aW j h2)
   exact oE (by omega) pa pb (ux.length.symm.trans ra.length) (gJ.length.symm.trans rb.length) items)
  | @lst cb jr iI eb rb=>cases ry;obtain⟨aW,gJ,pb⟩:=sb.cF I eb;exact SeqAt.RcNeAt.tuple_list pa pb (by omega)
 | @lst ca IZ jX ea ra=>
  cases rx;obtain⟨dG,ux,pa⟩:=sb.cF I ea
  cases r2 with
  | bS=>cases ry;exact SeqAt.RcNeAt.list_none pa (by omega)
  | bl b=>cases ry;exact SeqAt.RcNeAt.list_bool b pa (by omega)
  | int b=>obtain⟨tb,rfl⟩:=ry;exact SeqAt.RcNeAt.list_int b tb pa (by omega)
  | str b=>obtain⟨tb,rfl⟩:=ry;exact SeqAt.RcNeAt.list_str b tb pa (by omega)
  | @tup cb jr iI eb rb=>cases ry;obtain⟨aW,gJ,pb⟩:=sb.isTup I eb;exact SeqAt.RcNeAt.list_tuple pa pb (by omega)
  | @lst cb jr iI eb rb=>cases ry;obtain⟨aW,gJ,pb⟩:=sb.cF I eb;exact(by
   have hd:A.units+(bu jX+1) < cLine:=hu
   have items:fG A s dG aW jX iI:=fun j h1 h2=>gK I sb jX (A:=A.in1) ra rb ux gJ (by show A.units+1+bu jX < cLine;omega) (cy dG j h1) (cy aW j h2)
   exact qi (by omega) pa pb (ux.length.symm.trans ra.length) (gJ.length.symm.trans rb.length) items)
noncomputable def Dl:List D→Option U
 | [a,b]=>if fK a≤40 then some (.t (.bl (iD a b))) else none
 | _=>none
noncomputable def Bl:List D→Option U
 | [a,b]=>if fK a≤40 then some (.t (.bl (!iD a b))) else none
 | _=>none
theorem sF (hu:X.A.units+64 < cLine):tN X (compareOp .Eq) Dl:=by
 intro pins s σ H x y v u Q I rx ry ⟨F,ds,w,sb,rs,hw,q⟩
 obtain⟨d,e,rfl,r1,r2⟩:=oq rs
 obtain⟨hd,rfl⟩:=aL (show(if fK d≤40 then some (U.t (.bl (iD d e))) else none)=some w from hw)
 exact I0 I sb r1 r2 rx ry (by omega) _ _ _ _ ⟨.bl _,H,I,rfl,q _ F H (d8.refl ..) sb (.bl _)⟩
theorem oF (hu:X.A.units+64 < cLine):tN X (compareOp .NotEq) Bl:=by
 intro pins s σ H x y v u Q I rx ry ⟨F,ds,w,sb,rs,hw,q⟩
 obtain⟨d,e,rfl,r1,r2⟩:=oq rs
 obtain⟨hd,rfl⟩:=aL (show(if fK d≤40 then some (U.t (.bl (!iD d e))) else none)=some w from hw)
 exact Dk I sb r1 r2 rx ry (by omega) _ _ _ _ ⟨.bl _,H,I,rfl,q _ F H (d8.refl ..) sb (.bl _)⟩
noncomputable def inD (x:D) (ds:List D):Bool:=ds.any fun y=>iD y x
noncomputable def CB:List D→Option U
 | [x,.tup ds]=>if bu ds≤40 then some (.t (.bl (inD x ds))) else none
 | [x,.lst ds]=>if bu ds≤40 then some (.t (.bl (inD x ds))) else none
 | [.str i,.str j]=>some (.t (.bl (!(Builtin.Str.occurrences j i 0 j.length 1).isEmpty)))
 | _=>none
theorem RelV.uniq {v w':V}{u:Value}(a:RelV v u) (b:RelV w' u):v=w':=by
 cases v <;> cases w' <;> simp only[RelV] at a b <;> first
  | rfl
  | (subst a;cases b;done)
  | (subst a;cases b;rfl)
  | (obtain⟨t,rfl⟩:=a;obtain⟨t',e⟩:=b;cases e;done)
  | (obtain⟨t,rfl⟩:=a;obtain⟨t',e⟩:=b;cases e;rfl)
  | (obtain⟨t,rfl⟩:=a;cases b;done)
  | (obtain⟨t,rfl⟩:=b;cases a;done)
open Classical in
noncomputable def CC (F:Hp) (d:D) (y:Value):Bool:=if h:∃(v:V) (dd:D),RelV v y∧Rep F v dd then iD (Classical.choose (Classical.choose_spec h)) d else false
theorem Bm {v:V}{dd d:D}{y:Value}(a:RelV v y) (r:Rep F v dd):CC F d y=iD dd d:=by
 unfold CC
 have h:∃(v:V) (dd:D),RelV v y∧Rep F v dd:=⟨v,dd,a,r⟩
 rw[dif_pos h]
 have k:=Classical.choose_spec (Classical.choose_spec h)
 have e1:=RelV.uniq k.1 a
 have r':Rep F (Classical.choose h) dd:=by rw[e1];exact r
 rw[Rep.uniq k.2 r']
theorem oG (I:Inv X pins σ H s) (sb:Sub F H){A:Around}{x:V}{u:Value}{d:D}(r:Rep F x d) (rx:RelV x u):∀{vs:List V}{ds:List D}{its:List Value},aG F vs ds→Vals vs its→A.units+bu ds < cLine→
  (∀y∈its,SeqAt.EqAt A s y u (CC F d y))∧its.any (CC F d)=inD d ds
 | _,_,_,.nil,.nil,_=>⟨(fun y hy=>absurd hy (by simp)),rfl⟩
 | _,_,_,@aG.cons _ v dd vs ds r1 rs,.cons q qs,hu=>by
  have hd:A.units+max (fK dd) (bu ds) < cLine:=hu
  obtain⟨h1,h2⟩:=oG I sb (A:=A) r rx rs qs (by omega)
  refine⟨fun y hy=>?_,?_⟩
  ·rcases List.mem_cons.mp hy with rfl | hy
   ·rw[Bm q r1];exact Ed I sb dd r1 r q rx (by omega)
   ·exact h1 y hy
  ·rw[List.any_cons,h2,Bm q r1]
   rfl
theorem Bo (hu:X.A.units+64 < cLine):tN X (compareOp .In) CB:=by
 intro pins s σ H x y v u Q I rx ry ⟨F,ds,w,sb,rs,hw,q⟩
 obtain⟨d,e,rfl,r1,r2⟩:=oq rs
 cases e with
 | tup ds=>
  obtain⟨hd,rfl⟩:=aL (show(if bu ds≤40 then some (U.t (.bl (inD d ds))) else none)=some w by cases d <;> exact hw)
  obtain⟨a,vs,rfl,fa,ha,rs⟩:=sb.gD r2
  cases ry
  obtain⟨its,rv,p⟩:=sb.isTup I fa
  obtain⟨h1,h2⟩:=oG I sb (A:=X.A.in1) r1 rx rs rv (by show X.A.units+1+bu ds < cLine;omega)
  refine SeqAt.in_tupleAt (CC F d) p (fun y hy=>h1 y (by simpa using hy)) ⟨.bl _,H,I,rfl,?_⟩
  rw[show its.toArray.any (CC F d)=its.any (CC F d) by simp,h2]
  exact q _ F H (d8.refl ..) sb (.bl _)
 | lst ds=>
  obtain⟨hd,rfl⟩:=aL (show(if bu ds≤40 then some (U.t (.bl (inD d ds))) else none)=some w by cases d <;> exact hw)
  obtain⟨a,vs,rfl,fa,ha,rs⟩:=sb.gg r2
  cases ry
  obtain⟨its,rv,p⟩:=sb.cF I fa
  obtain⟨h1,h2⟩:=oG I sb (A:=X.A.in1) r1 rx rs rv (by show X.A.units+1+bu ds < cLine;omega)
  refine SeqAt.in_listAt (CC F d) p (fun y hy=>h1 y (by simpa using hy)) ⟨.bl _,H,I,rfl,?_⟩
  rw[show its.toArray.any (CC F d)=its.any (CC F d) by simp,h2]
  exact q _ F H (d8.refl ..) sb (.bl _)
 | str j=>
  cases d <;> try (simp[CB] at hw;done)
  rename_i i
  cases hw
  cases r1
  cases r2
  exact yK pins s σ H _ _ v u Q I rx ry ⟨i,j,rfl,rfl,q _ F H (d8.refl ..) sb (.bl _)⟩
 | bS=>cases d <;> (simp[CB] at hw;done)
 | bl b=>cases d <;> (simp[CB] at hw;done)
 | int b=>cases d <;> (simp[CB] at hw;done)
end
end L2
end
section
set_option Elab.async false
set_option linter.all false
set_option maxRecDepth 100000
namespace L2
open PySem PySem.Spec PyProof.Rows
noncomputable def lZ (T:String) (d:D):Option Bool:=match T with
 | "tuple"=>some (we d)
 | "list"=>some (A2 d)
 | "str"=>some (j8 d)
 | "bool"=>some (A3 d)
 | "int"=>some (wg d)
 | _=>none
theorem Bp {K:PySem.W.Frag}{T:String}{d:D}{b:Bool}(h:lZ T d=some b):PySem.W.kitOne K (.type (D7 d)) (.type T)=some b:=by
 unfold lZ at h
 split at h
 ·cases h;exact C8 d
 ·cases h;exact C9 d
 ·cases h;exact A4 d
 ·cases h;exact Fi d
 ·cases h;exact Dc d
 ·cases h
noncomputable def gZ:List String→D→Option Bool
 | [],_=>some false
 | T :: Ts,d=>match lZ T d with
  | some true=>some true
  | some false=>gZ Ts d
  | none=>none
section
variable {X:Cx}{pins:List (Addr×Obj)}{σ:St}{F H:Hp}{s:Shared}
theorem Dm (I:Inv X pins σ H s) (sb:Sub F H){A:Around}{E:Value→Shared→Prop}{Q:Value→Shared→Prop}{x:V}{u:Value}{d:D}{c:Value}{b:Bool}(r:Rep F x d) (rx:RelV x u) (e:PySem.W.kitOne X.K (.type (D7 d)) c=some b) (h:∀tk,Q (.bool b) {s with toks:=tk}):
  wpAny (model X.prog X.w) A (call (.builtin "isinstance") [u,c]) Q E s:=by
 cases r with
 | bS=>cases rx;exact PySem.W.kia_one PySem.W.kitx_none I.xE True.intro e (fun z=>nomatch z) h
 | bl y=>cases rx;exact PySem.W.kia_one PySem.W.kitx_bool I.xE True.intro e (fun z=>nomatch z) h
 | int i=>obtain⟨t,rfl⟩:=rx;exact PySem.W.kia_one PySem.W.kitx_int I.xE True.intro e (fun z=>nomatch z) h
 | str y=>obtain⟨t,rfl⟩:=rx;exact PySem.W.kia_one PySem.W.kitx_str I.xE True.intro e (fun z=>nomatch z) h
 | tup ea _=>
  cases rx
  obtain⟨its,_,o,h1,h2,_⟩:=sb.isTup I ea
  exact PySem.W.kia_one PySem.W.kitx_tuple I.xE ⟨o,h1,h2⟩ e (fun z=>nomatch z) h
 | lst ea _=>
  cases rx
  obtain⟨its,_,o,h1,h2,_⟩:=sb.cF I ea
  exact PySem.W.kia_one PySem.W.kitx_list I.xE ⟨o,h1,h2⟩ e (fun z=>nomatch z) h
end
noncomputable def Ef (Ts:List String) (g:GD):GD:=fun S=>(g S).bind fun p=>(gZ Ts p.1).map fun b=>(.bl b,p.2)
section
variable {X:Cx}{a b c e:Expr}{es:List Expr}{pos p p2 px:Pos}{x y:Str}{g ga gb gc:GD}{gA:GA}
theorem ze {T:String}{d:D}{b:Bool}(h:gZ [T] d=some b):lZ T d=some b:=by
 unfold gZ at h
 cases e:lZ T d with
 | none=>rw[e] at h;cases h
 | some k=>rw[e] at h;cases k <;> exact h
theorem iJ {T:String}(hg:Gl X "isinstance") (hm:X.mg "isinstance" =none) (QD:Gl X y) (hm2:X.mg y=none) (hv2:bootBuiltins y=some (.type T)) (ha:JD X a ga) (hn2:y≠"__name__":=by decide) (hd2:(y == ("__debug__":Str))=false:=by decide)
    (hs:starEach [a,.Name y px] X.env=(false,eval a X.env) :: starEach [.Name y px] X.env:=by rfl) (hs2:starEach [.Name y px] X.env=(false,eval (.Name y px) X.env) :: starEach [] X.env:=by rfl) (hpl:(backTo pos (starEach [.Name y px] X.env)).any (·.1)=false:=by rfl):
    JD X (.Call (.Name "isinstance" p) [a,.Name y px] [] pos) (Ef [T] ga):=⟨fun B=>
  (ji (r := fun xs H Q => ∃ x F d b, xs = [x, .ty T] ∧ Sub F H ∧ Rep F x d ∧ lZ T d = some b ∧ Q (.bl b) H) (fun pins s σ H xs us Q I r ⟨x, F, d, b, e1, sb, rd, hk, q⟩ => by
      subst e1
      obtain⟨u,w',rfl,ru,rw'⟩:=vals2 r
      cases rw'
      exact Dm I sb rd ru (Bp hk) fun tk=>⟨.bl b,H,I.tok tk,rfl,q⟩) hg hm PyProof.Rows.Boot.isinstance (jM (ha.h B) (jM (CG (v:=.ty T) QD hm2 hv2 rfl hn2 hd2) rN hs2) hs) (by decide) (by decide) hs hpl).imp fun σ H Q ⟨S,F,d,S',R,hg,q⟩=>by
  obtain⟨⟨d1,S1⟩,h1,hg⟩:=aa hg
  obtain⟨k,h2,hg⟩:=aj hg
  cases hg
  exact⟨S,F,d1,_,R,h1,fun v F1 H1 R1 st1 r1=>⟨v,F1,d1,k,rfl,R1.sub,r1,ze h2,q _ F1 H1 R1 st1 (.bl k)⟩⟩⟩
noncomputable def fZ:List D→Option (List Bool)
 | []=>some []
 | .bl b :: ds=>(fZ ds).map fun bs=>b :: bs
 | _=>none
theorem ju {F:Hp}:∀{vs:List V}{ds:List D}{bs:List Bool},aG F vs ds→fZ ds=some bs→vs=bs.map V.bl
 | _,_,_,.nil,h=>by cases h;rfl
 | _,_,_,@aG.cons _ v d vs ds r rs,h=>by
  cases d <;> try (simp[fZ] at h;done)
  obtain⟨bs,h1,h2⟩:=aj (show(fZ ds).map _=_ from h)
  subst h2
  rw[lV r,ju rs h1]
  rfl
noncomputable def Dn:List D→Option U
 | [.lst ds]=>(fZ ds).map fun bs=>.t (.bl (bs.all id))
 | _=>none
noncomputable def Dp:List D→Option U
 | [.lst ds]=>(fZ ds).map fun bs=>.t (.bl (bs.any id))
 | _=>none
theorem lz {P:D→Prop}{F:Hp}{xs:List V}{ds:List D}{f:List D→Option U}{w':U}(rs:aG F xs ds) (h:f ds=some w') (hn:f []=none) (h2:∀a b r,f (a :: b :: r)=none):∃x d,xs=[x]∧ds=[d]∧Rep F x d:=by
 cases rs with
 | nil=>rw[hn] at h;cases h
 | cons r rs=>
  cases rs with
  | nil=>exact⟨_,_,rfl,rfl,r⟩
  | cons _ _=>rw[h2] at h;cases h
theorem zf (hc:X.calm=true):bZ X (.builtin "all") (rP Dn):=by
 intro pins s σ H xs us Q I r ⟨F,ds,w,sb,rs,hw,q⟩
 obtain⟨x,d,rfl,rfl,r1⟩:=lz (P:=fun _=>True) rs hw rfl (fun d _ _=>by cases d <;> rfl)
 cases d <;> try (simp[Dn] at hw;done)
 rename_i ds
 obtain⟨bs,h1,rfl⟩:=aj (show(fZ ds).map _=some w from hw)
 obtain⟨a,vs,rfl,fa,ha,lX⟩:=sb.gg r1
 obtain rfl:=ju lX h1
 exact yY hc pins s σ H _ us Q I r ⟨a,bs,rfl,.inl ha,q _ F H (d8.refl ..) sb (.bl _)⟩
theorem zg (hc:X.calm=true):bZ X (.builtin "any") (rP Dp):=by
 intro pins s σ H xs us Q I r ⟨F,ds,w,sb,rs,hw,q⟩
 obtain⟨x,d,rfl,rfl,r1⟩:=lz (P:=fun _=>True) rs hw rfl (fun d _ _=>by cases d <;> rfl)
 cases d <;> try (simp[Dp] at hw;done)
 rename_i ds
 obtain⟨bs,h1,rfl⟩:=aj (show(fZ ds).map _=some w from hw)
 obtain⟨a,vs,rfl,fa,ha,lX⟩:=sb.gg r1
 obtain rfl:=ju lX h1
 exact yZ hc pins s σ H _ us Q I r ⟨a,bs,rfl,.inl ha,q _ F H (d8.refl ..) sb (.bl _)⟩
noncomputable def xZ:List D→Option U
 | [.int i,.int j,.int k]=>some (.t (.int (if j < i then(if k < j then k else j) else if k < i then k else i)))
 | _=>none
theorem wG (hc : X.calm = true) : bZ X (.builtin "min") (rP xZ) := by
  intro pins s σ H xs us Q I r ⟨F,ds,w,sb,rs,hw,q⟩
  unfold xZ at hw
  split at hw
  · rename_i i j k
    cases hw
    cases rs with
    | cons r1 rs=>cases rs with
      | cons r2 rs=>cases rs with
        | cons r3 rs=>
          cases rs
          rw[dz r1,dz r2,dz r3] at r
          exact y9 hc pins s σ H _ us Q I r ⟨i,j,k,rfl,q _ F H (d8.refl ..) sb (.int _)⟩
  · cases hw
noncomputable def Ja:List D→Option U
 | [.int i,.int j]=>some (.t (.int (if j < i then j else i)))
 | _=>none
noncomputable def x9:List D→Option U
 | [.int i,.int j]=>some (.t (.int (if j > i then j else i)))
 | _=>none
theorem wH (hc : X.calm = true) : bZ X (.builtin "max") (rP x9) := by
  intro pins s σ H xs us Q I r ⟨F,ds,w,sb,rs,hw,q⟩
  unfold x9 at hw
  split at hw
  · rename_i i j
    cases hw
    cases rs with
    | cons r1 rs=>cases rs with
      | cons r2 rs=>
        cases rs
        rw[dz r1,dz r2] at r
        exact yL hc pins s σ H _ us Q I r ⟨i,j,rfl,q _ F H (d8.refl ..) sb (.int _)⟩
  · cases hw
noncomputable def oH:List D→Option U
 | [.tup ds]=>some (.m (.lst ds))
 | [.lst ds]=>some (.m (.lst ds))
 | _=>none
noncomputable def jv:List D→Option U
 | [.tup ds]=>some (.t (.tup ds))
 | [.lst ds]=>some (.t (.tup ds))
 | _=>none
theorem wI:bZ X (.type "list") (rP oH):=by
 intro pins s σ H xs us Q I r ⟨F,ds,w,sb,rs,hw,q⟩
 obtain⟨x,d,rfl,rfl,r1⟩:=lz (P:=fun _=>True) rs hw rfl (fun d _ _=>by cases d <;> rfl)
 cases d <;> try (simp[oH] at hw;done)
 ·cases hw
  obtain⟨a,vs,rfl,fa,ha,lX⟩:=sb.gD r1
  exact kR pins s σ H _ us Q I r ⟨a,vs,rfl,.inr (.inl ha),fun p hp=>q _ F _ (d8.obj hp _) (sb.same (d8.obj (F:=F) hp _).same) ⟨p,rfl,hp,sb.fresh hp,vs,aF,lX⟩⟩
 ·cases hw
  obtain⟨a,vs,rfl,fa,ha,lX⟩:=sb.gg r1
  exact kR pins s σ H _ us Q I r ⟨a,vs,rfl,.inl (.inl ha),fun p hp=>q _ F _ (d8.obj hp _) (sb.same (d8.obj (F:=F) hp _).same) ⟨p,rfl,hp,sb.fresh hp,vs,aF,lX⟩⟩
theorem mX:bZ X (.type "tuple") (rP jv):=by
 intro pins s σ H xs us Q I r ⟨F,ds,w,sb,rs,hw,q⟩
 obtain⟨x,d,rfl,rfl,r1⟩:=lz (P:=fun _=>True) rs hw rfl (fun d _ _=>by cases d <;> rfl)
 cases d <;> try (simp[jv] at hw;done)
 ·cases hw
  have r0:=r1
  obtain⟨a,vs,rfl,fa,ha,lX⟩:=sb.gD r1
  exact jZ pins s σ H _ us Q I r ⟨a,vs,rfl,.inr ⟨.inl ha,q _ F H (d8.refl ..) sb r0⟩⟩
 ·cases hw
  obtain⟨a,vs,rfl,fa,ha,lX⟩:=sb.gg r1
  exact jZ pins s σ H _ us Q I r ⟨a,vs,rfl,.inl ⟨.inl ha,fun p hp=>q _ _ _ (d8.root sb hp _) (sb.nZ hp) (.tup aF (lX.le (j9 (sb.fresh hp))))⟩⟩
end
end L2
end
section
set_option Elab.async false
set_option linter.all false
set_option maxRecDepth 100000
namespace L2
open PySem PySem.Spec PyProof.Rows
noncomputable def keyOf:D→Option Key
 | .int i=>some (.inl i)
 | .str z=>some (.inr z)
 | _=>none
theorem mh {F:Hp}{v:V}{d:D}{k:Key}(r:Rep F v d) (h:keyOf d=some k):v=kV k:=by
 cases r <;> cases h <;> rfl
noncomputable def gj {κ:Type} [DecidableEq κ] (kvs:List (κ×D)) (k:κ):Option D:=(kvs.find? fun kv=>decide (kv.1=k)).map (·.2)
noncomputable def putD {κ:Type} [DecidableEq κ] (kvs:List (κ×D)) (k:κ) (d:D):List (κ×D):=
 if(kvs.any fun kv=>decide (kv.1=k))=true then kvs.map (fun kv=>if kv.1=k then(kv.1,d) else kv) else kvs++[(k,d)]
theorem mj {κ:Type} [DecidableEq κ] {F:Hp}{k:κ}{d:D}:∀{ws:List (κ×V)}{kvs:List (κ×D)},Paired (eG F) ws kvs→gj kvs k=some d→∃v,lQ ws k=some v∧Rep F v d
 | _,_,.nil,h=>by cases h
 | _,_,@Paired.cons _ _ _ p q ws kvs r rs,h=>by
  by_cases e:q.1=k
  ·have e':p.1=k:=r.1.trans e
   refine⟨p.2,kO e',?_⟩
   have:gj (q :: kvs) k=some q.2:=by simp[gj,List.find?_cons,e]
   rw[this] at h
   cases h
   exact r.2
  ·have e':¬p.1=k:=fun z=>e (r.1.symm.trans z)
   have:gj (q :: kvs) k=gj kvs k:=by simp[gj,List.find?_cons,e]
   rw[this] at h
   obtain⟨v,h1,h2⟩:=mj rs h
   exact⟨v,by rw[kP e'];exact h1,h2⟩
theorem uy {κ:Type} [DecidableEq κ] {F:Hp}{k:κ}:∀{ws:List (κ×V)}{kvs:List (κ×D)},Paired (eG F) ws kvs→(ws.any fun kv=>decide (kv.1=k))=(kvs.any fun kv=>decide (kv.1=k))
 | _,_,.nil=>rfl
 | _,_,.cons r rs=>by rw[List.any_cons,List.any_cons,uy rs,r.1]
theorem uz {κ:Type} [DecidableEq κ] {F:Hp}{k:κ}{v:V}{d:D}(r:Rep F v d):∀{ws:List (κ×V)}{kvs:List (κ×D)},Paired (eG F) ws kvs→Paired (eG F) (ws.map fun kv=>if kv.1=k then(kv.1,v) else kv) (kvs.map fun kv=>if kv.1=k then(kv.1,d) else kv)
 | _,_,.nil=>.nil
 | _,_,@Paired.cons _ _ _ p q ws kvs h hs=>by
  refine .cons ?_ (uz r hs)
  show eG F (if p.1=k then(p.1,v) else p) (if q.1=k then(q.1,d) else q)
  rw[h.1]
  by_cases e:q.1=k
  ·rw[if_pos e,if_pos e];exact⟨rfl,r⟩
  ·rw[if_neg e,if_neg e];exact h
theorem mY {α β:Type}{P:α→β→Prop}{x:α}{y:β}(p:P x y):∀{l:List α}{r:List β},Paired P l r→Paired P (l++[x]) (r++[y])
 | _,_,.nil=>.cons p .nil
 | _,_,.cons q qs=>.cons q (mY p qs)
theorem oJ {κ:Type} [DecidableEq κ] {F:Hp}{k:κ}{v:V}{d:D}{ws:List (κ×V)}{kvs:List (κ×D)}(h:Paired (eG F) ws kvs) (r:Rep F v d):Paired (eG F) (putK ws k v) (putD kvs k d):=by
 unfold putK putD
 rw[uy h]
 by_cases e:(kvs.any fun kv=>decide (kv.1=k))=true
 ·rw[if_pos e,if_pos e];exact uz r h
 ·rw[if_neg e,if_neg e];exact mY ⟨rfl,r⟩ h
noncomputable def keysOf:List D→Option (List Key)
 | []=>some []
 | d :: ds=>(keyOf d).bind fun k=>(keysOf ds).map fun ks=>k :: ks
noncomputable def Bq:D→Option (List Key)
 | .tup ds=>keysOf ds
 | _=>none
theorem mZ {F:Hp}:∀{vs:List V}{ds:List D}{ks:List Key},aG F vs ds→keysOf ds=some ks→vs=ks.map kV
 | _,_,_,.nil,h=>by cases h;rfl
 | _,_,_,.cons r rs,h=>by
  obtain⟨k,h1,h⟩:=aa h
  obtain⟨ks,h2,rfl⟩:=aj h
  rw[mh r h1,mZ rs h2]
  rfl
theorem uA {F H:Hp}{v:V}{d:D}{ks:List Key}(sb:Sub F H) (r:Rep F v d) (h:Bq d=some ks):∃b,v= .ref b∧H b=some (.tup (ks.map kV)):=by
 cases r with
 | tup e rs=>exact⟨_,rfl,by rw[←mZ rs h];exact sb _ _ e⟩
 | bS=>cases h
 | bl _=>cases h
 | int _=>cases h
 | str _=>cases h
 | lst _ _=>cases h
noncomputable def lA:U→D→Option D
 | .t (.tup ds),.int i=>gC ds i
 | .t (.lst ds),.int i=>gC ds i
 | .m (.lst ds),.int i=>gC ds i
 | .b (.lst ds),.int i=>gC ds i
 | .s ns,.int i=>(gC ns i).map D.int
 | .m (.dct kvs),k=>(keyOf k).bind (gj kvs)
 | .b (.dct kvs),k=>(keyOf k).bind (gj kvs)
 | .m (.vR kvs),k=>(Bq k).bind (gj kvs)
 | .b (.vR kvs),k=>(Bq k).bind (gj kvs)
 | _,_=>none
noncomputable def dN (i:Nat) (gb:GD):GD:=fun S=>match S[i]? with
 | some (some _)=>(gb S).bind fun p=>match p.2[i]? with
  | some (some u)=>(lA u p.1).map fun d=>(d,p.2)
  | _=>none
 | _=>none
theorem ya {α β:Type}(f:α→β){l:List α}{i:Int}{x:α}(h:gC l i=some x):gC (l.map f) i=some (f x):=by
 unfold gC at h ⊢
 rw[List.length_map]
 obtain⟨j,h1,h2⟩:=aa h
 rw[h1]
 show(l.map f)[j]? =_
 rw[List.getElem?_map,h2]
 rfl
section
variable {X:Cx}{a b c e value:Expr}{es:List Expr}{pos p p2 px pos':Pos}{x y:Str}{g ga gb gc gk gv:GD}{gA:GA}
theorem cC {i : Nat} (hu : X.A.units + 1 < cLine) (hb : JD X b gb) (hs : rT b := by first | (intro _ _; rfl)) (hN : X.N[i]? = some x := by rfl) (hv : Aj X.env.scope x := by first | exact Or.inl rfl | exact Or.inr (Or.inl rfl) | exact Or.inr (Or.inr rfl))
    (hd:(x == ("__debug__":Str))=false:=by decide) (hcd:(x == ("__classdict__":Str))=false:=by decide):JD X (.Subscript (.Name x px) b pos) (dN i gb):=⟨fun B=>PE.orelse fun σ H Q ⟨S,F,d,S',R,hg,q⟩=>by
  unfold dN at hg
  split at hg
  · rename_i u0 Mx
    obtain⟨v0,hv0,_⟩:=R.rep i u0 Mx
    obtain⟨⟨k,S1⟩,h1,hg⟩:=aa hg
    dsimp only at hg
    split at hg
    · rename_i u hS
      obtain⟨d',hr,hg⟩:=aj hg
      cases hg
      have xX:∀F1 H1,Rel X.K B S' σ F1 H1→uh X.K F1 H1 v0 u:=fun F1 H1 R1=>by
        obtain⟨v,k1,k2⟩:=R1.rep i u hS
        rw[hv0] at k1
        cases k1
        exact k2
      have seq:∀(Y:V→V→Hp→VK→Prop),PE X (.Subscript (.Name x px) b pos) (G1 Y (Al i) (tD X.K B gb))→(∀v F1 H1,Rel X.K B S' σ F1 H1→Step S S' σ F H F1 H1→Rep F1 v k→Y v0 v H1 Q)→∃t',PE X (.Subscript (.Name x px) b pos) t'∧t' σ H Q:=fun Y hY h=>
        ⟨_,hY,v0,hv0,S,F,k,S',R,h1,fun v F1 H1 R1 st1 r1=>h v F1 H1 R1 st1 r1⟩
      have dict:∀kvs,(∀F1 H1,Rel X.K B S' σ F1 H1→∃a ws,v0= .ref a∧H1 a=some (.dK ws)∧Paired (eG F1) ws kvs)→(keyOf k).bind (gj kvs)=some d→∃t',PE X (.Subscript (.Name x px) b pos) t'∧t' σ H Q:=fun kvs hat hr=>by
        obtain⟨kk,e1,e2⟩:=aa hr
        refine⟨_,xK hu (fW hN hv hd hcd) (hb.h B) hs,v0,hv0,S,F,k,S',R,h1,fun v F1 H1 R1 st1 r1=>?_⟩
        obtain⟨a,ws,rfl,ha,pr⟩:=hat F1 H1 R1
        obtain⟨w',z1,z2⟩:=mj pr e2
        rw[mh r1 e1]
        exact⟨a,w',rfl,by rw[←z1];exact rO.k ha,q w' F1 H1 R1 st1 z2⟩
      have Eg:∀kvs,(∀F1 H1,Rel X.K B S' σ F1 H1→∃a ws,v0= .ref a∧H1 a=some (.dT ws)∧Paired (eG F1) ws kvs)→(Bq k).bind (gj kvs)=some d→∃t',PE X (.Subscript (.Name x px) b pos) t'∧t' σ H Q:=fun kvs hat hr=>by
        obtain⟨kk,e1,e2⟩:=aa hr
        refine⟨_,xK hu (fW hN hv hd hcd) (hb.h B) hs,v0,hv0,S,F,k,S',R,h1,fun v F1 H1 R1 st1 r1=>?_⟩
        obtain⟨a,ws,rfl,ha,pr⟩:=hat F1 H1 R1
        obtain⟨w',z1,z2⟩:=mj pr e2
        obtain⟨b',rfl,hb'⟩:=uA R1.sub r1 e1
        exact⟨a,w',rfl,by rw[←z1];exact rO.t ha hb',q w' F1 H1 R1 st1 z2⟩
      have list:∀ds ii,k= .int ii→gC ds ii=some d→(∀F1 H1,Rel X.K B S' σ F1 H1→∃a vs,v0= .ref a∧(iO X.K H1 a vs∨p9 X.K H1 a vs)∧aG F1 vs ds)→∃t',PE X (.Subscript (.Name x px) b pos) t'∧t' σ H Q:=fun ds ii ek hrr hat=>by
        subst ek
        refine seq _ (AL AO (fW hN hv hd hcd) (hb.h B) hs) fun v F1 H1 R1 st1 r1=>?_
        obtain⟨a,vs,rfl,ha,rs⟩:=hat F1 H1 R1
        obtain⟨w',z1,z2⟩:=rs.gC hrr
        rw[dz r1]
        rcases ha with ha | ha
        · exact .inl ⟨a,vs,ii,w',rfl,rfl,ha,z1,q w' F1 H1 R1 st1 z2⟩
        · exact .inr (.inl ⟨a,vs,ii,w',rfl,rfl,ha,z1,q w' F1 H1 R1 st1 z2⟩)
      unfold lA at hr
      split at hr
      · rename_i ds ii
        exact list ds ii rfl hr fun F1 H1 R1=>let⟨a,vs,e1,fa,ha,rs⟩:=R1.sub.gD (xX F1 H1 R1);⟨a,vs,e1,.inr (.inl ha),rs⟩
      · rename_i ds ii
        exact list ds ii rfl hr fun F1 H1 R1=>let⟨a,vs,e1,fa,ha,rs⟩:=R1.sub.gg (xX F1 H1 R1);⟨a,vs,e1,.inl (.inl ha),rs⟩
      · rename_i ds ii
        exact list ds ii rfl hr fun F1 H1 R1=>let⟨a,e1,fa,vs,ha,rs⟩:=xX F1 H1 R1;⟨a,vs,e1,.inl (iO.of ha),rs⟩
      · rename_i ds ii
        exact list ds ii rfl hr fun F1 H1 R1=>let⟨a,e1,fa,vs,ha,rs⟩:=xX F1 H1 R1;⟨a,vs,e1,.inl (iO.of ha),rs⟩
      · rename_i ns ii
        obtain⟨n,z1,z2⟩:=aj hr
        subst z2
        refine seq _ (AL AO (fW hN hv hd hcd) (hb.h B) hs) fun v F1 H1 R1 st1 r1=>?_
        obtain⟨a,e1,ha⟩:=xX F1 H1 R1
        rw[dz r1]
        exact .inl ⟨a,ns.map V.int,ii,.int n,e1,rfl,ha.sq,ya V.int z1,q _ F1 H1 R1 st1 (.int n)⟩
      · rename_i kvs
        exact dict kvs (fun F1 H1 R1=>let⟨a,e1,fa,ws,ha,pr⟩:=xX F1 H1 R1;⟨a,ws,e1,ha,pr⟩) hr
      · rename_i kvs
        exact dict kvs (fun F1 H1 R1=>let⟨a,e1,fa,ws,ha,pr⟩:=xX F1 H1 R1;⟨a,ws,e1,ha,pr⟩) hr
      · rename_i kvs
        exact Eg kvs (fun F1 H1 R1=>let⟨a,e1,fa,ws,ha,pr⟩:=xX F1 H1 R1;⟨a,ws,e1,ha,pr⟩) hr
      · rename_i kvs
        exact Eg kvs (fun F1 H1 R1=>let⟨a,e1,fa,ws,ha,pr⟩:=xX F1 H1 R1;⟨a,ws,e1,ha,pr⟩) hr
      · cases hr
    · cases hg
  · cases hg⟩
noncomputable def oK:U→Option Nat
 | .t (.tup ds)=>some ds.length
 | .t (.lst ds)=>some ds.length
 | .t (.str z)=>if z.length≤100000 then some z.length else none
 | .m (.lst ds)=>some ds.length
 | .b (.lst ds)=>some ds.length
 | .m (.dct ds)=>some ds.length
 | .b (.dct ds)=>some ds.length
 | .s ns=>some ns.length
 | _=>none
noncomputable def mq (i:Nat):GD:=fun S=>match S[i]? with
 | some (some u)=>(oK u).map fun n=>(.int (n:Nat),S)
 | _=>none
theorem cR {α β:Type}{P:α→β→Prop}:∀{l:List α}{r:List β},Paired P l r→l.length=r.length
 | _,_,.nil=>rfl
 | _,_,.cons _ ps=>congrArg Nat.succ (cR ps)
theorem ie {i:Nat}(hg:Gl X "len") (hm:X.mg "len" =none) (hN:X.N[i]? =some x:=by rfl) (hv:Aj X.env.scope x:=by first | exact Or.inl rfl | exact Or.inr (Or.inl rfl) | exact Or.inr (Or.inr rfl))
  (hd:(x == ("__debug__":Str))=false:=by decide) (hcd:(x == ("__classdict__":Str))=false:=by decide) (he:starEach [.Name x px] X.env=(false,eval (.Name x px) X.env) :: starEach [] X.env:=by rfl) (hpl:(backTo pos (starEach [] X.env)).any (·.1)=false:=by rfl):
  JD X (.Call (.Name "len" p) [.Name x px] [] pos) (mq i):=⟨fun B=>PE.orelse fun σ H Q ⟨S,F,d,S',R,hg',q⟩=>by
 unfold mq at hg'
 split at hg'
 ·rename_i u hS
  obtain⟨n,hn,hg'⟩:=aj hg'
  cases hg'
  obtain⟨v0,hv0,r0⟩:=R.rep i u hS
  have fin:=q (.int n) F H R (Step.refl ..) (.int _)
  have arg:PA X [.Name x px] (DV (Al i) EX):=jM (fW hN hv hd hcd) rN he
  have list:∀a vs,v0= .ref a→(iO X.K H a vs∨p9 X.K H a vs)→vs.length=n→∃t',PE X (.Call (.Name "len" p) [.Name x px] [] pos) t'∧t' σ H Q:=fun a vs e1 ha hl=>
   ⟨_,ji iP hg hm PySem.boot_len arg (by decide) (by decide) he hpl,v0,hv0,a,vs,by rw[e1],ha,by rw[hl];exact fin⟩
  have dict:∀a ws,v0= .ref a→H a=some (.dK ws)→ws.length=n→∃t',PE X (.Call (.Name "len" p) [.Name x px] [] pos) t'∧t' σ H Q:=fun a vs e1 ha hl=>
   ⟨_,ji yV hg hm PySem.boot_len arg (by decide) (by decide) he hpl,v0,hv0,a,vs,by rw[e1],ha,by rw[hl];exact fin⟩
  unfold oK at hn
  split at hn
  ·cases hn;obtain⟨a,vs,e1,fa,ha,rs⟩:=R.sub.gD r0;exact list a vs e1 (.inr (.inl ha)) rs.length
  ·cases hn;obtain⟨a,vs,e1,fa,ha,rs⟩:=R.sub.gg r0;exact list a vs e1 (.inl (.inl ha)) rs.length
  ·rename_i z
   obtain⟨hl,rfl⟩:=aL hn
   exact⟨_,ji kQ hg hm PySem.boot_len arg (by decide) (by decide) he hpl,v0,hv0,z,by rw[xU r0],gX hl,fin⟩
  ·cases hn;obtain⟨a,e1,fa,vs,ha,rs⟩:=r0;exact list a vs e1 (.inl (iO.of ha)) rs.length
  ·cases hn;obtain⟨a,e1,fa,vs,ha,rs⟩:=r0;exact list a vs e1 (.inl (iO.of ha)) rs.length
  ·cases hn;obtain⟨a,e1,fa,ws,ha,pr⟩:=r0;exact dict a ws e1 ha (cR pr)
  ·cases hn;obtain⟨a,e1,fa,ws,ha,pr⟩:=r0;exact dict a ws e1 ha (cR pr)
  ·cases hn;obtain⟨a,e1,ha⟩:=r0;exact list a _ e1 (.inl ha.sq) (by simp)
  ·cases hn
 ·cases hg'⟩
end
end L2
end
section
set_option Elab.async false
set_option linter.all false
set_option maxRecDepth 100000
namespace L2
open PySem PySem.Spec PyProof.Rows
noncomputable def oM (o:MO) (k d:D):Option MO:=match o with
 | .dct kvs=>(keyOf k).bind fun kk=>if kvs.length < 100000 then some (.dct (putD kvs kk d)) else none
 | .vR kvs=>(Bq k).bind fun kk=>if kvs.length < 100000 then some (.vR (putD kvs kk d)) else none
 | .lst ds=>match k with
  | .int i=>(Cz ds.length i).map fun j=>.lst (ds.set j d)
  | _=>none
noncomputable def Dq (i:Nat) (gk gv:GD):GS:=fun S=>(gv S).bind fun p=>match p.2[i]? with
 | some (some _)=>(gk p.2).bind fun r=>(wB r.2 i fun o=>(oM o r.1 p.1).map fun o'=>(.bS,o')).map fun z=>.nx z.2
 | _=>none
theorem aG.set {F:Hp}{v:V}{d:D}(r:Rep F v d):∀{vs:List V}{ds:List D}(j:Nat),aG F vs ds→aG F (vs.set j v) (ds.set j d)
 | _,_,_,.nil=>.nil
 | _,_,0,.cons _ rs=>.cons r rs
 | _,_,j+1,.cons q rs=>.cons q (aG.set r j rs)
section
variable {X:Cx}{a b c e value k:Expr}{es:List Expr}{pos p p2 px pos':Pos}{x y:Str}{g ga gb gc gk gv:GD}{gA:GA}
theorem Br {i:Nat}(hu:X.A.units+1 < cLine) (hk:JD X k gk) (hval:JD X value gv) (hN:X.N[i]? =some x:=by rfl) (hv:Aj X.env.scope x:=by first | exact Or.inl rfl | exact Or.inr (Or.inl rfl) | exact Or.inr (Or.inr rfl))
  (hd:(x == ("__debug__":Str))=false:=by decide) (hcd:(x == ("__classdict__":Str))=false:=by decide)
  (hs:swapsWith value (some (.Subscript (.Name x px) k pos')) pos.line X.env=pure false:=by rfl)
  (hs1:swapsWithSole [.Subscript (.Name x px) k pos'] value pos.line X.env=pure false:=by rfl) (hs2:swappedStores [.Subscript (.Name x px) k pos'] value X.env=pure none:=by rfl)
  (QE:(assignEach [.Subscript (.Name x px) k pos'] X.env).map (·.2)=[assign (.Subscript (.Name x px) k pos') X.env]:=by rfl)
  (QF:∀v,assign (.Subscript (.Name x px) k pos') X.env v=(do
   let ov ←holding [v] (eval (.Name x px) X.env)
   let iv ←holding [v,ov] (eval k X.env)
   standAt pos'
   holding [v,ov,iv] (setItem ov iv v)
   release [v,ov,iv] []):=by intro _;rfl):
  JS X (.Assign [.Subscript (.Name x px) k pos'] value pos) (Dq i gk gv):=⟨fun B=>PS.orelse fun D σ H ⟨S,F,o,R,hg,q⟩=>by
 obtain⟨⟨d,S1⟩,h1,hg⟩:=aa hg
 dsimp only at hg
 split at hg
 ·rename_i u0 Mx
  obtain⟨⟨kd,S2⟩,h2,hg⟩:=aa hg
  obtain⟨⟨nd,S3⟩,h3,hg⟩:=aj hg
  subst hg
  obtain⟨u,u',mo,mo',hS,IT,hio,hf,IU,rfl⟩:=qN h3
  obtain⟨Tg,hw,hf2⟩:=aj hf
  cases hf2
  have hv0:∀F1 H1,Rel X.K B S1 σ F1 H1→∃v,σ[i]? =some (some v):=fun F1 H1 R1=>let⟨v,k1,_⟩:=R1.rep i u0 Mx;⟨v,k1⟩
  cases mo with
  | dct kvs=>
   obtain⟨kk,e1,hw⟩:=aa hw
   obtain⟨hl,rfl⟩:=aL hw
   refine⟨_,xM hu (fW hN hv hd hcd) (hk.h B) (hval.h B) hs,S,F,d,S1,R,h1,fun v F1 H1 R1 st1 r1=>?_⟩
   obtain⟨v0,hv0⟩:=hv0 F1 H1 R1
   refine⟨v0,hv0,S1,F1,kd,S2,R1,h2,fun y F2 H2 R2 st2 r2=>?_⟩
   obtain⟨v',k1,k2⟩:=R2.rep i u hS
   rw[hv0] at k1
   cases k1
   obtain⟨a,o2,rfl,fa,eo,k3⟩:=k2.cg IT
   rw[hio] at eo
   cases eo
   obtain⟨ws,ha,pr⟩:=k3
   rw[mh r2 e1]
   refine⟨a,_,rfl,tY.k ha (by rw[cR pr];exact Nat.lt_of_lt_of_le hl (by decide)),?_⟩
   obtain⟨R3,st3⟩:=R2.write (ho:=.dK (putK ws kk v)) hS IU hv0 ⟨_,aF,oJ pr (r1.le st2.ext.le)⟩
   exact q σ F2 _ R3 fun b o z=>st2.ext.le b o (st1.ext.le b o z)
  | vR kvs=>
   obtain⟨kk,e1,hw⟩:=aa hw
   obtain⟨hl,rfl⟩:=aL hw
   refine⟨_,xM hu (fW hN hv hd hcd) (hk.h B) (hval.h B) hs,S,F,d,S1,R,h1,fun v F1 H1 R1 st1 r1=>?_⟩
   obtain⟨v0,hv0⟩:=hv0 F1 H1 R1
   refine⟨v0,hv0,S1,F1,kd,S2,R1,h2,fun y F2 H2 R2 st2 r2=>?_⟩
   obtain⟨v',k1,k2⟩:=R2.rep i u hS
   rw[hv0] at k1
   cases k1
   obtain⟨a,o2,rfl,fa,eo,k3⟩:=k2.cg IT
   rw[hio] at eo
   cases eo
   obtain⟨ws,ha,pr⟩:=k3
   obtain⟨b',rfl,hb'⟩:=uA R2.sub r2 e1
   refine⟨a,_,rfl,tY.t ha hb' (by rw[cR pr];exact Nat.lt_of_lt_of_le hl (by decide)),?_⟩
   obtain⟨R3,st3⟩:=R2.write (ho:=.dT (putK ws kk v)) hS IU hv0 ⟨_,aF,oJ pr (r1.le st2.ext.le)⟩
   exact q σ F2 _ R3 fun b o z=>st2.ext.le b o (st1.ext.le b o z)
  | lst ds=>
   unfold oM at hw
   dsimp only at hw
   split at hw
   ·rename_i ii
    obtain⟨j,e1,rfl⟩:=aj hw
    refine⟨_,As (hval.h B) (EH (fW hN hv hd hcd) (hk.h B) set_list QF) hs1 hs2 QE,S,F,d,S1,R,h1,fun v F1 H1 R1 st1 r1=>?_⟩
    obtain⟨v0,hv0⟩:=hv0 F1 H1 R1
    refine⟨v0,hv0,S1,F1,_,S2,R1,h2,fun y F2 H2 R2 st2 r2=>?_⟩
    obtain⟨v',k1,k2⟩:=R2.rep i u hS
    rw[hv0] at k1
    cases k1
    obtain⟨a,o2,rfl,fa,eo,k3⟩:=k2.cg IT
    rw[hio] at eo
    cases eo
    obtain⟨vs,ha,rs⟩:=k3
    rw[dz r2]
    refine⟨a,vs,_,j,rfl,rfl,ha,by rw[rs.length];exact e1,?_⟩
    obtain⟨R3,st3⟩:=R2.write (ho:=.lst (vs.set j v)) hS IU hv0 ⟨_,aF,rs.set (r1.le st2.ext.le) j⟩
    exact q σ F2 _ R3 fun b o z=>st2.ext.le b o (st1.ext.le b o z)
   ·cases hw
 ·cases hg⟩
theorem Rel.My {K:PySem.W.Frag}{B:Base}{S:SS}{σ:St}{F H:Hp}{a:Addr}{o o':HO}(R:Rel K B S σ F H) (hn:¬cg S σ a) (hf:F a=none) (hB:B.H a=none) (hh:H a=some o) (hz:∀ob u,o≠.gm ob u):Rel K B S σ F (upd H a o'):=by
 have G6:∀b ob w,H b=some (.gm ob w)→upd H a o' b=some (.gm ob w):=fun b ob w z=>by
  rw[aA (fun e=>by rw[e,hh] at z;cases z;exact hz _ _ rfl)];exact z
 refine⟨fun b u z=>?_,R.len,fun j w z=>?_,R.xR,R.own,R.bor,R.par,⟨R.ext.le,fun b u z n=>?_,R.ext.fV,fun b u z=>?_,fun b ob w z=>G6 b ob w (R.ext.gm b ob w z)⟩⟩
 ·have hb:b≠a:=fun e=>by rw[e,hf] at z;cases z
  rw[aA hb];exact R.sub b u z
 ·obtain⟨v,h1,h2⟩:=R.rep j w z
  refine⟨v,h1,h2.le (fun _ _ z=>z) G6 fun c hm hc=>?_⟩
  have hca:c≠a:=fun e=>hn ⟨j,w,z,hm,by rw[h1,hc,e]⟩
  obtain⟨c',_,e,f,_⟩:=h2.cg hm
  rw[hc] at e
  cases e
  exact⟨fun o z=>by rw[aA hca];exact z,f⟩
 ·rw[aA (fun e=>by rw[e,hB] at z;cases z)];exact R.ext.keep b u z n
 ·by_cases hb:b=a
  ·exact⟨o',by rw[hb,aF]⟩
  ·rw[aA hb];exact R.ext.there b u z
noncomputable def oN:List (Str×GD)→SS→Option (List (Key×D)×SS)
 | [],S=>some ([],S)
 | (z,g) :: r,S=>(g S).bind fun p=>(oN r p.2).map fun q=>((.inr z,p.1) :: q.1,q.2)
noncomputable def oO (kvs more:List (Key×D)):List (Key×D):=more.foldl (fun acc kv=>putD acc kv.1 kv.2) kvs
theorem oR {F:Hp}:∀{more:List (Key×V)}{Eh:List (Key×D)}{ws:List (Key×V)}{kvs:List (Key×D)},Paired (eG F) more Eh→Paired (eG F) ws kvs→Paired (eG F) (jk ws more) (oO kvs Eh)
 | _,_,_,_,.nil,h=>h
 | _,_,ws,kvs,@Paired.cons _ _ _ p q _ _ r rs,h=>by
  have e:=oJ (k:=q.1) h r.2
  show Paired (eG F) (jk (putK ws p.1 p.2) _) (oO (putD kvs q.1 q.2) _)
  rw[r.1]
  exact oR rs e
noncomputable def yc (tR:List (Str×GD)):GE:=fun S=>(oN tR S).map fun p=>(.m (.dct (oO [] p.1)),p.2)
structure Kr (X:Cx) (pos:Pos) (keys:List (Option Expr)) (values:List Expr) (tR:List (Str×GD)):Prop where
 h:∀B,Ij X pos keys values (tR.map fun p=>(tC (.str p.1),tD X.K B p.2))
theorem Dr:Kr X pos [] [] []:=⟨fun B=>CU⟩
theorem oU {z:Str}{j:Nat}{pk:Pos}{v:Expr}{ks:List (Option Expr)}{vs:List Expr}{tR:List (Str×GD)}(hv:JD X v g) (hr:Kr X pos ks vs tR):Kr X pos (some (.Constant (.str z) j pk) :: ks) (v :: vs) ((z,g) :: tR):=⟨fun B=>AI Am (hv.h B) (hr.h B)⟩
theorem uB {B:Base}{σ:St}:∀{tR:List (Str×GD)}{S0 S:SS}{F0 H0 F H:Hp}{kvs:List (Key×D)}{S':SS}{Q:List (V×V)→Hp→Prop},Rel X.K B S σ F H→Step S0 S σ F0 H0 F H→oN tR S=some (kvs,S')→
  (∀(ws:List (Key×V)) (F' H':Hp),Rel X.K B S' σ F' H'→Step S0 S' σ F0 H0 F' H'→Paired (eG F') ws kvs→Q (ws.map fun kv=>(kV kv.1,kv.2)) H')→nQ (tR.map fun p=>(tC (.str p.1),tD X.K B p.2)) σ H Q
 | [],S0,S,F0,H0,F,H,kvs,S',Q,R,st,h,q=>by cases h;exact q [] F H R st .nil
 | (z,g) :: r,S0,S,F0,H0,F,H,kvs,S',Q,R,st,h,q=>by
  obtain⟨⟨d,S1⟩,h1,h⟩:=aa h
  obtain⟨⟨QG,S2⟩,h2,h⟩:=aj h
  cases h
  show tC (.str z) σ H fun x H1=>tD X.K B g σ H1 fun y H2=>nQ _ σ H2 fun ps H3=>Q ((x,y) :: ps) H3
  refine⟨S,F,d,S1,R,h1,fun v F1 H1 R1 st1 r1=>?_⟩
  refine uB (S0:=S1) (F0:=F1) (H0:=H1) R1 (Step.refl ..) h2 fun ws F2 H2 R2 st2 pr=>?_
  exact q ((.inr z,v) :: ws) F2 H2 R2 ((st.trans st1).trans st2) (.cons ⟨rfl,r1.le st2.ext.le⟩ pr)
theorem Ds {keys : List (Option Expr)} {values : List Expr} {tR : List (Str × GD)} (h : Kr X pos keys values tR) (hall : keys.all (·.isSome) = true := by rfl) (hl : keys.length = values.length := by rfl) (h0 : keys ≠ [] := by decide) (LR : keys.length ≤ 15 := by decide) (hk : tR.length ≤ 15 := by decide) :
    JE X (.Dict keys values pos) (yc tR):=⟨fun B=>(CV (h.h B) hall hl h0 LR).imp fun σ H Q ⟨S,F,u,S',R,hg,q⟩=>by
  obtain⟨⟨kvs,S1⟩,h1,hg⟩:=aj hg
  cases hg
  intro p hp
  have n:=d8.obj (F:=F) hp (.dK [])
  have hn:¬cg S σ p:=fun m=>by obtain⟨o,ho⟩:=R.has m;rw[hp] at ho;cases ho
  refine uB (S0:=S) (F0:=F) (H0:=upd H p (.dK [])) (R.new n (R.sub.same n.same)) (Step.refl ..) h1 fun ws F1 H1 R1 st1 pr=>?_
  have hp1:H1 p=some (.dK []):=st1.ext.keep p _ aF hn
  have hf1:F1 p=none:=st1.ext.fV p _ aF hn (R.sub.fresh hp)
  have hn1:¬cg S1 σ p:=fun m=>hn (st1.mu p m)
  have hB:B.H p=none:=none_of R.ext.there hp
  have len:ws.length≤15:=by
    rw[cR pr]
    have:∀{tR:List (Str×GD)}{S:SS}{kvs:List (Key×D)}{S':SS},oN tR S=some (kvs,S')→kvs.length=tR.length:=fun {tR}=>by
      induction tR with
      | nil=>intro S kvs S' h;cases h;rfl
      | cons p r ih=>
        intro S kvs S' h
        obtain⟨⟨d,T1⟩,k1,h⟩:=aa (show(p.2 S).bind _=_ from h)
        obtain⟨⟨QH,T2⟩,k2,h⟩:=aj h
        cases h
        show QH.length+1=r.length+1
        rw[ih k2]
    rw[this h1]
    exact hk
  refine⟨hp1,ws,rfl,len,?_⟩
  have R2:=R1.My (o':=.dK (jk [] ws)) hn1 hf1 hB hp1 (fun _ _ z=>by cases z)
  refine q (.ref p) F1 _ R2 ⟨⟨st1.ext.le,fun b o z m=>?_,fun b o z m f=>?_,fun b o z=>?_,fun b ob w z=>?_⟩,st1.mu,st1.slots⟩ ⟨p,rfl,hp,hf1,⟨_,aF,oR pr .nil⟩,hn1,hB⟩
  · have hb:b≠p:=aI z hp
    rw[aA hb]
    exact st1.ext.keep b o (by rw[aA hb];exact z) m
  · have hb:b≠p:=aI z hp
    exact st1.ext.fV b o (by rw[aA hb];exact z) m f
  · have hb:b≠p:=aI z hp
    rw[aA hb]
    exact st1.ext.there b o (by rw[aA hb];exact z)
  · have hb:b≠p:=aI z hp
    rw[aA hb]
    exact st1.ext.gm b ob w (by rw[aA hb];exact z)⟩
end
end L2
end
section
set_option Elab.async false
set_option linter.all false
set_option maxRecDepth 100000
namespace L2
open PySem PySem.Spec PyProof.Rows
noncomputable def gM (g:Option GD) (S:SS):Option (Option Int×SS):=match g with
 | none=>some (none,S)
 | some g=>(g S).bind fun p=>match p.1 with
  | .int i=>some (some i,p.2)
  | _=>none
noncomputable def QI (K:PySem.W.Frag) (B:Base) (g:Option GD):TO:=fun σ H Q=>∃S F o S',Rel K B S σ F H∧gM g S=some (o,S')∧∀F' H',Rel K B S' σ F' H'→Step S S' σ F H F' H'→Q o H'
structure JO (X:Cx) (e:Option Expr) (g:Option GD):Prop where
 h:∀B,PO X e (QI X.K B g)
theorem PO.imp {X:Cx}{e:Option Expr}{t t':TO}(h:PO X e t) (k:∀σ H Q,t' σ H Q→t σ H Q):PO X e t':=fun pins s σ H Q I q=>h pins s σ H Q I (k σ H Q q)
theorem Dt {X:Cx}:JO X none none:=⟨fun B=>CZ.imp fun σ H Q ⟨S,F,o,S',R,h,q⟩=>by cases h;exact q F H R (Step.refl ..)⟩
theorem Du {X:Cx}{e:Expr}{g:GD}(h:JD X e g):JO X (some e) (some g):=⟨fun B=>(C0 (h.h B)).imp fun σ H Q ⟨S,F,o,S',R,h,q⟩=>by
 obtain⟨⟨d,S1⟩,h1,h⟩:=aa (show(g S).bind _=_ from h)
 cases d <;> try (cases h)
 exact⟨S,F,_,_,R,h1,fun v F1 H1 R1 st1 r1=>⟨_,dz r1,q F1 H1 R1 st1⟩⟩⟩
noncomputable def Ei (d:D) (lo hi:Option Int):Option U:=match d with
 | .tup ds=>some (.t (.tup (cutD ds lo hi)))
 | .lst ds=>some (.m (.lst (cutD ds lo hi)))
 | .str z=>if z.length≤100000 then some (.t (.str (Txt.slice z lo hi))) else none
 | _=>none
noncomputable def Px (g:GD) (lo hi:Option GD):GE:=fun S=>(g S).bind fun p=>(gM lo p.2).bind fun l=>(gM hi l.2).bind fun h=>(Ei p.1 l.1 h.1).map fun u=>(u,h.2)
section
variable {X:Cx}{a b c e:Expr}{lo hi:Option Expr}{pos p p2 px:Pos}{x y:Str}{g ga:GD}{gA:GA}{gl gh:Option GD}
noncomputable def oV (ns:List Int) (lo hi:Option Int):List Int:=(ns.drop (HT.qb ns.length 0 lo)).take (HT.qb ns.length ns.length hi - HT.qb ns.length 0 lo)
noncomputable def Bs (i:Nat) (lo hi:Option GD):GE:=fun S=>match S[i]? with
 | some (some (.s ns))=>(gM lo S).bind fun l=>(gM hi l.2).map fun h=>(.m (.lst ((oV ns l.1 h.1).map D.int)),h.2)
 | _=>none
theorem qT {F:Hp}:∀ns:List Int,aG F (ns.map V.int) (ns.map D.int)
 | []=>.nil
 | n :: ns=>.cons (.int n) (qT ns)
theorem zh (ns:List Int) (lo hi:Option Int):yS (ns.map V.int) lo hi=(oV ns lo hi).map V.int:=by
 unfold yS oV
 rw[List.length_map,List.map_take,List.map_drop]
theorem zj {i:Nat}(hl:JO X lo gl) (hh:JO X hi gh) (hN:X.N[i]? =some x:=by rfl) (hv:Aj X.env.scope x:=by first | exact Or.inl rfl | exact Or.inr (Or.inl rfl) | exact Or.inr (Or.inr rfl))
  (hd:(x == ("__debug__":Str))=false:=by decide) (hcd:(x == ("__classdict__":Str))=false:=by decide):JE X (.Subscript (.Name x px) (.Slice lo hi none p2) pos) (Bs i gl gh):=⟨fun B=>(AJ C2 (fW hN hv hd hcd) (hl.h B) (hh.h B)).imp fun σ H Q ⟨S,F,u,S',R,hg,q⟩=>by
 unfold Bs at hg
 split at hg
 ·rename_i ns hS
  obtain⟨⟨l,S1⟩,h1,hg⟩:=aa hg
  obtain⟨⟨h,S2⟩,h2,hg⟩:=aj hg
  cases hg
  obtain⟨v0,hv0,a,rfl,sc⟩:=R.rep i _ hS
  refine⟨_,hv0,S,F,l,S1,R,h1,fun F1 H1 R1 st1=>⟨S1,F1,h,_,R1,h2,fun F2 H2 R2 st2=>?_⟩⟩
  have QJ:=(sc.le st1.ext.gm).le st2.ext.gm
  refine⟨a,_,rfl,QJ.sq,fun p hp=>?_⟩
  rw[zh]
  have n:=d8.obj (F:=F2) hp (.lst ((oV ns l h).map V.int))
  have st:=st1.trans st2
  exact q _ F2 _ (R2.new n (R2.sub.same n.same)) (st.trans n.step) (A6.De (u:=.m (.lst ((oV ns l h).map D.int))) R2 st ⟨p,rfl,hp,R2.sub.fresh hp,_,aF,qT _⟩)
 ·cases hg⟩
noncomputable def yf (d:D):Prop:=(toPy d).showable=true∧(toPy d).depth≤20∧(toPy d).shown.length≤sizeLine
noncomputable instance (d:D):Decidable (yf d):=by unfold yf;infer_instance
noncomputable def iK:List D→Option U
 | [d]=>if yf d then some (.t (.str (toPy d).shown)) else none
 | _=>none
mutual
theorem Rep.mw {pins:List (Addr×Obj)}{σ:St}{F H:Hp}{s:Shared}(I:Inv X pins σ H s) (sb:Sub F H):∀{v:V}{d:D}{u:Value},Rep F v d→RelV v u→∃as,Reads s.heap u (toPy d) as
 | _,_,_,.bS,r=>by cases r;exact⟨[],.none⟩
 | _,_,_,.bl b,r=>by cases r;exact⟨[],.bool b⟩
 | _,_,_,.int i,r=>by obtain⟨t,rfl⟩:=r;exact⟨[],.int i t⟩
 | _,_,_,.str z,r=>by obtain⟨t,rfl⟩:=r;exact⟨[],.str z t⟩
 | _,_,_,.tup e rs,r=>by
  cases r
  obtain⟨its,rv,p⟩:=sb.isTup I e
  obtain⟨as,h⟩:=aG.mw I sb rs rv
  obtain⟨o,ho,hc,n,hd⟩:=p
  exact⟨as,.tuple ho hc hd (by simpa using h)⟩
 | _,_,_,.lst e rs,r=>by
  cases r
  obtain⟨its,rv,p⟩:=sb.cF I e
  obtain⟨as,h⟩:=aG.mw I sb rs rv
  obtain⟨o,ho,hc,n,hd⟩:=p
  exact⟨_ :: as,.list ho hc hd (by simpa using h)⟩
theorem aG.mw {pins:List (Addr×Obj)}{σ:St}{F H:Hp}{s:Shared}(I:Inv X pins σ H s) (sb:Sub F H):∀{vs:List V}{ds:List D}{us:List Value},aG F vs ds→Vals vs us→∃as,ReadsAll s.heap us (dH ds) as
 | _,_,_,.nil,r=>by cases r;exact⟨[],.nil⟩
 | _,_,_,.cons q qs,r=>by
  cases r with
  | cons r rs=>
   obtain⟨as,h⟩:=Rep.mw I sb q r
   obtain⟨bs,k⟩:=aG.mw I sb qs rs
   exact⟨as++bs,.cons h k⟩
end
theorem eU (hg:X.A.guards=some []) (hu:X.A.units+64 < cLine):bZ X (.builtin "repr") (rP iK):=by
 intro pins s σ H xs us Q I r ⟨F,ds,w,sb,rs,hw,q⟩
 obtain⟨x,d,rfl,rfl,r1⟩:=lz (P:=fun _=>True) rs hw rfl (fun d _ _=>rfl)
 obtain⟨hok,rfl⟩:=aL (show(if yf d then some (U.t (.str (toPy d).shown)) else none)=some w from hw)
 have fin:=q (.str (toPy d).shown) F H (d8.refl ..) sb (.str _)
 obtain⟨u,rfl,ru⟩:=vals1 r
 obtain⟨h1,h2,h3⟩:=hok
 have seq:∀a,x= .ref a→wpAny (model X.prog X.w) X.A (call (.builtin "repr") [u]) (EP X pins σ Q) X.xe s:=fun a e1=>by
  subst e1
  cases ru
  obtain⟨as,hr⟩:=Rep.mw I sb r1 (u:=.ref a) rfl
  exact repr_of_reads' hr h1 (fun z=>by rw[mU] at z;cases z) hg (by omega) (fun _ _ e=>e) (fun h' u tk hk=>⟨.str _,H,I.kept (t':=tk) hk,⟨u,rfl⟩,fin⟩) h3
 cases r1 with
 | bS=>cases ru;exact PySem.P.repr_of_none ⟨.str _,H,I.tok _,⟨_,rfl⟩,fin⟩
 | bl b=>cases ru;exact PySem.P.repr_of_bool ⟨.str _,H,I.tok _,⟨_,rfl⟩,fin⟩
 | int i=>obtain⟨t,rfl⟩:=ru;exact PySem.P.repr_of_int (by simpa[toPy,PyData.showable] using h1) ⟨.str _,H,I.tok _,⟨_,rfl⟩,fin⟩
 | str z=>obtain⟨t,rfl⟩:=ru;exact PySem.P.repr_of_str ⟨.str _,H,I.tok _,⟨_,rfl⟩,fin⟩ h3
 | tup e rs=>exact seq _ rfl
 | lst e rs=>exact seq _ rfl
theorem Dv {z:Str}{t:Tok}(hg:Gl X x) (hm:X.mg x=some (.str z t)) (hd:(x == ("__debug__":Str))=false:=by decide):JD X (.Name x pos) (eC (.str z)):=za rfl (nG (v:=.str z) hg hm ⟨t,rfl⟩ hd)
theorem nJ {i:Int}{t:Tok}(hg:Gl X x) (hm:X.mg x=some (.int i t)) (hd:(x == ("__debug__":Str))=false:=by decide):JD X (.Name x pos) (eC (.int i)):=za rfl (nG (v:=.int i) hg hm ⟨t,rfl⟩ hd)
end
end L2
end
section
set_option Elab.async false
set_option linter.all false
set_option maxRecDepth 100000
namespace L2
open PySem PySem.Spec PyProof.Rows
theorem Bt {X : Cx} {x y : Str} {scope : Scope} {c : Addr} {i : Nat} (clos : closureFor scope X.env = pure [(y, c)]) (nW : ∀ z ∈ scope.names, z.2 ≠ .cell) (kind : scope.kind = .function) (names : ∀ z ∈ scope.names, z.2 = .local → scope.names.lookup z.1 = some .local)
    (loc:scope.names.lookup x=some .local) (hc:X.env.cells.lookup y=some c) (only:∀z∈scope.names,z.2= .free→z.1=y) (ne:x≠y) (hN:X.N[i]? =some y) (vis:X.env.scope.names.lookup y=some .cell) (rel:(relabel scope X.env).names.lookup y=some .cell):
    gW X x [y] [i] scope [(y,c)]:=by
  have look:∀n c',([(y,c)]:List (Str×Addr)).lookup n=some c'→n=y∧c'=c:=fun n c' h=>by
    rw[List.lookup_cons] at h
    cases e:n == y with
    | true=>rw[e] at h;cases h;exact⟨eq_of_beq e,rfl⟩
    | false=>rw[e] at h;cases h
  have self:([(y,c)]:List (Str×Addr)).lookup y=some c:=by rw[List.lookup_cons,beq_self_eq_true]
  refine⟨clos,nW,kind,names,loc,fun n c' h=>?_,fun n h=>?_,?_,rfl,fun j n h=>?_,fun n h=>?_⟩
  · obtain⟨rfl,rfl⟩:=look n c' h
    exact hc
  · have key:n=y:=by
      have go:∀k,(k=NameKind.cell∨k=NameKind.free)→(relabel scope X.env).names.lookup n=some k→n=y:=fun k hk e=>by
        have m:=PySem.mem_of_lookup e
        unfold relabel at m
        obtain⟨⟨n',k'⟩,hm,q⟩:=List.mem_map.mp m
        by_cases hf:k'= .free
        · have h0:n'=y:=only _ hm hf
          have e1:n'=n:=by
            have h1:=congrArg Prod.fst q
            dsimp only at h1
            split at h1 <;> exact h1
          exact e1.symm.trans h0
        · have z:(k' == NameKind.free)=false:=by simpa using hf
          simp only[z,Bool.false_and] at q
          have q2:k'=k:=by
            have:=congrArg Prod.snd q
            simpa using this
          rcases hk with rfl | rfl
          · exact absurd q2 (nW _ hm)
          · exact absurd q2 hf
      rcases h with h | h
      · exact go _ (.inl rfl) h
      · exact go _ (.inr rfl) h
    subst key
    exact⟨c,self⟩
  · simp[ne]
  · cases j with
    | zero=>cases h;exact⟨i,rfl,hN,.inr (.inl vis)⟩
    | succ j=>simp at h
  · have e:n=y:=by simpa using h
    subst e
    exact⟨.inl rel,⟨c,self⟩,by rw[vis];decide⟩
end L2
end
section
set_option Elab.async false
set_option linter.all false
set_option maxRecDepth 100000
namespace L2
open PySem PySem.Spec PyProof.Rows
section
variable {X:Cx}{a b c e:Expr}{es:List Expr}{pos p p2 px:Pos}{x y:Str}{f:FM}{fa:Addr}{fd:FuncData}{ps:List Str}{k n:Nat}
theorem Bu (F:bB X.prog X.w X.K X.mg X.base gn k fa fd ps (spT X.K 0 f)) (hr:fX k X.A) (hg:Gl X x) (hm:X.mg x=some (.ref fa)) (hk:PySem.W.keepIn X.K (.ref fa)=true) (hb:Binds X.K fd ps [])
  (hdb:(x == ("__debug__":Str))=false:=by decide):JE X (.Call (.Name x p) [] [] pos) (bA f cQ):=⟨fun B=>(AE F hr hg hm hk hb .nil D3 hdb).imp fun σ H Q ⟨S,F0,u,S',R,hg,q⟩=>by
 obtain⟨⟨us,S1⟩,h1,hg⟩:=aa hg
 cases h1
 have hg:=(qK hg).2
 obtain⟨ws,h2,hg⟩:=aa hg
 cases h2
 obtain⟨⟨r,outs⟩,h3,hg⟩:=aa hg
 obtain⟨S2,h4,hg⟩:=aj hg
 cases hg
 have QK:Step S S σ F0 H F0 H:=Step.refl ..
 refine⟨rfl,F0,[],r,outs,R.sub,.nil,List.nodup_nil,h3,fun v F2 H2 po rn=>?_⟩
 obtain⟨R2,st2,mu⟩:=gG (vs:=[]) (us:=[]) (ws:=[]) R QK .nil rfl h4 List.nodup_nil po
 refine q v F2 H2 R2 st2 ?_
 cases r with
 | t d=>exact rn
 | b o=>cases rn
 | v i=>cases rn
 | s i=>cases rn
 | f i=>cases rn
 | m o=>
  obtain⟨a,e,h0,f,h⟩:=rn
  refine⟨a,e,h0,f,h,fun m=>?_,none_of R.ext.there h0⟩
  obtain⟨o',ho⟩:=R.has (mu a m)
  rw[h0] at ho
  cases ho⟩
theorem qU (a:List D) (o:MO) (h:cF o=false):hAppend a o=none:=by
 cases o with
 | lst ds=>cases h
 | dct k=>unfold hAppend;split <;> first | rfl | (rename_i e;cases e)
 | vR k=>unfold hAppend;split <;> first | rfl | (rename_i e;cases e)
theorem Bv (a:List D) (o:MO) (h:cF o=false):jl a o=none:=by
 cases o with
 | lst ds=>cases h
 | dct k=>unfold jl;split <;> first | rfl | (rename_i e;cases e)
 | vR k=>unfold jl;split <;> first | rfl | (rename_i e;cases e)
end
end L2
end
section
set_option Elab.async false
set_option linter.all false
set_option maxRecDepth 100000
namespace L2
open PySem PySem.Spec PyProof.Rows
noncomputable def uC:List D→Option (List Int)
 | []=>some []
 | .int b :: ds=>(uC ds).map fun bs=>b :: bs
 | _=>none
section
variable {X:Cx}
end
end L2
end
section
set_option Elab.async false
set_option linter.all false
set_option maxRecDepth 100000
namespace L2
open PySem PySem.Spec PyProof.Rows
section
variable {prog:Program}{w:World}{A:Around}{R:Result→Shared→Prop}{I:Addr}{fp wr:List Addr}{G:Array GenState→Array GenState→Prop}{n:Nat}{P:Nat→Value→Prop}{St:Nat→Shared→Prop}
end
section
variable {prog:Program}{w:World}{A:Around}{E:Value→Shared→Prop}{s:Shared}
end
end L2
end
section
set_option Elab.async false
set_option linter.all false
set_option maxRecDepth 100000
namespace L2
open PySem PySem.Spec PyProof.Rows
noncomputable def lB:List D→Option (List Str)
 | []=>some []
 | .str b :: ds=>(lB ds).map fun bs=>b :: bs
 | _=>none
theorem oW {F:Hp}:∀{vs:List V}{ds:List D}{bs:List Str},aG F vs ds→lB ds=some bs→vs=bs.map V.str
 | _,_,_,.nil,h=>by cases h;rfl
 | _,_,_,@aG.cons _ v d vs ds r rs,h=>by
  cases d <;> try (simp[lB] at h;done)
  obtain⟨bs,h1,h2⟩:=aj (show(lB ds).map _=_ from h)
  subst h2
  cases r
  rw[oW rs h1]
  rfl
section
variable {X:Cx}{a:Expr}{pos p p1 p2:Pos}{ga:GD}
end
end L2
end
section
set_option Elab.async false
set_option linter.all false
set_option maxRecDepth 100000
namespace L2
open PySem PySem.Spec PyProof.Rows
noncomputable def uD:U→Option (List D)
 | .t (.lst ds)=>some ds
 | .m (.lst ds)=>some ds
 | .b (.lst ds)=>some ds
 | _=>none
noncomputable def Mz (n:Bool) (i:Nat) (g:GD):GD:=fun S=>(g S).bind fun p=>match p.2[i]? with
 | some (some u)=>(uD u).bind fun ds=>if bu ds≤40 then some (.bl (n != inD p.1 ds),p.2) else none
 | _=>none
section
variable {X:Cx}{a:Expr}{x:Str}{px pos:Pos}{ga:GD}
end
end L2
end
section
set_option Elab.async false
set_option linter.all false
set_option maxRecDepth 100000
namespace L2
open PySem PySem.Spec PyProof.Rows
noncomputable def look:U→Option D
 | .t d=>some d
 | .m (.lst ds)=>some (.lst ds)
 | .b (.lst ds)=>some (.lst ds)
 | _=>none
noncomputable def Jb (f:List D→Option U) (i:Nat):GD:=fun S=>match S[i]? with
 | some (some u)=>(look u).bind fun d=>match f [d] with
  | some (.t e)=>if mV e=true then some (e,S) else none
  | _=>none
 | _=>none
noncomputable def MA (Ts:List String) (i:Nat):GD:=fun S=>match S[i]? with
 | some (some u)=>(look u).bind fun d=>(gZ Ts d).map fun b=>(.bl b,S)
 | _=>none
section
variable {X:Cx}{x y:Str}{p px py pos:Pos}{f:List D→Option U}
end
section
variable (S:SS) (i:Nat) (g:GD)
@[simp] theorem Ks (f:List D→Option U):Jb f i S=match S[i]? with
 | some (some u)=>(look u).bind fun d=>match f [d] with
  | some (.t e)=>if mV e=true then some (e,S) else none
  | _=>none
 | _=>none:=rfl
@[simp] theorem MB (Ts:List String):MA Ts i S=match S[i]? with | some (some u)=>(look u).bind fun d=>(gZ Ts d).map fun b=>(.bl b,S) | _=>none:=rfl
@[simp] theorem MC (n:Bool):Mz n i g S=(g S).bind fun p=>match p.2[i]? with | some (some u)=>(uD u).bind fun ds=>if bu ds≤40 then some (.bl (n != inD p.1 ds),p.2) else none | _=>none:=rfl
@[simp] theorem Jc (d:D):look (.t d)=some d:=rfl
@[simp] theorem Jd (ds:List D):look (.m (.lst ds))=some (.lst ds):=rfl
@[simp] theorem Je (ds:List D):look (.b (.lst ds))=some (.lst ds):=rfl
@[simp] theorem G8 (ds:List D):uD (.t (.lst ds))=some ds:=rfl
@[simp] theorem G9 (ds:List D):uD (.m (.lst ds))=some ds:=rfl
@[simp] theorem Hf (ds:List D):uD (.b (.lst ds))=some ds:=rfl
@[simp] theorem Hg (ds:List D):uu [] (.lst ds)=some (.bS,.lst ds.reverse):=rfl
end
end L2
end
section
set_option Elab.async false
set_option linter.all false
set_option maxRecDepth 100000
namespace L2
open PySem PySem.Spec PyProof.Rows
section
variable {X:Cx}{a b c e:Expr}{es:List Expr}{pos p p2 px:Pos}{x y:Str}
theorem aG.rep {F:Hp}{vs:List V}{ds:List D}(r:aG F vs ds):∀k:Nat,aG F (List.replicate k vs).flatten (List.replicate k ds).flatten
 | 0=>.nil
 | k+1=>by rw[List.replicate_succ,List.replicate_succ,List.flatten_cons,List.flatten_cons];exact r.append (aG.rep r k)
noncomputable def MD:List D→Option U
 | [.lst ds,.int k]=>if 0≤k∧k.toNat≤100000∧ds.length * k.toNat≤100000 then some (.m (.lst (List.replicate k.toNat ds).flatten)) else none
 | _=>none
noncomputable def ME:List D→Option U
 | [.int i]=>some (.t (.int i))
 | [.bl k]=>some (.t (.int (if k then 1 else 0)))
 | _=>none
noncomputable def Dw:List D→MO→Option (D×MO)
 | [.lst es],.lst ds=>if ds.length+es.length≤100000 then some (.bS,.lst (ds++es)) else none
 | _,_=>none
noncomputable def yg:D→Bool
 | .bS=>true
 | _=>false
noncomputable def Bw:List D→Option U
 | [d,.bS]=>some (.t (.bl (yg d)))
 | _=>none
theorem Dy:tN X (compareOp .Is) Bw:=by
 intro pins s σ H x y v u Q I rx ry ⟨F,ds,w,sb,rs,hw,q⟩
 obtain⟨d,e,rfl,r1,r2⟩:=oq rs
 cases e <;> try (cases d <;> simp[Bw] at hw;done)
 cases hw
 cases r2
 refine EW pins s σ H _ _ v u Q I rx ry ⟨rfl,?_⟩
 have k:Rep F (V.bl (decide (x= .bS))) (.bl (yg d)):=by
  cases r1 <;> exact .bl _
 exact q _ F H (d8.refl ..) sb k
noncomputable def Dz (f:Int→Int→Int) (i:Nat) (g:GD):GS:=fun S=>match S[i]? with
 | some (some (.t (.int n)))=>(g S).bind fun p=>match p.1 with
  | .int m=>(jV i (.t (.int (f n m))) p.2).map .nx
  | _=>none
 | _=>none
theorem Fx {i:Nat}{pos':Pos}{op:Operator}{f:Int→Int→Int}{g:GD}(ho:LC X op (Pg f)) (hN:X.N.Nodup) (hi:X.N[i]? =some x) (hx:Loc X.env.scope x) (he:JD X e g)
  (hf:X.fn x=true∨X.env.scope.names.lookup x=some .local:=by first | exact .inl rfl | exact .inr rfl | assumption):JS X (.AugAssign (.Name x pos') op e pos) (Dz f i g):=
 ⟨fun B=>(EK hN hi hx (he.h B) ho hf).imp fun D σ H ⟨S,F,o,R,h,k⟩=>by
 unfold Dz at h
 split at h
 ·rename_i n hS
  obtain⟨⟨d,S1⟩,h1,h⟩:=aa h
  dsimp only at h
  split at h
  ·rename_i m
   obtain⟨S2,h2,h⟩:=aj h
   subst h
   obtain⟨v,k1,k2⟩:=R.rep i _ hS
   have hv:v= .int n:=dz k2
   subst hv
   refine⟨_,k1,S,F,_,S1,R,h1,fun y F1 H1 R1 st1 r1=>⟨n,m,rfl,dz r1,?_⟩⟩
   exact k _ F1 H1 (R1.put h2 (.int _)) st1.ext.le
  ·cases h
 ·cases h⟩
end
end L2
end
section
set_option Elab.async false
set_option linter.all false
set_option maxRecDepth 100000
namespace L2
open PySem PySem.Spec PyProof.Rows
open AutoSeq1 (wpAny_loadPart')
noncomputable def Bx (k:Bool) (h:Heap) (a:Addr) (its:Array Value):Prop:=match k with
 | true=>h.IsList a its
 | false=>h.IsTuple a its
noncomputable def wJ (k:Bool) (h:Heap) (it a:Addr) (i:Nat):Prop:=match k with
 | true=>h.IsListIter it a i
 | false=>h.IsTupleIter it a i
noncomputable def QL:Bool→String
 | true=>"list_iterator"
 | false=>"tuple_iterator"
noncomputable def Hh (k:Bool) (a:Addr):Obj:={cls:=.type (QL k),data:=.fields #[.ref a,.int 0 0]}
theorem Bx.at {k:Bool}{h h':Heap}{a:Addr}{its:Array Value}(x:Bx k h a its) (g:∀o,h.get? a=some o→h'.get? a=some o):Bx k h' a its:=by
 cases k <;> exact let⟨o,ho,r⟩:=x;⟨o,g o ho,r⟩
theorem wJ.at {k:Bool}{h h':Heap}{it a:Addr}{i:Nat}(x:wJ k h it a i) (g:∀o,h.get? it=some o→h'.get? it=some o):wJ k h' it a i:=by
 cases k <;> exact let⟨o,ho,r⟩:=x;⟨o,g o ho,r⟩
theorem wJ.obj {k:Bool}{h:Heap}{it a:Addr}{i:Nat}(x:wJ k h it a i):∃o,h.get? it=some o∧∀v,o.data≠.cell v:=by
 cases k <;> exact let⟨o,ho,_,r⟩:=x;⟨o,ho,fun v z=>by rw[r] at z;cases z⟩
theorem wJ.new (k:Bool) (h:Heap) (a:Addr):wJ k (h.push (Hh k a)) h.objs.size a 0:=by
 cases k <;> exact⟨_,Heap.get?_push_size _ rfl,rfl,rfl⟩
section
variable {prog:Program}{w:World}{A:Around}{E:Value→Shared→Prop}{s:Shared}
theorem DA {ad t:Addr}{n:Nat}{vals:Array Value}{y:Value}{Q:Value→Shared→Prop}(st:s.heap.IsTupleIter ad t n) (hv:s.heap.IsTuple t vals) (hy:vals[n]? =some y)
  (q:∀h',h'.IsTupleIter ad t (n+1)→Heap.SameBut ad s.heap h'→Q y {s with heap:=h'}):wpAny (model prog w) A (Builtin.SmallTypes.nextOf (.ref ad)) Q E s:=by
 obtain⟨ob,hob,hcl,hdat⟩:=id st
 obtain⟨QM,Fy,_,nn,By⟩:=hv
 unfold Builtin.SmallTypes.nextOf
 refine wpAny_bind (wpAny_callSpecial?_slot (name:=Str.ofString "__next__") st.typeIs F.slot_tuple_iterator_next (wpAny_call_entry F.slot_tuple_iterator_next st.typeIs F.entry_tuple_iterator_next ?_ (F.args_tuple_iterator_next_1 _)))
 show wpAny _ _ (field (.ref ad) 0 >>= _) _ _ s
 refine wpAny_bind (wpAny_field hob hdat (x:=.ref t) rfl ?_)
 show wpAny _ _ (if(Value.ref t == Value.none)=true then _ else _) _ _ s;rw[if_neg (show ¬((Value.ref t == Value.none)=true) from Bool.false_ne_true)]
 show wpAny _ _ (field (.ref ad) 1 >>= _) _ _ s
 refine wpAny_bind (wpAny_field hob hdat (x:=.int n 0) rfl ?_)
 show wpAny _ _ (seqItems? (.ref t) >>= _) _ _ s;refine wpAny_bind (wpAny_seqItems Fy By ?_)
 simp only[Int.toNat_natCast,hy]
 refine wpAny_bind (wpAny_setField hob hdat (by simp) (wpAny_pure ⟨y,rfl,wpAny_pure (q _ ?_ (Heap.SameBut.update ..))⟩))
 exact⟨_,Heap.get?_update_self _ hob (Obj.isFreed_of_fields (Obj.data_mapFields hdat _)),(Obj.cls_mapFields ..).trans hcl,by rw[Obj.data_mapFields hdat];simp[rawInt]⟩
theorem Fz {ad t:Addr}{n:Nat}{vals:Array Value}{Q:Value→Shared→Prop}(hn:A.handled=none) (st:s.heap.IsTupleIter ad t n) (hv:s.heap.IsTuple t vals) (hy:vals[n]? =none)
  (q:∀h' e,Heap.ExtBut ad s.heap h'→(∃o,h'.get? e=some o∧o.cls= .type "StopIteration")→E (.ref e) {s with heap:=h'}):wpAny (model prog w) A (Builtin.SmallTypes.nextOf (.ref ad)) Q E s:=by
 obtain⟨ob,hob,hcl,hdat⟩:=id st
 obtain⟨QM,Fy,_,nn,By⟩:=hv
 unfold Builtin.SmallTypes.nextOf
 refine wpAny_bind (wpAny_callSpecial?_slot (name:=Str.ofString "__next__") st.typeIs F.slot_tuple_iterator_next (wpAny_call_entry F.slot_tuple_iterator_next st.typeIs F.entry_tuple_iterator_next ?_ (F.args_tuple_iterator_next_1 _)))
 show wpAny _ _ (field (.ref ad) 0 >>= _) _ _ s
 refine wpAny_bind (wpAny_field hob hdat (x:=.ref t) rfl ?_)
 show wpAny _ _ (if(Value.ref t == Value.none)=true then _ else _) _ _ s;rw[if_neg (show ¬((Value.ref t == Value.none)=true) from Bool.false_ne_true)]
 show wpAny _ _ (field (.ref ad) 1 >>= _) _ _ s
 refine wpAny_bind (wpAny_field hob hdat (x:=.int n 0) rfl ?_)
 show wpAny _ _ (seqItems? (.ref t) >>= _) _ _ s;refine wpAny_bind (wpAny_seqItems Fy By ?_)
 simp only[Int.toNat_natCast,hy]
 refine wpAny_bind (wpAny_rule (wpAny_bind (wpAny_setField hob hdat (by simp) ?_)))
 show wpAny _ _ (newExc (.type "StopIteration") [] >>= _) _ _ _;refine wpAny_bind ?_;simp only[newExc,newTuple]
 refine wpAny_bind (wpAny_newObj_type ?_ (by size_fits));refine wpAny_bind (m:=firstArgMember _ _) (wpAny_of_eq (a:=Value.none) (by first | rfl | (simp only[firstArgMember];rfl)) ?_)
 refine wpAny_newObj_type ?_ (by size_fits);simp only[raiseNew];refine wpAny_bind (wpAny_handled ?_)
 first | rw[show A.in1.handled=none from hn] | rw[hn]
 refine wpAny_bind (wpAny_pure (wpAny_throw ?_));exact q _ _ (((Heap.SameBut.update ..).extBut.push _).push _) ⟨_,Heap.get?_push_size _ rfl,rfl⟩
theorem nextK {k:Bool}{ad t:Addr}{n:Nat}{vals:Array Value}{y:Value}{Q:Value→Shared→Prop}(st:wJ k s.heap ad t n) (hv:Bx k s.heap t vals) (hy:vals[n]? =some y)
  (q:∀h',wJ k h' ad t (n+1)→Heap.SameBut ad s.heap h'→Q y {s with heap:=h'}):wpAny (model prog w) A (Builtin.SmallTypes.nextOf (.ref ad)) Q E s:=by
 cases k with
 | true=>exact wpAny_nextOf_list_item st hv hy q
 | false=>exact DA st hv hy q
theorem Jf {k:Bool}{ad t:Addr}{n:Nat}{vals:Array Value}{Q:Value→Shared→Prop}(hn:A.handled=none) (st:wJ k s.heap ad t n) (hv:Bx k s.heap t vals) (hy:vals[n]? =none)
  (q:∀h' e,Heap.ExtBut ad s.heap h'→(∃o,h'.get? e=some o∧o.cls= .type "StopIteration")→E (.ref e) {s with heap:=h'}):wpAny (model prog w) A (Builtin.SmallTypes.nextOf (.ref ad)) Q E s:=by
 cases k with
 | true=>exact wpAny_nextOf_list_end hn st hv hy q
 | false=>exact Fz hn st hv hy q
theorem FA {k:Bool}(hn:A.handled=none) (ad t:Addr) (hne:t≠ad) (vals:Array Value):Draws prog w A ad [ad,t] vals.size (fun i v=>vals[i]? =some v) (fun i h=>wJ k h ad t i∧Bx k h t vals) where
 live:=fun _ _ st=>let⟨o,ho,_⟩:=st.1.obj;⟨o,ho⟩
 frame:=fun _ _ _ st hk=>⟨st.1.at fun o e=>hk ad (by simp) o e,st.2.at fun o e=>hk t (by simp) o e⟩
 item:=fun i s Q E hi st hQ=>nextK st.1 st.2 (y:=vals[i]) (by simp[hi]) fun h' FD hs'=>hQ _ h' s.toks (by simp[hi]) ⟨FD,st.2.at fun o e=>hs'.extBut _ _ hne e⟩ hs'
 done:=fun s Q E st hE=>Jf hn st.1 st.2 (by simp) hE
end
theorem BA (l:Addr) (vals:Array Value) (n:Nat) (dct:Option Addr) (sl:Array (Option Value)):
  Meets (Builtin.«enumerate.__new__» ⟨[.type "enumerate",.ref l],[]⟩) (fun _ R s=>s.heap.get? l=some {cls:=.type "tuple",dict:=dct,data:=.seq vals n,slots:=sl}∧
   R (.ok (.ret (.ref (s.heap.push (Hh false l)).objs.size))) {s with heap:=(s.heap.push (Hh false l)).push {cls:=.type "enumerate",data:=.fields #[.none,.bool false,.ref s.heap.objs.size,rawInt 0,.none,.none]}}):=
 .of_wp fun prog w A R s h=>by
  obtain⟨hp,g,d,tk,os⟩:=s;obtain⟨hl,h⟩:=h
  have hsub:=sub_enumerate
  have hT:Heap.IsTuple (Shared.heap ⟨hp,g,d,tk,os⟩) l vals:=⟨_,hl,rfl,n,rfl⟩
  wp_walk using wpAny_loadPart' hl
  refine wpAny_stack_any fun st=>wpAny_pure ?_
  split
  ·rename_i c _ _ _ _ _
   cases(c == Value.type "enumerate")
   ·wp_walk using wpAny_loadPart' hl,wpAny_pyIter_tuple hT;exact⟨_,rfl,h⟩
   ·wp_walk using wpAny_loadPart' hl,wpAny_pyIter_tuple hT;exact⟨_,rfl,h⟩
  ·wp_walk using wpAny_loadPart' hl,wpAny_pyIter_tuple hT;exact⟨_,rfl,h⟩
end L2
end
section
set_option Elab.async false
set_option linter.all false
set_option maxRecDepth 100000
namespace L2
open PySem PySem.Spec PyProof.Rows
section
variable {prog:Program}{w:World}{A:Around}{E:Value→Shared→Prop}{s:Shared}
theorem wK {k:Bool}{l:Addr}{vals:Array Value}{Q:Value→Shared→Prop}(hL:Bx k s.heap l vals)
  (h:∀h',IsEnum h' (s.heap.objs.size+1) s.heap.objs.size 0 .none→wJ k h' s.heap.objs.size l 0→(∀b o,s.heap.get? b=some o→h'.get? b=some o)→Q (.ref (s.heap.objs.size+1)) {s with heap:=h'}):
  wpAny (model prog w) A (call (.type "enumerate") [.ref l]) Q E s:=by
 cases k with
 | true=>exact call_enumerate_list hL fun h' a b _ c=>h h' a b c
 | false=>
  obtain⟨⟨c,dct,dt,sl⟩,hl,hc,n,hd⟩:=hL
  have hc:c= .type "tuple":=hc
  have hd:dt= .seq vals n:=hd
  subst hc hd
  refine callType_new F.called_enumerate (by decide) (F.typeCall_enumerate_1 _) (F.newCall_enumerate_1 _) (fun obj=>F.args_object_init_2 obj _) F.entry_enumerate_new (BA l vals n dct sl) ⟨hl,?_⟩
  have hz:(s.heap.push (Hh false l)).objs.size=s.heap.objs.size+1:=Heap.size_push ..
  show _∧_
  rw[hz]
  have he:IsEnum ((s.heap.push (Hh false l)).push {cls:=.type "enumerate",data:=.fields #[.none,.bool false,.ref s.heap.objs.size,rawInt 0,.none,.none]}) (s.heap.objs.size+1) s.heap.objs.size 0 .none:=by
   have:=Heap.get?_push_size (s.heap.push (Hh false l)) (o:={cls:=.type "enumerate",data:=.fields #[.none,.bool false,.ref s.heap.objs.size,rawInt 0,.none,.none]}) rfl
   rw[hz] at this;exact this
  exact⟨⟨_,he,rfl⟩,h _ he ((wJ.new false s.heap l).at fun o e=>Heap.get?_push_of_some _ e) fun b o x=>Heap.get?_push_of_some _ (Heap.get?_push_of_some _ x)⟩
end
theorem FE {prog:Program}{w:World}{A:Around}{k:Bool}(hn:A.handled=none) (ad t:Addr) (vals:Array Value) (n:Nat) (he:vals[n]? =none):Draws prog w A ad [ad,t] n (fun _ _=>True) (fun i h=>wJ k h ad t i∧Bx k h t vals∧i=n) where
 live:=fun _ _ st=>let⟨o,ho,_⟩:=st.1.obj;⟨o,ho⟩
 frame:=fun _ _ _ st hk=>⟨st.1.at fun o e=>hk ad (by simp) o e,st.2.1.at fun o e=>hk t (by simp) o e,st.2.2⟩
 item:=fun i s Q E hi st hQ=>absurd hi (by rw[st.2.2];exact Nat.lt_irrefl _)
 done:=fun s Q E st hE=>Jf hn st.1 st.2.1 he hE
noncomputable def Ej (K:PySem.W.Frag) (H:Hp) (k:Bool) (a:Addr) (xs:List V):Prop:=match k with
 | true=>iO K H a xs
 | false=>p9 K H a xs
section
variable {X:Cx}{pins:List (Addr×Obj)}{σ:St}{H:Hp}{s:Shared}
theorem Inv.MF (I:Inv X pins σ H s){k:Bool}{a:Addr}{xs:List V}(h:Ej X.K H k a xs):∃its:List Value,Vals xs its∧Bx k s.heap a its.toArray∧xs.length≤sizeLine:=by
 cases k with
 | true=>obtain⟨its,r,p,z⟩:=I.list h;exact⟨its,r,p.isList,z⟩
 | false=>obtain⟨its,r,p,z⟩:=I.tuple h;exact⟨its,r,p,z⟩
theorem Inv.DB (I:Inv X pins σ H s){k:Bool}{a:Addr}{xs ys:List V}(h:Ej X.K H k a xs) (h':Ej X.K H k a ys):xs=ys:=by
 cases k with
 | true=>exact I.tV h h'
 | false=>exact I.qz h h'
theorem Inv.yh {t':Nat}{h':Heap}{fp:List Addr}(I:Inv X pins σ H s) (k:∀b o,b∉fp→s.heap.get? b=some o→h'.get? b=some o) (hf:∀b∈fp,jg X pins H b):Inv X pins σ H {s with heap:=h',toks:=t'}:=by
 have HF:∀b u,H b=some u→b∉fp:=fun b u e z=>by rw[(hf b z).1] at e;cases e
 refine I.step (g':=s.gens) (d':=s.drawn) (ch:=fp) (fun b hb=>?_) (fun b o _ _ hc e _=>k b o hc e) (fun b o _ _ hc e _=>⟨o.slots,k b o hc e⟩) (fun _ _ _ _ n=>n)
  (fun b o hc e=>⟨o,k b o hc e⟩) (fun _ _ e=>e) (fun _ _ _ e=>e) (fun b ps e=>⟨#[],by rw[e];simp⟩) (fun m hm=>?_) (fun b u e=>?_) I.bare
 ·obtain⟨_,f1,_,f3,f4,f5⟩:=hf b hb
  exact⟨f3,f1,f4,f5⟩
 ·obtain⟨o,es,ep,ho,r⟩:=hm
  exact⟨o,es,ep,k _ o (fun z=>(hf _ z).2.1 rfl) ho,r⟩
 ·refine(I.hok b u e).stay (fun c v hc q=>k c v ?_ q) (fun _ q=>q) fun _ _ q=>q
  rcases hc with z | z
  ·rw[z];exact HF b u e
  ·exact HF c _ z
theorem Inv.handed {t':Nat}{h':Heap}{fp:List Addr}{xs:List V}{its:List Value}(I:Inv X pins σ H s) (hf:∀b∈fp,jg X pins H b) (hlt:∀b∈fp,b < s.heap.objs.size) (k:∀b o,b∉fp→s.heap.get? b=some o→h'.get? b=some o)
  (ht:h'.get? s.heap.objs.size=some {cls:=.type "tuple",data:=.seq its.toArray}) (hv:Vals xs its) (hz:xs.length≤sizeLine):Inv X pins σ (upd H s.heap.objs.size (.tup xs)) {s with heap:=h',toks:=t'}:=by
 have I1:Inv X pins σ (upd H s.heap.objs.size (.tup xs)) {s with heap:=s.heap.push {cls:=.type "tuple",data:=.seq its.toArray},toks:=t'}:=
  I.laid (fun _ _ q=>Heap.get?_push_of_some _ q) (Nat.le_refl _) ⟨hz,its,hv,IsTup.new s.heap _⟩
 refine Inv.yh (s:={s with heap:=s.heap.push {cls:=.type "tuple",data:=.seq its.toArray},toks:=t'}) (t':=t') (fp:=fp) I1 (fun b o hb e=>?_) fun b hb=>?_
 ·rcases Heap.get?_push_cases (show(s.heap.push {cls:=.type "tuple",data:=.seq its.toArray}).get? b=some o from e) with⟨z1,z2⟩ | z
  ·rw[z1,z2];exact ht
  ·exact k b o hb z
 ·obtain⟨f0,f1,f2,f3,f4,f5⟩:=hf b hb
  exact⟨by rw[aA (Nat.ne_of_lt (hlt b hb))];exact f0,f1,f2,f3,f4,f5⟩
end
noncomputable def Py (K:PySem.W.Frag) (k:Bool) (a:Addr):It:=
 ⟨fun i H=>∃xs x,Ej K H k a xs∧xs[i]? =some x,fun i H x H'=>∃p y,H p=none∧x= .ref p∧H'=upd H p (.tup [.int i,y])∧∀xs,Ej K H k a xs→xs[i]? =some y,fun i H=>∃xs,Ej K H k a xs∧xs.length≤i⟩
theorem zl {P : Program} {w : World} {K : PySem.W.Frag} {elts : List Expr} {j : Nat} {pos : Pos} (k : Bool) (a it e : Addr) (hai : a ≠ it) (QN : e ≠ a) (hei : e ≠ it) : Turn P w K (.Tuple elts j pos) (Py K k a) [e, it] e (fun i h => (∃ old, IsEnum h e it (i : Int) old) ∧ wJ k h it a i) where
  mem:=by simp
  obj := fun i h ⟨⟨old, he⟩, st⟩ b hb => by
    rcases List.mem_cons.mp hb with z | z
    · subst z;exact⟨_,he,fun v z=>by cases z⟩
    · have z:b=it:=by simpa using z
      subst z
      exact st.obj
  keep:=fun i h h' ⟨⟨old,he⟩,st⟩ g=>⟨⟨old,g e (by simp) _ he⟩,st.at fun o q=>g it (by simp) o q⟩
  item:=by
    intro X hP hw hK hc i pins s σ H E I hf st hg
    subst hP hw hK
    obtain⟨xs,x,hq,hx⟩:=hg
    obtain⟨its,rv,p,hz⟩:=I.MF hq
    obtain⟨u,hu,ru⟩:=rv.get hx
    obtain⟨⟨old,he⟩,hit⟩:=st
    have hsz:i < its.toArray.size:=by rw[List.size_toArray];exact(List.getElem?_eq_some_iff.mp hu).1
    refine wpAny_pyNext_enum_itemD (FA (k:=k) (A:=X.A.in1) (I.ok.hd hc) it a hai its.toArray) he ⟨hit,p⟩ hsz hei (by simp[QN,hei]) fun y h' tk hy ho hs' hT Th hk=>?_
    obtain⟨FD,p'⟩:=hs'
    have ey:y=u:=by
      have h1:its.toArray[i]? =some u:=by simpa using hu
      rw[h1] at hy;exact(Option.some.inj hy).symm
    subst ey
    refine⟨_,rfl,wpAny_letOwnedTupleGo_enum ho fun h2 QO hs2=>?_⟩
    have hs2:Heap.SameBut e h' h2:=hs2
    have elt:e < s.heap.objs.size:=Heap.lt_size he
    obtain⟨oi,QS,_⟩:=hit.obj
    have QT:it < s.heap.objs.size:=Heap.lt_size QS
    have Jg:∀b∈[e,it],b < s.heap.objs.size:=fun b hb=>by
      rcases List.mem_cons.mp hb with z | z
      · rw[z];exact elt
      · rw[show b=it by simpa using z];exact QT
    have I2:Inv X pins σ (upd H s.heap.objs.size (.tup [.int i,x])) {s with heap:=h2,toks:=tk+1}:=
      I.handed (its:=[.int i tk,y]) hf Jg (fun b o hb q=>(hs2.2 b fun z=>hb (by simp[z])).trans (hk b o (fun z=>hb (by simp[z])) (fun z=>hb (by simp[z])) q))
        ((hs2.2 _ (Nat.ne_of_gt elt)).trans hT) (.cons ⟨tk,rfl⟩ (.cons ru .nil)) (show 2≤sizeLine by decide)
    refine⟨.ref s.heap.objs.size,_,I2,rfl,⟨_,x,I.fresh,rfl,rfl,fun ys QU=>by rw[I.DB QU hq];exact hx⟩,⟨⟨y,by simpa using QO⟩,FD.at fun o q=>(hs2.2 _ (Ne.symm hei)).trans q⟩,fun b hb=>?_⟩
    rw[aA (Nat.ne_of_lt (Jg b hb))]
    exact(hf b hb).1
  done:=by
    intro X hP hw hK hc i pins s σ H E I hf st hg
    subst hP hw hK
    obtain⟨xs,hq,hx⟩:=hg
    obtain⟨its,rv,p,hz⟩:=I.MF hq
    obtain⟨⟨old,he⟩,hit⟩:=st
    have hl:=rv.length
    refine wpAny_pyNext_enum_endD (n:=i) (FE (k:=k) (A:=X.A.in1) (I.ok.hd hc) it a its.toArray i (by simp;omega)) he ⟨hit,p,rfl⟩ fun h' hx=>?_
    exact⟨rfl,I.yh (t':=s.toks) (fun b o hb q=>hx b o (fun z=>hb (by simp[z])) q) hf⟩
  self:=fun _ _ _ _ _ st h=>by
    obtain⟨⟨old,he⟩,_⟩:=st
    exact wpAny_pyIter_enum he h
end L2
end
section
set_option Elab.async false
set_option linter.all false
set_option maxRecDepth 100000
namespace L2
open PySem PySem.Spec PyProof.Rows
section
variable {prog:Program}{w:World}{A:Around}{E:Value→Shared→Prop}{s:Shared}
end
end L2
end
section
set_option Elab.async false
set_option linter.all false
set_option maxRecDepth 100000
namespace L2
open PySem PySem.Spec PyProof.Rows
section
variable {X:Cx}{a b c e:Expr}{body elts:List Expr}{pos p tpos:Pos}{jt:Nat}
theorem Bx.lt {k:Bool}{h:Heap}{a:Addr}{its:Array Value}(x:Bx k h a its):a < h.objs.size:=by
 cases k <;> exact let⟨o,ho,_⟩:=x;Heap.lt_size ho
noncomputable def Jh (K:PySem.W.Frag) (ta:TA):TI:=fun σ H R=>ta σ H fun vs H1=>∃k a xs,vs=[.ref a]∧Ej K H1 k a xs∧R (Py K k a) H1
theorem DC {ta:TA}(hg:Gl X "enumerate") (hm:X.mg "enumerate" =none) (ha:PA X [a] ta) (hs:starEach [a] X.env=[(false,eval a X.env)]:=by rfl):PI X (.Tuple elts jt tpos) (.Call (.Name "enumerate" p) [a] [] pos) (Jh X.K ta):=by
 intro pins s σ H R I h
 refine Call_ (nN I hg hm boot_enumerate (PyProof.Rows.callWith_type1 (cP (ha pos pins s σ H _ I h) fun us s1 ⟨vs,H1,I1,r1,q1⟩=>?_) hs rfl))
 obtain⟨k,a,xs,rfl,hq,q⟩:=q1
 cases r1 with
 | cons r rr=>
  cases rr
  cases r
  obtain⟨its,rv,p,hz⟩:=I1.MF hq
  refine wK p fun h' he hit hk=>wpAny_pyIter_enum he ?_
  have lt:=p.lt
  refine⟨s1.heap.objs.size+1,[s1.heap.objs.size+1,s1.heap.objs.size],_,_,H1,rfl,I1.kept (t':=s1.toks) hk,zl k a s1.heap.objs.size (s1.heap.objs.size+1) (Nat.ne_of_lt lt) (Nat.ne_of_gt (Nat.lt_succ_of_lt lt)) (Nat.succ_ne_self _),⟨⟨.none,he⟩,hit⟩,fun b hb=>?_,q⟩
  have hb:s1.heap.objs.size≤b:=by
   rcases List.mem_cons.mp hb with z | z
   ·rw[z];exact Nat.le_succ _
   ·rw[show b=s1.heap.objs.size by simpa using z];exact Nat.le_refl _
  exact I1.vU hb (I1.hok.fresh hb)
noncomputable def WalkN (J:It) (F:Hp) (ds:List D):Prop:=∀F' H',(∀b o,F b=some o→F' b=some o)→Sub F' H'→∀i,(∀d,ds[i]? =some d→J.go i H'∧∀x H2,J.G0 i H' x H2→∃F2,d8 F' H' F2 H2∧Sub F2 H2∧Rep F2 x d)∧(ds.length≤i→J.stop i H')
noncomputable def MG (K:PySem.W.Frag) (B:Base) (gi:GI):TI:=fun σ H R=>∃S F ds S',Rel K B S σ F H∧gi S=some (ds,S')∧∀J F' H',Rel K B S' σ F' H'→Step S S' σ F H F' H'→WalkN J F' ds→R J H'
structure Pz (X:Cx) (tg e:Expr) (gi:GI):Prop where
 h:∀B,PI X tg e (MG X.K B gi)
noncomputable def oX:D→Option (Bool×List D)
 | .lst ds=>some (true,ds)
 | .tup ds=>some (false,ds)
 | _=>none
theorem Sub.Ji {K:PySem.W.Frag}{F H:Hp}{v:V}{d:D}{k:Bool}{ds:List D}(sb:Sub F H) (r:Rep F v d) (e:oX d=some (k,ds)):
  ∃a vs,v= .ref a∧aG F vs ds∧∀F' H',(∀b o,F b=some o→F' b=some o)→Sub F' H'→Ej K H' k a vs:=by
 cases d <;> try (cases e;done)
 ·cases e
  obtain⟨a,vs,rfl,fa,ha,rs⟩:=sb.gD r
  exact⟨a,vs,rfl,rs,fun F' H' le sb'=>.inl (Rd.of (sb' a _ (le _ _ fa)))⟩
 ·cases e
  obtain⟨a,vs,rfl,fa,ha,rs⟩:=sb.gg r
  exact⟨a,vs,rfl,rs,fun F' H' le sb'=>.inl (Rd.of (sb' a _ (le _ _ fa)))⟩
noncomputable def j4 (ds:List D):List D:=ds.mapIdx fun i d=>.tup [.int i,d]
noncomputable def yi (gA:GA):GI:=fun S=>(gA S).bind fun p=>match p.1 with
 | [d]=>(oX d).map fun q=>(j4 q.2,p.2)
 | _=>none
theorem yj {gA:GA}(hg:Gl X "enumerate") (hm:X.mg "enumerate" =none) (ha:JA X [a] gA) (hs:starEach [a] X.env=[(false,eval a X.env)]:=by rfl):Pz X (.Tuple elts jt tpos) (.Call (.Name "enumerate" p) [a] [] pos) (yi gA):=
 ⟨fun B=>PI.orelse fun σ H R0 ⟨S,F,ds,S',R,hg',k⟩=>by
 obtain⟨⟨args,S1⟩,h1,hg'⟩:=aa hg'
 refine⟨_,DC hg hm (ha.h B) hs,S,F,args,S1,R,h1,fun vs F1 H1 R1 st1 r1=>?_⟩
 dsimp only at hg'
 split at hg'
 ·obtain⟨⟨kk,es⟩,h2,hg'⟩:=aj hg'
  cases hg'
  cases r1 with
  | cons r rr=>
   cases rr
   obtain⟨a,ws,rfl,rs,sq⟩:=R1.sub.Ji (K:=X.K) r h2
   refine⟨kk,a,ws,rfl,sq F1 H1 (fun _ _ z=>z) R1.sub,k _ F1 H1 R1 st1 fun F' H' le sb i=>⟨fun d hd=>?_,fun hl=>⟨ws,sq F' H' le sb,by rw[rs.length];simpa[j4] using hl⟩⟩⟩
   unfold j4 at hd
   rw[List.getElem?_mapIdx] at hd
   obtain⟨d0,hd0,rfl⟩:=aj hd
   obtain⟨v,k1,k2⟩:=rs.get hd0
   refine⟨⟨ws,v,sq F' H' le sb,k1⟩,fun x H2 y=>?_⟩
   obtain⟨p,y,hp,rfl,rfl,hy⟩:=y
   have ey:=hy ws (sq F' H' le sb)
   rw[k1] at ey
   cases ey
   exact⟨_,d8.root sb hp _,sb.nZ hp,.tup aF (.cons (.int _) (.cons (k2.le fun b o z=>j9 (sb.fresh hp) b o (le b o z)) .nil))⟩
 ·cases hg'⟩
noncomputable def Jj (gA:GA):GI:=fun S=>(gA S).bind fun p=>match p.1 with
 | [d,e]=>(oX d).bind fun q=>(oX e).map fun r=>(List.zipWith (fun a b=>.tup [a,b]) q.2 r.2,p.2)
 | _=>none
theorem ym {tg iter:Expr}{stmts:List Stmt}{s1:GS}{bd:GB}{gi:GI}(hp:PassesOwn (model X.prog X.w) X.A X.env X.xe) (hc:X.calm=true) (hi:Pz X tg iter gi) (hg:JG X tg bd) (hb:JB X stmts s1) (hs:∀x,foldedSetIterable iter X.env x=pure x:=by intro _;rfl):
  JS X (.For tg iter stmts [] pos) (oz bd gi s1):=⟨fun B=>(Ay hp hc (hi.h B) (hg.h B) (hb.h B) hs).imp fun D σ H ⟨S,F,o,R,h,k⟩=>by
 obtain⟨⟨ds,S1⟩,h1,h⟩:=aa h
 refine⟨S,F,ds,S1,R,h1,fun J F1 H1 R1 st1 w=>?_⟩
 refine⟨fun i m σ' H'=>∃S' F',Rel X.K B S' σ' F' H'∧(∀b o,F1 b=some o→F' b=some o)∧i≤ds.length∧m=ds.length - i∧loop bd s1 (ds.drop i) S'=some o,⟨_,S1,F1,R1,fun _ _ z=>z,Nat.zero_le _,rfl,h⟩,?_⟩
 rintro i m σ' H' ⟨S',F',R',le,hl,rfl,bV⟩
 have w':=w F' H' le R'.sub i
 by_cases hlt:i < ds.length
 ·have hd:ds[i]? =some ds[i]:=List.getElem?_eq_getElem hlt
  obtain⟨go,yl⟩:=w'.1 _ hd
  rw[List.drop_eq_getElem_cons hlt] at bV
  obtain⟨S2,e2,bV⟩:=aa bV
  obtain⟨o2,e3,bV⟩:=aa bV
  refine .inr ⟨go,_,fun σ2 H2 n=>⟨ds.length - (i+1),by omega,n⟩,fun x H2 y=>?_⟩
  obtain⟨F2,nw,QV,rx⟩:=yl x H2 y
  have R2:=R'.new nw QV
  have le:∀b o,F1 b=some o→F2 b=some o:=fun b o z=>nw.le b o (le b o z)
  refine⟨S',F2,_,S2,R2,rx,e2,fun σ3 R3=>⟨S2,F2,o2,R3,e3,?_⟩⟩
  cases o2 with
  | nx S3=>exact fun Be F4 H4 R4 wA=>⟨S3,F4,R4,fun b o z=>wA b o (le b o z),hlt,rfl,bV⟩
  | ct S3=>exact fun Be F4 H4 R4 wA=>⟨S3,F4,R4,fun b o z=>wA b o (le b o z),hlt,rfl,bV⟩
  | bk S3=>cases bV;exact fun Be F4 H4 R4 wA=>k Be F4 H4 R4 fun b o z=>wA b o (le b o (st1.ext.le b o z))
  | rt u S3=>cases bV;exact fun v Be F4 H4 R4 wA=>k v Be F4 H4 R4 fun b o z=>wA b o (le b o (st1.ext.le b o z))
 ·have e:i=ds.length:=by omega
  subst e
  rw[List.drop_length] at bV
  cases bV
  exact .inl ⟨w'.2 (Nat.le_refl _),k σ' F' H' R' fun b o z=>le b o (st1.ext.le b o z)⟩⟩
end
end L2
end
section
set_option Elab.async false
set_option linter.all false
set_option maxRecDepth 100000
namespace L2
open PySem PySem.Spec PyProof.Rows
section
variable {X:Cx}{a b c e:Expr}{x y:Str}{p px py pos pos' tpos:Pos}{f:List D→Option U}{gb:GD}
theorem Vals.repl {v:V}{u:Value}(r:RelV v u):∀m:Nat,Vals (List.replicate m v) (List.replicate m u)
 | 0=>.nil
 | m+1=>.cons r (Vals.repl r m)
theorem aG.repl {F:Hp}{v:V}{d:D}(r:Rep F v d):∀m:Nat,aG F (List.replicate m v) (List.replicate m d)
 | 0=>.nil
 | m+1=>.cons r (aG.repl r m)
end
end L2
end
section
set_option Elab.async false
set_option linter.all false
set_option maxRecDepth 100000
namespace L2
open PySem PySem.Spec PyProof.Rows
noncomputable def Jk:GE:=fun S=>some (.m (.vR []),S)
noncomputable def Jl:GE:=fun S=>some (.m (.dct []),S)
section
variable {X:Cx}{a b c e k:Expr}{x y:Str}{p px py pos pos' tpos apos cpos:Pos}{gk:GD}
noncomputable def FF (d:D):List D→Option Nat
 | []=>none
 | e :: ds=>if iD e d then some 0 else(FF d ds).map (· +1)
noncomputable def FG:List D→MO→Option (D×MO)
 | [d],.lst ds=>if bu ds≤40∧ds.length < 100000 then(FF d ds).map fun j=>(.int (j:Nat),.lst ds) else none
 | _,_=>none
end
end L2
end
section
set_option Elab.async false
set_option linter.all false
set_option maxRecDepth 100000
namespace L2
open PySem PySem.Spec PyProof.Rows
section
variable {X:Cx}{k v:Expr}{pos:Pos}{tk tv:TE}{gk gv:GD}
end
end L2
end
section
set_option Elab.async false
set_option linter.all false
set_option maxRecDepth 100000
namespace L2
open PySem PySem.Spec PyProof.Rows
noncomputable def g6 (kvs:List (Str×Int)) (z:Str):Option Int:=(kvs.find? fun p=>decide (p.1=z)).map (·.2)
noncomputable def FH:Option Int→Option Value→Prop
 | some i,u=>∃t,u=some (.int i t)
 | none,u=>u=none
noncomputable def KTab (P:Program) (w:World) (K:PySem.W.Frag) (a:Addr) (kvs:List (Str×Int)):Prop:=
 (a == sysModules)=false∧∃o es ep,K.lookup a=some o∧o.ExactDict∧o.data= .dict es ep∧KeysOf (bw P w) es∧∀z,FH (g6 kvs z) (findBy (bw P w).is es (.inr z))
noncomputable def oY (w:World):List (Str×Int)→List DictEntry→Prop
 | [],[]=>True
 | (z,i) :: r,e :: es=>(e.hash=hashStr w z∧(∃t,e.key= .str z t)∧∃t,e.val= .int i t)∧oY w r es
 | _,_=>False
theorem qV {P:Program}{w:World}:∀{kvs:List (Str×Int)}{es:List DictEntry},oY w kvs es→∀e∈es,∃k,(bw P w).is k e.key=true∧e.hash=(bw P w).hash k
 | [],[],_,e,he=>by cases he
 | (z,i) :: r,e :: es,h,e',he=>by
  obtain⟨⟨h1,⟨t,h2⟩,_⟩,h3⟩:=h
  rcases List.mem_cons.mp he with rfl | q
  ·exact⟨.inr z,by rw[h2];exact jh P w z t,h1⟩
  ·exact qV h3 e' q
 | [],_ :: _,h,_,_=>h.elim
 | _ :: _,[],h,_,_=>h.elim
theorem qW {P:Program}{w:World}(z:Str):∀{kvs:List (Str×Int)}{es:List DictEntry},oY w kvs es→FH (g6 kvs z) ((es.find? fun e=>(bw P w).is (.inr z) e.key).map (·.val))
 | [],[],_=>rfl
 | (y,i) :: r,e :: es,h=>by
  obtain⟨⟨h1,⟨t,h2⟩,u,h4⟩,h3⟩:=h
  have k:(bw P w).is (.inr z) e.key=decide ((.inr z:Key)= .inr y):=KeyKind.is_eq_decide (knd:=bw P w) (k:=.inr y) (by rw[h2];exact jh P w y t) (.inr z)
  unfold g6
  by_cases q:y=z
  ·subst q
   rw[List.find?_cons_of_pos (by simp),List.find?_cons_of_pos (by rw[k];simp)]
   exact⟨u,by rw[Option.map_some,h4]⟩
  ·rw[List.find?_cons_of_neg (by simpa using q),List.find?_cons_of_neg (by rw[k];simp only[decide_eq_true_eq,Sum.inr.injEq];exact fun e=>q e.symm)]
   exact qW z h3
 | [],_ :: _,h=>h.elim
 | _ :: _,[],h=>h.elim
theorem DE {P:Program}{w:World}{K:PySem.W.Frag}{a:Addr}{kvs:List (Str×Int)}{es:List DictEntry}{ep:Nat}(h:K.lookup a=some ⟨.type "dict",none,.dict es.toArray ep,#[]⟩) (hs:(a == sysModules)=false) (he:oY w kvs es):KTab P w K a kvs:=by
 refine⟨hs,_,es.toArray,ep,h,⟨rfl,rfl,rfl⟩,rfl,fun e q=>qV he e (by simpa using q),fun z=>?_⟩
 have:=qW (P:=P) z he
 unfold findBy
 rw[List.find?_toArray]
 exact this
section
variable {X:Cx}{pins:List (Addr×Obj)}{σ:St}{H:Hp}{s:Shared}{a:Addr}{kvs:List (Str×Int)}
theorem KTab.map (I:Inv X pins σ H s) (h:KTab X.prog X.w X.K a kvs):∃f:Key→Option Value,s.heap.MapOf (bw X.prog X.w) a f∧∀z,FH (g6 kvs z) (f (.inr z)):=by
 obtain⟨_,o,es,ep,h1,h2,h3,h4,h5⟩:=h
 exact⟨_,⟨o,es,ep,I.xE a o h1,h2,h3,h4,fun _=>rfl⟩,h5⟩
end
noncomputable def FI (kvs:List (Str×Int)) (g:GD):GD:=fun S=>(g S).bind fun p=>match p.1 with
 | .str z=>(g6 kvs z).map fun i=>(.int i,p.2)
 | _=>none
noncomputable def oZ (n:Bool) (kvs:List (Str×Int)) (g:GD):GD:=fun S=>(g S).bind fun p=>match p.1 with
 | .str z=>some (.bl (n != (g6 kvs z).isSome),p.2)
 | _=>none
section
variable {X:Cx}{e f:Expr}{x:Str}{px pos apos cpos:Pos}{ty tx:TE}{g gd:GD}{a:Addr}{kvs:List (Str×Int)}
theorem FJ (hg:Gl X x) (hm:X.mg x=some (.ref a)) (hk:KTab X.prog X.w X.K a kvs) (he:PE X e ty) (hs:CS e) (hd:(x == ("__debug__":Str))=false):
  PE X (.Subscript (.Name x px) e pos) (fun σ H Q=>ty σ H fun y H1=>∃z i,y= .str z∧g6 kvs z=some i∧Q (.int i) H1):=by
 intro pins s σ H Q I h
 refine xJ PySem.F.slot_dict_getitem.lookup hs (cP (nG (v:=.ref a) hg hm rfl hd pins s σ H (fun v H1=>v= .ref a∧H1=H) I ⟨rfl,rfl⟩) fun u s1 ⟨x',H1,I1,rx,ex,eH⟩=>?_)
 subst ex eH
 obtain rfl:u=Value.ref a:=rx
 refine cP (he pins s1 σ _ _ I1 h) fun iv s2 ⟨y,H2,I2,ry,z,i,ey,el,q⟩=>?_
 subst ey
 obtain⟨fm,m1,m2⟩:=hk.map I2
 have r:=m2 z
 rw[el] at r
 obtain⟨t,r⟩:=r
 exact⟨m1.typeIs,wpAny_getItem_of (k:=.inr z) (qF (k:=.inr z) ry) m1 r ⟨.int i,H2,I2.tok _,⟨t,rfl⟩,q⟩⟩
theorem uE (hg:Gl X x) (hm:X.mg x=some (.ref a)) (hk:KTab X.prog X.w X.K a kvs) (he:PE X e ty) (hd:(x == ("__debug__":Str))=false):
  PC X .NotIn e (.Name x px) (fun σ H Q=>ty σ H fun y H1=>∃z,y= .str z∧Q (.bl (!(g6 kvs z).isSome)) H1):=by
 intro pins s σ H Q I h
 refine cP (he pins s σ H _ I h) fun iv s1 ⟨y,H1,I1,ry,z,ey,q⟩=>cP (nG (v:=.ref a) hg hm rfl hd pins s1 σ H1 (fun v H2=>v= .ref a∧H2=H1) I1 ⟨rfl,rfl⟩) fun u s2 ⟨x',H2,I2,rx,ex,eH⟩=>?_
 subst ex eH ey
 obtain rfl:u=Value.ref a:=rx
 obtain⟨fm,m1,m2⟩:=hk.map I2
 refine wpAny_notIn_of (k:=.inr z) (qF (k:=.inr z) ry) hk.1 m1 ?_
 have r:=m2 z
 have e:(fm (.inr z)).isSome=(g6 kvs z).isSome:=by
  cases el:g6 kvs z with
  | none=>rw[el] at r;rw[show fm (.inr z)=none from r];rfl
  | some i=>rw[el] at r;obtain⟨t,r⟩:=r;rw[r];rfl
 rw[e]
 exact⟨.bl _,_,I2.tok _,rfl,q⟩
theorem FL (hg:Gl X x) (hm:X.mg x=some (.ref a)) (hk:KTab X.prog X.w X.K a kvs) (he:JD X e g) (hs:CS e:=by intro _ _;rfl) (hd:(x == ("__debug__":Str))=false:=by decide):JD X (.Subscript (.Name x px) e pos) (FI kvs g):=
 ⟨fun B=>(FJ hg hm hk (he.h B) hs hd).imp fun σ H Q ⟨S,F,d,S',R,hg',q⟩=>by
  obtain⟨⟨d1,S1⟩,h1,hg'⟩:=aa hg'
  cases d1 <;> try (cases hg')
  rename_i z
  obtain⟨i,h2,hg'⟩:=aj hg'
  cases hg'
  exact⟨S,F,.str z,_,R,h1,fun v F1 H1 R1 st1 r1=>by cases r1;exact⟨z,i,rfl,h2,q (.int i) F1 H1 R1 st1 (.int i)⟩⟩⟩
theorem zm {B:Base}{n:Bool}{σ:St}{H:Hp}{Q:VK}(h:tD X.K B (oZ n kvs g) σ H Q):tD X.K B g σ H fun y H1=>∃z,y= .str z∧Q (.bl (n != (g6 kvs z).isSome)) H1:=by
 obtain⟨S,F,d,S',R,hg',q⟩:=h
 obtain⟨⟨d1,S1⟩,h1,hg'⟩:=aa hg'
 cases d1 <;> try (cases hg')
 rename_i z
 exact⟨S,F,.str z,_,R,h1,fun v F1 H1 R1 st1 r1=>by cases r1;exact⟨z,rfl,q (.bl _) F1 H1 R1 st1 (.bl _)⟩⟩
theorem uF (hg:Gl X x) (hm:X.mg x=some (.ref a)) (hk:KTab X.prog X.w X.K a kvs) (he:JD X e g) (hd:(x == ("__debug__":Str))=false:=by decide) (hi:behindInMarks .NotIn (.Name x px)=false:=by with_unfolding_all rfl):JT X (.Compare e [.NotIn] [.Name x px] pos) (qB (oZ true kvs g)):=
 ⟨fun B=>(EA (uE hg hm hk (he.h B) hd) hi).imp fun σ H Q ⟨S,F,kk,S',R,hg',q⟩=>by
  have h:tD X.K B (oZ true kvs g) σ H (fun v H'=>∃d,v= .bl d∧Q d H'):=⟨S,F,.bl kk,S',R,kU hg',fun v F' H' R' st r=>⟨kk,lV r,q F' H' R' st⟩⟩
  simpa[tB] using zm h⟩
end
section
variable {X:Cx}{e:Expr}{x:Str}{px pos:Pos}{g:GD}{a:Addr}{zs:List Str}
end
end L2
end
section
set_option Elab.async false
set_option linter.all false
set_option maxRecDepth 100000
namespace L2
open PySem PySem.Spec PyProof.Rows
section
variable {X:Cx}{e f:Expr}{x:Str}{px pos apos cpos:Pos}{gk gd:GD}{ge:GE}
end
end L2
end
section
set_option Elab.async false
set_option linter.all false
set_option maxRecDepth 100000
namespace HT
open PySem PySem.Spec PyProof.Rows
section
variable {prog:Program}{w:World}{A:Around}{E:Value→Shared→Prop}{s:Shared}
end
end HT
namespace L2
open PySem PySem.Spec PyProof.Rows
section
variable {X:Cx}{e st:Expr}{te ts:TE}{pos p2:Pos}
noncomputable def BB (d:D):Option U:=match d with
 | .tup ds=>some (.t (.tup ds.reverse))
 | .lst ds=>some (.m (.lst ds.reverse))
 | _=>none
noncomputable def MH (g:GD) (gs:GD):GE:=fun S=>(g S).bind fun p=>(gs p.2).bind fun l=>match l.1 with
 | .int i=>if i=-1 then(BB p.1).map fun u=>(u,l.2) else none
 | _=>none
@[simp] theorem MI (g gs:GD) (S:SS):MH g gs S=(g S).bind fun p=>(gs p.2).bind fun l=>match l.1 with
 | .int i=>if i=-1 then(BB p.1).map fun u=>(u,l.2) else none
 | _=>none:=rfl
end
noncomputable def FN:List Int→Int
 | []=>0
 | [a]=>a
 | a :: b :: r=>max a (FN (b :: r))
noncomputable def FO:List Int→Int
 | []=>0
 | [a]=>a
 | a :: b :: r=>min a (FO (b :: r))
noncomputable def Jm:List D→Option U
 | [.lst ds]=>(uC ds).bind fun bs=>if bs=[] then none else some (.t (.int (FN bs)))
 | _=>none
noncomputable def Jo:List D→Option U
 | [.lst ds]=>(uC ds).bind fun bs=>if bs=[] then none else some (.t (.int (FO bs)))
 | _=>none
section
variable {X:Cx}
end
@[simp] theorem Ku (ds:List D):Jm [.lst ds]=(uC ds).bind fun bs=>if bs=[] then none else some (.t (.int (FN bs))):=rfl
@[simp] theorem Kv (ds:List D):Jo [.lst ds]=(uC ds).bind fun bs=>if bs=[] then none else some (.t (.int (FO bs))):=rfl
end L2
namespace HT
open PySem PySem.Spec PyProof.Rows
section
variable {prog:Program}{w:World}{A:Around}{E:Value→Shared→Prop}{s:Shared}
end
end HT
namespace L2
open PySem PySem.Spec PyProof.Rows
section
variable {X:Cx}{pos:Pos}
noncomputable def MJ (n:Nat) (bs:Ag):GB:=fun d S=>match d with
 | .lst ds=>if ds.length=n then bs ds S else none
 | _=>none
end
@[simp] theorem MK (n:Nat) (bs:Ag) (ds:List D) (S:SS):MJ n bs (.lst ds) S=if ds.length=n then bs ds S else none:=rfl
noncomputable def Jp:List D→Option U
 | [.bl a,.bl b]=>some (.t (.bl (a == b)))
 | _=>none
@[simp] theorem Kw (a b:Bool):Jp [.bl a,.bl b]=some (.t (.bl (a == b))):=rfl
end L2
end
section
set_option Elab.async false
set_option linter.all false
set_option maxRecDepth 100000
namespace L2
open PySem PySem.Spec PyProof.Rows PySem.Calls
noncomputable def Ek (h:Heap) (a:Addr) (ep:Nat) (t:SetTable):Prop:=∃o,h.get? a=some o∧o.ExactSet∧o.data= .set #[] ep t∧t.fits 0=true
theorem Ek.typeIs {s:Shared}{a:Addr}{ep:Nat}{t:SetTable}(h:Ek s.heap a ep t):s.TypeIs (.ref a) "set":=let⟨o,h1,h2,_⟩:=h;⟨o,h1,h2.1⟩
section
variable {prog:Program}{w:World}{A:Around}{E:Value→Shared→Prop}{s:Shared}{a I:Addr}{ep:Nat}{t:SetTable}
noncomputable def BC (h:Heap) (I a:Addr) (ep:Nat):Prop:=∃o,h.get? I=some o∧o.cls= .type "set_iterator"∧o.data= .fields #[.int 0 0,.int 0 0,.ref a,.int 0 0,.int ep 0]
theorem BC.typeIs (h:BC s.heap I a ep):s.TypeIs (.ref I) "set_iterator":=let⟨o,h1,h2,_⟩:=h;⟨o,h1,h2⟩
end
section
variable {X:Cx}{a:Expr}{pos p p1 p2:Pos}{ga:GD}
end
end L2
end
section
set_option Elab.async false
set_option linter.all false
set_option maxRecDepth 100000
namespace L2
open PySem PySem.Spec PyProof.Rows
section
variable {X:Cx}{x:Str}{p:Pos}{a:Addr}
end
noncomputable def Defs (X:Cx) (k n:Nat):List (Addr×FM)→Prop
 | []=>True
 | (a,f) :: r=>(PySem.W.keepIn X.K (.ref a)=true∧∃fd ps,Binds X.K fd ps []∧bB X.prog X.w X.K X.mg X.base gn k a fd ps (spT X.K n f))∧Defs X k n r
theorem Defs.get {X:Cx}{k n:Nat}{a:Addr}{p:Addr×FM}:∀{Cw:List (Addr×FM)},Defs X k n Cw→Cw.find? (fun p=>p.1 == a)=some p→p.1=a∧PySem.W.keepIn X.K (.ref a)=true∧∃fd ps,Binds X.K fd ps []∧bB X.prog X.w X.K X.mg X.base gn k a fd ps (spT X.K n p.2)
 | [],_,h=>by cases h
 | (b,f) :: r,h,e=>by
  rw[List.find?_cons] at e
  cases q:(b == a) with
  | true=>rw[q] at e;cases e;obtain rfl:=eq_of_beq q;exact⟨rfl,h.1.1,h.1.2⟩
  | false=>rw[q] at e;exact Defs.get h.2 e
section
variable {X:Cx}{e:Expr}{es:List Expr}{gu:GU}{x:Str}{p pos:Pos}{k n i:Nat}{t:TA}
end
end L2
end
section
set_option Elab.async false
set_option linter.all false
set_option maxRecDepth 100000
namespace L2
open PySem PySem.Spec PyProof.Rows
structure lC (X:Cx) (x y0:Str) (bW:List Str) (cap:List Nat) (scope:Scope) (cl:List (Str×Addr)):Prop where
 one:gW X x bW cap scope cl
 Jq:scope.names.lookup y0=some .local
 G7:(x :: y0 :: bW).Nodup
noncomputable def FP (K:PySem.W.Frag) (wi:TI) (cap:List Nat) (tc:TT) (te:TE):TE:=fun σ H Q=>wi σ H fun J H1=>∃W:Nat→Nat→List V→Hp→Prop,(∃m,W 0 m [] H1)∧∀i m ys H,W i m ys H→ys.length < sizeLine∧
  ((J.stop i H∧∀p,H p=none→Q (.ref p) (upd H p (.lst ys)))∨
   (J.go i H∧∀x H',J.G0 i H x H'→∃a x1 x2,x= .ref a∧p9 K H' a [x1,x2]∧tc (some x1 :: some x2 :: aU cap σ) H' fun b H2=>if b=true then te (some x1 :: some x2 :: aU cap σ) H2 fun y H3=>∃m',m' < m∧W (i+1) m' (ys++[y]) H3 else ∃m',m' < m∧W (i+1) m' ys H2))
theorem zo {X : Cx} {pins : List (Addr × Obj)} {σ : St} {H : Hp} {s s4 : Shared} {x y0 : Str} {bW : List Str} {cap : List Nat} {scope : Scope} {cl : List (Str × Addr)} {C : Addr} {fp : List Addr} {m' : Str → Option Value}
    (I:Inv X pins σ H s) (T2:lC X x y0 bW cap scope cl) (hfp:∀b∈fp,jg X pins H b) (hfo:∀b∈fp,∃o,s.heap.get? b=some o)
    (hC:s.heap.objs.size≤C) (hns:s4.heap.Ns C m') (hos:s4.os=s.os) (hg:s4.gens=s.gens)
    (kept:∀b o,s.heap.get? b=some o→s4.heap.get? b=some o):
    Inv (cj X (x :: y0 :: bW) scope cl C s H fp) [] (none :: none :: aU cap σ) H s4:=by
  have T:=T2.one
  have fr:∀b,s.heap.objs.size≤b→H b=none:=fun b hb=>I.hok.fresh hb
  refine⟨⟨I.ok.mod,T.kind,I.ok.glob,I.ok.blt,hC,fun y z c h1 h2=>I.ok.inj y z c (T.cells _ _ h1) (T.cells _ _ h2),fun y hy=>T.has y hy,fun y c h=>(by cases h),I.ok.hd,I.ok.frames,.inl rfl,fun b hb=>⟨?_,fun y c e z=>?_⟩,I.bs,Nat.le_trans I.ok.Ak I.sz,fun b o e hb=>?_,fun b hb z=>?_,I.stack,I.rK⟩,
    hos,by rw[hg];exact I.bare,Un.kept kept,⟨m',hns,fun i y v h1 h2 h3=>?_⟩,fun y c h=>?_,fr C hC,fun y c h=>I.jf y c (T.cells _ _ h),fun p hp=>?_,I.hok.kept kept,?_⟩
  · obtain⟨o,e⟩:=hfo b hb
    exact Nat.ne_of_lt (Nat.lt_of_lt_of_le (Heap.lt_size e) hC)
  · exact(hfp b hb).2.2.2.2.1 y c (T.cells _ _ e) z
  · rcases(hfp b hb).2.2.2.1 with z | z
    · exact I.ok.yF b o e z
    · exact absurd (Nat.lt_of_lt_of_le (Heap.lt_size e) (Nat.le_trans I.ok.Ak z)) (Nat.lt_irrefl _)
  · rcases List.mem_cons.mp (I.lO b z) with q | q
    · exact(hfp b hb).2.1 q
    · exact(hfp b hb).2.2.1 q
  · match i,h1,h2 with
    | 0,h1,h2=>cases h2
    | 1,h1,h2=>cases h2
    | j + 2, h1, h2 =>
      have h1:bW[j]? =some y:=by simpa[cj] using h1
      have h2:(aU cap σ)[j]? =some (some v):=by simpa using h2
      obtain⟨i,e1,e2,e3⟩:=T.slot j y h1
      have e4:σ[i]? =some (some v):=by
        unfold aU at h2
        rw[List.getElem?_map,e1] at h2
        have h2:some ((σ[i]?).join)=some (some v):=h2
        have h2:=Option.some.inj h2
        cases q:σ[i]? with
        | none=>rw[q] at h2;cases h2
        | some o=>rw[q] at h2;cases h2;rfl
      obtain⟨m,hn,hl⟩:=I.loc
      obtain⟨u,r,l⟩:=hl i y v e2 e4 e3
      obtain⟨k1,⟨c,hc⟩,k3⟩:=T.vis y (List.mem_of_getElem? h1)
      refine⟨u,r,.inr ⟨k1,c,hc,?_⟩⟩
      rcases l with⟨hk,_⟩ | ⟨hk,c',hc',z⟩
      · exact absurd hk k3
      · rw[T.cells _ _ hc] at hc'
        cases hc'
        obtain⟨o,ho,hd⟩:=z
        exact⟨o,kept _ _ ho,hd⟩
  · obtain⟨v,o,ho,hd⟩:=I.cell y c (T.cells _ _ h)
    exact⟨v,o,kept _ _ ho,hd⟩
  · exact absurd (show p∈([]:List (Addr×Obj)) from hp) (by simp)
  · show(none :: none :: aU cap σ).length=(x :: y0 :: bW).length
    simp[aU,T.len]
noncomputable def mz (P:Program) (w:World) (A:Around) (env:Env) (R:Result→Shared→Prop):Value→Shared→Prop:=notedBy (model P w) A env fun e s'=>R (.error e) s'
theorem sG {P:Program}{w:World}{A:Around}{R:Result→Shared→Prop}{s:Shared}{elt tg iter:Expr}{ifs:List Expr}{scope:Scope}{pos:Pos}{it acc:Value}{env:Env}(J:Nat→Shared→Prop)
    (turn : ∀ n s, J n s → wpAny (model P w) A (pyNext it) (fun r s1 => match r with
      | none=>R (.ok .next) s1
      | some v=>wpAny (model P w) A (letOwnedTupleGo tg it v) (fun _ s1=>wpAny (model P w) A (assign tg env v) (fun _ s2=>
          wpAny (model P w) A (forIn ifs true fun c r=>if r=true then do let ok ←isTrue c env (eval c env);pure (ForInStep.yield ok) else pure (ForInStep.yield r)) (fun ok s3=>
            if ok=true then wpAny (model P w) A (eval elt env) (fun x s4=>wpAny (model P w) A (call (.builtin "list.append") [acc,x]) (fun _ s5=>∃m,m < n∧J m s5) (mz P w A env R) s4) (mz P w A env R) s3
            else ∃m,m < n∧J m s3) (mz P w A env R) s2) (mz P w A env R) s1) (mz P w A env R) s1) (mz P w A env R) s)
    (n:Nat) (h:J n s):codeAny (model P w) A (.compLoop (.ListComp elt [⟨tg,iter,ifs,0⟩] scope pos) 0 it acc env) R s:=by
  refine codeAny_loop rfl J (fun n s hJ=>?_) n h
  show wpAny _ A ((compTurn (.ListComp elt [⟨tg,iter,ifs,0⟩] scope pos) 0 it acc env).onRaise (fun x=>do noteFrame x env;theTreesLotGoes x)) _ _ s
  refine wpAny_noted ?_
  rw[compTurn_list]
  refine wpAny_bind (wpAny_standAt (wpAny_bind (wpAny_mono (turn n s hJ) (fun r s1 k1=>?_) fun _ _ z=>z)))
  cases r with
  | none=>exact wpAny_pure k1
  | some v=>
    refine wpAny_bind (wpAny_mono k1 (fun _ s1 k1=>?_) fun _ _ z=>z)
    refine wpAny_bind (wpAny_mono k1 (fun _ s2 k2=>wpAny_bind (wpAny_mono k2 (fun ok s3 k3=>?_) fun _ _ z=>z)) fun _ _ z=>z)
    cases ok with
    | false=>exact wpAny_pure ⟨rfl,k3⟩
    | true=>exact wpAny_bind (wpAny_bind (wpAny_mono k3 (fun x s4 k4=>wpAny_bind (wpAny_mono k4 (fun _ s5 k5=>wpAny_pure (wpAny_pure ⟨rfl,k5⟩)) fun _ _ z=>z)) fun _ _ z=>z))
theorem uG {X:Cx}{elt iter:Expr}{ifs:List Expr}{x y0:Str}{px py pt pos:Pos}{k0:Nat}{scope:Scope}{cl:List (Str×Addr)}{bW:List Str}{cap:List Nat}{wi:TI}{tc:TT}{te:TE}{pins:List (Addr×Obj)}{s:Shared}{σ:St}{H:Hp}{Q:VK}{use:Option (Value→Sem Unit)}{Qf:Value→Shared→Prop}{pos2:Pos}
    (T2:lC X x y0 bW cap scope cl) (hc:X.calm=true) (hi:PI X (.Tuple [.Name x px,.Name y0 py] k0 pt) iter wi)
    (ht:∀C s H fp,D5 (cj X (x :: y0 :: bW) scope cl C s H fp) ifs tc) (he:∀C s H fp,PE (cj X (x :: y0 :: bW) scope cl C s H fp) elt te)
    (hs:∀x,foldedSetIterable iter X.env x=pure x) (I:Inv X pins σ H s) (h:FP X.K wi cap tc te σ H Q)
    (hend:∀(D C:Addr) (s7:Shared) (H6:Hp) (ys:List V),Inv X pins σ (upd H6 D (.lst ys)) s7→(∃m,s7.heap.Ns C m)→jg X pins (upd H6 D (.lst ys)) C→Q (.ref D) (upd H6 D (.lst ys))→compPost (model X.prog X.w) X.A X.xe use Qf (.ref D) C (.ok .next) s7):
    wpAny (model X.prog X.w) X.A (comprehension (.ListComp elt [⟨.Tuple [.Name x px,.Name y0 py] k0 pt,iter,ifs,0⟩] scope pos) scope X.env pos2 (newList []) false (eval iter X.env) use) Qf X.xe s:=by
  have T:=T2.one
  refine wpAny_comprehension_free (use:=use) rfl hs T.clos T.kind T.names (cP (hi pins s σ H _ I h) fun v s1 h1=>cP h1 fun itv s2 h2=>?_)
  obtain⟨it,fp,tn,J,H2,rfl,I2,qd,st2,f2,W,⟨m0,w0⟩,turn⟩:=h2
  refine wpAny_newObj_type (wpAny_newFunctionEnv T.nW (by intro y hy;simp at hy) (fun h4 rW nX=>?_) T.kind)
  dsimp only at rW nX ⊢
  generalize E5:s2.heap.push {cls:=.type "list",dict:=none,data:=.seq ([]:List Value).toArray}=H3 at rW nX ⊢
  have eC:H3.objs.size=s2.heap.objs.size+1:=by rw[←E5,Heap.size_push]
  generalize Qq:H3.objs.size=C at eC rW nX ⊢
  generalize eD:s2.heap.objs.size=D at eC ⊢
  have AY:C=D+1:=eC
  have hDC:D≠C:=by rw[AY];exact Nat.ne_of_lt (Nat.lt_succ_self D)
  have hC:s2.heap.objs.size≤C:=by rw[eD,AY];exact Nat.le_succ D
  have hD:s2.heap.objs.size≤D:=by rw[eD];exact Nat.le_refl D
  have kept:∀b o,s2.heap.get? b=some o→h4.get? b=some o:=fun b o e=>nX.extBut b o (Nat.ne_of_lt (Nat.lt_of_lt_of_le (Heap.lt_size e) hC)) (Heap.get?_push_of_some _ (E5▸Heap.get?_push_of_some _ e))
  have hacc:h4.get? D=some {cls:=.type "list",data:=.seq ([]:List Value).toArray ([]:List Value).length}:=nX.extBut _ _ hDC (Heap.get?_push_of_some _ (E5▸eD▸Heap.get?_push_size _ rfl))
  have Iz:∀b∈fp,∃o,s2.heap.get? b=some o:=fun b hb=>let⟨o,e,_⟩:=qd.obj _ _ st2 b hb;⟨o,e⟩
  have hDf:D∉fp:=fun hb=>by
    obtain⟨o,e⟩:=Iz D hb
    exact absurd (Nat.lt_of_lt_of_le (Heap.lt_size e) hD) (Nat.lt_irrefl _)
  have IA:tn 0 h4:=qd.keep _ _ _ st2 fun b _ o e=>kept b o e
  have key : ∀ s5 : Shared, s5 = { s2 with heap := h4, toks := s2.toks + ([] : List (Str × Value)).length } →
      codeAny (model X.prog X.w) X.A (.compLoop (.ListComp elt [⟨.Tuple [.Name x px,.Name y0 py] k0 pt,iter,ifs,0⟩] scope pos) 0 (.ref it) (.ref D) (compEnvC scope cl C X.env)) (compPost (model X.prog X.w) X.A X.xe use Qf (.ref D) C) s5:=by
    rintro s5 rfl
    have I4:Inv (cj X (x :: y0 :: bW) scope cl C s2 H2 fp) [] (none :: none :: aU cap σ) H2 {s2 with heap:=h4,toks:=s2.toks+([]:List (Str×Value)).length}:=
      zo (s4:={s2 with heap:=h4,toks:=s2.toks+([]:List (Str×Value)).length}) I2 T2 f2 Iz hC rW rfl rfl kept
    generalize hY:cj X (x :: y0 :: bW) scope cl C s2 H2 fp=Y at I4
    have fD:∀{H':Hp},H' D=none→jg Y [] H' D:=fun {H'} hn=>by
      subst hY
      refine⟨hn,hDC,fun z=>(List.mem_cons.mp (I2.lO D z)).elim (fun q=>absurd (Nat.lt_of_lt_of_le (q▸I2.lt) hD) (Nat.lt_irrefl _)) fun q=>I2.Ew hD q,.inr hD,fun y c e z=>?_,fun p hp=>absurd (show p∈([]:List (Addr×Obj)) from hp) (by simp)⟩
      obtain⟨v,q⟩:=I2.cell y c (T.cells _ _ e)
      exact absurd (Nat.lt_of_lt_of_le q.lt (by rw[z];exact hD)) (Nat.lt_irrefl _)
    have fF:∀{H':Hp},(∀b∈fp,H' b=none)→∀b∈fp,jg Y [] H' b:=fun {H'} hn b hb=>by
      have q:=I4.ok.Kf b (by subst hY;exact hb)
      exact⟨hn b hb,fun z=>q.1 z,I4.ok.yG b (by subst hY;exact hb),.inl (by subst hY;exact hb),fun y c e z=>q.2 y c e z,fun p hp=>absurd (show p∈([]:List (Addr×Obj)) from(by subst hY;exact hp)) (by simp)⟩
    have eA:Y.A=X.A:=by subst hY;rfl
    have eP:Y.prog=X.prog:=by subst hY;rfl
    have eW:Y.w=X.w:=by subst hY;rfl
    have eK:Y.K=X.K:=by subst hY;rfl
    have eE:Y.env=compEnvC scope cl C X.env:=by subst hY;rfl
    have eX:Y.xe=fun _ _=>False:=by subst hY;rfl
    have eN:Y.N=x :: y0 :: bW:=by subst hY;rfl
    have D6:Y.calm=true:=by subst hY;exact hc
    have LZ:D5 Y ifs tc:=by subst hY;exact ht _ _ _ _
    have L0:PE Y elt te:=by subst hY;exact he _ _ _ _
    have L1:PG Y (.Tuple [.Name x px,.Name y0 py] k0 pt) (HQ Y.K 2 (Aq (nO 0) (Aq (nO 1) HP))):=Ar D6 (nP (nH (by rw[eN];exact T2.G7) (by rw[eN];rfl) (by rw[eE];exact .inl (lookup_relabel_local T.loc)) (.inr (by rw[eE];exact lookup_relabel_local T.loc))) (nP (nH (by rw[eN];exact T2.G7) (by rw[eN];rfl) (by rw[eE];exact .inl (lookup_relabel_local T2.Jq)) (.inr (by rw[eE];exact lookup_relabel_local T2.Jq))) xG))
    have j7:∀(E':Value→Shared→Prop) (e:Value) (s':Shared),Y.xe e s'→E' e s':=fun E' e s' z=>by rw[eX] at z;exact z.elim
    refine sG (fun n s'=>∃i ys us H' o o',Inv Y [] (o :: o' :: aU cap σ) H' s'∧tn i s'.heap∧(∀b∈fp,H' b=none)∧H' D=none∧s'.heap.get? D=some {cls:=.type "list",data:=.seq us.toArray us.length}∧Vals ys us∧W i n ys H') ?_ m0
      ⟨0,[],[],H2,none,none,I4,IA,fun b hb=>(f2 b hb).1,I2.hok.fresh hD,hacc,.nil,w0⟩
    rintro n s6 ⟨i,ys,us,H6,o6,Ky,I6,E6,E7,d6,a6,v6,w6⟩
    have L3:us.length=ys.length:=v6.length.symm
    obtain⟨hz,AZ⟩:=turn i n ys H6 w6
    rcases AZ with⟨stop,qn⟩ | ⟨go,step⟩
    · have q := qd.done Y eP eW eK D6 i [] s6 (o6 :: Ky :: aU cap σ) H6 (notedBy (model X.prog X.w) X.A (compEnvC scope cl C X.env) fun e s' => compPost (model X.prog X.w) X.A X.xe use Qf (.ref D) C (.error e) s') I6 (fF E7) E6 stop
      rw[eA] at q
      have E8:=I6.pinned (fp:=[D]) (fun b hb=>by rw[List.mem_singleton.mp hb];exact fD d6) (fun b hb=>by rw[List.mem_singleton.mp hb];exact⟨_,a6,fun v z=>by cases z⟩)
      have q:=qd.done Y eP eW eK D6 i _ s6 (o6 :: Ky :: aU cap σ) H6 (notedBy (model X.prog X.w) X.A (compEnvC scope cl C X.env) fun e s'=>compPost (model X.prog X.w) X.A X.xe use Qf (.ref D) C (.error e) s') E8 (fun b hb=>?_) E6 stop
      · rw [eA] at q
        refine cP q fun r s7 ⟨hr,I7⟩=>?_
        subst hr
        have a7:s7.heap.get? D=_:=(I7.pin (D,{cls:=.type "list",data:=.seq us.toArray us.length}) (List.mem_append_right _ (List.mem_append_right _ (bR (List.mem_singleton.mpr rfl) a6)))).1
        obtain⟨m7,C6,_⟩:=I7.loc
        rw[eE] at C6
        have A0:H6 D=none:=d6
        have L4:H6 C=none:=by have:=I7.free;rw[eE] at this;exact this
        have E9:jL X.prog X.w H6 s7.heap:=by have q:=I7.hok;rw[eP,eW] at q;exact q
        have new:cO X.prog X.w (upd H6 D (.lst ys)) s7.heap D (.lst ys):=⟨Nat.le_of_lt hz,us,us.length,v6,a7⟩
        have u7:Un (frs X.stack) fp H2 H6 s2.heap s7.heap:=by have:=I7.base;subst hY;exact this
        have L5:∀b o,s2.heap.get? b=some o→b≠D:=fun b o e=>Nat.ne_of_lt (Nat.lt_of_lt_of_le (Heap.lt_size e) hD)
        have u8:Un (frs X.stack) fp H2 (upd H6 D (.lst ys)) s2.heap s7.heap:=
          ⟨u7.keep,u7.slot,fun b o e n hx=>by rw[aA (L5 b o e)];exact u7.free b o e n hx,u7.there,
           fun b xs e=>by have z:=u7.tups b xs e;rw[aA (aI z A0)];exact z,fun b o u e=>by have z:=u7.j6 b o u e;rw[aA (aI z A0)];exact z,
           fun b ps e=>by obtain⟨more,z⟩:=u7.kN b ps e;exact⟨more,by rw[aA (aI z A0)];exact z⟩⟩
        have L6:s7.os=s2.os:=by have:=I7.os;subst hY;exact this
        have I9:Inv X pins σ (upd H6 D (.lst ys)) s7:=I2.DS (ch:=fp) L6 u8 (E9.D4 A0 new) I7.bare fun b hb=>⟨(f2 b hb).2.2.2.1,(f2 b hb).2.1,(f2 b hb).2.2.2.2.1,(f2 b hb).2.2.2.2.2⟩
        exact hend D C s7 H6 ys I9 ⟨m7,C6⟩ (I2.vU hC (by rw[aA (Ne.symm hDC)];exact L4)) (qn D A0)
      · obtain⟨f0,f1,Fb,f3,f4,f5⟩:=fF E7 b hb
        refine⟨f0,f1,Fb,f3,f4,fun p hp z=>?_⟩
        rcases List.mem_append.mp hp with q' | q'
        · exact f5 p (List.mem_append_left _ q') z
        · rcases List.mem_append.mp q' with q' | q'
          · exact absurd q' (by simp)
          · have:=(iE q').1
            rw[List.mem_singleton.mp this] at z
            exact hDf (z▸hb)
    · have E8:=I6.pinned (fp:=[D]) (fun b hb=>by rw[List.mem_singleton.mp hb];exact fD d6) (fun b hb=>by rw[List.mem_singleton.mp hb];exact⟨_,a6,fun v z=>by cases z⟩)
      have IB:∀{H':Hp},(∀b∈fp,H' b=none)→∀b∈fp,jg Y ([]++g9 [D] s6.heap) H' b:=fun {H'} hn b hb=>by
        obtain⟨f0,f1,Fb,f3,f4,f5⟩:=fF hn b hb
        refine⟨f0,f1,Fb,f3,f4,fun p hp z=>?_⟩
        rcases List.mem_append.mp hp with q' | q'
        · exact f5 p (List.mem_append_left _ q') z
        · rcases List.mem_append.mp q' with q' | q'
          · exact absurd q' (by simp)
          · have:=(iE q').1
            rw[List.mem_singleton.mp this] at z
            exact hDf (z▸hb)
      have q:=qd.item Y eP eW eK D6 i _ s6 (o6 :: Ky :: aU cap σ) H6 (notedBy (model X.prog X.w) X.A (compEnvC scope cl C X.env) fun e s'=>compPost (model X.prog X.w) X.A X.xe use Qf (.ref D) C (.error e) s') E8 (IB E7) E6 go
      rw[eA] at q
      refine cP q fun r Ti ⟨u,hr,h7⟩=>?_
      subst hr
      refine cP h7 fun _ s7 ⟨xv,H8,I8,r8,y8,Fc,L7⟩=>?_
      have L8:=I8.pinned (IB L7) (qd.obj _ _ Fc)
      obtain⟨a8,x1,x2,e8,QW,stp⟩:=step xv _ y8
      have qa:=L1 _ s7 (o6 :: Ky :: aU cap σ) H8 xv u (fun σ' H'=>σ'=some x1 :: some x2 :: aU cap σ∧H'=H8) L8 r8 ⟨a8,[x1,x2],e8,by rw[eK];exact QW,rfl,x1,[x2],rfl,x2,[],rfl,rfl,rfl,rfl⟩
      rw[eP,eW,eA,eE] at qa
      refine wpAny_mono qa (fun _ s9 h9=>?_) (j7 _)
      obtain⟨Qs,H9,I9,e9,Ma⟩:=h9
      subst e9 Ma
      have qt:=LZ _ s9 _ _ _ I9 stp
      rw[eP,eW,eA,eE] at qt
      refine wpAny_mono qt (fun ok Mb h10=>?_) (j7 _)
      obtain⟨Mc,IC,C7⟩:=h10
      have back:∀{s':Shared}{H':Hp},Inv Y (([]++g9 [D] s6.heap)++g9 fp s7.heap) (some x1 :: some x2 :: aU cap σ) H' s'→Inv Y [] (some x1 :: some x2 :: aU cap σ) H' s'∧tn (i+1) s'.heap∧(∀b∈fp,H' b=none)∧H' D=none∧s'.heap.get? D=some {cls:=.type "list",data:=.seq us.toArray us.length}:=fun {s' H'} J=>by
        refine⟨J.gB.gB,qd.keep _ _ _ Fc fun b hb o e=>(J.pin (b,o) (List.mem_append_right _ (List.mem_append_right _ (bR hb e)))).1,fun b hb=>?_,?_,?_⟩
        · obtain⟨o,e,d⟩:=qd.obj _ _ Fc b hb
          exact(J.pin (b,o) (List.mem_append_right _ (List.mem_append_right _ (bR hb e)))).2.1
        · exact(J.pin (D,_) (List.mem_append_right _ (List.mem_append_left _ (List.mem_append_right _ (bR (List.mem_singleton.mpr rfl) a6))))).2.1
        · exact(J.pin (D,_) (List.mem_append_right _ (List.mem_append_left _ (List.mem_append_right _ (bR (List.mem_singleton.mpr rfl) a6))))).1
      cases ok with
      | false=>
        rw[if_neg (by decide)] at C7 ⊢
        obtain⟨m',hm,Me⟩:=C7
        obtain⟨b1,b2,b3,b4,b5⟩:=back IC
        exact⟨m',hm,i+1,ys,us,Mc,some x1,some x2,b1,b2,b3,b4,b5,v6,Me⟩
      | true=>
        rw[if_pos rfl] at C7 ⊢
        have qe:=L0 _ Mb _ _ _ IC C7
        rw[eP,eW,eA,eE] at qe
        refine wpAny_mono qe (fun y Fd h11=>?_) (j7 _)
        obtain⟨yv,ID,Mf,Mg,m',hm,Mh⟩:=h11
        obtain⟨b1,b2,b3,b4,b5⟩:=back Mf
        refine append_at (hsz:=by rw[List.size_toArray,L3];exact Nat.le_of_lt hz) b5 fun h12 Fe Ff=>?_
        have Ae:∀b o,b≠D→Fd.heap.get? b=some o→h12.get? b=some o:=fun b o hb e=>Fe.extBut b o hb e
        obtain⟨g0,g1,g2,g3,g4,g5⟩:=fD b4
        have Mi:Inv Y [] (some x1 :: some x2 :: aU cap σ) ID {Fd with heap:=h12}:=b1.turned (t':=Fd.toks) Ae g0 g1 g3 g4 g5
        refine⟨m',hm,i+1,ys++[yv],us++[y],ID,some x1,some x2,Mi,qd.keep _ _ _ b2 fun b hb o e=>Ae b o (fun z=>hDf (z▸hb)) e,b3,b4,Ff.trans (congrArg some (AV us y)),v6.append (.cons Mg .nil),Mh⟩
  exact codeAny_compStart_list (key _ rfl) (qd.self _ 0 _ _ _ IA (key _ rfl))
theorem zp {X:Cx}{elt iter:Expr}{ifs:List Expr}{x y0:Str}{px py pt pos:Pos}{k0:Nat}{scope:Scope}{cl:List (Str×Addr)}{bW:List Str}{cap:List Nat}{wi:TI}{tc:TT}{te:TE}
  (T2:lC X x y0 bW cap scope cl) (hc:X.calm=true) (hi:PI X (.Tuple [.Name x px,.Name y0 py] k0 pt) iter wi)
  (ht:∀C s H fp,D5 (cj X (x :: y0 :: bW) scope cl C s H fp) ifs tc) (he:∀C s H fp,PE (cj X (x :: y0 :: bW) scope cl C s H fp) elt te)
  (hs:∀x,foldedSetIterable iter X.env x=pure x:=by intro _;rfl):
  PE X (.ListComp elt [⟨.Tuple [.Name x px,.Name y0 py] k0 pt,iter,ifs,0⟩] scope pos) (FP X.K wi cap tc te):=by
 intro pins s σ H Q I h
 rw[eval_ListComp]
 refine uG T2 hc hi ht he hs I h ?_
 rintro p C s7 H6 ys I9 ⟨m7,C6⟩ ⟨g0,g1,g2,g3,g4,g5⟩ q
 exact⟨m7,C6,fun h' hs'=>⟨.ref p,_,I9.turned (t':=s7.toks) (fun b o hb e=>hs'.extBut b o hb e) g0 g1 g3 g4 g5,rfl,q⟩⟩
noncomputable def jw (cap:List Nat) (q:GT) (g:GD):List D→SS→List D→Option (List D×SS)
 | [],S,acc=>some (acc,S)
 | .tup [a,b] :: ds,S,acc=>(gq S cap).bind fun us=>
  if(slotsOf us).Nodup∧bL us≤1 then(bF S us).bind fun ws=>(q (some (.t a) :: some (.t b) :: ws.map some)).bind fun p=>
   if p.1 then(g p.2).bind fun r=>(aE (.t a :: .t b :: ws) r.2).bind fun outs=>(wb us outs S).bind fun S'=>jw cap q g ds S' (acc++[r.1])
   else(aE (.t a :: .t b :: ws) p.2).bind fun outs=>(wb us outs S).bind fun S'=>jw cap q g ds S' acc
  else none
 | _ :: _,_,_=>none
noncomputable def sH (cap:List Nat) (gi:GI) (q:GT) (g:GD):GE:=fun S=>(gi S).bind fun p=>if p.1.length≤100000 then(jw cap q g p.1 p.2 []).map fun r=>(.m (.lst r.1),r.2) else none
theorem BD {F:Hp}{xs:List V}{a b:D}(r:aG F xs [a,b]):∃x1 x2,xs=[x1,x2]∧Rep F x1 a∧Rep F x2 b:=by
 cases r with
 | cons r1 rr=>cases rr with
  | cons r2 QX=>cases QX;exact⟨_,_,rfl,r1,r2⟩
theorem zq {K : PySem.W.Frag} {B : Base} {cap : List Nat} {gi : GI} {q : GT} {g : GD} {σ : St} {H : Hp} {Q : VK} (h : tE K B (sH cap gi q g) σ H Q) : FP K (Mq K B gi) cap (fun σ H Q => ∃ B, tQ K B q σ H Q) (fun σ H Q => ∃ B, tD K B g σ H Q) σ H Q := by
  obtain⟨x,_⟩:∃x:Str,True:=⟨"",trivial⟩
  obtain⟨S,F,u,S',R,hg,k⟩:=h
  obtain⟨⟨ds,S1⟩,h1,hg⟩:=aa hg
  dsimp only at hg
  split at hg
  · rename_i hlen
    obtain⟨⟨res,Sf⟩,h2,hg⟩:=aj hg
    cases hg
    refine⟨S,F,ds,S1,R,h1,fun J F1 H1 R1 st1 w=>?_⟩
    refine⟨fun i m ys H'=>∃S2 F2 acc,Rel K B S2 σ F2 H'∧Step S S2 σ F H F2 H'∧(∀b o,F1 b=some o→F2 b=some o)∧aG F2 ys acc∧acc.length≤i∧i≤ds.length∧m=ds.length - i∧jw cap q g (ds.drop i) S2 acc=some (res,Sf),
      ⟨_,S1,F1,[],R1,st1,fun _ _ z=>z,.nil,Nat.le_refl _,Nat.zero_le _,rfl,h2⟩,?_⟩
    rintro i m ys H' ⟨S2,F2,acc,R2,st2,le,ry,ha,hl,rfl,bV⟩
    refine⟨by rw[ry.length];exact Nat.lt_of_le_of_lt (Nat.le_trans ha (Nat.le_trans hl hlen)) (by decide),?_⟩
    have w':=w F2 H' le R2.sub i
    by_cases hlt:i < ds.length
    · have hd:ds[i]? =some ds[i]:=List.getElem?_eq_getElem hlt
      obtain⟨go,yl⟩:=w'.1 _ hd
      rw[List.drop_eq_getElem_cons hlt] at bV
      refine .inr ⟨go,fun xv H3 y=>?_⟩
      obtain⟨rfl,rx⟩:=yl xv H3 y
      obtain⟨da,db,QY⟩:∃da db,ds[i]= .tup [da,db]:=by
        generalize ds[i]=dd at bV
        unfold jw at bV
        split at bV
        · rename_i z;cases z
        · rename_i z;injection z with z1 z2;exact⟨_,_,z1⟩
        · cases bV
      rw[QY] at bV rx
      obtain⟨pa,Tj,QZ,Tn,hpa,D9⟩:=R2.sub.gD rx
      obtain⟨x1,x2,exs,Q0,Q2⟩:=BD D9
      subst exs QZ
      obtain⟨us,e1,bV⟩:=aa (show(gq S2 cap).bind _=_ from bV)
      split at bV
      · rename_i hnd
        obtain⟨ws,e2,bV⟩:=aa bV
        obtain⟨⟨bk,T1⟩,e3,bV⟩:=aa bV
        obtain⟨vs,k1,k2⟩:=wC R2 e1
        have rr:Paired (fun v u=>fY K B S2 σ H3 F2 H3 v u) (x1 :: x2 :: vs) (.t da :: .t db :: us):=.cons Q0 (.cons Q2 k2)
        have er:=lq R2 da (lq R2 db e2)
        have ar:=kY R2 rr er
        have nd:=cA R2 rr er hnd.1 hnd.2
        have R3:=jR (n:=ws.length+2) R2.sub ar nd (List.replicate (ws.length+2) x) (by simp)
        have hvl:vs.length=ws.length:=by have:=ar.length;simpa using this
        have es:start (List.replicate (ws.length+2) x) (x1 :: x2 :: vs)=some x1 :: some x2 :: aU cap σ:=by
          unfold start;rw[k1];simp[hvl]
        have eS:(U.t da :: U.t db :: ws).map some++List.replicate (ws.length+2 - (U.t da :: U.t db :: ws).length) none=some (U.t da) :: some (U.t db) :: ws.map some:=by simp
        rw[es,eS] at R3
        have back:∀(T2:SS) (F3 H4:Hp) (outs:List MO) (S3:SS),Rel K ⟨lent (x1 :: x2 :: vs) (U.t da :: U.t db :: ws),F2,H3⟩ T2 (some x1 :: some x2 :: aU cap σ) F3 H4→aE (U.t da :: U.t db :: ws) T2=some outs→wb us outs S2=some S3→Rel K B S3 σ F3 H4∧Step S S3 σ F H F3 H4∧(∀b o,F2 b=some o→F3 b=some o):=fun T2 F3 H4 outs S3 RT ho hw=>by
          have po:=post_of ar T2 _ F3 H4 outs RT ho
          obtain⟨Ra,qR,_⟩:=gG (S0:=S2) (F0:=F2) (H0:=H3) R2 (Step.refl ..) rr er (show wb (U.t da :: U.t db :: us) outs S2=some S3 by cases outs <;> exact hw) hnd.1 po
          exact⟨Ra,st2.trans qR,qR.ext.le⟩
        refine⟨pa,x1,x2,rfl,.inl hpa,_,_,F2,bk,T1,R3,e3,fun F3 H4 Ec IV=>?_⟩
        cases bk with
        | true=>
          obtain⟨⟨yd,T2⟩,e4,bV⟩:=aa (show(g T1).bind _=_ from bV)
          obtain⟨outs,e5,bV⟩:=aa bV
          obtain⟨S3,e6,bV⟩:=aa bV
          refine yX ⟨_,T1,F3,yd,T2,Ec,e4,fun yv F4 H5 IW IX IY=>?_⟩
          obtain⟨Ra,qR,wF⟩:=back T2 F4 H5 outs S3 IW e5 e6
          refine⟨ds.length - (i+1),by omega,S3,F4,acc++[yd],Ra,qR,fun b o z=>wF b o (le b o z),(ry.le wF).append (.cons IY .nil),by simp;omega,hlt,rfl,bV⟩
        | false=>
          obtain⟨outs,e5,bV⟩:=aa (show(aE (U.t da :: U.t db :: ws) T1).bind _=_ from bV)
          obtain⟨S3,e6,bV⟩:=aa bV
          obtain⟨Ra,qR,wF⟩:=back T1 F3 H4 outs S3 Ec e5 e6
          exact yW ⟨ds.length - (i+1),by omega,S3,F3,acc,Ra,qR,fun b o z=>wF b o (le b o z),ry.le wF,by omega,hlt,rfl,bV⟩
      · cases bV
    · have e:i=ds.length:=by omega
      subst e
      rw[List.drop_length] at bV
      cases bV
      refine .inl ⟨w'.2 (Nat.le_refl _),fun p hp=>?_⟩
      have n:=d8.obj (F:=F2) hp (.lst ys)
      refine k (.ref p) F2 _ (R2.new n (R2.sub.same n.same)) (st2.trans n.step) ⟨p,rfl,none_of st2.ext.there hp,R2.sub.fresh hp,⟨ys,aF,ry⟩,fun m=>?_,none_of R2.ext.there hp⟩
      obtain⟨o,ho⟩:=R2.has m
      rw[hp] at ho
      cases ho
  · cases hg
theorem BE {X:Cx}{elt iter:Expr}{ifs:List Expr}{x y0:Str}{px py pt pos:Pos}{k0:Nat}{scope:Scope}{cl:List (Str×Addr)}{bW:List Str}{cap:List Nat}{gi:GI}{q:GT}{g:GD}(T:lC X x y0 bW cap scope cl) (hc:X.calm=true) (hi:JI X (.Tuple [.Name x px,.Name y0 py] k0 pt) iter gi)
  (ht:∀C s H fp,Kq (cj X (x :: y0 :: bW) scope cl C s H fp) ifs q) (he:∀C s H fp,JD (cj X (x :: y0 :: bW) scope cl C s H fp) elt g)
  (hs:∀x,foldedSetIterable iter X.env x=pure x:=by intro _;rfl):JE X (.ListComp elt [⟨.Tuple [.Name x px,.Name y0 py] k0 pt,iter,ifs,0⟩] scope pos) (sH cap gi q g):=⟨fun B=>
 (zp (tc:=fun σ H Q=>∃B,tQ X.K B q σ H Q) (te:=fun σ H Q=>∃B,tD X.K B g σ H Q) T hc (hi.h B) (fun C s H fp pins s' σ H' Q I ⟨B',z⟩=>(ht C s H fp).h B' pins s' σ H' Q I z) (fun C s H fp pins s' σ H' Q I ⟨B',z⟩=>(he C s H fp).h B' pins s' σ H' Q I z) hs).imp fun σ H Q h=>zq h⟩
end L2
end
section
set_option Elab.async false
set_option linter.all false
set_option maxRecDepth 100000
namespace L2
open PySem PySem.Spec PyProof.Rows PySem.Calls
section
variable {X:Cx}{o e:Expr}{m:Str}{apos cpos:Pos}{id:String}{go ge:GD}{f:List D→Option U}
theorem jx (hc:bZ X (.builtin id) (rP f)) (slot:Slot "str" m id) (ty:typeOf (.builtin id)=pure (.type "method_descriptor")) (hstr:∀d1 d2 u,f [d1,d2]=some u→∃z,d1= .str z) (ho:JD X o go) (he:JD X e ge)
  (hb:attributeBase o m X.env (eval o X.env)=eval o X.env:=by rfl)
  (hfew:((backTo cpos (starEach [e] X.env)).all (fun x=>!x.1) && (backToKw cpos (keywordEach [] X.env)).all (fun x=>x.1.isSome) && decide (([e]:List Expr).length+([]:List Keyword).length+(if([]:List Keyword).isEmpty then 0 else 1) < 30))=true:=by rfl)
  (hline:(apos.endLine == cpos.line)=true:=by rfl) (htr:backTo cpos (starEach [e] X.env)=[(false,eval e X.env)]:=by rfl):
  JE X (.Call (.Attribute o m apos) [e] [] cpos) (eP f (ah go (ah ge aq))):=⟨fun B=>by
 rintro pins s σ H Q I ⟨S,F,u,S',R,hg,q⟩
 obtain⟨⟨dl,S1⟩,h1,hg⟩:=aa hg
 obtain⟨w,hf,hg⟩:=aj hg
 cases hg
 obtain⟨⟨d1,Sa⟩,k1,h1⟩:=aa h1
 obtain⟨⟨dr,Sb⟩,kk,h1⟩:=aj h1
 cases h1
 obtain⟨⟨d2,Sc⟩,k2,h2⟩:=aa kk
 clear kk
 obtain⟨⟨dn,Sd⟩,k3,h2⟩:=aj h2
 cases k3
 cases h2
 obtain⟨z,rfl⟩:=hstr _ _ _ hf
 refine wpAny_Call_method hb hfew hline PySem.F.plainAttrs_str slot ty (cP (ho.h B pins s σ H (fun v H1=>∃F1,Rel X.K B Sa σ F1 H1∧Step S Sa σ F H F1 H1∧Rep F1 v (.str z)) I ⟨S,F,_,Sa,R,k1,fun v F1 H1 R1 st1 r1=>⟨F1,R1,st1,r1⟩⟩) ?_)
 rintro ov s1 ⟨x,H1,I1,rx,F1,R1,st1,r1⟩
 cases r1
 obtain⟨t,rfl⟩:∃t,ov= .str z t:=rx
 refine⟨typeIs_str _ _ _,(fun _ e=>nomatch e),?_⟩
 rw[htr]
 refine Calls.callWith_builtin rfl (Calls.evalArgs_plain (Calls.spliced_cons (cP (he.h B pins s1 σ H1 (fun v H2=>∃F2,Rel X.K B Sc σ F2 H2∧Step Sa Sc σ F1 H1 F2 H2∧Rep F2 v d2) I1 ⟨Sa,F1,d2,Sc,R1,k2,fun v F2 H2 R2 st2 r2=>⟨F2,R2,st2,r2⟩⟩) ?_)))
 rintro iv s2 ⟨y,H2,I2,ry,F2,R2,st2,r2⟩
 refine Calls.spliced_nil ?_
 exact hc pins s2 σ H2 [.str z,y] _ Q I2 (.cons ⟨t,rfl⟩ (.cons ry .nil)) ⟨F2,[.str z,d2],u,R2.sub,.cons (.str z) (.cons r2 .nil),hf,fun v F3 H3 n s3 r3=>q v F3 H3 (R2.new n s3) ((st1.trans st2).trans n.step) (r3.De R2 (st1.trans st2))⟩⟩
end
theorem qX:∀{zs:List Str}{its:List Value},Vals (zs.map V.str) its→∃l:List (Str×Tok),its=strValues l∧l.map (·.1)=zs
  | [],_,h=>by cases h;exact⟨[],rfl,rfl⟩
  | z :: zs, _, h => by
    cases h with
    | cons r rs=>
      obtain⟨t,rfl⟩:=r
      obtain⟨l,rfl,e⟩:=qX rs
      exact⟨(z,t) :: l,rfl,by rw[List.map_cons,e]⟩
theorem qY:∀(l:List (Str×Tok)),Vals ((l.map (·.1)).map V.str) (strValues l)
 | []=>.nil
 | p :: l=>.cons ⟨p.2,rfl⟩ (qY l)
theorem qZ (F:Hp):∀zs:List Str,aG F (zs.map V.str) (zs.map D.str)
 | []=>.nil
 | z :: zs=>.cons (.str z) (qZ F zs)
noncomputable def o7:List D→Option U
 | [.str sep,.lst ds]=>(lB ds).bind fun zs=>if JoinOk sep zs=true then some (.t (.str (Txt.join sep zs))) else none
 | _=>none
theorem uH {ds:List D}{u:U}(h:o7 ds=some u):∃sep l zs,ds=[.str sep,.lst l]∧lB l=some zs∧JoinOk sep zs=true∧u= .t (.str (Txt.join sep zs)):=by
 unfold o7 at h
 split at h
 ·obtain⟨zs,h1,h2⟩:=aa h
  obtain⟨h3,rfl⟩:=aL h2
  exact⟨_,_,zs,rfl,h1,h3,rfl⟩
 ·cases h
section
variable {X:Cx}
theorem o8 : bZ X (.builtin "str.join") (rP o7) := by
  intro pins s σ H xs us Q I r ⟨F,ds,w,sb,rs,hw,q⟩
  obtain⟨sep,l,zs,rfl,h1,h2,rfl⟩:=uH hw
  cases rs with
  | cons r1 rs=>
    cases rs with
    | cons r2 rs=>
      cases rs
      cases r1
      obtain⟨a,vs,rfl,fa,ha,lX⟩:=sb.gg r2
      obtain rfl:=oW lX h1
      obtain⟨t,u2,rfl,Q3⟩:∃t u2,us=[.str sep t,u2]∧RelV (.ref a) u2:=by
        cases r with
        | cons a1 r=>cases r with | cons a2 r=>cases r;obtain⟨t,rfl⟩:=a1;exact⟨t,_,rfl,a2⟩
      obtain rfl:u2= .ref a:=Q3
      obtain⟨its,rv,pl,hz⟩:=I.list (.inl ha)
      obtain⟨l',rfl,hl'⟩:=qX rv
      exact SC.join pl.isList hl' h2 fun t' k=>⟨.str _,H,I.tok _,⟨t',rfl⟩,q _ F H (d8.refl ..) sb (.str _)⟩
noncomputable def kj:List D→Option U
 | [.str x,.str y]=>if(y.length == 0)=false∧x.length≤100000∧(Txt.split x y).length≤100000 then some (.m (.lst ((Txt.split x y).map D.str))) else none
 | _=>none
theorem q8 {ds:List D}{u:U}(h:kj ds=some u):∃x y,ds=[.str x,.str y]∧(y.length == 0)=false∧x.length≤100000∧(Txt.split x y).length≤100000∧u= .m (.lst ((Txt.split x y).map D.str)):=by
 unfold kj at h
 split at h
 ·obtain⟨h3,rfl⟩:=aL h
  exact⟨_,_,rfl,h3.1,h3.2.1,h3.2.2,rfl⟩
 ·cases h
theorem uI {F:Hp}{xs:List V}{us:List Value}{x y:Str}(rs:aG F xs [.str x,.str y]) (r:Vals xs us):∃t u,us=[.str x t,.str y u]:=by
 cases rs with
 | cons r1 rs=>
  cases rs with
  | cons r2 rs=>
   cases rs
   cases r1
   cases r2
   cases r with
   | cons a1 r=>cases r with | cons a2 r=>cases r;obtain⟨t,rfl⟩:=a1;obtain⟨u,rfl⟩:=a2;exact⟨t,u,rfl⟩
theorem m5:bZ X (.builtin "str.split") (rP kj):=by
 intro pins s σ H xs us Q I r ⟨F,ds,w,sb,rs,hw,q⟩
 obtain⟨x,y,rfl,hy,hx,hn,rfl⟩:=q8 hw
 obtain⟨t,u,rfl⟩:=uI rs r
 have line:∀{n:Nat},n≤100000→n≤sizeLine:=fun h=>Nat.le_trans h (by decide)
 have fin:∀(l:List (Str×Tok)) (k:Nat),l.map (·.1)=Txt.split x y→EP X pins σ Q (.ref s.heap.objs.size) {s with toks:=k,heap:=s.heap.push {cls:=.type "list",data:=.seq (strValues l).toArray}}:=fun l k e=>by
  have hp:=I.hok.fresh (Nat.le_refl s.heap.objs.size)
  have hl:l.length=(Txt.split x y).length:=by rw[←e,List.length_map]
  refine⟨.ref s.heap.objs.size,_,I.laid (t':=k) (o:=.lst ((l.map (·.1)).map V.str)) (fun b ob q=>Heap.get?_push_of_some _ q) (Nat.le_refl _) ⟨by rw[List.length_map,List.length_map];exact line (by omega),strValues l,0,qY l,Heap.get?_push_size _ rfl⟩,rfl,?_⟩
  refine q _ F _ (d8.obj hp _) (sb.same (d8.obj (F:=F) hp _).same) ⟨_,rfl,hp,sb.fresh hp,_,aF,?_⟩
  rw[e]
  exact qZ F _
 cases c1:(decide (x.length < y.length) || decide (Builtin.Str.strKind x < Builtin.Str.strKind y)) with
 | true=>
  have e:Txt.split x y=[x]:=by unfold Txt.split;rw[if_pos c1]
  exact call_meets PySem.F.slot_str_split (typeIs_str _ _ _) PySem.F.entry_str_split (PySem.F.args_str_split_2 _ _) (meets_str_split_cannot_occur x y t u c1) (fin [(x,t)] s.toks e.symm)
 | false=>
  cases c2:(Builtin.Str.occurrences x y 0 x.length (x.length+1)).isEmpty with
  | true=>
   have e:Txt.split x y=[x]:=by unfold Txt.split;rw[if_neg (by rw[c1];decide),if_pos c2]
   exact call_meets PySem.F.slot_str_split (typeIs_str _ _ _) PySem.F.entry_str_split (PySem.F.args_str_split_2 _ _) (meets_str_split_not_found x y t u c1 hy c2) (fin [(x,t)] s.toks e.symm)
  | false=>
   have e:Txt.split x y=Builtin.Str.partsBetween x (Builtin.Str.occurrences x y 0 x.length (x.length+1)) y.length:=by unfold Txt.split;rw[if_neg (by rw[c1];decide),if_neg (by rw[c2];decide)]
   refine call_meets PySem.F.slot_str_split (typeIs_str _ _ _) PySem.F.entry_str_split (PySem.F.args_str_split_2 _ _) (meets_str_split_sep x y t u c1 hy c2 (line hx) (by rw[←e];exact line hn)) ?_
   rw[strsFrom_eq]
   exact fin (numbered s.toks _) _ ((numbered_texts _ _).trans e.symm)
noncomputable def q9:List D→Option U
 | [.str x,.str y]=>if(y.length == 0)=false∧x.length≤100000 then some (.t (.tup [.str (Txt.partition x y).1,.str (Txt.partition x y).2.1,.str (Txt.partition x y).2.2])) else none
 | _=>none
theorem uJ {ds:List D}{u:U}(h:q9 ds=some u):∃x y,ds=[.str x,.str y]∧(y.length == 0)=false∧x.length≤100000∧u= .t (.tup [.str (Txt.partition x y).1,.str (Txt.partition x y).2.1,.str (Txt.partition x y).2.2]):=by
 unfold q9 at h
 split at h
 ·obtain⟨h3,rfl⟩:=aL h
  exact⟨_,_,rfl,h3.1,h3.2,rfl⟩
 ·cases h
theorem wL:bZ X (.builtin "str.partition") (rP q9):=by
 intro pins s σ H xs us Q I r ⟨F,ds,w,sb,rs,hw,q⟩
 obtain⟨x,y,rfl,hy,hx,rfl⟩:=uJ hw
 obtain⟨t,u,rfl⟩:=uI rs r
 have hp:=I.hok.fresh (Nat.le_refl s.heap.objs.size)
 have fin:∀(a b c:Str) (ta tb tc:Tok) (k:Nat),Txt.partition x y=(a,b,c)→EP X pins σ Q (.ref s.heap.objs.size) {s with toks:=k,heap:=s.heap.push {cls:=.type "tuple",data:=.seq [.str a ta,.str b tb,.str c tc].toArray}}:=fun a b c ta tb tc k e=>by
  rw[e] at q
  exact⟨.ref s.heap.objs.size,_,I.laid (t':=k) (o:=.tup [.str a,.str b,.str c]) (fun b ob q=>Heap.get?_push_of_some _ q) (Nat.le_refl _) ⟨by show 3≤sizeLine;decide,[.str a ta,.str b tb,.str c tc],.cons ⟨ta,rfl⟩ (.cons ⟨tb,rfl⟩ (.cons ⟨tc,rfl⟩ .nil)),IsTup.new _ _⟩,rfl,
   q _ _ _ (d8.root sb hp _) (sb.nZ hp) (.tup aF (.cons (.str a) (.cons (.str b) (.cons (.str c) .nil))))⟩
 refine call_meets PySem.F.slot_str_partition (typeIs_str _ _ _) PySem.F.entry_str_partition (PySem.F.args_str_partition_2 _ _) (meets_str_partition x y t u hy (Nat.le_trans hx (by decide))) ?_
 cases c:Builtin.Str.occurrences x y 0 x.length 1 with
 | nil=>exact fin x Str.empty Str.empty t s.toks s.toks (s.toks+1) (by unfold Txt.partition;rw[c])
 | cons i r=>exact fin _ _ _ s.toks u (s.toks+1) (s.toks+1+1) (by unfold Txt.partition;rw[c])
noncomputable def rm:List D→Option U
 | [.int a]=>if a.natAbs < 10 ^ 30 then some (.t (.str (toString a))) else none
 | _=>none
theorem BF {ds:List D}{u:U}(h:rm ds=some u):∃a,ds=[.int a]∧a.natAbs < 10 ^ 30∧u= .t (.str (toString a)):=by
 unfold rm at h
 split at h
 ·obtain⟨h3,rfl⟩:=aL h
  exact⟨_,rfl,h3,rfl⟩
 ·cases h
theorem wM:bZ X (.type "str") (rP rm):=by
 intro pins s σ H xs us Q I r ⟨F,ds,w,sb,rs,hw,q⟩
 obtain⟨a,rfl,ha,rfl⟩:=BF hw
 obtain⟨t,rfl⟩:∃t,us=[.int a t]:=by
  cases rs with
  | cons r1 rs=>cases rs;cases r1;cases r with | cons a1 r=>cases r;obtain⟨t,rfl⟩:=a1;exact⟨t,rfl⟩
 have hl:a.natAbs.log2 < 1920:=by
  by_cases hz:a.natAbs=0
  ·rw[hz];decide
  ·exact(Nat.log2_lt hz).mpr (Nat.lt_trans ha (Nat.lt_of_lt_of_le (show(10:Nat) ^ 30 < 2 ^ 100 by decide) (Nat.pow_le_pow_right (by decide) (by decide))))
 exact P.str_of_int hl ⟨.str _,H,I.tok _,⟨_,rfl⟩,q _ F H (d8.refl ..) sb (.str _)⟩
end
theorem uK (d1 d2:D) (u:U) (h:o7 [d1,d2]=some u):∃z,d1= .str z:=by obtain⟨sep,l,zs,e,_⟩:=uH h;cases e;exact⟨_,rfl⟩
theorem rq (d1 d2:D) (u:U) (h:kj [d1,d2]=some u):∃z,d1= .str z:=by obtain⟨x,y,e,_⟩:=q8 h;cases e;exact⟨_,rfl⟩
theorem BG (d1 d2:D) (u:U) (h:q9 [d1,d2]=some u):∃z,d1= .str z:=by obtain⟨x,y,e,_⟩:=uJ h;cases e;exact⟨_,rfl⟩
noncomputable def Kz:GS:=fun _=>none
theorem BH {X:Cx}{st:Stmt}:JS X st Kz:=⟨fun B pins s σ H Q I ⟨_,_,_,_,hg,_⟩=>by cases hg⟩
end L2
end
section
set_option Elab.async false
set_option linter.all false
set_option maxRecDepth 100000
namespace L2
open PySem PySem.Spec PyProof.Rows
noncomputable def o9 (i:Nat) (q:GT) (g:GD):GE:=fun S=>match S[i]? with
 | some (some (.m (.lst ds)))=>if ds.length≤100000 then(gH [] q g ds S []).map fun r=>(.m (.lst r.1),r.2) else none
 | some (some (.b (.lst ds)))=>if ds.length≤100000 then(gH [] q g ds S []).map fun r=>(.m (.lst r.1),r.2) else none
 | _=>none
theorem uL {K : PySem.W.Frag} {B : Base} {i : Nat} {q : GT} {g : GD} {σ : St} {H : Hp} {Q : VK} {S Sf : SS} {F : Hp} {ds res : List D} {a : Addr} (R : Rel K B S σ F H) (hi : σ[i]? = some (some (.ref a))) (at' : ∀ F' H', Rel K B S σ F' H' → ∃ vs, H' a = some (.lst vs) ∧ aG F' vs ds) (hlen : ds.length ≤ 100000) (h2 : gH [] q g ds S [] = some (res, Sf))
    (k:∀v F' H',Rel K B Sf σ F' H'→Step S Sf σ F H F' H'→fY K B Sf σ H F' H' v (.m (.lst res))→Q v H'):Iw (Av K (Al i)) [] (fun σ H Q=>∃B,tQ K B q σ H Q) (fun σ H Q=>∃B,tD K B g σ H Q) σ H Q:=by
  obtain⟨x,_⟩:∃x:Str,True:=⟨"",trivial⟩
  obtain⟨Kn,ha0,_⟩:=at' F H R
  refine⟨.ref a,hi,a,rfl,⟨Kn,iO.of ha0⟩,?_⟩
  refine⟨fun j m ys H'=>∃F2 acc,Rel K B S σ F2 H'∧Step S S σ F H F2 H'∧aG F2 ys acc∧acc.length≤j∧j≤ds.length∧m=ds.length - j∧gH [] q g (ds.drop j) S acc=some (res,Sf),
    ⟨_,F,[],R,Step.refl ..,.nil,Nat.le_refl _,Nat.zero_le _,rfl,h2⟩,?_⟩
  rintro j m ys H' ⟨F2,acc,R2,st2,ry,hac,hl,rfl,bV⟩
  refine⟨by rw[ry.length];exact Nat.lt_of_le_of_lt (Nat.le_trans hac (Nat.le_trans hl hlen)) (by decide),?_⟩
  obtain⟨vs,ha,rs⟩:=at' F2 H' R2
  by_cases hlt:j < ds.length
  · have hd:ds[j]? =some ds[j]:=List.getElem?_eq_getElem hlt
    obtain⟨xv,hx,rx⟩:=rs.get hd
    rw[List.drop_eq_getElem_cons hlt] at bV
    refine .inr ⟨⟨vs,xv,iO.of ha,hx⟩,fun To H3 y=>?_⟩
    obtain⟨rfl,y2⟩:=y
    have e0:=y2 vs (iO.of ha)
    rw[hx] at e0
    cases e0
    obtain⟨us,e1,bV⟩:=aa bV
    cases e1
    split at bV
    · rename_i hnd
      obtain⟨ws,e2,bV⟩:=aa bV
      cases e2
      obtain⟨⟨bk,T1⟩,e3,bV⟩:=aa bV
      have rr:Paired (fun v u=>fY K B S σ H3 F2 H3 v u) [xv] [.t ds[j]]:=.cons rx .nil
      have er:=lq R2 ds[j] (us:=[]) (ws:=[]) rfl
      have ar:=kY R2 rr er
      have nd:=cA R2 rr er hnd.1 hnd.2
      have R3:=jR (n:=1) R2.sub ar nd (List.replicate 1 x) (by simp)
      have es:start (List.replicate 1 x) [xv]=some xv :: aU [] σ:=rfl
      have eS:[U.t ds[j]].map some++List.replicate (1 - [U.t ds[j]].length) none=[some (U.t ds[j])]:=by simp
      rw[es,eS] at R3
      have back:∀(T2:SS) (F3 H4:Hp) (outs:List MO) (S3:SS),Rel K ⟨lent [xv] [U.t ds[j]],F2,H3⟩ T2 (some xv :: aU [] σ) F3 H4→aE [U.t ds[j]] T2=some outs→wb [] outs S=some S3→S3=S∧Rel K B S3 σ F3 H4∧Step S S3 σ F H F3 H4∧(∀b o,F2 b=some o→F3 b=some o):=fun T2 F3 H4 outs S3 RT ho hw=>by
        have po:=post_of ar T2 _ F3 H4 outs RT ho
        obtain⟨Ra,qR,_⟩:=gG (S0:=S) (F0:=F2) (H0:=H3) R2 (Step.refl ..) rr er (show wb [U.t ds[j]] outs S=some S3 by cases outs <;> exact hw) hnd.1 po
        refine⟨?_,Ra,st2.trans qR,qR.ext.le⟩
        cases outs with
        | nil=>cases hw;rfl
        | cons _ _=>cases hw
      refine⟨_,_,F2,bk,T1,R3,e3,fun F3 H4 Ec IV=>?_⟩
      cases bk with
      | true=>
        obtain⟨⟨yd,T2⟩,e4,bV⟩:=aa (show(g T1).bind _=_ from bV)
        obtain⟨outs,e5,bV⟩:=aa bV
        obtain⟨S3,e6,FQ⟩:=aa bV
        refine yX ⟨_,T1,F3,yd,T2,Ec,e4,fun yv F4 H5 IW IX IY=>?_⟩
        obtain⟨rfl,Ra,qR,wF⟩:=back T2 F4 H5 outs S3 IW e5 e6
        exact⟨ds.length - (j+1),by omega,F4,acc++[yd],Ra,qR,(ry.le wF).append (.cons IY .nil),by simp;omega,hlt,rfl,FQ⟩
      | false=>
        obtain⟨outs,e5,bV⟩:=aa (show(aE [U.t ds[j]] T1).bind _=_ from bV)
        obtain⟨S3,e6,FQ⟩:=aa bV
        obtain⟨rfl,Ra,qR,wF⟩:=back T1 F3 H4 outs S3 Ec e5 e6
        exact yW ⟨ds.length - (j+1),by omega,F3,acc,Ra,qR,ry.le wF,by omega,hlt,rfl,FQ⟩
    · cases bV
  · have e:j=ds.length:=by omega
    subst e
    rw[List.drop_length] at bV
    cases bV
    refine .inl ⟨⟨vs,iO.of ha,by rw[rs.length];exact Nat.le_refl _⟩,fun p hp=>?_⟩
    have n:=d8.obj (F:=F2) hp (.lst ys)
    refine k (.ref p) F2 _ (R2.new n (R2.sub.same n.same)) (st2.trans n.step) ⟨p,rfl,none_of st2.ext.there hp,R2.sub.fresh hp,⟨ys,aF,ry⟩,fun m=>?_,none_of R2.ext.there hp⟩
    obtain⟨o,ho⟩:=R2.has m
    rw[hp] at ho
    cases ho
theorem zu {K : PySem.W.Frag} {B : Base} {i : Nat} {q : GT} {g : GD} {σ : St} {H : Hp} {Q : VK} (h : tE K B (o9 i q g) σ H Q) : Iw (Av K (Al i)) [] (fun σ H Q => ∃ B, tQ K B q σ H Q) (fun σ H Q => ∃ B, tD K B g σ H Q) σ H Q := by
  obtain⟨S,F,u,S',R,hg,k⟩:=h
  unfold o9 at hg
  split at hg
  · rename_i ds e
    split at hg
    · rename_i hlen
      obtain⟨⟨res,Sf⟩,h2,hg⟩:=aj hg
      cases hg
      obtain⟨v,e1,a,rfl,_⟩:=R.rep i _ e
      exact uL R e1 (fun F' H' R'=>by
        obtain⟨v',e2,a',rfl,_,r⟩:=R'.rep i _ e
        rw[e1] at e2
        cases e2
        exact r) hlen h2 k
    · cases hg
  · rename_i ds e
    split at hg
    · rename_i hlen
      obtain⟨⟨res,Sf⟩,h2,hg⟩:=aj hg
      cases hg
      obtain⟨v,e1,a,rfl,_⟩:=R.rep i _ e
      exact uL R e1 (fun F' H' R'=>by
        obtain⟨v',e2,a',rfl,_,r⟩:=R'.rep i _ e
        rw[e1] at e2
        cases e2
        exact r) hlen h2 k
    · cases hg
  · cases hg
theorem BI {X:Cx}{elt:Expr}{ifs:List Expr}{x y:Str}{px py pos:Pos}{scope:Scope}{cl:List (Str×Addr)}{q:GT}{g:GD}(i:Nat) (T:gW X x [] [] scope cl) (hc:X.calm=true)
  (ht:∀C s H fp,Kq (cj X [x] scope cl C s H fp) ifs q) (he:∀C s H fp,JD (cj X [x] scope cl C s H fp) elt g)
  (hN:X.N[i]? =some y:=by rfl) (hv:Aj X.env.scope y:=by first | exact Or.inl rfl | exact Or.inr (Or.inl rfl) | exact Or.inr (Or.inr rfl)) (hd:(y == ("__debug__":Str))=false:=by decide) (hcd:(y == ("__classdict__":Str))=false:=by decide)
  (hs:∀x,foldedSetIterable (.Name y py) X.env x=pure x:=by intro _;rfl):JE X (.ListComp elt [⟨.Name x px,.Name y py,ifs,0⟩] scope pos) (o9 i q g):=⟨fun B=>by
 exact(ue (tc:=fun σ H Q=>∃B,tQ X.K B q σ H Q) (te:=fun σ H Q=>∃B,tD X.K B g σ H Q) T hc (rM (fW hN hv hd hcd)) (fun C s H fp pins s' σ H' Q I ⟨B',z⟩=>(ht C s H fp).h B' pins s' σ H' Q I z) (fun C s H fp pins s' σ H' Q I ⟨B',z⟩=>(he C s H fp).h B' pins s' σ H' Q I z) hs).imp fun σ H Q h=>zu h⟩
end L2
end
section
set_option Elab.async false
set_option linter.all false
set_option maxRecDepth 100000
namespace L2
open PySem PySem.Spec PyProof.Rows
section
variable (S:SS) (d e:D) (o:MO) (i j:Nat) (g ga gb gc:GD) (ge:GE) (q q1 q2:GT) (gA:GA) (gu:GU) (a b:GS) (f f':List D→Option U) (fm:FM) (bd:GB) (gi:GI)
@[simp] theorem ML:aB i S=match S[i]? with | some (some (.t d))=>some (.t d,S) | some (some (.s d))=>some (.s d,S) | some (some (.f d))=>some (.f d,S) | some (some _)=>some (.v i,S) | _=>none:=rfl
@[simp] theorem Q4:eC d S=some (d,S):=rfl
@[simp] theorem MM:aq S=some ([],S):=rfl
@[simp] theorem KA:ah g gA S=(g S).bind fun p=>(gA p.2).map fun q=>(p.1 :: q.1,q.2):=rfl
@[simp] theorem Q5:eP f gA S=(gA S).bind fun p=>(f p.1).map fun u=>(u,p.2):=rfl
@[simp] theorem Q6:eF ge S=(ge S).bind fun p=>fz p.1 p.2:=rfl
@[simp] theorem Q7:eT g S=(g S).map fun p=>(.t p.1,p.2):=rfl
@[simp] theorem MN:fz (.t d) S=some (d,S):=rfl
@[simp] theorem MP (ds:List D):fz (.m (.lst ds)) S=some (.lst ds,S):=rfl
@[simp] theorem MQ:fz (.v i) S=match S[i]? with | some (some (.t d))=>some (d,S) | some (some (.m (.lst ds)))=>some (.lst ds,S.set i (some (.t (.lst ds)))) | _=>none:=rfl
@[simp] theorem Q8:qB g S=(g S).bind fun p=>match p.1 with | .bl k=>some (k,p.2) | _=>none:=rfl
@[simp] theorem MR:rX q S=(q S).map fun p=>(!p.1,p.2):=rfl
@[simp] theorem MS:wj q1 q2 S=(q1 S).bind fun p=>if p.1 then q2 p.2 else some (false,p.2):=rfl
@[simp] theorem PB:xT q1 q2 S=(q1 S).bind fun p=>if p.1 then some (true,p.2) else q2 p.2:=rfl
@[simp] theorem Q9:eQ q S=(q S).map fun p=>(.bl p.1,p.2):=rfl
@[simp] theorem KC:j3 S=some (true,S):=rfl
@[simp] theorem PD:Qu f f' ga gb gc S=(ga S).bind fun p=>(gb p.2).bind fun q=>match f [p.1,q.1] with
 | some (.t (.bl k))=>if k then(gc q.2).bind fun r=>match f' [q.1,r.1] with
   | some (.t (.bl k'))=>some (.bl k',r.2)
   | _=>none
  else some (.bl false,q.2)
 | _=>none:=rfl
@[simp] theorem PF (g1 g2:GE):Qt q g1 g2 S=(q S).bind fun p=>if p.1 then g1 p.2 else g2 p.2:=rfl
@[simp] theorem MT:iF S=some (.nx S):=rfl
@[simp] theorem sI:bq a b S=(a S).bind fun o=>match o with | .nx S1=>b S1 | o=>some o:=rfl
@[simp] theorem MU:cV i ge S=(ge S).bind fun p=>match p.1 with | .m o=>(jV i (.m o) p.2).map .nx | u=>(fz u p.2).bind fun q=>(jV i (.t q.1) q.2).map .nx:=rfl
@[simp] theorem ig (u:U):jV i u S=match S[i]? with | some (some (.b _))=>none | some _=>some (S.set i (some u)) | none=>none:=rfl
@[simp] theorem KD:xV ge S=(ge S).map fun p=>.nx p.2:=rfl
@[simp] theorem MV:dJ ge S=(ge S).bind fun p=>match p.1 with
 | .v i=>match p.2[i]? with
  | some (some (.t d))=>some (.rt (.t d) p.2)
  | some (some (.m o))=>some (.rt (.m o) (p.2.set i none))
  | _=>none
 | .s _=>none
 | .f _=>none
 | u=>some (.rt u p.2):=rfl
@[simp] theorem KG:IJ S=some (.rt (.t .bS) S):=rfl
@[simp] theorem PJ:qL q a b S=(q S).bind fun p=>if p.1 then a p.2 else b p.2:=rfl
@[simp] theorem MW:Fp bd g S=(g S).bind fun p=>(bd p.1 p.2).map .nx:=rfl
@[simp] theorem KH:bName i d S=jV i (.t d) S:=rfl
@[simp] theorem sJ:oz bd gi a S=(gi S).bind fun p=>loop bd a p.1 p.2:=rfl
@[simp] theorem MX:Di g S=(g S).bind fun p=>match p.1 with | .tup ds=>some (ds,p.2) | .lst ds=>some (ds,p.2) | _=>none:=rfl
@[simp] theorem KI:ow gA S=(gA S).bind fun p=>match p.1 with | [.int j]=>if j < 1000000∧-1000000 < j then some (tM 0 j.toNat,p.2) else none | _=>none:=rfl
@[simp] theorem KJ:IL gA S=(gA S).bind fun p=>match p.1 with | [.int i,.int j]=>if i < 1000000∧-1000000 < i∧j < 1000000∧-1000000 < j then some (tM i (j - i).toNat,p.2) else none | _=>none:=rfl
@[simp] theorem FT:loop bd a [] S=some (.nx S):=rfl
@[simp] theorem MY:cQ S=some ([],S):=rfl
@[simp] theorem MZ:cu g gu S=(g S).bind fun p=>(gu p.2).map fun q=>(.t p.1 :: q.1,q.2):=rfl
@[simp] theorem M0:jW ge gu S=(ge S).bind fun p=>(gu p.2).map fun q=>(p.1 :: q.1,q.2):=rfl
@[simp] theorem KL:bA fm gu S=(gu S).bind fun p=>if(slotsOf p.1).Nodup∧bL p.1≤1 then(bF p.2 p.1).bind fun us=>(fm us).bind fun r=>(wb p.1 r.2 p.2).map fun S2=>(r.1,S2) else none:=rfl
@[simp] theorem Hi:bF S []=some []:=rfl
@[simp] theorem FU (u:U) (us:List U):bF S (u :: us)=(resolve S u).bind fun w=>(bF S us).map fun ws=>w :: ws:=rfl
@[simp] theorem KN:resolve S (.t d)=some (.t d):=rfl
@[simp] theorem KO:resolve S (.m o)=some (.b o):=rfl
@[simp] theorem KP (ns:List Int):resolve S (.s ns)=some (.s ns):=rfl
@[simp] theorem KQ:resolve S (.v i)=match S[i]? with | some (some (.m o))=>some (.b o) | some (some (.b o))=>some (.b o) | _=>none:=rfl
@[simp] theorem Jr:slotsOf []=[]:=rfl
@[simp] theorem M1 (us:List U):slotsOf (.t d :: us)=slotsOf us:=rfl
@[simp] theorem M3 (us:List U):slotsOf (.m o :: us)=slotsOf us:=rfl
@[simp] theorem M4 (ns:List Int) (us:List U):slotsOf (.s ns :: us)=slotsOf us:=rfl
@[simp] theorem M5 (us:List U):slotsOf (.v i :: us)=i :: slotsOf us:=rfl
@[simp] theorem Js:bL []=0:=rfl
@[simp] theorem M6 (us:List U):bL (.t d :: us)=bL us:=rfl
@[simp] theorem M7 (us:List U):bL (.m o :: us)=bL us+1:=rfl
@[simp] theorem M8 (ns:List Int) (us:List U):bL (.s ns :: us)=bL us:=rfl
@[simp] theorem M9 (us:List U):bL (.v i :: us)=bL us:=rfl
@[simp] theorem Jt:wb [] [] S=some S:=rfl
@[simp] theorem Na (us:List U) (os:List MO):wb (.t d :: us) os S=wb us os S:=by cases os <;> rfl
@[simp] theorem Nb (ns:List Int) (us:List U) (os:List MO):wb (.s ns :: us) os S=wb us os S:=by cases os <;> rfl
@[simp] theorem Nc (us:List U) (os:List MO):wb (.m o :: us) (o' :: os) S=wb us os S:=rfl
@[simp] theorem Nd (us:List U) (os:List MO):wb (.v i :: us) (o :: os) S=match S[i]? with | some (some (.m _))=>wb us os (S.set i (some (.m o))) | some (some (.b _))=>wb us os (S.set i (some (.b o))) | _=>none:=rfl
@[simp] theorem Nf:dN i gb S=match S[i]? with | some (some _)=>(gb S).bind fun p=>(match p.2[i]? with | some (some u)=>(lA u p.1).map fun d=>(d,p.2) | _=>none) | _=>none:=rfl
@[simp] theorem Ng:mq i S=match S[i]? with | some (some u)=>(oK u).map fun n=>(.int (n:Nat),S) | _=>none:=rfl
@[simp] theorem Rb (h:List D→MO→Option (D×MO)):eM i h gA S=if IS S i then(gA S).bind fun p=>wB p.2 i (h p.1) else none:=rfl
@[simp] theorem Nh (gk gv:GD):Dq i gk gv S=(gv S).bind fun p=>match p.2[i]? with | some (some _)=>(gk p.2).bind fun r=>(wB r.2 i fun o=>(oM o r.1 p.1).map fun o'=>(.bS,o')).map fun z=>.nx z.2 | _=>none:=rfl
@[simp] theorem PK (Ts:List String):Ef Ts g S=(g S).bind fun p=>(gZ Ts p.1).map fun b=>(.bl b,p.2):=rfl
@[simp] theorem FW (ds:List D) (k:Int):lA (.t (.tup ds)) (.int k)=gC ds k:=rfl
@[simp] theorem FY (ds:List D) (k:Int):lA (.t (.lst ds)) (.int k)=gC ds k:=rfl
@[simp] theorem FZ (ds:List D) (k:Int):lA (.m (.lst ds)) (.int k)=gC ds k:=rfl
@[simp] theorem Ga (ds:List D) (k:Int):lA (.b (.lst ds)) (.int k)=gC ds k:=rfl
@[simp] theorem Gb (kvs:List (Key×D)) (k:D):lA (.b (.dct kvs)) k=(keyOf k).bind (gj kvs):=by cases k <;> rfl
@[simp] theorem Hj (ns:List Int) (k:Int):lA (.s ns) (.int k)=(gC ns k).map D.int:=rfl
@[simp] theorem KR (k:Int):keyOf (.int k)=some (.inl k):=rfl
@[simp] theorem KS (k:Str):keyOf (.str k)=some (.inr k):=rfl
@[simp] theorem Hl (ds:List D):oK (.t (.tup ds))=some ds.length:=rfl
@[simp] theorem Ho (ds:List D):oK (.t (.lst ds))=some ds.length:=rfl
@[simp] theorem Hq (ds:List D):oK (.m (.lst ds))=some ds.length:=rfl
@[simp] theorem Hr (ds:List D):oK (.b (.lst ds))=some ds.length:=rfl
@[simp] theorem Ju (ns:List Int):oK (.s ns)=some ns.length:=rfl
@[simp] theorem PL (C:Int→Int→Bool) (h:Int→Int→D) (x y:Int):Af C h [.int x,.int y]=if C x y then some (.t (h x y)) else none:=rfl
@[simp] theorem Jv (x y:Int):eO [.int x,.int y]=some (.t (.int (x+y))):=rfl
@[simp] theorem Jw (x y:Str):eO [.str x,.str y]=if x.length+y.length≤100000 then some (.t (.str (x++y))) else none:=rfl
@[simp] theorem Jx (x y:List D):eO [.tup x,.tup y]=if x.length+y.length≤100000 then some (.t (.tup (x++y))) else none:=rfl
@[simp] theorem Jy (x y:List D):eO [.lst x,.lst y]=if x.length+y.length≤100000 then some (.m (.lst (x++y))) else none:=rfl
@[simp] theorem Ni (x y:Int):wu [.int x,.int y]=if((decide (-(2 ^ 64) < x) && decide (x < 2 ^ 64)) || (decide (-(2 ^ 64) < y) && decide (y < 2 ^ 64))) then some (.t (.int (x * y))) else none:=rfl
@[simp] theorem Nj (x:Int):Mn [.int x]=some (.t (.int (-x))):=rfl
@[simp] theorem Nk (ds:List D):lT ds=if ds.length≤100000 then some (.t (.tup ds)) else none:=rfl
@[simp] theorem Nl (ds:List D):nC ds=if ds.length≤100000 then some (.m (.lst ds)) else none:=rfl
@[simp] theorem KU (ds:List D) (k:Int):CA [.tup ds,.int k]=(gC ds k).map .t:=rfl
@[simp] theorem KW (ds:List D) (k:Int):CA [.lst ds,.int k]=(gC ds k).map .t:=rfl
@[simp] theorem El:Dl [d,e]=if fK d≤40 then some (.t (.bl (iD d e))) else none:=rfl
@[simp] theorem Em:Bl [d,e]=if fK d≤40 then some (.t (.bl (!iD d e))) else none:=rfl
@[simp] theorem KY (x y z:Int):xZ [.int x,.int y,.int z]=some (.t (.int (if y < x then(if z < y then z else y) else if z < x then z else x))):=rfl
@[simp] theorem KZ (x y:Int):x9 [.int x,.int y]=some (.t (.int (if y > x then y else x))):=rfl
@[simp] theorem Jz (ds:List D):uq [.tup ds]=some (.t (.int ds.length)):=rfl
@[simp] theorem JC (ds:List D):uq [.lst ds]=some (.t (.int ds.length)):=rfl
@[simp] theorem Hs (ds:List D):oH [.tup ds]=some (.m (.lst ds)):=rfl
@[simp] theorem Ht (ds:List D):oH [.lst ds]=some (.m (.lst ds)):=rfl
@[simp] theorem Gd (ds:List D):jv [.tup ds]=some (.t (.tup ds)):=rfl
@[simp] theorem Ge (ds:List D):jv [.lst ds]=some (.t (.tup ds)):=rfl
@[simp] theorem Nm (ds:List D):Dn [.lst ds]=(fZ ds).map fun bs=>.t (.bl (bs.all id)):=rfl
@[simp] theorem Nn (ds:List D):Dp [.lst ds]=(fZ ds).map fun bs=>.t (.bl (bs.any id)):=rfl
@[simp] theorem yp:iK [d]=if yf d then some (.t (.str (toPy d).shown)) else none:=rfl
@[simp] theorem K0 (x y:Int):iD (.int x) (.int y)=(x == y):=by simp[iD]
@[simp] theorem K1 (x:Str):fK (.str x)=0:=by simp[fK]
@[simp] theorem K2 (x:Int):fK (.int x)=0:=by simp[fK]
@[simp] theorem Np (h:MO→Option (D×MO)):wB S i h=match S[i]? with | some (some (.m o))=>(h o).map fun r=>(r.1,S.set i (some (.m r.2))) | some (some (.b o))=>(h o).map fun r=>(r.1,S.set i (some (.b r.2))) | _=>none:=rfl
@[simp] theorem PM:IS S i=match S[i]? with | some (some (.m (.lst _)))=>true | some (some (.b (.lst _)))=>true | _=>false:=rfl
@[simp] theorem Hu (kvs:List (Key×D)) (k:D):oM (.dct kvs) k d=(keyOf k).bind fun kk=>if kvs.length < 100000 then some (.dct (putD kvs kk d)) else none:=rfl
@[simp] theorem Hv (ds:List D) (k:Int):oM (.lst ds) (.int k) d=(Cz ds.length k).map fun j=>.lst (ds.set j d):=rfl
@[simp] theorem JF (ds:List D):hAppend [d] (.lst ds)=if ds.length < 100000 then some (.bS,.lst (ds++[d])) else none:=rfl
@[simp] theorem Hw:aE [] S=some []:=by cases S <;> rfl
@[simp] theorem K3 (us:List U) (o2:MO):aE (.b o2 :: us) (some (.b o) :: S)=(aE us S).map fun os=>o :: os:=rfl
@[simp] theorem yq (us:List U) (x:Option U):aE (.t d :: us) (x :: S)=aE us S:=by cases x <;> rfl
@[simp] theorem K4 (ns:List Int) (us:List U) (x:Option U):aE (.s ns :: us) (x :: S)=aE us S:=by cases x <;> rfl
end
structure cB where
 c:Int
 l:Int
 n:Int
noncomputable def aN (t:cB):List (Key×D):=[(.inr "cell",.int t.c),(.inr "left",.int t.l),(.inr "turn",.int t.n)]
noncomputable def kq:List (Key×D)→Option cB
 | [(k1,.int c),(k2,.int l),(k3,.int n)]=>if k1= .inr "cell"∧k2= .inr "left"∧k3= .inr "turn" then some ⟨c,l,n⟩ else none
 | _=>none
@[simp] theorem Gf (t:cB):kq (aN t)=some t:=by simp[kq,aN]
theorem jy {kvs:List (Key×D)}{t:cB}(h:kq kvs=some t):kvs=aN t:=by
 unfold kq at h
 split at h
 ·obtain⟨⟨rfl,rfl,rfl⟩,rfl⟩:=aL h
  rfl
 ·cases h
@[simp] theorem Nq (t:cB):gj (aN t) (.inr "cell")=some (.int t.c):=by rfl
@[simp] theorem Nr (t:cB):gj (aN t) (.inr "left")=some (.int t.l):=by rfl
@[simp] theorem Nt (t:cB):gj (aN t) (.inr "turn")=some (.int t.n):=by rfl
@[simp] theorem K5 (t:cB) (x:Int):putD (aN t) (.inr "turn") (.int x)=aN {t with n:=x}:=by rfl
@[simp] theorem K6 (t:cB) (x:Int):putD (aN t) (.inr "left") (.int x)=aN {t with l:=x}:=by rfl
@[simp] theorem JH (t:cB):(aN t).length=3:=rfl
noncomputable def mixed (c n:Int):Int:=(((c % 2147483647+31 * (n+1) * (n+1)+1) * 48271) % 2147483629+7 * (n+1)) * 69621 % 2147483587 / 7
noncomputable def aH (t:cB) (m:Int):Int:=if 0 < t.l then t.l % m else mixed t.c t.n % m
noncomputable def aV (t:cB) (m:Int):cB:=if 0 < t.l then⟨t.c,t.l / m,t.n+1⟩ else⟨t.c,t.l,t.n+1⟩
noncomputable def d9:FM
 | [.b (.dct kvs),.t (.int m)]=>(kq kvs).bind fun t=>if 0 < m∧m < 1000000∧0≤t.n∧t.n < 1000000 then some (.t (.int (aH t m)),[.dct (aN (aV t m))]) else none
 | _=>none
noncomputable def fL:GS:=
 (bq (cV 2 (eP eO (ah (dN 0 (eC (.str "turn"))) (ah (eC (.int 1)) aq))))
 (bq (Dq 0 (eC (.str "turn")) (eF (aB 2)))
 (bq (qL (qB (eF (eP IG (ah (dN 0 (eC (.str "left"))) (ah (eC (.int 0)) aq))))) (bq (cV 3 (eP wm (ah (dN 0 (eC (.str "left"))) (ah (eF (aB 1)) aq))))
 (bq (Dq 0 (eC (.str "left")) (eF (eP Df (ah (dN 0 (eC (.str "left"))) (ah (eF (aB 1)) aq)))))
 (dJ (aB 3)))) iF)
 (bq (cV 4 (eP wu (ah (eF (eP eO (ah (eF (eP eO (ah (eF (eP wm (ah (dN 0 (eC (.str "cell"))) (ah (eC (.int 2147483647)) aq)))) (ah (eF (eP wu (ah (eF (eP wu (ah (eC (.int 31)) (ah (eF (aB 2)) aq)))) (ah (eF (aB 2)) aq)))) aq)))) (ah (eC (.int 1)) aq)))) (ah (eC (.int 48271)) aq))))
 (bq (cV 4 (eP wu (ah (eF (eP eO (ah (eF (eP wm (ah (eF (aB 4)) (ah (eC (.int 2147483629)) aq)))) (ah (eF (eP wu (ah (eC (.int 7)) (ah (eF (aB 2)) aq)))) aq)))) (ah (eC (.int 69621)) aq))))
 (dJ (eP wm (ah (eF (eP Df (ah (eF (eP wm (ah (eF (aB 4)) (ah (eC (.int 2147483587)) aq)))) (ah (eC (.int 7)) aq)))) (ah (eF (aB 1)) aq)))))))))
theorem pick_run:∀us r,d9 us=some r→aT 5 fL us=some r:=by
 intro us r h
 unfold d9 at h
 split at h
 ·rename_i kvs m
  obtain⟨t,h1,h⟩:=aa h
  obtain⟨⟨h2,h3,h4,h5⟩,rfl⟩:=aL h
  obtain rfl:=jy h1
  have e1:-18446744073709551616 < t.n+1:=by omega
  have e2:t.n+1 < 18446744073709551616:=by omega
  have e3:m < 1073741824:=by omega
  by_cases hl:0 < t.l
  ·simp[aT,fL,aH,aV,hl,h2,e3]
  ·simp[aT,fL,aH,aV,hl,h2,e3,mixed,e1,e2]
 ·cases h
end L2
end
section
set_option Elab.async false
set_option linter.all false
set_option maxRecDepth 100000
namespace L2
open PySem PySem.Spec PyProof.Rows
noncomputable def iU:GS:=
 (bq (qL (xT (rX (qB (Ef ["int"] (eF (aB 0))))) (qB (Ef ["bool"] (eF (aB 0))))) (dJ (eT (eC (.bl false)))) iF)
 (dJ (eT (eQ (wj (qB (eF (eP IF (ah (eF (aB 1)) (ah (eF (aB 0)) aq))))) (qB (eF (eP IF (ah (eF (aB 0)) (ah (eF (aB 2)) aq))))))))))
noncomputable def mC:FM
 | [.t d,.t (.int l),.t (.int m)]=>some (.t (.bl (eL d l m)),[])
 | _=>none
theorem whole_run:∀us r,mC us=some r→aT 3 iU us=some r:=by
 intro us r h
 unfold mC at h
 split at h
 ·rename_i d l m
  cases h
  cases d <;> simp[aT,iU,eL,gZ,lZ,wg,A3]
  rename_i x
  by_cases h1:l≤x <;> simp[h1]
 ·cases h
noncomputable def iV:GS:=
 (dJ (eT (eQ (wj (qB (Ef ["tuple"] (eF (aB 0)))) (wj (qB (eF (eP IF (ah (eF (aB 1)) (ah (mq 0) aq))))) (qB (eF (eP IF (ah (mq 0) (ah (eF (aB 2)) aq))))))))))
noncomputable def mD:FM
 | [.t d,.t (.int l),.t (.int m)]=>some (.t (.bl (nY d l m)),[])
 | _=>none
theorem zw:∀us r,mD us=some r→aT 3 iV us=some r:=by
 intro us r h
 unfold mD at h
 split at h
 ·rename_i d l m
  cases h
  cases d <;> simp[aT,iV,nY,gZ,lZ,we]
  rename_i x
  by_cases h1:l≤(x.length:Int) <;> simp[h1]
 ·cases h
noncomputable def gr:GS:=
 (dJ (eP nC (ah (eC (.str "a")) (ah (eC (.str "ab")) (ah (eC (.str "abc")) (ah (eC (.str "b")) (ah (eC (.str "any")) (ah (eC (.str "name")) (ah (eC (.str "x")) (ah (eC (.str "zzzzzzzz")) aq))))))))))
noncomputable def bX:List Str:=["a","ab","abc","b","any","name","x","zzzzzzzz"]
noncomputable def ir:FM
 | []=>some (.m (.lst (bX.map D.str)),[])
 | _=>none
theorem zx:∀us r,ir us=some r→aT 0 gr us=some r:=by
 intro us r h
 unfold ir at h
 split at h
 ·cases h
  simp[aT,gr,bX]
 ·cases h
noncomputable def fM:GS:=
 (bq (cV 2 (aB 1))
 (bq (qL (qB (eF (eP IG (ah (mq 0) (ah (eC (.int 0)) aq))))) (cV 2 (eP eO (ah (dN 0 (eF (eP wm (ah (eF (aB 1)) (ah (mq 0) aq))))) (ah (eF (eP Df (ah (eF (aB 1)) (ah (mq 0) aq)))) aq)))) iF)
 (dJ (yc [("cell",(eF (aB 2))),("left",(eF (eP x9 (ah (eC (.int 0)) (ah (eF (eP A9 (ah (eF (aB 2)) (ah (eF (eP II (ah (eC (.int 10)) (ah (eC (.int 18)) aq)))) aq)))) aq))))),("turn",(eC (.int 0)))]))))
noncomputable def uM (ns:List Int) (k:Int):Int:=if 0 < ns.length then(gC ns (k % ns.length)).getD 0+k / ns.length else k
noncomputable def uN (ns:List Int) (k:Int):cB:=⟨uM ns k,if uM ns k - 10 ^ 18 > 0 then uM ns k - 10 ^ 18 else 0,0⟩
noncomputable def pe:FM
 | [.s ns,.t (.int k)]=>if 0≤k∧k < 1000000∧ns.length < 1000000 then some (.m (.dct (aN (uN ns k))),[]) else none
 | _=>none
theorem BJ {α:Type}{l:List α}{i:Int}(h0:0≤i) (h1:i < l.length):∃x,gC l i=some x:=by
 unfold gC Cz
 rw[if_pos h0,if_pos h1]
 have:i.toNat < l.length:=by omega
 exact⟨l[i.toNat],List.getElem?_eq_getElem this⟩
@[simp] theorem JJ (k1 k2 k3:Str) (g1 g2 g3:GD) (S:SS):yc [(k1,g1),(k2,g2),(k3,g3)] S=(g1 S).bind fun a=>(g2 a.2).bind fun b=>(g3 b.2).map fun c=>(.m (.dct (oO [] [(.inr k1,a.1),(.inr k2,b.1),(.inr k3,c.1)])),c.2):=by
 simp only[yc,oN]
 cases g1 S with
 | none=>rfl
 | some a=>
  simp only[Option.bind_some]
  cases g2 a.2 with
  | none=>rfl
  | some b=>
   simp only[Option.bind_some]
   cases g3 b.2 with
   | none=>rfl
   | some c=>rfl
theorem pq (c l n:Int):oO [] [(.inr "cell",.int c),(.inr "left",.int l),(.inr "turn",.int n)]=aN ⟨c,l,n⟩:=rfl
theorem BK:∀us r,pe us=some r→aT 3 fM us=some r:=by
 intro us r h
 unfold pe at h
 split at h
 ·rename_i ns k
  obtain⟨⟨h1,h2,h3⟩,rfl⟩:=aL h
  by_cases hl:0 < ns.length
  ·have e0:(0:Int) < ns.length:=by omega
   obtain⟨x,hx⟩:=BJ (l:=ns) (i:=k % ns.length) (Int.emod_nonneg _ (by omega)) (Int.emod_lt_of_pos _ e0)
   have e1:(ns.length:Int) < 1073741824:=by omega
   simp[aT,fM,e0,e1,hx,pq,uN,uM,hl]
  ·have e0:¬(0:Int) < ns.length:=by omega
   simp[aT,fM,e0,pq,uN,uM,hl]
 ·cases h
end L2
end
section
set_option Elab.async false
set_option linter.all false
set_option maxRecDepth 100000
namespace Sw
open PySem PySem.Spec PyProof.Rows L2
theorem aO {t:cB}{m:Int}(h:0 < m):0≤aH t m∧aH t m < m:=by
 unfold aH
 split
 ·exact⟨Int.emod_nonneg _ (by omega),Int.emod_lt_of_pos _ h⟩
 ·exact⟨Int.emod_nonneg _ (by omega),Int.emod_lt_of_pos _ h⟩
@[simp] theorem nK (t:cB) (m:Int):(aV t m).n=t.n+1:=by unfold aV;split <;> rfl
theorem gO {t:cB}{m:Int}(h1:0 < m) (h2:m < 1000000) (h3:0≤t.n) (h4:t.n < 1000000):d9 [.b (.dct (aN t)),.t (.int m)]=some (.t (.int (aH t m)),[.dct (aN (aV t m))]):=by
 simp[d9,h1,h2,h3,h4]
theorem BL {α:Type}{l:List α}{i:Int}(h0:0≤i) (h1:i < l.length):gC l i=some (l[i.toNat]'(by omega)):=by
 unfold gC Cz
 rw[if_pos h0,if_pos h1]
 exact List.getElem?_eq_getElem (by omega)
noncomputable def bD (T:List (Str×Int)):D:=.tup (T.map fun p=>.tup [.str p.1,.int p.2])
structure wN where
 names:List Str
 tab:List (Str×Int)
 left:Int
 t:cB
noncomputable def lD (i j k:Int):Int:=if j < i then(if k < j then k else j) else if k < i then k else i
noncomputable def aX (s:wN) (k:Int):wN:=
 let i:=(aH s.t s.names.length).toNat
 let t1:=aV s.t s.names.length
 let most:=lD 5 (s.left - 4+k) (aH t1 6)
 ⟨s.names.eraseIdx i,s.tab++[(s.names.getD i "",most)],s.left - most - 1,aV t1 6⟩
noncomputable def bU (dh:FM) (ao:FM):GS:=
 (bq (cV 5 (eT (eM 1 jl (ah (eF (bA ao (jW (aB 0) (cu (mq 1) cQ)))) aq))))
 (bq (cV 6 (eP xZ (ah (eC (.int 5)) (ah (eF (eP eO (ah (eF (eP A9 (ah (eF (aB 3)) (ah (eC (.int 4)) aq)))) (ah (eF (aB 4)) aq)))) (ah (eF (bA ao (jW (aB 0) (cu (eC (.int 6)) cQ)))) aq)))))
 (bq (cV 2 (eP eO (ah (eF (aB 2)) (ah (eF (eP lT (ah (eF (eP lT (ah (eF (aB 5)) (ah (eF (aB 6)) aq)))) aq))) aq))))
 (cV 3 (eP A9 (ah (eF (eP A9 (ah (eF (aB 3)) (ah (eF (aB 6)) aq)))) (ah (eC (.int 1)) aq)))))))
noncomputable def gw (dh:FM) (ao:FM):GS:=
 (bq (cV 1 (bA dh cQ))
 (bq (cV 2 (eP lT aq))
 (bq (cV 3 (eT (eC (.int 12))))
 (bq (oz (bName 4) (ow (ah (eF (eP CA (ah (eF (eP nC (ah (eC (.int 1)) (ah (eC (.int 2)) (ah (eC (.int 2)) (ah (eC (.int 3)) (ah (eC (.int 4)) aq))))))) (ah (eF (bA ao (jW (aB 0) (cu (eC (.int 5)) cQ)))) aq)))) aq)) (bU dh ao))
 (dJ (aB 2))))))
noncomputable def fO (s:wN) (x y z:Option U):SS:=[some (.b (.dct (aN s.t))),some (.m (.lst (s.names.map D.str))),some (.t (bD s.tab)),some (.t (.int s.left)),x,y,z]
theorem zy {i:Int}{n:Nat}(h0:0≤i) (h1:i < n):seqIndex? i n=some i.toNat:=by
 unfold seqIndex?
 simp[h0,h1]
 try omega
theorem iu {α β:Type}(f:α→β):∀(l:List α) (k:Nat),(l.map f).eraseIdx k=(l.eraseIdx k).map f
 | [],_=>rfl
 | _ :: _,0=>rfl
 | a :: l,k+1=>by simp[iu f l k]
theorem BN {s:wN}{k:Int}{x y z:Option U}(hn:0 < s.names.length) (hn2:s.names.length≤8) (ht:s.tab.length≤100) (h3:0≤s.t.n) (h4:s.t.n < 900000) (hx:(x=none∧y=none∧z=none)∨∃a b c,x=some (.t a)∧y=some (.t b)∧z=some (.t c)):
  ∃a b c,(bName 4 (.int k) (fO s x y z)).bind (bU ir d9)=some (.nx (fO (aX s k) (some (.t a)) (some (.t b)) (some (.t c)))):=by
 have p1:=aO (t:=s.t) (m:=s.names.length) (by omega)
 have e1:=gO (t:=s.t) (m:=s.names.length) (by omega) (by omega) h3 (by omega)
 have e2:=gO (t:=aV s.t s.names.length) (m:=6) (by omega) (by omega) (by simp;omega) (by simp;omega)
 have e3:=zy p1.1 p1.2
 have e4:(aH s.t s.names.length).toNat < s.names.length:=by omega
 have e5:-9223372036854775808≤aH s.t s.names.length:=by omega
 have e6:aH s.t s.names.length < 9223372036854775808:=by omega
 have e7:s.tab.length+1≤100000:=by omega
 refine⟨.int k,.str s.names[(aH s.t s.names.length).toNat],.int (lD 5 (s.left - 4+k) (aH (aV s.t s.names.length) 6)),?_⟩
 rcases hx with⟨rfl,rfl,rfl⟩ | ⟨a,b,c,rfl,rfl,rfl⟩
 ·simp[bU,fO,bD,e1,e2,jl,e3,e4,e5,e6,e7,aX,lD,iu]
 ·simp[bU,fO,bD,e1,e2,jl,e3,e4,e5,e6,e7,aX,lD,iu]
theorem pA {s:wN}{k:Int}(hn:0 < s.names.length):(aX s k).names.length+1=s.names.length:=by
 have p1:=aO (t:=s.t) (m:=s.names.length) (by omega)
 have:(aH s.t s.names.length).toNat < s.names.length:=by omega
 show(s.names.eraseIdx _).length+1=_
 rw[List.length_eraseIdx,if_pos this]
 omega
@[simp] theorem Gg (s:wN) (k:Int):(aX s k).t.n=s.t.n+2:=by
 show(aV (aV s.t _) 6).n=_
 simp;omega
@[simp] theorem BO (s:wN) (k:Int):(aX s k).tab.length=s.tab.length+1:=by
 show(s.tab++[_]).length=_
 simp
theorem uO:∀(ks:List Int) (s:wN) (x y z:Option U),ks.length≤s.names.length→s.names.length≤8→s.tab.length+ks.length≤100→0≤s.t.n→s.t.n+2 * ks.length < 900000→((x=none∧y=none∧z=none)∨∃a b c,x=some (.t a)∧y=some (.t b)∧z=some (.t c))→
    ∃x' y' z',loop (bName 4) (bU ir d9) (ks.map D.int) (fO s x y z)=some (.nx (fO (ks.foldl aX s) x' y' z'))
  | [],s,x,y,z,_,_,_,_,_,_=>⟨x,y,z,rfl⟩
  | k :: ks, s, x, y, z, h1, h2, h3, h4, h5, hx => by
    have l1:ks.length+1≤s.names.length:=h1
    have l3:s.tab.length+(ks.length+1)≤100:=h3
    have l5:s.t.n+2 * ((ks.length+1:Nat):Int) < 900000:=h5
    have hn:0 < s.names.length:=by omega
    obtain⟨a,b,c,e⟩:=BN (k:=k) hn h2 (by omega) h4 (by omega) hx
    have n1:=pA (s:=s) (k:=k) hn
    obtain⟨x',y',z',ih⟩:=uO ks (aX s k) (some (.t a)) (some (.t b)) (some (.t c)) (by omega) (by omega) (by simp;omega) (by simp;omega) (by simp;omega) (.inr ⟨a,b,c,rfl,rfl,rfl⟩)
    refine⟨x',y',z',?_⟩
    show(bName 4 (.int k) (fO s x y z)).bind (fun S1=>(bU ir d9 S1).bind fun o=>match o with
      | .nx S2=>loop (bName 4) (bU ir d9) (ks.map D.int) S2
      | .ct S2=>loop (bName 4) (bU ir d9) (ks.map D.int) S2
      | .bk S2=>some (.nx S2)
      | .rt u S2=>some (.rt u S2))=_
    rw[←Option.bind_assoc,e]
    exact ih
noncomputable def tabI (t:cB):Int:=([1,2,2,3,4]:List Int).getD (aH t 5).toNat 1
noncomputable def jz (t:cB):Nat:=(tabI t).toNat
noncomputable def upTo (n:Nat):List Int:=(List.range n).map fun(k:Nat)=>(k:Int)
noncomputable def cW (t:cB):wN:=(upTo (jz t)).foldl aX ⟨bX,[],12,aV t 5⟩
noncomputable def kr:FM
 | [.b (.dct kvs)]=>(kq kvs).bind fun t=>if 0≤t.n∧t.n < 800000 then some (.t (bD (cW t).tab),[.dct (aN (cW t).t)]) else none
 | _=>none
theorem uP (n:Nat):tM 0 n=(upTo n).map D.int:=by
 unfold tM upTo
 simp
theorem yr (t:cB):1≤tabI t∧tabI t≤4:=by
 unfold tabI
 have p:=aO (t:=t) (m:=5) (by omega)
 generalize (aH t 5).toNat=i
 match i with
 | 0=>decide
 | 1=>decide
 | 2=>decide
 | 3=>decide
 | 4=>decide
 | _+5=>simp
theorem sL (t:cB):1≤jz t∧jz t≤4:=by
 have:=yr t
 unfold jz
 omega
theorem BP {t:cB}:gC [D.int 1,D.int 2,D.int 2,D.int 3,D.int 4] (aH t 5)=some (.int (tabI t)):=by
 have p:=aO (t:=t) (m:=5) (by omega)
 unfold tabI
 generalize aH t 5=i at p
 obtain⟨h0,h1⟩:=p
 have:i=0∨i=1∨i=2∨i=3∨i=4:=by omega
 rcases this with rfl | rfl | rfl | rfl | rfl <;> rfl
theorem zz:∀us r,kr us=some r→aT 7 (gw ir d9) us=some r:=by
 intro us r h
 unfold kr at h
 split at h
 ·rename_i kvs
  obtain⟨t,h1,h⟩:=aa h
  obtain⟨⟨h2,h3⟩,rfl⟩:=aL h
  obtain rfl:=jy h1
  have e1:=gO (t:=t) (m:=5) (by omega) (by omega) h2 (by omega)
  have b:=sL t
  obtain⟨x,y,z,e2⟩:=uO (upTo (jz t)) ⟨bX,[],12,aV t 5⟩ none none none (by simp[upTo,bX];omega) (by simp[bX]) (by simp[upTo];omega) (by simp;omega) (by simp[upTo];omega) (.inl ⟨rfl,rfl,rfl⟩)
  have bI:=yr t
  have e3:tabI t < 1000000:=by omega
  have e4:-1000000 < tabI t:=by omega
  rw[←uP] at e2
  simp only[fO] at e2
  have e0:ir []=some (.m (.lst (bX.map D.str)),[]):=rfl
  have e5:bD []= .tup []:=rfl
  rw[e5] at e2
  unfold jz at e2
  simp[aT,gw,e0,e1,BP,e3,e4,e2,cW,jz]
 ·cases h
end Sw
end
section
set_option Elab.async false
set_option linter.all false
set_option maxRecDepth 100000
namespace Sw
open PySem PySem.Spec PyProof.Rows L2
noncomputable def Gh:D→Option (Str×Int)
 | .tup [.str z,.int i]=>some (z,i)
 | _=>none
noncomputable def uQ:List D→Option (List (Str×Int))
 | []=>some []
 | d :: ds=>(Gh d).bind fun p=>(uQ ds).map fun ps=>p :: ps
noncomputable def tabOf:D→Option (List (Str×Int))
 | .tup ds=>uQ ds
 | _=>none
@[simp] theorem zA (T:List (Str×Int)):uQ (T.map fun p=>.tup [.str p.1,.int p.2])=some T:=by
 induction T with
 | nil=>rfl
 | cons p T ih=>simp[uQ,Gh,ih]
@[simp] theorem K7 (T:List (Str×Int)):tabOf (bD T)=some T:=zA T
theorem pB:∀{ds:List D}{T:List (Str×Int)},uQ ds=some T→ds=T.map fun p=>.tup [.str p.1,.int p.2]
  | [],T,h=>by cases h;rfl
  | d :: ds, T, h => by
    obtain⟨p,h1,h⟩:=aa h
    obtain⟨ps,h2,h⟩:=aj h
    subst h
    unfold Gh at h1
    split at h1
    · cases h1
      rw[pB h2]
      rfl
    · cases h1
theorem pC {d:D}{T:List (Str×Int)}(h:tabOf d=some T):d=bD T:=by
 unfold tabOf at h
 split at h
 ·rw[pB h];rfl
 ·cases h
noncomputable def cI (ao:FM):GS:=
 (bq (Fp (qh 2 (gY (bName 5) (gY (bName 6) ou))) (dN 1 (eF (bA ao (jW (aB 0) (cu (mq 1) cQ))))))
 (cV 3 (eP eO (ah (eF (aB 3)) (ah (eF (eP lT (ah (eF (eP lT (ah (eF (aB 5)) (ah (eF (bA ao (jW (aB 0) (cu (eF (eP eO (ah (eF (aB 6)) (ah (eC (.int 1)) aq)))) cQ)))) aq)))) aq))) aq)))))
noncomputable def iW (ao:FM):GS:=
 (bq (cV 3 (eP lT aq))
 (bq (oz (bName 4) (ow (ah (eF (bA ao (jW (aB 0) (cu (eF (eP eO (ah (eF (aB 2)) (ah (eC (.int 1)) aq)))) cQ)))) aq)) (cI ao))
 (dJ (aB 3))))
noncomputable def bQ (T:List (Str×Int)) (s:List (Str×Int)×cB) (_:Int):List (Str×Int)×cB:=
 let p:=T.getD (aH s.2 T.length).toNat ("",0)
 let t1:=aV s.2 T.length
 (s.1++[(p.1,aH t1 (p.2+1))],aV t1 (p.2+1))
noncomputable def fP (T:List (Str×Int)) (most:D) (s:List (Str×Int)×cB) (x y z:Option U):SS:=[some (.b (.dct (aN s.2))),some (.t (bD T)),some (.t most),some (.t (bD s.1)),x,y,z]
structure lE (T:List (Str×Int)):Prop where
 pos:0 < T.length
 len:T.length≤10
 PN:∀p∈T,0≤p.2∧p.2≤10
theorem BQ {T:List (Str×Int)}{most:D}{s:List (Str×Int)×cB}{k:Int}{x y z:Option U}(ok:lE T) (hr:s.1.length≤1000) (h3:0≤s.2.n) (h4:s.2.n < 900000) (hx:(x=none∧y=none∧z=none)∨∃a b c,x=some (.t a)∧y=some (.t b)∧z=some (.t c)):
  ∃a b c,(bName 4 (.int k) (fP T most s x y z)).bind (cI d9)=some (.nx (fP T most (bQ T s k) (some (.t a)) (some (.t b)) (some (.t c)))):=by
 have p0:=ok.pos
 have Tp:=ok.len
 have p1:=aO (t:=s.2) (m:=T.length) (by omega)
 have e1:=gO (t:=s.2) (m:=T.length) (by omega) (by omega) h3 (by omega)
 have e4:(aH s.2 T.length).toNat < T.length:=by omega
 have e5:T.getD (aH s.2 T.length).toNat ("",0)=T[(aH s.2 T.length).toNat]:=by simp[List.getD,e4]
 have hm:=ok.PN _ (List.getElem_mem e4)
 have e2:=gO (t:=aV s.2 T.length) (m:=T[(aH s.2 T.length).toNat].2+1) (by omega) (by omega) (by simp;omega) (by simp;omega)
 have e3:gC (T.map fun p=>D.tup [.str p.1,.int p.2]) (aH s.2 T.length)=some (.tup [.str T[(aH s.2 T.length).toNat].1,.int T[(aH s.2 T.length).toNat].2]):=ya _ (by rw[BL p1.1 p1.2])
 have e7:s.1.length+1≤100000:=by omega
 refine⟨.int k,.str T[(aH s.2 T.length).toNat].1,.int T[(aH s.2 T.length).toNat].2,?_⟩
 rcases hx with⟨rfl,rfl,rfl⟩ | ⟨a,b,c,rfl,rfl,rfl⟩
 ·simp[cI,fP,bD,e1,e2,e3,e7,bQ,e4,qh,gY,ou]
 ·simp[cI,fP,bD,e1,e2,e3,e7,bQ,e4,qh,gY,ou]
@[simp] theorem uR (T:List (Str×Int)) (s:List (Str×Int)×cB) (k:Int):(bQ T s k).1.length=s.1.length+1:=by simp[bQ]
@[simp] theorem zB (T:List (Str×Int)) (s:List (Str×Int)×cB) (k:Int):(bQ T s k).2.n=s.2.n+2:=by simp[bQ];omega
theorem uS {T:List (Str×Int)}{most:D}(ok:lE T):∀(ks:List Int) (s:List (Str×Int)×cB) (x y z:Option U),s.1.length+ks.length≤1000→0≤s.2.n→s.2.n+2 * ks.length < 900000→((x=none∧y=none∧z=none)∨∃a b c,x=some (.t a)∧y=some (.t b)∧z=some (.t c))→
    ∃x' y' z',loop (bName 4) (cI d9) (ks.map D.int) (fP T most s x y z)=some (.nx (fP T most (ks.foldl (bQ T) s) x' y' z'))
  | [],s,x,y,z,_,_,_,_=>⟨x,y,z,rfl⟩
  | k :: ks, s, x, y, z, h3, h4, h5, hx => by
    have l3:s.1.length+(ks.length+1)≤1000:=h3
    have l5:s.2.n+2 * ((ks.length+1:Nat):Int) < 900000:=h5
    obtain⟨a,b,c,e⟩:=BQ (k:=k) (most:=most) ok (by omega) h4 (by omega) hx
    obtain⟨x',y',z',ih⟩:=uS ok ks (bQ T s k) (some (.t a)) (some (.t b)) (some (.t c)) (by simp;omega) (by simp;omega) (by simp;omega) (.inr ⟨a,b,c,rfl,rfl,rfl⟩)
    refine⟨x',y',z',?_⟩
    show(bName 4 (.int k) (fP T most s x y z)).bind (fun S1=>(cI d9 S1).bind fun o=>match o with
      | .nx S2=>loop (bName 4) (cI d9) (ks.map D.int) S2
      | .ct S2=>loop (bName 4) (cI d9) (ks.map D.int) S2
      | .bk S2=>some (.nx S2)
      | .rt u S2=>some (.rt u S2))=_
    rw[←Option.bind_assoc,e]
    exact ih
noncomputable def mF (t:cB) (T:List (Str×Int)) (most:Int):List (Str×Int)×cB:=(upTo (aH t (most+1)).toNat).foldl (bQ T) ([],aV t (most+1))
noncomputable def wO (T:List (Str×Int)):Bool:=decide (0 < T.length) && (decide (T.length≤10) && T.all fun p=>decide (0≤p.2) && decide (p.2≤10))
theorem pD {T:List (Str×Int)}:wO T=true↔lE T:=by
 unfold wO
 simp only[Bool.and_eq_true,decide_eq_true_eq,List.all_eq_true]
 exact⟨fun⟨a,b,c⟩=>⟨a,b,c⟩,fun⟨a,b,c⟩=>⟨a,b,c⟩⟩
noncomputable def wQ:FM
 | [.b (.dct kvs),.t td,.t (.int most)]=>(kq kvs).bind fun t=>(tabOf td).bind fun T=>if wO T=true∧0≤most∧most≤100∧0≤t.n∧t.n < 700000 then some (.t (bD (mF t T most).1),[.dct (aN (mF t T most).2)]) else none
 | _=>none
theorem DF:∀us r,wQ us=some r→aT 7 (iW d9) us=some r:=by
 intro us r h
 unfold wQ at h
 split at h
 ·rename_i kvs td most
  obtain⟨t,h1,h⟩:=aa h
  obtain⟨T,h0,h⟩:=aa h
  obtain⟨⟨hT,h2,h3,h4,h5⟩,rfl⟩:=aL h
  obtain rfl:=jy h1
  obtain rfl:=pC h0
  have ok:=pD.mp hT
  have e1:=gO (t:=t) (m:=most+1) (by omega) (by omega) h4 (by omega)
  have p:=aO (t:=t) (m:=most+1) (by omega)
  obtain⟨x,y,z,e2⟩:=uS (T:=T) (most:=.int most) ok (upTo (aH t (most+1)).toNat) ([],aV t (most+1)) none none none (by simp[upTo];omega) (by simp;omega) (by simp[upTo];omega) (.inl ⟨rfl,rfl,rfl⟩)
  have e3:aH t (most+1) < 1000000:=by omega
  have e4:-1000000 < aH t (most+1):=by omega
  rw[←uP] at e2
  simp only[fP] at e2
  have e5:bD []= .tup []:=rfl
  rw[e5] at e2
  simp[aT,iW,e1,e3,e4,e2,mF]
 ·cases h
end Sw
end
section
set_option Elab.async false
set_option linter.all false
set_option maxRecDepth 100000
namespace Sw
open PySem PySem.Spec PyProof.Rows L2
@[simp] theorem JK (g:GD) (lo hi:Option GD) (S:SS):Px g lo hi S=(g S).bind fun p=>(gM lo p.2).bind fun l=>(gM hi l.2).bind fun h=>(Ei p.1 l.1 h.1).map fun u=>(u,h.2):=rfl
@[simp] theorem Nu (S:SS):gM none S=some (none,S):=rfl
@[simp] theorem Nv (g:GD) (S:SS):gM (some g) S=(g S).bind fun p=>match p.1 with | .int i=>some (some i,p.2) | _=>none:=rfl
@[simp] theorem DG (ds:List D) (lo hi:Option Int):Ei (.tup ds) lo hi=some (.t (.tup (cutD ds lo hi))):=rfl
@[simp] theorem DH (ds:List D) (lo hi:Option Int):Ei (.lst ds) lo hi=some (.m (.lst (cutD ds lo hi))):=rfl
@[simp] theorem K8 (z:Str) (lo hi:Option Int):Ei (.str z) lo hi=if z.length≤100000 then some (.t (.str (Txt.slice z lo hi))) else none:=rfl
theorem Fits.mem {n:Nat}:∀{ds:List D}{d:D},Fits n ds→d∈ds→Fj n d
 | _ :: _,_,h,m=>by
  rcases List.mem_cons.mp m with rfl | m
  ·exact h.1
  ·exact Fits.mem h.2 m
end Sw
end
section
set_option Elab.async false
set_option linter.all false
set_option maxRecDepth 100000
namespace Sw
open PySem PySem.Spec PyProof.Rows L2
theorem BR:∀(ts:List D) (S:SS),S.length=ts.length→aE (ts.map U.t) S=some []
 | [],S,_=>by cases S <;> rfl
 | d :: ts,[],h=>by cases h
 | d :: ts,x :: S,h=>by
  show aE (U.t d :: ts.map U.t) (x :: S)=_
  rw[yq]
  exact BR ts S (by simpa using h)
theorem En (S:SS):∀ts:List D,bF S (ts.map U.t)=some (ts.map U.t)
 | []=>rfl
 | d :: ts=>by
  show(some (U.t d)).bind _=_
  rw[En S ts]
  rfl
theorem JL:∀ts:List D,slotsOf (ts.map U.t)=[]
 | []=>rfl
 | d :: ts=>JL ts
theorem JM:∀ts:List D,bL (ts.map U.t)=0
 | []=>rfl
 | d :: ts=>JM ts
theorem Gi (S:SS):∀ts:List D,wb (ts.map U.t) [] S=some S
 | []=>rfl
 | d :: ts=>Gi S ts
theorem sM {cap:List Nat}{q:GT}{g:GD}{S:SS}{ts:List D}(hc:gq S cap=some (ts.map U.t)) (p:D→Bool) (f:D→D):∀(ds acc:List D),
    (∀d∈ds,q (some (.t d) :: ts.map fun x=>some (.t x))=some (p d,some (.t d) :: ts.map fun x=>some (.t x)))→(∀d∈ds,p d=true→g (some (.t d) :: ts.map fun x=>some (.t x))=some (f d,some (.t d) :: ts.map fun x=>some (.t x)))→
    gH cap q g ds S acc=some (acc++(ds.filter p).map f,S)
  | [],acc,_,_=>by simp[gH]
  | d :: ds, acc, hq, hg => by
    have em:(ts.map U.t).map some=ts.map fun x=>some (U.t x):=by simp
    have eo:aE (.t d :: ts.map U.t) (some (.t d) :: ts.map fun x=>some (.t x))=some []:=by rw[yq];exact BR ts _ (by simp)
    have q0:=hq d (List.mem_cons_self)
    unfold gH
    rw[hc]
    simp only[Option.bind_some]
    rw[if_pos ⟨by rw[JL];exact List.nodup_nil,by rw[JM];exact Nat.zero_le _⟩,En]
    simp only[Option.bind_some]
    rw[em,q0]
    simp only[Option.bind_some]
    by_cases hp:p d=true
    · rw[if_pos hp,hg d List.mem_cons_self hp]
      simp only[Option.bind_some]
      rw[eo]
      simp only[Option.bind_some]
      rw[Gi]
      simp only[Option.bind_some]
      rw[sM hc p f ds (acc++[f d]) (fun e he=>hq e (List.mem_cons_of_mem _ he)) (fun e he=>hg e (List.mem_cons_of_mem _ he)),List.filter_cons_of_pos hp]
      simp
    · rw[if_neg hp,eo]
      simp only[Option.bind_some]
      rw[Gi]
      simp only[Option.bind_some]
      rw[sM hc p f ds acc (fun e he=>hq e (List.mem_cons_of_mem _ he)) (fun e he=>hg e (List.mem_cons_of_mem _ he)),List.filter_cons_of_neg hp]
theorem jT {cap:List Nat}{g:GD}{S:SS}{ts:List D}(hc:gq S cap=some (ts.map U.t)) (f:D→D) (ds acc:List D) (hg:∀d∈ds,g (some (.t d) :: ts.map fun x=>some (.t x))=some (f d,some (.t d) :: ts.map fun x=>some (.t x))):
  gH cap j3 g ds S acc=some (acc++ds.map f,S):=by
 rw[sM hc (fun _=>true) f ds acc (fun _ _=>rfl) (fun d hd _=>hg d hd),List.filter_eq_self.mpr (fun _ _=>rfl)]
@[simp] theorem K9 (cap:List Nat) (gi:GI) (q:GT) (g:GD) (S:SS):qQ cap gi q g S=(gi S).bind fun p=>if p.1.length≤100000 then(gH cap q g p.1 p.2 []).map fun r=>(.m (.lst r.1),r.2) else none:=rfl
theorem sN (g:GD) (S:SS):sr g S=(g S).bind fun p=>match p.1 with | .tup ds=>some (ds,p.2) | .lst ds=>some (ds,p.2) | .str z=>some (z.cps.toList.map fun c=>.str ⟨#[c]⟩,p.2) | _=>none:=rfl
theorem mG {α:Type}(f:α→Bool):∀ds:List α,fZ (ds.map fun d=>.bl (f d))=some (ds.map f)
 | []=>rfl
 | d :: ds=>by simp[fZ,mG f ds]
noncomputable def dj (iL:FM) (iM:FM):GS:=
 (bq (qL (rX (qB (eF (bA iL (cu (eF (aB 1)) (cu (eC (.int 2)) (cu (eC (.int 2)) cQ))))))) (dJ (eT (eC (.bl false)))) iF)
 (dJ (eP Dp (ah (eF (qQ [1] (sr (eF (aB 0))) j3 (eQ (wj (qB (eF (eP Dl (ah (dN 0 (eC (.int 0))) (ah (dN 1 (eC (.int 0))) aq))))) (qB (eF (bA iM (cu (dN 1 (eC (.int 1))) (cu (eC (.int 0)) (cu (dN 0 (eC (.int 1))) cQ)))))))))) aq))))
noncomputable def lF (T:List (Str×Int)):D→Bool
 | .tup [x,y]=>T.any fun p=>iD (.str p.1) x && eL y 0 p.2
 | _=>false
noncomputable def sO:FM
 | [.t td,.t d]=>(tabOf td).bind fun T=>if T.length≤1000 then some (.t (.bl (lF T d)),[]) else none
 | _=>none
noncomputable def dw (p:Str×Int):D:=.tup [.str p.1,.int p.2]
theorem yt (T:List (Str×Int)):bD T= .tup (T.map dw):=rfl
theorem DI : ∀ us r, sO us = some r → aT 2 (dj mD mC) us = some r := by
  intro us r h
  unfold sO at h
  split at h
  · rename_i td d
    obtain⟨T,h1,h⟩:=aa h
    obtain⟨hl,rfl⟩:=aL h
    obtain rfl:=pC h1
    by_cases hd:∃x y,d= .tup [x,y]
    · obtain⟨x,y,rfl⟩:=hd
      have hc:gq [some (.t (bD T)),some (.t (.tup [x,y]))] [1]=some ([D.tup [x,y]].map U.t):=rfl
      have e:=jT (cap:=[1]) (g:=eQ (wj (qB (eF (eP Dl (ah (dN 0 (eC (.int 0))) (ah (dN 1 (eC (.int 0))) aq))))) (qB (eF (bA mC (cu (dN 1 (eC (.int 1))) (cu (eC (.int 0)) (cu (dN 0 (eC (.int 1))) cQ)))))))) hc (fun d=>match d with | .tup [.str z,.int i]=>.bl (iD (.str z) x && eL y 0 i) | _=>.bS) (T.map dw) [] (fun d hd=>by
        obtain⟨p,_,rfl⟩:=List.mem_map.mp hd
        have a0:∀(u v:D),gC [u,v] 0=some u:=fun _ _=>rfl
        have a1:∀(u v:D),gC [u,v] 1=some v:=fun _ _=>rfl
        cases he:iD (.str p.1) x <;> simp[dw,a0,a1,he,mC])
      have a2:(T.map dw).map (fun d=>match d with | .tup [.str z,.int i]=>D.bl (iD (.str z) x && eL y 0 i) | _=>.bS)=T.map fun p=>.bl (iD (.str p.1) x && eL y 0 p.2):=by
        rw[List.map_map];rfl
      rw[a2,List.nil_append] at e
      have a3:T.length≤100000:=by omega
      have a5:=mG (fun p:Str×Int=>iD (.str p.1) x && eL y 0 p.2) T
      have a4:List.any (T.map fun p=>iD (.str p.1) x && eL y 0 p.2) id=T.any fun p=>iD (.str p.1) x && eL y 0 p.2:=by
        rw[List.any_map];rfl
      rw[yt] at e ⊢
      generalize hB:(T.map fun p=>D.bl (iD (.str p.1) x && eL y 0 p.2))=bs at e a5
      generalize hC:(T.map fun p=>(iD (.str p.1) x && eL y 0 p.2))=cs at a4 a5
      simp only[lF,←a4]
      simp[aT,dj,mD,nY,sN,a3,e,a5]
    · have e1:nY d 2 2=false:=by
        cases d with
        | tup ds=>
          unfold nY
          have:ds.length≠2:=fun z=>by
            match ds,z with
            | [x,y],_=>exact hd ⟨x,y,rfl⟩
          simp only[Bool.and_eq_false_iff,decide_eq_false_iff_not]
          omega
        | _=>rfl
      have e2:lF T d=false:=by
        unfold lF
        split
        · exact absurd ⟨_,_,rfl⟩ hd
        · rfl
      simp[aT,dj,mD,e1,e2]
  · cases h
end Sw
end
section
set_option Elab.async false
set_option linter.all false
set_option maxRecDepth 100000
namespace Sw
open PySem PySem.Spec PyProof.Rows L2
theorem rz {x:D}{z:Str}(h:iD (.str z) x=true):x= .str z:=by
 cases x <;> simp[iD] at h
 rw[h]
end Sw
end
section
set_option Elab.async false
set_option linter.all false
set_option maxRecDepth 100000
namespace Sw
open PySem PySem.Spec PyProof.Rows L2
mutual
noncomputable def Sane:D→Prop
 | .int i=>i.natAbs < 10 ^ 30
 | .str z=>∀c∈z.cps.toList,c < 16 ^ 8
 | .tup ds=>fQ ds
 | .lst ds=>fQ ds
 | .bS=>True
 | .bl _=>True
noncomputable def fQ:List D→Prop
 | []=>True
 | d :: ds=>Sane d∧fQ ds
end
mutual
noncomputable def wD:D→Nat
 | .bS=>6
 | .bl _=>6
 | .int _=>40
 | .str z=>10 * z.length+2
 | .tup ds=>Ah ds+4
 | .lst ds=>Ah ds+4
noncomputable def Ah:List D→Nat
 | []=>0
 | d :: ds=>wD d+2+Ah ds
end
theorem zC (s:String):(Str.ofString s).length=s.length:=PySem.ofString_length s
theorem yu:∀(ts:List Str) (k:Nat) (acc:Str),(textFrom k acc ts).length≤acc.length+piled ts
  | [],k,acc=>Nat.le_refl _
  | t :: ts, k, acc => by
    have ih:=yu ts (k+1) (acc++(if k > 0 then ", " else "":String)++t)
    have e:(acc++(if k > 0 then ", " else "":String)++t).length≤acc.length+2+t.length:=by
      rw[strLen_append,strLen_append]
      split
      · show acc.length+2+t.length≤_;omega
      · show acc.length+0+t.length≤_;omega
    rw[piled_cons]
    show(textFrom (k+1) _ ts).length≤_
    omega
mutual
theorem shown_le:∀d:D,Sane d→(toPy d).shown.length≤wD d
 | .bS,_=>by show(Str.ofString "None").length≤6;decide
 | .bl b,_=>by cases b <;> (show(Str.ofString _).length≤6;decide)
 | .int i,h=>by
  show(Str.ofString (toString i)).length≤40
  rw[zC]
  exact Nat.le_trans (int_text_length_le10 (k:=30) (by decide) h) (by decide)
 | .str z,h=>PySem.StrLaws.reprText_len z h
 | .tup ds,h=>by
  have k:=mH ds h
  show(tupleText (PyData.shownAll (dH ds))).length≤Ah ds+4
  unfold tupleText
  rw[strLen_append,strLen_append]
  have e1:("(":Str).length=1:=rfl
  have e2:((if(PyData.shownAll (dH ds)).length == 1 then ",)" else ")":String):Str).length≤2:=by split <;> decide
  by_cases hn:PyData.shownAll (dH ds)=[]
  ·rw[hn] at e2 ⊢
   have e3:(Str.join ", " []).length=0:=rfl
   omega
  ·have:=join_length_add _ hn
   omega
 | .lst ds,h=>by
  have k:=mH ds h
  show(listText (PyData.shownAll (dH ds))).length≤Ah ds+4
  unfold listText
  rw[strLen_append]
  have e1:=yu (PyData.shownAll (dH ds)) 0 "["
  have e2:("[":Str).length=1:=rfl
  have e3:("]":Str).length=1:=rfl
  omega
theorem mH:∀ds:List D,fQ ds→piled (PyData.shownAll (dH ds))≤Ah ds
 | [],_=>Nat.le_refl _
 | d :: ds,h=>by
  show piled ((toPy d).shown :: PyData.shownAll (dH ds))≤wD d+2+Ah ds
  rw[piled_cons]
  have:=shown_le d h.1
  have:=mH ds h.2
  omega
end
mutual
theorem m6:∀d:D,Sane d→(toPy d).showable=true
 | .bS,_=>rfl
 | .bl b,_=>rfl
 | .int i,h=>by
  show decide (i.natAbs.log2 < 1920)=true
  rw[decide_eq_true_eq]
  by_cases hz:i.natAbs=0
  ·rw[hz];decide
  ·exact(Nat.log2_lt hz).mpr (Nat.lt_trans h (Nat.lt_of_lt_of_le (show(10:Nat) ^ 30 < 2 ^ 100 by decide) (Nat.pow_le_pow_right (by decide) (by decide))))
 | .str z,_=>rfl
 | .tup ds,h=>by show PyData.showableAll (dH ds)=true;exact iX ds h
 | .lst ds,h=>by show PyData.showableAll (dH ds)=true;exact iX ds h
theorem iX:∀ds:List D,fQ ds→PyData.showableAll (dH ds)=true
 | [],_=>rfl
 | d :: ds,h=>by
  show((toPy d).showable && PyData.showableAll (dH ds))=true
  rw[m6 d h.1,iX ds h.2]
  rfl
end
mutual
theorem depth_eq:∀d:D,(toPy d).depth=fK d
 | .bS=>rfl
 | .bl _=>rfl
 | .int _=>rfl
 | .str _=>rfl
 | .tup ds=>by show PyData.depthAll (dH ds)+1=bu ds+1;rw[mJ ds]
 | .lst ds=>by show PyData.depthAll (dH ds)+1=bu ds+1;rw[mJ ds]
theorem mJ:∀ds:List D,PyData.depthAll (dH ds)=bu ds
 | []=>rfl
 | d :: ds=>by show max (toPy d).depth (PyData.depthAll (dH ds))=max (fK d) (bu ds);rw[depth_eq d,mJ ds]
end
theorem BS {d:D}(h:Sane d) (hw:wD d≤1000000) (hd:fK d≤20):yf d:=
 ⟨m6 d h,by rw[depth_eq];exact hd,Nat.le_trans (shown_le d h) (Nat.le_trans hw (by decide))⟩
theorem fQ.append:∀{as bs:List D},fQ as→fQ bs→fQ (as++bs)
 | [],_,_,h=>h
 | _ :: _,_,h,k=>⟨h.1,fQ.append h.2 k⟩
theorem fQ.mem:∀{ds:List D}{d:D},fQ ds→d∈ds→Sane d
 | _ :: _,_,h,m=>by
  rcases List.mem_cons.mp m with rfl | m
  ·exact h.1
  ·exact fQ.mem h.2 m
theorem fQ.of:∀{ds:List D},(∀d∈ds,Sane d)→fQ ds
 | [],_=>True.intro
 | d :: ds,h=>⟨h d List.mem_cons_self,fQ.of fun e he=>h e (List.mem_cons_of_mem _ he)⟩
structure Good (n k:Nat) (d:D):Prop where
 JN:Sane d
 w:wD d≤n
 dep:fK d≤k
theorem Good.mono {n k n' k':Nat}{d:D}(h:Good n k d) (a:n≤n') (b:k≤k'):Good n' k' d:=⟨h.JN,Nat.le_trans h.w a,Nat.le_trans h.dep b⟩
theorem Good.yf {n k:Nat}{d:D}(h:Good n k d) (a:n≤1000000) (b:k≤20):L2.yf d:=BS h.JN (Nat.le_trans h.w a) (Nat.le_trans h.dep b)
end Sw
end
section
set_option Elab.async false
set_option linter.all false
set_option maxRecDepth 100000
namespace Sw
open PySem PySem.Spec PyProof.Rows L2
structure BU (z:Str):Prop where
 len:z.length≤8
 Tq:∀c∈z.cps.toList,c < 16 ^ 8
theorem uT:∀z∈bX,BU z:=by
 intro z hz
 have:z∈(["a","ab","abc","b","any","name","x","zzzzzzzz"]:List Str):=hz
 simp only[List.mem_cons,List.not_mem_nil,or_false] at this
 rcases this with rfl | rfl | rfl | rfl | rfl | rfl | rfl | rfl <;> exact⟨by decide,by decide⟩
structure iw (p:Str×Int):Prop where
 nm:BU p.1
 lo:0≤p.2
 hi:p.2≤10
theorem zD {p:Str×Int}(h:iw p):Good 130 1 (dw p):=by
 obtain⟨⟨h1,h2⟩,h3,h4⟩:=h
 refine⟨⟨h2,?_,True.intro⟩,?_,?_⟩
 ·show p.2.natAbs < 10 ^ 30;omega
 ·show 10 * p.1.length+2+2+(40+2+0)+4≤130;omega
 ·show max 0 (max 0 0)+1≤1;omega
theorem ku {T:List (Str×Int)}(h:∀p∈T,iw p):Good (132 * T.length+4) 2 (bD T):=by
 have:fQ (T.map dw)∧Ah (T.map dw)≤132 * T.length∧bu (T.map dw)≤1:=by
  induction T with
  | nil=>exact⟨True.intro,Nat.le_refl _,Nat.zero_le _⟩
  | cons p T ih=>
   obtain⟨i1,i2,i3⟩:=ih fun q hq=>h q (List.mem_cons_of_mem _ hq)
   obtain⟨g1,g2,g3⟩:=zD (h p List.mem_cons_self)
   refine⟨⟨g1,i1⟩,?_,?_⟩
   ·show wD (dw p)+2+Ah (T.map dw)≤132 * (T.length+1);omega
   ·show max (fK (dw p)) (bu (T.map dw))≤1;omega
 obtain⟨a,b,c⟩:=this
 exact⟨a,(by show Ah (T.map dw)+4≤_;omega),(by show bu (T.map dw)+1≤2;omega)⟩
structure m8 (k:Int) (s:wN):Prop where
 nd:(s.tab.map (·.1)++s.names).Nodup
 sub:∀z∈s.names,z∈bX
 ok:∀p∈s.tab,iw p∧p.2≤5
 left:4 - k≤s.left
theorem getD_mem {α:Type}{l:List α}{i:Nat}{x:α}(h:i < l.length):l.getD i x∈l:=by simp[List.getD,h]
theorem pF {α:Type}:∀(l:List α) (i:Nat) (h:i < l.length),(l[i] :: l.eraseIdx i).Perm l
 | a :: l,0,_=>List.Perm.refl _
 | a :: l,i+1,h=>(List.Perm.swap _ _ _).trans (List.Perm.cons a (pF l i (by simpa using h)))
theorem uU {α:Type}:∀{as l:List α}{i:Nat}{x:α},(as++l).Nodup→i < l.length→((as++[l.getD i x])++l.eraseIdx i).Nodup:=fun {as l i x} nd hi=>by
 have e:l.getD i x=l[i]:=by simp[List.getD,hi]
 rw[e]
 have p:(as++[l[i]]++l.eraseIdx i).Perm (as++l):=by
  rw[List.append_assoc]
  refine List.Perm.append_left as ?_
  show(l[i] :: l.eraseIdx i).Perm l
  exact pF l i hi
 exact p.nodup_iff.mpr nd
theorem DJ {k:Int}{s:wN}(h:m8 k s) (hk:k≤4) (hn:0 < s.names.length):m8 (k+1) (aX s k):=by
 have p1:=aO (t:=s.t) (m:=s.names.length) (by omega)
 have hi:(aH s.t s.names.length).toNat < s.names.length:=by omega
 have p2:=aO (t:=aV s.t s.names.length) (m:=6) (by omega)
 have hl:=h.left
 have hm:0≤lD 5 (s.left - 4+k) (aH (aV s.t s.names.length) 6)∧lD 5 (s.left - 4+k) (aH (aV s.t s.names.length) 6)≤5∧lD 5 (s.left - 4+k) (aH (aV s.t s.names.length) 6)≤s.left - 4+k:=by
  unfold lD
  split <;> split <;> omega
 refine⟨?_,fun z hz=>?_,fun p hp=>?_,?_⟩
 ·show((s.tab++[((s.names.getD (aH s.t s.names.length).toNat "",lD 5 (s.left - 4+k) (aH (aV s.t s.names.length) 6)):Str×Int)]).map (fun(p:Str×Int)=>p.1)++s.names.eraseIdx (aH s.t s.names.length).toNat).Nodup
  rw[List.map_append]
  exact uU h.nd hi
 ·exact h.sub z (List.mem_of_mem_eraseIdx hz)
 ·rcases List.mem_append.mp hp with hp | hp
  ·exact h.ok p hp
  ·have hp:=List.mem_singleton.mp hp
   subst hp
   exact⟨⟨uT _ (h.sub _ (getD_mem hi)),hm.1,by show lD _ _ _≤10;omega⟩,hm.2.1⟩
 ·show 4 - (k+1)≤s.left - lD 5 (s.left - 4+k) (aH (aV s.t s.names.length) 6) - 1
  omega
theorem nL:∀(n:Nat) (s:wN),n≤4→m8 0 s→n≤s.names.length→m8 n ((upTo n).foldl aX s)∧((upTo n).foldl aX s).tab.length=s.tab.length+n∧((upTo n).foldl aX s).names.length+n=s.names.length∧((upTo n).foldl aX s).t.n=s.t.n+2 * n
  | 0,s,_,h,_=>⟨h,rfl,rfl,by simp[upTo]⟩
  | n + 1, s, hn, h, hl => by
    obtain⟨i1,i2,i3,i4⟩:=nL n s (by omega) h (by omega)
    have e:(upTo (n+1)).foldl aX s=aX ((upTo n).foldl aX s) n:=by
      unfold upTo
      rw[List.range_succ,List.map_append,List.foldl_append]
      rfl
    rw[e]
    have st:=DJ i1 (by omega) (by omega)
    refine⟨?_,?_,?_,?_⟩
    · have e2:((n+1:Nat):Int)=(n:Int)+1:=by omega
      rw[e2];exact st
    · rw[BO];omega
    · have:=pA (s:=(upTo n).foldl aX s) (k:=n) (by omega);omega
    · rw[Gg];omega
theorem uV (t:cB):((cW t).tab.map (·.1)).Nodup∧lE (cW t).tab∧(∀p∈(cW t).tab,iw p)∧(cW t).tab.length≤4∧t.n+1≤(cW t).t.n∧(cW t).t.n≤t.n+9:=by
 have b:=sL t
 have h0:m8 0 ⟨bX,[],12,aV t 5⟩:=⟨by show([]++bX).Nodup;decide,fun z hz=>hz,(fun p hp=>by cases hp),by show(4:Int) - 0≤12;omega⟩
 obtain⟨i1,i2,i3,i4⟩:=nL (jz t) ⟨bX,[],12,aV t 5⟩ b.2 h0 (by show jz t≤8;omega)
 have e:(upTo (jz t)).foldl aX ⟨bX,[],12,aV t 5⟩=cW t:=rfl
 rw[e] at i1 i2 i3 i4
 have i2:(cW t).tab.length=0+jz t:=i2
 have i4:(cW t).t.n=(aV t 5).n+2 * (jz t:Int):=i4
 rw[nK] at i4
 refine⟨(List.nodup_append.mp i1.nd).1,⟨by omega,by omega,fun p hp=>⟨(i1.ok p hp).1.lo,(i1.ok p hp).1.hi⟩⟩,fun p hp=>(i1.ok p hp).1,by omega,by omega,by omega⟩
theorem uW {T : List (Str × Int)} (ok : lE T) (hp : ∀ p ∈ T, iw p) : ∀ (ks : List Int) (s : List (Str × Int) × cB), (∀ p ∈ s.1, iw p) → (∀ p ∈ (ks.foldl (bQ T) s).1, iw p) ∧ (ks.foldl (bQ T) s).1.length = s.1.length + ks.length ∧ (ks.foldl (bQ T) s).2.n = s.2.n + 2 * ks.length
  | [],s,h=>⟨h,rfl,by simp⟩
  | k :: ks, s, h => by
    have p0:=ok.pos
    have p1:=aO (t:=s.2) (m:=T.length) (by omega)
    have hi:(aH s.2 T.length).toNat < T.length:=by omega
    have hq:=hp _ (getD_mem (x:=(("":Str),(0:Int))) hi)
    obtain⟨i1,i2,i3⟩:=uW ok hp ks (bQ T s k) (fun p Rc=>by
      rcases List.mem_append.mp (show p∈s.1++[_] from Rc) with h1 | h1
      · exact h p h1
      · have h1:=List.mem_singleton.mp h1
        subst h1
        have a:=hq.lo
        have b:=hq.hi
        have r:=aO (t:=aV s.2 T.length) (m:=(T.getD (aH s.2 T.length).toNat ("",0)).2+1) (by omega)
        exact⟨hq.nm,r.1,by show aH _ _≤10;omega⟩)
    refine⟨i1,?_,?_⟩
    · show((ks.foldl (bQ T) (bQ T s k)).1).length=s.1.length+(ks.length+1)
      rw[i2,uR];omega
    · show((ks.foldl (bQ T) (bQ T s k)).2).n=s.2.n+2 * ((ks.length+1:Nat):Int)
      rw[i3,zB];omega
theorem zE {T:List (Str×Int)}(ok:lE T) (hp:∀p∈T,iw p) (t:cB){most:Int}(h0:0≤most):(∀p∈(mF t T most).1,iw p)∧((mF t T most).1.length:Int)≤most∧t.n+1≤(mF t T most).2.n∧(mF t T most).2.n≤t.n+1+2 * most:=by
 obtain⟨i1,i2,i3⟩:=uW ok hp (upTo (aH t (most+1)).toNat) ([],aV t (most+1)) (fun p hp=>by cases hp)
 have r:=aO (t:=t) (m:=most+1) (by omega)
 have e:(upTo (aH t (most+1)).toNat).length=(aH t (most+1)).toNat:=by simp[upTo]
 rw[e] at i2 i3
 have i2:(mF t T most).1.length=0+(aH t (most+1)).toNat:=i2
 have i3:(mF t T most).2.n=(aV t (most+1)).n+2 * ((aH t (most+1)).toNat:Int):=i3
 rw[nK] at i3
 exact⟨i1,by omega,by omega,by omega⟩
end Sw
end
section
set_option Elab.async false
set_option linter.all false
set_option maxRecDepth 100000
namespace Sw
open PySem PySem.Spec PyProof.Rows L2
theorem BV {α:Type}{P:α→Prop}{l:List α}{i:Nat}{x:α}(h:∀a∈l,P a) (hx:P x):P (l.getD i x):=by
 by_cases hi:i < l.length
 ·exact h _ (getD_mem hi)
 ·have:l.getD i x=x:=by simp[List.getD];simp at hi;simp[hi]
  rw[this];exact hx
end Sw
end
section
set_option Elab.async false
set_option linter.all false
set_option maxRecDepth 100000
namespace Sw
open PySem PySem.Spec PyProof.Rows L2
noncomputable def wR (n:Nat):FM
 | [.s ns]=>if ns.length≤n then some (.t (.bl true),[]) else none
 | _=>none
theorem Gj {K:PySem.W.Frag}{H:Hp}{a:Addr}{ns:List Int}{n:Nat}{E:XK}(hl:ns.length≤n) (hO:C3 H) (hS:iO K H a (ns.map V.int)):spT K 1 (wR n) [.ref a] H (fun v _=>v= .bl true) E:=by
 have sc:Dd K H a ns:=by
  rcases hS with(h | h) | h
  ·rcases hO a with z | ⟨o,xs,z⟩
   ·rw[h] at z;cases z
   ·rw[h] at z;cases z
  ·exact .inl h
  ·exact .inr h
 exact⟨rfl,fun _=>none,[.s ns],.t (.bl true),[],(fun b o z=>by cases z),.cons ⟨a,rfl,sc⟩ .nil,List.nodup_nil,by simp[wR,hl],fun v F' H' _ r=>lV r⟩
end Sw
end
section
set_option Elab.async false
set_option linter.all false
set_option maxRecDepth 100000
namespace Sw
open PySem PySem.Spec PyProof.Rows L2
noncomputable def PR:Str:="abcdefghijklmnopqrstuvwxyz"
noncomputable def wU (y:Str):Bool:=!(Builtin.Str.occurrences PR y 0 PR.length 1).isEmpty
noncomputable def signs (z:Str):List Str:=z.cps.toList.map fun c=>(⟨#[c]⟩:Str)
theorem zF (z:Str):(signs z).length=z.length:=by unfold signs;rw[List.length_map];rfl
theorem BW (z:Str):sr (eF (aB 0)) [some (.t (.str z))]=some ((signs z).map D.str,[some (.t (.str z))]):=by unfold signs;rw[List.map_map];rfl
noncomputable def nameB:D→Bool
 | .str z=>decide (1≤z.length) && decide (z.length≤8) && (signs z).all wU
 | _=>false
theorem Gk (y:Str):CB [.str y,.str "abcdefghijklmnopqrstuvwxyz"]=some (.t (.bl (wU y))):=rfl
theorem jA {z:Str}(h:z.length≤20000):oK (.t (.str z))=some z.length:=by show(if z.length≤100000 then some z.length else none)=_;rw[if_pos (by omega)]
noncomputable def eV:GS:=
 (bq (qL (xT (rX (qB (Ef ["str"] (eF (aB 0))))) (xT (qB (eF (eP Mm (ah (mq 0) (ah (eC (.int 1)) aq))))) (qB (eF (eP IG (ah (mq 0) (ah (eC (.int 8)) aq))))))) (dJ (eT (eC (.bl false)))) iF)
 (dJ (eP Dn (ah (eF (qQ [] (sr (eF (aB 0))) j3 (eF (eP CB (ah (eF (aB 0)) (ah (eC (.str "abcdefghijklmnopqrstuvwxyz")) aq)))))) aq))))
noncomputable def Nx:D→Nat
 | .str z=>z.length
 | _=>0
noncomputable def rA:FM
 | [.t d]=>if Nx d≤20000 then some (.t (.bl (nameB d)),[]) else none
 | _=>none
theorem BX : ∀ us r, rA us = some r → aT 1 eV us = some r := by
  intro us r h
  unfold rA at h
  split at h
  · rename_i d
    obtain⟨hb,rfl⟩:=aL h
    cases d with
    | str z =>
      have hb:z.length≤20000:=hb
      have jA:=jA hb
      by_cases h1:(z.length:Int) < 1
      · have h2:¬1≤z.length:=by omega
        simp[aT,eV,nameB,gZ,lZ,j8,jA,h1,h2]
      · by_cases h3:(8:Int) < z.length
        · have h2:¬z.length≤8:=by omega
          simp[aT,eV,nameB,gZ,lZ,j8,jA,h1,h2,h3]
        · have h4:1≤z.length:=by omega
          have h5:z.length≤8:=by omega
          have h6:((signs z).map D.str).length≤100000:=by rw[List.length_map,zF];omega
          have ei:=BW z
          generalize hx:signs z=xs at h6 ei
          have e:=jT (cap:=[]) (g:=eF (eP CB (ah (eF (aB 0)) (ah (eC (.str "abcdefghijklmnopqrstuvwxyz")) aq)))) (S:=[some (.t (.str z))]) (ts:=[]) rfl (fun d=>match d with | .str y=>.bl (wU y) | _=>.bS) (xs.map D.str) [] (fun d hd=>by
            obtain⟨c,_,rfl⟩:=List.mem_map.mp hd
            simp[Gk])
          have e2:([]:List D)++((xs.map D.str).map fun d=>match d with | .str y=>D.bl (wU y) | _=>.bS)=xs.map fun y=>D.bl (wU y):=by rw[List.map_map];rfl
          have e3:=mG wU xs
          rw[e2] at e
          generalize xs.map D.str=L at e ei h6
          generalize (xs.map fun y=>D.bl (wU y))=M at e e3
          simp[aT,eV,nameB,gZ,lZ,j8,jA,h1,h3,h4,h5,ei,h6,e,e3,hx]
    | _=>simp[aT,eV,nameB,gZ,lZ,j8]
  · cases h
end Sw
end
section
set_option Elab.async false
set_option linter.all false
set_option maxRecDepth 100000
namespace L2
open PySem PySem.Spec PyProof.Rows
section
variable (S:SS) (d:D) (i:Nat) (g ga gb gc:GD) (gA:GA)
@[simp] theorem Ny (f:Int→Int→Int):Dz f i g S=match S[i]? with
 | some (some (.t (.int n)))=>(g S).bind fun p=>match p.1 with
  | .int m=>(jV i (.t (.int (f n m))) p.2).map .nx
  | _=>none
 | _=>none:=rfl
@[simp] theorem Nz:Bw [d,.bS]=some (.t (.bl (yg d))):=rfl
@[simp] theorem La (k:Bool):ME [.bl k]=some (.t (.int (if k then 1 else 0))):=rfl
@[simp] theorem NB (ds:List D) (k:Int):MD [.lst ds,.int k]=if 0≤k∧k.toNat≤100000∧ds.length * k.toNat≤100000 then some (.m (.lst (List.replicate k.toNat ds).flatten)) else none:=rfl
@[simp] theorem Hx (es ds:List D):Dw [.lst es] (.lst ds)=if ds.length+es.length≤100000 then some (.bS,.lst (ds++es)) else none:=rfl
@[simp] theorem Lb:yi gA S=(gA S).bind fun p=>match p.1 with
 | [d]=>(oX d).map fun q=>(j4 q.2,p.2)
 | _=>none:=rfl
@[simp] theorem Lc:Jj gA S=(gA S).bind fun p=>match p.1 with
 | [d,e]=>(oX d).bind fun q=>(oX e).map fun r=>(List.zipWith (fun a b=>.tup [a,b]) q.2 r.2,p.2)
 | _=>none:=rfl
@[simp] theorem JP (ds:List D):oX (.lst ds)=some (true,ds):=rfl
@[simp] theorem JQ (ds:List D):oX (.tup ds)=some (false,ds):=rfl
@[simp] theorem Ld (x y:Int):Ja [.int x,.int y]=some (.t (.int (if y < x then y else x))):=rfl
end
end L2
namespace Sq
open PySem PySem.Spec PyProof.Rows L2 Sw
theorem yw {bd:GB}{body:GS}:∀(ds:List D) (I:List D→SS→Prop) (S:SS),I ds S→(∀d r S,I (d :: r) S→∃S1 S2,bd d S=some S1∧body S1=some (.nx S2)∧I r S2)→∃S',loop bd body ds S=some (.nx S')∧I [] S'
 | [],I,S,h,_=>⟨S,rfl,h⟩
 | d :: ds,I,S,h,k=>by
  obtain⟨S1,S2,e1,e2,h2⟩:=k d ds S h
  obtain⟨S',e,h'⟩:=yw ds I S2 h2 k
  refine⟨S',?_,h'⟩
  show((bd d S).bind fun S1=>(body S1).bind _)=_
  rw[e1,Option.bind_some,e2,Option.bind_some]
  exact e
theorem zG {gA:GA}{S S':SS}{j:Int}(h:gA S=some ([.int j],S')) (h1:j < 1000000) (h2:-1000000 < j):ow gA S=some (tM 0 j.toNat,S'):=by
 unfold ow
 rw[h]
 simp only[Option.bind_some]
 rw[if_pos ⟨h1,h2⟩]
noncomputable abbrev fd (c i l:Int):MO:=.lst [.int c,.int i,.int l]
end Sq
end
section
set_option Elab.async false
set_option linter.all false
set_option maxRecDepth 100000
namespace L2
open PySem PySem.Spec PyProof.Rows
noncomputable def kB:Option U→Bool
 | some (.b _)=>true
 | _=>false
@[simp] theorem PU:kB none=false:=rfl
@[simp] theorem PV (d:D):kB (some (.t d))=false:=rfl
@[simp] theorem PX (o:MO):kB (some (.m o))=false:=rfl
theorem fH (i:Nat) (u:U) (S:SS):jV i u S=(S[i]?).bind fun x=>if kB x then none else some (S.set i (some u)):=by
 unfold jV
 cases S[i]? with
 | none=>rfl
 | some x=>cases x with
  | none=>rfl
  | some u=>cases u <;> rfl
@[simp] theorem NC (n:Nat) (bs:Ag) (ds:List D) (S:SS):qh n bs (.tup ds) S=if ds.length=n then bs ds S else none:=rfl
@[simp] theorem Le (b:GB) (bs:Ag) (d:D) (r:List D) (S:SS):gY b bs (d :: r) S=(b d S).bind fun S1=>bs r S1:=rfl
@[simp] theorem ND (S:SS):ou [] S=some S:=rfl
@[simp] theorem Lf (S:SS):Jk S=some (.m (.vR []),S):=rfl
@[simp] theorem Lg (S:SS):Jl S=some (.m (.dct []),S):=rfl
@[simp] theorem JR (z:Str):mV (.str z)=true:=rfl
@[simp] theorem JV (b:Bool):mV (.bl b)=true:=rfl
@[simp] theorem JX (b:Int):mV (.int b)=true:=rfl
@[simp] theorem JK (g:GD) (lo hi:Option GD) (S:SS):Px g lo hi S=(g S).bind fun p=>(gM lo p.2).bind fun l=>(gM hi l.2).bind fun h=>(Ei p.1 l.1 h.1).map fun u=>(u,h.2):=rfl
@[simp] theorem Hy (S:SS):gM none S=some (none,S):=rfl
@[simp] theorem Hz (g:GD) (S:SS):gM (some g) S=(g S).bind fun p=>match p.1 with | .int i=>some (some i,p.2) | _=>none:=rfl
@[simp] theorem DG (ds:List D) (lo hi:Option Int):Ei (.tup ds) lo hi=some (.t (.tup (cutD ds lo hi))):=rfl
@[simp] theorem DH (ds:List D) (lo hi:Option Int):Ei (.lst ds) lo hi=some (.m (.lst (cutD ds lo hi))):=rfl
@[simp] theorem JY (d:D) (ds:List D):FG [d] (.lst ds)=if bu ds≤40∧ds.length < 100000 then(FF d ds).map fun j=>(.int (j:Nat),.lst ds) else none:=rfl
@[simp] theorem Gm (ds:List D):uu [] (.lst ds)=some (.bS,.lst ds.reverse):=rfl
theorem pG {bd:GB}{body:GS}(ds:List D) (I:Nat→SS→Prop) (S:SS) (h0:I 0 S) (hs:∀j d S,ds[j]? =some d→I j S→∃S1 S2,bd d S=some S1∧body S1=some (.nx S2)∧I (j+1) S2):∃S',loop bd body ds S=some (.nx S')∧I ds.length S':=by
 obtain⟨S',e,j,hr,hj,hI⟩:=Sq.yw (bd:=bd) (body:=body) ds (fun r S=>∃j,ds.drop j=r∧j≤ds.length∧I j S) S ⟨0,rfl,Nat.zero_le _,h0⟩ (by
  rintro d r S ⟨j,hr,hj,hI⟩
  have hlt:j < ds.length:=by
   have:=congrArg List.length hr
   rw[List.length_drop,List.length_cons] at this
   omega
  rw[List.drop_eq_getElem_cons hlt] at hr
  injection hr with h1 h2
  obtain⟨S1,S2,e1,e2,h3⟩:=hs j d S (by rw[List.getElem?_eq_getElem hlt,h1]) hI
  exact⟨S1,S2,e1,e2,j+1,h2,hlt,h3⟩)
 have:j=ds.length:=by
  have:=congrArg List.length hr
  rw[List.length_drop,List.length_nil] at this
  omega
 subst this
 exact⟨S',e,hI⟩
theorem DK {n j:Nat}{d:D}(h:(tM 0 n)[j]? =some d):j < n∧d= .int j:=by
 unfold tM at h
 rw[List.getElem?_map] at h
 cases e:(List.range n)[j]? with
 | none=>rw[e] at h;cases h
 | some k=>
  rw[e] at h
  obtain⟨h1,h2⟩:=List.getElem?_eq_some_iff.mp e
  rw[List.getElem_range] at h2
  rw[List.length_range] at h1
  subst h2
  refine⟨h1,?_⟩
  have:=Option.some.inj h
  rw[←this]
  show D.int (0+(j:Int))=_
  rw[Int.zero_add]
end L2
end
section
set_option Elab.async false
set_option linter.all false
set_option maxRecDepth 100000
namespace Sr
open PySem PySem.Spec PyProof.Rows L2 Sw
theorem BY {c:Nat}:∀{a b r s:List Nat},c∉a→c∉b→a++c :: r=b++c :: s→a=b∧r=s
 | [],[],r,s,_,_,h=>by cases h;exact⟨rfl,rfl⟩
 | [],y :: b,r,s,_,hb,h=>by cases h;exact absurd List.mem_cons_self hb
 | x :: a,[],r,s,ha,_,h=>by cases h;exact absurd List.mem_cons_self ha
 | x :: a,y :: b,r,s,ha,hb,h=>by
  injection h with h1 h2
  obtain⟨e1,e2⟩:=BY (fun m=>ha (List.mem_cons_of_mem _ m)) (fun m=>hb (List.mem_cons_of_mem _ m)) h2
  rw[h1,e1]
  exact⟨rfl,e2⟩
theorem jB (c:Nat) (a b:Str) (r:List Str):(Str.join ⟨#[c]⟩ (a :: b :: r)).cps.toList=a.cps.toList++c :: (Str.join ⟨#[c]⟩ (b :: r)).cps.toList:=by
 show(a++⟨#[c]⟩++Str.join ⟨#[c]⟩ (b :: r)).cps.toList=_
 simp only[Str.cps_append,Array.toList_append]
 simp
theorem uX {c:Nat}:∀{as bs:List Str},as≠[]→bs≠[]→(∀p∈as,c∉p.cps.toList)→(∀p∈bs,c∉p.cps.toList)→Str.join ⟨#[c]⟩ as=Str.join ⟨#[c]⟩ bs→as=bs
 | [],_,h,_,_,_,_=>absurd rfl h
 | _,[],_,h,_,_,_=>absurd rfl h
 | [a],[b],_,_,_,_,h=>by rw[show a=b from h]
 | [a],b :: b2 :: r,_,_,ha,hb,h=>by
  have e:=congrArg (fun z:Str=>z.cps.toList) h
  rw[jB] at e
  refine absurd ?_ (ha a List.mem_cons_self)
  rw[show a.cps.toList=_ from e]
  exact List.mem_append_right _ List.mem_cons_self
 | a :: a2 :: r,[b],_,_,ha,hb,h=>by
  have e:=congrArg (fun z:Str=>z.cps.toList) h
  rw[jB] at e
  refine absurd ?_ (hb b List.mem_cons_self)
  rw[show b.cps.toList=_ from e.symm]
  exact List.mem_append_right _ List.mem_cons_self
 | a :: a2 :: r,b :: b2 :: s,_,_,ha,hb,h=>by
  have e:=congrArg (fun z:Str=>z.cps.toList) h
  rw[jB,jB] at e
  obtain⟨e1,e2⟩:=BY (ha a List.mem_cons_self) (hb b List.mem_cons_self) e
  have q:Str.join ⟨#[c]⟩ (a2 :: r)=Str.join ⟨#[c]⟩ (b2 :: s):=Str.ext' (Array.toList_inj.mp e2)
  have ab:a=b:=Str.ext' (Array.toList_inj.mp e1)
  rw[ab,uX (List.cons_ne_nil _ _) (List.cons_ne_nil _ _) (fun p hp=>ha p (List.mem_cons_of_mem _ hp)) (fun p hp=>hb p (List.mem_cons_of_mem _ hp)) q]
theorem wV {ws:List Str}(h0:ws≠[]) (hf:∀p∈ws,32∉p.cps.toList):Txt.split (Txt.join " " ws) " " =ws:=by
 have e:(" ":Str)=⟨#[32]⟩:=rfl
 rw[e]
 have j:Txt.join ⟨#[32]⟩ ws=Str.join ⟨#[32]⟩ ws:=StrLaws.glued_eq_join _ _
 rw[j]
 refine uX (fun z=>?_) h0 (StrLaws.split_free _ 32) hf (StrLaws.join_split _ _)
 have:=PyProof.Rows.split_pos (Str.join ⟨#[32]⟩ ws) ⟨#[32]⟩
 rw[z] at this
 exact absurd this (by decide)
noncomputable def NF:List Str:=["0","1","2","3","4","5"]
noncomputable def dig (k:Int):Str:=NF.getD k.toNat ""
noncomputable def word (p:Str×Int):Str:=(p.1++".")++dig p.2
structure kL (p:Str×Int):Prop where
 nm:p.1∈bX
 lo:0≤p.2
 hi:p.2≤5
theorem w_all {P:Str×Int→Prop}(h:∀z∈bX,∀k∈([0,1,2,3,4,5]:List Int),P (z,k)){p:Str×Int}(hp:kL p):P p:=by
 obtain⟨z,k⟩:=p
 refine h z hp.nm k ?_
 have a:0≤k:=hp.lo
 have b:k≤5:=hp.hi
 have:k=0∨k=1∨k=2∨k=3∨k=4∨k=5:=by omega
 rcases this with rfl | rfl | rfl | rfl | rfl | rfl <;> simp
theorem zH {p:Str×Int}(h:kL p):32∉(word p).cps.toList:=w_all (P:=fun p=>32∉(word p).cps.toList) (by decide +kernel) h
theorem uY {p:Str×Int}(h:kL p):(word p).length≤10:=w_all (P:=fun p=>(word p).length≤10) (by decide +kernel) h
theorem DL {p:Str×Int}(h:kL p):3≤(word p).length:=w_all (P:=fun p=>3≤(word p).length) (by decide +kernel) h
theorem zI {p:Str×Int}(h:kL p):Txt.partition (word p) "." =(p.1,(".":Str),dig p.2):=w_all (P:=fun p=>Txt.partition (word p) "." =(p.1,(".":Str),dig p.2)) (by decide +kernel) h
theorem BZ {k:Int}(h0:0≤k) (h1:k≤5):rm [.int k]=some (.t (.str (dig k))):=by
 have:k=0∨k=1∨k=2∨k=3∨k=4∨k=5:=by omega
 rcases this with rfl | rfl | rfl | rfl | rfl | rfl <;> rfl
theorem Gn {k:Int}(h0:0≤k) (h1:k≤5):CA [.str "0123456789",.int k]=some (.t (.str (dig k))):=by
 have:k=0∨k=1∨k=2∨k=3∨k=4∨k=5:=by omega
 rcases this with rfl | rfl | rfl | rfl | rfl | rfl <;> rfl
theorem DM {z:Str}(h:z∈bX):rA [.t (.str z)]=some (.t (.bl true),[]):=by
 have e:∀z∈bX,nameB (.str z)=true∧z.length≤20000:=by decide +kernel
 show(if z.length≤20000 then some (U.t (.bl (nameB (.str z))),[]) else none)=_
 rw[if_pos (e z h).2,(e z h).1]
theorem B0 {k:Int}(h0:0≤k) (h1:k≤5):g6 [("0",0),("1",1),("2",2),("3",3),("4",4),("5",5),("6",6),("7",7),("8",8),("9",9)] (dig k)=some k:=by
 have:k=0∨k=1∨k=2∨k=3∨k=4∨k=5:=by omega
 rcases this with rfl | rfl | rfl | rfl | rfl | rfl <;> rfl
theorem Gp (kvs:List (Str×Int)) (g:GD) (S:SS):FI kvs g S=(g S).bind fun p=>match p.1 with | .str z=>(g6 kvs z).map fun i=>(.int i,p.2) | _=>none:=rfl
theorem B3 (n:Bool) (kvs:List (Str×Int)) (g:GD) (S:SS):oZ n kvs g S=(g S).bind fun p=>match p.1 with | .str z=>some (.bl (n != (g6 kvs z).isSome),p.2) | _=>none:=rfl
theorem Gq (a b c:D):gC [a,b,c] 0=some a:=rfl
theorem Gr (a b c:D):gC [a,b,c] 2=some c:=rfl
noncomputable def fR (jC:FM):GS:=
 (bq (cV 1 (eP q9 (ah (eF (aB 0)) (ah (eC (.str ".")) aq))))
 (bq (qL (xT (rX (qB (eF (bA jC (cu (dN 1 (eC (.int 0))) cQ))))) (qB (oZ true [("0",0),("1",1),("2",2),("3",3),("4",4),("5",5),("6",6),("7",7),("8",8),("9",9)] (dN 1 (eC (.int 2)))))) (dJ (eT (eC .bS))) iF)
 (dJ (eP lT (ah (dN 1 (eC (.int 0))) (ah (FI [("0",0),("1",1),("2",2),("3",3),("4",4),("5",5),("6",6),("7",7),("8",8),("9",9)] (dN 1 (eC (.int 2)))) aq))))))
noncomputable def pairF:FM:=aT 2 (fR rA)
theorem B4:∀us r,pairF us=some r→aT 2 (fR rA) us=some r:=fun _ _ h=>h
theorem yx {p:Str×Int}(h:kL p):pairF [.t (.str (word p))]=some (.t (dw p),[]):=by
 have e1:=DM h.nm
 have e2:=zI h
 have e3:(word p).length≤100000:=Nat.le_trans (uY h) (by decide)
 have e4:q9 [.str (word p),.str "."]=some (.t (.tup [.str p.1,.str ".",.str (dig p.2)])):=by
  show(if _ then some (U.t (.tup [.str (Txt.partition (word p) ".").1,.str (Txt.partition (word p) ".").2.1,.str (Txt.partition (word p) ".").2.2])) else none)=_
  rw[if_pos ⟨rfl,e3⟩,e2]
 have e5:=B0 h.lo h.hi
 simp[pairF,aT,fR,e4,e1,e5,Gq,Gr,Gp,B3,aE,dw]
end Sr
end
section
set_option Elab.async false
set_option linter.all false
set_option maxRecDepth 100000
namespace Sr
open PySem PySem.Spec PyProof.Rows L2 Sw
noncomputable def B5:D→D
 | .tup [.str z,.int k]=>.str (word (z,k))
 | _=>.bS
theorem rB {α:Type}(f:α→Str):∀L:List α,lB (L.map fun p=>D.str (f p))=some (L.map f)
 | []=>rfl
 | a :: L=>by show(lB (L.map fun p=>D.str (f p))).map _=_;rw[rB f L];rfl
theorem B6 {p:Str×Int}(h:kL p):p.1.length+(Str.ofString ".").length≤100000∧(p.1++Str.ofString ".").length+(dig p.2).length≤100000:=w_all (P:=fun p=>p.1.length+(Str.ofString ".").length≤100000∧(p.1++Str.ofString ".").length+(dig p.2).length≤100000) (by decide +kernel) h
noncomputable def kM (T:List (Str×Int)):Str:=Txt.join " " (T.map word)
theorem wW:∀{T:List (Str×Int)},(∀p∈T,kL p)→((T.map word).map (·.length)).sum≤10 * T.length
 | [],_=>Nat.le_refl _
 | p :: T,h=>by
  have:=wW fun q hq=>h q (List.mem_cons_of_mem _ hq)
  have:=uY (h p List.mem_cons_self)
  simp only[List.map_cons,List.sum_cons,List.length_cons]
  omega
theorem zJ {T:List (Str×Int)}(h:∀p∈T,kL p) (hl:T.length≤1000):JoinOk " " (T.map word)=true:=by
 refine joinOk_of_weight ?_ (by decide)
 have:=wW h
 rw[List.length_map]
 omega
theorem uZ {T:List (Str×Int)}(h:∀p∈T,kL p) (hl:T.length≤1000):o7 [.str " ",.lst (T.map fun p=>D.str (word p))]=some (.t (.str (kM T))):=by
 show((lB (T.map fun p=>D.str (word p))).bind fun zs=>if JoinOk " " zs=true then some (U.t (.str (Txt.join " " zs))) else none)=_
 rw[rB word T,Option.bind_some,if_pos (zJ h hl)]
 rfl
theorem Gs (a b:D):gC [a,b] 0=some a:=rfl
theorem JZ (a b:D):gC [a,b] 1=some b:=rfl
noncomputable def cS:GS:=
 (dJ (eP o7 (ah (eC (.str " ")) (ah (eF (qQ [] (sr (eF (aB 0))) j3 (eF (eP eO (ah (eF (eP eO (ah (dN 0 (eC (.int 0))) (ah (eC (.str ".")) aq)))) (ah (eF (eP rm (ah (dN 0 (eC (.int 1))) aq))) aq)))))) aq))))
noncomputable def iY:FM:=aT 1 cS
theorem zK:∀us r,iY us=some r→aT 1 cS us=some r:=fun _ _ h=>h
theorem u5 {d:D}{T:List (Str×Int)}(hd:d= .tup (T.map dw)∨d= .lst (T.map dw)) (h:∀p∈T,kL p) (hl:T.length≤1000):iY [.t d]=some (.t (.str (kM T)),[]):=by
 have e:=jT (cap:=[]) (g:=eF (eP eO (ah (eF (eP eO (ah (dN 0 (eC (.int 0))) (ah (eC (.str ".")) aq)))) (ah (eF (eP rm (ah (dN 0 (eC (.int 1))) aq))) aq)))) (S:=[some (.t d)]) (ts:=[]) rfl B5 (T.map dw) [] (fun x hx=>by
  obtain⟨p,hp,rfl⟩:=List.mem_map.mp hx
  have w:=h p hp
  have e1:=BZ w.lo w.hi
  obtain⟨l1,l2⟩:=B6 w
  simp[dw,Gs,JZ,e1,B5,word,l1,l2])
 have e2:([]:List D)++(T.map dw).map B5=T.map fun p=>D.str (word p):=by rw[List.nil_append,List.map_map];rfl
 rw[e2] at e
 have e3:=uZ h hl
 have e4:T.length≤100000:=by omega
 rcases hd with rfl | rfl
 ·simp[iY,aT,cS,sN,e4,e,e3,aE]
 ·simp[iY,aT,cS,sN,e4,e,e3,aE]
noncomputable def dQ (bx:FM):GS:=
 (bq (qL (qB (eF (eP Dl (ah (mq 0) (ah (eC (.int 0)) aq))))) (dJ (eT (eC (.str "-")))) iF)
 (dJ (bA bx (cu (eF (aB 0)) cQ))))
noncomputable def eY:FM:=aT 1 (dQ iY)
theorem sP:∀us r,eY us=some r→aT 1 (dQ iY) us=some r:=fun _ _ h=>h
noncomputable def due (T:List (Str×Int)):Str:=if T=[] then "-" else kM T
theorem u6 {d:D}{T:List (Str×Int)}(hd:d= .tup (T.map dw)∨d= .lst (T.map dw)) (h:∀p∈T,kL p) (hl:T.length≤1000):eY [.t d]=some (.t (.str (due T)),[]):=by
 have e:=u5 hd h hl
 have e4:T.length≤100000:=by omega
 by_cases q:T=[]
 ·subst q
  rcases hd with rfl | rfl <;> simp[eY,aT,dQ,oK,due,aE]
 ·have q2:¬((T.length:Int)=0):=fun z=>q (List.length_eq_zero_iff.mp (by omega))
  rcases hd with rfl | rfl <;> simp[eY,aT,dQ,oK,due,aE,q,q2,e,e4]
noncomputable def dI (bx:FM):GS:=
 (dJ (bA bx (cu (eF (aB 0)) cQ)))
noncomputable def eZ:FM:=aT 1 (dI iY)
theorem sQ:∀us r,eZ us=some r→aT 1 (dI iY) us=some r:=fun _ _ h=>h
theorem u9 {T:List (Str×Int)}(h:∀p∈T,kL p) (hl:T.length≤1000):eZ [.t (.tup (T.map dw))]=some (.t (.str (kM T)),[]):=by
 have e:=u5 (.inl rfl) h hl
 simp[eZ,aT,dI,e,aE]
noncomputable def fS:GS:=
 (dJ (eP o7 (ah (eC (.str " ")) (ah (eF (sH [] (Di (eF (aB 0))) j3 (eF (eP eO (ah (eF (eP eO (ah (eF (aB 0)) (ah (eC (.str ".")) aq)))) (ah (eF (eP CA (ah (eC (.str "0123456789")) (ah (eF (aB 1)) aq)))) aq)))))) aq))))
noncomputable def m9:FM:=aT 1 fS
theorem B7:∀us r,m9 us=some r→aT 1 fS us=some r:=fun _ _ h=>h
theorem rC {g:GD}{S:SS}(f:Str×Int→D):∀(L:List (Str×Int)) (acc:List D),(∀p∈L,g [some (.t (.str p.1)),some (.t (.int p.2))]=some (f p,[some (.t (.str p.1)),some (.t (.int p.2))]))→jw [] j3 g (L.map dw) S acc=some (acc++L.map f,S)
 | [],acc,_=>by simp[jw]
 | p :: L,acc,h=>by
  have e:=h p List.mem_cons_self
  have ih:=rC (S:=S) f L (acc++[f p]) fun q hq=>h q (List.mem_cons_of_mem _ hq)
  simp[jw,dw,gq,slotsOf,bL,bF,j3,e,aE,wb]
  rw[ih]
  simp
theorem yy {T:List (Str×Int)}(h:∀p∈T,kL p) (hl:T.length≤1000):m9 [.t (.tup (T.map dw))]=some (.t (.str (kM T)),[]):=by
 have e:=rC (g:=eF (eP eO (ah (eF (eP eO (ah (eF (aB 0)) (ah (eC (.str ".")) aq)))) (ah (eF (eP CA (ah (eC (.str "0123456789")) (ah (eF (aB 1)) aq)))) aq)))) (S:=[some (.t (.tup (T.map dw)))]) (fun p=>.str (word p)) T [] (fun p hp=>by
  have w:=h p hp
  have e1:=Gn w.lo w.hi
  obtain⟨l1,l2⟩:=B6 w
  simp[e1,word,l1,l2])
 rw[List.nil_append] at e
 have e3:=uZ h hl
 have e4:T.length≤100000:=by omega
 simp[m9,aT,fS,sH,Di,e4,e,e3,aE]
end Sr
end
section
set_option Elab.async false
set_option linter.all false
set_option maxRecDepth 100000
namespace Sr
open PySem PySem.Spec PyProof.Rows L2 Sw
theorem B8:∀(p:Str) (R:List Str),p.cps.toList.length≤(Str.join ⟨#[32]⟩ (p :: R)).cps.toList.length
 | p,[]=>Nat.le_refl _
 | p,q :: R=>by rw[jB,List.length_append];omega
theorem B9 (T:List (Str×Int)):kM T=Str.join ⟨#[32]⟩ (T.map word):=StrLaws.glued_eq_join _ _
theorem Gu {R:List (Str×Int)}(h:∀p∈R,kL p) (h0:R≠[]):iD (.str (kM R)) (.str "-")=false:=by
 cases R with
 | nil=>exact absurd rfl h0
 | cons p R=>
  have a:=DL (h p List.mem_cons_self)
  have b:=B8 (word p) (R.map word)
  have c:(word p).cps.toList.length=(word p).length:=by simp[Str.length]
  have e:kM (p :: R)≠"-":=fun z=>by
   rw[B9] at z
   rw[show(p :: R).map word=word p :: R.map word from rfl] at z
   rw[z,c] at b
   have:(("-":Str).cps.toList).length=1:=by decide
   omega
  cases q:iD (.str (kM (p :: R))) (.str "-") with
  | false=>rfl
  | true=>exact absurd (by have:=rz q;injection this with t;exact t.symm) e
theorem vc {R:List (Str×Int)}(h:∀p∈R,kL p) (h0:R≠[]) (hl:R.length≤1000):kj [.str (kM R),.str " "]=some (.m (.lst (R.map fun p=>D.str (word p)))):=by
 have e:Txt.split (kM R) " " =R.map word:=wV (by simpa using h0) (fun z hz=>by
  obtain⟨p,hp,rfl⟩:=List.mem_map.mp hz
  exact zH (h p hp))
 have l1:(kM R).length≤100000:=by
  rw[B9]
  have a:=StrLaws.join_length_le (⟨#[32]⟩:Str) (R.map word)
  have b:=wW h
  have c:(⟨#[32]⟩:Str).length=1:=rfl
  rw[c,List.length_map] at a
  omega
 have l2:(Txt.split (kM R) " ").length≤100000:=by rw[e,List.length_map];omega
 show(if _ then some (U.m (.lst ((Txt.split (kM R) " ").map D.str))) else none)=_
 rw[if_pos ⟨by decide,l1,l2⟩,e,List.map_map]
 rfl
theorem vd {R:List (Str×Int)}{j:Nat}{d:D}(h:(j4 (R.map fun p=>D.str (word p)))[j]? =some d):∃p,R[j]? =some p∧d= .tup [.int j,.str (word p)]:=by
 unfold j4 at h
 rw[List.getElem?_mapIdx,List.getElem?_map] at h
 cases q:R[j]? with
 | none=>rw[q] at h;cases h
 | some p=>rw[q] at h;cases h;exact⟨p,rfl,rfl⟩
theorem jU {R:List (Str×Int)}{j:Nat}{p:Str×Int}(h:R[j]? =some p):R.take (j+1)=R.take j++[p]:=by rw[List.take_succ,h];rfl
theorem ve (R:List (Str×Int)):(j4 (R.map fun p=>D.str (word p))).length=R.length:=by unfold j4;simp
noncomputable def g7 (aY:FM) (cD:FM):GS:=
 (bq (cV 5 (bA aY (cu (eF (aB 4)) cQ)))
 (bq (qL (rX (qB (eF (bA cD (cu (eF (aB 0)) (cu (eF (aB 5)) cQ)))))) Kz iF)
 (xV (eT (eM 2 hAppend (ah (eF (aB 5)) aq))))))
noncomputable def fc (aY:FM) (cD:FM):GS:=
 (bq (qL (qB (eF (eP Dl (ah (eF (aB 1)) (ah (eC (.str "-")) aq))))) (dJ (eP lT aq)) iF)
 (bq (cV 2 (eP nC aq))
 (bq (oz (qh 2 (gY (bName 3) (gY (bName 4) ou))) (yi (ah (eF (eP kj (ah (eF (aB 1)) (ah (eC (.str " ")) aq)))) aq)) (g7 aY cD))
 (dJ (eP jv (ah (eF (aB 2)) aq))))))
noncomputable def fT:FM:=aT 6 (fc pairF sO)
theorem vf:∀us r,fT us=some r→aT 6 (fc pairF sO) us=some r:=fun _ _ h=>h
theorem Ca {T:List (Str×Int)}{d:D}(h:T.length≤1000):sO [.t (bD T),.t d]=some (.t (.bl (lF T d)),[]):=by simp[sO,h]
theorem zL {T:List (Str×Int)}{td:D}{acc:List D}{j:Int}{p:Str×Int}{x5:Option U}(hT:T.length≤1000) (w:kL p) (hh:lF T (dw p)=true) (ha:acc.length < 100000) (h5:kB x5=false):
  g7 pairF sO [some (.t (bD T)),some (.t td),some (.m (.lst acc)),some (.t (.int j)),some (.t (.str (word p))),x5]=some (.nx [some (.t (bD T)),some (.t td),some (.m (.lst (acc++[dw p]))),some (.t (.int j)),some (.t (.str (word p))),some (.t (dw p))]):=by
 have e1:=yx w
 have e2:=Ca (d:=dw p) hT
 rw[hh] at e2
 simp[-ig,fH,g7,e1,e2,hAppend,ha,h5]
theorem wX {T R : List (Str × Int)} (hT : T.length ≤ 1000) (hR : ∀ p ∈ R, kL p) (hl : R.length ≤ 1000) (hh : ∀ p ∈ R, lF T (dw p) = true) : fT [.t (bD T), .t (.str (due R))] = some (.t (.tup (R.map dw)), []) := by
  by_cases q:R=[]
  · subst q
    have e:iD (.str (due [])) (.str "-")=true:=by decide +kernel
    simp[fT,aT,fc,e,aE]
  · have ed:due R=kM R:=if_neg q
    rw[ed]
    have e1:=Gu hR q
    have e2:=vc hR q hl
    obtain⟨S',e3,x3,x4,x5,q3,q4,q5,rfl⟩:=pG (bd:=qh 2 (gY (bName 3) (gY (bName 4) ou))) (body:=g7 pairF sO) (j4 (R.map fun p=>D.str (word p)))
      (fun j S=>∃x3 x4 x5,kB x3=false∧kB x4=false∧kB x5=false∧S=[some (.t (bD T)),some (.t (.str (kM R))),some (.m (.lst ((R.take j).map dw))),x3,x4,x5])
      [some (.t (bD T)),some (.t (.str (kM R))),some (.m (.lst [])),none,none,none] ⟨none,none,none,rfl,rfl,rfl,rfl⟩ (by
        rintro j d S hd ⟨x3,x4,x5,q3,q4,q5,rfl⟩
        obtain⟨p,hp,rfl⟩:=vd hd
        have hm:=List.mem_of_getElem? hp
        have lt:((R.take j).map dw).length < 100000:=by rw[List.length_map,List.length_take];omega
        refine⟨_,_,?_,zL (td:=.str (kM R)) (j:=(j:Int)) hT (hR p hm) (hh p hm) lt q5,some (.t (.int (j:Int))),some (.t (.str (word p))),some (.t (dw p)),rfl,rfl,rfl,?_⟩
        · simp[-ig,fH,ou,q3,q4]
        rw[jU hp,List.map_append]
        rfl)
    rw[ve,List.take_length] at e3
    simp[fT,aT,fc,e1,e2,sJ,oX,e3,aE,jv]
noncomputable def tot:List (Str×Int)→Int
 | []=>0
 | p :: T=>p.2+1+tot T
theorem lG (p:Str×Int):∀T:List (Str×Int),tot (T++[p])=tot T+p.2+1
 | []=>by show p.2+1+0=0+p.2+1;omega
 | q :: T=>by show q.2+1+tot (T++[p])=q.2+1+tot T+p.2+1;rw[lG p T];omega
theorem pH:∀(T:List (Str×Int)) (j:Nat),(∀p∈T,0≤p.2)→tot (T.take j)≤tot T
 | [],j,_=>by simp
 | p :: T,0,h=>by
  have a:=pH T 0 fun q hq=>h q (List.mem_cons_of_mem _ hq)
  have b:=h p List.mem_cons_self
  have c:tot (T.take 0)=0:=by simp[tot]
  show(0:Int)≤p.2+1+tot T
  omega
 | p :: T,j+1,h=>by
  have a:=pH T j fun q hq=>h q (List.mem_cons_of_mem _ hq)
  show p.2+1+tot (T.take j)≤p.2+1+tot T
  omega
theorem Gv {z:Str}{L:List (Str×Int)}(h:z∉L.map (·.1)):inD (.str z) (L.map fun p=>D.str p.1)=false:=by
 unfold inD
 rw[List.any_map,List.any_eq_false]
 intro p hp q
 have:=rz (show iD (.str p.1) (.str z)=true from q)
 injection this with t
 exact h (List.mem_map.mpr ⟨p,hp,t.symm⟩)
theorem vg:∀L:List (Str×Int),bu (L.map fun p=>D.str p.1)≤40
 | []=>Nat.zero_le _
 | p :: L=>by
  have:=vg L
  show max (fK (.str p.1)) (bu (L.map fun p=>D.str p.1))≤40
  have e:fK (.str p.1)=0:=rfl
  omega
noncomputable def headD:D→D
 | .tup (a :: _)=>a
 | _=>.bS
theorem Cb (i:Nat) (q:GT) (g:GD) (S:SS):o9 i q g S=match S[i]? with
 | some (some (.m (.lst ds)))=>if ds.length≤100000 then(gH [] q g ds S []).map fun r=>(.m (.lst r.1),r.2) else none
 | some (some (.b (.lst ds)))=>if ds.length≤100000 then(gH [] q g ds S []).map fun r=>(.m (.lst r.1),r.2) else none
 | _=>none:=rfl
noncomputable def fJ (aY:FM):GS:=
 (bq (cV 5 (bA aY (cu (eF (aB 4)) cQ)))
 (bq (qL (xT (qB (eF (eP Bw (ah (eF (aB 5)) (ah (eC .bS) aq))))) (xT (qB (eF (eP IG (ah (dN 5 (eC (.int 1))) (ah (eC (.int 5)) aq))))) (qB (eF (eP Pw (ah (eF (aB 3)) (ah (eC (.int 4)) aq))))))) Kz iF)
 (bq (Dz (fun i j=>i - j) 2 (eF (eP eO (ah (dN 5 (eC (.int 1))) (ah (eC (.int 1)) aq)))))
 (bq (qL (xT (qB (eF (eP Mm (ah (eF (aB 2)) (ah (eC (.int 0)) aq))))) (qB (eF (eP CB (ah (dN 5 (eC (.int 0))) (ah (eF (o9 1 j3 (dN 0 (eC (.int 0))))) aq)))))) Kz iF)
 (xV (eT (eM 1 hAppend (ah (eF (aB 5)) aq))))))))
noncomputable def eu (aY:FM):GS:=
 (bq (cV 1 (eP nC aq))
 (bq (cV 2 (eT (eC (.int 12))))
 (bq (oz (qh 2 (gY (bName 3) (gY (bName 4) ou))) (yi (ah (eF (eP kj (ah (eF (aB 0)) (ah (eC (.str " ")) aq)))) aq)) (fJ aY))
 (dJ (eP jv (ah (eF (aB 1)) aq))))))
noncomputable def gP:FM:=aT 6 (eu pairF)
theorem vh:∀us r,gP us=some r→aT 6 (eu pairF) us=some r:=fun _ _ h=>h
theorem zM {td:D}{A:List (Str×Int)}{l j:Int}{p:Str×Int}{x5:Option U}(w:kL p) (ha:A.length < 1000) (hj:j < 4) (Rf:0≤l - (p.2+1)) (hn:p.1∉A.map (·.1)) (h5:kB x5=false):
  fJ pairF [some (.t td),some (.m (.lst (A.map dw))),some (.t (.int l)),some (.t (.int j)),some (.t (.str (word p))),x5]=some (.nx [some (.t td),some (.m (.lst (A.map dw++[dw p]))),some (.t (.int (l - (p.2+1)))),some (.t (.int j)),some (.t (.str (word p))),some (.t (dw p))]):=by
 have e1:=yx w
 have e:=jT (cap:=[]) (g:=dN 0 (eC (.int 0))) (S:=[some (.t td),some (.m (.lst (A.map dw))),some (.t (.int (l - (p.2+1)))),some (.t (.int j)),some (.t (.str (word p))),some (.t (.tup [.str p.1,.int p.2]))]) (ts:=[]) rfl headD (A.map dw) [] (fun x hx=>by
  obtain⟨q,hq,rfl⟩:=List.mem_map.mp hx
  simp[dw,Gs,headD])
 have e2:([]:List D)++(A.map dw).map headD=A.map fun p=>D.str p.1:=by rw[List.nil_append,List.map_map];rfl
 rw[e2] at e
 have e3:=Gv hn
 have e4:=vg A
 have e5:A.length≤100000:=by omega
 have e6:A.length < 100000:=by omega
 have c1:¬(5 < p.2):=by have:=w.hi;omega
 have c2:¬(4≤j):=by omega
 have c3:¬(l - (p.2+1) < 0):=by omega
 rw[dw] at e1
 simp[-ig,fH,fJ,e1,Cb,Gs,JZ,e,e3,e4,e5,e6,c1,c2,c3,hAppend,h5,dw,Bw,yg,CB]
theorem wY {T : List (Str × Int)} (h0 : T ≠ []) (hT : ∀ p ∈ T, kL p) (hl : T.length ≤ 4) (ht : tot T ≤ 12) (nd : (T.map (·.1)).Nodup) : gP [.t (.str (kM T))] = some (.t (.tup (T.map dw)), []) := by
  have e2:=vc hT h0 (by omega)
  obtain⟨S',e3,x3,x4,x5,q3,q4,q5,rfl⟩:=pG (bd:=qh 2 (gY (bName 3) (gY (bName 4) ou))) (body:=fJ pairF) (j4 (T.map fun p=>D.str (word p)))
    (fun j S=>∃x3 x4 x5,kB x3=false∧kB x4=false∧kB x5=false∧S=[some (.t (.str (kM T))),some (.m (.lst ((T.take j).map dw))),some (.t (.int (12 - tot (T.take j)))),x3,x4,x5])
    [some (.t (.str (kM T))), some (.m (.lst [])), some (.t (.int 12)), none, none, none] ⟨none, none, none, rfl, rfl, rfl, rfl⟩ (by
      rintro j d S hd ⟨x3,x4,x5,q3,q4,q5,rfl⟩
      obtain⟨p,hp,rfl⟩:=vd hd
      have hm:=List.mem_of_getElem? hp
      have hj:j < T.length:=(List.getElem?_eq_some_iff.mp hp).1
      have t1:=pH T (j+1) fun q hq=>(hT q hq).lo
      rw[jU hp,lG] at t1
      have hn:p.1∉(T.take j).map (·.1):=fun z=>by
        have e:T=T.take j++p :: T.drop (j+1):=by
          have:=List.take_append_drop (j+1) T
          rw[jU hp,List.append_assoc] at this
          exact this.symm
        rw[e,List.map_append,List.map_cons] at nd
        exact(List.nodup_append.mp nd).2.2 _ z _ List.mem_cons_self rfl
      refine⟨_,_,?_,zM (td:=.str (kM T)) (A:=T.take j) (l:=12 - tot (T.take j)) (j:=(j:Int)) (hT p hm) (by rw[List.length_take];omega) (by omega) (by omega) hn q5,some (.t (.int (j:Int))),some (.t (.str (word p))),some (.t (dw p)),rfl,rfl,rfl,?_⟩
      · simp[-ig,fH,ou,q3,q4]
      rw[jU hp,List.map_append,lG]
      have:12 - tot (T.take j) - (p.2+1)=12 - (tot (T.take j)+p.2+1):=by omega
      rw[this]
      rfl)
  rw[ve,List.take_length] at e3
  simp[gP,aT,eu,e2,sJ,oX,e3,aE,jv]
end Sr
end
section
set_option Elab.async false
set_option linter.all false
set_option maxRecDepth 100000
namespace Sr
open PySem PySem.Spec PyProof.Rows L2 Sw
theorem Cc {ns:List Int}{k:Int}(h:0≤k) (h1:k < 1000000) (h2:ns.length < 1000000):pe [.s ns,.t (.int k)]=some (.m (.dct (aN (uN ns k))),[]):=by simp[pe,h,h1,h2]
theorem zN {t:cB}(h:0≤t.n) (h1:t.n < 800000):kr [.b (.dct (aN t))]=some (.t (bD (cW t).tab),[.dct (aN (cW t).t)]):=by simp[kr,h,h1]
theorem DN {t:cB}{T:List (Str×Int)}{most:Int}(ok:lE T) (h0:0≤most) (h1:most≤100) (h:0≤t.n) (h2:t.n < 700000):wQ [.b (.dct (aN t)),.t (bD T),.t (.int most)]=some (.t (bD (mF t T most).1),[.dct (aN (mF t T most).2)]):=by
 simp[wQ,pD.mpr ok,h0,h1,h,h2]
structure Lh (s:wN):Prop where
 nm:∀p∈s.tab,p.1∈bX
 lf:s.left=12 - tot s.tab
theorem Cd {k:Int}{s:wN}(h:m8 k s) (h2:Lh s) (hn:0 < s.names.length):Lh (aX s k):=by
 have p1:=aO (t:=s.t) (m:=s.names.length) (by omega)
 have hi:(aH s.t s.names.length).toNat < s.names.length:=by omega
 refine⟨fun p hp=>?_,?_⟩
 ·rcases List.mem_append.mp (show p∈s.tab++[_] from hp) with hp | hp
  ·exact h2.nm p hp
  ·have hp:=List.mem_singleton.mp hp
   subst hp
   exact h.sub _ (getD_mem hi)
 ·have e:=h2.lf
  show s.left - lD 5 (s.left - 4+k) (aH (aV s.t s.names.length) 6) - 1=12 - tot (s.tab++[(s.names.getD (aH s.t s.names.length).toNat "",lD 5 (s.left - 4+k) (aH (aV s.t s.names.length) 6))])
  rw[lG]
  generalize lD 5 (s.left - 4+k) (aH (aV s.t s.names.length) 6)=m
  show s.left - m - 1=12 - (tot s.tab+m+1)
  omega
theorem vj:∀(n:Nat) (s:wN),n≤4→m8 0 s→n≤s.names.length→Lh s→Lh ((Sw.upTo n).foldl aX s)
  | 0,s,_,_,_,h=>h
  | n + 1, s, hn, h, hl, h2 => by
    obtain⟨i1,i2,i3,i4⟩:=nL n s (by omega) h (by omega)
    have e:(Sw.upTo (n+1)).foldl aX s=aX ((Sw.upTo n).foldl aX s) n:=by
      unfold Sw.upTo
      rw[List.range_succ,List.map_append,List.foldl_append]
      rfl
    rw[e]
    exact Cd i1 (vj n s (by omega) h (by omega) h2) (by omega)
theorem DO (t:cB):(∀p∈(cW t).tab,kL p)∧tot (cW t).tab≤12:=by
 have b:=sL t
 have h0:m8 0 ⟨bX,[],12,aV t 5⟩:=⟨by show([]++bX).Nodup;decide,fun z hz=>hz,(fun p hp=>by cases hp),by show(4:Int) - 0≤12;omega⟩
 obtain⟨i1,i2,i3,i4⟩:=nL (jz t) ⟨bX,[],12,aV t 5⟩ b.2 h0 (by show jz t≤8;omega)
 have j:=vj (jz t) ⟨bX,[],12,aV t 5⟩ b.2 h0 (by show jz t≤8;omega) ⟨(fun p hp=>by cases hp),rfl⟩
 have e:(Sw.upTo (jz t)).foldl aX ⟨bX,[],12,aV t 5⟩=cW t:=rfl
 rw[e] at i1 j
 have l1:=i1.left
 have l2:=j.lf
 exact⟨fun p hp=>⟨j.nm p hp,(i1.ok p hp).1.lo,(i1.ok p hp).2⟩,by omega⟩
structure In (T:List (Str×Int)) (p:Str×Int):Prop where
 ex:∃q∈T,p.1=q.1∧0≤p.2∧p.2≤q.2
theorem Ce {T:List (Str×Int)}(ok:lE T):∀(ks:List Int) (s:List (Str×Int)×cB),(∀p∈s.1,In T p)→∀p∈(ks.foldl (bQ T) s).1,In T p
  | [],s,h=>h
  | k :: ks, s, h => Ce ok ks (bQ T s k) fun p hp => by
    have p0:=ok.pos
    have p1:=aO (t:=s.2) (m:=T.length) (by omega)
    have hi:(aH s.2 T.length).toNat < T.length:=by omega
    have hm:=getD_mem (x:=(("":Str),(0:Int))) hi
    rcases List.mem_append.mp (show p∈s.1++[_] from hp) with h1 | h1
    · exact h p h1
    · have h1:=List.mem_singleton.mp h1
      subst h1
      have a:=(ok.PN _ hm).1
      have r:=aO (t:=aV s.2 T.length) (m:=(T.getD (aH s.2 T.length).toNat ("",0)).2+1) (by omega)
      exact⟨_,hm,rfl,r.1,by show aH _ _≤_;omega⟩
theorem DP {T:List (Str×Int)}(ok:lE T) (t:cB) (most:Int):∀p∈(mF t T most).1,In T p:=Ce ok _ _ fun p hp=>by cases hp
theorem NG {T:List (Str×Int)}{p:Str×Int}(hT:∀q∈T,kL q) (h:In T p):kL p:=by
 obtain⟨q,hq,e,a,b⟩:=h.ex
 have w:=hT q hq
 have:=w.hi
 exact⟨e▸w.nm,a,by omega⟩
theorem Gw {T:List (Str×Int)}{p:Str×Int}(h:In T p):lF T (dw p)=true:=by
 obtain⟨q,hq,e,a,b⟩:=h.ex
 show(T.any fun r=>iD (.str r.1) (.str p.1) && eL (.int p.2) 0 r.2)=true
 refine List.any_eq_true.mpr ⟨q,hq,?_⟩
 rw[←e,oA]
 simp[eL,a,b]
noncomputable def ng (t:cB):Int:=([8,8,8,60]:List Int).getD (aH t 4).toNat 8
theorem Cf (t:cB):gC [D.int 8,D.int 8,D.int 8,D.int 60] (aH t 4)=some (.int (ng t)):=by
 have p:=aO (t:=t) (m:=4) (by omega)
 unfold ng
 generalize aH t 4=i at p
 obtain⟨h0,h1⟩:=p
 have:i=0∨i=1∨i=2∨i=3:=by omega
 rcases this with rfl | rfl | rfl | rfl <;> rfl
theorem Cg (t:cB):0≤ng t∧ng t≤60:=by
 unfold ng
 exact BV (P:=fun x:Int=>0≤x∧x≤60) (by intro a ha;simp only[List.mem_cons,List.not_mem_nil,or_false] at ha;rcases ha with rfl | rfl | rfl | rfl <;> decide) (by decide)
structure Li (T R:List (Str×Int)):Prop where
 nd:(T.map (·.1)).Nodup
 ne:T≠[]
 tw:∀p∈T,kL p
 tl:T.length≤4
 tt:tot T≤12
 rw:∀p∈R,kL p
 rl:R.length≤60
 rh:∀p∈R,lF T (dw p)=true
noncomputable def mK (aZ:FM) (aP:FM) (bH:FM) (ao:FM) (aQ:FM) (bz:FM) (aJ:FM) (bJ:FM) (aR:FM):GS:=
 (bq (cV 7 (eP iK (ah (eF (aB 6)) aq)))
 (qL (xT (qB (eF (eP Bl (ah (eF (bA bz (cu (eF (aB 6)) cQ))) (ah (eF (aB 5)) aq))))) (qB (eF (eP Bl (ah (eF (eP iK (ah (eF (aB 6)) aq))) (ah (eF (aB 7)) aq)))))) (dJ (eT (eC (.bl false)))) iF))
noncomputable def mL (aZ:FM) (aP:FM) (bH:FM) (ao:FM) (aQ:FM) (bz:FM) (aJ:FM) (bJ:FM) (aR:FM):GS:=
 (bq (cV 2 (bA aZ (jW (aB 0) (cu (eF (aB 1)) cQ))))
 (bq (cV 3 (bA aP (jW (aB 2) cQ)))
 (bq (cV 4 (bA bH (jW (aB 2) (cu (eF (aB 3)) (cu (eF (eP CA (ah (eF (eP nC (ah (eC (.int 8)) (ah (eC (.int 8)) (ah (eC (.int 8)) (ah (eC (.int 60)) aq)))))) (ah (eF (bA ao (jW (aB 2) (cu (eC (.int 4)) cQ)))) aq)))) cQ)))))
 (bq (cV 5 (bA aQ (cu (eF (aB 4)) cQ)))
 (bq (qL (qB (eF (eP Dl (ah (eF (aB 4)) (ah (eF (eP lT aq)) aq))))) (cV 5 (eT (eC (.str "-")))) iF)
 (bq (oz (bName 6) (sr (eF (eP nC (ah (eF (aB 4)) (ah (eF (eP oH (ah (eF (aB 4)) aq))) aq))))) (mK aZ aP bH ao aQ bz aJ bJ aR))
 (bq (cV 8 (bA aJ (cu (eF (aB 3)) cQ)))
 (bq (qL (xT (qB (eF (eP Bl (ah (eF (aB 8)) (ah (eF (bA aQ (cu (eF (aB 3)) cQ))) aq))))) (rX (qB (Ef ["str"] (eF (aB 8)))))) (dJ (eT (eC (.bl false)))) iF)
 (qL (xT (qB (eF (eP Bl (ah (eF (eP iK (ah (eF (bA bJ (cu (eF (aB 3)) (cu (eF (aB 5)) cQ)))) aq))) (ah (eF (eP iK (ah (eF (aB 4)) aq))) aq))))) (qB (eF (eP Bl (ah (eF (eP iK (ah (eF (bA aR (cu (eF (aB 8)) cQ))) aq))) (ah (eF (eP iK (ah (eF (aB 3)) aq))) aq)))))) (dJ (eT (eC (.bl false)))) iF)))))))))
noncomputable def vm (aZ:FM) (aP:FM) (bH:FM) (ao:FM) (aQ:FM) (bz:FM) (aJ:FM) (bJ:FM) (aR:FM):GS:=
 (bq (oz (bName 1) (ow (ah (eF (eP eO (ah (eC (.int 1)) (ah (eF (eP uq (ah (eF (Bs 0 none (some (eC (.int 29))))) aq))) aq)))) aq)) (mL aZ aP bH ao aQ bz aJ bJ aR))
 (dJ (eT (eC (.bl true)))))
noncomputable abbrev qj (g:FM→FM→FM→FM→FM→FM→FM→FM→FM→GS):GS:=g pe kr wQ d9 m9 eY eZ fT gP
noncomputable def ka (aZ:FM) (aP:FM) (bH:FM) (ao:FM) (aQ:FM) (bz:FM) (aJ:FM) (bJ:FM) (aR:FM):GS:=
 (bq (cV 2 (bA aZ (jW (aB 0) (cu (eF (aB 1)) cQ))))
 (bq (cV 3 (bA aP (jW (aB 2) cQ)))
 (cV 4 (bA bH (jW (aB 2) (cu (eF (aB 3)) (cu (eF (eP CA (ah (eF (eP nC (ah (eC (.int 8)) (ah (eC (.int 8)) (ah (eC (.int 8)) (ah (eC (.int 60)) aq)))))) (ah (eF (bA ao (jW (aB 2) (cu (eC (.int 4)) cQ)))) aq)))) cQ)))))))
noncomputable def kb (aZ:FM) (aP:FM) (bH:FM) (ao:FM) (aQ:FM) (bz:FM) (aJ:FM) (bJ:FM) (aR:FM):GS:=
 (bq (cV 5 (bA aQ (cu (eF (aB 4)) cQ)))
 (qL (qB (eF (eP Dl (ah (eF (aB 4)) (ah (eF (eP lT aq)) aq))))) (cV 5 (eT (eC (.str "-")))) iF))
noncomputable def kc (aZ:FM) (aP:FM) (bH:FM) (ao:FM) (aQ:FM) (bz:FM) (aJ:FM) (bJ:FM) (aR:FM):GS:=
 (oz (bName 6) (sr (eF (eP nC (ah (eF (aB 4)) (ah (eF (eP oH (ah (eF (aB 4)) aq))) aq))))) (mK aZ aP bH ao aQ bz aJ bJ aR))
noncomputable def kd (aZ:FM) (aP:FM) (bH:FM) (ao:FM) (aQ:FM) (bz:FM) (aJ:FM) (bJ:FM) (aR:FM):GS:=
 (bq (cV 8 (bA aJ (cu (eF (aB 3)) cQ)))
 (bq (qL (xT (qB (eF (eP Bl (ah (eF (aB 8)) (ah (eF (bA aQ (cu (eF (aB 3)) cQ))) aq))))) (rX (qB (Ef ["str"] (eF (aB 8)))))) (dJ (eT (eC (.bl false)))) iF)
 (qL (xT (qB (eF (eP Bl (ah (eF (eP iK (ah (eF (bA bJ (cu (eF (aB 3)) (cu (eF (aB 5)) cQ)))) aq))) (ah (eF (eP iK (ah (eF (aB 4)) aq))) aq))))) (qB (eF (eP Bl (ah (eF (eP iK (ah (eF (bA aR (cu (eF (aB 8)) cQ))) aq))) (ah (eF (eP iK (ah (eF (aB 3)) aq))) aq)))))) (dJ (eT (eC (.bl false)))) iF)))
end Sr
end
section
set_option Elab.async false
set_option linter.all false
set_option maxRecDepth 100000
namespace Sr
open PySem PySem.Spec PyProof.Rows L2 Sw
theorem wZ {p:Str×Int}(h:kL p):iw p:=⟨uT _ h.nm,h.lo,by have:=h.hi;omega⟩
theorem sR {T:List (Str×Int)}(h:∀p∈T,kL p) (hl:T.length≤60):yf (bD T):=(ku fun p hp=>wZ (h p hp)).yf (by omega) (by decide)
theorem DQ {T:List (Str×Int)}(h:∀p∈T,kL p) (hl:T.length≤60):yf (.lst (T.map dw)):=by
 obtain⟨a,b,c⟩:=ku fun p hp=>wZ (h p hp)
 have b:Ah (T.map dw)+4≤132 * T.length+4:=b
 have c:bu (T.map dw)+1≤2:=c
 exact BS (d:=.lst (T.map dw)) a (by show Ah (T.map dw)+4≤_;omega) (by show bu (T.map dw)+1≤20;omega)
theorem eq_nil {R:List (Str×Int)}(h:∀p∈R,kL p) (hl:R.length≤60):Dl [bD R,.tup []]=some (.t (.bl (decide (R=[])))):=by
 have g:=(ku fun p hp=>wZ (h p hp)).dep
 show(if fK (bD R)≤40 then some (U.t (.bl (iD (bD R) (.tup [])))) else none)=_
 rw[if_pos (by omega)]
 cases R with
 | nil=>rfl
 | cons p R=>rfl
theorem pI {d:D}(h:yf d):iK [d]=some (.t (.str (toPy d).shown)):=by show(if yf d then some (U.t (.str (toPy d).shown)) else none)=_;rw[if_pos h]
theorem jD (z:Str):Bl [.str z,.str z]=some (.t (.bl false)):=by
 show(if fK (.str z)≤40 then some (U.t (.bl (!iD (.str z) (.str z)))) else none)=_
 rw[if_pos (show fK (.str z)≤40 from Nat.zero_le _),oA]
 rfl
theorem Gx {ns:List Int}{k:Int}{x2 x3 x4 x5 x6 x7 x8:Option U}(hk:0≤k) (hk2:k < 1000) (hns:ns.length < 1000) (h2:kB x2=false) (h3:kB x3=false) (h4:kB x4=false):
  ∃T R t,Li T R∧qj ka [some (.s ns),some (.t (.int k)),x2,x3,x4,x5,x6,x7,x8]=some (.nx [some (.s ns),some (.t (.int k)),some (.m (.dct (aN t))),some (.t (bD T)),some (.t (bD R)),x5,x6,x7,x8]):=by
 have e0:=Cc (ns:=ns) (k:=k) hk (by omega) (by omega)
 generalize ht0:uN ns k=t0 at e0 ⊢
 have n0:t0.n=0:=by rw[←ht0];rfl
 have e1:=zN (t:=t0) (by omega) (by omega)
 have F:=uV t0
 have W:=DO t0
 obtain⟨s1,hs1⟩:∃s,cW t0=s:=⟨_,rfl⟩
 rw[hs1] at e1 F W
 obtain⟨f1,f2,f3,f4,f5,f6⟩:=F
 have e2:=gO (t:=s1.t) (m:=4) (by omega) (by omega) (by omega) (by omega)
 have m1:=Cg s1.t
 have e6:=Cf s1.t
 have e3:=DN (t:=aV s1.t 4) (T:=s1.tab) (most:=ng s1.t) f2 m1.1 (by omega) (by rw[nK];omega) (by rw[nK];omega)
 have G:=zE f2 f3 (aV s1.t 4) m1.1
 have NH:=DP f2 (aV s1.t 4) (ng s1.t)
 obtain⟨r,hr⟩:∃r,mF (aV s1.t 4) s1.tab (ng s1.t)=r:=⟨_,rfl⟩
 rw[hr] at e3 G NH
 obtain⟨g1,g2,g3,g4⟩:=G
 refine⟨s1.tab,r.1,r.2,⟨f1,fun z=>?_,W.1,f4,W.2,fun p hp=>NG W.1 (NH p hp),by omega,fun p hp=>Gw (NH p hp)⟩,?_⟩
 ·have:=f2.pos
  rw[z] at this
  exact absurd this (by decide)
 ·simp[-ig,fH,ka,h2,h3,h4,e0,e1,e2,e3,e6]
theorem Gy {s0 s1 s2 s3 x5 x6 x7 x8:Option U}{T R:List (Str×Int)}(h:Li T R) (h5:kB x5=false):
  qj kb [s0,s1,s2,s3,some (.t (bD R)),x5,x6,x7,x8]=some (.nx [s0,s1,s2,s3,some (.t (bD R)),some (.t (.str (due R))),x6,x7,x8]):=by
 have rl:=h.rl
 have e1:m9 [.t (bD R)]=some (.t (.str (kM R)),[]):=yy h.rw (by omega)
 have e2:=eq_nil h.rw rl
 by_cases q:R=[]
 ·have e3:due R="-":=if_pos q
  rw[show decide (R=[])=true from decide_eq_true q] at e2
  rw[e3]
  simp[-ig,fH,-El,kb,h5,e1,e2]
 ·have e3:due R=kM R:=if_neg q
  rw[show decide (R=[])=false from decide_eq_false q] at e2
  rw[e3]
  simp[-ig,fH,-El,kb,h5,e1,e2]
theorem Ci {s0 s1 s2 s3 s4 s8 x6 x7:Option U}{R:List (Str×Int)}{d:D}(hd:d= .tup (R.map dw)∨d= .lst (R.map dw)) (hR:∀p∈R,kL p) (hl:R.length≤60) (h6:kB x6=false) (h7:kB x7=false):
  (bName 6 d [s0,s1,s2,s3,s4,some (.t (.str (due R))),x6,x7,s8]).bind (qj mK)=some (.nx [s0,s1,s2,s3,s4,some (.t (.str (due R))),some (.t d),some (.t (.str (toPy d).shown)),s8]):=by
 have e1:=u6 hd hR (by omega)
 have ok:yf d:=by
  rcases hd with rfl | rfl
  ·exact sR hR hl
  ·exact DQ hR hl
 have e2:=pI ok
 have e3:=jD (due R)
 have e4:=jD (toPy d).shown
 simp[-ig,fH,-Em,-yp,mK,h6,h7,e1,e2,e3,e4]
theorem Gz {s0 s1 s2 s3 x6 x7 x8:Option U}{T R:List (Str×Int)}(h:Li T R) (h6:kB x6=false) (h7:kB x7=false):
  ∃y6 y7,kB y6=false∧kB y7=false∧qj kc [s0,s1,s2,s3,some (.t (bD R)),some (.t (.str (due R))),x6,x7,x8]=some (.nx [s0,s1,s2,s3,some (.t (bD R)),some (.t (.str (due R))),y6,y7,x8]):=by
 have t1:=Ci (s0:=s0) (s1:=s1) (s2:=s2) (s3:=s3) (s4:=some (.t (bD R))) (s8:=x8) (d:=.tup (R.map dw)) (.inl rfl) h.rw h.rl h6 h7
 have t2:=Ci (s0:=s0) (s1:=s1) (s2:=s2) (s3:=s3) (s4:=some (.t (bD R))) (s8:=x8) (d:=.lst (R.map dw)) (.inr rfl) h.rw h.rl (x6:=some (.t (.tup (R.map dw)))) (x7:=some (.t (.str (toPy (.tup (R.map dw))).shown))) rfl rfl
 refine⟨some (.t (.lst (R.map dw))),some (.t (.str (toPy (.lst (R.map dw))).shown)),rfl,rfl,?_⟩
 have ei:sr (eF (eP nC (ah (eF (aB 4)) (ah (eF (eP oH (ah (eF (aB 4)) aq))) aq)))) [s0,s1,s2,s3,some (.t (bD R)),some (.t (.str (due R))),x6,x7,x8]=some ([.tup (R.map dw),.lst (R.map dw)],[s0,s1,s2,s3,some (.t (bD R)),some (.t (.str (due R))),x6,x7,x8]):=by
  rw[yt]
  simp[sN]
 show oz _ _ _ _=_
 rw[sJ,ei,Option.bind_some]
 show(bName 6 (.tup (R.map dw)) _).bind (fun S1=>(qj mK S1).bind _)=_
 rw[←Option.bind_assoc,t1,Option.bind_some]
 show(bName 6 (.lst (R.map dw)) _).bind (fun S1=>(qj mK S1).bind _)=_
 rw[←Option.bind_assoc,t2,Option.bind_some]
 rfl
theorem GC {s0 s1 s2 x6 x7 x8:Option U}{T R:List (Str×Int)}(h:Li T R) (h8:kB x8=false):
  qj kd [s0,s1,s2,some (.t (bD T)),some (.t (bD R)),some (.t (.str (due R))),x6,x7,x8]=some (.nx [s0,s1,s2,some (.t (bD T)),some (.t (bD R)),some (.t (.str (due R))),x6,x7,some (.t (.str (kM T)))]):=by
 have tl:=h.tl
 have rl:=h.rl
 have e1:eZ [.t (bD T)]=some (.t (.str (kM T)),[]):=u9 h.tw (by omega)
 have e2:m9 [.t (bD T)]=some (.t (.str (kM T)),[]):=yy h.tw (by omega)
 have e3:fT [.t (bD T),.t (.str (due R))]=some (.t (bD R),[]):=wX (by omega) h.rw (by omega) h.rh
 have e4:gP [.t (.str (kM T))]=some (.t (bD T),[]):=wY h.ne h.tw tl h.tt h.nd
 have r1:=pI (sR h.tw (by omega))
 have r2:=pI (sR h.rw rl)
 have q1:=jD (kM T)
 have q2:=jD (toPy (bD T)).shown
 have q3:=jD (toPy (bD R)).shown
 generalize bD T=td at *
 generalize bD R=rd at *
 simp[-ig,fH,-Em,-yp,kd,h8,e1,e2,e3,e4,r1,r2,q1,q2,q3,gZ,lZ,j8]
theorem w4 (a b c:GS):bq (bq a b) c=bq a (bq b c):=by
 funext S
 show((a S).bind fun o=>match o with | .nx S1=>b S1 | o=>some o).bind (fun o=>match o with | .nx S1=>c S1 | o=>some o)=(a S).bind fun o=>match o with | .nx S1=>(b S1).bind (fun o=>match o with | .nx S1=>c S1 | o=>some o) | o=>some o
 cases a S with
 | none=>rfl
 | some o=>cases o <;> rfl
theorem J0:qj mL=bq (qj ka) (bq (qj kb) (bq (qj kc) (qj kd))):=by
 unfold qj mL ka kb kc kd
 simp only[w4]
noncomputable def NI (ns:List Int) (S:SS):Prop:=∃x1 x2 x3 x4 x5 x6 x7 x8,kB x1=false∧kB x2=false∧kB x3=false∧kB x4=false∧kB x5=false∧kB x6=false∧kB x7=false∧kB x8=false∧S=[some (.s ns),x1,x2,x3,x4,x5,x6,x7,x8]
theorem GF {ns:List Int}{k:Int}{S:SS}(hk:0≤k) (hk2:k < 1000) (hns:ns.length < 1000) (h:NI ns S):∃S1 S2,bName 1 (.int k) S=some S1∧qj mL S1=some (.nx S2)∧NI ns S2:=by
 obtain⟨x1,x2,x3,x4,x5,x6,x7,x8,h1,h2,h3,h4,h5,h6,h7,h8,rfl⟩:=h
 obtain⟨T,R,t,ok,ea⟩:=Gx (ns:=ns) (k:=k) (x5:=x5) (x6:=x6) (x7:=x7) (x8:=x8) hk hk2 hns h2 h3 h4
 have eb:=Gy (s0:=some (.s ns)) (s1:=some (.t (.int k))) (s2:=some (.m (.dct (aN t)))) (s3:=some (.t (bD T))) (x6:=x6) (x7:=x7) (x8:=x8) ok h5
 obtain⟨y6,y7,q6,q7,ec⟩:=Gz (s0:=some (.s ns)) (s1:=some (.t (.int k))) (s2:=some (.m (.dct (aN t)))) (s3:=some (.t (bD T))) (x8:=x8) ok h6 h7
 have ed:=GC (s0:=some (.s ns)) (s1:=some (.t (.int k))) (s2:=some (.m (.dct (aN t)))) (x6:=y6) (x7:=y7) ok h8
 refine⟨[some (.s ns),some (.t (.int k)),x2,x3,x4,x5,x6,x7,x8],_,by simp[-ig,fH,h1],?_,some (.t (.int k)),some (.m (.dct (aN t))),some (.t (bD T)),some (.t (bD R)),some (.t (.str (due R))),y6,y7,some (.t (.str (kM T))),rfl,rfl,rfl,rfl,rfl,q6,q7,rfl,rfl⟩
 rw[J0,sI,ea]
 simp only[Option.bind_some]
 rw[sI,eb]
 simp only[Option.bind_some]
 rw[sI,ec]
 simp only[Option.bind_some]
 exact ed
theorem Cj (ns:List Int) (lo hi:Option Int):(oV ns lo hi).length≤ns.length:=by
 unfold oV
 rw[List.length_take,List.length_drop]
 omega
theorem GG (i:Nat) (lo hi:Option GD) (S:SS):Bs i lo hi S=match S[i]? with | some (some (.s ns))=>(gM lo S).bind fun l=>(gM hi l.2).map fun h=>(.m (.lst ((oV ns l.1 h.1).map D.int)),h.2) | _=>none:=rfl
theorem Ck {ns:List Int}{c:Int}{r:SS}:(ah (eF (eP eO (ah (eC (.int 1)) (ah (eF (eP uq (ah (eF (Bs 0 none (some (eC (.int c))))) aq))) aq)))) aq) (some (.s ns) :: r)=some ([.int ((1+(oV ns none (some c)).length:Nat):Int)],some (.s ns) :: r):=by
 simp[GG]
theorem zO:∀us r,wR 63 us=some r→aT 9 (qj vm) us=some r:=by
 intro us r h
 unfold wR at h
 split at h
 ·rename_i ns
  obtain⟨hl,rfl⟩:=aL h
  have cl:=Cj ns none (some 29)
  have eg:=Sq.zG (Ck (ns:=ns) (c:=29) (r:=[none,none,none,none,none,none,none,none])) (by omega) (by omega)
  rw[Int.toNat_natCast] at eg
  obtain⟨S',e,jS⟩:=pG (bd:=bName 1) (body:=qj mL) (tM 0 (1+(oV ns none (some 29)).length)) (fun _ S=>NI ns S) [some (.s ns),none,none,none,none,none,none,none,none] ⟨none,none,none,none,none,none,none,none,rfl,rfl,rfl,rfl,rfl,rfl,rfl,rfl,rfl⟩ (fun j d S hd hJ=>by
   obtain⟨hj,rfl⟩:=DK hd
   exact GF (by omega) (by omega) (by omega) hJ)
  show((qj vm) [some (.s ns),none,none,none,none,none,none,none,none]).bind _=_
  unfold qj vm
  rw[sI,sJ,eg]
  simp only[Option.bind_some]
  have e:loop (bName 1) (mL pe kr wQ d9 m9 eY eZ fT gP) (tM 0 (1+(oV ns none (some 29)).length)) [some (.s ns),none,none,none,none,none,none,none,none]=some (.nx S'):=e
  rw[e]
  obtain⟨x1,x2,x3,x4,x5,x6,x7,x8,_,_,_,_,_,_,_,_,rfl⟩:=jS
  simp[aE]
 ·cases h
end Sr
end
section
set_option Elab.async false
set_option linter.all false
set_option maxRecDepth 100000
namespace K12
open PySem PySem.Spec PyProof.Rows L2
def top (i:Nat):Stmt:=PySem.Challenge.pw_surewatch_k12_rows_and_tables_written.main.body.getD i (.Pass ⟨0,0,0,0⟩)
open L2 Sw Sr
noncomputable abbrev ff:Stmt:=top 3
theorem vn:bK ["thing","least","most"] ["thing","least","most"] (au ff):=⟨rfl,rfl,rfl,by decide +kernel,rfl,by decide +kernel,by decide +kernel⟩
theorem vo {P:Program}{w:World}{K:PySem.W.Frag}{mg:Str→Option Value}{base:Heap}{f:Addr}{fd:FuncData}{n:Nat}{fm:FM}(F:nT K "is_whole" "is_whole" ff f fd) (bf:mg "isinstance" =none) (GH:mg "int" =none) (Cm:mg "bool" =none)
  (hf:∀us r,fm us=some r→aT 3 (iU) us=some r):bB P w K mg base gn (n+1) f fd ["thing","least","most"] (spT K 3 fm):=
 uw (g:=iU) F vn (fun cdv A outer s H E hr=>(aC (gF (JW.t (j0 (lW (kg (iJ rfl bf rfl GH PyProof.Rows.Boot.int (JE.d (ak 0))))) (dP (kg (iJ rfl bf rfl Cm PyProof.Rows.Boot.bool (JE.d (ak 0))))))) (aM (bG (JD.e oh))) dM)
  (aM (bG (JD.e (rY (JE.d (lR rZ (JE.d (ak 1)) (JE.d (ak 0)))) (wk (JE.d (lR rZ (JE.d (ak 0)) (JE.d (ak 2))))))))))) hf
noncomputable abbrev fh:Stmt:=top 4
theorem vp:bK ["thing","least","most"] ["thing","least","most"] (au fh):=⟨rfl,rfl,rfl,by decide +kernel,rfl,by decide +kernel,by decide +kernel⟩
theorem vq {P:Program}{w:World}{K:PySem.W.Frag}{mg:Str→Option Value}{base:Heap}{f:Addr}{fd:FuncData}{n:Nat}{fm:FM}(F:nT K "is_tuple" "is_tuple" fh f fd) (bf:mg "isinstance" =none) (iZ:mg "tuple" =none) (gf:mg "len" =none)
  (hf:∀us r,fm us=some r→aT 3 (iV) us=some r):bB P w K mg base gn (n+1) f fd ["thing","least","most"] (spT K 3 fm):=
 uw (g:=iV) F vp (fun cdv A outer s H E hr=>(aM (bG (JD.e (rY (iJ rfl bf rfl iZ PyProof.Rows.Boot.tuple (JE.d (ak 0))) (rY (JE.d (lR rZ (JE.d (ak 1)) (ie (i:=0) rfl gf))) (wk (JE.d (lR rZ (ie (i:=0) rfl gf) (JE.d (ak 2))))))))))) hf
noncomputable abbrev gz:Stmt:=top 5
theorem w5:bK ["thing"] ["thing"] (au gz):=⟨rfl,rfl,rfl,by decide +kernel,rfl,by decide +kernel,by decide +kernel⟩
theorem xg {P:Program}{w:World}{K:PySem.W.Frag}{mg:Str→Option Value}{base:Heap}{f:Addr}{fd:FuncData}{n:Nat}{fm:FM}(F:nT K "is_name" "is_name" gz f fd) (bf:mg "isinstance" =none) (sS:mg "str" =none) (gf:mg "len" =none) (GJ:mg "all" =none){iy:Tok}(iz:mg "LONGEST_NAME" =some (.int 8 iy)){pJ:Tok}(pK:mg "LETTERS" =some (.str "abcdefghijklmnopqrstuvwxyz" pJ))
  (hf:∀us r,fm us=some r→aT 1 (eV) us=some r):bB P w K mg base gn (n+1) f fd ["thing"] (spT K 1 fm):=
 uw (g:=eV) F w5 (fun cdv A outer s H E hr=>(aC (gF (JW.t (j0 (lW (kg (iJ rfl bf rfl sS PyProof.Rows.Boot.str (JE.d (ak 0))))) (j0 (dg Ba (ie (i:=0) rfl gf) aD) (dP (dg r9 (ie (i:=0) rfl gf) (nJ rfl iz)))))) (aM (bG (JD.e oh))) dM)
  (aM (bG (dc (zf rfl) rfl GJ PyProof.Rows.Boot.all (az (JE.d (sE (iQ (by decide) (by decide) rfl (by decide) rfl) rfl (su (JE.d (ak 0))) (fun _ _ _ _=>lg) (fun _ _ _ _=>(JE.d (lR (Bo hr.units) (JE.d (ak 0)) (Dv rfl pK) (by with_unfolding_all rfl)))))) aK)))))) hf
noncomputable abbrev cH:Stmt:=top 10
theorem nD:bK ["table","thing"] ["table","thing"] (au cH):=⟨rfl,rfl,rfl,by decide +kernel,rfl,by decide +kernel,by decide +kernel⟩
theorem nF {P:Program}{w:World}{K:PySem.W.Frag}{mg:Str→Option Value}{base:Heap}{f:Addr}{fd:FuncData}{n:Nat}{fm:FM}(F:nT K "is_happening" "is_happening" cH f fd) (many:mg "any" =none)
  {mO:Addr}{rD:FuncData}{iL:FM}(zP:bB P w K mg base gn n mO rD ["thing","least","most"] (spT K 3 iL)) (zQ:Binds K rD ["thing","least","most"] []) (zR:PySem.W.keepIn K (.ref mO)=true) (zS:mg "is_tuple" =some (.ref mO))
  {mQ:Addr}{rE:FuncData}{iM:FM}(zT:bB P w K mg base gn n mQ rE ["thing","least","most"] (spT K 3 iM)) (zU:Binds K rE ["thing","least","most"] []) (zV:PySem.W.keepIn K (.ref mQ)=true) (zW:mg "is_whole" =some (.ref mQ))
  (hf:∀us r,fm us=some r→aT 2 (dj iL iM) us=some r):bB P w K mg base gn (n+1) f fd ["table","thing"] (spT K 2 fm):=
 uw (g:=dj iL iM) F nD (fun cdv A outer s H E hr=>(aC (gF (lW (kg (JE.d (bh zP hr rfl zS zR zQ (br (JE.d (ak 1)) (br aD (br aD bT))))))) (aM (bG (JD.e oh))) dM)
  (aM (bG (dc (zg rfl) rfl many PyProof.Rows.Boot.any (az (JE.d (sE (Bt (i:=1) rfl (by decide) rfl (by decide) rfl rfl (by decide) (by decide) rfl rfl rfl) rfl (su (JE.d (ak 0))) (fun _ _ _ _=>lg) (fun _ _ _ _=>(rY (JE.d (lR (sF hr.units) (cC (i:=0) (cY hr) aD (fun _ _=>rfl)) (cC (i:=1) (cY hr) aD (fun _ _=>rfl)))) (wk (JE.d (bh zT hr rfl zW zV zU (br (cC (i:=1) (cY hr) aD (fun _ _=>rfl)) (br aD (br (cC (i:=0) (cY hr) aD (fun _ _=>rfl)) bT)))))))))) aK)))))) hf
noncomputable abbrev cT:Stmt:=top 12
theorem pL:bK ["pairs"] ["pairs"] (au cT):=⟨rfl,rfl,rfl,by decide +kernel,rfl,by decide +kernel,by decide +kernel⟩
theorem pM {P:Program}{w:World}{K:PySem.W.Frag}{mg:Str→Option Value}{base:Heap}{f:Addr}{fd:FuncData}{n:Nat}{fm:FM}(F:nT K "shown_pairs" "shown_pairs" cT f fd) (sS:mg "str" =none)
  (hf:∀us r,fm us=some r→aT 1 (cS) us=some r):bB P w K mg base gn (n+1) f fd ["pairs"] (spT K 1 fm):=
 uw (g:=cS) F pL (fun cdv A outer s H E hr=>(aM (bG (jx o8 PySem.F.slot_str_join PySem.F.type_str_join uK bN (JE.d (sE (iQ (by decide) (by decide) rfl (by decide) rfl) rfl (su (JE.d (ak 0))) (fun _ _ _ _=>lg) (fun _ _ _ _=>(JE.d (bO cG (JE.d (bO cG (cC (i:=0) (cY hr) aD (fun _ _=>rfl)) bN)) (JE.d (jN wM rfl sS PyProof.Rows.Boot.str (az (cC (i:=0) (cY hr) aD (fun _ _=>rfl)) aK)))))))))))) hf
noncomputable abbrev dR:Stmt:=top 13
theorem sU:bK ["row"] ["row"] (au dR):=⟨rfl,rfl,rfl,by decide +kernel,rfl,by decide +kernel,by decide +kernel⟩
theorem sV {P:Program}{w:World}{K:PySem.W.Frag}{mg:Str→Option Value}{base:Heap}{f:Addr}{fd:FuncData}{n:Nat}{fm:FM}(F:nT K "shown_row" "shown_row" dR f fd) (gf:mg "len" =none)
  {cJ:Addr}{ez:FuncData}{bx:FM}(i6:bB P w K mg base gn n cJ ez ["pairs"] (spT K 1 bx)) (i7:Binds K ez ["pairs"] []) (i8:PySem.W.keepIn K (.ref cJ)=true) (i9:mg "shown_pairs" =some (.ref cJ))
  (hf:∀us r,fm us=some r→aT 1 (dQ bx) us=some r):bB P w K mg base gn (n+1) f fd ["row"] (spT K 1 fm):=
 uw (g:=dQ bx) F sU (fun cdv A outer s H E hr=>(aC (gF (dg (sF hr.units) (ie (i:=0) rfl gf) aD) (aM (bG (JD.e bN))) dM)
  (aM (bG (bh i6 hr rfl i9 i8 i7 (br (JE.d (ak 0)) bT)))))) hf
noncomputable abbrev cU:Stmt:=top 14
theorem pN:bK ["table"] ["table"] (au cU):=⟨rfl,rfl,rfl,by decide +kernel,rfl,by decide +kernel,by decide +kernel⟩
theorem pO {P:Program}{w:World}{K:PySem.W.Frag}{mg:Str→Option Value}{base:Heap}{f:Addr}{fd:FuncData}{n:Nat}{fm:FM}(F:nT K "shown_table" "shown_table" cU f fd)
  {cJ:Addr}{ez:FuncData}{bx:FM}(i6:bB P w K mg base gn n cJ ez ["pairs"] (spT K 1 bx)) (i7:Binds K ez ["pairs"] []) (i8:PySem.W.keepIn K (.ref cJ)=true) (i9:mg "shown_pairs" =some (.ref cJ))
  (hf:∀us r,fm us=some r→aT 1 (dI bx) us=some r):bB P w K mg base gn (n+1) f fd ["table"] (spT K 1 fm):=
 uw (g:=dI bx) F pN (fun cdv A outer s H E hr=>(aM (bG (bh i6 hr rfl i9 i8 i7 (br (JE.d (ak 0)) bT))))) hf
noncomputable abbrev dU:Stmt:=top 20
theorem lH:bK ["word","cut"] ["word"] (au dU):=⟨rfl,rfl,rfl,by decide +kernel,rfl,by decide +kernel,by decide +kernel⟩
theorem sW {P:Program}{w:World}{K:PySem.W.Frag}{mg:Str→Option Value}{base:Heap}{f:Addr}{fd:FuncData}{n:Nat}{fm:FM}(F:nT K "read_pair" "read_pair" dU f fd){iN:Addr}(lI:mg "FIGURES" =some (.ref iN)) (lJ:KTab P w K iN [("0",0),("1",1),("2",2),("3",3),("4",4),("5",5),("6",6),("7",7),("8",8),("9",9)])
  {pP:Addr}{vt:FuncData}{jC:FM}(Cn:bB P w K mg base gn n pP vt ["thing"] (spT K 1 jC)) (Co:Binds K vt ["thing"] []) (Cp:PySem.W.keepIn K (.ref pP)=true) (Cq:mg "is_name" =some (.ref pP))
  (hf:∀us r,fm us=some r→aT 2 (fR jC) us=some r):bB P w K mg base gn (n+1) f fd ["word"] (spT K 1 fm):=
 uw (g:=fR jC) F lH (fun cdv A outer s H E hr=>(aC (bC (i:=1) lH.nd rfl (by first | exact Or.inl rfl | exact Or.inr rfl) (jx wL PySem.F.slot_str_partition PySem.F.type_str_partition BG (JE.d (ak 0)) bN))
  (aC (gF (JW.t (j0 (lW (kg (JE.d (bh Cn hr rfl Cq Cp Co (br (cC (i:=1) (cY hr) aD (fun _ _=>rfl)) bT))))) (dP (uF rfl lI lJ (cC (i:=1) (cY hr) aD (fun _ _=>rfl)))))) (aM (bG (JD.e A7))) dM)
  (aM (bG (iT (az (cC (i:=1) (cY hr) aD (fun _ _=>rfl)) (az (FL rfl lI lJ (cC (i:=1) (cY hr) aD (fun _ _=>rfl))) aK)))))))) hf
noncomputable abbrev fj:Stmt:=top 21
theorem fU:bK ["table","text","row","at","word","happening"] ["table","text"] (au fj):=⟨rfl,rfl,rfl,by decide +kernel,rfl,by decide +kernel,by decide +kernel⟩
theorem vv {P:Program}{w:World}{K:PySem.W.Frag}{mg:Str→Option Value}{base:Heap}{f:Addr}{fd:FuncData}{n:Nat}{fm:FM}(F:nT K "read_row" "read_row" fj f fd) (fq:mg "enumerate" =none) (iZ:mg "tuple" =none)
  {dO:Addr}{gQ:FuncData}{aY:FM}(kC:bB P w K mg base gn n dO gQ ["word"] (spT K 1 aY)) (kD:Binds K gQ ["word"] []) (kE:PySem.W.keepIn K (.ref dO)=true) (kF:mg "read_pair" =some (.ref dO))
  {iA:Addr}{j5:FuncData}{cD:FM}(qk:bB P w K mg base gn n iA j5 ["table","thing"] (spT K 2 cD)) (ql:Binds K j5 ["table","thing"] []) (qm:PySem.W.keepIn K (.ref iA)=true) (qo:mg "is_happening" =some (.ref iA))
  (hf:∀us r,fm us=some r→aT 6 (fc aY cD) us=some r):bB P w K mg base gn (n+1) f fd ["table","text"] (spT K 2 fm):=
 uw (g:=fc aY cD) F fU (fun cdv A outer s H E hr=>(aC (gF (dg (sF hr.units) (JE.d (ak 1)) bN) (aM (bG (iT aK))) dM)
  (aC (bC (i:=2) fU.nd rfl (by first | exact Or.inl rfl | exact Or.inr rfl) (lU aK))
  (aC (ym PassesOwn.never rfl (yj rfl fq (az (JE.d (jx m5 PySem.F.slot_str_split PySem.F.type_str_split rq (JE.d (ak 1)) bN)) aK)) (wz rfl (iG (fE (i:=3) fU.nd rfl (by first | exact Or.inl rfl | exact Or.inr rfl)) (iG (fE (i:=4) fU.nd rfl (by first | exact Or.inl rfl | exact Or.inr rfl)) sf))) (aC (bC (i:=5) fU.nd rfl (by first | exact Or.inl rfl | exact Or.inr rfl) (bh kC hr rfl kF kE kD (br (JE.d (ak 4)) bT)))
  (aC (gF (lW (kg (JE.d (bh qk hr rfl qo qm ql (br (JE.d (ak 0)) (br (JE.d (ak 5)) bT)))))) (aM BH) dM)
  (aM (xW (JD.e (sA (i:=2) PySem.F.slot_list_append PySem.F.type_list_append qI qO qU (az (JE.d (ak 5)) aK))))))))
  (aM (bG (jN mX rfl iZ PyProof.Rows.Boot.tuple (az (JE.d (ak 2)) aK)))))))) hf
noncomputable abbrev dB:Stmt:=top 22
theorem cE:bK ["text","table","left","at","word","entry"] ["text"] (au dB):=⟨rfl,rfl,rfl,by decide +kernel,rfl,by decide +kernel,by decide +kernel⟩
theorem qp {P:Program}{w:World}{K:PySem.W.Frag}{mg:Str→Option Value}{base:Heap}{f:Addr}{fd:FuncData}{n:Nat}{fm:FM}(F:nT K "read_table" "read_table" dB f fd) (fq:mg "enumerate" =none) (iZ:mg "tuple" =none){fu:Tok}(fy:mg "MOST_HAPPENINGS" =some (.int 12 fu)){gR:Tok}(gT:mg "GREATEST_MOST" =some (.int 5 gR)){jE:Tok}(jF:mg "MOST_NAMES" =some (.int 4 jE))
  {dO:Addr}{gQ:FuncData}{aY:FM}(kC:bB P w K mg base gn n dO gQ ["word"] (spT K 1 aY)) (kD:Binds K gQ ["word"] []) (kE:PySem.W.keepIn K (.ref dO)=true) (kF:mg "read_pair" =some (.ref dO))
  (hf:∀us r,fm us=some r→aT 6 (eu aY) us=some r):bB P w K mg base gn (n+1) f fd ["text"] (spT K 1 fm):=
 uw (g:=eu aY) F cE (fun cdv A outer s H E hr=>(aC (bC (i:=1) cE.nd rfl (by first | exact Or.inl rfl | exact Or.inr rfl) (lU aK))
  (aC (bC (i:=2) cE.nd rfl (by first | exact Or.inl rfl | exact Or.inr rfl) (JD.e (nJ rfl fy)))
  (aC (ym PassesOwn.never rfl (yj rfl fq (az (JE.d (jx m5 PySem.F.slot_str_split PySem.F.type_str_split rq (JE.d (ak 0)) bN)) aK)) (wz rfl (iG (fE (i:=3) cE.nd rfl (by first | exact Or.inl rfl | exact Or.inr rfl)) (iG (fE (i:=4) cE.nd rfl (by first | exact Or.inl rfl | exact Or.inr rfl)) sf))) (aC (bC (i:=5) cE.nd rfl (by first | exact Or.inl rfl | exact Or.inr rfl) (bh kC hr rfl kF kE kD (br (JE.d (ak 4)) bT)))
  (aC (gF (JW.t (j0 (dg Dy (JE.d (ak 5)) A7) (j0 (dg r9 (cC (i:=5) (cY hr) aD (fun _ _=>rfl)) (nJ rfl gT)) (dP (dg Fl (JE.d (ak 3)) (nJ rfl jF)))))) (aM BH) dM)
  (aC (Fx (i:=2) EL cE.nd rfl (by first | exact Or.inl rfl | exact Or.inr rfl) (JE.d (bO cG (cC (i:=5) (cY hr) aD (fun _ _=>rfl)) aD)))
  (aC (gF (JW.t (j0 (dg Ba (JE.d (ak 2)) aD) (dP (dg (Bo hr.units) (cC (i:=5) (cY hr) aD (fun _ _=>rfl)) (JE.d (BI 1 (iQ (by decide) (by decide) rfl (by decide) rfl) rfl (fun _ _ _ _=>lg) (fun _ _ _ _=>(cC (i:=0) (cY hr) aD (fun _ _=>rfl))))) (by with_unfolding_all rfl))))) (aM BH) dM)
  (aM (xW (JD.e (sA (i:=1) PySem.F.slot_list_append PySem.F.type_list_append qI qO qU (az (JE.d (ak 5)) aK))))))))))
  (aM (bG (jN mX rfl iZ PyProof.Rows.Boot.tuple (az (JE.d (ak 1)) aK)))))))) hf
noncomputable abbrev dW:Stmt:=top 24
theorem jc:bK ["_law_script","_law_at","_law_cell"] ["_law_script","_law_at"] (au dW):=⟨rfl,rfl,rfl,by decide +kernel,rfl,by decide +kernel,by decide +kernel⟩
theorem sX {P:Program}{w:World}{K:PySem.W.Frag}{mg:Str→Option Value}{base:Heap}{f:Addr}{fd:FuncData}{n:Nat}{fm:FM}(F:nT K "_law_tape" "_law_tape" dW f fd) (gf:mg "len" =none) (GK:mg "max" =none)
  (hf:∀us r,fm us=some r→aT 3 (fM) us=some r):bB P w K mg base gn (n+1) f fd ["_law_script","_law_at"] (spT K 2 fm):=
 uw (g:=fM) F jc (fun cdv A outer s H E hr=>(aC (bC (i:=2) jc.nd rfl (by first | exact Or.inl rfl | exact Or.inr rfl) (ak 1))
  (aC (gF (dg r9 (ie (i:=0) rfl gf) aD) (aM (bC (i:=2) jc.nd rfl (by first | exact Or.inl rfl | exact Or.inr rfl) (bO cG (cC (i:=0) (cY hr) (JE.d (bO jO (JE.d (ak 1)) (ie (i:=0) rfl gf))) (fun _ _=>rfl)) (JE.d (bO se (JE.d (ak 1)) (ie (i:=0) rfl gf)))))) dM)
  (aM (bG (Ds (hk:=Nat.le_of_ble_eq_true rfl) (oU (JE.d (ak 2)) (oU (JE.d (dc (wH rfl) rfl GK PyProof.Rows.Boot.max (az aD (az (JE.d (bO nI (JE.d (ak 2)) (JE.d (bO Dg aD aD)))) aK)))) (oU aD Dr))))))))) hf
noncomputable abbrev dX:Stmt:=top 25
theorem eB:bK ["_law_tape_here","_law_many","_law_turn","_law_found","_law_mixed"] ["_law_tape_here","_law_many"] (au dX):=⟨rfl,rfl,rfl,by decide +kernel,rfl,by decide +kernel,by decide +kernel⟩
theorem sY {P:Program}{w:World}{K:PySem.W.Frag}{mg:Str→Option Value}{base:Heap}{f:Addr}{fd:FuncData}{n:Nat}{fm:FM}(F:nT K "_law_pick" "_law_pick" dX f fd)
  (hf:∀us r,fm us=some r→aT 5 (fL) us=some r):bB P w K mg base gn (n+1) f fd ["_law_tape_here","_law_many"] (spT K 2 fm):=
 uw (g:=fL) F eB (fun cdv A outer s H E hr=>(aC (bC (i:=2) eB.nd rfl (by first | exact Or.inl rfl | exact Or.inr rfl) (bO cG (cC (i:=0) (cY hr) bN (fun _ _=>rfl)) aD))
  (aC (Br (i:=0) (cY hr) bN (JE.d (ak 2)))
  (aC (gF (dg r9 (cC (i:=0) (cY hr) bN (fun _ _=>rfl)) aD) (aC (bC (i:=3) eB.nd rfl (by first | exact Or.inl rfl | exact Or.inr rfl) (bO jO (cC (i:=0) (cY hr) bN (fun _ _=>rfl)) (JE.d (ak 1))))
  (aC (Br (i:=0) (cY hr) bN (JE.d (bO se (cC (i:=0) (cY hr) bN (fun _ _=>rfl)) (JE.d (ak 1)))))
  (aM (bG (ak 3))))) dM)
  (aC (bC (i:=4) eB.nd rfl (by first | exact Or.inl rfl | exact Or.inr rfl) (bO kX (JE.d (bO cG (JE.d (bO cG (JE.d (bO jO (cC (i:=0) (cY hr) bN (fun _ _=>rfl)) aD)) (JE.d (bO kX (JE.d (bO kX aD (JE.d (ak 2)))) (JE.d (ak 2)))))) aD)) aD))
  (aC (bC (i:=4) eB.nd rfl (by first | exact Or.inl rfl | exact Or.inr rfl) (bO kX (JE.d (bO cG (JE.d (bO jO (JE.d (ak 4)) aD)) (JE.d (bO kX aD (JE.d (ak 2)))))) aD))
  (aM (bG (bO jO (JE.d (bO se (JE.d (bO jO (JE.d (ak 4)) aD)) aD)) (JE.d (ak 1))))))))))) hf
noncomputable abbrev dD:Stmt:=top 26
theorem qq:bK [] [] (au dD):=⟨rfl,rfl,rfl,by decide +kernel,rfl,by decide +kernel,by decide +kernel⟩
theorem qu {P:Program}{w:World}{K:PySem.W.Frag}{mg:Str→Option Value}{base:Heap}{f:Addr}{fd:FuncData}{n:Nat}{fm:FM}(F:nT K "_law_names" "_law_names" dD f fd)
  (hf:∀us r,fm us=some r→aT 0 (gr) us=some r):bB P w K mg base gn (n+1) f fd [] (spT K 0 fm):=
 uw (g:=gr) F qq (fun cdv A outer s H E hr=>(aM (bG (lU (az bN (az bN (az bN (az bN (az bN (az bN (az bN (az bN aK)))))))))))) hf
noncomputable abbrev dF:Stmt:=top 27
theorem bM:bK ["_law_tape_here","_law_names_here","_law_table_here","_law_left","_law_k","_law_name","_law_most"] ["_law_tape_here"] (au dF):=⟨rfl,rfl,rfl,by decide +kernel,rfl,by decide +kernel,by decide +kernel⟩
theorem qw {P:Program}{w:World}{K:PySem.W.Frag}{mg:Str→Option Value}{base:Heap}{f:Addr}{fd:FuncData}{n:Nat}{fm:FM}(F:nT K "_law_table" "_law_table" dF f fd) (jd:mg "range" =none) (gf:mg "len" =none) (GL:mg "min" =none)
  {jG:Addr}{nh:FuncData}{dh:FM}(vA:bB P w K mg base gn n jG nh [] (spT K 0 dh)) (vB:Binds K nh [] []) (vC:PySem.W.keepIn K (.ref jG)=true) (vD:mg "_law_names" =some (.ref jG))
  {bY:Addr}{dm:FuncData}{ao:FM}(cK:bB P w K mg base gn n bY dm ["_law_tape_here","_law_many"] (spT K 2 ao)) (cL:Binds K dm ["_law_tape_here","_law_many"] []) (cM:PySem.W.keepIn K (.ref bY)=true) (cN:mg "_law_pick" =some (.ref bY))
  (hf:∀us r,fm us=some r→aT 7 (gw dh ao) us=some r):bB P w K mg base gn (n+1) f fd ["_law_tape_here"] (spT K 1 fm):=
 uw (g:=gw dh ao) F bM (fun cdv A outer s H E hr=>(aC (bC (i:=1) bM.nd rfl (by first | exact Or.inl rfl | exact Or.inr rfl) (Bu vA hr rfl vD vC vB))
  (aC (bC (i:=2) bM.nd rfl (by first | exact Or.inl rfl | exact Or.inr rfl) (iT aK))
  (aC (bC (i:=3) bM.nd rfl (by first | exact Or.inl rfl | exact Or.inr rfl) (JD.e aD))
  (aC (sy PassesOwn.never rfl (lY rfl jd (az (JE.d (A8 Fo (JE.d (lU (az aD (az aD (az aD (az aD (az aD aK))))))) (JE.d (bh cK hr rfl cN cM cL (ia (ak 0) (br aD bT)))) (fun _ _=>rfl))) aK)) (fE (i:=4) bM.nd rfl (by first | exact Or.inl rfl | exact Or.inr rfl)) (aC (bC (i:=5) bM.nd rfl (by first | exact Or.inl rfl | exact Or.inr rfl) (JD.e (sA (i:=1) PySem.F.slot_list_pop PySem.F.type_list_pop AS Bg Bv (az (JE.d (bh cK hr rfl cN cM cL (ia (ak 0) (br (ie (i:=1) rfl gf) bT)))) aK))))
  (aC (bC (i:=6) bM.nd rfl (by first | exact Or.inl rfl | exact Or.inr rfl) (dc (wG rfl) rfl GL PyProof.Rows.Boot.min (az aD (az (JE.d (bO cG (JE.d (bO nI (JE.d (ak 3)) aD)) (JE.d (ak 4)))) (az (JE.d (bh cK hr rfl cN cM cL (ia (ak 0) (br aD bT)))) aK)))))
  (aC (bC (i:=2) bM.nd rfl (by first | exact Or.inl rfl | exact Or.inr rfl) (bO cG (JE.d (ak 2)) (JE.d (iT (az (JE.d (iT (az (JE.d (ak 5)) (az (JE.d (ak 6)) aK)))) aK)))))
  (aM (bC (i:=3) bM.nd rfl (by first | exact Or.inl rfl | exact Or.inr rfl) (bO nI (JE.d (bO nI (JE.d (ak 3)) (JE.d (ak 6)))) aD)))))))
  (aM (bG (ak 2)))))))) hf
noncomputable abbrev fB:Stmt:=top 28
theorem dY:bK ["_law_tape_here","_law_table_here","_law_most","_law_row_here","_law_k","_law_name","_law_highest"] ["_law_tape_here","_law_table_here","_law_most"] (au fB):=⟨rfl,rfl,rfl,by decide +kernel,rfl,by decide +kernel,by decide +kernel⟩
theorem vE {P:Program}{w:World}{K:PySem.W.Frag}{mg:Str→Option Value}{base:Heap}{f:Addr}{fd:FuncData}{n:Nat}{fm:FM}(F:nT K "_law_row" "_law_row" fB f fd) (jd:mg "range" =none) (gf:mg "len" =none)
  {bY:Addr}{dm:FuncData}{ao:FM}(cK:bB P w K mg base gn n bY dm ["_law_tape_here","_law_many"] (spT K 2 ao)) (cL:Binds K dm ["_law_tape_here","_law_many"] []) (cM:PySem.W.keepIn K (.ref bY)=true) (cN:mg "_law_pick" =some (.ref bY))
  (hf:∀us r,fm us=some r→aT 7 (iW ao) us=some r):bB P w K mg base gn (n+1) f fd ["_law_tape_here","_law_table_here","_law_most"] (spT K 3 fm):=
 uw (g:=iW ao) F dY (fun cdv A outer s H E hr=>(aC (bC (i:=3) dY.nd rfl (by first | exact Or.inl rfl | exact Or.inr rfl) (iT aK))
  (aC (sy PassesOwn.never rfl (lY rfl jd (az (JE.d (bh cK hr rfl cN cM cL (ia (ak 0) (br (JE.d (bO cG (JE.d (ak 2)) aD)) bT)))) aK)) (fE (i:=4) dY.nd rfl (by first | exact Or.inl rfl | exact Or.inr rfl)) (aC (Fq (cC (i:=1) (cY hr) (JE.d (bh cK hr rfl cN cM cL (ia (ak 0) (br (ie (i:=1) rfl gf) bT)))) (fun _ _=>rfl)) (wz rfl (iG (fE (i:=5) dY.nd rfl (by first | exact Or.inl rfl | exact Or.inr rfl)) (iG (fE (i:=6) dY.nd rfl (by first | exact Or.inl rfl | exact Or.inr rfl)) sf))))
  (aM (bC (i:=3) dY.nd rfl (by first | exact Or.inl rfl | exact Or.inr rfl) (bO cG (JE.d (ak 3)) (JE.d (iT (az (JE.d (iT (az (JE.d (ak 5)) (az (JE.d (bh cK hr rfl cN cM cL (ia (ak 0) (br (JE.d (bO cG (JE.d (ak 6)) aD)) bT)))) aK)))) aK))))))))
  (aM (bG (ak 3)))))) hf
noncomputable abbrev dZ:Stmt:=top 29
theorem sZ:bK ["_law_pairs"] ["_law_pairs"] (au dZ):=⟨rfl,rfl,rfl,by decide +kernel,rfl,by decide +kernel,by decide +kernel⟩
theorem tu {P:Program}{w:World}{K:PySem.W.Frag}{mg:Str→Option Value}{base:Heap}{f:Addr}{fd:FuncData}{n:Nat}{fm:FM}(F:nT K "_law_text" "_law_text" dZ f fd)
  (hf:∀us r,fm us=some r→aT 1 (fS) us=some r):bB P w K mg base gn (n+1) f fd ["_law_pairs"] (spT K 1 fm):=
 uw (g:=fS) F sZ (fun cdv A outer s H E hr=>(aM (bG (jx o8 PySem.F.slot_str_join PySem.F.type_str_join uK bN (JE.d (BE ⟨(iQ (by decide) (by decide) rfl (by decide) rfl),rfl,by decide⟩ rfl (Ft (JE.d (ak 0))) (fun _ _ _ _=>lg) (fun _ _ _ _=>(JE.d (bO cG (JE.d (bO cG (JE.d (ak 0)) bN)) (JE.d (A8 Fo bN (JE.d (ak 1)) (fun _ _=>rfl)))))))))))) hf
noncomputable abbrev lK:Stmt:=top 30
theorem iB:bK ["_law_script","_law_k","_law_tape_here","_law_table_here","_law_row_here","_law_due","_law_handed","_law_kept","_law_text_here"] ["_law_script"] (au lK):=⟨rfl,rfl,rfl,by decide +kernel,rfl,by decide +kernel,by decide +kernel⟩
theorem GN {P:Program}{w:World}{K:PySem.W.Frag}{mg:Str→Option Value}{base:Heap}{f:Addr}{fd:FuncData}{n:Nat}{fm:FM}(F:nT K "law" "law" lK f fd) (gf:mg "len" =none) (jd:mg "range" =none) (Cr:mg "list" =none) (ni:mg "repr" =none) (bf:mg "isinstance" =none) (sS:mg "str" =none)
  {kG:Addr}{pQ:FuncData}{aZ:FM}(xh:bB P w K mg base gn n kG pQ ["_law_script","_law_at"] (spT K 2 aZ)) (xj:Binds K pQ ["_law_script","_law_at"] []) (xm:PySem.W.keepIn K (.ref kG)=true) (xq:mg "_law_tape" =some (.ref kG))
  {jH:Addr}{nj:FuncData}{aP:FM}(vF:bB P w K mg base gn n jH nj ["_law_tape_here"] (spT K 1 aP)) (vG:Binds K nj ["_law_tape_here"] []) (vH:PySem.W.keepIn K (.ref jH)=true) (vI:mg "_law_table" =some (.ref jH))
  {mR:Addr}{rF:FuncData}{bH:FM}(zX:bB P w K mg base gn n mR rF ["_law_tape_here","_law_table_here","_law_most"] (spT K 3 bH)) (zY:Binds K rF ["_law_tape_here","_law_table_here","_law_most"] []) (zZ:PySem.W.keepIn K (.ref mR)=true) (z4:mg "_law_row" =some (.ref mR))
  {bY:Addr}{dm:FuncData}{ao:FM}(cK:bB P w K mg base gn n bY dm ["_law_tape_here","_law_many"] (spT K 2 ao)) (cL:Binds K dm ["_law_tape_here","_law_many"] []) (cM:PySem.W.keepIn K (.ref bY)=true) (cN:mg "_law_pick" =some (.ref bY))
  {kH:Addr}{pR:FuncData}{aQ:FM}(pS:bB P w K mg base gn n kH pR ["_law_pairs"] (spT K 1 aQ)) (pT:Binds K pR ["_law_pairs"] []) (pU:PySem.W.keepIn K (.ref kH)=true) (pW:mg "_law_text" =some (.ref kH))
  {kI:Addr}{pX:FuncData}{bz:FM}(xr:bB P w K mg base gn n kI pX ["row"] (spT K 1 bz)) (xu:Binds K pX ["row"] []) (xw:PySem.W.keepIn K (.ref kI)=true) (xx:mg "shown_row" =some (.ref kI))
  {je:Addr}{lM:FuncData}{aJ:FM}(tF:bB P w K mg base gn n je lM ["table"] (spT K 1 aJ)) (tG:Binds K lM ["table"] []) (tH:PySem.W.keepIn K (.ref je)=true) (tK:mg "shown_table" =some (.ref je))
  {mS:Addr}{rG:FuncData}{bJ:FM}(z5:bB P w K mg base gn n mS rG ["table","text"] (spT K 2 bJ)) (z6:Binds K rG ["table","text"] []) (z7:PySem.W.keepIn K (.ref mS)=true) (z8:mg "read_row" =some (.ref mS))
  {jI:Addr}{nk:FuncData}{aR:FM}(vJ:bB P w K mg base gn n jI nk ["text"] (spT K 1 aR)) (vK:Binds K nk ["text"] []) (vL:PySem.W.keepIn K (.ref jI)=true) (vM:mg "read_table" =some (.ref jI))
  (hf:∀us r,fm us=some r→aT 9 (vm aZ aP bH ao aQ bz aJ bJ aR) us=some r):bB P w K mg base gn (n+1) f fd ["_law_script"] (spT K 1 fm):=
 uw (g:=vm aZ aP bH ao aQ bz aJ bJ aR) F iB (fun cdv A outer s H E hr=>(aC (sy PassesOwn.never rfl (lY rfl jd (az (JE.d (bO cG aD (JE.d (dc zb rfl gf PySem.boot_len (az (JE.d (zj (i:=0) Dt (Du aD))) aK))))) aK)) (fE (i:=1) iB.nd rfl (by first | exact Or.inl rfl | exact Or.inr rfl)) (aC (bC (i:=2) iB.nd rfl (by first | exact Or.inl rfl | exact Or.inr rfl) (bh xh hr rfl xq xm xj (ia (ak 0) (br (JE.d (ak 1)) bT))))
  (aC (bC (i:=3) iB.nd rfl (by first | exact Or.inl rfl | exact Or.inr rfl) (bh vF hr rfl vI vH vG (ia (ak 2) bT)))
  (aC (bC (i:=4) iB.nd rfl (by first | exact Or.inl rfl | exact Or.inr rfl) (bh zX hr rfl z4 zZ zY (ia (ak 2) (br (JE.d (ak 3)) (br (JE.d (A8 Fo (JE.d (lU (az aD (az aD (az aD (az aD aK)))))) (JE.d (bh cK hr rfl cN cM cL (ia (ak 2) (br aD bT)))) (fun _ _=>rfl))) bT)))))
  (aC (bC (i:=5) iB.nd rfl (by first | exact Or.inl rfl | exact Or.inr rfl) (bh pS hr rfl pW pU pT (br (JE.d (ak 4)) bT)))
  (aC (gF (dg (sF hr.units) (JE.d (ak 4)) (JE.d (iT aK))) (aM (bC (i:=5) iB.nd rfl (by first | exact Or.inl rfl | exact Or.inr rfl) (JD.e bN))) dM)
  (aC (sy PassesOwn.never rfl (su (JE.d (lU (az (JE.d (ak 4)) (az (JE.d (jN wI rfl Cr PyProof.Rows.Boot.list (az (JE.d (ak 4)) aK))) aK))))) (fE (i:=6) iB.nd rfl (by first | exact Or.inl rfl | exact Or.inr rfl)) (aC (bC (i:=7) iB.nd rfl (by first | exact Or.inl rfl | exact Or.inr rfl) (dc (eU hr.gd hr.units) rfl ni PyProof.Rows.Boot.repr (az (JE.d (ak 6)) aK)))
  (aM (gF (JW.t (j0 (dg (oF hr.units) (JE.d (bh xr hr rfl xx xw xu (br (JE.d (ak 6)) bT))) (JE.d (ak 5))) (dP (dg (oF hr.units) (JE.d (dc (eU hr.gd hr.units) rfl ni PyProof.Rows.Boot.repr (az (JE.d (ak 6)) aK))) (JE.d (ak 7)))))) (aM (bG (JD.e oh))) dM))))
  (aC (bC (i:=8) iB.nd rfl (by first | exact Or.inl rfl | exact Or.inr rfl) (bh tF hr rfl tK tH tG (br (JE.d (ak 3)) bT)))
  (aC (gF (JW.t (j0 (dg (oF hr.units) (JE.d (ak 8)) (JE.d (bh pS hr rfl pW pU pT (br (JE.d (ak 3)) bT)))) (dP (lW (kg (iJ rfl bf rfl sS PyProof.Rows.Boot.str (JE.d (ak 8)))))))) (aM (bG (JD.e oh))) dM)
  (aM (gF (JW.t (j0 (dg (oF hr.units) (JE.d (dc (eU hr.gd hr.units) rfl ni PyProof.Rows.Boot.repr (az (JE.d (bh z5 hr rfl z8 z7 z6 (br (JE.d (ak 3)) (br (JE.d (ak 5)) bT)))) aK))) (JE.d (dc (eU hr.gd hr.units) rfl ni PyProof.Rows.Boot.repr (az (JE.d (ak 4)) aK)))) (dP (dg (oF hr.units) (JE.d (dc (eU hr.gd hr.units) rfl ni PyProof.Rows.Boot.repr (az (JE.d (bh vJ hr rfl vM vL vK (br (JE.d (ak 8)) bT))) aK))) (JE.d (dc (eU hr.gd hr.units) rfl ni PyProof.Rows.Boot.repr (az (JE.d (ak 3)) aK))))))) (aM (bG (JD.e oh))) dM)))))))))))
  (aM (bG (JD.e oh))))) hf
end K12
end
set_option Elab.async false
set_option linter.all false
set_option maxRecDepth 100000
namespace K12
open PySem L2 Sw Sr
set_option maxHeartbeats 0 in
theorem all_mk {l:PySem.W.OpenLaw}{w:World}{K:PySem.W.Frag}{h:Heap}{mg:Str→Option Value}{fa f1 f2 f3 f4 f5 f6 f7 f8 f9 NJ f11 NK NL NN NO NP NQ:Addr}(X:K.In h) (G:h.Ns mainGlobals mg) (IQ:mg "law" =some (.ref fa))
  {Rg Rh Ri Rj Rk Rl Rm Rn Ro Rp Rq Rr Rt Ru Rv Rw Rx Ry NR NS NT NU NV NW NX NY NZ N1 N2 N3 N4 N5 N6 J1:Option Addr}{Rz sl2 RA RB RC RD RE RG RH N7 N8 N9 Oa Ob Oc Od Oe:Array (Option Value)} {RI RJ RK RL PY RM RN RO RP RQ PZ RS RU RV RW RX P0 RY RZ R5 R6 R7 P1 R8 R9 Se Sg Sh P4 Si Sj Sk Sl Sm P5 So Ss Su Sv Sx P6 Sy Sz SA SD SE P7 SG SH SI SJ SK P8 SM Of Og Oh Oi J2 Oj Ol Om Oo Oq J3 Ot Ou Ov Ow Ox J4 Oz OA OB OC OD J5 OE OF OG OH OI J6 OJ OL OM ON OO J7 OP OQ OR OS OT J8 OU OV J9 Ka Kc GO Kd:Value}{iy pJ fu gR jE:Tok}{iN:Addr}{rH:List DictEntry}{z9:Nat}
  (a1:PySem.W.nsIn K mainGlobals "is_whole" =some (some (.ref f1))) (l1:K.lookup f1=some ⟨RI,Rg,.func (PySem.W.fnOf "is_whole" "is_whole" (bE ff) (bg ff) (au ff) .none RJ RK RL Rh PY RM),Rz⟩) (c1:PySem.W.codeIn K PY "is_whole" =true) (k1:PySem.W.keepIn K (.ref f1)=true)
  (a2:PySem.W.nsIn K mainGlobals "is_tuple" =some (some (.ref f2))) (l2:K.lookup f2=some ⟨RN,Ri,.func (PySem.W.fnOf "is_tuple" "is_tuple" (bE fh) (bg fh) (au fh) .none RO RP RQ Rj PZ RS),sl2⟩) (c2:PySem.W.codeIn K PZ "is_tuple" =true) (k2:PySem.W.keepIn K (.ref f2)=true)
  (a3:PySem.W.nsIn K mainGlobals "is_name" =some (some (.ref f3))) (l3:K.lookup f3=some ⟨RU,Rk,.func (PySem.W.fnOf "is_name" "is_name" (bE gz) (bg gz) (au gz) .none RV RW RX Rl P0 RY),RA⟩) (c3:PySem.W.codeIn K P0 "is_name" =true) (k3:PySem.W.keepIn K (.ref f3)=true)
  (a4:PySem.W.nsIn K mainGlobals "is_happening" =some (some (.ref f4))) (l4:K.lookup f4=some ⟨RZ,Rm,.func (PySem.W.fnOf "is_happening" "is_happening" (bE cH) (bg cH) (au cH) .none R5 R6 R7 Rn P1 R8),RB⟩) (c4:PySem.W.codeIn K P1 "is_happening" =true) (k4:PySem.W.keepIn K (.ref f4)=true)
  (a5:PySem.W.nsIn K mainGlobals "shown_pairs" =some (some (.ref f5))) (l5:K.lookup f5=some ⟨R9,Ro,.func (PySem.W.fnOf "shown_pairs" "shown_pairs" (bE cT) (bg cT) (au cT) .none Se Sg Sh Rp P4 Si),RC⟩) (c5:PySem.W.codeIn K P4 "shown_pairs" =true) (k5:PySem.W.keepIn K (.ref f5)=true)
  (a6:PySem.W.nsIn K mainGlobals "shown_row" =some (some (.ref f6))) (l6:K.lookup f6=some ⟨Sj,Rq,.func (PySem.W.fnOf "shown_row" "shown_row" (bE dR) (bg dR) (au dR) .none Sk Sl Sm Rr P5 So),RD⟩) (c6:PySem.W.codeIn K P5 "shown_row" =true) (k6:PySem.W.keepIn K (.ref f6)=true)
  (a7:PySem.W.nsIn K mainGlobals "shown_table" =some (some (.ref f7))) (l7:K.lookup f7=some ⟨Ss,Rt,.func (PySem.W.fnOf "shown_table" "shown_table" (bE cU) (bg cU) (au cU) .none Su Sv Sx Ru P6 Sy),RE⟩) (c7:PySem.W.codeIn K P6 "shown_table" =true) (k7:PySem.W.keepIn K (.ref f7)=true)
  (a8:PySem.W.nsIn K mainGlobals "read_pair" =some (some (.ref f8))) (l8:K.lookup f8=some ⟨Sz,Rv,.func (PySem.W.fnOf "read_pair" "read_pair" (bE dU) (bg dU) (au dU) .none SA SD SE Rw P7 SG),RG⟩) (c8:PySem.W.codeIn K P7 "read_pair" =true) (k8:PySem.W.keepIn K (.ref f8)=true)
  (a9:PySem.W.nsIn K mainGlobals "read_row" =some (some (.ref f9))) (l9:K.lookup f9=some ⟨SH,Rx,.func (PySem.W.fnOf "read_row" "read_row" (bE fj) (bg fj) (au fj) .none SI SJ SK Ry P8 SM),RH⟩) (c9:PySem.W.codeIn K P8 "read_row" =true) (k9:PySem.W.keepIn K (.ref f9)=true)
  (a10:PySem.W.nsIn K mainGlobals "read_table" =some (some (.ref NJ))) (OW:K.lookup NJ=some ⟨Of,NR,.func (PySem.W.fnOf "read_table" "read_table" (bE dB) (bg dB) (au dB) .none Og Oh Oi NS J2 Oj),N7⟩) (OX:PySem.W.codeIn K J2 "read_table" =true) (Lj:PySem.W.keepIn K (.ref NJ)=true)
  (a11:PySem.W.nsIn K mainGlobals "_law_tape" =some (some (.ref f11))) (OY:K.lookup f11=some ⟨Ol,NT,.func (PySem.W.fnOf "_law_tape" "_law_tape" (bE dW) (bg dW) (au dW) .none Om Oo Oq NU J3 Ot),N8⟩) (OZ:PySem.W.codeIn K J3 "_law_tape" =true) (Lk:PySem.W.keepIn K (.ref f11)=true)
  (a12:PySem.W.nsIn K mainGlobals "_law_pick" =some (some (.ref NK))) (O0:K.lookup NK=some ⟨Ou,NV,.func (PySem.W.fnOf "_law_pick" "_law_pick" (bE dX) (bg dX) (au dX) .none Ov Ow Ox NW J4 Oz),N9⟩) (c12:PySem.W.codeIn K J4 "_law_pick" =true) (Ae:PySem.W.keepIn K (.ref NK)=true)
  (a13:PySem.W.nsIn K mainGlobals "_law_names" =some (some (.ref NL))) (O1:K.lookup NL=some ⟨OA,NX,.func (PySem.W.fnOf "_law_names" "_law_names" (bE dD) (bg dD) (au dD) .none OB OC OD NY J5 OE),Oa⟩) (O2:PySem.W.codeIn K J5 "_law_names" =true) (Ll:PySem.W.keepIn K (.ref NL)=true)
  (a14:PySem.W.nsIn K mainGlobals "_law_table" =some (some (.ref NN))) (O3:K.lookup NN=some ⟨OF,NZ,.func (PySem.W.fnOf "_law_table" "_law_table" (bE dF) (bg dF) (au dF) .none OG OH OI N1 J6 OJ),Ob⟩) (O4:PySem.W.codeIn K J6 "_law_table" =true) (Lm:PySem.W.keepIn K (.ref NN)=true)
  (a15:PySem.W.nsIn K mainGlobals "_law_row" =some (some (.ref NO))) (O5:K.lookup NO=some ⟨OL,N2,.func (PySem.W.fnOf "_law_row" "_law_row" (bE fB) (bg fB) (au fB) .none OM ON OO N3 J7 OP),Oc⟩) (O6:PySem.W.codeIn K J7 "_law_row" =true) (Ln:PySem.W.keepIn K (.ref NO)=true)
  (a16:PySem.W.nsIn K mainGlobals "_law_text" =some (some (.ref NP))) (O7:K.lookup NP=some ⟨OQ,N4,.func (PySem.W.fnOf "_law_text" "_law_text" (bE dZ) (bg dZ) (au dZ) .none OR OS OT N5 J8 OU),Od⟩) (O8:PySem.W.codeIn K J8 "_law_text" =true) (Lo:PySem.W.keepIn K (.ref NP)=true)
  (a17:PySem.W.nsIn K mainGlobals "law" =some (some (.ref NQ))) (O9:K.lookup NQ=some ⟨OV,N6,.func (PySem.W.fnOf "law" "law" (bE lK) (bg lK) (au lK) .none J9 Ka Kc J1 GO Kd),Oe⟩) (Pa:PySem.W.codeIn K GO "law" =true) (Pb:PySem.W.keepIn K (.ref NQ)=true)
  (iC:PySem.W.nsIn K mainGlobals "LONGEST_NAME" =some (some (.int 8 iy)))
  (pY:PySem.W.nsIn K mainGlobals "LETTERS" =some (some (.str "abcdefghijklmnopqrstuvwxyz" pJ)))
  (pZ:PySem.W.nsIn K mainGlobals "FIGURES" =some (some (.ref iN))) (p5:K.lookup iN=some ⟨.type "dict",none,.dict rH.toArray z9,#[]⟩) (p6:(iN == sysModules)=false) (p7:oY w [("0",0),("1",1),("2",2),("3",3),("4",4),("5",5),("6",6),("7",7),("8",8),("9",9)] rH)
  (fC:PySem.W.nsIn K mainGlobals "MOST_HAPPENINGS" =some (some (.int 12 fu)))
  (gU:PySem.W.nsIn K mainGlobals "GREATEST_MOST" =some (some (.int 5 gR)))
  (jJ:PySem.W.nsIn K mainGlobals "MOST_NAMES" =some (some (.int 4 jE)))
  (jK:PySem.W.nsIn K mainGlobals "isinstance" =some none) (GP:PySem.W.nsIn K mainGlobals "int" =some none) (Cs:PySem.W.nsIn K mainGlobals "bool" =some none) (xy:PySem.W.nsIn K mainGlobals "tuple" =some none) (GQ:PySem.W.nsIn K mainGlobals "len" =some none) (GR:PySem.W.nsIn K mainGlobals "str" =some none) (GV:PySem.W.nsIn K mainGlobals "all" =some none) (GW:PySem.W.nsIn K mainGlobals "any" =some none) (kJ:PySem.W.nsIn K mainGlobals "enumerate" =some none) (GX:PySem.W.nsIn K mainGlobals "max" =some none) (xA:PySem.W.nsIn K mainGlobals "range" =some none) (GY:PySem.W.nsIn K mainGlobals "min" =some none) (Ct:PySem.W.nsIn K mainGlobals "list" =some none) (Cu:PySem.W.nsIn K mainGlobals "repr" =some none):
  ∃fd:FuncData,(∀(s:Shared) (v:Value),BindsTo s fd ⟨[v],[]⟩ [("_law_script",v)])∧∀base:Heap,K.In base→base.Ns mainGlobals mg→bB l.prog w K mg base gn 4 fa fd ["_law_script"] (spT K 1 (wR 63)):=by
 have e:=IQ.symm.trans (PySem.W.mg_of X G a17)
 cases e
 have F1:=cX (st:=ff) l1 c1 k1
 have b1:=F1.binds (ps:=["thing","least","most"]) fun _ _ _ _ _ _ us hl=>match us,hl with | [_,_,_],_=>rfl
 have n1:=PySem.W.mg_of X G a1
 have F2:=cX (st:=fh) l2 c2 k2
 have b2:=F2.binds (ps:=["thing","least","most"]) fun _ _ _ _ _ _ us hl=>match us,hl with | [_,_,_],_=>rfl
 have n2:=PySem.W.mg_of X G a2
 have F3:=cX (st:=gz) l3 c3 k3
 have b3:=F3.binds (ps:=["thing"]) fun _ _ _ _ _ _ us hl=>match us,hl with | [_],_=>rfl
 have n3:=PySem.W.mg_of X G a3
 have F4:=cX (st:=cH) l4 c4 k4
 have b4:=F4.binds (ps:=["table","thing"]) fun _ _ _ _ _ _ us hl=>match us,hl with | [_,_],_=>rfl
 have n4:=PySem.W.mg_of X G a4
 have F5:=cX (st:=cT) l5 c5 k5
 have b5:=F5.binds (ps:=["pairs"]) fun _ _ _ _ _ _ us hl=>match us,hl with | [_],_=>rfl
 have n5:=PySem.W.mg_of X G a5
 have F6:=cX (st:=dR) l6 c6 k6
 have b6:=F6.binds (ps:=["row"]) fun _ _ _ _ _ _ us hl=>match us,hl with | [_],_=>rfl
 have n6:=PySem.W.mg_of X G a6
 have F7:=cX (st:=cU) l7 c7 k7
 have b7:=F7.binds (ps:=["table"]) fun _ _ _ _ _ _ us hl=>match us,hl with | [_],_=>rfl
 have n7:=PySem.W.mg_of X G a7
 have F8:=cX (st:=dU) l8 c8 k8
 have b8:=F8.binds (ps:=["word"]) fun _ _ _ _ _ _ us hl=>match us,hl with | [_],_=>rfl
 have n8:=PySem.W.mg_of X G a8
 have F9:=cX (st:=fj) l9 c9 k9
 have b9:=F9.binds (ps:=["table","text"]) fun _ _ _ _ _ _ us hl=>match us,hl with | [_,_],_=>rfl
 have n9:=PySem.W.mg_of X G a9
 have P9:=cX (st:=dB) OW OX Lj
 have SN:=P9.binds (ps:=["text"]) fun _ _ _ _ _ _ us hl=>match us,hl with | [_],_=>rfl
 have SO:=PySem.W.mg_of X G a10
 have Qa:=cX (st:=dW) OY OZ Lk
 have SQ:=Qa.binds (ps:=["_law_script","_law_at"]) fun _ _ _ _ _ _ us hl=>match us,hl with | [_,_],_=>rfl
 have SR:=PySem.W.mg_of X G a11
 have qj:=cX (st:=dX) O0 c12 Ae
 have Pc:=qj.binds (ps:=["_law_tape_here","_law_many"]) fun _ _ _ _ _ _ us hl=>match us,hl with | [_,_],_=>rfl
 have Pd:=PySem.W.mg_of X G a12
 have Qc:=cX (st:=dD) O1 O2 Ll
 have SV:=Qc.binds (ps:=[]) fun _ _ _ _ _ _ us hl=>match us,hl with | [],_=>rfl
 have SW:=PySem.W.mg_of X G a13
 have Qd:=cX (st:=dF) O3 O4 Lm
 have SX:=Qd.binds (ps:=["_law_tape_here"]) fun _ _ _ _ _ _ us hl=>match us,hl with | [_],_=>rfl
 have SY:=PySem.W.mg_of X G a14
 have Qe:=cX (st:=fB) O5 O6 Ln
 have S4:=Qe.binds (ps:=["_law_tape_here","_law_table_here","_law_most"]) fun _ _ _ _ _ _ us hl=>match us,hl with | [_,_,_],_=>rfl
 have S5:=PySem.W.mg_of X G a15
 have Qg:=cX (st:=dZ) O7 O8 Lo
 have S6:=Qg.binds (ps:=["_law_pairs"]) fun _ _ _ _ _ _ us hl=>match us,hl with | [_],_=>rfl
 have S7:=PySem.W.mg_of X G a16
 have S8:=cX (st:=lK) O9 Pa Pb
 have bf:=PySem.W.mg_none_of X G jK
 have GH:=PySem.W.mg_none_of X G GP
 have Cm:=PySem.W.mg_none_of X G Cs
 have iZ:=PySem.W.mg_none_of X G xy
 have gf:=PySem.W.mg_none_of X G GQ
 have sS:=PySem.W.mg_none_of X G GR
 have GJ:=PySem.W.mg_none_of X G GV
 have many:=PySem.W.mg_none_of X G GW
 have fq:=PySem.W.mg_none_of X G kJ
 have GK:=PySem.W.mg_none_of X G GX
 have jd:=PySem.W.mg_none_of X G xA
 have GL:=PySem.W.mg_none_of X G GY
 have Cr:=PySem.W.mg_none_of X G Ct
 have ni:=PySem.W.mg_none_of X G Cu
 have iz:=PySem.W.mg_of X G iC
 have pK:=PySem.W.mg_of X G pY
 have lI:=PySem.W.mg_of X G pZ
 have lJ:=DE (P:=l.prog) p5 p6 p7
 have fy:=PySem.W.mg_of X G fC
 have gT:=PySem.W.mg_of X G gU
 have jF:=PySem.W.mg_of X G jJ
 refine⟨PySem.W.fnOf "law" "law" (bE lK) (bg lK) (au lK) .none J9 Ka Kc J1 GO Kd,fun s v=>.of_eq rfl,fun base _ _=>?_⟩
 have Aa:=vo (P:=l.prog) (w:=w) (K:=K) (mg:=mg) (base:=base) (n:=0) F1 bf GH Cm (fm:=mC) whole_run
 have Ab:=vq (P:=l.prog) (w:=w) (K:=K) (mg:=mg) (base:=base) (n:=0) F2 bf iZ gf (fm:=mD) zw
 have Cv:=xg (P:=l.prog) (w:=w) (K:=K) (mg:=mg) (base:=base) (n:=0) F3 bf sS gf GJ iz pK (fm:=rA) BX
 have lN:=pM (P:=l.prog) (w:=w) (K:=K) (mg:=mg) (base:=base) (n:=0) F5 sS (fm:=iY) zK
 have xB:=sX (P:=l.prog) (w:=w) (K:=K) (mg:=mg) (base:=base) (n:=0) Qa gf GK (fm:=pe) BK
 have kK:=sY (P:=l.prog) (w:=w) (K:=K) (mg:=mg) (base:=base) (n:=0) qj (fm:=d9) pick_run
 have vN:=qu (P:=l.prog) (w:=w) (K:=K) (mg:=mg) (base:=base) (n:=0) Qc (fm:=ir) zx
 have xC:=tu (P:=l.prog) (w:=w) (K:=K) (mg:=mg) (base:=base) (n:=0) Qg (fm:=m9) B7
 have qx:=nF (P:=l.prog) (w:=w) (K:=K) (mg:=mg) (base:=base) (n:=1) F4 many (Ab.mono (by omega)) b2 k2 n2 (Aa.mono (by omega)) b1 k1 n1 (fm:=sO) DI
 have xD:=sV (P:=l.prog) (w:=w) (K:=K) (mg:=mg) (base:=base) (n:=1) F6 gf (lN.mono (by omega)) b5 k5 n5 (fm:=eY) sP
 have tL:=pO (P:=l.prog) (w:=w) (K:=K) (mg:=mg) (base:=base) (n:=1) F7 (lN.mono (by omega)) b5 k5 n5 (fm:=eZ) sQ
 have p8:=sW (P:=l.prog) (w:=w) (K:=K) (mg:=mg) (base:=base) (n:=1) F8 lI lJ (Cv.mono (by omega)) b3 k3 n3 (fm:=pairF) B4
 have vO:=qw (P:=l.prog) (w:=w) (K:=K) (mg:=mg) (base:=base) (n:=1) Qd jd gf GL (vN.mono (by omega)) SV Ll SW (kK.mono (by omega)) Pc Ae Pd (fm:=kr) zz
 have Ac:=vE (P:=l.prog) (w:=w) (K:=K) (mg:=mg) (base:=base) (n:=1) Qe jd gf (kK.mono (by omega)) Pc Ae Pd (fm:=wQ) DF
 have Ad:=vv (P:=l.prog) (w:=w) (K:=K) (mg:=mg) (base:=base) (n:=2) F9 fq iZ (p8.mono (by omega)) b8 k8 n8 (qx.mono (by omega)) b4 k4 n4 (fm:=fT) vf
 have vP:=qp (P:=l.prog) (w:=w) (K:=K) (mg:=mg) (base:=base) (n:=2) P9 fq iZ fy gT jF (p8.mono (by omega)) b8 k8 n8 (fm:=gP) vh
 exact GN (P:=l.prog) (w:=w) (K:=K) (mg:=mg) (base:=base) (n:=3) S8 gf jd Cr ni bf sS (xB.mono (by omega)) SQ Lk SR (vO.mono (by omega)) SX Lm SY (Ac.mono (by omega)) S4 Ln S5 (kK.mono (by omega)) Pc Ae Pd (xC.mono (by omega)) S6 Lo S7 (xD.mono (by omega)) b6 k6 n6 (tL.mono (by omega)) b7 k7 n7 (Ad.mono (by omega)) b9 k9 n9 (vP.mono (by omega)) SN Lj SO zO
theorem walk {l:PySem.W.OpenLaw}{q:Program}{loose:List Str}{XP:(Str→Option Value)→Heap→Prop}{YP:World→Heap→Prop}{d:DefRec}{K:Params→PySem.W.Frag}(hn:l.most=some 63) (hdf:d.params.defaults=[])
  (hY:∀(w:World) (h:Heap),YP w h→(K w.params).In h)
  (F:∀(w:World) (mg:Str→Option Value) (fa:Addr) (h:Heap),(K w.params).In h→h.Ns mainGlobals mg→mg d.name=some (.ref fa)→
   ∃fd:FuncData,(∀(s:Shared) (u:Value),BindsTo s fd ⟨[u],[]⟩ [("_law_script",u)])∧∀base:Heap,(K w.params).In base→base.Ns mainGlobals mg→bB l.prog w (K w.params) mg base gn 4 fa fd ["_law_script"] (spT (K w.params) 1 (wR 63))):
  PySem.W.WalkO q loose XP YP l.row.toRowW d [] (fun f vs=>PySem.call f vs):=
 L2.C4 (n:=63) (k:=4) (x:="_law_script") (CX:=fun _=>gn) (sp:=fun w=>spT (K w.params) 1 (wR 63)) hn (by decide) hdf ⟨rfl,by decide,by decide,rfl⟩ hY F (fun w H a ns hl hO hS=>Gj hl hO hS) fun _ _ _ _ _ z=>z
end K12
open PySem PySem.W PyProof.Rows
noncomputable def PySem.W.Fast.tw5882096982633598473:Nat→Stmt:=K12.top
theorem PySem.W.Fast.te5882096982633598473:K12.top=PySem.W.Fast.tw5882096982633598473:=rfl
def K12.sc:Scope:=PySem.Challenge.pw_surewatch_k12_rows_and_tables_written.main.scope
noncomputable def PySem.W.Fast.tw402886354258705813:Scope:=K12.sc
theorem PySem.W.Fast.te402886354258705813:K12.sc=PySem.W.Fast.tw402886354258705813:=rfl
def K12.pw:Program:={main:={body:=[K12.top 0,K12.top 1,K12.top 2,K12.top 3,K12.top 4,K12.top 5,K12.top 6,K12.top 7,K12.top 8,K12.top 9,K12.top 10,K12.top 11,K12.top 12,K12.top 13,K12.top 14,K12.top 15,K12.top 16,K12.top 17,K12.top 18,K12.top 19,K12.top 20,K12.top 21,K12.top 22,K12.top 23,K12.top 24,K12.top 25,K12.top 26,K12.top 27,K12.top 28,K12.top 29,K12.top 30],scope:=K12.sc,futureAnnotations:=false,file:="/claim/cut.py",more:=[]},modules:=[],parses:=[],absent:=[],harvested:=[],given:={argv:=[],stdin:=[],environ:=some [([76,67,95,65,76,76],[67,46,85,84,70,45,56])]}}
def K12.rw:OpenLaw:={prog:=K12.pw,name:=(PySem.Str.ofString "law"),about:=[(PySem.Str.ofString "shown_row")],foot:=7,most:=some 63,bound:=none,writes:=false}
noncomputable def PySem.W.Fast.tw9047562852949345086:=0
noncomputable def PySem.W.Fast.tw14540028872377450550:=0
noncomputable def PySem.W.Fast.tw4480668694758001054:=0
noncomputable def PySem.W.Fast.tw9835881750791802792:=0
noncomputable def PySem.W.Fast.tw2842273428573866683:=0
noncomputable def PySem.W.Fast.tw1106713935551450760:=0
noncomputable def PySem.W.Fast.tw3140706279359909982:=0
noncomputable def PySem.W.Fast.tw17282964978789094254:=0
noncomputable def PySem.W.Fast.tw18015162640281670323:=0
noncomputable def PySem.W.Fast.tw7736872960550189559:=0
noncomputable def PySem.W.Fast.tw9487366536032671992:=0
noncomputable def PySem.W.Fast.tw7494296177625047559:=0
noncomputable def PySem.W.Fast.tw2824537921033638389:=0
noncomputable def PySem.W.Fast.tw8150096923002904105:=0
noncomputable def PySem.W.Fast.tw13986593791129069351:=0
noncomputable def PySem.W.Fast.tw4482452268062344947:=0
noncomputable def PySem.W.Fast.tw9061589757065126795:=0
noncomputable def PySem.W.Fast.tw16224252137720811364:=0
noncomputable def PySem.W.Fast.tw16264811780078271787:=0
noncomputable def PySem.W.Fast.tw919601242386380101:=0
noncomputable def PySem.W.Fast.tw16742317540175444344:=0
noncomputable def PySem.W.Fast.tw3538961682203332468:=0
noncomputable def PySem.W.Fast.tw3296274492767354046:=0
noncomputable def PySem.W.Fast.tw6343607037558331648:=0
noncomputable def PySem.W.Fast.tw7136464147351179245:=0
noncomputable def PySem.W.Fast.tw11278860330492799515:=0
noncomputable def PySem.W.Fast.tw11147343366739032588:=0
noncomputable def PySem.W.Fast.tw10406500017483449170:=0
noncomputable def PySem.W.Fast.tw16142263929179524050:=0
noncomputable def PySem.W.Fast.tw15845364141520060435:=0
noncomputable def PySem.W.Fast.tw371998889730137434:=0
noncomputable def PySem.W.Fast.tw7820103155144643482:=0
noncomputable def PySem.W.Fast.tw3858415096411444232:=0
noncomputable def PySem.W.Fast.tw3067996659604444644:=0
noncomputable def PySem.W.Fast.tw333611748515121766:=0
noncomputable def PySem.W.Fast.tw18020367099514838286:=0
set_option maxRecDepth 100000 in
set_option maxHeartbeats 0 in
theorem K12.holds:K12.rw.Holds:=by
 w_on;o_law;k_head;(case hw=>w_witness2)
 k_fill
 refine K12.walk (l:=K12.rw) rfl rfl (fun w h Y=>PySem.W.kIn_of Y) ?F
 case F=>
  intro w mg fa h KX G hmg
  refine' K12.all_mk KX G hmg ?a1 ?l1 ?c1 ?k1 ?a2 ?l2 ?c2 ?k2 ?a3 ?l3 ?c3 ?k3 ?a4 ?l4 ?c4 ?k4 ?a5 ?l5 ?c5 ?k5 ?a6 ?l6 ?c6 ?k6 ?a7 ?l7 ?c7 ?k7 ?a8 ?l8 ?c8 ?k8 ?a9 ?l9 ?c9 ?k9 ?a10 ?OW ?OX ?Lj ?a11 ?OY ?OZ ?Lk ?a12 ?O0 ?c12 ?Ae ?a13 ?O1 ?O2 ?Ll ?a14 ?O3 ?O4 ?Lm ?a15 ?O5 ?O6 ?Ln ?a16 ?O7 ?O8 ?Lo ?a17 ?O9 ?Pa ?Pb ?iC ?pY ?pZ ?p5 ?p6 ?p7 ?fC ?gU ?jJ ?jK ?GP ?Cs ?xy ?GQ ?GR ?GV ?GW ?kJ ?GX ?xA ?GY ?Ct ?Cu
  (case a1=>k_is);(case l1=>k_is);(case c1=>k_is);(case k1=>k_is)
  (case a2=>k_is);(case l2=>k_is);(case c2=>k_is);(case k2=>k_is)
  (case a3=>k_is);(case l3=>k_is);(case c3=>k_is);(case k3=>k_is)
  (case a4=>k_is);(case l4=>k_is);(case c4=>k_is);(case k4=>k_is)
  (case a5=>k_is);(case l5=>k_is);(case c5=>k_is);(case k5=>k_is)
  (case a6=>k_is);(case l6=>k_is);(case c6=>k_is);(case k6=>k_is)
  (case a7=>k_is);(case l7=>k_is);(case c7=>k_is);(case k7=>k_is)
  (case a8=>k_is);(case l8=>k_is);(case c8=>k_is);(case k8=>k_is)
  (case a9=>k_is);(case l9=>k_is);(case c9=>k_is);(case k9=>k_is)
  (case a10=>k_is);(case OW=>k_is);(case OX=>k_is);(case Lj=>k_is)
  (case a11=>k_is);(case OY=>k_is);(case OZ=>k_is);(case Lk=>k_is)
  (case a12=>k_is);(case O0=>k_is);(case c12=>k_is);(case Ae=>k_is)
  (case a13=>k_is);(case O1=>k_is);(case O2=>k_is);(case Ll=>k_is)
  (case a14=>k_is);(case O3=>k_is);(case O4=>k_is);(case Lm=>k_is)
  (case a15=>k_is);(case O5=>k_is);(case O6=>k_is);(case Ln=>k_is)
  (case a16=>k_is);(case O7=>k_is);(case O8=>k_is);(case Lo=>k_is)
  (case a17=>k_is);(case O9=>k_is);(case Pa=>k_is);(case Pb=>k_is)
  (case iC=>k_is)
  (case pY=>k_is)
  (case pZ=>k_is)
  (case p5=>k_is);(case p6=>decide);(case p7=>exact⟨⟨rfl,⟨_,rfl⟩,_,rfl⟩,⟨⟨rfl,⟨_,rfl⟩,_,rfl⟩,⟨⟨rfl,⟨_,rfl⟩,_,rfl⟩,⟨⟨rfl,⟨_,rfl⟩,_,rfl⟩,⟨⟨rfl,⟨_,rfl⟩,_,rfl⟩,⟨⟨rfl,⟨_,rfl⟩,_,rfl⟩,⟨⟨rfl,⟨_,rfl⟩,_,rfl⟩,⟨⟨rfl,⟨_,rfl⟩,_,rfl⟩,⟨⟨rfl,⟨_,rfl⟩,_,rfl⟩,⟨⟨rfl,⟨_,rfl⟩,_,rfl⟩,True.intro⟩⟩⟩⟩⟩⟩⟩⟩⟩⟩)
  (case fC=>k_is)
  (case gU=>k_is)
  (case jJ=>k_is)
  (case jK=>k_is);(case GP=>k_is);(case Cs=>k_is);(case xy=>k_is);(case GQ=>k_is);(case GR=>k_is);(case GV=>k_is);(case GW=>k_is);(case kJ=>k_is);(case GX=>k_is);(case xA=>k_is);(case GY=>k_is);(case Ct=>k_is);(case Cu=>k_is)
theorem PySem.Challenge.cw_surewatch_k12_rows_and_tables_written_holds : PySem.Challenge.rw_surewatch_k12_rows_and_tables_written.Holds :=
 K12.holds
