import PyProof.Rows.All
import Wide.All
import OpenK.AllK
import Wide.FinOn
import PyProof.EqAt
import PyProof.EqKinds
import PyProof.TupleCall
import Lean
import PySem.Challenge.RW_surewatch_k05_sayings
section
set_option Elab.async false
set_option linter.all false
set_option maxRecDepth 100000
namespace L2
open PySem PySem.Spec PyProof.Rows
noncomputable abbrev Key:=Sum Int Str
noncomputable def xx:Key→Value→Bool
 | .inl k,v=>Value.isInt k v
 | .inr x,v=>Value.isStrOf x v
noncomputable def QM (w:World):Key→Int
 | .inl k=>hashInt k
 | .inr x=>hashStr w x
theorem fj:∀{k:Key}{v:Value},xx k v=true→(∃i t,k=Sum.inl i∧v=Value.int i t)∨(∃x t,k=Sum.inr x∧v=Value.str x t)
 | .inl i,v,h=>by
  obtain⟨t,e⟩:=Value.isInt_shape (k:=i) (v:=v) h
  exact .inl ⟨i,t,rfl,e⟩
 | .inr x,v,h=>by
  obtain⟨t,e⟩:=Value.isStrOf_shape (x:=x) (v:=v) h
  exact .inr ⟨x,t,rfl,e⟩
theorem Dd (i:Int) (t:Tok):xx (.inl i) (.int i t)=true:=by simp[xx,Value.isInt]
theorem De (x:Str) (t:Tok):xx (.inr x) (.str x t)=true:=by simp[xx,Value.isStrOf]
theorem Jw (a b:Int):decide ((Sum.inl a:Key)=Sum.inl b)=(a == b):=by
 by_cases e:a=b
 ·subst e;simp
 ·have h:¬(Sum.inl a:Key)=Sum.inl b:=fun q=>e (Sum.inl.inj q)
  rw[decide_eq_false h]
  exact(beq_eq_false_iff_ne.mpr e).symm
theorem Jx (a b:Str):decide ((Sum.inr a:Key)=Sum.inr b)=decide (a=b):=by
 by_cases e:a=b
 ·subst e;simp
 ·have h:¬(Sum.inr a:Key)=Sum.inr b:=fun q=>e (Sum.inr.inj q)
  rw[decide_eq_false h,decide_eq_false e]
theorem Jy (a:Int) (b:Str):decide ((Sum.inl a:Key)=Sum.inr b)=false:=decide_eq_false (fun q=>nomatch q)
theorem Jz (a:Str) (b:Int):decide ((Sum.inr a:Key)=Sum.inl b)=false:=decide_eq_false (fun q=>nomatch q)
noncomputable def cP (prog:Program) (w:World):PySem.KeyKind prog w Key where
  is:=xx
  hash:=QM w
  inj := fun v a b ha hb => by
    rcases fj ha with⟨i,t,rfl,rfl⟩ | ⟨x,t,rfl,rfl⟩
    · rcases fj hb with⟨j,u,rfl,e⟩ | ⟨y,u,rfl,e⟩
      · injection e with e1 _;rw[e1]
      · exact nomatch e
    · rcases fj hb with⟨j,u,rfl,e⟩ | ⟨y,u,rfl,e⟩
      · exact nomatch e
      · injection e with e1 _;rw[e1]
  byValue:=fun k v h=>by
    rcases fj h with⟨i,t,rfl,rfl⟩ | ⟨x,t,rfl,rfl⟩ <;> rfl
  pyHash:=fun hv h=>by
    rcases fj hv with⟨i,t,rfl,rfl⟩ | ⟨x,t,rfl,rfl⟩
    · exact wpAny_pyHash_int h
    · exact wpAny_pyHash_str h
  eqBool:=fun hu hv h=>by
    rcases fj hu with⟨i,t,rfl,rfl⟩ | ⟨x,t,rfl,rfl⟩
    · rcases fj hv with⟨j,u,rfl,rfl⟩ | ⟨y,u,rfl,rfl⟩
      · rw[Jw] at h;exact wpAny_eqBool_int h
      · rw[Jy] at h;exact SeqAt.EqAt.int_str i t y u _ _ _ _ h
    · rcases fj hv with⟨j,u,rfl,rfl⟩ | ⟨y,u,rfl,rfl⟩
      · rw[Jz] at h;exact SeqAt.EqAt.str_int x t j u _ _ _ _ h
      · rw[Jx] at h;exact wpAny_eqBool_str h
  «strs»:=fun k x t v h=>by
    rcases fj h with⟨i,u,rfl,e⟩ | ⟨y,u,rfl,e⟩
    · exact nomatch e
    · injection e with e1 _
      subst e1
      cases v <;> rfl
theorem zL (prog:Program) (w:World) (i:Int) (t:Tok):(cP prog w).is (.inl i) (.int i t)=true:=Dd i t
theorem nH (prog:Program) (w:World) (x:Str) (t:Tok):(cP prog w).is (.inr x) (.str x t)=true:=De x t
end L2
namespace L2
open PySem PySem.Spec PyProof.Rows
inductive V where
 | cH | bl (b:Bool) | int (i:Int) | str (x:Str) | QN (b:Array UInt8) | flt (b:UInt64) | ref (a:Addr) | ty (n:String)
 deriving DecidableEq
noncomputable def RelV:V→Value→Prop
 | .cH,u=>u=Value.none
 | .bl b,u=>u=Value.bool b
 | .int i,u=>∃t,u=Value.int i t
 | .str x,u=>∃t,u=Value.str x t
 | .QN b,u=>∃t,u=Value.bytes b t
 | .flt b,u=>∃t,u=Value.float b t
 | .ref a,u=>u=Value.ref a
 | .ty n,u=>u=Value.type n
noncomputable abbrev Vals:List V→List Value→Prop:=Paired RelV
theorem Vals.length {xs:List V}{us:List Value}(r:Vals xs us):xs.length=us.length:=Paired.length r
theorem Vals.get:∀{xs:List V}{us:List Value}{i:Nat}{x:V},Vals xs us→xs[i]? =some x→∃u,us[i]? =some u∧RelV x u
 | _,_,_,_,.nil,e=>by simp at e
 | _,_,0,_,.cons r _,e=>by simp at e;subst e;exact⟨_,rfl,r⟩
 | _,_,i+1,x,.cons _ t,e=>by
  obtain⟨u,h1,h2⟩:=Vals.get (i:=i) (x:=x) t (by simpa using e)
  exact⟨u,by simpa using h1,h2⟩
theorem Vals.set {x:V}{u:Value}(r:RelV x u):∀{xs:List V}{us:List Value}(i:Nat),Vals xs us→Vals (xs.set i x) (us.set i u)
 | _,_,_,.nil=>.nil
 | _,_,0,.cons _ t=>.cons r t
 | _,_,i+1,.cons q t=>.cons q (Vals.set r i t)
theorem Vals.append:∀{xs ys:List V}{us ws:List Value},Vals xs us→Vals ys ws→Vals (xs++ys) (us++ws)
 | _,_,_,_,.nil,s=>s
 | _,_,_,_,.cons r t,s=>.cons r (Vals.append t s)
theorem Vals.take:∀{xs:List V}{us:List Value}(n:Nat),Vals xs us→Vals (xs.take n) (us.take n)
 | _,_,0,_=>.nil
 | _,_,_+1,.nil=>.nil
 | _,_,n+1,.cons r t=>.cons r (Vals.take n t)
theorem Vals.drop:∀{xs:List V}{us:List Value}(n:Nat),Vals xs us→Vals (xs.drop n) (us.drop n)
 | _,_,0,r=>r
 | _,_,_+1,.nil=>.nil
 | _,_,n+1,.cons _ t=>Vals.drop n t
noncomputable def uq:Option V→Option Value→Prop
 | some v,some u=>RelV v u
 | none,none=>True
 | _,_=>False
noncomputable def KV {κ:Type}:List (κ×V)→List (κ×Value)→Prop:=Paired fun(p:κ×V) (q:κ×Value)=>p.1=q.1∧RelV p.2 q.2
noncomputable def kV:Key→V
 | .inl i=>.int i
 | .inr x=>.str x
inductive HO where
 | lst (xs:List V)
 | tup (xs:List V)
 | dK (kvs:List (Key×V)) | dT (kvs:List (List Key×V))
 | set (S:Int→Bool) (n:Nat)
 | ins (C dx:Addr) (fs:List (Str×V))
 | own (x:Addr)
 | xd (fs:List (Str×V))
 | met (f x:Addr)
 | xy (lo hi:Int)
 | j3 (o:Obj) (u:HO)
 | JC (ps:Array Value)
 | ext (φ:Heap→Prop)
noncomputable abbrev Hp:=Addr→Option HO
noncomputable def upd (H:Hp) (a:Addr) (o:HO):Hp:=fun b=>if b=a then some o else H b
theorem bY {H:Hp}{a:Addr}{o:HO}:upd H a o a=some o:=by unfold upd;rw[if_pos rfl]
theorem bh {H:Hp}{a b:Addr}{o:HO}(h:b≠a):upd H a o b=H b:=by unfold upd;rw[if_neg h]
theorem Mi {H:Hp}{a b:Addr}{o u:HO}(h:H a=some o) (h':H b=some u) (d:o≠u):a≠b:=by
 intro e;subst e;rw[h] at h';exact d (Option.some.inj h')
theorem cD {H:Hp}{a b:Addr}{o:HO}(h:H a=some o) (h':H b=none):a≠b:=by
 intro e;subst e;rw[h] at h';cases h'
section
variable (P:Program) (w:World)
noncomputable def gI (H:Hp) (h:Heap) (a:Addr):HO→Prop
 | .lst xs=>xs.length≤sizeLine∧∃(its:List Value) (n:Nat),Vals xs its∧h.get? a=some {cls:=.type "list",data:=.seq its.toArray n}
 | .tup xs=>xs.length≤sizeLine∧∃its:List Value,Vals xs its∧IsTup h a its.toArray
 | .dK kvs=>kvs.length≤sizeLine∧(a == sysModules)=false∧∃vs,KV kvs vs∧h.DictOf (cP P w) a vs
 | .dT kvs=>kvs.length≤sizeLine∧(a == sysModules)=false∧∃xs:List (List Key×Addr×Value),
   Paired (fun(p:List Key×V) (q:List Key×Addr×Value)=>p.1=q.1∧H q.2.1=some (.tup (p.1.map kV))∧RelV p.2 q.2.2) kvs xs∧
   ∃o es ep,h.get? a=some o∧o.ExactDict∧o.data= .dict es ep∧es.toList=xs.map (entryOfKey (tupleKind (cP P w)))∧(xs.map (·.1)).Nodup
 | .set S n=>h.SetOf (intKind P w) a S n
 | .ins C dx fs=>H dx=some (.own a)∧fs.length≤1000∧dx≠a∧h.get? a=some (PySem.W.instObj C dx)∧
   ∃mA,h.Ns1 dx mA∧(∀f,uq (fs.lookup f) (mA f))∧PySem.Within mA (fs.map (·.1))
 | .own _=>∃o,h.get? a=some o
 | .xd fs=>∃mA,h.Ns1 a mA∧∀f,uq (fs.lookup f) (mA f)
 | .xy lo hi=>∃t u v,h.get? a=some {cls:=.type "range",data:=.fields #[.int lo t,.int hi u,.int 1 v]}
 | .j3 o u=>h.get? a=some o∧gI H h a u
 | .JC ps=>h.get? a=some {cls:=.none,data:=.fields ps}
 | .met f x=>h.get? a=some (PySem.W.methodObj (.ref f) (.ref x))
 | .ext φ=>φ h∧(∃o,h.get? a=some o)∧∀h1 h2:Heap,φ h1→(∀o,h1.get? a=some o→h2.get? a=some o)→φ h2
noncomputable def pK (H:Hp) (h:Heap):Prop:=∀a o,H a=some o→gI P w H h a o
end
section
variable {P:Program}{w:World}{H H':Hp}{h h':Heap}{a:Addr}{o:HO}
theorem gI.lt (x:gI P w H h a o):a < h.objs.size:=by
 cases o with
 | lst xs=>obtain⟨_,_,_,_,e⟩:=x;exact Heap.lt_size e
 | tup xs=>obtain⟨_,_,_,p⟩:=x;exact p.lt
 | dK kvs=>obtain⟨_,_,_,_,o,_,_,e,_⟩:=x;exact Heap.lt_size e
 | dT kvs=>obtain⟨_,_,_,_,o,_,_,e,_⟩:=x;exact Heap.lt_size e
 | set S n=>obtain⟨o,_,_,_,e,_⟩:=x;exact Heap.lt_size e
 | ins C dx fs=>obtain⟨_,_,_,e,_⟩:=x;exact Heap.lt_size e
 | own y=>obtain⟨_,e⟩:=x;exact Heap.lt_size e
 | xd fs=>obtain⟨_,⟨_,_,_,e,_⟩,_⟩:=x;exact Heap.lt_size e
 | xy lo hi=>obtain⟨_,_,_,e⟩:=x;exact Heap.lt_size e
 | j3 ob u=>obtain⟨e,_⟩:=x;exact Heap.lt_size e
 | JC ps=>exact Heap.lt_size (show h.get? a=some _ from x)
 | met f y=>exact Heap.lt_size (show h.get? a=some _ from x)
 | ext φ=>obtain⟨_,⟨_,e⟩,_⟩:=x;exact Heap.lt_size e
theorem Paired.Df {α β:Type}{F G:α→β→Prop}:∀{l₁:List α}{l₂:List β},Paired F l₁ l₂→(∀a b,F a b→G a b)→Paired G l₁ l₂
 | _,_,.nil,_=>.nil
 | _,_,.cons r t,f=>.cons (f _ _ r) (Paired.Df t f)
theorem gI.stay (x:gI P w H h a o) (k:∀b u,(b=a∨H b=some (.own a))→h.get? b=some u→h'.get? b=some u)
  (ho:∀b,H b=some (.own a)→H' b=some (.own a)) (ht:∀b xs,H b=some (.tup xs)→H' b=some (.tup xs)):gI P w H' h' a o:=by
 induction o with
 | lst xs=>obtain⟨z,its,n,r,e⟩:=x;exact⟨z,its,n,r,k _ _ (.inl rfl) e⟩
 | tup xs=>obtain⟨z,its,r,ob,e,c⟩:=x;exact⟨z,its,r,ob,k _ _ (.inl rfl) e,c⟩
 | dK kvs=>obtain⟨z,y,vs,r,ob,es,ep,e,c⟩:=x;exact⟨z,y,vs,r,ob,es,ep,k _ _ (.inl rfl) e,c⟩
 | dT kvs=>
  obtain⟨z,y,xs,r,ob,es,ep,e,c⟩:=x
  exact⟨z,y,xs,Paired.Df r fun p q z=>⟨z.1,ht _ _ z.2.1,z.2.2⟩,ob,es,ep,k _ _ (.inl rfl) e,c⟩
 | set S n=>obtain⟨ob,es,ep,t,e,c⟩:=x;exact⟨ob,es,ep,t,k _ _ (.inl rfl) e,c⟩
 | ins C dx fs=>
  obtain⟨d,z,ne,e,mA,⟨od,es,ep,e2,c⟩,r⟩:=x
  exact⟨ho _ d,z,ne,k _ _ (.inl rfl) e,mA,⟨od,es,ep,k _ _ (.inr d) e2,c⟩,r⟩
 | own y=>obtain⟨ob,e⟩:=x;exact⟨ob,k _ _ (.inl rfl) e⟩
 | xd fs=>obtain⟨mA,⟨od,es,ep,e,c⟩,r⟩:=x;exact⟨mA,⟨od,es,ep,k _ _ (.inl rfl) e,c⟩,r⟩
 | xy lo hi=>obtain⟨t,u,v,e⟩:=x;exact⟨t,u,v,k _ _ (.inl rfl) e⟩
 | j3 ob u ih=>obtain⟨e,q⟩:=x;exact⟨k _ _ (.inl rfl) e,ih q⟩
 | JC ps=>
  have e:h.get? a=some {cls:=.none,data:=.fields ps}:=x
  show h'.get? a=some {cls:=.none,data:=.fields ps}
  exact k a _ (.inl rfl) e
 | met f y=>
  have e:h.get? a=some (PySem.W.methodObj (.ref f) (.ref y)):=x
  show h'.get? a=some (PySem.W.methodObj (.ref f) (.ref y))
  exact k a _ (.inl rfl) e
 | ext φ=>obtain⟨p,⟨o,e⟩,st⟩:=x;exact⟨st _ _ p fun o q=>k _ _ (.inl rfl) q,⟨o,k _ _ (.inl rfl) e⟩,st⟩
theorem pK.lt (x:pK P w H h) (e:H a=some o):a < h.objs.size:=(x a o e).lt
theorem pK.fresh (x:pK P w H h) (e:h.objs.size≤a):H a=none:=by
 cases q:H a with
 | none=>rfl
 | some u=>exact absurd (Nat.lt_of_lt_of_le (x.lt q) e) (Nat.lt_irrefl _)
theorem pK.kept (x:pK P w H h) (k:∀b u,h.get? b=some u→h'.get? b=some u):pK P w H h':=fun a o e=>
 (x a o e).stay (fun b u _ q=>k b u q) (fun _ q=>q) fun _ _ q=>q
theorem pK.laid (x:pK P w H h) (k:∀b u,h.get? b=some u→h'.get? b=some u) (hp:h.objs.size≤a) (new:gI P w (upd H a o) h' a o):pK P w (upd H a o) h':=fun b u e=>by
 have hn:=x.fresh hp
 by_cases hb:b=a
 ·subst hb;rw[bY] at e;cases e;exact new
 ·rw[bh hb] at e
  exact(x b u e).stay (fun c v _ q=>k c v q) (fun c q=>by rw[bh (cD q hn)];exact q) fun c xs q=>by rw[bh (cD q hn)];exact q
end
noncomputable def Rd (H:Hp) (a:Addr) (u:HO):Prop:=H a=some u∨∃o,H a=some (.j3 o u)
theorem Rd.of {H:Hp}{a:Addr}{u:HO}(h:H a=some u):Rd H a u:=.inl h
theorem Rd.ok {P:Program}{w:World}{H:Hp}{h:Heap}{a:Addr}{u:HO}(r:Rd H a u) (x:pK P w H h):gI P w H h a u:=by
 rcases r with r | ⟨o,r⟩
 ·exact x a u r
 ·obtain⟨_,q⟩:=x a _ r
  exact q
noncomputable def Mj:Option HO→Prop
 | some (.lst _)=>True
 | some (.dK _)=>True
 | some (.dT _)=>True
 | some (.set _ _)=>True
 | some (.ins _ _ _)=>True
 | some (.ext _)=>True
 | _=>False
section
variable {P:Program}{w:World}{H:Hp}{h h':Heap}{x e:Addr}{o':HO}
theorem pK.write (ok : pK P w H h) (mu : Mj (H x)) (he : e = x ∨ H e = some (.own x)) (k : ∀ b u, b ≠ e → h.get? b = some u → h'.get? b = some u) (LL : ∃ u, h'.get? e = some u)
    (new:gI P w (upd H x o') h' x o'):pK P w (upd H x o') h':=fun b u q=>by
  have Mk:∀c y,H c=some (.own y)→c≠x:=fun c y r z=>by subst z;rw[r] at mu;exact mu
  have QO:∀c xs,H c=some (.tup xs)→c≠x:=fun c xs r z=>by subst z;rw[r] at mu;exact mu
  by_cases hb:b=x
  · subst hb;rw[bY] at q;cases q;exact new
  · rw[bh hb] at q
    by_cases JF:b=e
    · have q':H b=some (.own x):=by
        rcases he with z | z
        · exact absurd (JF.trans z) hb
        · rw[JF];exact z
      rw[q] at q';cases q'
      obtain⟨v,hv⟩:=LL
      exact⟨v,by rw[JF];exact hv⟩
    · refine(ok b u q).stay (fun c v hc r=>k c v ?_ r) (fun c r=>by rw[bh (Mk c b r)];exact r) fun c xs r=>by rw[bh (QO c xs r)];exact r
      rcases hc with rfl | hc
      · exact JF
      · rintro rfl
        rcases he with z | z
        · exact Mk c b hc z
        · rw[hc] at z;cases z;exact hb rfl
end
structure Un (fs ex:List Addr) (H H':Hp) (h h':Heap):Prop where
 keep:∀b o,h.get? b=some o→H b=none→b∉fs→b∉ex→h'.get? b=some o
 slot:∀b o,h.get? b=some o→H b=none→b∈fs→b∉ex→∃sl,h'.get? b=some {o with slots:=sl}
 free:∀b o,h.get? b=some o→H b=none→b∉ex→H' b=none
 there:∀b o,h.get? b=some o→b∉ex→∃o',h'.get? b=some o'
 tups:∀b xs,H b=some (.tup xs)→H' b=some (.tup xs)
 qu:∀b o u,H b=some (.j3 o u)→H' b=some (.j3 o u)
 rQ:∀b ps,H b=some (.JC ps)→∃more,H' b=some (.JC (ps++more))
section
variable {fs fs' ex ex':List Addr}{H H1 H2:Hp}{h h1 h2 h':Heap}{a x e:Addr}{o:HO}
theorem Un.any (u:Un fs ex H H1 h h1){b:Addr}{ob:Obj}(q:h.get? b=some ob) (n:H b=none) (hx:b∉ex):∃sl,h1.get? b=some {ob with slots:=sl}:=by
 by_cases hb:b∈fs
 ·exact u.slot b ob q n hb hx
 ·exact⟨ob.slots,u.keep b ob q n hb hx⟩
theorem Un.trans (a:Un fs ex H H1 h h1) (b:Un fs ex H1 H2 h1 h2):Un fs ex H H2 h h2 where
 keep:=fun c ob q n hc hx=>b.keep c ob (a.keep c ob q n hc hx) (a.free c ob q n hx) hc hx
 slot:=fun c ob q n hc hx=>by
  obtain⟨sl,e1⟩:=a.slot c ob q n hc hx
  obtain⟨QS,e2⟩:=b.slot c _ e1 (a.free c ob q n hx) hc hx
  exact⟨QS,e2⟩
 free:=fun c ob q n hx=>by
  obtain⟨o',e1⟩:=a.there c ob q hx
  exact b.free c o' e1 (a.free c ob q n hx) hx
 there:=fun c ob q hx=>by
  obtain⟨o',e1⟩:=a.there c ob q hx
  exact b.there c o' e1 hx
 tups:=fun c xs q=>b.tups c xs (a.tups c xs q)
 qu:=fun c ob xs q=>b.qu c ob xs (a.qu c ob xs q)
 rQ:=fun c ps q=>by
  obtain⟨m1,e1⟩:=a.rQ c ps q
  obtain⟨m2,e2⟩:=b.rQ c _ e1
  exact⟨m1++m2,by rw[e2,Array.append_assoc]⟩
theorem Un.kept (k:∀b u,h.get? b=some u→h'.get? b=some u):Un fs ex H H h h':=
 ⟨fun b ob q _ _ _=>k b ob q,fun b ob q _ _ _=>⟨ob.slots,k b ob q⟩,fun _ _ _ n _=>n,fun b ob q _=>⟨ob,k b ob q⟩,fun _ _ q=>q,fun _ _ _ q=>q,fun _ ps q=>⟨#[],by rw[q];simp⟩⟩
theorem Un.refl:Un fs ex H H h h:=Un.kept fun _ _ q=>q
theorem Un.laid (k:∀b u,h.get? b=some u→h'.get? b=some u) (hp:h.objs.size≤a) (hn:H a=none):Un fs ex H (upd H a o) h h' where
 keep:=fun b u q _ _ _=>k b u q
 slot:=fun b u q _ _ _=>⟨u.slots,k b u q⟩
 free:=fun b u q n _=>by rw[bh (Nat.ne_of_lt (Nat.lt_of_lt_of_le (Heap.lt_size q) hp))];exact n
 there:=fun b u q _=>⟨u,k b u q⟩
 tups:=fun b xs q=>by rw[bh (cD q hn)];exact q
 qu:=fun b u xs q=>by rw[bh (cD q hn)];exact q
 rQ:=fun b ps q=>⟨#[],by rw[bh (cD q hn),q];simp⟩
theorem Un.write (mu:Mj (H x)) (he:e=x∨H e=some (.own x)) (k:∀b u,b≠e→h.get? b=some u→h'.get? b=some u) (LL:∃u,h'.get? e=some u):Un fs ex H (upd H x o) h h':=by
 have hx:∀b,H b=none→b≠x:=fun b n z=>by subst z;rw[n] at mu;exact mu
 have hb:∀b,H b=none→b≠e:=fun b n z=>by
  subst z
  rcases he with r | r
  ·exact hx b n r
  ·rw[n] at r;cases r
 have hm:∀b u,H b=some u→¬Mj (some u)→b≠x:=fun b u q nm z=>by subst z;rw[q] at mu;exact nm mu
 refine⟨fun b u q n _ _=>k b u (hb b n) q,fun b u q n _ _=>⟨u.slots,k b u (hb b n) q⟩,fun b u q n _=>by rw[bh (hx b n)];exact n,fun b u q _=>?_,
  fun b xs q=>by rw[bh (hm b _ q fun z=>z)];exact q,fun b u xs q=>by rw[bh (hm b _ q fun z=>z)];exact q,fun b ps q=>⟨#[],by rw[bh (hm b _ q fun z=>z),q];simp⟩⟩
 by_cases JF:b=e
 ·subst JF;exact LL
 ·exact⟨u,k b u JF q⟩
theorem Un.mono (u:Un fs ex H H1 h h1) (hs:∀b∈fs,b∈fs') (hx:∀b∈ex,b∈ex'):Un fs' ex' H H1 h h1:=
 ⟨fun b ob q n hb he=>u.keep b ob q n (fun z=>hb (hs b z)) fun z=>he (hx b z),fun _ _ q n _ he=>u.any q n fun z=>he (hx _ z),fun b ob q n he=>u.free b ob q n fun z=>he (hx b z),fun b ob q he=>u.there b ob q fun z=>he (hx b z),u.tups,u.qu,u.rQ⟩
end
noncomputable def Pb (h:Heap) (H:Hp):List Addr:=(List.range h.objs.size).filter fun a=>(H a).isSome
noncomputable def yC (h:Heap) (H:Hp):Heap:=PySem.W.hideAll h (Pb h H)
theorem Dg (h:Heap) (H:Hp):(yC h H).objs.size=h.objs.size:=PySem.W.hideAll_size _ _
theorem Ey {h:Heap}{H:Hp}{b:Addr}{o:Obj}(e:h.get? b=some o) (n:H b=none):(yC h H).get? b=some o:=
 PySem.W.hideAll_get _ e fun hm=>by
  have q:(H b).isSome=true:=(List.mem_filter.mp hm).2
  rw[n] at q;simp at q
theorem G1 {h:Heap}{H:Hp}{b:Addr}{o:Obj}(e:(yC h H).get? b=some o):h.get? b=some o∧H b=none:=by
 have e':h.get? b=some o:=PySem.W.of_hideAll (Pb h H) e
 refine⟨e',?_⟩
 cases q:H b with
 | none=>rfl
 | some x=>
  have hm:b∈Pb h H:=List.mem_filter.mpr ⟨List.mem_range.mpr (Heap.lt_size e'),by simp[q]⟩
  have z:(yC h H).get? b=none:=PySem.W.hideAll_none (Pb h H) hm
  rw[z] at e;cases e
noncomputable def G2 (g h:Heap) (L:Addr):List (Addr×Obj):=(List.range h.objs.size).filterMap fun a=>if a=L∨(g.get? a).isSome=true then none else(h.get? a).map fun o=>(a,o)
noncomputable def rest (g h:Heap) (L d:Addr):List (Addr×Obj):=(G2 g h L).filter fun p=>decide (p.1≠d)
end L2
namespace L2
open PySem PySem.Spec PyProof.Rows
structure Mod (K:PySem.W.Frag) (mg:Str→Option Value) (base:Heap):Prop where
 QT:K.In base
 glob:base.Ns mainGlobals mg
 blt:∃mb,base.Ns builtinsNs mb∧∀x:Str,x≠"__name__"→mb x=bootBuiltins x
 nolimit:base.NoLimit
structure Cx where
 prog:Program
 w:World
 K:PySem.W.Frag
 mg:Str→Option Value
 base:Heap
 A:Around
 N:List Str
 s₀:Shared
 H₀:Hp
 env:Env
 outer:List Env
 stack:List Env
 ex:List Addr
 fn:Str→Bool
 calm:Bool
 pn:List (Addr×Obj)
 xe:Value→Shared→Prop
noncomputable def frs (l:List Env):List Addr:=l.filterMap (·.frame)
noncomputable abbrev Cx.fs (X:Cx):List Addr:=frs X.outer
noncomputable def Ez (sc:Scope) (x:Str):Prop:=sc.names.lookup x=some .local∨sc.names.lookup x=some .cell∨sc.names.lookup x=some .free
noncomputable def Loc (sc:Scope) (x:Str):Prop:=sc.names.lookup x=some .local∨sc.names.lookup x=some .cell
noncomputable def Look (env:Env) (h:Heap) (m:Str→Option Value) (x:Str) (u:Value):Prop:=
 (env.kindOf x=some .local∧m x=some u)∨((env.kindOf x=some .cell∨env.kindOf x=some .free)∧∃c,env.cells.lookup x=some c∧h.IsCell c (some u))
structure Cx.Ok (X:Cx):Prop where
 mod:Mod X.K X.mg X.base
 kind:X.env.scope.kind= .function
 glob:X.env.globals=mainGlobals
 blt:X.env.builtins=builtinsNs
 above:X.s₀.heap.objs.size≤X.env.locals
 inj:∀x y c,X.env.cells.lookup x=some c→X.env.cells.lookup y=some c→x=y
 has:∀x,(X.env.kindOf x=some .cell∨X.env.kindOf x=some .free)→∃c,X.env.cells.lookup x=some c
 Ml:∀x c,X.fn x=true→X.env.cells.lookup x=some c→X.s₀.heap.objs.size≤c
 hd:X.calm=true→X.A.handled=none
 frames:X.A.frames=some X.stack
 stk:X.stack=X.outer∨(X.stack=X.env :: X.outer∧X.env.frame=some X.env.locals)
 QU:∀b∈X.ex,b≠X.env.locals∧∀x c,X.env.cells.lookup x=some c→c≠b
 bs:∀b o,X.base.get? b=some o→X.s₀.heap.get? b=some o∧X.H₀ b=none
 G3:X.base.objs.size≤X.s₀.heap.objs.size
 EA:∀b o,X.base.get? b=some o→b∉X.ex
 EB:∀b∈X.ex,b∉X.fs
 ur:X.s₀.heap.FunFrames X.base X.outer
 JH:∀b∈X.fs,X.H₀ b=none
structure Inv (X:Cx) (pins:List (Addr×Obj)) (σ:List (Option V)) (H:Hp) (s:Shared):Prop where
 ok:X.Ok
 os:s.os=X.s₀.os
 bare:AllBare s.gens
 base:Un X.fs X.ex X.H₀ H X.s₀.heap s.heap
 loc:∃m,s.heap.Ns X.env.locals m∧∀(i:Nat) (x:Str) (v:V),X.N[i]? =some x→σ[i]? =some (some v)→Ez X.env.scope x→∃u,RelV v u∧Look X.env s.heap m x u
 cell:∀x c,X.env.cells.lookup x=some c→∃v,s.heap.IsCell c v
 free:H X.env.locals=none
 nI:∀x c,X.env.cells.lookup x=some c→H c=none
 pin:∀p∈X.pn++pins,s.heap.get? p.1=some p.2∧H p.1=none∧p.1≠X.env.locals∧p.1∉X.fs∧∀v,p.2.data≠.cell v
 hok:pK X.prog X.w H s.heap
 len:σ.length=X.N.length
section
variable {X:Cx}{pins:List (Addr×Obj)}{σ:List (Option V)}{H H':Hp}{s:Shared}{h':Heap}
theorem Cx.Ok.jV (ok:X.Ok){b:Addr}{o:Obj}(e:X.base.get? b=some o):b∉X.fs:=fun hb=>by
 have:=(ok.ur.mem hb).1
 rw[e] at this;cases this
theorem Inv.bs (I:Inv X pins σ H s):∀b o,X.base.get? b=some o→s.heap.get? b=some o∧H b=none:=fun b o e=>
 ⟨I.base.keep b o (I.ok.bs b o e).1 (I.ok.bs b o e).2 (I.ok.jV e) (I.ok.EA b o e),I.base.free b o (I.ok.bs b o e).1 (I.ok.bs b o e).2 (I.ok.EA b o e)⟩
theorem Inv.bk (I:Inv X pins σ H s):∀b o,X.base.get? b=some o→s.heap.get? b=some o:=fun b o e=>(I.bs b o e).1
theorem Inv.mod (I:Inv X pins σ H s):Mod X.K X.mg X.base:=I.ok.mod
theorem Inv.Bl (I:Inv X pins σ H s):X.K.In s.heap:=I.ok.mod.QT.keeps I.bk
theorem Inv.nolimit (I:Inv X pins σ H s):s.heap.NoLimit:=I.ok.mod.nolimit.keeps I.bk
theorem Inv.lt (I:Inv X pins σ H s):X.env.locals < s.heap.objs.size:=let⟨_,hn,_⟩:=I.loc;hn.lt
theorem Inv.sz (I:Inv X pins σ H s):X.s₀.heap.objs.size≤s.heap.objs.size:=Nat.le_trans I.ok.above (Nat.le_of_lt I.lt)
theorem Inv.Mm (I:Inv X pins σ H s){a:Addr}(h:s.heap.objs.size≤a):a∉X.fs:=fun hb=>by
 obtain⟨_,o,ho,_⟩:=I.ok.ur.mem hb
 exact absurd (Nat.lt_of_lt_of_le (Heap.lt_size ho) (Nat.le_trans I.sz h)) (Nat.lt_irrefl _)
theorem Inv.JJ (I:Inv X pins σ H s):∀x c,X.env.cells.lookup x=some c→c≠X.env.locals:=fun x c e z=>by
 obtain⟨v,o,ho,hd⟩:=I.cell x c e
 obtain⟨m,⟨o',es,ep,ho',hd',_⟩,_⟩:=I.loc
 rw[z,ho'] at ho;cases ho;rw[hd'] at hd;cases hd
theorem Inv.ur (I:Inv X pins σ H s):s.heap.FunFrames X.base X.outer:=by
 have all:∀(l:List Env),(∀b∈frs l,b∈X.fs)→X.s₀.heap.FunFrames X.base l→s.heap.FunFrames X.base l:=by
  intro l
  induction l with
  | nil=>intro _ _;trivial
  | cons env r ih=>
   intro hs hl
   obtain⟨hk,⟨L,o,hf,hn,ho,hd⟩,hr⟩:=hl
   have hL:L∈X.fs:=hs L (by unfold frs;rw[List.filterMap_cons,hf];exact List.mem_cons_self)
   obtain⟨sl,e⟩:=I.base.slot L o ho (I.ok.JH L hL) hL fun z=>I.ok.EB L z hL
   exact⟨hk,⟨L,_,hf,hn,e,hd⟩,ih (fun b hb=>hs b (by unfold frs;rw[List.filterMap_cons,hf];exact List.mem_cons_of_mem _ hb)) hr⟩
 exact all X.outer (fun _ hb=>hb) I.ok.ur
theorem Inv.stack (I:Inv X pins σ H s):s.heap.FunFrames X.base X.stack:=by
 rcases I.ok.stk with e | ⟨e,hf⟩
 ·rw[e];exact I.ur
 ·rw[e]
  obtain⟨m,hn,_⟩:=I.loc
  refine .cons (by rw[I.ok.kind];decide) hf hn ?_ I.ur
  exact Heap.get?_none_of_le (Nat.le_trans I.ok.G3 I.ok.above)
theorem Inv.yD (I:Inv X pins σ H s):∀b∈frs X.stack,b∈X.env.locals :: X.fs:=fun b hb=>by
 rcases I.ok.stk with e | ⟨e,hf⟩
 ·rw[e] at hb;exact List.mem_cons_of_mem _ hb
 ·rw[e] at hb
  unfold frs at hb
  rw[List.filterMap_cons,hf] at hb
  exact hb
theorem Inv.Cz (I:Inv X pins σ H s):∀b∈frs X.stack,H b=none:=fun b hb=>by
 rcases List.mem_cons.mp (I.yD b hb) with e | hb
 ·rw[e];exact I.free
 ·obtain⟨_,o,ho,_⟩:=I.ok.ur.mem hb
  exact I.base.free b o ho (I.ok.JH b hb) fun z=>I.ok.EB b z hb
theorem Inv.step {g':Array GenState}{t':Nat}{d':Drawn}{ch:List Addr}(I:Inv X pins σ H s)
  (hch:∀b∈ch,(b∈X.ex∨X.s₀.heap.objs.size≤b)∧b≠X.env.locals∧(∀x c,X.env.cells.lookup x=some c→c≠b)∧∀p∈X.pn++pins,p.1≠b)
  (keep:∀b o,b≠X.env.locals→b∉X.fs→b∉ch→s.heap.get? b=some o→H b=none→h'.get? b=some o)
  (slot:∀b o,b≠X.env.locals→b∈X.fs→b∉ch→s.heap.get? b=some o→H b=none→∃sl,h'.get? b=some {o with slots:=sl}) (free:∀b o,b∉ch→s.heap.get? b=some o→H b=none→H' b=none)
  (there:∀b o,b∉ch→s.heap.get? b=some o→∃o',h'.get? b=some o')
  (tups:∀b xs,H b=some (.tup xs)→H' b=some (.tup xs)) (qu:∀b o u,H b=some (.j3 o u)→H' b=some (.j3 o u)) (rQ:∀b ps,H b=some (.JC ps)→∃more,H' b=some (.JC (ps++more)))
  (ns:∀m,s.heap.Ns X.env.locals m→h'.Ns X.env.locals m) (hok:pK X.prog X.w H' h') (hg:AllBare g'):
  Inv X pins σ H' {s with heap:=h',gens:=g',drawn:=d',toks:=t'}:=by
 have Xu:∀b o,X.s₀.heap.get? b=some o→b≠X.env.locals:=fun b o e=>Nat.ne_of_lt (Nat.lt_of_lt_of_le (Heap.lt_size e) I.ok.above)
 have Pc:∀b o,X.s₀.heap.get? b=some o→b∉X.ex→b∉ch:=fun b o e hx hb=>by
  rcases(hch b hb).1 with z | z
  ·exact hx z
  ·exact absurd (Nat.lt_of_lt_of_le (Heap.lt_size e) z) (Nat.lt_irrefl _)
 have cellK:∀x c,X.env.cells.lookup x=some c→∀v,s.heap.IsCell c v→h'.IsCell c v:=fun x c e v ⟨o,ho,hd⟩=>by
  have Mn:c∉ch:=fun z=>(hch c z).2.2.1 x c e rfl
  by_cases hc:c∈X.fs
  ·obtain⟨sl,q⟩:=slot c o (I.JJ x c e) hc Mn ho (I.nI x c e)
   exact⟨_,q,hd⟩
  ·exact⟨o,keep c o (I.JJ x c e) hc Mn ho (I.nI x c e),hd⟩
 refine⟨I.ok,I.os,hg,⟨fun b o e n hb hx=>?_,fun b o e n hb hx=>?_,fun b o e n hx=>?_,fun b o e hx=>?_,fun b xs e=>tups b xs (I.base.tups b xs e),fun b o xs e=>qu b o xs (I.base.qu b o xs e),fun b ps e=>?_⟩,?_,fun x c e=>?_,?_,fun x c e=>?_,fun p hp=>?_,hok,I.len⟩
 ·exact keep b o (Xu b o e) hb (Pc b o e hx) (I.base.keep b o e n hb hx) (I.base.free b o e n hx)
 ·obtain⟨sl,e1⟩:=I.base.slot b o e n hb hx
  obtain⟨QS,e2⟩:=slot b _ (Xu b o e) hb (Pc b o e hx) e1 (I.base.free b o e n hx)
  exact⟨QS,e2⟩
 ·obtain⟨o',e1⟩:=I.base.there b o e hx
  exact free b o' (Pc b o e hx) e1 (I.base.free b o e n hx)
 ·obtain⟨o',e1⟩:=I.base.there b o e hx
  exact there b o' (Pc b o e hx) e1
 ·obtain⟨m1,e1⟩:=I.base.rQ b ps e
  obtain⟨m2,e2⟩:=rQ b _ e1
  exact⟨m1++m2,by rw[e2,Array.append_assoc]⟩
 ·obtain⟨m,hn,hl⟩:=I.loc
  refine⟨m,ns m hn,fun i x v e1 e2 e3=>?_⟩
  obtain⟨u,r,l⟩:=hl i x v e1 e2 e3
  refine⟨u,r,?_⟩
  rcases l with l | ⟨k,c,e,z⟩
  ·exact .inl l
  ·exact .inr ⟨k,c,e,cellK x c e _ z⟩
 ·obtain⟨v,z⟩:=I.cell x c e
  exact⟨v,cellK x c e v z⟩
 ·obtain⟨m,⟨o,_,_,ho,_⟩,_⟩:=I.loc
  exact free _ o (fun z=>(hch _ z).2.1 rfl) ho I.free
 ·obtain⟨v,o,ho,hd⟩:=I.cell x c e
  exact free c o (fun z=>(hch c z).2.2.1 x c e rfl) ho (I.nI x c e)
 ·obtain⟨e,n,ne,nf,d⟩:=I.pin p hp
  have Mn:p.1∉ch:=fun z=>(hch p.1 z).2.2.2 p hp rfl
  exact⟨keep p.1 p.2 ne nf Mn e n,free p.1 p.2 Mn e n,ne,nf,d⟩
theorem Inv.un {t':Nat}(I:Inv X pins σ H s) (u:Un X.fs [] H H' s.heap h') (hok:pK X.prog X.w H' h'):Inv X pins σ H' {s with heap:=h',toks:=t'}:=by
 obtain⟨m,⟨o,es,ep,ho,r⟩,_⟩:=id I.loc
 obtain⟨sl,hL⟩:=u.any ho I.free (by simp)
 exact I.step (g':=s.gens) (d':=s.drawn) (ch:=[]) (fun _ z=>nomatch z) (fun b o _ hb _ e n=>u.keep b o e n hb (by simp)) (fun b o _ hb _ e n=>u.slot b o e n hb (by simp)) (fun b o _ e n=>u.free b o e n (by simp)) (fun b o _ e=>u.there b o e (by simp)) u.tups u.qu u.rQ (fun m' hm=>by
  obtain⟨o',es',QV,ho',r'⟩:=hm
  rw[ho] at ho';cases ho'
  exact⟨_,es',QV,hL,r'⟩) hok I.bare
theorem Inv.call {g':Array GenState}{t':Nat}{d':Drawn}{ch:List Addr}(I:Inv X pins σ H s) (u:Un (frs X.stack) ch H H' s.heap h') (hok:pK X.prog X.w H' h') (hg:AllBare g')
  (hch:∀b∈ch,(b∈X.ex∨X.s₀.heap.objs.size≤b)∧b≠X.env.locals∧(∀x c,X.env.cells.lookup x=some c→c≠b)∧∀p∈X.pn++pins,p.1≠b):
  Inv X pins σ H' {s with heap:=h',gens:=g',drawn:=d',toks:=t'}:=by
 obtain⟨m,⟨o,es,ep,ho,r⟩,_⟩:=id I.loc
 obtain⟨sl,hL⟩:=u.any ho I.free fun z=>(hch _ z).2.1 rfl
 exact I.step (ch:=ch) hch (fun b o hL hb hc e n=>u.keep b o e n (fun z=>(List.mem_cons.mp (I.yD b z)).elim hL hb) hc) (fun b o _ _ hc e n=>u.any e n hc) (fun b o hc e n=>u.free b o e n hc) (fun b o hc e=>u.there b o e hc) u.tups u.qu u.rQ (fun m' hm=>by
  obtain⟨o',es',QV,ho',r'⟩:=hm
  rw[ho] at ho';cases ho'
  exact⟨_,es',QV,hL,r'⟩) hok hg
theorem Inv.turned {t':Nat}{it:Addr}(I:Inv X pins σ H s) (k:∀b o,b≠it→s.heap.get? b=some o→h'.get? b=some o) (hn:H it=none) (hL:it≠X.env.locals)
  (h1:it∈X.ex∨X.s₀.heap.objs.size≤it) (h2:∀x c,X.env.cells.lookup x=some c→c≠it) (h3:∀p∈X.pn++pins,p.1≠it):Inv X pins σ H {s with heap:=h',toks:=t'}:=by
 have Xv:∀b u,H b=some u→b≠it:=fun b u e z=>by rw[z,hn] at e;cases e
 refine I.step (g':=s.gens) (d':=s.drawn) (ch:=[it]) (fun b hb=>?_) (fun b o _ _ hc e _=>k b o (fun z=>hc (by simp[z])) e) (fun b o _ _ hc e _=>⟨o.slots,k b o (fun z=>hc (by simp[z])) e⟩) (fun _ _ _ _ n=>n)
  (fun b o hc e=>⟨o,k b o (fun z=>hc (by simp[z])) e⟩) (fun _ _ e=>e) (fun _ _ _ e=>e) (fun b ps e=>⟨#[],by rw[e];simp⟩) (fun m hm=>?_) (fun b u e=>?_) I.bare
 ·have e:b=it:=by simpa using hb
  subst e
  exact⟨h1,hL,h2,h3⟩
 ·obtain⟨o,es,ep,ho,r⟩:=hm
  exact⟨o,es,ep,k _ o (Ne.symm hL) ho,r⟩
 ·refine(I.hok b u e).stay (fun c v hc q=>k c v ?_ q) (fun _ q=>q) fun _ _ q=>q
  rcases hc with z | z
  ·rw[z];exact Xv b u e
  ·exact Xv c _ z
theorem Inv.tok (I:Inv X pins σ H s) (t:Nat):Inv X pins σ H {s with toks:=t}:=I.un (h':=s.heap) (t':=t) Un.refl I.hok
theorem Inv.kept {t':Nat}(I:Inv X pins σ H s) (k:∀b u,s.heap.get? b=some u→h'.get? b=some u):Inv X pins σ H {s with heap:=h',toks:=t'}:=I.un (Un.kept k) (I.hok.kept k)
theorem Inv.laid {a:Addr}{o:HO}{t':Nat}(I:Inv X pins σ H s) (k:∀b u,s.heap.get? b=some u→h'.get? b=some u) (hp:s.heap.objs.size≤a) (new:gI X.prog X.w (upd H a o) h' a o):
  Inv X pins σ (upd H a o) {s with heap:=h',toks:=t'}:=I.un (Un.laid k hp (I.hok.fresh hp)) (I.hok.laid k hp new)
theorem Inv.write {x e:Addr}{o:HO}{t':Nat}(I:Inv X pins σ H s) (mu:Mj (H x)) (he:e=x∨H e=some (.own x)) (k:∀b u,b≠e→s.heap.get? b=some u→h'.get? b=some u) (LL:∃u,h'.get? e=some u)
  (new:gI X.prog X.w (upd H x o) h' x o):Inv X pins σ (upd H x o) {s with heap:=h',toks:=t'}:=I.un (Un.write mu he k LL) (I.hok.write mu he k LL new)
theorem Inv.weak {σ':List (Option V)}(I:Inv X pins σ H s) (hl:σ'.length=σ.length) (w:∀(i:Nat) v,σ'[i]? =some (some v)→σ[i]? =some (some v)):Inv X pins σ' H s:=
 ⟨I.ok,I.os,I.bare,I.base,let⟨m,hn,hl'⟩:=I.loc;⟨m,hn,fun i x v e1 e2 e3=>hl' i x v e1 (w i v e2) e3⟩,I.cell,I.free,I.nI,I.pin,I.hok,hl.trans I.len⟩
theorem Inv.CA {IQ:List (Addr×Obj)}(I:Inv X pins σ H s) (h:∀p∈IQ,s.heap.get? p.1=some p.2∧H p.1=none∧p.1≠X.env.locals∧p.1∉X.fs∧∀v,p.2.data≠.cell v):Inv X IQ σ H s:=
 ⟨I.ok,I.os,I.bare,I.base,I.loc,I.cell,I.free,I.nI,fun p hp=>(List.mem_append.mp hp).elim (fun z=>I.pin p (List.mem_append_left _ z)) (h p),I.hok,I.len⟩
theorem zM {N:List Str}(hN:N.Nodup){i j:Nat}{x:Str}(a:N[i]? =some x) (b:N[j]? =some x):i=j:=by
 obtain⟨h1,e1⟩:=List.getElem?_eq_some_iff.mp a
 obtain⟨h2,e2⟩:=List.getElem?_eq_some_iff.mp b
 exact(List.getElem_inj hN).mp (e1.trans e2.symm)
theorem Dh {M : Model} {A : Around} {E : Value → Shared → Prop} {i : Nat} {x : Str} {v : V} {u : Value} {Q : Unit → Shared → Prop} (I : Inv X pins σ H s) (hN : X.N.Nodup) (hi : X.N[i]? = some x) (hx : Loc X.env.scope x) (r : RelV v u)
    (h:∀s',Inv X pins (σ.set i (some v)) H s'→(∃a,Heap.SameBut a s.heap s'.heap∧(a=X.env.locals∨X.env.cells.lookup x=some a))→Q () s') (hf:X.fn x=true∨X.env.scope.names.lookup x=some .local:=by first | exact .inl rfl | exact .inr rfl | assumption):wpAny M A (storeName X.env x u) Q E s:=by
  obtain⟨m,hn,hl⟩:=id I.loc
  have hcls:(X.env.scope.kind == .class || (X.env.scope.kind == .module && X.env.locals != X.env.globals))=false:=by rw[I.ok.kind];rfl
  have Mp:i < σ.length:=by rw[I.len];exact(List.getElem?_eq_some_iff.mp hi).1
  have JJ:=I.JJ
  have tracked:∀{a:Addr}{h':Heap},(∃o,s.heap.get? a=some o∧H a=none)→Heap.SameBut a s.heap h'→pK X.prog X.w H h':=fun {a h'} ha hs b ob e=>by
    obtain⟨_,_,hfree⟩:=ha
    refine(I.hok b ob e).stay (fun c w' hc q=>(hs.2 c ?_).trans q) (fun _ q=>q) fun _ _ q=>q
    rintro rfl
    rcases hc with rfl | hc
    · rw[hfree] at e;cases e
    · rw[hfree] at hc;cases hc
  rcases hx with hk | hk
  · refine wpAny_storeName_local hk hn (fun h' hn' hs=>?_) hcls
    obtain⟨oL,_,_,Y0,_⟩:=id hn
    refine h _ ⟨I.ok,I.os,I.bare,⟨fun b o e n hb hx=>?_,fun b o e n hb hx=>?_,I.base.free,fun b o e hx=>?_,I.base.tups,I.base.qu,I.base.rQ⟩,⟨_,hn',fun j y v' e1 e2 e3=>?_⟩,fun y c e=>?_,I.free,I.nI,fun p hp=>?_,tracked ⟨oL,Y0,I.free⟩ hs,by simpa using I.len⟩ ⟨_,hs,.inl rfl⟩
    · exact(hs.2 b (Nat.ne_of_lt (Nat.lt_of_lt_of_le (Heap.lt_size e) I.ok.above))).trans (I.base.keep b o e n hb hx)
    · obtain⟨sl,e1⟩:=I.base.slot b o e n hb hx
      exact⟨sl,(hs.2 b (Nat.ne_of_lt (Nat.lt_of_lt_of_le (Heap.lt_size e) I.ok.above))).trans e1⟩
    · obtain⟨o',e1⟩:=I.base.there b o e hx
      exact⟨o',(hs.2 b (Nat.ne_of_lt (Nat.lt_of_lt_of_le (Heap.lt_size e) I.ok.above))).trans e1⟩
    · by_cases hj:j=i
      · subst hj
        rw[hi] at e1;cases e1
        rw[List.getElem?_set_self Mp] at e2
        cases e2
        exact⟨u,r,.inl ⟨hk,by simp⟩⟩
      · rw[List.getElem?_set_ne (Ne.symm hj)] at e2
        obtain⟨u',r',q⟩:=hl j y v' e1 e2 e3
        refine⟨u',r',?_⟩
        rcases q with⟨k,e⟩ | ⟨k,c,e,z⟩
        · refine .inl ⟨k,?_⟩
          have:y≠x:=fun e=>hj (zM hN e1 (e▸hi))
          simp[this,e]
        · exact .inr ⟨k,c,e,z.sameBut hs (JJ y c e)⟩
    · obtain⟨w',z⟩:=I.cell y c e
      exact⟨w',z.sameBut hs (JJ y c e)⟩
    · obtain⟨e,n,ne,nf,d⟩:=I.pin p hp
      exact⟨(hs.2 p.1 ne).trans e,n,ne,nf,d⟩
  · have hfn:X.fn x=true:=by
      rcases hf with z | z
      · exact z
      · rw[z] at hk;cases hk
    obtain⟨c,hc⟩:=I.ok.has x (.inl hk)
    obtain⟨w',z⟩:=I.cell x c hc
    refine wpAny_storeName_cell I.ok.kind hk hc z (fun h' hc' hs=>?_)
    obtain⟨oc,hoc,QW⟩:=id z
    refine h {s with heap:=h'} ⟨I.ok,I.os,I.bare,⟨fun b o e n hb hx=>?_,fun b o e n hb hx=>?_,I.base.free,fun b o e hx=>?_,I.base.tups,I.base.qu,I.base.rQ⟩,⟨m,hn.sameBut hs (Ne.symm (JJ x c hc)),fun j y v' e1 e2 e3=>?_⟩,fun y c' e=>?_,I.free,I.nI,fun p hp=>?_,tracked ⟨oc,hoc,I.nI x c hc⟩ hs,by simpa using I.len⟩ ⟨c,hs,.inr hc⟩
    · exact(hs.2 b (Nat.ne_of_lt (Nat.lt_of_lt_of_le (Heap.lt_size e) (I.ok.Ml x c hfn hc)))).trans (I.base.keep b o e n hb hx)
    · obtain⟨sl,e1⟩:=I.base.slot b o e n hb hx
      exact⟨sl,(hs.2 b (Nat.ne_of_lt (Nat.lt_of_lt_of_le (Heap.lt_size e) (I.ok.Ml x c hfn hc)))).trans e1⟩
    · obtain⟨o',e1⟩:=I.base.there b o e hx
      exact⟨o',(hs.2 b (Nat.ne_of_lt (Nat.lt_of_lt_of_le (Heap.lt_size e) (I.ok.Ml x c hfn hc)))).trans e1⟩
    · by_cases hj:j=i
      · subst hj
        rw[hi] at e1;cases e1
        rw[List.getElem?_set_self Mp] at e2
        cases e2
        exact⟨u,r,.inr ⟨.inl hk,c,hc,hc'⟩⟩
      · rw[List.getElem?_set_ne (Ne.symm hj)] at e2
        obtain⟨u',r',q⟩:=hl j y v' e1 e2 e3
        refine⟨u',r',?_⟩
        rcases q with q | ⟨k,c',e,z'⟩
        · exact .inl q
        · refine .inr ⟨k,c',e,z'.sameBut hs ?_⟩
          rintro rfl
          exact hj (zM hN e1 (I.ok.inj _ _ _ e hc▸hi))
    · by_cases hcc:c'=c
      · subst hcc;exact⟨_,hc'⟩
      · obtain⟨w2,z2⟩:=I.cell y c' e
        exact⟨w2,z2.sameBut hs hcc⟩
    · obtain⟨e,n,ne,nf,d⟩:=I.pin p hp
      refine⟨(hs.2 p.1 ?_).trans e,n,ne,nf,d⟩
      intro q
      rw[q,hoc] at e
      have q':oc=p.2:=Option.some.inj e
      exact d w' (by rw[←q'];exact QW)
theorem zN {M:Model}{A:Around}{E:Value→Shared→Prop}{i:Nat}{x:Str}{v:V}{u:Value}{Q:Unit→Shared→Prop}(I:Inv X pins σ H s) (hN:X.N.Nodup) (hi:X.N[i]? =some x) (hx:Loc X.env.scope x) (r:RelV v u)
  (h:∀s',Inv X pins (σ.set i (some v)) H s'→Q () s') (hf:X.fn x=true∨X.env.scope.names.lookup x=some .local:=by first | exact .inl rfl | exact .inr rfl | assumption):wpAny M A (storeName X.env x u) Q E s:=
 Dh I hN hi hx r (fun s' I' _=>h s' I') hf
theorem Inv.Mq {s':Shared}{ch:List Addr}(I:Inv X pins σ H s) (ho:s'.os=s.os) (u:Un (frs X.stack) ch H H' s.heap s'.heap) (hok:pK X.prog X.w H' s'.heap) (hg:AllBare s'.gens)
  (hch:∀b∈ch,(b∈X.ex∨X.s₀.heap.objs.size≤b)∧b≠X.env.locals∧(∀x c,X.env.cells.lookup x=some c→c≠b)∧∀p∈X.pn++pins,p.1≠b):Inv X pins σ H' s':=by
 obtain⟨h',g',d',t',o'⟩:=s'
 have e:o'=s.os:=ho
 subst e
 exact I.call (g':=g') (t':=t') (d':=d') u hok hg hch
end
noncomputable abbrev XK:=Value→Option Addr→Hp→Prop
noncomputable abbrev St:=List (Option V)
noncomputable abbrev VK:=V→Hp→Prop
noncomputable abbrev TE:=St→Hp→VK→Prop
noncomputable abbrev TT:=St→Hp→(Bool→Hp→Prop)→Prop
noncomputable abbrev TA:=St→Hp→(List V→Hp→Prop)→Prop
structure Ends where
 nx:St→Hp→Prop
 rt:VK
 bk:St→Hp→Prop:=fun _ _=>False
 ct:St→Hp→Prop:=fun _ _=>False
noncomputable abbrev TS:=Ends→St→Hp→Prop
noncomputable def EP (X:Cx) (pins:List (Addr×Obj)) (σ:St) (Q:VK) (u:Value) (s':Shared):Prop:=∃v H',Inv X pins σ H' s'∧RelV v u∧Q v H'
noncomputable def TP (X:Cx) (pins:List (Addr×Obj)) (σ:St) (Q:Bool→Hp→Prop) (b:Bool) (s':Shared):Prop:=∃H',Inv X pins σ H' s'∧Q b H'
noncomputable def AP (X:Cx) (pins:List (Addr×Obj)) (σ:St) (Q:List V→Hp→Prop) (us:List Value) (s':Shared):Prop:=∃vs H',Inv X pins σ H' s'∧Vals vs us∧Q vs H'
noncomputable def SP (X:Cx) (pins:List (Addr×Obj)) (D:Ends) (f:Flow) (s':Shared):Prop:=
 match f with
 | .next=>∃σ' H',Inv X pins σ' H' s'∧D.nx σ' H'
 | .brk=>∃σ' H',Inv X pins σ' H' s'∧D.bk σ' H'
 | .cont=>∃σ' H',Inv X pins σ' H' s'∧D.ct σ' H'
 | .ret u=>∃v σ' H',Inv X pins σ' H' s'∧RelV v u∧D.rt v H'
noncomputable def PE (X:Cx) (e:Expr) (t:TE):Prop:=
 ∀(pins:List (Addr×Obj)) (s:Shared) (σ:St) (H:Hp) (Q:VK),Inv X pins σ H s→t σ H Q→wpAny (model X.prog X.w) X.A (eval e X.env) (EP X pins σ Q) X.xe s
noncomputable def PT (X:Cx) (e:Expr) (t:TT):Prop:=
 ∀(pins:List (Addr×Obj)) (s:Shared) (σ:St) (H:Hp) (Q:Bool→Hp→Prop),Inv X pins σ H s→t σ H Q→wpAny (model X.prog X.w) X.A (isTrue e X.env (eval e X.env)) (TP X pins σ Q) X.xe s
noncomputable def PW (X:Cx) (e:Expr) (t:TT):Prop:=
 ∀(whole:Sem Value) (pins:List (Addr×Obj)) (s:Shared) (σ:St) (H:Hp) (Q:Bool→Hp→Prop),Inv X pins σ H s→t σ H Q→wpAny (model X.prog X.w) X.A (isTrue e X.env whole) (TP X pins σ Q) X.xe s
theorem PW.pt {X:Cx}{e:Expr}{t:TT}(h:PW X e t):PT X e t:=h _
noncomputable def PA (X:Cx) (es:List Expr) (t:TA):Prop:=
 ∀(pos:Pos) (pins:List (Addr×Obj)) (s:Shared) (σ:St) (H:Hp) (Q:List V→Hp→Prop),Inv X pins σ H s→t σ H Q→wpAny (model X.prog X.w) X.A (spliced (backTo pos (starEach es X.env))) (AP X pins σ Q) X.xe s
noncomputable def PS (X:Cx) (st:Stmt) (t:TS):Prop:=
 ∀(pins:List (Addr×Obj)) (s:Shared) (σ:St) (H:Hp) (D:Ends),Inv X pins σ H s→t D σ H→wpAny (model X.prog X.w) X.A (exec st X.env) (SP X pins D) X.xe s
noncomputable def Bf (X:Cx) (st:List Stmt) (t:TS):Prop:=
 ∀(pins:List (Addr×Obj)) (s:Shared) (σ:St) (H:Hp) (D:Ends),Inv X pins σ H s→t D σ H→wpAny (model X.prog X.w) X.A (execs st X.env) (SP X pins D) X.xe s
theorem fq {α:Type}{t:Sem α}{Q Q':α→Shared→Prop}{M:Model}{A:Around}{E:Value→Shared→Prop}{s:Shared}(h:wpAny M A t Q E s) (hQ:∀a s,Q a s→Q' a s):wpAny M A t Q' E s:=wpAny_mono h hQ fun _ _ x=>x
end L2
namespace L2
open PySem PySem.Spec PyProof.Rows
section
variable {X:Cx}
theorem bin {a b:Expr}{ta tb:TE}(ha:PE X a ta) (hb:PE X b tb){pins:List (Addr×Obj)}{s:Shared}{σ:St}{H:Hp}{R:V→V→Hp→Prop}(I:Inv X pins σ H s) (h:ta σ H fun x H1=>tb σ H1 fun y H2=>R x y H2)
  {α:Type}{Q:α→Shared→Prop}{f:Value→Value→Sem α}
  (hf:∀v u s2 x y H2,Inv X pins σ H2 s2→RelV x v→RelV y u→R x y H2→wpAny (model X.prog X.w) X.A (f v u) Q X.xe s2):
  wpAny (model X.prog X.w) X.A (eval a X.env) (fun v s₁=>wpAny (model X.prog X.w) X.A (eval b X.env) (fun u s₂=>wpAny (model X.prog X.w) X.A (f v u) Q X.xe s₂) X.xe s₁) X.xe s:=by
 refine fq (ha pins s σ H _ I h) fun v s1 ⟨x,H1,I1,r1,q1⟩=>?_
 refine fq (hb pins s1 σ H1 _ I1 q1) fun u s2 ⟨y,H2,I2,r2,q2⟩=>?_
 exact hf v u s2 x y H2 I2 r1 r2 q2
noncomputable def JK (i:Nat):TE:=fun σ H Q=>∃v,σ[i]? =some (some v)∧Q v H
noncomputable def tC (v:V):TE:=fun _ H Q=>Q v H
theorem jj {i:Nat}{x:Str}{pos:Pos}(hN:X.N[i]? =some x) (hv:Ez X.env.scope x) (hd:(x == ("__debug__":Str))=false:=by decide) (hcd:(x == ("__classdict__":Str))=false:=by decide):PE X (.Name x pos) (JK i):=by
 intro pins s σ H Q I h
 obtain⟨v,e,h⟩:=h
 obtain⟨m,hn,hl⟩:=I.loc
 obtain⟨u,r,l⟩:=hl i x v hN e hv
 have fin:EP X pins σ Q u s:=⟨v,H,I,r,h⟩
 rcases l with⟨hk,hm⟩ | ⟨hk,c,hc,hcell⟩
 ·exact wpAny_Name (wpAny_loadName_local I.ok.kind hk hn hm fin) hd
 ·rcases hk with hk | hk
  ·exact wpAny_Name (wpAny_loadName_cell I.ok.kind hk hc hcell fin) hd
  ·exact wpAny_Name (wpAny_loadName_free I.ok.kind hk hc hcell fin hcd) hd
theorem JL {i j pos}:PE X (.Constant (.int i) j pos) (tC (.int i)):=fun _ _ _ H _ I h=>wpAny_Constant_int ⟨.int i,H,I.tok _,⟨_,rfl⟩,h⟩
theorem Mr {b j pos}:PE X (.Constant (.bool b) j pos) (tC (.bl b)):=fun _ _ _ H _ I h=>Constant_bool ⟨.bl b,H,I,rfl,h⟩
theorem JM {j pos}:PE X (.Constant .none j pos) (tC .cH):=fun _ _ _ H _ I h=>Constant_none ⟨.cH,H,I,rfl,h⟩
theorem EC {x j pos}:PE X (.Constant (.str x) j pos) (tC (.str x)):=fun _ _ _ H _ I h=>Calls.Constant_str ⟨.str x,H,I.tok _,⟨_,rfl⟩,h⟩
noncomputable def Gl (X:Cx) (x:Str):Prop:=X.env.kindOf x=some .globalImplicit
theorem yE {E:Value→Shared→Prop}{pins:List (Addr×Obj)}{s:Shared}{σ:St}{H:Hp}{x:Str}{u:Value}{pos:Pos}{Q:Value→Shared→Prop}(I:Inv X pins σ H s) (hg:Gl X x) (hm:X.mg x=some u) (h:Q u s)
  (hd:(x == ("__debug__":Str))=false:=by decide):wpAny (model X.prog X.w) X.A (eval (.Name x pos) X.env) Q E s:=
 Calls.Name_function_global I.ok.kind hg (Calls.loadGlobal_global (by rw[I.ok.glob];exact I.mod.glob.keeps I.bk) hm h) hd
theorem yF {E:Value→Shared→Prop}{pins:List (Addr×Obj)}{s:Shared}{σ:St}{H:Hp}{x:Str}{u:Value}{pos:Pos}{Q:Value→Shared→Prop}(I:Inv X pins σ H s) (hg:Gl X x) (hm:X.mg x=none) (hv:bootBuiltins x=some u) (h:Q u s)
  (hn:x≠"__name__":=by decide) (hd:(x == ("__debug__":Str))=false:=by decide):wpAny (model X.prog X.w) X.A (eval (.Name x pos) X.env) Q E s:=by
 obtain⟨mb,h1,h2⟩:=I.mod.blt
 exact Calls.Name_function_global I.ok.kind hg (Calls.loadGlobal_builtin (by rw[I.ok.glob];exact I.mod.glob.keeps I.bk) hm (by rw[I.ok.blt];exact h1.keeps I.bk) ((h2 x hn).trans hv) h) hd
theorem qw {x:Str}{v:V}{u:Value}{pos:Pos}(hg:Gl X x) (hm:X.mg x=some u) (r:RelV v u) (hd:(x == ("__debug__":Str))=false:=by decide):PE X (.Name x pos) (tC v):=
 fun _ _ _ H _ I h=>yE I hg hm ⟨v,H,I,r,h⟩ hd
theorem G4 {x:Str}{v:V}{u:Value}{pos:Pos}(hg:Gl X x) (hm:X.mg x=none) (hv:bootBuiltins x=some u) (r:RelV v u) (hn:x≠"__name__":=by decide) (hd:(x == ("__debug__":Str))=false:=by decide):PE X (.Name x pos) (tC v):=
 fun _ _ _ H _ I h=>yF I hg hm hv ⟨v,H,I,r,h⟩ hn hd
variable {a b:Expr}{ta tb:TE}{pos:Pos}
noncomputable def PC (X:Cx) (op:CmpOp) (a b:Expr) (t:TE):Prop:=
 ∀(pins:List (Addr×Obj)) (s:Shared) (σ:St) (H:Hp) (Q:VK),Inv X pins σ H s→t σ H Q→
  wpAny (model X.prog X.w) X.A (eval a X.env) (fun v s₁=>wpAny (model X.prog X.w) X.A (eval b X.env) (fun u s₂=>wpAny (model X.prog X.w) X.A (compareOp op v u) (EP X pins σ Q) X.xe s₂) X.xe s₁) X.xe s
theorem ED (b:Expr){op:CmpOp}(h:op≠.In) (h2:op≠.NotIn):behindInMarks op b=false:=by
 have e1:(op == CmpOp.In)=false:=by cases op <;> first | rfl | exact absurd rfl h
 have e2:(op == CmpOp.NotIn)=false:=by cases op <;> first | rfl | exact absurd rfl h2
 cases b <;> simp[behindInMarks,e1,e2]
noncomputable def tB (t:TE):TT:=fun σ H Q=>t σ H fun x H1=>∃c,x= .bl c∧Q c H1
theorem JN {op:CmpOp}{t:TE}(h:PC X op a b t) (h1:behindInMarks op b=false:=by first | exact ED _ (by decide) (by decide) | rfl):PT X (.Compare a [op] [b] pos) (tB t):=by
 intro pins s σ H Q I hw
 refine wpAny_isTrue_Compare1 (fq (h pins s σ H _ I hw) fun v s1 h1=>fq h1 fun u s2 h2=>fq h2 fun c s3 ⟨x,H1,I1,r1,q1⟩=>?_) h1
 obtain⟨d,rfl,q⟩:=q1
 cases r1
 exact wpAny_truthy_bool ⟨H1,I1,q⟩
theorem JP {e:Expr}{t:TE}(h:PE X e t) (he:∀whole,isTrue e X.env whole=(do let v ←whole;standAt e.pos;holding [v] (truthy v)):=by intro _;rfl):PT X e (tB t):=by
 intro pins s σ H Q I hw
 refine isTrue_plain (fq (h pins s σ H _ I hw) fun v s1 ⟨x,H1,I1,r1,q1⟩=>?_) (he _)
 obtain⟨d,rfl,q⟩:=q1
 cases r1
 exact wpAny_truthy_bool ⟨H1,I1,q⟩
variable {tA Pd:TT}{rest:List Expr}
noncomputable def QX (t u:TT):TT:=fun σ H Q=>t σ H fun c H1=>if c=true then u σ H1 Q else Q false H1
noncomputable def Y3 (t u:TT):TT:=fun σ H Q=>t σ H fun c H1=>if c=true then Q true H1 else u σ H1 Q
noncomputable def QY (t:TT):TT:=fun σ H Q=>t σ H fun c H1=>Q (!c) H1
theorem pw_and1 (ha:PT X a tA):PW X (.BoolOp .And [a] pos) tA:=by
 intro wh pins s σ H Q I h
 refine isTrue_and (fq (ha pins s σ H Q I h) fun c s1 e=>?_)
 cases c with
 | true=>exact isTrue_and_nil e
 | false=>exact e
theorem pw_or1 (ha:PT X a tA):PW X (.BoolOp .Or [a] pos) tA:=by
 intro wh pins s σ H Q I h
 refine isTrue_or (fq (ha pins s σ H Q I h) fun c s1 e=>?_)
 cases c with
 | false=>exact isTrue_or_nil e
 | true=>exact e
theorem pw_and (ha:PT X a tA) (hb:PW X (.BoolOp .And (b :: rest) pos) Pd):PW X (.BoolOp .And (a :: b :: rest) pos) (QX tA Pd):=by
 intro wh pins s σ H Q I h
 refine isTrue_and (fq (ha pins s σ H _ I h) fun c s1 ⟨H1,I1,q1⟩=>?_)
 cases c with
 | true=>exact hb wh pins s1 σ H1 Q I1 q1
 | false=>exact⟨H1,I1,q1⟩
theorem pw_or (ha:PT X a tA) (hb:PW X (.BoolOp .Or (b :: rest) pos) Pd):PW X (.BoolOp .Or (a :: b :: rest) pos) (Y3 tA Pd):=by
 intro wh pins s σ H Q I h
 refine isTrue_or (fq (ha pins s σ H _ I h) fun c s1 ⟨H1,I1,q1⟩=>?_)
 cases c with
 | true=>exact⟨H1,I1,q1⟩
 | false=>exact hb wh pins s1 σ H1 Q I1 q1
theorem JQ (ha:PT X a tA):PT X (.UnaryOp .Not a pos) (QY tA):=by
 intro pins s σ H Q I h
 exact isTrue_not (ha pins s σ H (fun c H1=>Q (!c) H1) I h)
noncomputable def Ms (ta tb:TE):TE:=fun σ H Q=>ta σ H fun x H1=>∃c,x= .bl c∧if c=true then tb σ H1 Q else Q (.bl false) H1
noncomputable def QZ (ta tb:TE):TE:=fun σ H Q=>ta σ H fun x H1=>∃c,x= .bl c∧if c=true then Q (.bl true) H1 else tb σ H1 Q
noncomputable def Mt (ta:TE):TE:=fun σ H Q=>ta σ H fun x H1=>∃c,x= .bl c∧Q (.bl (!c)) H1
theorem JR {op}{t:TE}(h:PE X a t):PE X (.BoolOp op [a] pos) t:=fun pins s σ H Q I hw=>BoolOp_one (h pins s σ H Q I hw)
theorem JV (ha:PE X a ta) (hb:PE X (.BoolOp .And (b :: rest) pos) tb):PE X (.BoolOp .And (a :: b :: rest) pos) (Ms ta tb):=by
 intro pins s σ H Q I h
 refine BoolOp_and (fq (ha pins s σ H _ I h) fun v s1 ⟨x,H1,I1,r1,q1⟩=>?_)
 obtain⟨c,rfl,q1⟩:=q1
 cases r1
 refine wpAny_truthy_bool ?_
 cases c with
 | true=>exact hb pins s1 σ H1 Q I1 q1
 | false=>exact⟨.bl false,H1,I1,rfl,q1⟩
theorem Mu (ha:PE X a ta) (hb:PE X (.BoolOp .Or (b :: rest) pos) tb):PE X (.BoolOp .Or (a :: b :: rest) pos) (QZ ta tb):=by
 intro pins s σ H Q I h
 refine BoolOp_or (fq (ha pins s σ H _ I h) fun v s1 ⟨x,H1,I1,r1,q1⟩=>?_)
 obtain⟨c,rfl,q1⟩:=q1
 cases r1
 refine wpAny_truthy_bool ?_
 cases c with
 | false=>exact hb pins s1 σ H1 Q I1 q1
 | true=>exact⟨.bl true,H1,I1,rfl,q1⟩
theorem JX (ha:PE X a ta):PE X (.UnaryOp .Not a pos) (Mt ta):=by
 intro pins s σ H Q I h
 refine UnaryOp_ (fq (ha pins s σ H _ I h) fun v s1 ⟨x,H1,I1,r1,q1⟩=>?_)
 obtain⟨c,rfl,q1⟩:=q1
 cases r1
 exact not_of (wpAny_truthy_bool ⟨.bl (!c),H1,I1,rfl,q1⟩)
end
end L2
namespace L2
open PySem PySem.Spec PyProof.Rows
noncomputable def pQ (K:PySem.W.Frag) (H:Hp) (a:Addr) (xs:List V):Prop:=
 Rd H a (.lst xs)∨
  ∃(o:Obj) (its:Array Value) (n:Nat),K.lookup a=some o∧o.cls= .type "list"∧o.dict=none∧o.data= .seq its n∧its.size≤sizeLine∧Vals xs its.toList
noncomputable def yG (K:PySem.W.Frag) (H:Hp) (a:Addr) (xs:List V):Prop:=
 Rd H a (.tup xs)∨
  ∃(o:Obj) (its:Array Value) (n:Nat),K.lookup a=some o∧o.cls= .type "tuple"∧o.data= .seq its n∧its.size≤sizeLine∧Vals xs its.toList
noncomputable def Q0:Value→Option V
 | .none=>some .cH
 | .bool b=>some (.bl b)
 | .int i _=>some (.int i)
 | .str x _=>some (.str x)
 | .bytes b _=>some (.QN b)
 | .float b _=>some (.flt b)
 | .ref a=>some (.ref a)
 | .type n=>some (.ty n)
 | _=>none
theorem RelV.abs {x:V}{u:Value}(r:RelV x u):Q0 u=some x:=by
 cases x with
 | cH=>cases r;rfl
 | bl _=>cases r;rfl
 | int _=>obtain⟨t,rfl⟩:=r;rfl
 | str _=>obtain⟨t,rfl⟩:=r;rfl
 | QN _=>obtain⟨t,rfl⟩:=r;rfl
 | flt _=>obtain⟨t,rfl⟩:=r;rfl
 | ref _=>cases r;rfl
 | ty _=>cases r;rfl
theorem RelV.inj {x y:V}{u:Value}(r:RelV x u) (q:RelV y u):x=y:=Option.some.inj (r.abs.symm.trans q.abs)
theorem Vals.inj:∀{xs ys:List V}{us:List Value},Vals xs us→Vals ys us→xs=ys
 | _,_,_,.nil,.nil=>rfl
 | _,_,_,.cons r t,.cons r' t'=>by rw[r.inj r',Vals.inj t t']
section
variable {X:Cx}{pins:List (Addr×Obj)}{σ:St}{H:Hp}{s:Shared}{a:Addr}{xs ys:List V}
theorem pQ.of {K:PySem.W.Frag}(h:H a=some (.lst xs)):pQ K H a xs:=.inl (.inl h)
theorem yG.of {K:PySem.W.Frag}(h:H a=some (.tup xs)):yG K H a xs:=.inl (.inl h)
theorem Inv.list (I:Inv X pins σ H s) (h:pQ X.K H a xs):∃its:List Value,Vals xs its∧PlainL s.heap a its.toArray∧xs.length≤sizeLine:=by
 rcases h with h | ⟨o,its,n,hk,hc,hd,hs,hz,r⟩
 ·obtain⟨z,its,n,r,e⟩:=h.ok I.hok
  exact⟨its,r,⟨_,n,e,rfl,rfl,rfl⟩,z⟩
 ·refine⟨its.toList,r,⟨o,n,I.Bl a o hk,hc,hd,by simpa using hs⟩,?_⟩
  have e:=r.length
  simp only[Array.length_toList] at e
  omega
theorem Inv.tuple (I:Inv X pins σ H s) (h:yG X.K H a xs):∃its:List Value,Vals xs its∧IsTup s.heap a its.toArray∧xs.length≤sizeLine:=by
 rcases h with h | ⟨o,its,n,hk,hc,hs,hz,r⟩
 ·obtain⟨z,its,r,p⟩:=h.ok I.hok
  exact⟨its,r,p,z⟩
 ·refine⟨its.toList,r,⟨o,I.Bl a o hk,hc,n,by simpa using hs⟩,?_⟩
  have e:=r.length
  simp only[Array.length_toList] at e
  omega
theorem Inv.EE (I:Inv X pins σ H s) (h:pQ X.K H a xs) (h':pQ X.K H a ys):xs=ys:=by
 obtain⟨its,r,⟨o,n,e,_,_,d⟩,_⟩:=I.list h
 obtain⟨its',r',⟨o',n',e',_,_,d'⟩,_⟩:=I.list h'
 rw[e] at e';cases e'
 rw[d] at d'
 injection d' with d1 _
 have:its=its':=by simpa using congrArg Array.toList d1
 subst this
 exact r.inj r'
theorem Inv.Di (I:Inv X pins σ H s) (h:yG X.K H a xs) (h':yG X.K H a ys):xs=ys:=by
 obtain⟨its,r,⟨o,e,_,n,d⟩,_⟩:=I.tuple h
 obtain⟨its',r',⟨o',e',_,n',d'⟩,_⟩:=I.tuple h'
 rw[e] at e';cases e'
 rw[d] at d'
 injection d' with d1 _
 have:its=its':=by simpa using congrArg Array.toList d1
 subst this
 exact r.inj r'
end
noncomputable abbrev Cx.uu (X:Cx) (E:Value→Shared→Prop):Cx:={X with xe:=E}
noncomputable abbrev Cx.G5 (X:Cx):Cx:=X.uu fun _ _=>False
theorem Cx.Ok.uu {X:Cx}(ok:X.Ok) (E:Value→Shared→Prop):(X.uu E).Ok:=
 ⟨ok.mod,ok.kind,ok.glob,ok.blt,ok.above,ok.inj,ok.has,ok.Ml,ok.hd,ok.frames,ok.stk,ok.QU,ok.bs,ok.G3,ok.EA,ok.EB,ok.ur,ok.JH⟩
theorem Cx.Ok.kZ {X:Cx}{E:Value→Shared→Prop}(ok:(X.uu E).Ok):X.Ok:=
 ⟨ok.mod,ok.kind,ok.glob,ok.blt,ok.above,ok.inj,ok.has,ok.Ml,ok.hd,ok.frames,ok.stk,ok.QU,ok.bs,ok.G3,ok.EA,ok.EB,ok.ur,ok.JH⟩
section
variable {X:Cx}{pins:List (Addr×Obj)}{σ:St}{H:Hp}{s:Shared}{E:Value→Shared→Prop}
theorem Inv.uu (I:Inv X pins σ H s) (E:Value→Shared→Prop):Inv (X.uu E) pins σ H s:=⟨I.ok.uu E,I.os,I.bare,I.base,I.loc,I.cell,I.free,I.nI,I.pin,I.hok,I.len⟩
theorem Inv.kZ (I:Inv (X.uu E) pins σ H s):Inv X pins σ H s:=⟨I.ok.kZ,I.os,I.bare,I.base,I.loc,I.cell,I.free,I.nI,I.pin,I.hok,I.len⟩
theorem SP.kZ {D:Ends}{f:Flow}{s':Shared}(h:SP (X.uu E) pins D f s'):SP X pins D f s':=by
 cases f with
 | next=>obtain⟨σ',H',I,q⟩:=h;exact⟨σ',H',I.kZ,q⟩
 | brk=>obtain⟨σ',H',I,q⟩:=h;exact⟨σ',H',I.kZ,q⟩
 | cont=>obtain⟨σ',H',I,q⟩:=h;exact⟨σ',H',I.kZ,q⟩
 | ret u=>obtain⟨v,σ',H',I,r,q⟩:=h;exact⟨v,σ',H',I.kZ,r,q⟩
theorem PE.G5 {e:Expr}{t:TE}(h:PE X.G5 e t):PE X e t:=fun pins s σ H Q I hw=>
 wpAny_mono (h pins s σ H Q (I.uu _) hw) (fun _ _ ⟨v,H',I',r,q⟩=>⟨v,H',I'.kZ,r,q⟩) fun _ _ z=>False.elim z
theorem PT.G5 {e:Expr}{t:TT}(h:PT X.G5 e t):PT X e t:=fun pins s σ H Q I hw=>
 wpAny_mono (h pins s σ H Q (I.uu _) hw) (fun _ _ ⟨H',I',q⟩=>⟨H',I'.kZ,q⟩) fun _ _ z=>False.elim z
theorem Bf.G5 {st:List Stmt}{t:TS}(h:Bf X.G5 st t):Bf X st t:=fun pins s σ H D I hw=>
 wpAny_mono (h pins s σ H D (I.uu _) hw) (fun _ _ q=>q.kZ) fun _ _ z=>False.elim z
end
section
variable {X:Cx}{st:Stmt}{rest:List Stmt}{t u:TS}{e:Expr}{te:TE}{pos:Pos}
noncomputable def Mv:TS:=fun D σ H=>D.nx σ H
noncomputable def Q2 (t u:TS):TS:=fun D σ H=>t {D with nx:=u D} σ H
theorem G6:Bf X [] Mv:=fun _ _ σ H _ I h=>wpAny_execs_nil ⟨σ,H,I,h⟩
theorem EF (h1:PS X st t) (h2:Bf X rest u):Bf X (st :: rest) (Q2 t u):=by
 intro pins s σ H D I h
 refine wpAny_execs_cons (fq (h1 pins s σ H {D with nx:=u D} I h) fun f s1 q=>?_)
 cases f with
 | next=>
  obtain⟨σ',H',I',q⟩:=q
  exact h2 pins s1 σ' H' D I' q
 | ret v=>exact q
 | brk=>exact q
 | cont=>exact q
theorem G7 (h1:PS X st t):Bf X [st] t:=by
 intro pins s σ H D I h
 refine wpAny_execs_cons (fq (h1 pins s σ H D I h) fun f s1 q=>?_)
 cases f with
 | next=>exact wpAny_execs_nil q
 | ret v=>exact q
 | brk=>exact q
 | cont=>exact q
theorem Inv.quiet {pins:List (Addr×Obj)}{σ:St}{H:Hp}{s:Shared}(I:Inv X pins σ H s):interactive X.env=false:=by simp[interactive,I.ok.kind]
noncomputable def Mw (te:TE):TS:=fun D σ H=>te σ H fun _ H1=>D.nx σ H1
theorem G8 (he:PE X e te) (hs:swapsWith e none pos.line X.env=pure false:=by rfl):PS X (.Expr e pos) (Mw te):=by
 intro pins s σ H D I h
 exact wpAny_Expr_any (fq (he pins s σ H _ I h) fun v s1 ⟨x,H1,I1,r1,q1⟩=>⟨σ,H1,I1,q1⟩) I.quiet hs
noncomputable def Q3 (te:TE):TS:=fun D σ H=>te σ H D.rt
theorem JY (he:PE X e te):PS X (.Return (some e) pos) (Q3 te):=by
 intro pins s σ H D I h
 exact wpAny_Return_some (fq (he pins s σ H _ I h) fun v s1 ⟨x,H1,I1,r1,q1⟩=>⟨x,σ,H1,I1,r1,q1⟩)
noncomputable def Q4 (c:TT) (t u:TS):TS:=fun D σ H=>c σ H fun b H1=>if b=true then t D σ H1 else u D σ H1
theorem Mx {c:Expr}{a b:List Stmt}{tc:TT}(hc:PT X c tc) (ha:Bf X a t) (hb:Bf X b u):PS X (.If c a b pos) (Q4 tc t u):=by
 intro pins s σ H D I h
 refine wpAny_If (fq (hc pins s σ H _ I h) fun d s1 ⟨H1,I1,q1⟩=>?_)
 cases d with
 | true=>exact ha pins s1 σ H1 D I1 q1
 | false=>exact hb pins s1 σ H1 D I1 q1
end
noncomputable abbrev TG:=V→St→Hp→(St→Hp→Prop)→Prop
noncomputable abbrev G9:=List V→St→Hp→(St→Hp→Prop)→Prop
noncomputable def PG (X:Cx) (target:Expr) (t:TG):Prop:=
 ∀(pins:List (Addr×Obj)) (s:Shared) (σ:St) (H:Hp) (v:V) (u:Value) (Q:St→Hp→Prop),Inv X pins σ H s→RelV v u→t v σ H Q→
  wpAny (model X.prog X.w) X.A (assign target X.env u) (fun _ s'=>∃σ' H',Inv X pins σ' H' s'∧Q σ' H') X.xe s
noncomputable def IS (X:Cx) (ts:List Expr) (t:G9):Prop:=
 ∀(pins:List (Addr×Obj)) (s:Shared) (σ:St) (H:Hp) (vs:List V) (us:List Value) (Q:St→Hp→Prop),Inv X pins σ H s→Vals vs us→t vs σ H Q→
  wpAny (model X.prog X.w) X.A (assignInOrder ((assignEach ts X.env).map (·.2)) us) (fun _ s'=>∃σ' H',Inv X pins σ' H' s'∧Q σ' H') X.xe s
noncomputable abbrev JZ:=V→V→V→Hp→(Hp→Prop)→Prop
noncomputable def My (X:Cx) (t:JZ):Prop:=
 ∀(pins:List (Addr×Obj)) (s:Shared) (σ:St) (H:Hp) (o i v:V) (ov iv u:Value) (Q:Hp→Prop),Inv X pins σ H s→RelV o ov→RelV i iv→RelV v u→t o i v H Q→
  wpAny (model X.prog X.w) X.A (setItem ov iv u) (fun _ s'=>∃H',Inv X pins σ H' s'∧Q H') X.xe s
section
variable {X:Cx}{pos:Pos}
noncomputable def zO (i:Nat):TG:=fun v σ H Q=>Q (σ.set i (some v)) H
theorem CB {i:Nat}{x:Str}(hN:X.N.Nodup) (hi:X.N[i]? =some x) (hx:Loc X.env.scope x) (hf:X.fn x=true∨X.env.scope.names.lookup x=some .local:=by first | exact .inl rfl | exact .inr rfl | assumption):PG X (.Name x pos) (zO i):=by
 intro pins s σ H v u Q I r h
 exact wpAny_assign_Name (zN I hN hi hx r (fun s' I'=>⟨_,H,I',h⟩) hf)
noncomputable def Q5:G9:=fun vs σ H Q=>vs=[]∧Q σ H
noncomputable def Mz (t:TG) (u:G9):G9:=fun vs σ H Q=>∃v r,vs=v :: r∧t v σ H fun σ' H'=>u r σ' H' Q
theorem Hf:IS X [] Q5:=by
 intro pins s σ H vs us Q I r h
 obtain⟨e,h⟩:=h
 subst e
 cases r
 exact assignInOrder_nil ⟨σ,H,I,h⟩
theorem EG {e:Expr}{es:List Expr}{t:TG}{u:G9}(h1:PG X e t) (h2:IS X es u)
  (hs:(assignEach (e :: es) X.env).map (·.2)=assign e X.env :: (assignEach es X.env).map (·.2):=by rfl):IS X (e :: es) (Mz t u):=by
 intro pins s σ H vs us Q I r h
 obtain⟨v,vr,e1,h⟩:=h
 subst e1
 cases r with
 | cons r rr=>
  rw[hs]
  refine assignInOrder_cons (fq (h1 pins s σ H _ _ _ I r h) fun _ s1 ⟨σ1,H1,I1,q1⟩=>?_)
  exact h2 pins s1 σ1 H1 _ _ Q I1 rr q1
noncomputable def Q6 (K:PySem.W.Frag) (n:Nat) (t:G9):TG:=fun v σ H Q=>∃a xs,v= .ref a∧yG K H a xs∧xs.length=n∧t xs σ H Q
theorem J0 {es:List Expr}{k:Nat}{t:G9}{n:Nat}(hc:X.calm=true) (h:IS X es t)
  (hn:(assignEach es X.env).length=n:=by rfl) (hst:(assignEach es X.env).findIdx? (·.1)=none:=by rfl):PG X (.Tuple es k pos) (Q6 X.K n t):=by
 intro pins s σ H v u Q I r hw
 obtain⟨a,xs,e1,hq,hl,hw⟩:=hw
 subst e1
 cases r
 obtain⟨its,rv,ht,hz⟩:=I.tuple hq
 refine assign_Tuple_tuple (I.ok.hd hc) ht (by simp[hn,←hl,rv.length]) hst fun h' hx=>?_
 have I1:Inv X pins σ H {s with heap:=h'}:=I.kept (t':=s.toks) fun b o e=>hx b o (Nat.ne_of_lt (Heap.lt_size e)) e
 exact h pins _ σ H xs _ Q I1 (by simpa using rv) hw
noncomputable def Q7 (to ti:TE) (t:JZ):TG:=fun v σ H Q=>to σ H fun o H1=>ti σ H1 fun i H2=>t o i v H2 fun H3=>Q σ H3
theorem J1 {o i:Expr}{to ti:TE}{t:JZ}(ho:PE X o to) (hi:PE X i ti) (hs:My X t)
  (ha:∀v,assign (.Subscript o i pos) X.env v=(do
   let ov ←holding [v] (eval o X.env)
   let iv ←holding [v,ov] (eval i X.env)
   standAt pos
   holding [v,ov,iv] (setItem ov iv v)
   release [v,ov,iv] []):=by intro _;rfl):PG X (.Subscript o i pos) (Q7 to ti t):=by
 intro pins s σ H v u Q I r h
 rw[ha]
 refine wpAny_bind (wpAny_holding (fq (ho pins s σ H _ I h) fun ov s1 ⟨x,H1,I1,r1,q1⟩=>?_))
 refine wpAny_bind (wpAny_holding (fq (hi pins s1 σ H1 _ I1 q1) fun iv s2 ⟨y,H2,I2,r2,q2⟩=>?_))
 refine wpAny_bind (wpAny_standAt (wpAny_bind (wpAny_holding (fq (hs pins s2 σ H2 x y v ov iv u _ I2 r1 r2 r q2) fun _ s3 ⟨H3,I3,q3⟩=>?_))))
 exact wpAny_release ⟨σ,H3,I3,q3⟩
noncomputable def J2 (te:TE) (g:TG):TS:=fun D σ H=>te σ H fun x H1=>g x σ H1 D.nx
theorem EH {tg e:Expr}{te:TE}{g:TG}(he:PE X e te) (hg:PG X tg g) (hs:swapsWithSole [tg] e pos.line X.env=pure false:=by rfl) (hw:swappedStores [tg] e X.env=pure none:=by rfl)
  (h1:(assignEach [tg] X.env).map (·.2)=[assign tg X.env]:=by rfl):PS X (.Assign [tg] e pos) (J2 te g):=by
 intro pins s σ H D I h
 refine wpAny_Assign_stores (fq (he pins s σ H _ I h) fun v s1 ⟨x,H1,I1,r1,q1⟩=>?_) hs hw
 rw[h1]
 exact fq (hg pins s1 σ H1 x v _ I1 r1 q1) fun _ s2 q=>q
theorem J3 {i:Nat}{x:Str}{e:Expr}{te:TE}{pos':Pos}(hN:X.N.Nodup) (hi:X.N[i]? =some x) (hx:Loc X.env.scope x) (he:PE X e te) (hs:swapsWith e (some (.Name x pos')) pos.line X.env=pure false:=by rfl) (hf:X.fn x=true∨X.env.scope.names.lookup x=some .local:=by first | exact .inl rfl | exact .inr rfl | assumption):
  PS X (.Assign [.Name x pos'] e pos) (J2 te (zO i)):=by
 intro pins s σ H D I h
 refine wpAny_Assign_Name (fq (he pins s σ H _ I h) fun v s1 ⟨y,H1,I1,r1,q1⟩=>?_) hs
 exact zN I1 hN hi hx r1 (fun s2 I2=>⟨_,H1,I2,q1⟩) hf
end
section
variable {X:Cx}{pos:Pos}
end
structure It where
 go:Nat→Hp→Prop
 Pe:Nat→Hp→V→Hp→Prop
 stop:Nat→Hp→Prop
noncomputable def uO (X:Cx) (pins:List (Addr×Obj)) (H:Hp) (b:Addr):Prop:=
 H b=none∧b≠X.env.locals∧b∉X.fs∧(b∈X.ex∨X.s₀.heap.objs.size≤b)∧(∀x c,X.env.cells.lookup x=some c→c≠b)∧∀p∈X.pn++pins,p.1≠b
theorem Inv.EI {X:Cx}{pins:List (Addr×Obj)}{σ:St}{H H':Hp}{s:Shared}{b:Addr}(I:Inv X pins σ H s) (hb:s.heap.objs.size≤b) (hn:H' b=none):uO X pins H' b:=by
 refine⟨hn,Nat.ne_of_gt (Nat.lt_of_lt_of_le I.lt hb),I.Mm hb,.inr (Nat.le_trans I.sz hb),fun x c e z=>?_,fun p hp z=>?_⟩
 ·obtain⟨v,q⟩:=I.cell x c e
  exact absurd (Nat.lt_of_lt_of_le q.lt (by rw[z];exact hb)) (Nat.lt_irrefl _)
 ·exact absurd (Nat.lt_of_lt_of_le (Heap.lt_size (I.pin p hp).1) (by rw[z];exact hb)) (Nat.lt_irrefl _)
structure Turn (P:Program) (w:World) (K:PySem.W.Frag) (tg:Expr) (J:It) (fp:List Addr) (it:Addr) (tn:Nat→Heap→Prop):Prop where
 mem:it∈fp
 obj:∀i h,tn i h→∀b∈fp,∃o,h.get? b=some o∧∀v,o.data≠.cell v
 keep:∀i h h',tn i h→(∀b∈fp,∀o,h.get? b=some o→h'.get? b=some o)→tn i h'
 item:∀(X:Cx),X.prog=P→X.w=w→X.K=K→X.calm=true→∀(i:Nat) (pins:List (Addr×Obj)) (s:Shared) (σ:St) (H:Hp) (E:Value→Shared→Prop),Inv X pins σ H s→(∀b∈fp,uO X pins H b)→tn i s.heap→J.go i H→
  wpAny (model P w) X.A (pyNext (.ref it)) (fun r s1=>∃u,r=some u∧
   wpAny (model P w) X.A (letOwnedTupleGo tg (.ref it) u) (fun _ s2=>∃x H',Inv X pins σ H' s2∧RelV x u∧J.Pe i H x H'∧tn (i+1) s2.heap∧∀b∈fp,H' b=none) E s1) E s
 done:∀(X:Cx),X.prog=P→X.w=w→X.K=K→X.calm=true→∀(i:Nat) (pins:List (Addr×Obj)) (s:Shared) (σ:St) (H:Hp) (E:Value→Shared→Prop),Inv X pins σ H s→(∀b∈fp,uO X pins H b)→tn i s.heap→J.stop i H→
  wpAny (model P w) X.A (pyNext (.ref it)) (fun r s1=>r=none∧Inv X pins σ H s1) E s
 self:∀(A:Around) (i:Nat) (s:Shared) (Q:Value→Shared→Prop) (E:Value→Shared→Prop),tn i s.heap→Q (.ref it) s→wpAny (model P w) A (pyIter (.ref it)) Q E s
noncomputable abbrev TI:=St→Hp→(It→Hp→Prop)→Prop
noncomputable def Q8 (X:Cx) (pins:List (Addr×Obj)) (σ:St) (tg:Expr) (R:It→Hp→Prop) (itv:Value) (s2:Shared):Prop:=
 ∃(it:Addr) (fp:List Addr) (tn:Nat→Heap→Prop) (J:It) (H':Hp),itv= .ref it∧Inv X pins σ H' s2∧Turn X.prog X.w X.K tg J fp it tn∧tn 0 s2.heap∧(∀b∈fp,uO X pins H' b)∧R J H'
noncomputable def PI (X:Cx) (tg iter:Expr) (wi:TI):Prop:=
 ∀(pins:List (Addr×Obj)) (s:Shared) (σ:St) (H:Hp) (R:It→Hp→Prop),Inv X pins σ H s→wi σ H R→
  wpAny (model X.prog X.w) X.A (eval iter X.env) (fun v s1=>wpAny (model X.prog X.w) X.A (pyIter v) (Q8 X pins σ tg R) X.xe s1) X.xe s
theorem EJ {M : Model} {A : Around} {E : Value → Shared → Prop} {s : Shared} {tg : Expr} {it : Addr} {u : Value} {o : Obj} {n : String} {vs : Array Value} {Q : Unit → Shared → Prop} (ho : s.heap.get? it = some o) (hc : o.cls = .type n) (hd : o.data = .fields vs)
    (hn:["enumerate","zip","dict_itemiterator","dict_reverseitemiterator","odict_iterator","itertools.zip_longest","itertools.pairwise"].contains n=false) (hQ:Q () s):wpAny M A (letOwnedTupleGo tg (.ref it) u) Q E s:=by
  unfold letOwnedTupleGo
  cases tg <;> first
    | exact wpAny_pure hQ
    | (cases u <;> first
        | exact wpAny_pure hQ
        | (refine wpAny_bind (wpAny_load ho ?_)
           rw[hc,hd]
           show wpAny M A (if(["enumerate","zip","dict_itemiterator","dict_reverseitemiterator","odict_iterator","itertools.zip_longest","itertools.pairwise"].contains n && vs[0]? == some (rawInt _))=true then _ else _) Q E s
           rw[if_neg (by intro h;rw[hn,Bool.false_and] at h;cases h)]
           exact wpAny_pure hQ))
noncomputable def Q9 (K:PySem.W.Frag) (a:Addr):It:=
 ⟨fun i H=>∃xs x,pQ K H a xs∧xs[i]? =some x,fun i H x H'=>H'=H∧∀xs,pQ K H a xs→xs[i]? =some x,fun i H=>∃xs,pQ K H a xs∧xs.length≤i⟩
noncomputable def Rb (K:PySem.W.Frag) (a:Addr):It:=
 ⟨fun i H=>∃xs x,yG K H a xs∧xs[i]? =some x,fun i H x H'=>H'=H∧∀xs,yG K H a xs→xs[i]? =some x,fun i H=>∃xs,yG K H a xs∧xs.length≤i⟩
noncomputable def Pf (lo:Int) (n:Nat):It:=⟨fun i _=>i < n,fun i H x H'=>H'=H∧x= .int (lo+i),fun i _=>n≤i⟩
theorem Dj {P:Program}{w:World}{K:PySem.W.Frag}{tg:Expr}(a it:Addr):Turn P w K tg (Q9 K a) [it] it (fun i h=>h.IsListIter it a i) where
 mem:=by simp
 obj:=fun i h st b hb=>by
  have e:b=it:=by simpa using hb
  subst e
  obtain⟨o,e,c,d⟩:=st
  exact⟨o,e,fun v z=>by rw[d] at z;cases z⟩
 keep:=fun i h h' st k=>st.at fun o e=>k it (by simp) o e
 item:=by
  intro X hP hw hK hc i pins s σ H E I hf st hg
  subst hP hw hK
  obtain⟨xs,x,hq,hx⟩:=hg
  obtain⟨its,rv,p,hz⟩:=I.list hq
  obtain⟨u,hu,ru⟩:=rv.get hx
  obtain⟨f0,f1,f2,f3,f4,f5⟩:=hf it (by simp)
  refine wpAny_pyNext_list_item st p.isList (x:=u) (by simpa using hu) fun h' st' sb=>?_
  have I1:Inv X pins σ H {s with heap:=h'}:=I.turned (t':=s.toks) (fun b o hb e=>(sb.2 b hb).trans e) f0 f1 f3 f4 f5
  obtain⟨o,e,c,d⟩:=id st'
  exact⟨u,rfl,EJ (s:={s with heap:=h'}) e c d (by decide) ⟨x,H,I1,ru,⟨rfl,fun ys hy=>by rw[I.EE hy hq];exact hx⟩,st',fun b hb=>(hf b hb).1⟩⟩
 done:=by
  intro X hP hw hK hc i pins s σ H E I hf st hg
  subst hP hw hK
  obtain⟨xs,hq,hx⟩:=hg
  obtain⟨its,rv,p,hz⟩:=I.list hq
  obtain⟨f0,f1,f2,f3,f4,f5⟩:=hf it (by simp)
  have hl:=rv.length
  exact wpAny_pyNext_list_end (I.ok.hd hc) st p.isList (by simp;omega) fun h' eb=>⟨rfl,I.turned (t':=s.toks) (fun b o hb e=>eb b o hb e) f0 f1 f3 f4 f5⟩
 self:=fun _ _ _ _ _ st h=>wpAny_pyIter_listiter st h
theorem Bm {P:Program}{w:World}{K:PySem.W.Frag}{tg:Expr}(a it:Addr):Turn P w K tg (Rb K a) [it] it (fun i h=>h.IsTupleIter it a i) where
 mem:=by simp
 obj:=fun i h st b hb=>by
  have e:b=it:=by simpa using hb
  subst e
  obtain⟨o,e,c,d⟩:=st
  exact⟨o,e,fun v z=>by rw[d] at z;cases z⟩
 keep:=fun i h h' st k=>st.at fun o e=>k it (by simp) o e
 item:=by
  intro X hP hw hK hc i pins s σ H E I hf st hg
  subst hP hw hK
  obtain⟨xs,x,hq,hx⟩:=hg
  obtain⟨its,rv,p,hz⟩:=I.tuple hq
  obtain⟨u,hu,ru⟩:=rv.get hx
  obtain⟨f0,f1,f2,f3,f4,f5⟩:=hf it (by simp)
  refine wpAny_pyNext_tuple_item st (show s.heap.IsTuple a its.toArray from p) (x:=u) (by simpa using hu) fun h' st' sb=>?_
  have I1:Inv X pins σ H {s with heap:=h'}:=I.turned (t':=s.toks) (fun b o hb e=>(sb.2 b hb).trans e) f0 f1 f3 f4 f5
  obtain⟨o,e,c,d⟩:=id st'
  exact⟨u,rfl,EJ (s:={s with heap:=h'}) e c d (by decide) ⟨x,H,I1,ru,⟨rfl,fun ys hy=>by rw[I.Di hy hq];exact hx⟩,st',fun b hb=>(hf b hb).1⟩⟩
 done:=by
  intro X hP hw hK hc i pins s σ H E I hf st hg
  subst hP hw hK
  obtain⟨xs,hq,hx⟩:=hg
  obtain⟨its,rv,p,hz⟩:=I.tuple hq
  obtain⟨f0,f1,f2,f3,f4,f5⟩:=hf it (by simp)
  have hl:=rv.length
  exact wpAny_pyNext_tuple_end (I.ok.hd hc) st (show s.heap.IsTuple a its.toArray from p) (by simp;omega) fun h' eb=>⟨rfl,I.turned (t':=s.toks) (fun b o hb e=>eb b o hb e) f0 f1 f3 f4 f5⟩
 self:=fun _ _ _ _ _ st h=>wpAny_pyIter_tupleiter st h
theorem Bo {P:Program}{w:World}{K:PySem.W.Frag}{tg:Expr}(it:Addr) (lo:Int) (n:Nat):Turn P w K tg (Pf lo n) [it] it (fun i h=>IsRangeIter h it (lo+(i:Nat) * 1) ((n:Int) - (i:Nat)) 1) where
  mem:=by simp
  obj := fun i h st b hb => by
    have e:b=it:=by simpa using hb
    subst e
    exact⟨_,st,fun v z=>by
      have z':Data.fields _=Data.cell v:=z
      cases z'⟩
  keep:=fun i h h' st k=>k it (by simp) _ st
  item:=by
    intro X hP hw hK hc i pins s σ H E I hf st hg
    subst hP hw hK
    obtain⟨f0,f1,f2,f3,f4,f5⟩:=hf it (by simp)
    have W:=Walks.range (prog:=X.prog) (w:=X.w) (I.ok.hd hc) it lo 1 n
    refine W.item i s _ _ hg st fun v h' tk hv st' kk=>?_
    obtain⟨t,rfl⟩:=hv
    have I1:Inv X pins σ H {s with heap:=h',toks:=tk}:=I.turned (fun b o hb e=>kk b o (by simpa using hb) e) f0 f1 f3 f4 f5
    refine⟨_,rfl,EJ (s:={s with heap:=h',toks:=tk}) (n:="range_iterator") st' rfl rfl (by decide) ⟨.int (lo+i),H,I1,⟨t,?_⟩,⟨rfl,rfl⟩,st',fun b hb=>(hf b hb).1⟩⟩
    rw[Int.mul_one]
  done:=by
    intro X hP hw hK hc i pins s σ H E I hf st hg
    subst hP hw hK
    obtain⟨f0,f1,f2,f3,f4,f5⟩:=hf it (by simp)
    exact wpAny_pyNext_range_end (I.ok.hd hc) st (by have:n≤i:=hg;omega) fun h' eb=>⟨rfl,I.turned (t':=s.toks) (fun b o hb e=>eb b o hb e) f0 f1 f3 f4 f5⟩
  self:=fun _ _ _ _ _ st h=>wpAny_pyIter_rangeiter st h
end L2
namespace L2
open PySem PySem.Spec PyProof.Rows
section
variable {X:Cx}{tg:Expr}
noncomputable def MA (K:PySem.W.Frag) (tl:TE):TI:=fun σ H R=>tl σ H fun x H1=>∃a,x= .ref a∧(∃xs,pQ K H1 a xs)∧R (Q9 K a) H1
noncomputable def Rc (K:PySem.W.Frag) (tl:TE):TI:=fun σ H R=>tl σ H fun x H1=>∃a,x= .ref a∧(∃xs,yG K H1 a xs)∧R (Rb K a) H1
theorem Hg {l:Expr}{tl:TE}(hl:PE X l tl):PI X tg l (MA X.K tl):=by
 intro pins s σ H R I h
 refine fq (hl pins s σ H _ I h) fun v s1 ⟨x,H1,I1,r1,q1⟩=>?_
 obtain⟨a,e,⟨xs,hq⟩,q⟩:=q1
 subst e
 cases r1
 obtain⟨its,rv,p,hz⟩:=I1.list hq
 refine wpAny_pyIter_list p.isList ?_
 refine⟨s1.heap.objs.size,[s1.heap.objs.size],_,_,H1,rfl,I1.kept (t':=s1.toks) fun b o e=>Heap.get?_push_of_some _ e,Dj a _,⟨_,Heap.get?_push_size _ rfl,rfl,rfl⟩,fun b hb=>?_,q⟩
 have e:b=s1.heap.objs.size:=by simpa using hb
 subst e
 exact I1.EI (Nat.le_refl _) (I1.hok.fresh (Nat.le_refl _))
theorem J4 {l:Expr}{tl:TE}(hl:PE X l tl):PI X tg l (Rc X.K tl):=by
 intro pins s σ H R I h
 refine fq (hl pins s σ H _ I h) fun v s1 ⟨x,H1,I1,r1,q1⟩=>?_
 obtain⟨a,e,⟨xs,hq⟩,q⟩:=q1
 subst e
 cases r1
 obtain⟨its,rv,p,hz⟩:=I1.tuple hq
 refine wpAny_pyIter_tuple (show s1.heap.IsTuple a its.toArray from p) ?_
 refine⟨s1.heap.objs.size,[s1.heap.objs.size],_,_,H1,rfl,I1.kept (t':=s1.toks) fun b o e=>Heap.get?_push_of_some _ e,Bm a _,⟨_,Heap.get?_push_size _ rfl,rfl,rfl⟩,fun b hb=>?_,q⟩
 have e:b=s1.heap.objs.size:=by simpa using hb
 subst e
 exact I1.EI (Nat.le_refl _) (I1.hok.fresh (Nat.le_refl _))
theorem EK {pins:List (Addr×Obj)}{σ:St}{H:Hp}{s:Shared}{R:It→Hp→Prop}{E:Value→Shared→Prop}{lo hi:Int}{t u v:Tok}{tk:Nat}(I:Inv X pins σ H s) (h1:-(2 ^ 62)≤lo) (h2:lo < 2 ^ 62) (h3:-(2 ^ 62)≤hi) (h4:hi < 2 ^ 62)
  (q:R (Pf lo (hi - lo).toNat) H):wpAny (model X.prog X.w) X.A (pyIter (.ref s.heap.objs.size)) (Q8 X pins σ tg R) E {s with heap:=s.heap.push {cls:=.type "range",data:=.fields #[.int lo t,.int hi u,.int 1 v]},toks:=tk}:=by
 refine wpAny_pyIter_range (IsRange.new ..) (small_one h1 h2 h3 h4) ?_
 have I1:Inv X pins σ H {s with heap:=s.heap.push {cls:=.type "range",data:=.fields #[.int lo t,.int hi u,.int 1 v]},toks:=tk}:=I.kept fun b o e=>Heap.get?_push_of_some _ e
 refine⟨(s.heap.push {cls:=.type "range",data:=.fields #[.int lo t,.int hi u,.int 1 v]}).objs.size,[(s.heap.push {cls:=.type "range",data:=.fields #[.int lo t,.int hi u,.int 1 v]}).objs.size],_,_,H,rfl,
  I1.kept (t':=tk) fun b o e=>Heap.get?_push_of_some _ e,Bo _ lo (hi - lo).toNat,?_,fun b hb=>?_,q⟩
 ·have e1:lo+((0:Nat):Int) * 1=lo:=by simp
  have e2:(((hi - lo).toNat:Nat):Int) - ((0:Nat):Int)=Builtin.Range.rangeSize lo hi 1:=by rw[rangeSize_one];split <;> omega
  show IsRangeIter _ _ (lo+((0:Nat):Int) * 1) ((((hi - lo).toNat:Nat):Int) - ((0:Nat):Int)) 1
  rw[e1,e2]
  exact Heap.get?_push_size _ rfl
 ·have e:b=(s.heap.push {cls:=.type "range",data:=.fields #[.int lo t,.int hi u,.int 1 v]}).objs.size:=by simpa using hb
  subst e
  exact I1.EI (Nat.le_refl _) (I1.hok.fresh (Nat.le_refl _))
noncomputable def MB (ta:TA):TI:=fun σ H R=>ta σ H fun vs H1=>∃j:Int,vs=[.int j]∧-(2 ^ 62)≤j∧j < 2 ^ 62∧R (Pf 0 j.toNat) H1
theorem Dk {a:Expr}{ta:TA}{p pos:Pos}(hg:Gl X "range") (hm:X.mg "range" =none) (ha:PA X [a] ta) (hs:starEach [a] X.env=[(false,eval a X.env)]:=by rfl):PI X tg (.Call (.Name "range" p) [a] [] pos) (MB ta):=by
 intro pins s σ H R I h
 refine Call_ (yF I hg hm boot_range (PyProof.Rows.callWith_type1 (fq (ha pos pins s σ H _ I h) fun us s1 ⟨vs,H1,I1,r1,q1⟩=>?_) hs rfl))
 obtain⟨j,e,q1,q2,q⟩:=q1
 subst e
 cases r1 with
 | cons r rr=>
  cases rr
  obtain⟨t,rfl⟩:=r
  exact call_range_1 (EK I1 (by omega) (by omega) q1 q2 (by simpa using q))
noncomputable def Rf (wi:TI) (g:TG) (tb:TS):TS:=fun D σ H=>wi σ H fun J H1=>∃W:Nat→Nat→St→Hp→Prop,(∃m,W 0 m σ H1)∧∀i m σ H,W i m σ H→
 (J.stop i H∧D.nx σ H)∨(J.go i H∧∃N:St→Hp→Prop,(∀σ' H',N σ' H'→∃m',m' < m∧W (i+1) m' σ' H')∧∀x H',J.Pe i H x H'→g x σ H' fun σ2 H2=>tb {D with nx:=N,ct:=N,bk:=D.nx} σ2 H2)
noncomputable def pY (fp:List Addr) (h:Heap):List (Addr×Obj):=fp.filterMap fun b=>(h.get? b).map fun o=>(b,o)
theorem iI {fp:List Addr}{h:Heap}{b:Addr}{o:Obj}(hb:b∈fp) (e:h.get? b=some o):(b,o)∈pY fp h:=List.mem_filterMap.mpr ⟨b,hb,by rw[e];rfl⟩
theorem rR {fp:List Addr}{h:Heap}{p:Addr×Obj}(hp:p∈pY fp h):p.1∈fp∧h.get? p.1=some p.2:=by
 obtain⟨b,hb,e⟩:=List.mem_filterMap.mp hp
 cases q:h.get? b with
 | none=>rw[q] at e;cases e
 | some o=>
  rw[q] at e
  have e':(b,o)=p:=Option.some.inj e
  subst e'
  exact⟨hb,q⟩
theorem Inv.pinned {pins:List (Addr×Obj)}{σ:St}{H:Hp}{s:Shared}{fp:List Addr}(I:Inv X pins σ H s) (hf:∀b∈fp,uO X pins H b) (ho:∀b∈fp,∃o,s.heap.get? b=some o∧∀v,o.data≠.cell v):Inv X (pins++pY fp s.heap) σ H s:=
 I.CA fun p hp=>(List.mem_append.mp hp).elim (fun z=>I.pin p (List.mem_append_right _ z)) fun z=>by
  obtain⟨hb,e⟩:=rR z
  obtain⟨f0,f1,f2,_⟩:=hf p.1 hb
  obtain⟨o,e',d⟩:=ho p.1 hb
  rw[e] at e';cases e'
  exact⟨e,f0,f1,f2,d⟩
theorem Inv.nJ {pins pl:List (Addr×Obj)}{σ:St}{H:Hp}{s:Shared}(I:Inv X (pins++pl) σ H s):Inv X pins σ H s:=I.CA fun p hp=>I.pin p (List.mem_append_right _ (List.mem_append_left _ hp))
theorem J5 {iter:Expr}{body:List Stmt}{wi:TI}{g:TG}{tb:TS}{pos:Pos}(hp:PassesOwn (model X.prog X.w) X.A X.env X.xe) (hc:X.calm=true) (hi:PI X tg iter wi) (hg:PG X tg g) (hb:Bf X body tb)
  (hs:∀x,foldedSetIterable iter X.env x=pure x:=by intro _;rfl):PS X (.For tg iter body [] pos) (Rf wi g tb):=by
 intro pins s σ H D I h
 refine wpAny_For (fq (hi pins s σ H _ I h) fun v s1 h1=>fq h1 fun itv s2 h2=>?_) hs
 obtain⟨it,fp,tn,J,H2,e,I2,T,st2,f2,W,⟨m0,w0⟩,turn⟩:=h2
 subst e
 have J6:∀{H':Hp},(∀b∈fp,H' b=none)→∀b∈fp,uO X pins H' b:=fun hn b hb=>⟨hn b hb,(f2 b hb).2⟩
 refine codeAny_forLoop_any (fun n s'=>∃i σ' H',Inv X pins σ' H' s'∧tn i s'.heap∧(∀b∈fp,H' b=none)∧W i n σ' H') ?_ m0 ⟨0,σ,H2,I2,st2,fun b hb=>(f2 b hb).1,w0⟩
 rintro n s3 ⟨i,σ3,H3,I3,st3,Xw,w3⟩
 rcases turn i n σ3 H3 w3 with⟨stop,qn⟩ | ⟨go,N,hN,step⟩
 ·refine wpAny_passesOwn hp (fq (T.done X rfl rfl rfl hc i pins s3 σ3 H3 X.xe I3 (J6 Xw) st3 stop) fun r s4 ⟨hr,I4⟩=>?_)
  subst hr
  exact wpAny_execs_nil ⟨σ3,H3,I4,qn⟩
 ·refine wpAny_passesOwn hp (fq (T.item X rfl rfl rfl hc i pins s3 σ3 H3 X.xe I3 (J6 Xw) st3 go) fun r s4 ⟨u,hr,h4⟩=>?_)
  subst hr
  refine wpAny_passesOwn hp (fq h4 fun _ s5 ⟨x,H5,I5,r5,y5,Rg,Y4⟩=>?_)
  have Y5:=I5.pinned (J6 Y4) (T.obj _ _ Rg)
  refine wpAny_passesOwn hp (fq (hg _ s5 σ3 H5 x u _ Y5 r5 (step x H5 y5)) fun _ s6 ⟨Y6,H6,I6,q6⟩=>?_)
  refine wpAny_passesOwn hp (fq (hb _ s6 Y6 H6 _ I6 q6) fun f s7 q7=>?_)
  have again:∀{EL:St}{H7:Hp},Inv X (pins++pY fp s5.heap) EL H7 s7→N EL H7→∃m,m < n∧∃i σ' H',Inv X pins σ' H' s7∧tn i s7.heap∧(∀b∈fp,H' b=none)∧W i m σ' H':=fun {EL H7} I7 n7=>by
   obtain⟨m',hm,w7⟩:=hN EL H7 n7
   refine⟨m',hm,i+1,EL,H7,I7.nJ,T.keep _ _ _ Rg fun b hb o e=>(I7.pin (b,o) (List.mem_append_right _ (List.mem_append_right _ (iI hb e)))).1,fun b hb=>?_,w7⟩
   obtain⟨o,e,d⟩:=T.obj _ _ Rg b hb
   exact(I7.pin (b,o) (List.mem_append_right _ (List.mem_append_right _ (iI hb e)))).2.1
  cases f with
  | next=>obtain⟨EL,H7,I7,n7⟩:=q7;exact again I7 n7
  | cont=>obtain⟨EL,H7,I7,n7⟩:=q7;exact again I7 n7
  | brk=>obtain⟨EL,H7,I7,q7⟩:=q7;exact⟨EL,H7,I7.nJ,q7⟩
  | ret v=>obtain⟨x7,EL,H7,I7,r7,q7⟩:=q7;exact⟨x7,EL,H7,I7.nJ,r7,q7⟩
end
end L2
namespace L2
open PySem PySem.Spec PyProof.Rows
noncomputable abbrev R2:=V→V→Hp→VK→Prop
noncomputable def qx (X:Cx) (f:Value→Value→Sem Value) (r:R2):Prop:=
 ∀(pins:List (Addr×Obj)) (s:Shared) (σ:St) (H:Hp) (x y:V) (v u:Value) (Q:VK),Inv X pins σ H s→RelV x v→RelV y u→r x y H Q→
  wpAny (model X.prog X.w) X.A (f v u) (EP X pins σ Q) X.xe s
noncomputable def MC (X:Cx) (f:Value→Sem Value) (r:V→Hp→VK→Prop):Prop:=
 ∀(pins:List (Addr×Obj)) (s:Shared) (σ:St) (H:Hp) (x:V) (v:Value) (Q:VK),Inv X pins σ H s→RelV x v→r x H Q→
  wpAny (model X.prog X.w) X.A (f v) (EP X pins σ Q) X.xe s
noncomputable def jf (X:Cx) (f:Value) (r:List V→Hp→VK→Prop):Prop:=
 ∀(pins:List (Addr×Obj)) (s:Shared) (σ:St) (H:Hp) (xs:List V) (us:List Value) (Q:VK),Inv X pins σ H s→Vals xs us→r xs H Q→
  wpAny (model X.prog X.w) X.A (call f us) (EP X pins σ Q) X.xe s
noncomputable def LM (r:R2) (ta tb:TE):TE:=fun σ H Q=>ta σ H fun x H1=>tb σ H1 fun y H2=>r x y H2 Q
noncomputable def Y7 (r:V→Hp→VK→Prop) (ta:TE):TE:=fun σ H Q=>ta σ H fun x H1=>r x H1 Q
noncomputable def rI (C:Int→Int→Prop) (g:Int→Int→V):R2:=fun x y H Q=>∃i j,x= .int i∧y= .int j∧C i j∧Q (g i j) H
noncomputable def J7 (g:Int→Int→V):R2:=fun x y H Q=>∃i j,x= .int i∧y= .int j∧Q (g i j) H
noncomputable def rU (g:Int→V):V→Hp→VK→Prop:=fun x H Q=>∃i,x= .int i∧Q (g i) H
section
variable {X:Cx}{a b c:Expr}{ta tb tc:TE}{pos:Pos}
theorem J8 (ha:PE X a ta) (hb:PE X b tb){pins:List (Addr×Obj)}{s:Shared}{σ:St}{H:Hp}{R:V→V→Hp→Prop}(I:Inv X pins σ H s)
  (h:ta σ H fun x H1=>tb σ H1 fun y H2=>R x y H2){Q:Value→Shared→Prop}{f:Value→Value→Sem Value}
  (hf:∀v u s2 x y H2,Inv X pins σ H2 s2→RelV x v→RelV y u→R x y H2→wpAny (model X.prog X.w) X.A (f v u) Q X.xe s2):
  wpAny (model X.prog X.w) X.A (eval a X.env) (fun v s₁=>wpAny (model X.prog X.w) X.A (eval b X.env) (fun u s₂=>wpAny (model X.prog X.w) X.A (f v u) Q X.xe s₂) X.xe s₁) X.xe s:=by
 refine fq (ha pins s σ H _ I h) fun v s1 ⟨x,H1,I1,r1,q1⟩=>?_
 refine fq (hb pins s1 σ H1 _ I1 q1) fun u s2 ⟨y,H2,I2,r2,q2⟩=>?_
 exact hf v u s2 x y H2 I2 r1 r2 q2
theorem MD {op:Operator}{r:R2}(ho:qx X (binaryOp op) r) (ha:PE X a ta) (hb:PE X b tb):PE X (.BinOp a op b pos) (LM r ta tb):=by
 intro pins s σ H Q I h
 exact wpAny_BinOp (J8 ha hb I h fun v u s2 x y H2 I2 rx ry q=>ho pins s2 σ H2 x y v u Q I2 rx ry q)
theorem ME {op:UnaryOp}{r:V→Hp→VK→Prop}(ho:MC X (unaryOp op) r) (ha:PE X a ta):PE X (.UnaryOp op a pos) (Y7 r ta):=by
 intro pins s σ H Q I h
 exact UnaryOp_ (fq (ha pins s σ H _ I h) fun v s1 ⟨x,H1,I1,r1,q1⟩=>ho pins s1 σ H1 x v Q I1 r1 q1)
theorem Pg {f:Value→Value→Sem Value}{C:Int→Int→Prop}{g:Int→Int→Int}
  (rule:∀(i j:Int) (t u:Tok) (s:Shared) (Q:Value→Shared→Prop) (E:Value→Shared→Prop),C i j→Q (.int (g i j) s.toks) {s with toks:=s.toks+1}→wpAny (model X.prog X.w) X.A (f (.int i t) (.int j u)) Q E s):
  qx X f (rI C fun i j=>.int (g i j)):=by
 intro pins s σ H x y v u Q I rx ry h
 obtain⟨i,j,rfl,rfl,hc,q⟩:=h
 obtain⟨t,rfl⟩:=rx
 obtain⟨t',rfl⟩:=ry
 exact rule i j t t' s _ _ hc ⟨.int (g i j),H,I.tok _,⟨_,rfl⟩,q⟩
theorem MF {f:Value→Value→Sem Value}{g:Int→Int→Int}
  (rule:∀(i j:Int) (t u:Tok) (s:Shared) (Q:Value→Shared→Prop) (E:Value→Shared→Prop),Q (.int (g i j) s.toks) {s with toks:=s.toks+1}→wpAny (model X.prog X.w) X.A (f (.int i t) (.int j u)) Q E s):
  qx X f (J7 fun i j=>.int (g i j)):=by
 intro pins s σ H x y v u Q I rx ry h
 obtain⟨i,j,rfl,rfl,q⟩:=h
 obtain⟨t,rfl⟩:=rx
 obtain⟨t',rfl⟩:=ry
 exact rule i j t t' s _ _ ⟨.int (g i j),H,I.tok _,⟨_,rfl⟩,q⟩
theorem J9 {f:Value→Value→Sem Value}{g:Int→Int→Bool}
  (rule:∀(i j:Int) (t u:Tok) (s:Shared) (Q:Value→Shared→Prop) (E:Value→Shared→Prop),Q (.bool (g i j)) s→wpAny (model X.prog X.w) X.A (f (.int i t) (.int j u)) Q E s):
  qx X f (J7 fun i j=>.bl (g i j)):=by
 intro pins s σ H x y v u Q I rx ry h
 obtain⟨i,j,rfl,rfl,q⟩:=h
 obtain⟨t,rfl⟩:=rx
 obtain⟨t',rfl⟩:=ry
 exact rule i j t t' s _ _ ⟨.bl (g i j),H,I,rfl,q⟩
noncomputable def MG (i j:Int):Prop:=0 < j∧j < 1073741824
noncomputable def Rh (i j:Int):Prop:=0≤j∧j≤1000000∧i.natAbs < 2 ^ 64
noncomputable def Ka (i j:Int):Prop:=(-(2 ^ 64) < i∧i < 2 ^ 64)∨(-(2 ^ 64) < j∧j < 2 ^ 64)
theorem Ka.ok {i j:Int}(h:Ka i j):IntMulOk i j:=by
 rcases h with⟨h1,h2⟩ | ⟨h1,h2⟩
 ·exact .of_left (intBits_le_64 h1 h2)
 ·exact .of_right (intBits_le_64 h1 h2)
theorem Kc:qx X (binaryOp .Add) (J7 fun i j=>.int (i+j)):=MF fun _ _ _ _ _ _ _ q=>add_int q
theorem Kd:qx X (binaryOp .Sub) (J7 fun i j=>.int (i - j)):=MF fun _ _ _ _ _ _ _ q=>sub_int q
theorem Ke:qx X (binaryOp .Mult) (rI Ka fun i j=>.int (i * j)):=Pg fun _ _ _ _ _ _ _ hc q=>mul_int q hc.ok
theorem Hh:qx X (binaryOp .FloorDiv) (rI MG fun i j=>.int (i / j)):=Pg fun i j _ _ _ _ _ hc q=>by
 have h1:(0:Int) < j:=hc.1
 have h2:j < 1073741824:=hc.2
 exact floordiv_int (by omega) (by rw[Int.fdiv_eq_ediv_of_nonneg i (by omega)];exact q) (.inl (PyProof.noPylong_small (by omega)))
theorem Kf:qx X (binaryOp .Mod) (rI (fun _ j=>0 < j) fun i j=>.int (i % j)):=Pg fun i j _ _ _ _ _ hc q=>by
 have h1:(0:Int) < j:=hc
 exact mod_int' (by omega) (by rw[Int.fmod_eq_emod_of_nonneg i (by omega)];exact q)
theorem Kg:qx X (binaryOp .Pow) (rI Rh fun i j=>.int (i ^ j.toNat)):=Pg fun _ _ _ _ _ _ _ hc q=>pow_int_small hc.1 hc.2.1 hc.2.2 q
theorem Y8 {f:Value→Sem Value}{g:Int→Int}
  (rule:∀(i:Int) (t:Tok) (s:Shared) (Q:Value→Shared→Prop) (E:Value→Shared→Prop),Q (.int (g i) s.toks) {s with toks:=s.toks+1}→wpAny (model X.prog X.w) X.A (f (.int i t)) Q E s):
  MC X f (rU fun i=>.int (g i)):=by
 intro pins s σ H x v Q I rx h
 obtain⟨i,rfl,q⟩:=h
 obtain⟨t,rfl⟩:=rx
 exact rule i t s _ _ ⟨.int (g i),H,I.tok _,⟨_,rfl⟩,q⟩
theorem Kh:MC X (unaryOp .USub) (rU fun i=>.int (-i)):=Y8 fun _ _ _ _ _ q=>neg_int q
end
section
variable {X:Cx}{a b c:Expr}{ta tb tc:TE}{pos:Pos}
theorem EM {pins:List (Addr×Obj)}{σ:St}{H:Hp}{s:Shared}{Q:VK}{k k':Bool}(I:Inv X pins σ H s) (q:Q (.bl k) H) (e:k=k'):EP X pins σ Q (.bool k') s:=by
 subst e
 exact⟨.bl k,H,I,rfl,q⟩
theorem MH:qx X (compareOp .Lt) (J7 fun i j=>.bl (decide (i < j))):=J9 fun _ _ _ _ _ _ _ q=>lt_int q
theorem MI:qx X (compareOp .LtE) (J7 fun i j=>.bl (decide (i≤j))):=J9 fun _ _ _ _ _ _ _ q=>le_int q
theorem MJ:qx X (compareOp .Gt) (J7 fun i j=>.bl (decide (j < i))):=J9 fun _ _ _ _ _ _ _ q=>gt_int q
theorem Dl:qx X (compareOp .In) (fun x y H Q=>∃i j,x= .str i∧y= .str j∧Q (.bl (!(Builtin.Str.occurrences j i 0 j.length 1).isEmpty)) H):=by
 intro pins s σ H x y v u Q I rx ry h
 obtain⟨i,j,rfl,rfl,q⟩:=h
 obtain⟨t,rfl⟩:=rx
 obtain⟨t',rfl⟩:=ry
 exact in_str (EM I q rfl)
theorem yH:qx X (compareOp .NotIn) (fun x y H Q=>∃i j,x= .str i∧y= .str j∧Q (.bl (!(!(Builtin.Str.occurrences j i 0 j.length 1).isEmpty))) H):=by
 intro pins s σ H x y v u Q I rx ry h
 obtain⟨i,j,rfl,rfl,q⟩:=h
 obtain⟨t,rfl⟩:=rx
 obtain⟨t',rfl⟩:=ry
 exact notIn_str (EM I q rfl)
theorem qx.or {f:Value→Value→Sem Value}{r r':R2}(h:qx X f r) (h':qx X f r'):qx X f (fun x y H Q=>r x y H Q∨r' x y H Q):=by
 intro pins s σ H x y v u Q I rx ry q
 rcases q with q | q
 ·exact h pins s σ H x y v u Q I rx ry q
 ·exact h' pins s σ H x y v u Q I rx ry q
theorem EN (b:Expr){op:CmpOp}(h:op≠.In:=by decide) (h2:op≠.NotIn:=by decide):behindInMarks op b=false:=by
 have e1:(op == CmpOp.In)=false:=by cases op <;> first | rfl | exact absurd rfl h
 have e2:(op == CmpOp.NotIn)=false:=by cases op <;> first | rfl | exact absurd rfl h2
 cases b <;> simp[behindInMarks,e1,e2]
theorem Hi {op:CmpOp}{r:R2}(ho:qx X (compareOp op) r) (ha:PE X a ta) (hb:PE X b tb) (hm:behindInMarks op b=false):PE X (.Compare a [op] [b] pos) (LM r ta tb):=by
 intro pins s σ H Q I h
 exact wpAny_Compare1 (J8 ha hb I h fun v u s2 x y H2 I2 rx ry q=>ho pins s2 σ H2 x y v u Q I2 rx ry q) hm
noncomputable def IT (t:TE):TT:=fun σ H Q=>t σ H fun x H'=>∃k,x= .bl k∧Q k H'
theorem Hj {op:CmpOp}{r:R2}(ho:qx X (compareOp op) r) (ha:PE X a ta) (hb:PE X b tb) (hm:behindInMarks op b=false):PT X (.Compare a [op] [b] pos) (IT (LM r ta tb)):=by
 intro pins s σ H Q I h
 refine wpAny_isTrue_Compare1 (fq (ha pins s σ H _ I h) fun v s1 ⟨x,H1,I1,r1,q1⟩=>fq (hb pins s1 σ H1 _ I1 q1) fun u s2 ⟨y,H2,I2,r2,q2⟩=>
  fq (ho pins s2 σ H2 x y v u _ I2 r1 r2 q2) fun c s3 ⟨z,H3,I3,r3,k,e,q3⟩=>?_) hm
 subst e
 cases r3
 exact wpAny_truthy_bool ⟨H3,I3,q3⟩
noncomputable def Bp (r r':R2) (ta tb tc:TE):TE:=fun σ H Q=>ta σ H fun x H1=>tb σ H1 fun y H2=>r x y H2 fun z H3=>∃k,z= .bl k∧
 (if k=true then tc σ H3 fun w' H4=>r' y w' H4 Q else Q (.bl false) H3)
theorem EO {op op':CmpOp}{r r':R2}(ho:qx X (compareOp op) r) (ho':qx X (compareOp op') r') (ha:PE X a ta) (hb:PE X b tb) (hc:PE X c tc)
  (hm:lastMarks [op,op'] [b,c]=false:=by with_unfolding_all rfl):PE X (.Compare a [op,op'] [b,c] pos) (Bp r r' ta tb tc):=by
 intro pins s σ H Q I h
 refine Compare_chain (fq (ha pins s σ H _ I h) fun v s1 ⟨x,H1,I1,r1,q1⟩=>chain_link (fq (hb pins s1 σ H1 _ I1 q1) fun u s2 ⟨y,H2,I2,r2,q2⟩=>
  fq (ho pins s2 σ H2 x y v u _ I2 r1 r2 q2) fun d s3 ⟨z,H3,I3,r3,k,e,q3⟩=>?_)) hm
 subst e
 cases r3
 refine wpAny_truthy_bool ?_
 cases k with
 | false=>exact ite_ff ⟨.bl false,H3,I3,rfl,q3⟩
 | true=>exact ite_tt (chain_last (fq (hc pins s3 σ H3 _ I3 q3) fun w' s4 ⟨z',H4,I4,r4,q4⟩=>ho' pins s4 σ H4 y z' u w' Q I4 r2 r4 q4))
theorem ER {op op':CmpOp}{r r':R2}(ho:qx X (compareOp op) r) (ho':qx X (compareOp op') r') (ha:PE X a ta) (hb:PE X b tb) (hc:PE X c tc)
  (hm:lastMarks [op,op'] [b,c]=false:=by with_unfolding_all rfl):PT X (.Compare a [op,op'] [b,c] pos) (IT (Bp r r' ta tb tc)):=by
 intro pins s σ H Q I h
 refine isTrue_chain (fq (ha pins s σ H _ I h) fun v s1 ⟨x,H1,I1,r1,q1⟩=>test_link (fq (hb pins s1 σ H1 _ I1 q1) fun u s2 ⟨y,H2,I2,r2,q2⟩=>
  fq (ho pins s2 σ H2 x y v u _ I2 r1 r2 q2) fun d s3 ⟨z,H3,I3,r3,k,e,q3⟩=>?_)) hm
 subst e
 cases r3
 refine wpAny_truthy_bool ?_
 cases k with
 | false=>
  obtain⟨k',e',q'⟩:=q3
  cases e'
  exact ite_ff ⟨H3,I3,q'⟩
 | true=>
  refine ite_tt (test_last (fq (hc pins s3 σ H3 _ I3 q3) fun w' s4 ⟨z',H4,I4,r4,q4⟩=>fq (ho' pins s4 σ H4 y z' u w' _ I4 r2 r4 q4) fun d' s5 ⟨z2,H5,I5,r5,k2,e2,q5⟩=>?_))
  subst e2
  cases r5
  exact wpAny_truthy_bool ⟨H5,I5,q5⟩
theorem rS:(sizeLine:Nat) < 2 ^ 63:=by rw[sizeLine_eq];decide
theorem Bq:qx X (binaryOp .Add) (fun x y H Q=>∃i j,x= .str i∧y= .str j∧i.length+j.length≤sizeLine∧Q (.str (i++j)) H):=by
 intro pins s σ H x y v u Q I rx ry h
 obtain⟨i,j,rfl,rfl,hz,q⟩:=h
 obtain⟨t,rfl⟩:=rx
 obtain⟨t',rfl⟩:=ry
 exact add_str (fun t' tk=>⟨.str (i++j),H,I.tok _,⟨_,rfl⟩,q⟩) hz
theorem vals1 {x:V}{us:List Value}(r:Vals [x] us):∃u,us=[u]∧RelV x u:=by
 cases r with
 | cons r1 r2=>cases r2;exact⟨_,rfl,r1⟩
theorem vals2 {x y:V}{us:List Value}(r:Vals [x,y] us):∃u w',us=[u,w']∧RelV x u∧RelV y w':=by
 cases r with
 | cons r1 r2=>
  cases r2 with
  | cons r3 r4=>cases r4;exact⟨_,_,rfl,r1,r3⟩
theorem Dm (hc:X.calm=true):jf X (.builtin "max") (fun xs H Q=>∃i j,xs=[.int i,.int j]∧Q (.int (if j > i then j else i)) H):=by
 intro pins s σ H xs us Q I r h
 obtain⟨i,j,rfl,q⟩:=h
 obtain⟨u,w',rfl,⟨t,rfl⟩,⟨t',rfl⟩⟩:=vals2 r
 refine max_two_ints (I.ok.hd hc) fun h' tk k=>⟨_,H,I.kept k,?_,q⟩
 by_cases hj:j > i
 ·rw[if_pos hj,if_pos hj];exact⟨_,rfl⟩
 ·rw[if_neg hj,if_neg hj];exact⟨_,rfl⟩
end
end L2
namespace L2
open PySem PySem.Spec PyProof.Rows
section
variable {prog:Program}{w:World}{A:Around}{E:Value→Shared→Prop}{s:Shared}{K:PySem.W.Frag}{x dx C f:Addr}{mA:Str→Option Value}{name:Str}{v:Value}
end
theorem uq.some_of {v:V}{o:Option Value}(r:uq (some v) o):∃u,o=some u∧RelV v u:=by
 cases o with
 | none=>exact(show False from r).elim
 | some u=>exact⟨u,rfl,r⟩
section
variable {P:Program}{w:World}{H H':Hp}{h h':Heap}{a C dx:Addr}{fs fs':List (Str×V)}
end
structure Ri (K:PySem.W.Frag) (C:Addr):Prop where
 pg:PySem.W.plainGet K C Str.empty=true
 hd:PySem.W.hasDictIn K C=true
 po:PySem.W.plainOver K C=true
 sa:PySem.W.findIn K (.ref C) "__setattr__" =some (some (.builtin "object.__setattr__"))
theorem Ri.get {K:PySem.W.Frag}{C:Addr}(c:Ri K C) (f:Str):PySem.W.plainGet K C f=true:=c.pg
section
variable {X:Cx}{pins:List (Addr×Obj)}{σ:St}{H:Hp}{s:Shared}{a C dx:Addr}{fs:List (Str×V)}{f:Str}{v:V}{A:Around}{E:Value→Shared→Prop}
end
section
variable {X:Cx}{o e value:Expr}{f:Str}{pos pos' tpos:Pos}{ta tv:TE}
end
section
variable {X:Cx}{pins:List (Addr×Obj)}{σ:St}{H:Hp}{s:Shared}{A:Around}{E:Value→Shared→Prop}{Q:Value→Shared→Prop}{c:Value}{b:Bool}
inductive uv (K:PySem.W.Frag) (H:Hp):V→Value→Prop where
 | cH:uv K H .cH (.type "NoneType")
 | bl (x:Bool):uv K H (.bl x) (.type "bool")
 | int (i:Int):uv K H (.int i) (.type "int")
 | str (x:Str):uv K H (.str x) (.type "str")
 | flt (x:UInt64):uv K H (.flt x) (.type "float")
 | lst {a:Addr}{xs:List V}(e:H a=some (.lst xs)):uv K H (.ref a) (.type "list")
 | j3 {a:Addr}{o:Obj}{xs:List V}(e:H a=some (.j3 o (.lst xs))):uv K H (.ref a) (.type "list")
 | tup {a:Addr}{xs:List V}(e:H a=some (.tup xs)):uv K H (.ref a) (.type "tuple")
 | dK {a:Addr}{kvs:List (Key×V)}(e:H a=some (.dK kvs)):uv K H (.ref a) (.type "dict")
 | dT {a:Addr}{kvs:List (List Key×V)}(e:H a=some (.dT kvs)):uv K H (.ref a) (.type "dict")
 | ins {a C dx:Addr}{fs:List (Str×V)}(e:H a=some (.ins C dx fs)) (cl:Ri K C) (ha:PySem.W.findIn K (.ref C) "__class__" =some (some (.builtin "object.__class__")))
   (hn:PySem.W.specialIn K (.builtin "object.__class__") "__get__" =some (some (.builtin "getset_descriptor.__get__"))) (htk:PySem.W.takesIn K (.builtin "object.__class__")=some true)
   (hm:PySem.W.mroIn K C (.type "object")=some true):uv K H (.ref a) (.ref C)
end
end L2
namespace L2
open PySem PySem.Spec PyProof.Rows
structure jW (k:Nat) (A:Around):Prop where
 hd:A.handled=none
 dp:A.depth+3 * k+5 < recursionLimit
 un:A.units+16 * k+200 < cLine
 gd:A.guards=some []
theorem jW.mono {j k:Nat}{A:Around}(r:jW k A) (h:j≤k):jW j A:=⟨r.hd,by have:=r.dp;omega,by have:=r.un;omega,r.gd⟩
theorem jW.deeper {k:Nat}{A:Around}(r:jW (k+1) A) (env:Env):jW k (A.deeper env):=
 ⟨r.hd,by have:=r.dp;show A.depth+1+3 * k+5 < _;omega,by have:=r.un;show A.units+3+16 * k+200 < _;omega,r.gd⟩
theorem jW.in1 {k:Nat}{A:Around}(r:jW (k+1) A):jW k A.in1:=
 ⟨r.hd,by have:=r.dp;show A.depth+3 * k+5 < _;omega,by have:=r.un;show A.units+1+16 * k+200 < _;omega,r.gd⟩
theorem jW.depth {k:Nat}{A:Around}(r:jW k A):A.depth < recursionLimit:=by have:=r.dp;omega
theorem jW.units {k:Nat}{A:Around}(r:jW k A):A.units+64 < cLine:=by have:=r.un;omega
noncomputable def Kl:TA:=fun _ H Q=>Q [] H
noncomputable def IU (ta:TE) (tr:TA):TA:=fun σ H Q=>ta σ H fun x H1=>tr σ H1 fun xs H2=>Q (x :: xs) H2
section
variable {X:Cx}{e:Expr}{es:List Expr}{te:TE}{t:TA}{pos:Pos}
theorem yI:PA X [] Kl:=fun _ _ _ _ H Q I h=>Calls.spliced_nil ⟨[],H,I,.nil,h⟩
theorem pA (ha:PE X e te) (hr:PA X es t) (hs:starEach (e :: es) X.env=(false,eval e X.env) :: starEach es X.env:=by rfl):PA X (e :: es) (IU te t):=by
 intro pos pins s σ H Q I h
 rw[hs]
 show wpAny _ _ (spliced ((false,eval e X.env) :: backTo pos (starEach es X.env))) _ _ s
 refine Calls.spliced_cons (fq (ha pins s σ H _ I h) fun u s1 ⟨x,H1,I1,r1,q1⟩=>?_)
 exact fq (hr pos pins s1 σ H1 _ I1 q1) fun us s2 ⟨xs,H2,I2,r2,q2⟩=>⟨x :: xs,H2,I2,.cons r1 r2,q2⟩
noncomputable def Rj (t:TA):TE:=fun σ H Q=>t σ H fun xs H1=>xs.length≤sizeLine∧∀p,H1 p=none→Q (.ref p) (upd H1 p (.tup xs))
noncomputable def Rk (t:TA):TE:=fun σ H Q=>t σ H fun xs H1=>xs.length≤sizeLine∧∀p,H1 p=none→Q (.ref p) (upd H1 p (.lst xs))
theorem Km {x1}(h:PA X es t):PE X (.Tuple es x1 pos) (Rj t):=by
 intro pins s σ H Q I hq
 refine wpAny_Tuple_spliced (fq (h pos pins s σ H _ I hq) fun us s1 ⟨xs,H1,I1,r,z,q⟩=>⟨by rw[←r.length];exact z,?_⟩)
 have hf:H1 s1.heap.objs.size=none:=I1.hok.fresh (Nat.le_refl _)
 refine⟨.ref s1.heap.objs.size,upd H1 s1.heap.objs.size (.tup xs),I1.laid (t':=s1.toks) (fun b u e=>Heap.get?_push_of_some _ e) (Nat.le_refl _) ?_,rfl,q _ hf⟩
 exact⟨z,us,r,⟨_,Heap.get?_push_size _ rfl,rfl,_,rfl⟩⟩
theorem Kn (h:PA X es t):PE X (.List es pos) (Rk t):=by
 intro pins s σ H Q I hq
 refine wpAny_List_spliced (fq (h pos pins s σ H _ I hq) fun us s1 ⟨xs,H1,I1,r,z,q⟩=>⟨by rw[←r.length];exact z,?_⟩)
 have hf:H1 s1.heap.objs.size=none:=I1.hok.fresh (Nat.le_refl _)
 refine⟨.ref s1.heap.objs.size,upd H1 s1.heap.objs.size (.lst xs),I1.laid (t':=s1.toks) (fun b u e=>Heap.get?_push_of_some _ e) (Nat.le_refl _) ?_,rfl,q _ hf⟩
 exact⟨z,us,0,r,Heap.get?_push_size _ rfl⟩
end
noncomputable abbrev Sp:=List V→Hp→VK→XK→Prop
noncomputable abbrev Dn:=List Env→Hp→Shared→XK→Value→Shared→Prop
structure Br (P:Program) (w:World) (K:PySem.W.Frag) (mg:Str→Option Value) (base:Heap) (A:Around) (outer:List Env) (s:Shared) (H:Hp):Prop where
 frames:A.frames=some outer
 mod:Mod K mg base
 bs:∀b o,base.get? b=some o→s.heap.get? b=some o∧H b=none
 G3:base.objs.size≤s.heap.objs.size
 ur:s.heap.FunFrames base outer
 JH:∀b∈frs outer,H b=none
 hok:pK P w H s.heap
 bare:AllBare s.gens
noncomputable def CE (outer:List Env) (P:Program) (w:World) (H:Hp) (s:Shared) (Q:VK) (u:Value) (s':Shared):Prop:=
 ∃v H',s'.os=s.os∧AllBare s'.gens∧Un (frs outer) [] H H' s.heap s'.heap∧pK P w H' s'.heap∧RelV v u∧Q v H'
noncomputable def CR (CX:Dn) (outer:List Env) (P:Program) (w:World) (H:Hp) (s:Shared) (Q:VK) (E:XK) (r:Result) (s':Shared):Prop:=
 match r with
 | .ok (.ret u)=>CE outer P w H s Q u s'
 | .ok _=>False
 | .error e=>CX outer H s E e s'
structure bK (P:Program) (w:World) (K:PySem.W.Frag) (mg:Str→Option Value) (base:Heap) (CX:Dn) (k:Nat) (f:Addr) (fd:FuncData) (ps:List Str) (sp:Sp):Prop where
 len:∀vs H Q E,sp vs H Q E→vs.length=ps.length
 run:∀(A:Around) (outer:List Env) (s:Shared) (H:Hp) (args:Args) (us:List Value) (vs:List V) (Q:VK) (E:XK),jW k A→Br P w K mg base A outer s H→BindsTo s fd args (ps.zip us)→Vals vs us→sp vs H Q E→
  codeAny (model P w) A (.call (.ref f) args) (CR CX outer P w H s Q E) s
theorem bK.mono {P:Program}{w:World}{K:PySem.W.Frag}{mg:Str→Option Value}{base:Heap}{CX:Dn}{j k:Nat}{f:Addr}{fd:FuncData}{ps:List Str}{sp:Sp}(F:bK P w K mg base CX j f fd ps sp) (h:j≤k):
  bK P w K mg base CX k f fd ps sp:=⟨F.len,fun A outer s H args us vs Q E hr=>F.run A outer s H args us vs Q E (hr.mono h)⟩
theorem bK.imp {P:Program}{w:World}{K:PySem.W.Frag}{mg:Str→Option Value}{base:Heap}{CX:Dn}{k:Nat}{f:Addr}{fd:FuncData}{ps:List Str}{sp Xx:Sp}(F:bK P w K mg base CX k f fd ps sp)
  (h:∀vs H Q E,Xx vs H Q E→sp vs H Q E):bK P w K mg base CX k f fd ps Xx:=
 ⟨fun vs H Q E q=>F.len vs H Q E (h _ _ _ _ q),fun A outer s H args us vs Q E hr he hb hv hs=>F.run A outer s H args us vs Q E hr he hb hv (h _ _ _ _ hs)⟩
theorem Br.in1 {P:Program}{w:World}{K:PySem.W.Frag}{mg:Str→Option Value}{base:Heap}{A:Around}{outer:List Env}{s:Shared}{H:Hp}(e:Br P w K mg base A outer s H):
  Br P w K mg base A.in1 outer s H:=⟨e.frames,e.mod,e.bs,e.G3,e.ur,e.JH,e.hok,e.bare⟩
section
variable {X:Cx}{pins:List (Addr×Obj)}{σ:St}{H:Hp}{s s':Shared}
theorem Inv.Rl (I:Inv X pins σ H s):Br X.prog X.w X.K X.mg X.base X.A X.stack s H:=
 ⟨I.ok.frames,I.ok.mod,I.bs,Nat.le_trans I.ok.G3 I.sz,I.stack,I.Cz,I.hok,I.bare⟩
theorem Inv.after {Q:VK}{u:Value}(I:Inv X pins σ H s) (h:CE X.stack X.prog X.w H s Q u s'):EP X pins σ Q u s':=by
 obtain⟨v,H',os,bare,un,hok,r,q⟩:=h
 obtain⟨hh,g,d,t,os'⟩:=s'
 obtain rfl:os'=s.os:=os
 exact⟨v,H',I.call (h':=hh) (g':=g) (d':=d) (t':=t) (ch:=[]) un hok bare (fun b z=>absurd z (by simp)),r,q⟩
end
noncomputable def IV (sp:Sp) (GQ:List V) (E:XK) (t:TA):TE:=fun σ H Q=>t σ H fun vs H1=>sp (vs++GQ) H1 Q E
noncomputable def Binds (K:PySem.W.Frag) (fd:FuncData) (ps:List Str) (ds:List Value):Prop:=
 ∀(s:Shared) (us:List Value),K.In s.heap→(us++ds).length=ps.length→BindsTo s fd ⟨us,[]⟩ (ps.zip (us++ds))
theorem Binds.all {K:PySem.W.Frag}{fd:FuncData}{ps:List Str}(h:∀us:List Value,us.length=ps.length→bindArgs fd ⟨us,[]⟩=pure (ps.zip us)):Binds K fd ps []:=fun s us _ hl=>by
 rw[List.append_nil] at hl ⊢
 exact .of_eq (h us hl)
noncomputable def Passes (CX:Dn) (X:Cx) (E:XK):Prop:=∀(pins:List (Addr×Obj)) (σ:St) (H:Hp) (s:Shared) (e:Value) (s':Shared),Inv X pins σ H s→CX X.stack H s E e s'→X.xe e s'
section
variable {X:Cx}{CX:Dn}{k:Nat}{f C:Addr}{fd:FuncData}{ps:List Str}{sp:Sp}{GQ:List V}{ds:List Value}{E:XK}{x m:Str}{p pos apos:Pos}{e o:Expr}{es:List Expr}{ta:TE}{t:TA}
theorem ES {pins:List (Addr×Obj)}{σ:St}{H:Hp}{s:Shared}{Q:VK}{us:List Value}{vs:List V}(F:bK X.prog X.w X.K X.mg X.base CX k f fd ps sp) (hr:jW k X.A) (hb:Binds X.K fd ps ds) (hd:Vals GQ ds) (hx:Passes CX X E)
  (I:Inv X pins σ H s) (r:Vals vs us) (h:sp (vs++GQ) H Q E):wpAny (model X.prog X.w) X.A (call (.ref f) us) (EP X pins σ Q) X.xe s:=by
 have r2:Vals (vs++GQ) (us++ds):=r.append hd
 have hl:(us++ds).length=ps.length:=by rw[←r2.length];exact F.len _ _ _ _ h
 refine wpAny_call (codeAny_mono (F.run X.A X.stack s H ⟨us,[]⟩ (us++ds) (vs++GQ) Q E hr I.Rl (hb s us I.Bl hl) r2 h) fun r s' hq=>?_)
 cases r with
 | error e=>exact hx pins σ H s e s' I hq
 | ok fl=>
  cases fl with
  | ret u=>exact I.after hq
  | next=>exact False.elim hq
  | brk=>exact False.elim hq
  | cont=>exact False.elim hq
theorem Hl (F:bK X.prog X.w X.K X.mg X.base CX k f fd ps sp) (hr:jW k X.A) (hg:Gl X x) (hm:X.mg x=some (.ref f)) (hk:PySem.W.keepIn X.K (.ref f)=true) (hb:Binds X.K fd ps ds) (hd:Vals GQ ds) (hx:Passes CX X E)
  (ha:PA X (e :: es) t) (hdb:(x == ("__debug__":Str))=false:=by decide) (he:starEach (e :: es) X.env=(false,eval e X.env) :: starEach es X.env:=by rfl) (hpl:(backTo pos (starEach es X.env)).any (·.1)=false:=by rfl):
  PE X (.Call (.Name x p) (e :: es) [] pos) (IV sp GQ E t):=by
 intro pins s σ H Q I h
 refine wpAny_Call_Name_kw (yE I hg hm ?_ hdb)
 refine PySem.W.callWith_K (h₀:=X.base) I.ok.mod.QT hk (fq (ha pos pins s σ H _ I h) fun us s1 ⟨vs,H1,I1,r,q⟩=>⟨I1.Bl,?_⟩) he hpl
 exact ES F hr hb hd hx I1 r q
theorem ET (F:bK X.prog X.w X.K X.mg X.base CX k f fd ps sp) (hr:jW k X.A) (hg:Gl X x) (hm:X.mg x=some (.ref f)) (hk:PySem.W.keepIn X.K (.ref f)=true) (hb:Binds X.K fd ps ds) (hd:Vals GQ ds) (hx:Passes CX X E)
  (hdb:(x == ("__debug__":Str))=false:=by decide):PE X (.Call (.Name x p) [] [] pos) (IV sp GQ E Kl):=by
 intro pins s σ H Q I h
 refine wpAny_Call_Name_kw (yE I hg hm ?_ hdb)
 exact PySem.W.callWith_K0 I.Bl hk (ES (us:=[]) F hr hb hd hx I .nil h)
end
section
variable {X:Cx}{CX:Dn}{k:Nat}{f C:Addr}{fd:FuncData}{ps ks:List Str}{sp:Sp}{E:XK}{x m:Str}{p pos apos kpos:Pos}{e o:Expr}{es:List Expr}{kws:List Keyword}{te ta:TE}{t tk:TA}{nm:Option Str}
variable {g:List Value→List Value→List Value}{gV:List V→List V→List V}
end
structure cy (N P:List Str) (sc:Scope):Prop where
 kind:sc.kind= .function
 co:sc.isCoroutine=false
 gen:sc.isGenerator=false
 nd:N.Nodup
 pre:N.take P.length=P
 par:∀x∈P,sc.names.lookup x=some .local∨sc.names.lookup x=some .cell
 Ko:∀y∈sc.names,y.2≠.free
theorem xA {kindOf:Str→Option NameKind}{x:Str}:∀{binds:List (Str×Value)}{m:Str→Option Value},(∀v,(x,v)∉binds)→bindL kindOf binds m x=m x
 | [],_,_=>rfl
 | (n,v) :: r,m,h=>by
  unfold bindL
  rw[xA fun w hw=>h w (List.mem_cons_of_mem _ hw)]
  split
  ·have:x≠n:=by rintro rfl;exact h v List.mem_cons_self
   simp[this]
  ·rfl
theorem xB {kindOf:Str→Option NameKind}{x:Str}:∀{binds:List (Str×Value)}{m:Str→Option Value},(∀v,(x,v)∉binds)→bindC kindOf binds m x=m x
 | [],_,_=>rfl
 | (n,v) :: r,m,h=>by
  unfold bindC
  rw[xB fun w hw=>h w (List.mem_cons_of_mem _ hw)]
  split
  ·rfl
  ·have:x≠n:=by rintro rfl;exact h v List.mem_cons_self
   simp[this]
theorem xC {kindOf:Str→Option NameKind}{x:Str}{v:Value}:∀{P:List Str}{vs:List Value}{i:Nat}{m:Str→Option Value},P.Nodup→P[i]? =some x→vs[i]? =some v→kindOf x=some .local→
  bindL kindOf (P.zip vs) m x=some v
 | [],_,_,_,_,h,_,_=>by simp at h
 | _ :: _,[],_,_,_,_,h,_=>by simp at h
 | p :: P,w :: vs,0,m,nd,h1,h2,hk=>by
  simp at h1 h2;subst h1;subst h2
  show bindL kindOf ((p,w) :: P.zip vs) m p=_
  unfold bindL
  rw[xA fun v hv=>(List.nodup_cons.mp nd).1 (List.of_mem_zip hv).1,if_pos hk]
  simp
 | p :: P,w :: vs,i+1,m,nd,h1,h2,hk=>by
  show bindL kindOf ((p,w) :: P.zip vs) m x=_
  unfold bindL
  exact xC (i:=i) (List.nodup_cons.mp nd).2 (by simpa using h1) (by simpa using h2) hk
theorem xD {kindOf:Str→Option NameKind}{x:Str}{v:Value}:∀{P:List Str}{vs:List Value}{i:Nat}{m:Str→Option Value},P.Nodup→P[i]? =some x→vs[i]? =some v→kindOf x≠some .local→
  bindC kindOf (P.zip vs) m x=some v
 | [],_,_,_,_,h,_,_=>by simp at h
 | _ :: _,[],_,_,_,_,h,_=>by simp at h
 | p :: P,w :: vs,0,m,nd,h1,h2,hk=>by
  simp at h1 h2;subst h1;subst h2
  show bindC kindOf ((p,w) :: P.zip vs) m p=_
  unfold bindC
  rw[xB fun v hv=>(List.nodup_cons.mp nd).1 (List.of_mem_zip hv).1,if_neg hk]
  simp
 | p :: P,w :: vs,i+1,m,nd,h1,h2,hk=>by
  show bindC kindOf ((p,w) :: P.zip vs) m x=_
  unfold bindC
  exact xD (i:=i) (List.nodup_cons.mp nd).2 (by simpa using h1) (by simpa using h2) hk
noncomputable def start (N:List Str) (vs:List V):St:=vs.map some++List.replicate (N.length - vs.length) none
noncomputable def Bs (CX:Dn) (P:Program) (w:World) (K:PySem.W.Frag) (mg:Str→Option Value) (base:Heap) (N:List Str) (qual:Str) (scope:Scope) (f:Addr) (cd:Value) (A:Around) (outer:List Env) (s:Shared) (H:Hp) (E:XK):Cx where
 prog:=P
 w:=w
 K:=K
 mg:=mg
 base:=base
 A:=A.deeper (envOfC qual scope s.heap.objs.size f cd)
 N:=N
 s₀:=s
 H₀:=H
 env:=envOfC qual scope s.heap.objs.size f cd
 outer:=outer
 stack:=envOfC qual scope s.heap.objs.size f cd :: outer
 ex:=[]
 calm:=true
 fn:=fun _=>true
 pn:=[]
 xe:=fun e s'=>wpAny (model P w) (A.deeper (envOfC qual scope s.heap.objs.size f cd)) (leaving (envOfC qual scope s.heap.objs.size f cd) e) (fun _ s''=>CX outer H s E e s'') (fun e' s''=>CX outer H s E e' s'') s'
theorem zP {sc:Scope}{n:Nat}{x:Str}(h:sc.names.lookup x=some .cell):∃c,(cellsFrom n sc.names []).lookup x=some c:=by
 have q:=PySem.W.cellsFrom_some sc.names n [] (.inl h)
 exact Option.isSome_iff_exists.mp q
theorem Dp {CX : Dn} {P : Program} {w : World} {K : PySem.W.Frag} {mg : Str → Option Value} {base : Heap} {N ps : List Str} {qual : Str} {scope : Scope} {f : Addr} {cd : Value} {A : Around} {outer : List Env} {s s1 : Shared} {H : Hp} {E : XK} {us : List Value} {vs : List V}
    (S:cy N ps scope) (hd:A.handled=none) (e0:Br P w K mg base A outer s H) (hl:vs.length=ps.length) (r:Vals vs us)
    (x:InCallC s s.heap.objs.size (bindL (envOfC qual scope s.heap.objs.size f cd).kindOf (ps.zip us) fun _=>none) (cellsFrom (s.heap.objs.size+1) scope.names []) (bindC (envOfC qual scope s.heap.objs.size f cd).kindOf (ps.zip us) fun _=>none) s1):
    Inv (Bs CX P w K mg base N qual scope f cd A outer s H E) [] (start N vs) H s1:=by
  have hpl:ps.length≤N.length:=by have:=congrArg List.length S.pre;rw[List.length_take] at this;omega
  obtain⟨h1,tk,rfl,hk⟩:=x.done
  have MK:∀b:Addr,b∉(Bs CX P w K mg base N qual scope f cd A outer s H E).ex:=fun b z=>absurd (show b∈([]:List Addr) from z) (by simp)
  refine⟨⟨e0.mod,S.kind,rfl,rfl,Nat.le_refl _,fun y z c h1 h2=>?_,fun y hy=>?_,fun y c _ h=>?_,fun _=>hd,Around.frames_deeper e0.frames,.inr ⟨rfl,rfl⟩,fun b z=>absurd z (MK b),e0.bs,e0.G3,fun b _ _=>MK b,fun b z=>absurd z (MK b),e0.ur,e0.JH⟩,
    rfl,e0.bare,Un.kept hk,⟨_,x.toInCall.ns,fun i y v h1 h2 h3=>?_⟩,fun y c h=>⟨_,x.cell y c h⟩,e0.hok.fresh (Nat.le_refl _),fun y c h=>?_,fun p hp=>absurd (show p∈([]:List (Addr×Obj)) from hp) (by simp),e0.hok.kept hk,?_⟩
  · exact name_of_addr x.apart (PySem.mem_of_lookup h1) (PySem.mem_of_lookup h2)
  · have hy:scope.names.lookup y=some .cell∨scope.names.lookup y=some .free:=hy
    rcases hy with hy | hy
    · exact zP hy
    · exact absurd rfl (S.Ko _ (PySem.mem_of_lookup hy))
  · exact Nat.le_of_lt (x.above y c (PySem.mem_of_lookup h))
  · have hi:i < vs.length:=by
      unfold start at h2
      by_cases hi:i < vs.length
      · exact hi
      · rw[List.getElem?_append_right (by simpa using hi)] at h2
        rw[List.getElem?_replicate] at h2
        split at h2 <;> cases h2
    have ha:vs[i]? =some v:=by
      unfold start at h2
      rw[List.getElem?_append_left (by simpa using hi),List.getElem?_map] at h2
      cases e:vs[i]? with
      | none=>rw[e] at h2;cases h2
      | some a=>rw[e] at h2;cases h2;rfl
    obtain⟨u,hu,rv⟩:=r.get ha
    have hp:ps[i]? =some y:=by
      rw[←S.pre,List.getElem?_take_of_lt (by omega)];exact h1
    have Xy:ps.Nodup:=by rw[←S.pre];exact S.nd.sublist (List.take_sublist _ _)
    refine⟨u,rv,?_⟩
    rcases S.par y (List.mem_of_getElem? hp) with k | k
    · exact .inl ⟨k,xC Xy hp hu k⟩
    · obtain⟨c,e⟩:=zP (n:=s.heap.objs.size+1) k
      refine .inr ⟨.inl k,c,e,?_⟩
      have q:=x.cell y c e
      rw[xD Xy hp hu (by show scope.names.lookup y≠_;rw[k];decide)] at q
      exact q
  · exact e0.hok.fresh (Nat.le_of_lt (x.above y c (PySem.mem_of_lookup h)))
  · unfold start
    show _=N.length
    rw[List.length_append,List.length_map,List.length_replicate]
    omega
theorem ML {CX:Dn}{P:Program}{w:World}{K:PySem.W.Frag}{mg:Str→Option Value}{base:Heap}{k:Nat}{f:Addr}{name qual:Str}{params:Arguments}{body:List Stmt}{scope:Scope}{dV kV doc pm cdv ct oc:Value}{an od:Option Addr}
  {osl:Array (Option Value)}{N ps:List Str}{sp:Sp}(lk:K.lookup f=some ⟨oc,od,.func (PySem.W.fnOf name qual params body scope dV kV doc pm an cdv ct),osl⟩) (hcd:PySem.W.codeIn K cdv qual=true) (S:cy N ps scope)
  (len:∀vs H Q E,sp vs H Q E→vs.length=ps.length)
  (hbody:∀(A:Around) (outer:List Env) (s:Shared) (H:Hp) (vs:List V) (Q:VK) (E:XK),jW k (A.deeper (envOfC qual scope s.heap.objs.size f cdv))→sp vs H Q E→
   ∃t,Bf (Bs CX P w K mg base N qual scope f cdv A outer s H E) body t∧t {nx:=fun _ H'=>Q .cH H',rt:=Q} (start N vs) H):
  bK P w K mg base CX (k+1) f (PySem.W.fnOf name qual params body scope dV kV doc pm an cdv ct) ps sp:=by
 refine⟨len,fun A outer s H args us vs Q E hr e0 hb r IW=>?_⟩
 have hl:=len _ _ _ _ IW
 have KX:K.In s.heap:=e0.mod.QT.keeps fun b o e=>(e0.bs b o e).1
 have lim:s.heap.NoLimit:=e0.mod.nolimit.keeps fun b o e=>(e0.bs b o e).1
 have hkind:∀y∈ps.zip us,scope.names.lookup y.1=some .local∨(scope.names.lookup y.1=some .cell∧((cellsFrom (s.heap.objs.size+1) scope.names []).lookup y.1).isSome=true):=fun⟨n,v⟩ hy=>by
  rcases S.par n (List.of_mem_zip hy).1 with q | q
  ·exact .inl q
  ·exact .inr ⟨q,PySem.W.cellsFrom_some _ _ _ (.inl q)⟩
 refine codeAny_call_function hr.depth (KX _ _ lk) rfl S.co S.gen rfl (PySem.W.codeRec_of KX hcd) (hb _ _ _ _ ?_)
 refine wpAny_newFunctionEnv_cells S.kind hkind fun env he s1 x=>?_
 subst he
 refine⟨lim.keeps x.toInCall.keep,codeAny_func ?_⟩
 obtain⟨t,ht,hq⟩:=hbody A outer s H vs Q E (hr.deeper _) IW
 have I:Inv (Bs CX P w K mg base N qual scope f cdv A outer s H E) [] (start N vs) H s1:=Dp S hr.hd e0 hl r x
 refine wpAny_mono (ht [] s1 (start N vs) H _ I hq) (fun fl s' hs=>?_) fun e s' hs=>hs
 have fin:∀{σ':St}{H':Hp}{v:V}{u:Value},Inv (Bs CX P w K mg base N qual scope f cdv A outer s H E) [] σ' H' s'→RelV v u→Q v H'→CE outer P w H s Q u s':=
  fun {σ' H' v u} J rv q=>⟨v,H',J.os,J.bare,J.base,J.hok,rv,q⟩
 cases fl with
 | ret u=>
  obtain⟨v,σ',H',J,rv,q⟩:=hs
  exact fin J rv q
 | next=>
  obtain⟨σ',H',J,q⟩:=hs
  exact fin (v:=V.cH) (u:=Value.none) J rfl q
 | brk=>
  obtain⟨_,_,_,q⟩:=hs
  exact False.elim q
 | cont=>
  obtain⟨_,_,_,q⟩:=hs
  exact False.elim q
end L2
namespace L2
open PySem PySem.Spec PyProof.Rows
section
variable {X:Cx}{x:Str}{p pos:Pos}{e:Expr}{es:List Expr}{t:TA}{id T:String}{r:List V→Hp→VK→Prop}
noncomputable def Xz (r:List V→Hp→VK→Prop) (t:TA):TE:=fun σ H Q=>t σ H fun vs H1=>r vs H1 Q
theorem nK (hc:jf X (.builtin id) r) (hg:Gl X x) (hm:X.mg x=none) (hv:bootBuiltins x=some (.builtin id)) (ha:PA X (e :: es) t) (hn:x≠"__name__":=by decide) (hdb:(x == ("__debug__":Str))=false:=by decide)
  (he:starEach (e :: es) X.env=(false,eval e X.env) :: starEach es X.env:=by rfl) (hpl:(backTo pos (starEach es X.env)).any (·.1)=false:=by rfl):PE X (.Call (.Name x p) (e :: es) [] pos) (Xz r t):=by
 intro pins s σ H Q I h
 refine wpAny_Call_Name_kw (yF I hg hm hv ?_ hn hdb)
 exact PyProof.Rows.callWith_builtin1 (fq (ha pos pins s σ H _ I h) fun us s1 ⟨vs,H1,I1,r1,q1⟩=>hc pins s1 σ H1 vs us Q I1 r1 q1) he hpl
theorem Dq (hc:jf X (.type T) r) (hg:Gl X x) (hm:X.mg x=none) (hv:bootBuiltins x=some (.type T)) (ha:PA X (e :: es) t) (hn:x≠"__name__":=by decide) (hdb:(x == ("__debug__":Str))=false:=by decide)
  (he:starEach (e :: es) X.env=(false,eval e X.env) :: starEach es X.env:=by rfl) (hpl:(backTo pos (starEach es X.env)).any (·.1)=false:=by rfl):PE X (.Call (.Name x p) (e :: es) [] pos) (Xz r t):=by
 intro pins s σ H Q I h
 refine wpAny_Call_Name_kw (yF I hg hm hv ?_ hn hdb)
 exact PyProof.Rows.callWith_type1 (fq (ha pos pins s σ H _ I h) fun us s1 ⟨vs,H1,I1,r1,q1⟩=>hc pins s1 σ H1 vs us Q I1 r1 q1) he hpl
end
end L2
namespace L2
open PySem PySem.Spec PyProof.Rows
section
variable {κ:Type} [DecidableEq κ]
noncomputable def pZ (kvs:List (κ×V)) (k:κ):Option V:=(kvs.find? fun kv=>decide (kv.1=k)).map (·.2)
noncomputable def putK (kvs:List (κ×V)) (k:κ) (v:V):List (κ×V):=
 if(kvs.any fun kv=>decide (kv.1=k))=true then kvs.map (fun kv=>if kv.1=k then(kv.1,v) else kv) else kvs++[(k,v)]
noncomputable def IX (kvs:List (κ×V)) (k:κ):List (κ×V):=kvs.filter fun kv=>decide (kv.1≠k)
theorem qy {p:κ×V}{r:List (κ×V)}{k:κ}(e:p.1=k):pZ (p :: r) k=some p.2:=by simp[pZ,List.find?_cons,e]
theorem nL {p:κ×V}{r:List (κ×V)}{k:κ}(e:¬p.1=k):pZ (p :: r) k=pZ r k:=by simp[pZ,List.find?_cons,e]
theorem zQ (k:κ):∀kvs:List (κ×V),(kvs.any fun kv=>decide (kv.1=k))=(pZ kvs k).isSome
 | []=>rfl
 | p :: r=>by
  rw[List.any_cons]
  by_cases e:p.1=k
  ·simp only[qy e,decide_eq_true e,Bool.true_or,Option.isSome_some]
  ·rw[nL e,decide_eq_false e,Bool.false_or];exact zQ k r
theorem nM (kvs:List (κ×V)) (k:κ) (v:V):(putK kvs k v).length≤kvs.length+1:=by
 unfold putK
 split
 ·rw[List.length_map];omega
 ·rw[List.length_append,List.length_cons,List.length_nil];omega
theorem uq.Ds {o:Option V}{u:Option Value}(r:uq o u):o.isSome=u.isSome:=by
 cases o with
 | none=>cases u with
  | none=>rfl
  | some _=>exact(show False from r).elim
 | some _=>cases u with
  | none=>exact(show False from r).elim
  | some _=>rfl
theorem uq.getD {o:Option V}{u:Option Value}{d:V}{d':Value}(r:uq o u) (rd:RelV d d'):RelV (o.getD d) (u.getD d'):=by
 cases o with
 | none=>cases u with
  | none=>exact rd
  | some _=>exact(show False from r).elim
 | some _=>cases u with
  | none=>exact(show False from r).elim
  | some _=>exact r
theorem KV.val {kvs:List (κ×V)}{vs:List (κ×Value)}(r:KV kvs vs) (k:κ):uq (pZ kvs k) (valueAt vs k):=by
 unfold KV at r
 induction r with
 | nil=>exact True.intro
 | @cons p q ps qs h t ih=>
  obtain⟨h1,h2⟩:=h
  by_cases e:p.1=k
  ·have e':q.1=k:=h1.symm.trans e
   have b:valueAt (q :: qs) k=some q.2:=by simp[valueAt,List.find?_cons,e']
   rw[qy e,b];exact h2
  ·have e':¬q.1=k:=fun z=>e (h1.trans z)
   have b:valueAt (q :: qs) k=valueAt qs k:=by simp[valueAt,List.find?_cons,e']
   rw[nL e,b];exact ih
theorem KV.any {kvs:List (κ×V)}{vs:List (κ×Value)}(r:KV kvs vs) (k:κ):(kvs.any fun kv=>decide (kv.1=k))=vs.any fun kv=>decide (kv.1=k):=by
 unfold KV at r
 induction r with
 | nil=>rfl
 | cons h t ih=>rw[List.any_cons,List.any_cons,ih,h.1]
theorem KV.repl {kvs:List (κ×V)}{vs:List (κ×Value)}(r:KV kvs vs) (k:κ){y:V}{u:Value}(ry:RelV y u):
  KV (kvs.map fun kv=>if kv.1=k then(kv.1,y) else kv) (vs.map fun kv=>if kv.1=k then(kv.1,u) else kv):=by
 unfold KV at r ⊢
 induction r with
 | nil=>exact .nil
 | @cons p q ps qs h t ih=>
  rw[List.map_cons,List.map_cons]
  refine .cons ?_ ih
  obtain⟨h1,h2⟩:=h
  by_cases e:p.1=k
  ·rw[if_pos e,if_pos (h1.symm.trans e)];exact⟨h1,ry⟩
  ·rw[if_neg e,if_neg (fun z=>e (h1.trans z))];exact⟨h1,h2⟩
theorem KV.put {kvs:List (κ×V)}{vs:List (κ×Value)}(r:KV kvs vs) (k:κ){y:V}{u:Value}(ry:RelV y u):KV (putK kvs k y) (stored vs k u):=by
 unfold putK stored
 rw[r.any k]
 by_cases e:(vs.any fun kv=>decide (kv.1=k))=true
 ·rw[if_pos e,if_pos e];exact r.repl k ry
 ·rw[if_neg e,if_neg e];exact Paired.snoc r ⟨rfl,ry⟩
theorem KV.drop {kvs:List (κ×V)}{vs:List (κ×Value)}(r:KV kvs vs) (k:κ):KV (IX kvs k) (without vs k):=by
 unfold KV at r ⊢
 unfold IX without
 induction r with
 | nil=>exact .nil
 | @cons p q ps qs h t ih=>
  obtain⟨h1,h2⟩:=h
  rw[List.filter_cons,List.filter_cons]
  by_cases e:p.1=k
  ·have a:¬decide (p.1≠k)=true:=by simp[e]
   have b:¬decide (q.1≠k)=true:=by simp[h1.symm.trans e]
   rw[if_neg a,if_neg b];exact ih
  ·have e':¬q.1=k:=fun z=>e (h1.trans z)
   have a:decide (p.1≠k)=true:=by simp[e]
   have b:decide (q.1≠k)=true:=by simp[e']
   rw[if_pos a,if_pos b];exact .cons ⟨h1,h2⟩ ih
theorem KV.length {kvs:List (κ×V)}{vs:List (κ×Value)}(r:KV kvs vs):kvs.length=vs.length:=Paired.length r
end
theorem uP {P:Program}{w:World}{k:Key}{u:Value}(r:RelV (kV k) u):(cP P w).is k u=true:=by
 cases k with
 | inl i=>obtain⟨t,e⟩:=(show ∃t,u=Value.int i t from r);subst e;exact zL P w i t
 | inr x=>obtain⟨t,e⟩:=(show ∃t,u=Value.str x t from r);subst e;exact nH P w x t
theorem xE {P:Program}{w:World}:∀{ks:List Key}{us:List Value},Vals (ks.map kV) us→ItemsAre (cP P w) ks us
 | [],_,r=>by rw[List.map_nil] at r;cases r;exact .nil
 | k :: ks,_,r=>by
  rw[List.map_cons] at r
  cases r with
  | cons h t=>exact .cons (uP h) (xE t)
noncomputable abbrev KT (H:Hp):List (List Key×V)→List (List Key×Addr×Value)→Prop:=Paired fun p q=>p.1=q.1∧H q.2.1=some (.tup (p.1.map kV))∧RelV p.2 q.2.2
theorem KT.val {H:Hp}{kvs:List (List Key×V)}{xs:List (List Key×Addr×Value)}(r:KT H kvs xs) (k:List Key):uq (pZ kvs k) ((atKey xs k).map (·.2)):=by
 induction r with
 | nil=>exact True.intro
 | @cons p q ps qs h t ih=>
  obtain⟨h1,_,h2⟩:=h
  by_cases e:p.1=k
  ·have e':q.1=k:=h1.symm.trans e
   have b:atKey (q :: qs) k=some q.2:=by simp[atKey,List.find?_cons,e']
   rw[qy e,b];exact h2
  ·have e':¬q.1=k:=fun z=>e (h1.trans z)
   have b:atKey (q :: qs) k=atKey qs k:=by simp[atKey,List.find?_cons,e']
   rw[nL e,b];exact ih
theorem KT.repl {H:Hp}{kvs:List (List Key×V)}{xs:List (List Key×Addr×Value)}(r:KT H kvs xs) (k:List Key){y:V}{u:Value}(ry:RelV y u):
  KT H (kvs.map fun kv=>if kv.1=k then(kv.1,y) else kv) (xs.map (putAt k u)):=by
 induction r with
 | nil=>exact .nil
 | @cons p q ps qs h t ih=>
  rw[List.map_cons,List.map_cons]
  refine .cons ?_ ih
  obtain⟨h1,h2,h3⟩:=h
  unfold putAt
  by_cases e:p.1=k
  ·rw[if_pos e,if_pos (h1.symm.trans e)];exact⟨h1,h2,ry⟩
  ·rw[if_neg e,if_neg (fun z=>e (h1.trans z))];exact⟨h1,h2,h3⟩
theorem KT.put {H:Hp}{kvs:List (List Key×V)}{xs:List (List Key×Addr×Value)}(r:KT H kvs xs) (k:List Key){b:Addr}{y:V}{u:Value}(hb:H b=some (.tup (k.map kV))) (ry:RelV y u):
  KT H (putK kvs k y) (storedH xs k b u):=by
 have e:(kvs.any fun kv=>decide (kv.1=k))=(atKey xs k).isSome:=by
  rw[zQ,(r.val k).Ds,Option.isSome_map]
 unfold putK storedH
 rw[e]
 by_cases q:(atKey xs k).isSome=true
 ·rw[if_pos q,if_pos q];exact r.repl k ry
 ·rw[if_neg q,if_neg q];exact Paired.snoc r ⟨rfl,hb,ry⟩
theorem KT.keeps {H H':Hp}{kvs:List (List Key×V)}{xs:List (List Key×Addr×Value)}(r:KT H kvs xs) (ht:∀b ys,H b=some (.tup ys)→H' b=some (.tup ys)):KT H' kvs xs:=
 Paired.Df r fun _ _ z=>⟨z.1,ht _ _ z.2.1,z.2.2⟩
section
variable {P:Program}{w:World}{H:Hp}{h:Heap}{a:Addr}
theorem IY {u:HO}(ok:pK P w H h) (e:Rd H a u):gI P w H h a u:=e.ok ok
theorem xF {kvs:List (Key×V)}(ok:pK P w H h) (e:Rd H a (.dK kvs)):kvs.length≤sizeLine∧(a == sysModules)=false∧∃vs,KV kvs vs∧h.DictOf (cP P w) a vs:=
 show gI P w H h a (.dK kvs) from IY ok e
theorem CD {kvs:List (Key×V)}(ok:pK P w H h) (e:H a=some (.dK kvs)):kvs.length≤sizeLine∧(a == sysModules)=false∧∃vs,KV kvs vs∧h.DictOf (cP P w) a vs:=xF ok (.inl e)
theorem yJ {ks:List Key}(ok:pK P w H h) (e:H a=some (.tup (ks.map kV))):(tupleKind (cP P w)).is h ks a:=by
 obtain⟨_,its,r,o,h1,h2,n,h3⟩:=(show gI P w H h a (.tup (ks.map kV)) from ok a _ e)
 exact⟨o,its.toArray,n,h1,h2,h3,by simpa using xE r⟩
theorem zR {kvs : List (List Key × V)} (ok : pK P w H h) (e : Rd H a (.dT kvs)) : kvs.length ≤ sizeLine ∧ (a == sysModules) = false ∧
    ∃xs,KT H kvs xs∧h.DictOfH (tupleKind (cP P w)) a xs:=by
  obtain⟨z,y,xs,r,o,es,ep,h1,h2,h3,h4,h5⟩:=(show gI P w H h a (.dT kvs) from IY ok e)
  refine⟨z,y,xs,r,o,es,ep,h1,h2,h3,h4,fun x hx=>?_,h5⟩
  have all:∀{l:List (List Key×V)}{m:List (List Key×Addr×Value)},KT H l m→∀x∈m,(tupleKind (cP P w)).is h x.1 x.2.1:=by
    intro l m q
    induction q with
    | nil=>intro x hx;exact nomatch hx
    | @cons p q ps qs hq t ih=>
      intro x hx
      rcases List.mem_cons.mp hx with e | hx
      · subst e
        exact yJ ok (by rw[←hq.1];exact hq.2.1)
      · exact ih x hx
  exact all r x hx
theorem MM {kvs:List (List Key×V)}(ok:pK P w H h) (e:H a=some (.dT kvs)):kvs.length≤sizeLine∧(a == sysModules)=false∧
  ∃xs,KT H kvs xs∧h.DictOfH (tupleKind (cP P w)) a xs:=zR ok (.inl e)
end
noncomputable def pL (H:Hp) (a:Addr) (y:V) (r:Option V):Prop:=
 (∃kvs k,Rd H a (.dK kvs)∧y=kV k∧r=pZ kvs k)∨∃kvs k b,Rd H a (.dT kvs)∧y= .ref b∧H b=some (.tup (k.map kV))∧r=pZ kvs k
noncomputable def zS (H:Hp) (a:Addr) (y v:V) (H':Hp):Prop:=
 (∃kvs k,H a=some (.dK kvs)∧y=kV k∧kvs.length < sizeLine∧H'=upd H a (.dK (putK kvs k v)))∨
 ∃kvs k b,H a=some (.dT kvs)∧y= .ref b∧H b=some (.tup (k.map kV))∧kvs.length < sizeLine∧H'=upd H a (.dT (putK kvs k v))
theorem pL.k {H:Hp}{a:Addr}{kvs:List (Key×V)}{k:Key}(e:H a=some (.dK kvs)):pL H a (kV k) (pZ kvs k):=.inl ⟨kvs,k,.inl e,rfl,rfl⟩
theorem pL.t {H:Hp}{a b:Addr}{kvs:List (List Key×V)}{k:List Key}(e:H a=some (.dT kvs)) (eb:H b=some (.tup (k.map kV))):pL H a (.ref b) (pZ kvs k):=.inr ⟨kvs,k,b,.inl e,rfl,eb,rfl⟩
theorem zS.k {H:Hp}{a:Addr}{kvs:List (Key×V)}{k:Key}{v:V}(e:H a=some (.dK kvs)) (hl:kvs.length < sizeLine):zS H a (kV k) v (upd H a (.dK (putK kvs k v))):=.inl ⟨kvs,k,e,rfl,hl,rfl⟩
theorem zS.t {H:Hp}{a b:Addr}{kvs:List (List Key×V)}{k:List Key}{v:V}(e:H a=some (.dT kvs)) (eb:H b=some (.tup (k.map kV))) (hl:kvs.length < sizeLine):
  zS H a (.ref b) v (upd H a (.dT (putK kvs k v))):=.inr ⟨kvs,k,b,e,rfl,eb,hl,rfl⟩
section
variable {X:Cx}{pins:List (Addr×Obj)}{σ:St}{H:Hp}{s:Shared}{a:Addr}{y v:V}{u r:Value}{o:Option V}{A:Around}{E:Value→Shared→Prop}
theorem Inv.big (I:Inv X pins σ H s):sysModules < s.heap.objs.size:=by
 have h:mainGlobals < s.heap.objs.size:=(I.mod.glob.keeps I.bk).lt
 exact Nat.lt_trans (by decide) h
theorem Dt {Q:Value→Shared→Prop}(hu:A.units+1 < cLine) (I:Inv X pins σ H s) (g:pL H a y (some v)) (ry:RelV y u) (h:∀w' s',Inv X pins σ H s'→RelV v w'→Q w' s'):
  wpAny (model X.prog X.w) A (getItem (.ref a) u) Q E s:=by
 rcases g with⟨kvs,k,e,ey,l⟩ | ⟨kvs,k,b,e,ey,eb,l⟩
 ·subst ey
  obtain⟨z,hd,vs,rel,dd⟩:=xF I.hok e
  obtain⟨w',hw,rw'⟩:=uq.some_of (v:=v) (o:=valueAt vs k) (by rw[l];exact rel.val k)
  exact wpAny_getItem_of (uP ry) dd.mapOf hw (h w' _ (I.tok _) rw')
 ·subst ey
  cases(show u=Value.ref b from ry)
  obtain⟨z,hd,xs,rel,dd⟩:=zR I.hok e
  obtain⟨w',hw,rw'⟩:=uq.some_of (v:=v) (o:=(atKey xs k).map (·.2)) (by rw[l];exact rel.val k)
  obtain⟨p,hp,hp2⟩:=Option.map_eq_some_iff.mp hw
  refine wpAny_getItem_heap (tupleKind_room_in1 hu) (yJ I.hok eb) dd hp ?_
  rw[hp2]
  exact h w' _ (I.tok _) rw'
theorem uG {h':Heap}{t':Nat}{ob:HO}(I:Inv X pins σ H s) (mu:Mj (H a)) (hs:Heap.SameBut a s.heap h') (he:∃q,h'.get? a=some q) (new:gI X.prog X.w (upd H a ob) h' a ob):
  Inv X pins σ (upd H a ob) {s with heap:=h',toks:=t'}:=
 I.write (x:=a) (e:=a) mu (.inl rfl) (fun b q hb z=>(hs.2 b hb).trans z) he new
theorem Bt {P:Program}{w:World}{H':Hp}{h':Heap}{kvs:List (Key×V)}{vs:List (Key×Value)}(z:kvs.length≤sizeLine) (hd:(a == sysModules)=false) (rel:KV kvs vs) (dd:h'.DictOf (cP P w) a vs):
  gI P w H' h' a (.dK kvs):=⟨z,hd,vs,rel,dd⟩
theorem Du {H':Hp}{Q:Unit→Shared→Prop}(hu:A.units+1 < cLine) (I:Inv X pins σ H s) (g:zS H a y v H') (ry:RelV y u) (rv:RelV v r) (h:∀s',Inv X pins σ H' s'→Q () s'):
  wpAny (model X.prog X.w) A (setItem (.ref a) u r) Q E s:=by
 rcases g with⟨kvs,k,e,ey,l,eH⟩ | ⟨kvs,k,b,e,ey,eb,l,eH⟩
 ·subst ey eH
  obtain⟨z,hd,vs,rel,dd⟩:=CD I.hok e
  have hz:vs.length≤sizeLine:=by rw[←rel.length];exact z
  have hl:(putK kvs k v).length≤sizeLine:=by have:=nM kvs k v;omega
  refine wpAny_setItem_pairs (hsz:=hz) (uP ry) dd fun h' GR hs=>h _ ?_
  have he:∃q,h'.get? a=some q:=let⟨q,_,_,hq,_⟩:=GR;⟨q,hq⟩
  exact uG I (by rw[e];exact True.intro) hs he (Bt hl hd (rel.put k rv) GR)
 ·subst ey eH
  cases(show u=Value.ref b from ry)
  obtain⟨z,hd,xs,rel,dd⟩:=MM I.hok e
  have hz:xs.length≤sizeLine:=by rw[←Paired.length rel];exact z
  have hl:(putK kvs k v).length≤sizeLine:=by have:=nM kvs k v;omega
  refine wpAny_setItem_heap (hsz:=hz) (tupleKind_room_in1 hu) (yJ I.hok eb) dd fun h' GR hs=>h _ ?_
  obtain⟨q,es,ep,hq,h2,h3,h4,_,h5⟩:=GR
  refine uG I (by rw[e];exact True.intro) hs ⟨q,hq⟩ ⟨hl,hd,_,(rel.put k eb rv).keeps fun c ys ec=>?_,q,es,ep,hq,h2,h3,h4,h5⟩
  rw[bh (Mi ec e (fun z=>nomatch z))]
  exact ec
end
section
variable {X:Cx}{pins:List (Addr×Obj)}{σ:St}{H:Hp}{s:Shared}{a:Addr}{kvs:List (Key×V)}{k:Key}{u:Value}{A:Around}{E:Value→Shared→Prop}
theorem MN {Q:Value→Shared→Prop}(I:Inv X pins σ H s) (e:Rd H a (.dK kvs)) (h:∀t s',Inv X pins σ H s'→Q (.int kvs.length t) s'):wpAny (model X.prog X.w) A (call (.builtin "len") [.ref a]) Q E s:=by
 obtain⟨z,hd,vs,rel,dd⟩:=xF I.hok e
 refine call_len_dict hd dd (by rw[←rel.length];rw[sizeLine_eq] at z;omega) ?_
 rw[←rel.length]
 exact h _ _ (I.tok _)
end
noncomputable def Ho (i:Expr):Prop:=∀ov iv,subscripted i false ov iv=operate [ov,iv] (getItem ov iv)
theorem CF {prog:Program}{w:World}{A:Around}{E:Value→Shared→Prop}{s:Shared}{env:Env}{value slice:Expr}{pos:Pos}{T id:String}{Q:Value→Shared→Prop}
  (hl:typeLookup (.type T) "__getitem__" =pure (some (.builtin id))) (hs:Ho slice)
  (h:wpAny (model prog w) A (eval value env) (fun o s₁=>wpAny (model prog w) A (eval slice env) (fun i s₂=>s₂.TypeIs o T∧wpAny (model prog w) A (getItem o i) Q E s₂) E s₁) E s):
  wpAny (model prog w) A (eval (.Subscript value slice pos) env) Q E s:=by
 refine Subscript_ (wpAny_mono h (fun o s₁ h₁=>wpAny_mono h₁ (fun i s₂ h₂=>?_) fun _ _ x=>x) fun _ _ x=>x)
 obtain⟨hT,h₂⟩:=h₂
 unfold subscriptTail
 refine wpAny_bind ?_
 rw[getitemInPython_of_ne hT.not_modules]
 refine wpAny_bind (wpAny_specialOf hT hl ?_)
 have fin:wpAny (model prog w) A (subscripted slice false o i) (fun r s₃=>wpAny (model prog w) A (letTemporaryGo value o r >>= fun _=>pure r) Q E s₃) E s₂:=by
  rw[hs o i]
  exact wpAny_operating (wpAny_mono h₂ (fun r s₃ h₃=>wpAny_bind (wpAny_letTemporaryGo (wpAny_pure h₃))) fun _ _ x=>x)
 first
  | exact wpAny_pure (wpAny_bind fin)
  | exact wpAny_bind (wpAny_pure (wpAny_bind fin))
  | exact wpAny_bind fin
theorem zT {X:Cx}{pins:List (Addr×Obj)}{σ:St}{H:Hp}{s:Shared}{a:Addr}{y:V}{o:Option V}(I:Inv X pins σ H s) (g:pL H a y o):s.TypeIs (.ref a) "dict":=by
 rcases g with⟨kvs,k,e,_,_⟩ | ⟨kvs,k,b,e,_,_,_⟩
 ·obtain⟨_,_,vs,_,dd⟩:=xF I.hok e
  exact dd.typeIs
 ·obtain⟨_,_,xs,_,dd⟩:=zR I.hok e
  exact dd.typeIs
noncomputable def MP (td ty:TE):TE:=fun σ H Q=>td σ H fun x H1=>ty σ H1 fun y H2=>∃a v,x= .ref a∧pL H2 a y (some v)∧Q v H2
noncomputable def MQ (td ty tv:TE):TS:=fun D σ H=>tv σ H fun v H1=>td σ H1 fun x H2=>ty σ H2 fun y H3=>∃a H4,x= .ref a∧zS H3 a y v H4∧D.nx σ H4
section
variable {X:Cx}{o i e value:Expr}{pos pos' tpos:Pos}{td ty tv:TE}
theorem CG (hu:X.A.units+1 < cLine) (ho:PE X o td) (hi:PE X i ty) (hs:Ho i):PE X (.Subscript o i pos) (MP td ty):=by
 intro pins s σ H Q I h
 refine CF PySem.F.slot_dict_getitem.lookup hs (fq (ho pins s σ H _ I h) fun u s1 ⟨x,H1,I1,rx,q1⟩=>fq (hi pins s1 σ H1 _ I1 q1) fun iv s2 ⟨y,H2,I2,ry,a,v,ex,g,q2⟩=>?_)
 subst ex
 obtain rfl:u=Value.ref a:=rx
 exact⟨zT I2 g,Dt hu I2 g ry fun w' s3 I3 rw'=>⟨v,H2,I3,rw',q2⟩⟩
theorem CH (hu:X.A.units+1 < cLine) (ho:PE X o td) (hi:PE X i ty) (hv:PE X value tv) (hs:swapsWith value (some (.Subscript o i pos')) pos.line X.env=pure false):
  PS X (.Assign [.Subscript o i pos'] value pos) (MQ td ty tv):=by
 intro pins s σ H D I h
 refine wpAny_Assign_Subscript (fq (hv pins s σ H _ I h) fun r s1 ⟨v,H1,I1,rv,q1⟩=>fq (ho pins s1 σ H1 _ I1 q1) fun u s2 ⟨x,H2,I2,rx,q2⟩=>fq (hi pins s2 σ H2 _ I2 q2) fun iv s3 ⟨y,H3,I3,ry,a,H4,ex,g,q3⟩=>?_) hs
 subst ex
 obtain rfl:u=Value.ref a:=rx
 exact Du hu I3 g ry rv fun s4 I4=>⟨σ,H4,I4,q3⟩
end
theorem EU {P:Program}{w:World}{H:Hp}(h:Heap) (hb:sysModules < h.objs.size):gI P w H (h.push {cls:=.type "dict",data:=.dict #[]}) h.objs.size (.dK []):=
 ⟨Nat.zero_le _,beq_eq_false_iff_ne.mpr (Ne.symm (Nat.ne_of_lt hb)),[],.nil,Heap.DictOf.new h⟩
section
variable {X:Cx}{pos:Pos}
end
noncomputable def uQ:List (TE×TE)→St→Hp→(List (V×V)→Hp→Prop)→Prop
 | [],_,H,Q=>Q [] H
 | (tk,tv) :: r,σ,H,Q=>tk σ H fun x H1=>tv σ H1 fun y H2=>uQ r σ H2 fun ps H3=>Q ((x,y) :: ps) H3
noncomputable abbrev VV:List (V×V)→List (Value×Value)→Prop:=Paired fun p q=>RelV p.1 q.1∧RelV p.2 q.2
noncomputable def MR (X:Cx) (pos:Pos) (keys:List (Option Expr)) (values:List Expr) (Hq:List (TE×TE)):Prop:=
 ∀(pins:List (Addr×Obj)) (s:Shared) (σ:St) (H:Hp) (Q:List (V×V)→Hp→Prop),Inv X pins σ H s→uQ Hq σ H Q→
  wpAny (model X.prog X.w) X.A (evalPairs (pairTrees keys values X.env pos)) (fun vs s'=>∃ps H',Inv X pins σ H' s'∧VV ps vs∧Q ps H') X.xe s
theorem Hr {X:Cx}{pos:Pos}:MR X pos [] [] []:=fun pins s σ H Q I h=>pairTrees_nil_walk ⟨[],H,I,.nil,h⟩
theorem EV {X:Cx}{pos:Pos}{k v:Expr}{ks:List (Option Expr)}{vs:List Expr}{tk tv:TE}{Hq:List (TE×TE)}(hk:PE X k tk) (hv:PE X v tv) (hr:MR X pos ks vs Hq):
  MR X pos (some k :: ks) (v :: vs) ((tk,tv) :: Hq):=fun pins s σ H Q I h=>
 pairTrees_cons_walk (fq (hk pins s σ H _ I h) fun u s1 ⟨x,H1,I1,rx,q1⟩=>fq (hv pins s1 σ H1 _ I1 q1) fun w2 s2 ⟨y,H2,I2,ry,q2⟩=>
  fq (hr pins s2 σ H2 _ I2 q2) fun ws s3 ⟨ps,H3,I3,rel,q3⟩=>⟨(x,y) :: ps,H3,I3,.cons ⟨rx,ry⟩ rel,q3⟩)
noncomputable def kr (kvs more:List (Key×V)):List (Key×V):=more.foldl (fun acc kv=>putK acc kv.1 kv.2) kvs
theorem KV.merge:∀{more:List (Key×V)}{rs:List (Key×Value)}{kvs:List (Key×V)}{vs:List (Key×Value)},KV more rs→KV kvs vs→KV (kr kvs more) (merged vs rs):=by
 intro more rs kvs vs r
 unfold KV at r
 induction r generalizing kvs vs with
 | nil=>intro q;exact q
 | @cons p q ps qs h t ih=>
  intro r0
  have e:KV (putK kvs p.1 p.2) (stored vs q.1 q.2):=by
   have:=r0.put p.1 h.2
   rw[←h.1];exact this
  exact ih e
theorem lq:∀(more kvs:List (Key×V)),(kr kvs more).length≤kvs.length+more.length
 | [],kvs=>by show kvs.length≤kvs.length+0;omega
 | p :: r,kvs=>by
  have h1:=lq r (putK kvs p.1 p.2)
  have h2:=nM kvs p.1 p.2
  show(kr (putK kvs p.1 p.2) r).length≤_
  rw[List.length_cons];omega
theorem uR {P:Program}{w:World}:∀{kvs:List (Key×V)}{ws:List (Value×Value)},VV (kvs.map fun kv=>(kV kv.1,kv.2)) ws→∃rs,Carries (cP P w) ws rs∧KV kvs rs
  | [],_,r=>by rw[List.map_nil] at r;cases r;exact⟨[],True.intro,.nil⟩
  | p :: kvs, _, r => by
    rw[List.map_cons] at r
    cases r with
    | @cons a b as bs h t=>
      obtain⟨rs,c,q⟩:=uR (P:=P) (w:=w) t
      obtain⟨b1,b2⟩:=b
      exact⟨(p.1,b2) :: rs,⟨uP h.1,rfl,c⟩,.cons ⟨rfl,h.2⟩ q⟩
noncomputable def MS (Hq:List (TE×TE)):TE:=fun σ H Q=>∀p,H p=none→uQ Hq σ (upd H p (.dK [])) fun ps H2=>H2 p=some (.dK [])∧∃kvs:List (Key×V),ps=kvs.map (fun kv=>(kV kv.1,kv.2))∧kvs.length≤15∧Q (.ref p) (upd H2 p (.dK (kr [] kvs)))
theorem Hs {X:Cx}{pos:Pos}{keys:List (Option Expr)}{values:List Expr}{Hq:List (TE×TE)}(h:MR X pos keys values Hq) (hall:keys.all (·.isSome)=true) (hl:keys.length=values.length) (h0:keys≠[])
  (Rm:keys.length≤15):PE X (.Dict keys values pos) (MS Hq):=by
 intro pins s σ H Q I q
 have hn:=I.hok.fresh (Nat.le_refl s.heap.objs.size)
 have I1:=I.laid (a:=s.heap.objs.size) (o:=.dK []) (h':=s.heap.push {cls:=.type "dict",data:=.dict #[]}) (t':=s.toks) (fun _ _ q=>Heap.get?_push_of_some _ q) (Nat.le_refl _) (EU s.heap I.big)
 refine wpAny_Dict_walk (knd:=cP X.prog X.w) hall hl h0 Rm (fq (h pins _ σ _ _ I1 (q _ hn)) fun ws s2 ⟨ps,H2,I2,rel,e,kvs,ep,lk,q2⟩=>?_)
 subst ep
 obtain⟨rs,c,rk⟩:=uR (P:=X.prog) (w:=X.w) rel
 obtain⟨z,hd,XA,r0,dd⟩:=CD I2.hok e
 cases r0
 refine⟨rs,c,dd,fun h' GR hs=>⟨.ref s.heap.objs.size,_,?_,rfl,q2⟩⟩
 have hz:(kr [] kvs).length≤sizeLine:=by
  have h1:=lq kvs []
  rw[List.length_nil] at h1
  rw[sizeLine_eq];omega
 have he:∃q,h'.get? s.heap.objs.size=some q:=let⟨q,_,_,hq,_⟩:=GR;⟨q,hq⟩
 exact uG I2 (by rw[e];exact True.intro) hs he (Bt hz hd (rk.merge .nil) GR)
structure M1 (X:Cx) (o:Expr) (m:Str) (apos:Pos) (e:Expr) (cpos:Pos):Prop where
 base:attributeBase o m X.env (eval o X.env)=eval o X.env
 few:((backTo cpos (starEach [e] X.env)).all (fun x=>!x.1) && (backToKw cpos (keywordEach [] X.env)).all (fun x=>x.1.isSome)
  && decide (([e]:List Expr).length+([]:List Keyword).length+(if([]:List Keyword).isEmpty then 0 else 1) < 30))=true
 line:(apos.endLine == cpos.line)=true
 trees:backTo cpos (starEach [e] X.env)=[(false,eval e X.env)]
structure M2 (X:Cx) (o:Expr) (m:Str) (apos:Pos) (e f:Expr) (cpos:Pos):Prop where
 base:attributeBase o m X.env (eval o X.env)=eval o X.env
 few:((backTo cpos (starEach [e,f] X.env)).all (fun x=>!x.1) && (backToKw cpos (keywordEach [] X.env)).all (fun x=>x.1.isSome)
  && decide (([e,f]:List Expr).length+([]:List Keyword).length+(if([]:List Keyword).isEmpty then 0 else 1) < 30))=true
 line:(apos.endLine == cpos.line)=true
 trees:backTo cpos (starEach [e,f] X.env)=[(false,eval e X.env),(false,eval f X.env)]
noncomputable def Ph (H:Hp) (a:Addr):Prop:=(∃kvs,Rd H a (.dK kvs))∨∃kvs,Rd H a (.dT kvs)
theorem EW {X:Cx}{pins:List (Addr×Obj)}{σ:St}{H:Hp}{s:Shared}{a:Addr}(I:Inv X pins σ H s) (d:Ph H a):
  s.TypeIs (.ref a) "dict"∧(∀b,Value.ref a= .ref b→∃ob,s.heap.get? b=some ob∧ob.dict=none)∧(a == sysModules)=false:=by
 rcases d with⟨kvs,e⟩ | ⟨kvs,e⟩
 ·obtain⟨_,hd,vs,_,dd⟩:=xF I.hok e
  refine⟨dd.typeIs,fun b q=>?_,hd⟩
  cases q
  obtain⟨ob,_,_,h1,h2,_⟩:=dd
  exact⟨ob,h1,h2.2.1⟩
 ·obtain⟨_,hd,xs,_,dd⟩:=zR I.hok e
  refine⟨dd.typeIs,fun b q=>?_,hd⟩
  cases q
  obtain⟨ob,_,_,h1,h2,_⟩:=dd
  exact⟨ob,h1,h2.2.1⟩
section
variable {X:Cx}{pins:List (Addr×Obj)}{σ:St}{H:Hp}{s:Shared}{a:Addr}{y d:V}{u r:Value}{o:Option V}{A:Around}{E:Value→Shared→Prop}
theorem Kp {Q:Value→Shared→Prop}(hu:A.units+1 < cLine) (I:Inv X pins σ H s) (g:pL H a y o) (ry:RelV y u) (rd:RelV d r) (h:∀w' s',Inv X pins σ H s'→RelV (o.getD d) w'→Q w' s'):
  wpAny (model X.prog X.w) A (call (.builtin "dict.get") [.ref a,u,r]) Q E s:=by
 rcases g with⟨kvs,k,e,ey,l⟩ | ⟨kvs,k,b,e,ey,eb,l⟩
 ·subst ey
  obtain⟨z,hd,vs,rel,dd⟩:=xF I.hok e
  refine call_meetsIn PySem.F.slot_dict_get dd.typeIs PySem.F.entry_dict_get (PySem.F.args_dict_get_3 _ _ _) (meets_dict_get_default (cP X.prog X.w) a (uP ry) hd r) ⟨_,dd.mapOf,h _ _ (I.tok _) ?_⟩
  rw[l]
  exact(rel.val k).getD rd
 ·subst ey
  cases(show u=Value.ref b from ry)
  obtain⟨z,hd,xs,rel,dd⟩:=zR I.hok e
  refine call_meetsIn PySem.F.slot_dict_get dd.typeIs PySem.F.entry_dict_get (PySem.F.args_dict_get_3 _ _ _) (meetsH_dict_get_default (tupleKind (cP X.prog X.w)) a b hd r) ⟨tupleKind_room_in1 hu,k,xs,yJ I.hok eb,dd,h _ _ (I.tok _) ?_⟩
  rw[l]
  exact(rel.val k).getD rd
end
noncomputable def Kq (td ty tx:TE):TE:=fun σ H Q=>td σ H fun x H1=>∃a,x= .ref a∧Ph H1 a∧ty σ H1 fun y H2=>tx σ H2 fun z H3=>∃o,pL H3 a y o∧Q (o.getD z) H3
section
variable {X:Cx}{o e f:Expr}{apos cpos:Pos}{td ty tx:TE}
theorem EX (hu:X.A.units+1 < cLine) (ho:PE X o td) (he:PE X e ty) (hf:PE X f tx) (m:M2 X o "get" apos e f cpos):PE X (.Call (.Attribute o "get" apos) [e,f] [] cpos) (Kq td ty tx):=by
 intro pins s σ H Q I h
 refine wpAny_Call_method m.base m.few m.line PySem.F.plainAttrs_dict PySem.F.slot_dict_get PySem.F.type_dict_get (fq (ho pins s σ H _ I h) fun u s1 ⟨x,H1,I1,rx,a,ex,d,q1⟩=>?_)
 subst ex
 obtain rfl:u=Value.ref a:=rx
 obtain⟨t1,t2,_⟩:=EW I1 d
 refine⟨t1,t2,?_⟩
 rw[m.trees]
 refine Calls.callWith_builtin rfl (Calls.evalArgs_plain (Calls.spliced_cons (fq (he pins s1 σ H1 _ I1 q1) fun iv s2 ⟨y,H2,I2,ry,q2⟩=>
  Calls.spliced_cons (fq (hf pins s2 σ H2 _ I2 q2) fun fv s3 ⟨z,H3,I3,rz,ov,g,q3⟩=>Calls.spliced_nil ?_))))
 exact Kp hu I3 g ry rz fun w' s4 I4 rw'=>⟨_,H3,I4,rw',q3⟩
end
section
variable {X:Cx}{pins:List (Addr×Obj)}{σ:St}{H:Hp}{s:Shared}{a:Addr}{kvs:List (Key×V)}{A:Around}{E:Value→Shared→Prop}
end
section
variable {X:Cx}{pins:List (Addr×Obj)}{σ:St}{H:Hp}{s:Shared}{a:Addr}{y:V}{u:Value}{A:Around}{E:Value→Shared→Prop}
end
end L2
namespace HT
open PySem PyProof.Rows
section
open PySem.SeqAt
open PySem.AutoSeq1 (wpAny_loadPart')
open PySem.MeetsSeq PySem.MeetsSeq2 PySem.MeetsSeq3
end
section
variable {prog:Program}{w:World}{A:Around}{E:Value→Shared→Prop}{s:Shared}
theorem Ht {t b:Addr}{vs ws:List Value}{Q:Value→Shared→Prop}(ht:IsTup s.heap t vs.toArray) (hb:IsTup s.heap b ws.toArray) (hv:vs≠[])
  (h1:ws=[]→Q (.ref t) s) (h2:ws≠[]→Q (.ref s.heap.objs.size) {s with heap:=s.heap.push {cls:=.type "tuple",data:=.seq (vs++ws).toArray}})
  (hsz:vs.length+ws.length≤sizeLine):wpAny (model prog w) A (binaryOp .Add (.ref t) (.ref b)) Q E s:=by
 obtain⟨⟨cls,dd,data,sl⟩,ho,hc,n,hd⟩:=id ht
 obtain⟨⟨Rn,dd2,data2,sl2⟩,ho2,hc2,n2,hd2⟩:=id hb
 simp only at hc hd hc2 hd2
 subst hc hd hc2 hd2
 have e:vs.toArray++ws.toArray=(vs++ws).toArray:=by simp
 by_cases hw:ws=[]
 ·exact concat_meets ⟨_,ho,rfl⟩ ⟨_,ho2,rfl⟩ noFill_tuple_add seq_tuple_add PySem.F.slot_tuple_add PySem.F.entry_tuple_add (PySem.F.args_tuple_add_2 _ _)
   (tuple_addW1 t b vs.toArray ws.toArray n n2 dd dd2 sl sl2 (by simpa using hv) (by simp[hw])) ⟨ho,ho2,h1 hw⟩
 ·refine concat_meets ⟨_,ho,rfl⟩ ⟨_,ho2,rfl⟩ noFill_tuple_add seq_tuple_add PySem.F.slot_tuple_add PySem.F.entry_tuple_add (PySem.F.args_tuple_add_2 _ _)
   (tuple_addW2 t b vs.toArray ws.toArray n n2 dd dd2 sl sl2 (by simpa using hv) (by simpa using hw) (by rw[List.size_toArray,List.size_toArray];exact hsz)) ⟨ho,ho2,?_⟩
  rw[e]
  exact h2 hw
noncomputable def gH (n d:Nat):Option Int→Nat
 | none=>d
 | some v=>if v < 0 then(v+(n:Int)).toNat else min v.toNat n
theorem EY (n d:Nat):gH n d none=d:=rfl
theorem CI (n d k:Nat):gH n d (some (k:Int))=min k n:=by
 show(if(k:Int) < 0 then((k:Int)+(n:Int)).toNat else min (k:Int).toNat n)=min k n
 rw[if_neg (by omega),Int.toNat_natCast]
theorem Kr (n d:Nat) (hd:d≤n) (o:Option Int):gH n d o≤n:=by
 cases o with
 | none=>exact hd
 | some v=>
  show(if v < 0 then(v+(n:Int)).toNat else min v.toNat n)≤n
  by_cases hv:v < 0
  ·rw[if_pos hv];omega
  ·rw[if_neg hv];exact Nat.min_le_right _ _
theorem CJ (v:Int) (n d:Nat):(if v < 0 then max (v+(n:Int)) 0 else min v (n:Int))=((gH n d (some v):Nat):Int):=by
 show(if v < 0 then max (v+(n:Int)) 0 else min v (n:Int))=(((if v < 0 then(v+(n:Int)).toNat else min v.toNat n):Nat):Int)
 by_cases hv:v < 0
 ·simp only[if_pos hv];omega
 ·simp only[if_neg hv];omega
theorem Bu (lo hi:Option Int) (n:Nat):Builtin.Slice.sliceAdjust lo hi 1 (n:Int)=(((gH n 0 lo:Nat):Int),((gH n n hi:Nat):Int)):=by
 have h1:¬((1:Int) < 0):=by omega
 unfold Builtin.Slice.sliceAdjust
 simp only[h1,if_false]
 refine Prod.ext ?_ ?_
 ·cases lo with
  | none=>rfl
  | some v=>exact CJ v n 0
 ·cases hi with
  | none=>rfl
  | some v=>exact CJ v n n
theorem Bv (i j:Nat):Builtin.Slice.slicePlaces (i:Int) (j:Int) 1=j - i:=by
 unfold Builtin.Slice.slicePlaces
 have h1:(1:Int) > 0:=by omega
 simp only[h1,if_true,Int.ediv_one]
 split <;> omega
theorem uS {v:Value}{o:Option Int}{Q:Option Int→Shared→Prop}(p:IsPart v o) (h:Q o s):wpAny (model prog w) A (Builtin.Slice.slicePartIndex v) Q E s:=by
 cases p with
 | none=>exact slicePart_none h
 | int i t=>exact slicePart_int h
theorem lU {sl:Addr}{vl vu:Value}{lo hi:Option Int}{n:Nat}{Q:Int×Int×Nat→Shared→Prop}(hs:s.heap.IsSliceOf sl vl vu .none) (pl:IsPart vl lo) (pu:IsPart vu hi)
  (h:Q (((gH n 0 lo:Nat):Int),1,gH n n hi - gH n 0 lo) s):wpAny (model prog w) A (Builtin.Slice.sliceApplied (.ref sl) (pure (n:Int))) Q E s:=by
 obtain⟨os,hos,hcs,hds⟩:=id hs
 unfold Builtin.Slice.sliceApplied Builtin.Slice.sliceFields
 refine wpAny_bind (wpAny_bind (wpAny_field hos hds (x:=vl) rfl (wpAny_bind (wpAny_field hos hds (x:=vu) rfl (wpAny_bind (wpAny_field hos hds (x:=.none) rfl (wpAny_pure ?_)))))))
 refine wpAny_bind (slicePart_none ?_)
 show wpAny _ _ (if((1:Int) == 0)=true then _ else _) _ _ s
 rw[if_neg (by decide)]
 refine wpAny_bind (uS pl (wpAny_bind (uS pu (wpAny_bind (wpAny_pure ?_)))))
 show wpAny _ _ (match Builtin.Slice.sliceAdjust lo hi 1 (n:Int) with | (lo,hi)=>pure (lo,(1:Int),Builtin.Slice.slicePlaces lo hi 1)) _ _ s
 rw[Bu lo hi n]
 show wpAny _ _ (pure (((gH n 0 lo:Nat):Int),(1:Int),Builtin.Slice.slicePlaces ((gH n 0 lo:Nat):Int) ((gH n n hi:Nat):Int) 1)) _ _ s
 rw[Bv]
 exact wpAny_pure h
theorem EZ (xs:Array Value) (i k:Nat):((List.range k).filterMap fun(m:Nat)=>xs[((i:Int)+(m:Int) * 1).toNat]?).toArray=((xs.toList.drop i).take k).toArray:=by
 have e:(fun(m:Nat)=>xs[((i:Int)+(m:Int) * 1).toNat]?)=fun m=>xs[i+m]?:=by
  funext m
  have:((i:Int)+(m:Int) * 1).toNat=i+m:=by omega
  rw[this]
 rw[e]
 have:=pick_run xs i k
 rw[List.filterMap_map] at this
 have e2:((fun x=>xs[x]?) ∘ fun x=>i+x)=fun m=>xs[i+m]?:=rfl
 rw[e2] at this
 rw[this]
theorem qz {t sl:Addr}{items:Array Value}{vl vu:Value}{lo hi:Option Int}{Q:Value→Shared→Prop}(ht:IsTup s.heap t items) (hs:s.heap.IsSliceOf sl vl vu .none) (pl:IsPart vl lo) (pu:IsPart vu hi)
  (hw:¬(gH items.size 0 lo=0∧gH items.size items.size hi=items.size))
  (h:Q (.ref s.heap.objs.size) {s with heap:=s.heap.push {cls:=.type "tuple",data:=.seq ((items.toList.drop (gH items.size 0 lo)).take (gH items.size items.size hi - gH items.size 0 lo)).toArray}})
  (hsz:items.size≤sizeLine):wpAny (model prog w) A (getItem (.ref t) (.ref sl)) Q E s:=by
 have CK:sizeOk (.seq ((items.toList.drop (gH items.size 0 lo)).take (gH items.size items.size hi - gH items.size 0 lo)).toArray):=by
  show((items.toList.drop (gH items.size 0 lo)).take (gH items.size items.size hi - gH items.size 0 lo)).toArray.size≤sizeLine
  rw[List.size_toArray,List.length_take,List.length_drop,Array.length_toList]
  omega
 have hj:gH items.size items.size hi≤items.size:=Kr _ _ (Nat.le_refl _) hi
 obtain⟨os,hos,hcs,hds⟩:=id hs
 have Ro:s.TypeIs (.ref sl) "slice":=⟨os,hos,hcs⟩
 unfold getItem
 try with_reducible refine wpAny_holding ?_
 first | refine wpAny_bind (wpAny_pure ?_) | skip
 refine wpAny_bind (wpAny_sequenceKey ht.typeIs (by decide) ?_)
 refine wpAny_bind (wpAny_callSpecial?_slot (name:=Str.ofString "__getitem__") ht.typeIs PyProof.Rows.slot_tuple_getitem
  (wpAny_call_entry PyProof.Rows.slot_tuple_getitem ht.typeIs entry_tuple_getitem ?_ (args_tuple_getitem _ _)))
 show wpAny _ _ (Builtin.Tuple.tupleItemsOf (.ref t) >>= _) _ _ s
 refine wpAny_bind (tupleItemsOf_ ht ?_)
 refine wpAny_bind (wpAny_typeOf Ro ?_)
 rw[if_pos (by decide)]
 refine wpAny_bind (lU hs pl pu ?_)
 have hno:¬((((gH items.size 0 lo:Nat):Int) == 0 && (1:Int) == 1 && (gH items.size items.size hi - gH items.size 0 lo) == items.size)=true):=by
  intro q
  rw[Bool.and_eq_true,Bool.and_eq_true] at q
  have q1:((gH items.size 0 lo:Nat):Int)=0:=eq_of_beq q.1.1
  have q2:gH items.size items.size hi - gH items.size 0 lo=items.size:=eq_of_beq q.2
  exact hw ⟨by omega,by omega⟩
 show wpAny _ _ (if(((gH items.size 0 lo:Nat):Int) == 0 && (1:Int) == 1 && (gH items.size items.size hi - gH items.size 0 lo) == items.size)=true then _ else _) _ _ s
 rw[if_neg hno,EZ]
 first
  | exact wpAny_bind (m:=Builtin.Tuple.tupleExact _) (wpAny_newObj_type (wpAny_pure ⟨_,rfl,wpAny_pure h⟩) CK)
  | exact wpAny_bind (m:=Builtin.Tuple.tupleExact _) (wpAny_newObj_type (wpAny_bind (wpAny_pure (wpAny_pure ⟨_,rfl,wpAny_pure h⟩))) CK)
  | exact wpAny_bind (wpAny_bind (m:=Builtin.Tuple.tupleExact _) (wpAny_newObj_type (wpAny_pure (wpAny_pure ⟨_,rfl,wpAny_pure h⟩)) CK))
  | exact wpAny_bind (wpAny_bind (m:=Builtin.Tuple.tupleExact _) (wpAny_newObj_type (wpAny_pure ⟨_,rfl,wpAny_pure h⟩) CK))
end
end HT
namespace L2
open PySem PySem.Spec PyProof.Rows
noncomputable abbrev TO:=St→Hp→(Option Int→Hp→Prop)→Prop
noncomputable def PO (X:Cx) (e:Option Expr) (t:TO):Prop:=
 ∀(pins:List (Addr×Obj)) (s:Shared) (σ:St) (H:Hp) (Q:Option Int→Hp→Prop),Inv X pins σ H s→t σ H Q→
  wpAny (model X.prog X.w) X.A (evalPart e X.env) (fun u s'=>∃o H',Inv X pins σ H' s'∧IsPart u o∧Q o H') X.xe s
noncomputable def Hu:TO:=fun _ H Q=>Q none H
noncomputable def MT (t:TE):TO:=fun σ H Q=>t σ H fun x H1=>∃i,x= .int i∧Q (some i) H1
section
variable {X:Cx}{e:Expr}{te:TE}{lo hi:Option Expr}{tl th:TO}{pos p2:Pos}
theorem Hv:PO X none Hu:=by
 intro pins s σ H Q I h
 rw[evalPart_none]
 exact wpAny_pure ⟨none,H,I,.none,h⟩
theorem Hw (h:PE X e te):PO X (some e) (MT te):=by
 intro pins s σ H Q I hw
 rw[evalPart_some]
 refine fq (h pins s σ H _ I hw) fun u s1 ⟨x,H1,I1,r1,q1⟩=>?_
 obtain⟨i,rfl,q⟩:=q1
 obtain⟨t,rfl⟩:=r1
 exact⟨some i,H1,I1,.int i t,q⟩
noncomputable def Hx (X:Cx) (r:V→Option Int→Option Int→Hp→VK→Prop):Prop:=
 ∀(pins:List (Addr×Obj)) (s:Shared) (σ:St) (H:Hp) (x:V) (v vl vu:Value) (lo hi:Option Int) (sl:Addr) (Q:VK),Inv X pins σ H s→RelV x v→s.heap.IsSliceOf sl vl vu .none→IsPart vl lo→IsPart vu hi→r x lo hi H Q→
  ∃T id,typeLookup (.type T) "__getitem__" =pure (some (.builtin id))∧s.TypeIs v T∧wpAny (model X.prog X.w) X.A (getItem v (.ref sl)) (EP X pins σ Q) X.xe s
theorem Hx.or {r r':V→Option Int→Option Int→Hp→VK→Prop}(h:Hx X r) (h':Hx X r'):Hx X (fun x lo hi H Q=>r x lo hi H Q∨r' x lo hi H Q):=by
 intro pins s σ H x v vl vu lo hi sl Q I rx hs pl pu q
 rcases q with q | q
 ·exact h pins s σ H x v vl vu lo hi sl Q I rx hs pl pu q
 ·exact h' pins s σ H x v vl vu lo hi sl Q I rx hs pl pu q
noncomputable def Y9 (r:V→Option Int→Option Int→Hp→VK→Prop) (te:TE) (tl th:TO):TE:=fun σ H Q=>te σ H fun x H1=>tl σ H1 fun l H2=>th σ H2 fun u H3=>r x l u H3 Q
theorem zU {r:V→Option Int→Option Int→Hp→VK→Prop}(hr:Hx X r) (he:PE X e te) (hl:PO X lo tl) (hu:PO X hi th):PE X (.Subscript e (.Slice lo hi none p2) pos) (Y9 r te tl th):=by
 intro pins s σ H Q I h
 refine Subscript_ (fq (he pins s σ H _ I h) fun v s1 ⟨x,H1,I1,r1,q1⟩=>?_)
 refine wpAny_Slice (fq (hl pins s1 σ H1 _ I1 q1) fun vl s2 ⟨l,H2,I2,pl,q2⟩=>fq (hu pins s2 σ H2 _ I2 q2) fun vu s3 ⟨u,H3,I3,pu,q3⟩=>?_)
 rw[evalPart_none]
 refine wpAny_pure ?_
 have I4:Inv X pins σ H3 {s3 with heap:=s3.heap.push {cls:=.type "slice",data:=.fields #[vl,vu,.none]}}:=I3.kept (t':=s3.toks) fun b ob q=>Heap.get?_push_of_some _ q
 obtain⟨T,id,hT,ht,hg⟩:=hr pins {s3 with heap:=s3.heap.push {cls:=.type "slice",data:=.fields #[vl,vu,.none]}} σ H3 x v vl vu l u s3.heap.objs.size Q I4 r1 (Heap.IsSliceOf.new ..) pl pu q3
 show wpAny (model X.prog X.w) X.A (subscriptTail e (.Slice lo hi none p2) v (.ref s3.heap.objs.size)) (EP X pins σ Q) X.xe {s3 with heap:=s3.heap.push {cls:=.type "slice",data:=.fields #[vl,vu,.none]}}
 exact tail_any (ops:=[.ref s3.heap.objs.size,v]) ht hT hg (by with_unfolding_all rfl)
noncomputable def wC (xs:List V) (lo hi:Option Int):List V:=(xs.drop (HT.gH xs.length 0 lo)).take (HT.gH xs.length xs.length hi - HT.gH xs.length 0 lo)
theorem tM (xs:List V) (lo hi:Option Int):(wC xs lo hi).length≤xs.length:=by
 unfold wC
 rw[List.length_take,List.length_drop]
 omega
noncomputable def Rp (K:PySem.W.Frag):V→Option Int→Option Int→Hp→VK→Prop:=fun x lo hi H Q=>∃a xs,x= .ref a∧yG K H a xs∧
 ¬(HT.gH xs.length 0 lo=0∧HT.gH xs.length xs.length hi=xs.length)∧∀p,H p=none→Q (.ref p) (upd H p (.tup (wC xs lo hi)))
theorem Ks:Hx X (Rp X.K):=by
 intro pins s σ H x v vl vu lo hi sl Q I rx hs pl pu h
 obtain⟨a,xs,rfl,hx,hw,q⟩:=h
 cases rx
 obtain⟨its,r,ht,hz⟩:=I.tuple hx
 have hlen:its.toArray.size=xs.length:=by rw[List.size_toArray];exact r.length.symm
 refine⟨"tuple",_,PyProof.Rows.slot_tuple_getitem.lookup,ht.typeIs,?_⟩
 refine HT.qz ht hs pl pu (by rw[hlen];exact hw) ?_ (by rw[hlen];exact hz)
 rw[hlen]
 refine⟨.ref s.heap.objs.size,_,I.laid (t':=s.toks) (o:=.tup (wC xs lo hi)) (fun b ob q=>Heap.get?_push_of_some _ q) (Nat.le_refl _) ?_,rfl,q _ (I.hok.fresh (Nat.le_refl _))⟩
 exact⟨Nat.le_trans (tM xs lo hi) hz,_,(r.drop (HT.gH xs.length 0 lo)).take (HT.gH xs.length xs.length hi - HT.gH xs.length 0 lo),IsTup.new _ _⟩
noncomputable def MU (K:PySem.W.Frag):R2:=fun x y H Q=>∃a b xs ys,x= .ref a∧y= .ref b∧yG K H a xs∧yG K H b ys∧xs≠[]∧xs.length+ys.length≤sizeLine∧
 (ys=[]→Q (.ref a) H)∧(ys≠[]→∀p,H p=none→Q (.ref p) (upd H p (.tup (xs++ys))))
theorem Vals.yK {xs:List V}{us:List Value}(r:Vals xs us):us=[]↔xs=[]:=by
 cases r with
 | nil=>simp
 | cons _ _=>simp
theorem Hy:qx X (binaryOp .Add) (MU X.K):=by
 intro pins s σ H x y v u Q I rx ry h
 obtain⟨a,b,xs,ys,rfl,rfl,ha,hb,hx,hz,q1,q2⟩:=h
 cases rx
 cases ry
 obtain⟨its,r1,p1,_⟩:=I.tuple ha
 obtain⟨its2,r2,p2,_⟩:=I.tuple hb
 refine HT.Ht p1 p2 (fun z=>hx (r1.yK.mp z)) (fun z=>⟨.ref a,H,I,rfl,q1 (r2.yK.mp z)⟩) (fun z=>?_) (by rw[←r1.length,←r2.length];exact hz)
 refine⟨.ref s.heap.objs.size,_,I.laid (t':=s.toks) (o:=.tup (xs++ys)) (fun b ob q=>Heap.get?_push_of_some _ q) (Nat.le_refl _) ?_,rfl,q2 (fun w=>z (r2.yK.mpr w)) _ (I.hok.fresh (Nat.le_refl _))⟩
 exact⟨by rw[List.length_append];exact hz,_,r1.append r2,IsTup.new _ _⟩
end
end L2
namespace L2
open PySem PySem.Spec PyProof.Rows
noncomputable def Bg (n:Nat) (i:Int):Option Nat:=if 0≤i then(if i < n then some i.toNat else none) else if -(n:Int)≤i then some (i+n).toNat else none
noncomputable def iJ {α:Type}(xs:List α) (i:Int):Option α:=(Bg xs.length i).bind fun j=>xs[j]?
theorem CL {n:Nat}{i:Int}{j:Nat}(h:Bg n i=some j):seqIndex? i n=some j∧j < n∧-(n:Int)≤i∧i < n:=by
 unfold Bg at h
 by_cases h0:0≤i
 ·rw[if_pos h0] at h
  by_cases h1:i < n
  ·rw[if_pos h1] at h
   have e:i.toNat=j:=Option.some.inj h
   exact⟨by rw[seqIndex_of h0 h1,e],by omega,by omega,h1⟩
  ·rw[if_neg h1] at h;cases h
 ·rw[if_neg h0] at h
  by_cases h1:-(n:Int)≤i
  ·rw[if_pos h1] at h
   have e:(i+n).toNat=j:=Option.some.inj h
   exact⟨by rw[seqIndex_neg (by omega) h1,e],by omega,h1,by omega⟩
  ·rw[if_neg h1] at h;cases h
theorem yL {α:Type}{xs:List α}{i:Int}{v:α}(h:iJ xs i=some v):∃j,seqIndex? i xs.length=some j∧xs[j]? =some v∧j < xs.length∧-(xs.length:Int)≤i∧i < xs.length:=by
 unfold iJ at h
 cases e:Bg xs.length i with
 | none=>rw[e] at h;cases h
 | some j=>
  rw[e] at h
  obtain⟨h1,h2,h3,h4⟩:=CL e
  exact⟨j,h1,h,h2,h3,h4⟩
noncomputable def yM (b:Expr):Prop:=∀o i,subscripted b false o i=operate [o,i] (getItem o i)
noncomputable def E1 (X:Cx) (r:R2):Prop:=
 ∀(value slice:Expr) (pins:List (Addr×Obj)) (s:Shared) (σ:St) (H:Hp) (x y:V) (v u:Value) (Q:VK),Inv X pins σ H s→RelV x v→RelV y u→r x y H Q→
  subscripted slice false v u=operate [v,u] (getItem v u)→wpAny (model X.prog X.w) X.A (subscriptTail value slice v u) (EP X pins σ Q) X.xe s
noncomputable def Ku (X:Cx) (id:String) (r:V→List V→Hp→VK→Prop):Prop:=
 ∀(pins:List (Addr×Obj)) (s:Shared) (σ:St) (H:Hp) (x:V) (xs:List V) (v:Value) (us:List Value) (Q:VK),Inv X pins σ H s→RelV x v→Vals xs us→r x xs H Q→
  wpAny (model X.prog X.w) X.A (call (.builtin id) (v :: us)) (EP X pins σ Q) X.xe s
section
variable {X:Cx}{a b:Expr}{ta tb:TE}{pos:Pos}
theorem E1.or {r r':R2}(h:E1 X r) (h':E1 X r'):E1 X (fun x y H Q=>r x y H Q∨r' x y H Q):=by
 intro value slice pins s σ H x y v u Q I rx ry q hs
 rcases q with q | q
 ·exact h value slice pins s σ H x y v u Q I rx ry q hs
 ·exact h' value slice pins s σ H x y v u Q I rx ry q hs
theorem Ku.or {id:String}{r r':V→List V→Hp→VK→Prop}(h:Ku X id r) (h':Ku X id r'):Ku X id (fun x xs H Q=>r x xs H Q∨r' x xs H Q):=by
 intro pins s σ H x xs v us Q I rx rs q
 rcases q with q | q
 ·exact h pins s σ H x xs v us Q I rx rs q
 ·exact h' pins s σ H x xs v us Q I rx rs q
theorem E2 {r:R2}(hr:E1 X r) (ha:PE X a ta) (hb:PE X b tb) (hs:yM b):PE X (.Subscript a b pos) (LM r ta tb):=by
 intro pins s σ H Q I h
 exact Subscript_ (J8 ha hb I h fun v u s2 x y H2 I2 rx ry q=>hr a b pins s2 σ H2 x y v u Q I2 rx ry q (hs _ _))
noncomputable def MV (K:PySem.W.Frag):R2:=fun x y H Q=>∃p xs i v,x= .ref p∧y= .int i∧pQ K H p xs∧iJ xs i=some v∧Q v H
noncomputable def MW (K:PySem.W.Frag):R2:=fun x y H Q=>∃p xs i v,x= .ref p∧y= .int i∧yG K H p xs∧iJ xs i=some v∧Q v H
noncomputable def MX:R2:=fun x y H Q=>∃z i c,x= .str z∧y= .int i∧z.length≤sizeLine∧iJ z.cps.toList i=some c∧Q (.str ⟨#[c]⟩) H
theorem CM:E1 X (MV X.K):=by
 intro value slice pins s σ H x y v u Q I rx ry h hs
 obtain⟨p,xs,i,z,rfl,rfl,hq,he,q⟩:=h
 cases rx
 obtain⟨t,rfl⟩:=ry
 obtain⟨its,r,pl,hz⟩:=I.list hq
 obtain⟨j,h1,h2,h3,h4,h5⟩:=yL he
 obtain⟨w,ew,rw'⟩:=r.get h2
 have hl:=r.length
 have hn:=rS
 have fin:EP X pins σ Q w s:=⟨z,H,I,rw',q⟩
 by_cases h0:0≤i
 ·have hj:i.toNat=j:=by
   rw[seqIndex_of h0 h5] at h1
   exact Option.some.inj h1
  exact item_listR pl.isList h0 (by omega) (by rw[hj];simpa using ew) fin hs
 ·have hj:(i+(its.toArray.size:Int)).toNat=j:=by
   rw[seqIndex_neg (by omega) h4] at h1
   rw[List.size_toArray,←hl]
   exact Option.some.inj h1
  exact subscriptTail_builtinR (x:=w) pl.isList.typeIs slot_list_getitem.lookup
   (wpAny_getItem_list_neg (Q:=fun r s'=>r=w∧EP X pins σ Q r s') pl.isList (by omega) (by rw[List.size_toArray] <;> omega) (by omega) (by rw[hj];simpa using ew) ⟨rfl,fin⟩) hs
theorem E3:E1 X (MW X.K):=by
 intro value slice pins s σ H x y v u Q I rx ry h hs
 obtain⟨p,xs,i,z,rfl,rfl,hq,he,q⟩:=h
 cases rx
 obtain⟨t,rfl⟩:=ry
 obtain⟨its,r,pl,hz⟩:=I.tuple hq
 obtain⟨j,h1,h2,h3,h4,h5⟩:=yL he
 obtain⟨w,ew,rw'⟩:=r.get h2
 have hl:=r.length
 have hn:=rS
 have fin:EP X pins σ Q w s:=⟨z,H,I,rw',q⟩
 exact subscriptTail_builtinR (x:=w) pl.typeIs slot_tuple_getitem.lookup
  (getItem_tuple (j:=j) (Q:=fun r s'=>r=w∧EP X pins σ Q r s') pl (by omega) (by omega) (by rw[List.size_toArray,←hl];exact h1) (by simpa using ew) ⟨rfl,fin⟩) hs
theorem E4:E1 X MX:=by
 intro value slice pins s σ H x y v u Q I rx ry h hs
 obtain⟨z,i,c,rfl,rfl,hz,he,q⟩:=h
 obtain⟨t,rfl⟩:=rx
 obtain⟨t',rfl⟩:=ry
 obtain⟨j,h1,h2,h3,h4,h5⟩:=yL he
 have hl:z.cps.toList.length=z.length:=by simp[Str.length]
 rw[hl] at h1 h4 h5
 have hn:=rS
 exact tail_any (typeIs_str s z t) slot_str_getitem.lookup (getItem_str (c:=c) (by
  have e1:decide (i < -(2 ^ 63:Int))=false:=decide_eq_false (by omega)
  have e2:decide (i≥2 ^ 63)=false:=decide_eq_false (by omega)
  rw[e1,e2,Bool.or_false]) (by rw[h1];simpa using h2) ⟨.str ⟨#[c]⟩,H,I.tok _,⟨_,rfl⟩,q⟩) hs
noncomputable def Za (K:PySem.W.Frag):R2:=fun x y H Q=>MV K x y H Q∨MW K x y H Q∨MX x y H Q
theorem E5:E1 X (Za X.K):=CM.or (E3.or E4)
theorem Bw (its:List Value) (n j:Nat) (u:Value):Obj.mapSeq (·.setIfInBounds j u) {cls:=.type "list",data:=.seq its.toArray n}={cls:=.type "list",data:=.seq (its.set j u).toArray n}:=by
 simp[Obj.mapSeq]
theorem Inv.lst {pins:List (Addr×Obj)}{σ:St}{H:Hp}{s:Shared}{p:Addr}{xs:List V}(I:Inv X pins σ H s) (h:H p=some (.lst xs)):
  ∃(its:List Value) (n:Nat),Vals xs its∧s.heap.get? p=some {cls:=.type "list",data:=.seq its.toArray n}∧xs.length≤sizeLine:=by
 obtain⟨z,its,n,r,e⟩:=I.hok p _ h
 exact⟨its,n,r,e,z⟩
theorem Inv.Kv {pins:List (Addr×Obj)}{σ:St}{H:Hp}{s:Shared}{p:Addr}{xs ys:List V}{its its':List Value}{n n':Nat}{f:Obj→Obj}(I:Inv X pins σ H s) (h:H p=some (.lst xs))
  (ho:s.heap.get? p=some {cls:=.type "list",data:=.seq its.toArray n}) (hf:f {cls:=.type "list",data:=.seq its.toArray n}={cls:=.type "list",data:=.seq its'.toArray n'}) (r:Vals ys its') (hz:ys.length≤sizeLine) (t:Nat):
  Inv X pins σ (upd H p (.lst ys)) {s with heap:=s.heap.update p f,toks:=t}:=by
 have e:(s.heap.update p f).get? p=some {cls:=.type "list",data:=.seq its'.toArray n'}:=by
  rw[Heap.get?_update_self f ho (by rw[hf] <;> rfl),hf]
 refine I.write (x:=p) (e:=p) (by rw[h];trivial) (.inl rfl) (fun b u hb q=>(Heap.get?_update_other _ _ (Ne.symm hb)).trans q) ⟨_,e⟩ ?_
 exact⟨hz,its',n',r,e⟩
noncomputable def MY:V→V→V→Hp→(Hp→Prop)→Prop:=fun o i v H Q=>∃p xs k j,o= .ref p∧i= .int k∧H p=some (.lst xs)∧Bg xs.length k=some j∧Q (upd H p (.lst (xs.set j v)))
theorem set_list:My X MY:=by
 intro pins s σ H o i v ov iv u Q I ro ri rv h
 obtain⟨p,xs,k,j,rfl,rfl,hp,hj,q⟩:=h
 cases ro
 obtain⟨t,rfl⟩:=ri
 obtain⟨its,n,r,ho,hz⟩:=I.lst hp
 obtain⟨h1,h2,h3,h4⟩:=CL hj
 have hl:=r.length
 have hn:=rS
 have I':Inv X pins σ (upd H p (.lst (xs.set j v))) {s with heap:=s.heap.update p (Obj.mapSeq (·.setIfInBounds j u))}:=
  I.Kv hp ho (Bw its n j u) (r.set rv j) (by rw[List.length_set];exact hz) s.toks
 by_cases h0:0≤k
 ·have hk:k.toNat=j:=by
   rw[seqIndex_of h0 h4] at h1
   exact Option.some.inj h1
  exact PySem.W.ki_setAt ho h0 (by omega) (by rw[List.size_toArray,←hl];exact h4) (by rw[hk];exact⟨_,I',q⟩)
 ·have hk:(k+(its.toArray.size:Int)).toNat=j:=by
   rw[seqIndex_neg (by omega) h3] at h1
   rw[List.size_toArray,←hl]
   exact Option.some.inj h1
  exact PySem.W.ki_setBack ho (by omega) (by rw[List.size_toArray,←hl];exact h3) (by omega) (by rw[hk];exact⟨_,I',q⟩)
theorem yN (lo hi:Option Int) (n:Nat):(sliceBounds lo hi none n).1=((HT.gH n 0 lo:Nat):Int)∧(sliceBounds lo hi none n).2.1=((HT.gH n n hi:Nat):Int)∧(sliceBounds lo hi none n).2.2=1:=by
 refine⟨?_,?_,rfl⟩
 ·cases lo with
  | none=>simp[sliceBounds,HT.gH]
  | some i=>
   simp only[sliceBounds,HT.gH,Option.getD_none,show(1:Int) > 0 by decide,if_true]
   by_cases h:i < 0
   ·simp only[h,if_true] <;> omega
   ·simp only[h,if_false] <;> omega
 ·cases hi with
  | none=>simp[sliceBounds,HT.gH]
  | some i=>
   simp only[sliceBounds,HT.gH,Option.getD_none,show(1:Int) > 0 by decide,if_true]
   by_cases h:i < 0
   ·simp only[h,if_true] <;> omega
   ·simp only[h,if_false] <;> omega
theorem wF (its:List Value) (lo hi:Option Int):slicePick its.toArray lo hi none=((its.drop (HT.gH its.length 0 lo)).take (HT.gH its.length its.length hi - HT.gH its.length 0 lo)).toArray:=by
 obtain⟨h1,h2,h3⟩:=yN lo hi its.toArray.size
 unfold slicePick
 rw[h1,h2,h3]
 simp only[sliceRange_one,pick_run,List.size_toArray] <;> rfl
noncomputable def Rq (K:PySem.W.Frag):V→Option Int→Option Int→Hp→VK→Prop:=fun x lo hi H Q=>∃a xs,x= .ref a∧pQ K H a xs∧∀p,H p=none→Q (.ref p) (upd H p (.lst (wC xs lo hi)))
theorem CN:Hx X (Rq X.K):=by
 intro pins s σ H x v vl vu lo hi sl Q I rx hs pl pu h
 obtain⟨a,xs,rfl,hx,q⟩:=h
 cases rx
 obtain⟨its,r,ht,hz⟩:=I.list hx
 have hlen:=r.length
 refine⟨"list",_,slot_list_getitem.lookup,ht.isList.typeIs,?_⟩
 refine wpAny_getItem_list_slice ht.isList hs pl pu .none (by simp) ?_ (by rw[List.size_toArray] <;> omega)
 rw[wF,←hlen]
 refine⟨.ref s.heap.objs.size,_,I.laid (t':=s.toks) (o:=.lst (wC xs lo hi)) (fun b ob q=>Heap.get?_push_of_some _ q) (Nat.le_refl _) ?_,rfl,q _ (I.hok.fresh (Nat.le_refl _))⟩
 exact⟨Nat.le_trans (tM xs lo hi) hz,_,0,(r.drop (HT.gH xs.length 0 lo)).take (HT.gH xs.length xs.length hi - HT.gH xs.length 0 lo),Heap.get?_push_size _ rfl⟩
theorem mO:jf X (.builtin "len") (fun xs H Q=>∃p ys,xs=[.ref p]∧(pQ X.K H p ys∨yG X.K H p ys)∧Q (.int ys.length) H):=by
 intro pins s σ H xs us Q I r h
 obtain⟨p,ys,rfl,hq,q⟩:=h
 obtain⟨u,rfl,rx⟩:=vals1 r
 cases rx
 have hn:=rS
 rcases hq with hq | hq
 ·obtain⟨its,r',pl,hz⟩:=I.list hq
  have hlen:=r'.length
  exact Calls.call_len_list pl.isList (by simp only[List.size_toArray] <;> omega) ⟨.int ys.length,H,I.tok _,⟨s.toks+1,by rw[List.size_toArray,hlen]⟩,q⟩
 ·obtain⟨its,r',pl,hz⟩:=I.tuple hq
  have hlen:=r'.length
  exact len_tuple pl (by simp only[List.size_toArray] <;> omega) ⟨.int ys.length,H,I.tok _,⟨s.toks+1,by rw[List.size_toArray,hlen]⟩,q⟩
theorem qA:jf X (.builtin "len") (fun xs H Q=>∃z,xs=[.str z]∧z.length≤sizeLine∧Q (.int z.length) H):=by
 intro pins s σ H xs us Q I r h
 obtain⟨z,rfl,hz,q⟩:=h
 obtain⟨u,rfl,t,rfl⟩:=vals1 r
 have hn:=rS
 exact len_str (by omega) ⟨.int z.length,H,I.tok _,⟨_,rfl⟩,q⟩
theorem jf.or {f:Value}{r r':List V→Hp→VK→Prop}(h:jf X f r) (h':jf X f r'):jf X f (fun xs H Q=>r xs H Q∨r' xs H Q):=by
 intro pins s σ H xs us Q I rs q
 rcases q with q | q
 ·exact h pins s σ H xs us Q I rs q
 ·exact h' pins s σ H xs us Q I rs q
theorem qC:jf X (.type "list") (fun xs H Q=>∃p ys,xs=[.ref p]∧(pQ X.K H p ys∨yG X.K H p ys)∧∀l,H l=none→Q (.ref l) (upd H l (.lst ys))):=by
 intro pins s σ H xs us Q I r h
 obtain⟨p,ys,rfl,hq,q⟩:=h
 obtain⟨u,rfl,rx⟩:=vals1 r
 cases rx
 have fin:∀(its:List Value),Vals ys its→ys.length≤sizeLine→∀(h':Heap) (c':Nat),(∀b o',s.heap.get? b=some o'→h'.get? b=some o')→
   h'.get? s.heap.objs.size=some {cls:=.type "list",dict:=none,data:=.seq its.toArray c',slots:=#[]}→EP X pins σ Q (.ref s.heap.objs.size) {s with heap:=h'}:=fun its r' hz h' c' kp e=>
  ⟨.ref s.heap.objs.size,_,I.laid (t':=s.toks) kp (Nat.le_refl _) (show gI X.prog X.w _ h' _ (.lst ys) from⟨hz,its,c',r',e⟩),rfl,q _ (I.hok.fresh (Nat.le_refl _))⟩
 rcases hq with hq | hq
 ·obtain⟨its,r',pl,hz⟩:=I.list hq
  have hlen:=r'.length
  obtain⟨o,ho,hc,n,hd⟩:=pl.isList
  exact call_list_seq p (.inl rfl) ho hc hd (fun h' c' kp e=>fin its r' hz h' c' kp e) (by simp only[List.size_toArray] <;> omega)
 ·obtain⟨its,r',pl,hz⟩:=I.tuple hq
  have hlen:=r'.length
  obtain⟨o,ho,hc,n,hd⟩:=pl
  exact call_list_seq p (.inr rfl) ho hc hd (fun h' c' kp e=>fin its r' hz h' c' kp e) (by simp only[List.size_toArray] <;> omega)
noncomputable def XC (K:PySem.W.Frag) (T:String) (x:V) (H:Hp):Prop:=match x with
 | .str _=>T="str"
 | .int _=>T="int"
 | .ref p=>(T="list"∧∃xs,pQ K H p xs)∨(T="tuple"∧∃o,K.lookup p=some o∧o.cls= .type "tuple"∧o.dict=none)∨
   (T="dict"∧((∃kvs,H p=some (.dK kvs))∨∃kvs,H p=some (.dT kvs)))∨(T="set"∧∃S n,H p=some (.set S n))
 | _=>False
theorem Kw {pins : List (Addr × Obj)} {σ : St} {H : Hp} {s : Shared} {T : String} {x : V} {v : Value} (I : Inv X pins σ H s) (r : RelV x v) (ty : XC X.K T x H) :
    s.TypeIs v T∧∀a,v= .ref a→∃ob,s.heap.get? a=some ob∧ob.dict=none:=by
  cases x with
  | str z=>
    obtain⟨t,rfl⟩:=r
    cases(show T="str" from ty)
    exact⟨typeIs_str s z t,fun _ e=>nomatch e⟩
  | int i=>
    obtain⟨t,rfl⟩:=r
    cases(show T="int" from ty)
    exact⟨typeIs_int s i t,fun _ e=>nomatch e⟩
  | ref p =>
    cases r
    rcases ty with⟨rfl,xs,hq⟩ | ⟨rfl,o,hk,hc,hd⟩ | ⟨rfl,hk⟩ | ⟨rfl,S,n,hk⟩
    · obtain⟨its,_,pl,_⟩:=I.list hq
      refine⟨pl.isList.typeIs,fun a e=>?_⟩
      cases e
      obtain⟨o,n,e,c,hd,_⟩:=pl
      exact⟨o,e,hd⟩
    · refine⟨⟨o,I.Bl p o hk,hc⟩,fun a e=>?_⟩
      cases e
      exact⟨o,I.Bl _ o hk,hd⟩
    · have z:∃o,s.heap.get? p=some o∧o.ExactDict:=by
        rcases hk with⟨kvs,hk⟩ | ⟨kvs,hk⟩
        · obtain⟨_,_,_,_,o,_,_,e,ex,_⟩:=I.hok p _ hk
          exact⟨o,e,ex⟩
        · obtain⟨_,_,_,_,o,_,_,e,ex,_⟩:=I.hok p _ hk
          exact⟨o,e,ex⟩
      obtain⟨o,e,ex⟩:=z
      refine⟨⟨o,e,ex.1⟩,fun a e2=>?_⟩
      cases e2
      exact⟨o,e,ex.2.1⟩
    · obtain⟨o,_,_,_,e,ex,_⟩:=I.hok p _ hk
      refine⟨⟨o,e,ex.1⟩,fun a e2=>?_⟩
      cases e2
      exact⟨o,e,ex.2.1⟩
  | _=>exact False.elim ty
noncomputable def Zb (K:PySem.W.Frag) (T:String) (r:V→List V→Hp→VK→Prop) (to:TE) (t:TA):TE:=fun σ H Q=>to σ H fun x H1=>XC K T x H1∧t σ H1 fun xs H2=>r x xs H2 Q
variable {o e:Expr}{es:List Expr}{to:TE}{t:TA}{name:Str}{apos cpos:Pos}{T id:String}{r:V→List V→Hp→VK→Prop}
theorem MZ (pa:PlainAttrs T) (slot:Slot T name id) (hty:typeOf (.builtin id)=pure (.type "method_descriptor")) (hm:Ku X id r) (ho:PE X o to) (ha:PA X (e :: es) t)
  (hbase:attributeBase o name X.env (eval o X.env)=eval o X.env:=by rfl)
  (hfew:((backTo cpos (starEach (e :: es) X.env)).all (fun x=>!x.1) && (backToKw cpos (keywordEach [] X.env)).all (fun x=>x.1.isSome)
   && decide ((e :: es).length+([]:List Keyword).length+(if([]:List Keyword).isEmpty then 0 else 1) < 30))=true:=by rfl)
  (hline:(apos.endLine == cpos.line)=true:=by rfl) (hs:starEach (e :: es) X.env=(false,eval e X.env) :: starEach es X.env:=by rfl) (hplain:(backTo cpos (starEach es X.env)).any (·.1)=false:=by rfl):
  PE X (.Call (.Attribute o name apos) (e :: es) [] cpos) (Zb X.K T r to t):=by
 intro pins s σ H Q I h
 refine wpAny_Call_method_late hbase hfew hline rfl (fq (ho pins s σ H _ I h) fun v s1 ⟨x,H1,I1,r1,ty,q1⟩=>?_)
 obtain⟨h1,h2⟩:=Kw I1 r1 ty
 refine⟨T,id,pa,slot,hty,h1,h2,?_⟩
 have hA:=ha cpos pins s1 σ H1 _ I1 q1
 rw[hs] at hA ⊢
 refine Calls.callWith_builtin (by show(false || (backTo cpos (starEach es X.env)).any (·.1))=false;rw[hplain] <;> rfl) (Calls.evalArgs_plain ?_)
 exact fq hA fun us s2 ⟨vs,H2,I2,r2,q2⟩=>hm pins s2 σ H2 x vs v us Q I2 r1 r2 q2
end
end L2
namespace L2
open PySem PySem.Spec PyProof.Rows
theorem Vals.one:∀{x:V}{us:List Value},Vals [x] us→∃u,us=[u]∧RelV x u
 | _,_,.cons r .nil=>⟨_,rfl,r⟩
theorem Vals.reverse {xs:List V}{us:List Value}(h:Vals xs us):Vals xs.reverse us.reverse:=by
 induction h with
 | nil=>exact .nil
 | cons r t ih=>rw[List.reverse_cons,List.reverse_cons];exact Vals.append ih (.cons r .nil)
theorem Vals.rep {xs:List V}{us:List Value}(h:Vals xs us):∀k:Nat,Vals (List.replicate k xs).flatten (List.replicate k us).flatten
 | 0=>.nil
 | k+1=>by
  rw[List.replicate_succ,List.replicate_succ,List.flatten_cons,List.flatten_cons]
  exact Vals.append h (Vals.rep h k)
section
variable {X:Cx}{pins:List (Addr×Obj)}{σ:St}{H:Hp}{s:Shared}{l b:Addr}{xs ys zs:List V}
theorem Inv.Rr {its its':List Value}{n:Nat}{f:Array Value→Array Value}{t':Nat}(I:Inv X pins σ H s) (hH:H l=some (.lst xs))
  (e:s.heap.get? l=some {cls:=.type "list",data:=.seq its.toArray n}) (hf:f its.toArray=its'.toArray) (hv:Vals ys its') (hz:ys.length≤sizeLine):
  Inv X pins σ (upd H l (.lst ys)) {s with heap:=s.heap.update l (Obj.mapSeq f),toks:=t'}:=by
 have q:=PySem.IsL.update e f
 rw[hf] at q
 refine I.write (x:=l) (e:=l) (by rw[hH];exact trivial) (.inl rfl) (fun b' u hb hu=>(Heap.get?_update_other s.heap (Obj.mapSeq f) (Ne.symm hb)).trans hu) ⟨_,q⟩ ?_
 exact⟨hz,its',_,hv,q⟩
theorem Inv.Rt {its:List Value}{t':Nat}(I:Inv X pins σ H s) (hv:Vals ys its) (hz:ys.length≤sizeLine):
  Inv X pins σ (upd H s.heap.objs.size (.lst ys)) {s with heap:=s.heap.push {cls:=.type "list",data:=.seq its.toArray},toks:=t'}:=
 I.laid (fun _ _ q=>Heap.get?_push_of_some _ q) (Nat.le_refl _) ⟨hz,its,0,hv,Heap.get?_push_size _ rfl⟩
theorem Inv.fresh (I:Inv X pins σ H s):H s.heap.objs.size=none:=I.hok.fresh (Nat.le_refl _)
theorem Inv.E6 (I:Inv X pins σ H s) (hH:H l=some (.lst xs)):xs.length≤sizeLine∧∃(its:List Value) (n:Nat),Vals xs its∧xs.length=its.length∧s.heap.get? l=some {cls:=.type "list",data:=.seq its.toArray n}:=by
 obtain⟨z,its,n,r,e⟩:=I.hok l _ hH
 exact⟨z,its,n,r,r.length,e⟩
theorem E7 {n:Nat}(h:n≤sizeLine):Builtin.List.listTooLong n=false:=by
 unfold Builtin.List.listTooLong
 exact decide_eq_false (by omega)
end
section
variable {X:Cx}
end
section
variable {prog:Program}{w:World}{A:Around}{E:Value→Shared→Prop}{s:Shared}
end
section
variable {X:Cx}
end
end L2
namespace XD
open PySem PySem.W PySem.Calls PyProof.Rows
theorem uw {P:Params}{h:Heap}:∀(ns:List Int) (vs:List Value),WellAll P h vs (ns.map WData.int)→IntsAre vs ns:=by
 intro ns
 induction ns with
 | nil=>
  intro vs w
  rw[List.map_nil] at w
  cases w
  exact .nil
 | cons n ns ih=>
  intro vs w
  rw[List.map_cons] at w
  cases w with
  | cons a b=>
   cases a
   exact .cons _ _ (ih _ b)
theorem Dv {l:OpenLaw}{n:Nat}(hn:l.most=some n){P:Params}{h:Heap}{args:List WData}{vals:List Value}
  (hpre:l.row.toRowW.claim.pre args=true) (hwl:WellAll P h vals args):
  ∃a vs ns,vals=[Value.ref a]∧args=[WData.list (ns.map WData.int)]∧h.get? a=some {cls:=.type "list",data:=.seq vs.toArray}∧IntsAre vs ns∧ns.length≤n:=by
 have hsh:WShape.hasAll [] args [.list .int]=true:=(pre_splitW hpre).1
 have hc:l.pre.holds [] {args:=args}=true:=(pre_splitW hpre).2
 obtain⟨d,r,rfl,h1,h2⟩:=hasAllW_cons hsh
 obtain rfl:=hasAllW_nil h2
 obtain⟨xs,rfl,h3⟩:=hasW_list h1
 obtain⟨ns,rfl⟩:=items_int h3
 have hlen:ns.length≤n:=by
  unfold OpenLaw.pre at hc
  have h4:(WTm.not (.lt (.lit (.int (n:Int))) (.len (.arg 0)))).holds [] {args:=[.list (ns.map .int)]}=true:=by
   have h4:=(holds_andW hc).1
   rw[hn] at h4
   exact h4
  have h5:=condW_of h4 (w_not (w_lt w_lit (w_len_list (w_arg rfl))))
  rw[List.length_map] at h5
  refine Nat.le_of_not_lt fun q=>?_
  have q':(n:Int) < ((ns.length:Nat):Int):=by omega
  first
   | (rw[decide_eq_true q'] at h5;exact absurd h5 (by decide))
   | (simp at h5;omega)
 cases hwl with
 | cons w1 w2=>
  cases w2
  cases w1 with
  | list ho hall=>exact⟨_,_,ns,rfl,rfl,ho,uw ns _ hall,hlen⟩
theorem Dw (l:OpenLaw) (args:List WData):l.row.toRowW.claim.post args (.bool true) args=true:=
 postW_of (r:=l.row.toRowW) (X:=(true == true))
  (show WShape.has [] (.bool true) .bool=true by first | rfl | decide | simp[WShape.has,WShape.arms,WShape.armsAll])
  (show(WTm.eq .res (.lit (.bool true))).value [] {args:=args,res:=some (.bool true),after:=args}=some (.bool (true == true)) from w_eq_bool (w_res rfl) w_lit) rfl
theorem zV {l:OpenLaw}{n:Nat}{q:Program}{loose:List Str}{XP:(Str→Option Value)→Heap→Prop}{YP:World→Heap→Prop}{d:DefRec}
  (hn:l.most=some n) (hdf:d.params.defaults=[])
  (call:∀(w:World) (s₀ s₁:Shared) (mg mb:Str→Option Value) (fa:Addr) (o:Obj) (pm cd doc:Value) (a:Addr) (vs:List Value) (ns:List Int),
   Ground q loose [] XP w s₀ mg mb s₁.heap→YP w s₁.heap→
   s₁.heap.get? fa=some o→o.data= .func (docDef d.name d.params d.body d.scope pm cd doc)→s₁.heap.CodeRec cd d.name→mg d.name=some (.ref fa)→
   s₁.heap.get? a=some {cls:=.type "list",data:=.seq vs.toArray}→IntsAre vs ns→ns.length≤n→s₁.gens=#[]→
   codeAny (model l.prog w) callerA (.call (.ref fa) ⟨[.ref a],[]⟩) (fun r s'=>r= .ok (.ret (.bool true))∧OldK s₁.heap s'.heap∧s'.os=s₁.os∧AllBare s'.gens) s₁):
  WalkO q loose XP YP l.row.toRowW d [] (fun f vs=>PySem.call f vs):=by
 intro w s₀ s₁ mg mb G Y fa o pm cd doc dV kV ho hd hcd hD hmg hg args vals as hpre hlay hrd hwl hlo
 obtain rfl:dV= .none:=Dflts.none hD hdf
 obtain rfl:kV= .none:=Dflts.noKw hD
 obtain⟨a,vs,ns,rfl,rfl,hobj,hints,hlen⟩:=Dv hn hpre hwl
 refine enter_call (codeAny_mono (call w s₀ s₁ mg mb fa o pm cd doc a vs ns G Y ho (fd_plain hd) hcd hmg hobj hints hlen hg) fun r s' hq=>?_)
 obtain⟨rfl,h2,h3,h4⟩:=hq
 exact⟨.inl ⟨.bool true,.bool true,[],rfl,fun _=>rfl,.bool true,Dw l _,fun _=>⟨List.Pairwise.nil,fun _ hm=>(nomatch hm)⟩⟩,h2,h3,h4⟩
section
variable {prog:Program}{w:World}{A:Around}{E:Value→Shared→Prop}{s:Shared}{K:Frag}
end
end XD
namespace L2
open PySem PySem.Spec PyProof.Rows
theorem xG:∀{vs:List Value}{ns:List Int},IntsAre vs ns→Vals (ns.map V.int) vs
 | _,_,.nil=>.nil
 | _,_,.cons n t h=>.cons ⟨t,rfl⟩ (xG h)
noncomputable def Hz (H:Hp):Prop:=∀b,H b=none∨∃o xs,H b=some (.j3 o (.lst xs))
theorem E8 {P : Program} {w : World} {K : PySem.W.Frag} {mg mb : Str → Option Value} {CX : Dn} {k : Nat} {fa a : Addr} {fd : FuncData} {x : Str} {sp : Sp} {s₁ : Shared} {vs : List Value} {ns : List Int}
    (KX:K.In s₁.heap) (hns:s₁.heap.Ns mainGlobals mg) (hb:s₁.heap.Ns builtinsNs mb) (Zc:∀x:Str,x≠"__name__"→mb x=bootBuiltins x) (hlim:s₁.heap.NoLimit) (hg:s₁.gens=#[])
    (ha:s₁.heap.get? a=some {cls:=.type "list",data:=.seq vs.toArray}) (hi:IntsAre vs ns) (hl:ns.length≤sizeLine) (hr:jW k callerA)
    (F:∀base:Heap,K.In base→base.Ns mainGlobals mg→bK P w K mg base CX k fa fd [x] sp) (hbind:∀(s:Shared) (u:Value),BindsTo s fd ⟨[u],[]⟩ [(x,u)])
    (IW:∀H:Hp,Hz H→pQ K H a (ns.map V.int)→sp [.ref a] H (fun v _=>v= .bl true) fun _ _ _=>False)
    (Ru:∀H e s',CX [] H s₁ (fun _ _ _=>False) e s'→False):
    codeAny (model P w) callerA (.call (.ref fa) ⟨[.ref a],[]⟩) (fun r s'=>r= .ok (.ret (.bool true))∧OldK s₁.heap s'.heap∧s'.os=s₁.os∧AllBare s'.gens) s₁:=by
  have rv:=xG hi
  have lenV:=hi.length
  have core : ∀ H : Hp, Hz H → pQ K H a (ns.map V.int) → pK P w H s₁.heap → (∀ b, H b ≠ none → b = a) → (H a ≠ none → K.lookup a = none) →
      codeAny (model P w) callerA (.call (.ref fa) ⟨[.ref a],[]⟩) (fun r s'=>r= .ok (.ret (.bool true))∧OldK s₁.heap s'.heap∧s'.os=s₁.os∧AllBare s'.gens) s₁:=by
    intro H hO hS hok hA hK
    have CO:∀{b:Addr}{o:Obj},s₁.heap.get? b=some o→H b=none→(yC s₁.heap H).get? b=some o:=fun e n=>Ey e n
    have MK:∀{b:Addr}{o:Obj}{es:Array DictEntry}{ep:Nat},s₁.heap.get? b=some o→o.data= .dict es ep→H b=none:=fun {b o es ep} e d=>by
      cases q:H b with
      | none=>rfl
      | some u=>
        have e':b=a:=hA b (by rw[q];simp)
        subst e'
        rw[ha] at e;cases e
        have d':Data.seq vs.toArray _=Data.dict es ep:=d
        cases d'
    have Pj:∀{b:Addr}{m:Str→Option Value},s₁.heap.Ns b m→(yC s₁.heap H).Ns b m:=fun {b m} ⟨o,es,ep,e,d,r⟩=>⟨o,es,ep,CO e (MK e d),d,r⟩
    have XE:K.In (yC s₁.heap H):=fun b o e=>CO (KX b o e) (by
      cases q:H b with
      | none=>rfl
      | some u=>
        have e':b=a:=hA b (by rw[q];simp)
        subst e'
        rw[hK (by rw[q];simp)] at e;cases e)
    have hM:Mod K mg (yC s₁.heap H):=⟨XE,Pj hns,⟨mb,Pj hb,Zc⟩,let⟨mc,h1,h2⟩:=hlim;⟨mc,Pj h1,h2⟩⟩
    have e0:Br P w K mg (yC s₁.heap H) callerA [] s₁ H:=⟨rfl,hM,fun b o e=>G1 e,Nat.le_of_eq (Dg _ _),trivial,fun b hb=>absurd (show b∈([]:List Addr) from hb) (by simp),hok,.of_eq hg⟩
    refine codeAny_mono ((F _ XE (Pj hns)).run callerA [] s₁ H ⟨[.ref a],[]⟩ [.ref a] [.ref a] _ _ hr e0 (hbind s₁ (.ref a)) (.cons rfl .nil) (IW H hO hS)) fun r s' h=>?_
    cases r with
    | error e=>exact(Ru H e s' h).elim
    | ok fl =>
      cases fl with
      | next=>exact False.elim h
      | brk=>exact False.elim h
      | cont=>exact False.elim h
      | ret u =>
        obtain⟨v,H',os,bare,un,Rv,r',q⟩:=h
        have q':v= .bl true:=q
        subst q'
        obtain rfl:u=Value.bool true:=r'
        refine⟨rfl,OldK.of_keep fun b o e=>?_,os,bare⟩
        cases q:H b with
        | none=>exact un.keep b o e q (by intro z;exact absurd (show b∈([]:List Addr) from z) (by simp)) (by simp)
        | some u=>
          rcases hO b with z | ⟨ob,xs,z⟩
          · rw[q] at z;cases z
          · have z2:=un.qu b ob _ z
            obtain⟨e1,_⟩:=hok b _ z
            obtain⟨e2,_⟩:=Rv b _ z2
            rw[e] at e1;cases e1
            exact e2
  cases hk:K.lookup a with
  | some o=>
    have e:=KX a o hk
    rw[ha] at e
    cases e
    refine core (fun _=>none) (fun _=>.inl rfl) (.inr ⟨_,vs.toArray,_,hk,rfl,rfl,rfl,by rw[List.size_toArray,lenV];exact hl,by simpa using rv⟩) (fun b u z=>by have z':(none:Option HO)=some u:=z;cases z') (fun b z=>absurd rfl z) fun z=>absurd rfl z
  | none=>
    refine core (fun b=>if b=a then some (.j3 {cls:=.type "list",data:=.seq vs.toArray} (.lst (ns.map V.int))) else none) (fun b=>?_) (.inl (.inr ⟨{cls:=.type "list",data:=.seq vs.toArray},if_pos rfl⟩)) (fun b u z=>?_) (fun b z=>?_) fun _=>hk
    · by_cases hb:b=a
      · exact .inr ⟨_,_,if_pos hb⟩
      · exact .inl (if_neg hb)
    · by_cases hb:b=a
      · have z':=(if_pos hb).symm.trans z
        cases z'
        subst hb
        exact⟨ha,by rw[List.length_map];exact hl,vs,_,rv,ha⟩
      · have z':=(if_neg hb).symm.trans z
        cases z'
    · by_cases hb:b=a
      · exact hb
      · exact absurd (if_neg hb) z
end L2
namespace L2
open PySem PySem.Spec PyProof.Rows
noncomputable abbrev KOf {K:PySem.W.Frag}{h:Heap}(_:K.In h):PySem.W.Frag:=K
theorem HA {l : PySem.W.OpenLaw} {n k : Nat} {q : Program} {loose : List Str} {XP : (Str → Option Value) → Heap → Prop} {YP : World → Heap → Prop} {d : DefRec} {K : Params → PySem.W.Frag} {CX : World → Dn} {sp : World → Sp} {x : Str}
    (hn:l.most=some n) (hn2:n≤sizeLine) (hdf:d.params.defaults=[]) (hr:jW k callerA)
    (hY:∀(w:World) (h:Heap),YP w h→(K w.params).In h)
    (F:∀(w:World) (mg:Str→Option Value) (fa:Addr) (h:Heap),(K w.params).In h→h.Ns mainGlobals mg→mg d.name=some (.ref fa)→
      ∃fd:FuncData,(∀(s:Shared) (u:Value),BindsTo s fd ⟨[u],[]⟩ [(x,u)])∧
        ∀base:Heap,(K w.params).In base→base.Ns mainGlobals mg→bK l.prog w (K w.params) mg base (CX w) k fa fd [x] (sp w))
    (IW:∀(w:World) (H:Hp) (a:Addr) (ns:List Int),ns.length≤n→Hz H→pQ (K w.params) H a (ns.map V.int)→sp w [.ref a] H (fun v _=>v= .bl true) fun _ _ _=>False)
    (Ru:∀(w:World) (H:Hp) (s:Shared) (e:Value) (s':Shared),CX w [] H s (fun _ _ _=>False) e s'→False):
    PySem.W.WalkO q loose XP YP l.row.toRowW d [] (fun f vs=>PySem.call f vs):=by
  refine XD.zV hn hdf fun w s₀ s₁ mg mb fa o pm cd doc a vs ns G Y ho hd hcd hmg hobj hints hlen hg=>?_
  have KX:=hY w _ Y
  obtain⟨fd,hb,hF⟩:=F w mg fa _ KX G.T.g hmg
  exact E8 KX G.T.g G.T.b G.T.builtins G.T.nolimit hg hobj hints (Nat.le_trans hlen hn2) hr hF hb (fun H hO hS=>IW w H a ns hlen hO hS) fun H e s'=>Ru w H s₁ e s'
end L2
namespace L2
open PySem PySem.Spec PyProof.Rows
noncomputable def bO (s:Stmt):Arguments:=match s with
 | .FunctionDef _ a _ _ _ _ _ _ _ _=>a
 | _=>{posonlyargs:=[],args:=[],vararg:=none,kwonlyargs:=[],kw_defaults:=[],kwarg:=none,defaults:=[]}
noncomputable def bH (s:Stmt):List Stmt:=match s with
 | .FunctionDef _ _ b _ _ _ _ _ _ _=>b
 | _=>[]
noncomputable def aE (s:Stmt):Scope:=match s with
 | .FunctionDef _ _ _ _ _ _ sc _ _ _=>sc
 | _=>{kind:=.function,names:=[],isGenerator:=false,isCoroutine:=false}
noncomputable abbrev eG:Dn:=fun _ _ _ _ _ _=>False
noncomputable abbrev E0:XK:=fun _ _ _=>False
theorem IZ {X:Cx}:Passes eG X E0:=fun _ _ _ _ _ _ _ h=>h.elim
structure nN (K:PySem.W.Frag) (x qual:Str) (st:Stmt) (f:Addr) (fd:FuncData):Prop where
 ex:∃(oc:Value) (od:Option Addr) (kV doc pm:Value) (an:Option Addr) (cdv ct:Value) (osl:Array (Option Value)),
  fd=PySem.W.fnOf x qual (bO st) (bH st) (aE st) .none kV doc pm an cdv ct∧K.lookup f=some ⟨oc,od,.func fd,osl⟩∧PySem.W.codeIn K cdv qual=true
 kp:PySem.W.keepIn K (.ref f)=true
section
variable {P:Program}{w:World}{K:PySem.W.Frag}{mg:Str→Option Value}{base:Heap}
theorem nN.ok {x qual:Str}{st:Stmt}{f:Addr}{fd:FuncData}{N ps:List Str}{k:Nat}{sp:Sp}(F:nN K x qual st f fd) (S:cy N ps (aE st)) (len:∀vs H Q E,sp vs H Q E→vs.length=ps.length)
  (hbody:∀(cdv:Value) (A:Around) (outer:List Env) (s:Shared) (H:Hp) (vs:List V) (Q:VK) (E:XK),jW k (A.deeper (envOfC qual (aE st) s.heap.objs.size f cdv))→sp vs H Q E→
   ∃t,Bf (Bs eG P w K mg base N qual (aE st) f cdv A outer s H E).G5 (bH st) t∧t {nx:=fun _ H'=>Q .cH H',rt:=Q} (start N vs) H):bK P w K mg base eG (k+1) f fd ps sp:=by
 obtain⟨oc,od,kV,doc,pm,an,cdv,ct,osl,rfl,lk,hcd⟩:=F.ex
 refine ML lk hcd S len fun A outer s H vs Q E hr IW=>?_
 obtain⟨t,h,q⟩:=hbody cdv A outer s H vs Q E hr IW
 exact⟨t,h.G5,q⟩
theorem nN.binds {x qual:Str}{st:Stmt}{f:Addr}{fd:FuncData}{ps:List Str}(F:nN K x qual st f fd)
  (h:∀(kV doc pm:Value) (an:Option Addr) (cdv ct:Value) (us:List Value),us.length=ps.length→bindArgs (PySem.W.fnOf x qual (bO st) (bH st) (aE st) .none kV doc pm an cdv ct) ⟨us,[]⟩=pure (ps.zip us)):Binds K fd ps []:=by
 obtain⟨oc,od,kV,doc,pm,an,cdv,ct,osl,rfl,lk,hcd⟩:=F.ex
 exact .all (h kV doc pm an cdv ct)
theorem dj {x qual:Str}{st:Stmt}{f:Addr}{oc:Value}{od an:Option Addr}{osl:Array (Option Value)}{kV doc pm cdv ct:Value}(l:K.lookup f=some ⟨oc,od,.func (PySem.W.fnOf x qual (bO st) (bH st) (aE st) .none kV doc pm an cdv ct),osl⟩)
  (c:PySem.W.codeIn K cdv qual=true) (k:PySem.W.keepIn K (.ref f)=true):nN K x qual st f (PySem.W.fnOf x qual (bO st) (bH st) (aE st) .none kV doc pm an cdv ct):=⟨⟨oc,od,kV,doc,pm,an,cdv,ct,osl,rfl,l,c⟩,k⟩
end
theorem cj {A:Around}{k:Nat}(hr:jW k A):A.units+1 < cLine:=Nat.lt_of_le_of_lt (Nat.add_le_add_left (by decide:1≤64) _) hr.units
section
variable {X:Cx}
theorem Dy:jf X (.builtin "len") (fun xs H Q=>∃a kvs,xs=[V.ref a]∧H a=some (.dK kvs)∧Q (.int kvs.length) H):=by
 intro pins s σ H xs us Q I r h
 obtain⟨a,kvs,rfl,ha,q⟩:=h
 obtain⟨u,rfl,ru⟩:=vals1 r
 cases ru
 exact MN I (.inl ha) fun t s' I'=>⟨.int kvs.length,H,I',⟨t,rfl⟩,q⟩
end
theorem Bx {A B:Prop}(h:B):if false=true then A else B:=by
 rw[if_neg Bool.false_ne_true]
 exact h
theorem By {A B:Prop}(h:A):if true=true then A else B:=by
 rw[if_pos rfl]
 exact h
noncomputable def uT (H H':Hp):Prop:=∀b o,H b=some o→H' b=some o
theorem uT.refl (H:Hp):uT H H:=fun _ _ h=>h
theorem uT.trans {H H1 H2:Hp}(a:uT H H1) (b:uT H1 H2):uT H H2:=fun c o h=>b c o (a c o h)
theorem uT.free {H H':Hp}(e:uT H H'){l:Addr}(h:H' l=Option.none):H l=Option.none:=by
 cases q:H l with
 | none=>rfl
 | some o=>
  rw[e l o q] at h
  cases h
theorem uT.seq {K:PySem.W.Frag}{H H':Hp}{a:Addr}{xs:List V}(e:uT H H') (h:pQ K H a xs):pQ K H' a xs:=by
 rcases h with(h | ⟨o,h⟩) | h
 ·exact .inl (.inl (e _ _ h))
 ·exact .inl (.inr ⟨o,e _ _ h⟩)
 ·exact .inr h
section
variable {κ:Type} [DecidableEq κ]
end
end L2
end
section
set_option Elab.async false
set_option linter.all false
set_option maxRecDepth 100000
namespace L2
open PySem PySem.Spec PyProof.Rows
theorem pK.M0 {P:Program}{w:World}{H:Hp}{h:Heap}{a:Addr}{o:HO}(x:pK P w H h) (hn:H a=none) (new:gI P w (upd H a o) h a o):pK P w (upd H a o) h:=fun b u e=>by
 by_cases hb:b=a
 ·subst hb;rw[bY] at e;cases e;exact new
 ·rw[bh hb] at e
  exact(x b u e).stay (fun c v _ q=>q) (fun c q=>by rw[bh (cD q hn)];exact q) fun c xs q=>by rw[bh (cD q hn)];exact q
noncomputable def lu (X:Cx) (N':List Str) (scope:Scope) (cl:List (Str×Addr)) (C:Addr) (s:Shared) (H:Hp) (fp:List Addr):Cx:=
 {X with N:=N',s₀:=s,H₀:=H,env:=compEnvC scope cl C X.env,outer:=X.stack,stack:=X.stack,ex:=fp,fn:=fun _=>false,pn:=[],xe:=fun _ _=>False}
noncomputable def gJ (cap:List Nat) (σ:St):St:=cap.map fun i=>(σ[i]?).join
structure pB (X:Cx) (x:Str) (fL:List Str) (cap:List Nat) (scope:Scope) (cl:List (Str×Addr)):Prop where
 clos:closureFor scope X.env=pure cl
 yO:∀y∈scope.names,y.2≠.cell
 kind:scope.kind= .function
 names:∀y∈scope.names,y.2= .local→scope.names.lookup y.1=some .local
 loc:scope.names.lookup x=some .local
 cells:∀n c,cl.lookup n=some c→X.env.cells.lookup n=some c
 has:∀n,((relabel scope X.env).names.lookup n=some .cell∨(relabel scope X.env).names.lookup n=some .free)→∃c,cl.lookup n=some c
 nd:(x :: fL).Nodup
 len:cap.length=fL.length
 slot:∀(j:Nat) n,fL[j]? =some n→∃i:Nat,cap[j]? =some i∧X.N[i]? =some n∧Ez X.env.scope n
 vis:∀n,n∈fL→((relabel scope X.env).names.lookup n=some .cell∨(relabel scope X.env).names.lookup n=some .free)∧(∃c,cl.lookup n=some c)∧X.env.scope.names.lookup n≠some .local
noncomputable def Rw (wi:TI) (cap:List Nat) (tc:TT) (te:TE):TE:=fun σ H Q=>wi σ H fun J H1=>∃W:Nat→Nat→List V→Hp→Prop,(∃m,W 0 m [] H1)∧∀i m ys H,W i m ys H→ys.length < sizeLine∧
  ((J.stop i H∧∀p,H p=none→Q (.ref p) (upd H p (.lst ys)))∨
   (J.go i H∧∀x H',J.Pe i H x H'→tc (some x :: gJ cap σ) H' fun b H2=>if b=true then te (some x :: gJ cap σ) H2 fun y H3=>∃m',m' < m∧W (i+1) m' (ys++[y]) H3 else ∃m',m' < m∧W (i+1) m' ys H2))
noncomputable def Rx:TT:=fun _ H Q=>Q true H
noncomputable def LN (X:Cx) (ifs:List Expr) (tc:TT):Prop:=
 ∀(pins:List (Addr×Obj)) (s:Shared) (σ:St) (H:Hp) (Q:Bool→Hp→Prop),Inv X pins σ H s→tc σ H Q→
  wpAny (model X.prog X.w) X.A (forIn ifs true fun c r=>if r=true then do let ok ←isTrue c X.env (eval c X.env);pure (ForInStep.yield ok) else pure (ForInStep.yield r)) (TP X pins σ Q) X.xe s
theorem HB {X:Cx}:LN X [] Rx:=fun pins s σ H Q I h=>wpAny_tests_nil ⟨H,I,h⟩
theorem HC {X:Cx}{c:Expr}{tc:TT}(h:PT X c tc):LN X [c] tc:=fun pins s σ H Q I q=>wpAny_tests_one (h pins s σ H Q I q)
theorem Ky (ys:List Value) (y:Value):({cls:=.type "list",data:=.seq (ys.toArray.push y) (ys.length+1)}:Obj)={cls:=.type "list",data:=.seq (ys++[y]).toArray (ys++[y]).length}:=by
 rw[List.length_append,List.length_singleton,List.push_toArray]
theorem E9 {X : Cx} {pins : List (Addr × Obj)} {σ : St} {H : Hp} {s s4 : Shared} {x : Str} {fL : List Str} {cap : List Nat} {scope : Scope} {cl : List (Str × Addr)} {C : Addr} {fp : List Addr} {m' : Str → Option Value}
    (I:Inv X pins σ H s) (T:pB X x fL cap scope cl) (hfp:∀b∈fp,uO X pins H b) (hfo:∀b∈fp,∃o,s.heap.get? b=some o)
    (hC:s.heap.objs.size≤C) (hns:s4.heap.Ns C m') (hos:s4.os=s.os) (hg:s4.gens=s.gens)
    (kept:∀b o,s.heap.get? b=some o→s4.heap.get? b=some o):
    Inv (lu X (x :: fL) scope cl C s H fp) [] (none :: gJ cap σ) H s4:=by
  have fr:∀b,s.heap.objs.size≤b→H b=none:=fun b hb=>I.hok.fresh hb
  refine⟨⟨I.ok.mod,T.kind,I.ok.glob,I.ok.blt,hC,fun y z c h1 h2=>I.ok.inj y z c (T.cells _ _ h1) (T.cells _ _ h2),fun y hy=>T.has y hy,fun y c h=>(by cases h),I.ok.hd,I.ok.frames,.inl rfl,fun b hb=>⟨?_,fun y c e z=>?_⟩,I.bs,Nat.le_trans I.ok.G3 I.sz,fun b o e hb=>?_,fun b hb z=>?_,I.stack,I.Cz⟩,
    hos,by rw[hg];exact I.bare,Un.kept kept,⟨m',hns,fun i y v h1 h2 h3=>?_⟩,fun y c h=>?_,fr C hC,fun y c h=>I.nI y c (T.cells _ _ h),fun p hp=>?_,I.hok.kept kept,?_⟩
  · obtain⟨o,e⟩:=hfo b hb
    exact Nat.ne_of_lt (Nat.lt_of_lt_of_le (Heap.lt_size e) hC)
  · exact(hfp b hb).2.2.2.2.1 y c (T.cells _ _ e) z
  · rcases(hfp b hb).2.2.2.1 with z | z
    · exact I.ok.EA b o e z
    · exact absurd (Nat.lt_of_lt_of_le (Heap.lt_size e) (Nat.le_trans I.ok.G3 z)) (Nat.lt_irrefl _)
  · rcases List.mem_cons.mp (I.yD b z) with q | q
    · exact(hfp b hb).2.1 q
    · exact(hfp b hb).2.2.1 q
  · cases i with
    | zero=>cases h2
    | succ j=>
      have h1:fL[j]? =some y:=by simpa[lu] using h1
      have h2:(gJ cap σ)[j]? =some (some v):=by simpa using h2
      obtain⟨i,e1,e2,e3⟩:=T.slot j y h1
      have e4:σ[i]? =some (some v):=by
        unfold gJ at h2
        rw[List.getElem?_map,e1] at h2
        have h2:some ((σ[i]?).join)=some (some v):=h2
        have h2:=Option.some.inj h2
        cases q:σ[i]? with
        | none=>rw[q] at h2;cases h2
        | some o=>rw[q] at h2;cases h2;rfl
      obtain⟨m,hn,hl⟩:=I.loc
      obtain⟨u,r,l⟩:=hl i y v e2 e4 e3
      obtain⟨k1,⟨c,hc⟩,k3⟩:=T.vis y (List.mem_of_getElem? h1)
      refine⟨u,r,.inr ⟨k1,c,hc,?_⟩⟩
      rcases l with⟨hk,_⟩ | ⟨hk,c',hc',z⟩
      · exact absurd hk k3
      · rw[T.cells _ _ hc] at hc'
        cases hc'
        obtain⟨o,ho,hd⟩:=z
        exact⟨o,kept _ _ ho,hd⟩
  · obtain⟨v,o,ho,hd⟩:=I.cell y c (T.cells _ _ h)
    exact⟨v,o,kept _ _ ho,hd⟩
  · exact absurd (show p∈([]:List (Addr×Obj)) from hp) (by simp)
  · show(none :: gJ cap σ).length=(x :: fL).length
    simp[gJ,T.len]
end L2
end
section
set_option Elab.async false
set_option linter.all false
set_option maxRecDepth 100000
namespace L2
open PySem PySem.Spec PyProof.Rows
theorem Fb {α:Type}{M:Model}{A:Around}{E E':Value→Shared→Prop}{s:Shared}{t:Sem α}{Q:Unit→Shared→Prop}{Q':α→Shared→Prop}(h:wpAny M A (pure ():Sem Unit) Q E s) (k:Q () s→wpAny M A t Q' E' s):wpAny M A t Q' E' s:=
 fun Γ p hΓ=>k (h Γ p hΓ) Γ p hΓ
theorem BA {X:Cx}{elt iter:Expr}{ifs:List Expr}{x:Str}{px pos:Pos}{scope:Scope}{cl:List (Str×Addr)}{fL:List Str}{cap:List Nat}{wi:TI}{tc:TT}{te:TE}{pins:List (Addr×Obj)}{s:Shared}{σ:St}{H:Hp}{Q:VK}{use:Option (Value→Sem Unit)}{Qf:Value→Shared→Prop}{pos2:Pos}
    (T:pB X x fL cap scope cl) (hc:X.calm=true) (hi:PI X (.Name x px) iter wi)
    (ht:∀C s H fp,LN (lu X (x :: fL) scope cl C s H fp) ifs tc) (he:∀C s H fp,PE (lu X (x :: fL) scope cl C s H fp) elt te)
    (hs:∀x,foldedSetIterable iter X.env x=pure x) (I:Inv X pins σ H s) (h:Rw wi cap tc te σ H Q)
    (hend:∀(D C:Addr) (s7:Shared) (H6:Hp) (ys:List V),Inv X pins σ (upd H6 D (.lst ys)) s7→(∃m,s7.heap.Ns C m)→uO X pins (upd H6 D (.lst ys)) C→Q (.ref D) (upd H6 D (.lst ys))→compPost (model X.prog X.w) X.A X.xe use Qf (.ref D) C (.ok .next) s7):
    wpAny (model X.prog X.w) X.A (comprehension (.ListComp elt [⟨.Name x px,iter,ifs,0⟩] scope pos) scope X.env pos2 (newList []) false (eval iter X.env) use) Qf X.xe s:=by
  refine wpAny_comprehension_free (use:=use) rfl hs T.clos T.kind T.names (fq (hi pins s σ H _ I h) fun v s1 h1=>fq h1 fun itv s2 h2=>?_)
  obtain⟨it,fp,tn,J,H2,rfl,I2,GV,st2,f2,W,⟨m0,w0⟩,turn⟩:=h2
  refine wpAny_newObj_type (wpAny_newFunctionEnv T.yO (by intro y hy;simp at hy) (fun h4 HD Fc=>?_) T.kind)
  dsimp only at HD Fc ⊢
  generalize Ry:s2.heap.push {cls:=.type "list",dict:=none,data:=.seq ([]:List Value).toArray}=H3 at HD Fc ⊢
  have eC:H3.objs.size=s2.heap.objs.size+1:=by rw[←Ry,Heap.size_push]
  generalize eC':H3.objs.size=C at eC HD Fc ⊢
  generalize eD:s2.heap.objs.size=D at eC ⊢
  have M3:C=D+1:=eC
  have hDC:D≠C:=by rw[M3];exact Nat.ne_of_lt (Nat.lt_succ_self D)
  have hC:s2.heap.objs.size≤C:=by rw[eD,M3];exact Nat.le_succ D
  have hD:s2.heap.objs.size≤D:=by rw[eD];exact Nat.le_refl D
  have kept:∀b o,s2.heap.get? b=some o→h4.get? b=some o:=fun b o e=>Fc.extBut b o (Nat.ne_of_lt (Nat.lt_of_lt_of_le (Heap.lt_size e) hC)) (Heap.get?_push_of_some _ (Ry▸Heap.get?_push_of_some _ e))
  have hacc:h4.get? D=some {cls:=.type "list",data:=.seq ([]:List Value).toArray ([]:List Value).length}:=Fc.extBut _ _ hDC (Heap.get?_push_of_some _ (Ry▸eD▸Heap.get?_push_size _ rfl))
  have XF:∀b∈fp,∃o,s2.heap.get? b=some o:=fun b hb=>let⟨o,e,_⟩:=GV.obj _ _ st2 b hb;⟨o,e⟩
  have hDf:D∉fp:=fun hb=>by
    obtain⟨o,e⟩:=XF D hb
    exact absurd (Nat.lt_of_lt_of_le (Heap.lt_size e) hD) (Nat.lt_irrefl _)
  have M4:tn 0 h4:=GV.keep _ _ _ st2 fun b _ o e=>kept b o e
  have key : ∀ s5 : Shared, s5 = { s2 with heap := h4, toks := s2.toks + ([] : List (Str × Value)).length } →
      codeAny (model X.prog X.w) X.A (.compLoop (.ListComp elt [⟨.Name x px,iter,ifs,0⟩] scope pos) 0 (.ref it) (.ref D) (compEnvC scope cl C X.env)) (compPost (model X.prog X.w) X.A X.xe use Qf (.ref D) C) s5:=by
    rintro s5 rfl
    have I4:Inv (lu X (x :: fL) scope cl C s2 H2 fp) [] (none :: gJ cap σ) H2 {s2 with heap:=h4,toks:=s2.toks+([]:List (Str×Value)).length}:=
      E9 (s4:={s2 with heap:=h4,toks:=s2.toks+([]:List (Str×Value)).length}) I2 T f2 XF hC HD rfl rfl kept
    generalize hY:lu X (x :: fL) scope cl C s2 H2 fp=Y at I4
    have fD:∀{H':Hp},H' D=none→uO Y [] H' D:=fun {H'} hn=>by
      subst hY
      refine⟨hn,hDC,fun z=>(List.mem_cons.mp (I2.yD D z)).elim (fun q=>absurd (Nat.lt_of_lt_of_le (q▸I2.lt) hD) (Nat.lt_irrefl _)) fun q=>I2.Mm hD q,.inr hD,fun y c e z=>?_,fun p hp=>absurd (show p∈([]:List (Addr×Obj)) from hp) (by simp)⟩
      obtain⟨v,q⟩:=I2.cell y c (T.cells _ _ e)
      exact absurd (Nat.lt_of_lt_of_le q.lt (by rw[z];exact hD)) (Nat.lt_irrefl _)
    have fF:∀{H':Hp},(∀b∈fp,H' b=none)→∀b∈fp,uO Y [] H' b:=fun {H'} hn b hb=>by
      have q:=I4.ok.QU b (by subst hY;exact hb)
      exact⟨hn b hb,fun z=>q.1 z,I4.ok.EB b (by subst hY;exact hb),.inl (by subst hY;exact hb),fun y c e z=>q.2 y c e z,fun p hp=>absurd (show p∈([]:List (Addr×Obj)) from(by subst hY;exact hp)) (by simp)⟩
    have eA:Y.A=X.A:=by subst hY;rfl
    have eP:Y.prog=X.prog:=by subst hY;rfl
    have eW:Y.w=X.w:=by subst hY;rfl
    have eK:Y.K=X.K:=by subst hY;rfl
    have eE:Y.env=compEnvC scope cl C X.env:=by subst hY;rfl
    have eX:Y.xe=fun _ _=>False:=by subst hY;rfl
    have eN:Y.N=x :: fL:=by subst hY;rfl
    have Rz:Y.calm=true:=by subst hY;exact hc
    have Zd:LN Y ifs tc:=by subst hY;exact ht _ _ _ _
    have Ze:PE Y elt te:=by subst hY;exact he _ _ _ _
    have Zf:PG Y (.Name x px) (zO 0):=CB (by rw[eN];exact T.nd) (by rw[eN];rfl) (by rw[eE];exact .inl (lookup_relabel_local T.loc)) (.inr (by rw[eE];exact lookup_relabel_local T.loc))
    have BB:∀(E':Value→Shared→Prop) (e:Value) (s':Shared),Y.xe e s'→E' e s':=fun E' e s' z=>by rw[eX] at z;exact z.elim
    refine codeAny_compLoop_tests (fun n s'=>∃i ys us H' o,Inv Y [] (o :: gJ cap σ) H' s'∧tn i s'.heap∧(∀b∈fp,H' b=none)∧H' D=none∧s'.heap.get? D=some {cls:=.type "list",data:=.seq us.toArray us.length}∧Vals ys us∧W i n ys H') ?_ m0
      ⟨0,[],[],H2,none,I4,M4,fun b hb=>(f2 b hb).1,I2.hok.fresh hD,hacc,.nil,w0⟩
    rintro n s6 ⟨i,ys,us,H6,o6,I6,RA,RB,d6,a6,v6,w6⟩
    have Zg:us.length=ys.length:=v6.length.symm
    obtain⟨hz,M5⟩:=turn i n ys H6 w6
    rcases M5 with⟨stop,qn⟩ | ⟨go,step⟩
    · have q := GV.done Y eP eW eK Rz i [] s6 (o6 :: gJ cap σ) H6 (notedBy (model X.prog X.w) X.A (compEnvC scope cl C X.env) fun e s' => compPost (model X.prog X.w) X.A X.xe use Qf (.ref D) C (.error e) s') I6 (fF RB) RA stop
      rw[eA] at q
      have RC:=I6.pinned (fp:=[D]) (fun b hb=>by rw[List.mem_singleton.mp hb];exact fD d6) (fun b hb=>by rw[List.mem_singleton.mp hb];exact⟨_,a6,fun v z=>by cases z⟩)
      have q:=GV.done Y eP eW eK Rz i _ s6 (o6 :: gJ cap σ) H6 (notedBy (model X.prog X.w) X.A (compEnvC scope cl C X.env) fun e s'=>compPost (model X.prog X.w) X.A X.xe use Qf (.ref D) C (.error e) s') RC (fun b hb=>?_) RA stop
      · rw [eA] at q
        refine fq q fun r s7 ⟨hr,I7⟩=>?_
        subst hr
        have a7:s7.heap.get? D=_:=(I7.pin (D,{cls:=.type "list",data:=.seq us.toArray us.length}) (List.mem_append_right _ (List.mem_append_right _ (iI (List.mem_singleton.mpr rfl) a6)))).1
        obtain⟨m7,Pk,_⟩:=I7.loc
        rw[eE] at Pk
        have M6:H6 D=none:=d6
        have Zh:H6 C=none:=by have:=I7.free;rw[eE] at this;exact this
        have RD:pK X.prog X.w H6 s7.heap:=by have q:=I7.hok;rw[eP,eW] at q;exact q
        have new:gI X.prog X.w (upd H6 D (.lst ys)) s7.heap D (.lst ys):=⟨Nat.le_of_lt hz,us,us.length,v6,a7⟩
        have u7:Un (frs X.stack) fp H2 H6 s2.heap s7.heap:=by have:=I7.base;subst hY;exact this
        have Zi:∀b o,s2.heap.get? b=some o→b≠D:=fun b o e=>Nat.ne_of_lt (Nat.lt_of_lt_of_le (Heap.lt_size e) hD)
        have u8:Un (frs X.stack) fp H2 (upd H6 D (.lst ys)) s2.heap s7.heap:=
          ⟨u7.keep,u7.slot,fun b o e n hx=>by rw[bh (Zi b o e)];exact u7.free b o e n hx,u7.there,
           fun b xs e=>by have z:=u7.tups b xs e;rw[bh (cD z M6)];exact z,fun b o u e=>by have z:=u7.qu b o u e;rw[bh (cD z M6)];exact z,
           fun b ps e=>by obtain⟨more,z⟩:=u7.rQ b ps e;exact⟨more,by rw[bh (cD z M6)];exact z⟩⟩
        have Zj:s7.os=s2.os:=by have:=I7.os;subst hY;exact this
        have I9:Inv X pins σ (upd H6 D (.lst ys)) s7:=I2.Mq (ch:=fp) Zj u8 (RD.M0 M6 new) I7.bare fun b hb=>⟨(f2 b hb).2.2.2.1,(f2 b hb).2.1,(f2 b hb).2.2.2.2.1,(f2 b hb).2.2.2.2.2⟩
        exact hend D C s7 H6 ys I9 ⟨m7,Pk⟩ (I2.EI hC (by rw[bh (Ne.symm hDC)];exact Zh)) (qn D M6)
      · obtain⟨f0,f1,RE,f3,f4,f5⟩:=fF RB b hb
        refine⟨f0,f1,RE,f3,f4,fun p hp z=>?_⟩
        rcases List.mem_append.mp hp with q' | q'
        · exact f5 p (List.mem_append_left _ q') z
        · rcases List.mem_append.mp q' with q' | q'
          · exact absurd q' (by simp)
          · have:=(rR q').1
            rw[List.mem_singleton.mp this] at z
            exact hDf (z▸hb)
    · have RC:=I6.pinned (fp:=[D]) (fun b hb=>by rw[List.mem_singleton.mp hb];exact fD d6) (fun b hb=>by rw[List.mem_singleton.mp hb];exact⟨_,a6,fun v z=>by cases z⟩)
      have XG:∀{H':Hp},(∀b∈fp,H' b=none)→∀b∈fp,uO Y ([]++pY [D] s6.heap) H' b:=fun {H'} hn b hb=>by
        obtain⟨f0,f1,RE,f3,f4,f5⟩:=fF hn b hb
        refine⟨f0,f1,RE,f3,f4,fun p hp z=>?_⟩
        rcases List.mem_append.mp hp with q' | q'
        · exact f5 p (List.mem_append_left _ q') z
        · rcases List.mem_append.mp q' with q' | q'
          · exact absurd q' (by simp)
          · have:=(rR q').1
            rw[List.mem_singleton.mp this] at z
            exact hDf (z▸hb)
      have q:=GV.item Y eP eW eK Rz i _ s6 (o6 :: gJ cap σ) H6 (notedBy (model X.prog X.w) X.A (compEnvC scope cl C X.env) fun e s'=>compPost (model X.prog X.w) X.A X.xe use Qf (.ref D) C (.error e) s') RC (XG RB) RA go
      rw[eA] at q
      refine fq q fun r s7 ⟨u,hr,h7⟩=>?_
      subst hr
      refine Fb h7 fun⟨xv,H8,I8,r8,y8,RG,Zk⟩=>?_
      have Zl:=I8.pinned (XG Zk) (GV.obj _ _ RG)
      have qa:=Zf _ s7 (o6 :: gJ cap σ) H8 xv u _ Zl r8 (show zO 0 xv (o6 :: gJ cap σ) H8 (fun σ' H'=>σ'=some xv :: gJ cap σ∧H'=H8) from⟨rfl,rfl⟩)
      rw[eP,eW,eA,eE] at qa
      refine wpAny_mono qa (fun _ s9 h9=>?_) (BB _)
      obtain⟨σ9,H9,I9,e9,Zm⟩:=h9
      subst e9 Zm
      have qt:=Zd _ s9 _ _ _ I9 (step xv _ y8)
      rw[eP,eW,eA,eE] at qt
      refine wpAny_mono qt (fun ok Zn h10=>?_) (BB _)
      obtain⟨Zo,XH,Pn⟩:=h10
      have back:∀{s':Shared}{H':Hp},Inv Y (([]++pY [D] s6.heap)++pY fp s7.heap) (some xv :: gJ cap σ) H' s'→Inv Y [] (some xv :: gJ cap σ) H' s'∧tn (i+1) s'.heap∧(∀b∈fp,H' b=none)∧H' D=none∧s'.heap.get? D=some {cls:=.type "list",data:=.seq us.toArray us.length}:=fun {s' H'} J=>by
        refine⟨J.nJ.nJ,GV.keep _ _ _ RG fun b hb o e=>(J.pin (b,o) (List.mem_append_right _ (List.mem_append_right _ (iI hb e)))).1,fun b hb=>?_,?_,?_⟩
        · obtain⟨o,e,d⟩:=GV.obj _ _ RG b hb
          exact(J.pin (b,o) (List.mem_append_right _ (List.mem_append_right _ (iI hb e)))).2.1
        · exact(J.pin (D,_) (List.mem_append_right _ (List.mem_append_left _ (List.mem_append_right _ (iI (List.mem_singleton.mpr rfl) a6))))).2.1
        · exact(J.pin (D,_) (List.mem_append_right _ (List.mem_append_left _ (List.mem_append_right _ (iI (List.mem_singleton.mpr rfl) a6))))).1
      cases ok with
      | false=>
        rw[if_neg (by decide)] at Pn ⊢
        obtain⟨m',hm,Zp⟩:=Pn
        obtain⟨b1,b2,b3,b4,b5⟩:=back XH
        exact⟨m',hm,i+1,ys,us,Zo,some xv,b1,b2,b3,b4,b5,v6,Zp⟩
      | true=>
        rw[if_pos rfl] at Pn ⊢
        have qe:=Ze _ Zn _ _ _ XH Pn
        rw[eP,eW,eA,eE] at qe
        refine wpAny_mono qe (fun y RH h11=>?_) (BB _)
        obtain⟨yv,XI,Zq,Zr,m',hm,Zs⟩:=h11
        obtain⟨b1,b2,b3,b4,b5⟩:=back Zq
        refine append_at (hsz:=by rw[List.size_toArray,Zg];exact Nat.le_of_lt hz) b5 fun h12 RI RJ=>?_
        have Kz:∀b o,b≠D→RH.heap.get? b=some o→h12.get? b=some o:=fun b o hb e=>RI.extBut b o hb e
        obtain⟨g0,g1,g2,g3,g4,g5⟩:=fD b4
        have Zt:Inv Y [] (some xv :: gJ cap σ) XI {RH with heap:=h12}:=b1.turned (t':=RH.toks) Kz g0 g1 g3 g4 g5
        refine⟨m',hm,i+1,ys++[yv],us++[y],XI,some xv,Zt,GV.keep _ _ _ b2 fun b hb o e=>Kz b o (fun z=>hDf (z▸hb)) e,b3,b4,RJ.trans (congrArg some (Ky us y)),v6.append (.cons Zr .nil),Zs⟩
  exact codeAny_compStart_list (key _ rfl) (GV.self _ 0 _ _ _ M4 (key _ rfl))
theorem Fd {X:Cx}{elt iter:Expr}{ifs:List Expr}{x:Str}{px pos:Pos}{scope:Scope}{cl:List (Str×Addr)}{fL:List Str}{cap:List Nat}{wi:TI}{tc:TT}{te:TE}
  (T:pB X x fL cap scope cl) (hc:X.calm=true) (hi:PI X (.Name x px) iter wi)
  (ht:∀C s H fp,LN (lu X (x :: fL) scope cl C s H fp) ifs tc) (he:∀C s H fp,PE (lu X (x :: fL) scope cl C s H fp) elt te)
  (hs:∀x,foldedSetIterable iter X.env x=pure x:=by intro _;rfl):
  PE X (.ListComp elt [⟨.Name x px,iter,ifs,0⟩] scope pos) (Rw wi cap tc te):=by
 intro pins s σ H Q I h
 rw[eval_ListComp]
 refine BA T hc hi ht he hs I h ?_
 rintro p C s7 H6 ys I9 ⟨m7,Pk⟩ ⟨g0,g1,g2,g3,g4,g5⟩ q
 exact⟨m7,Pk,fun h' hs'=>⟨.ref p,_,I9.turned (t':=s7.toks) (fun b o hb e=>hs'.extBut b o hb e) g0 g1 g3 g4 g5,rfl,q⟩⟩
end L2
end
section
set_option Elab.async false
set_option linter.all false
set_option maxRecDepth 100000
namespace L2
open PySem PySem.Spec PyProof.Rows
noncomputable def RK (z:Str):It:=⟨fun i _=>i < z.cps.size,fun i H x H'=>H'=H∧∃c,z.cps[i]? =some c∧x= .str ⟨#[c]⟩,fun i _=>z.cps.size≤i⟩
theorem Fe {P:Program}{w:World}{K:PySem.W.Frag}{x:Str}{px:Pos}(z:Str) (it:Addr) (t:Tok) (ty:String) (hW:∀A':Around,A'.handled=none→Walks P w A' it [it] [it] z.cps.size (SignAt z) fun i h=>h.IsStrIter it ty z t i)
  (hself:∀(A:Around) (i:Nat) (s:Shared) (Q:Value→Shared→Prop) (E:Value→Shared→Prop),s.heap.IsStrIter it ty z t i→Q (.ref it) s→wpAny (model P w) A (pyIter (.ref it)) Q E s):
  Turn P w K (.Name x px) (RK z) [it] it (fun i h=>i≤z.cps.size∧h.IsStrIter it ty z t i) where
 mem:=by simp
 obj:=fun i h st b hb=>by
  obtain rfl:b=it:=by simpa using hb
  obtain⟨o,e,c,d⟩:=st.2
  exact⟨o,e,fun v q=>by rw[d] at q;cases q⟩
 keep:=fun i h h' st k=>by
  obtain⟨o,e,r⟩:=st.2
  exact⟨st.1,o,k it (by simp) o e,r⟩
 item:=by
  intro X hP hw hK hc i pins s σ H E I hf st hg
  subst hP hw hK
  obtain⟨f0,f1,f2,f3,f4,f5⟩:=hf it (by simp)
  refine(hW X.A (I.ok.hd hc)).item i s _ _ hg st.2 fun v h' tk hv st' kk=>?_
  obtain⟨c,u,hc',rfl⟩:=hv
  exact⟨_,rfl,wpAny_pure ⟨.str ⟨#[c]⟩,H,I.turned (fun b o hb e=>kk b o (by simpa using hb) e) f0 f1 f3 f4 f5,⟨u,rfl⟩,⟨rfl,c,hc',rfl⟩,⟨hg,st'⟩,fun b hb=>(hf b hb).1⟩⟩
 done:=by
  intro X hP hw hK hc i pins s σ H E I hf st hg
  subst hP hw hK
  obtain⟨f0,f1,f2,f3,f4,f5⟩:=hf it (by simp)
  obtain⟨s1,s2⟩:=st
  have e:i=z.cps.size:=Nat.le_antisymm s1 hg
  subst e
  exact(hW X.A (I.ok.hd hc)).done s _ _ s2 fun h' tk kk=>⟨rfl,I.turned (fun b o hb e=>kk b o (by simpa using hb) e) f0 f1 f3 f4 f5⟩
 self:=fun A i s Q E st h=>hself A i s Q E st.2 h
noncomputable def RL (tl:TE):TI:=fun σ H R=>tl σ H fun x H1=>∃z,x= .str z∧R (RK z) H1
theorem KA {X:Cx}{x:Str}{px:Pos}{l:Expr}{tl:TE}(hl:PE X l tl):PI X (.Name x px) l (RL tl):=by
 intro pins s σ H R I h
 refine fq (hl pins s σ H _ I h) fun v s1 ⟨y,H1,I1,r1,q1⟩=>?_
 obtain⟨z,rfl,q⟩:=q1
 obtain⟨t,rfl⟩:=r1
 refine wpAny_pyIter_strU ?_
 have hst:∀ty,strIterType z=ty→(s1.heap.push {cls:=.type (strIterType z),data:=.fields #[.str z t,.int 0 0]}).IsStrIter s1.heap.objs.size ty z t 0:=fun ty e=>⟨_,Heap.get?_push_size _ rfl,by rw[←e],rfl⟩
 have go:∀ty,strIterType z=ty→(∀A':Around,A'.handled=none→Walks X.prog X.w A' s1.heap.objs.size [s1.heap.objs.size] [s1.heap.objs.size] z.cps.size (SignAt z) fun i h=>h.IsStrIter s1.heap.objs.size ty z t i)→
   (∀(A:Around) (i:Nat) (s:Shared) (Q:Value→Shared→Prop) (E:Value→Shared→Prop),s.heap.IsStrIter s1.heap.objs.size ty z t i→Q (.ref s1.heap.objs.size) s→wpAny (model X.prog X.w) A (pyIter (.ref s1.heap.objs.size)) Q E s)→
   Q8 X pins σ (.Name x px) R (.ref s1.heap.objs.size) {s1 with heap:=s1.heap.push {cls:=.type (strIterType z),data:=.fields #[.str z t,.int 0 0]}}:=fun ty e hW hself=>by
  refine⟨s1.heap.objs.size,[s1.heap.objs.size],_,_,H1,rfl,I1.kept (t':=s1.toks) fun b o e=>Heap.get?_push_of_some _ e,Fe z _ t ty hW hself,⟨Nat.zero_le _,hst ty e⟩,fun b hb=>?_,q⟩
  obtain rfl:b=s1.heap.objs.size:=by simpa using hb
  exact I1.EI (Nat.le_refl _) (I1.hok.fresh (Nat.le_refl _))
 cases ha:z.cps.all (· < 128)
 ·exact go "str_iterator" (by simp[strIterType,ha]) (fun A' hA=>Walks.strWide hA _ z t) fun A i s Q E st h=>wpAny_pyIter_striter_wide st h
 ·exact go "str_ascii_iterator" (by simp[strIterType,ha]) (fun A' hA=>Walks.strAscii hA _ z t) fun A i s Q E st h=>wpAny_pyIter_striter_ascii st h
theorem Ff {bs:List Bool}:∀{us:List Value},Vals (bs.map V.bl) us→us=bs.map Value.bool:=by
 induction bs with
 | nil=>intro us r;cases r;rfl
 | cons b bs ih=>
  intro us r
  cases r with
  | cons r1 r2=>
   cases r1
   rw[ih r2]
   rfl
theorem BC (bs:List Bool):((List.range bs.length).all fun i=>(bs[i]?).getD true)=bs.all id:=by
 rw[Bool.eq_iff_iff,List.all_eq_true,List.all_eq_true]
 constructor
 ·intro h b hb
  obtain⟨i,hi,rfl⟩:=List.mem_iff_getElem.mp hb
  have:=h i (List.mem_range.mpr hi)
  simpa[hi] using this
 ·intro h i hi
  have hi:=List.mem_range.mp hi
  simp only[List.getElem?_eq_getElem hi,Option.getD_some]
  exact h _ (List.getElem_mem hi)
theorem Dz {X:Cx}(hc:X.calm=true):jf X (.builtin "all") (fun xs H Q=>∃(p:Addr) (bs:List Bool),xs=[.ref p]∧pQ X.K H p (bs.map V.bl)∧Q (.bl (bs.all id)) H):=by
 intro pins s σ H xs us Q I r h
 obtain⟨p,bs,rfl,hp,q⟩:=h
 obtain⟨u,rfl,ru⟩:=vals1 r
 cases ru
 obtain⟨its,rv,pl,hz⟩:=I.list hp
 obtain rfl:=Ff rv
 have hlt:p < s.heap.objs.size:=by obtain⟨_,e,_⟩:=pl.isList;exact Heap.lt_size e
 refine call_all_walk (wpAny_pyIter_list pl.isList ?_)
 refine⟨s.heap.objs.size,[s.heap.objs.size,p],[s.heap.objs.size],_,_,_,fun i=>(bs[i]?).getD true,rfl,Walks.list (A:=X.A.in1) (I.ok.hd hc) _ p (Nat.ne_of_lt hlt) _,
  ⟨⟨_,Heap.get?_push_size _ rfl,rfl,rfl⟩,pl.isList.push _⟩,fun i v s' Q' E' hP hQ=>?_,fun h' tk hk=>?_⟩
 ·have hP:(bs.map Value.bool)[i]? =some v:=by simpa using hP
  rw[List.getElem?_map] at hP
  cases e:bs[i]? with
  | none=>rw[e] at hP;cases hP
  | some b=>
   rw[e] at hP
   cases hP
   simp only[e,Option.getD_some] at hQ
   exact wpAny_truthy_bool hQ
 ·have e:((List.range (bs.map Value.bool).toArray.size).all fun i=>(bs[i]?).getD true)=bs.all id:=by
   rw[List.size_toArray,List.length_map];exact BC bs
  rw[e]
  exact⟨.bl (bs.all id),H,I.kept (t':=tk) fun b o e=>hk b o (fun hm=>by rw[List.mem_singleton.mp hm] at e;exact Nat.lt_irrefl _ (Heap.lt_size e)) (Heap.get?_push_of_some _ e),rfl,q⟩
noncomputable def RM:V→Option Int→Option Int→Hp→VK→Prop:=fun x lo hi H Q=>∃z,x= .str z∧z.length≤sizeLine∧((Txt.slice z lo hi).length≤z.length→Q (.str (Txt.slice z lo hi)) H)
theorem KC {X:Cx}:Hx X RM:=by
 intro pins s σ H x v vl vu lo hi sl Q I rx hs pl pu h
 obtain⟨z,rfl,hz,q⟩:=h
 obtain⟨t,rfl⟩:=rx
 have q:=q (Txt.slice_le z _ _)
 refine⟨"str",_,F.slot_str_getitem.lookup,typeIs_str _ _ _,?_⟩
 cases pl with
 | none=>
  cases pu with
  | none=>exact wpAny_getItem_str_slice (l:=none) (u:=none) (st:=none) hs rfl (post_val_or_str ⟨Nat.le_trans (Txt.slice_le z _ _) hz,fun t' k=>⟨V.str (Txt.slice z none none),H,I.tok k,⟨t',rfl⟩,q⟩⟩)
  | int j u=>exact wpAny_getItem_str_slice (l:=none) (u:=some (j,u)) (st:=none) hs rfl (post_val_or_str ⟨Nat.le_trans (Txt.slice_le z _ _) hz,fun t' k=>⟨V.str (Txt.slice z none (some j)),H,I.tok k,⟨t',rfl⟩,q⟩⟩)
 | int i u'=>
  cases pu with
  | none=>exact wpAny_getItem_str_slice (l:=some (i,u')) (u:=none) (st:=none) hs rfl (post_val_or_str ⟨Nat.le_trans (Txt.slice_le z _ _) hz,fun t' k=>⟨V.str (Txt.slice z (some i) none),H,I.tok k,⟨t',rfl⟩,q⟩⟩)
  | int j u=>exact wpAny_getItem_str_slice (l:=some (i,u')) (u:=some (j,u)) (st:=none) hs rfl (post_val_or_str ⟨Nat.le_trans (Txt.slice_le z _ _) hz,fun t' k=>⟨V.str (Txt.slice z (some i) (some j)),H,I.tok k,⟨t',rfl⟩,q⟩⟩)
end L2
end
section
set_option Elab.async false
set_option linter.all false
set_option maxRecDepth 100000
namespace L2
open PySem PySem.Spec PyProof.Rows
inductive D where
 | cH | bl (b:Bool) | int (i:Int) | str (z:Str) | tup (ds:List D) | lst (ds:List D)
mutual
inductive Rep (H:Hp):V→D→Prop
 | cH:Rep H .cH .cH
 | bl (b:Bool):Rep H (.bl b) (.bl b)
 | int (i:Int):Rep H (.int i) (.int i)
 | str (z:Str):Rep H (.str z) (.str z)
 | tup {a:Addr}{vs:List V}{ds:List D}(e:H a=some (.tup vs)) (r:cu H vs ds):Rep H (.ref a) (.tup ds)
 | lst {a:Addr}{vs:List V}{ds:List D}(e:H a=some (.lst vs)) (r:cu H vs ds):Rep H (.ref a) (.lst ds)
inductive cu (H:Hp):List V→List D→Prop
 | nil:cu H [] []
 | cons {v:V}{d:D}{vs:List V}{ds:List D}(r:Rep H v d) (rs:cu H vs ds):cu H (v :: vs) (d :: ds)
end
noncomputable def RN:HO→Bool
 | .lst _=>true
 | .tup _=>true
 | .j3 _ _=>true
 | _=>false
noncomputable def wG (H H':Hp):Prop:=∀b o,RN o=true→H b=some o→H' b=some o
theorem wG.refl (H:Hp):wG H H:=fun _ _ _ h=>h
theorem wG.trans {H H1 H2:Hp}(x:wG H H1) (y:wG H1 H2):wG H H2:=fun b o s h=>y b o s (x b o s h)
theorem wG.seq {K:PySem.W.Frag}{H H':Hp}{a:Addr}{xs:List V}(e:wG H H') (h:pQ K H a xs):pQ K H' a xs:=by
 rcases h with(h | ⟨o,h⟩) | h
 ·exact .inl (.inl (e _ _ rfl h))
 ·exact .inl (.inr ⟨o,e _ _ rfl h⟩)
 ·exact .inr h
theorem wG.of {H H':Hp}(x:uT H H'):wG H H':=fun b o _ h=>x b o h
theorem cu.length {H:Hp}:∀{vs:List V}{ds:List D},cu H vs ds→vs.length=ds.length
 | _,_,.nil=>rfl
 | _,_,.cons _ rs=>congrArg Nat.succ (cu.length rs)
theorem cu.get {H:Hp}:∀{vs:List V}{ds:List D}{i:Nat}{d:D},cu H vs ds→ds[i]? =some d→∃v,vs[i]? =some v∧Rep H v d
 | _,_,_,_,.nil,e=>by simp at e
 | _,_,0,_,.cons r _,e=>by simp at e;subst e;exact⟨_,rfl,r⟩
 | _,_,i+1,_,.cons _ rs,e=>by
  obtain⟨v,h1,h2⟩:=cu.get (i:=i) rs (by simpa using e)
  exact⟨v,by simpa using h1,h2⟩
theorem cu.append {H:Hp}:∀{vs ws:List V}{ds es:List D},cu H vs ds→cu H ws es→cu H (vs++ws) (ds++es)
 | _,_,_,_,.nil,s=>s
 | _,_,_,_,.cons r rs,s=>.cons r (cu.append rs s)
theorem cu.take {H:Hp}:∀{vs:List V}{ds:List D}(n:Nat),cu H vs ds→cu H (vs.take n) (ds.take n)
 | _,_,0,_=>.nil
 | _,_,_+1,.nil=>.nil
 | _,_,n+1,.cons r rs=>.cons r (cu.take n rs)
theorem cu.drop {H:Hp}:∀{vs:List V}{ds:List D}(n:Nat),cu H vs ds→cu H (vs.drop n) (ds.drop n)
 | _,_,0,rs=>rs
 | _,_,_+1,.nil=>.nil
 | _,_,n+1,.cons _ rs=>cu.drop n rs
noncomputable def I0:D→String
 | .cH=>"NoneType" | .bl _=>"bool" | .int _=>"int" | .str _=>"str" | .tup _=>"tuple" | .lst _=>"list"
open PySem.W in
noncomputable def iW (T U:String):Option Bool:=if(Value.type T == Value.type U)=true then some true else if kitMeta U=true then(fastBuiltinMro T).map (·.contains (Value.type U)) else none
theorem Rep.ty {K:PySem.W.Frag}{H:Hp}{v:V}{d:D}(r:Rep H v d):uv K H v (.type (I0 d)):=by
 cases r with
 | cH=>exact .cH
 | bl b=>exact .bl b
 | int i=>exact .int i
 | str z=>exact .str z
 | tup e _=>exact .tup e
 | lst e _=>exact .lst e
noncomputable def bZ:D→Bool
 | .tup _=>true
 | _=>false
noncomputable def Fg:D→Bool
 | .lst _=>true
 | _=>false
noncomputable def dU:D→Bool
 | .str _=>true
 | _=>false
noncomputable def zW:D→Bool
 | .bl _=>true
 | _=>false
noncomputable def yP:D→Bool
 | .int _=>true
 | .bl _=>true
 | _=>false
theorem HE {K:PySem.W.Frag}(d:D):PySem.W.kitOne K (.type (I0 d)) (.type "tuple")=some (bZ d):=by
 cases d with
 | cH=>exact(show iW "NoneType" "tuple" =some false by decide +kernel)
 | bl b=>exact(show iW "bool" "tuple" =some false by decide +kernel)
 | int i=>exact(show iW "int" "tuple" =some false by decide +kernel)
 | str z=>exact(show iW "str" "tuple" =some false by decide +kernel)
 | tup ds=>exact(show iW "tuple" "tuple" =some true by decide +kernel)
 | lst ds=>exact(show iW "list" "tuple" =some false by decide +kernel)
theorem HF {K:PySem.W.Frag}(d:D):PySem.W.kitOne K (.type (I0 d)) (.type "list")=some (Fg d):=by
 cases d with
 | cH=>exact(show iW "NoneType" "list" =some false by decide +kernel)
 | bl b=>exact(show iW "bool" "list" =some false by decide +kernel)
 | int i=>exact(show iW "int" "list" =some false by decide +kernel)
 | str z=>exact(show iW "str" "list" =some false by decide +kernel)
 | tup ds=>exact(show iW "tuple" "list" =some false by decide +kernel)
 | lst ds=>exact(show iW "list" "list" =some true by decide +kernel)
theorem Fi {K:PySem.W.Frag}(d:D):PySem.W.kitOne K (.type (I0 d)) (.type "str")=some (dU d):=by
 cases d with
 | cH=>exact(show iW "NoneType" "str" =some false by decide +kernel)
 | bl b=>exact(show iW "bool" "str" =some false by decide +kernel)
 | int i=>exact(show iW "int" "str" =some false by decide +kernel)
 | str z=>exact(show iW "str" "str" =some true by decide +kernel)
 | tup ds=>exact(show iW "tuple" "str" =some false by decide +kernel)
 | lst ds=>exact(show iW "list" "str" =some false by decide +kernel)
theorem KD {K:PySem.W.Frag}(d:D):PySem.W.kitOne K (.type (I0 d)) (.type "bool")=some (zW d):=by
 cases d with
 | cH=>exact(show iW "NoneType" "bool" =some false by decide +kernel)
 | bl b=>exact(show iW "bool" "bool" =some true by decide +kernel)
 | int i=>exact(show iW "int" "bool" =some false by decide +kernel)
 | str z=>exact(show iW "str" "bool" =some false by decide +kernel)
 | tup ds=>exact(show iW "tuple" "bool" =some false by decide +kernel)
 | lst ds=>exact(show iW "list" "bool" =some false by decide +kernel)
theorem HG {K:PySem.W.Frag}(d:D):PySem.W.kitOne K (.type (I0 d)) (.type "int")=some (yP d):=by
 cases d with
 | cH=>exact(show iW "NoneType" "int" =some false by decide +kernel)
 | bl b=>exact(show iW "bool" "int" =some true by decide +kernel)
 | int i=>exact(show iW "int" "int" =some true by decide +kernel)
 | str z=>exact(show iW "str" "int" =some false by decide +kernel)
 | tup ds=>exact(show iW "tuple" "int" =some false by decide +kernel)
 | lst ds=>exact(show iW "list" "int" =some false by decide +kernel)
end L2
end
section
set_option Elab.async false
set_option linter.all false
set_option maxRecDepth 100000
namespace HT
open PySem PySem.Spec PyProof.Rows
section
variable {prog:Program}{w:World}{A:Around}{E:Value→Shared→Prop}{s:Shared}
theorem DA {t sl:Addr}{items:Array Value}{vl vu:Value}{lo hi:Option Int}{Q:Value→Shared→Prop}(ht:IsTup s.heap t items) (hs:s.heap.IsSliceOf sl vl vu .none) (pl:IsPart vl lo) (pu:IsPart vu hi)
  (hw:gH items.size 0 lo=0∧gH items.size items.size hi=items.size) (h:Q (.ref t) s):wpAny (model prog w) A (getItem (.ref t) (.ref sl)) Q E s:=by
 obtain⟨os,hos,hcs,hds⟩:=id hs
 have Ro:s.TypeIs (.ref sl) "slice":=⟨os,hos,hcs⟩
 unfold getItem
 try with_reducible refine wpAny_holding ?_
 first | refine wpAny_bind (wpAny_pure ?_) | skip
 refine wpAny_bind (wpAny_sequenceKey ht.typeIs (by decide) ?_)
 refine wpAny_bind (wpAny_callSpecial?_slot (name:=Str.ofString "__getitem__") ht.typeIs PyProof.Rows.slot_tuple_getitem
  (wpAny_call_entry PyProof.Rows.slot_tuple_getitem ht.typeIs entry_tuple_getitem ?_ (args_tuple_getitem _ _)))
 show wpAny _ _ (Builtin.Tuple.tupleItemsOf (.ref t) >>= _) _ _ s
 refine wpAny_bind (tupleItemsOf_ ht ?_)
 refine wpAny_bind (wpAny_typeOf Ro ?_)
 rw[if_pos (by decide)]
 refine wpAny_bind (lU hs pl pu ?_)
 have hyes:(((gH items.size 0 lo:Nat):Int) == 0 && (1:Int) == 1 && (gH items.size items.size hi - gH items.size 0 lo) == items.size)=true:=by
  rw[hw.1,hw.2];simp
 show wpAny _ _ (if(((gH items.size 0 lo:Nat):Int) == 0 && (1:Int) == 1 && (gH items.size items.size hi - gH items.size 0 lo) == items.size)=true then _ else _) _ _ s
 rw[if_pos hyes]
 have hex:∀{α:Type}{k:Bool→Sem α}{Q':α→Shared→Prop}{E':Value→Shared→Prop}{A':Around},wpAny (model prog w) A' (k true) Q' E' s→wpAny (model prog w) A' (Builtin.Tuple.tupleIsExact (.ref t) >>= k) Q' E' s:=fun {α k Q' E' A'} hk=>by
  refine wpAny_bind ?_
  unfold Builtin.Tuple.tupleIsExact
  exact wpAny_bind (wpAny_typeOf ht.typeIs (wpAny_pure hk))
 first
  | (refine hex ?_;exact wpAny_rule (wpAny_pure ⟨_,rfl,wpAny_pure h⟩))
  | (refine hex ?_;refine wpAny_bind (wpAny_rule ?_);exact wpAny_pure ⟨_,rfl,wpAny_pure h⟩)
end
end HT
end
section
set_option Elab.async false
set_option linter.all false
set_option maxRecDepth 100000
namespace L2
open PySem PySem.Spec PyProof.Rows
section
variable {X:Cx}
theorem Rep.lV {H:Hp}{v:V}{ds:List D}(r:Rep H v (.tup ds)):∃a vs,v= .ref a∧H a=some (.tup vs)∧cu H vs ds:=by
 cases r with
 | tup e rs=>exact⟨_,_,rfl,e,rs⟩
theorem Rep.kT {H:Hp}{v:V}{ds:List D}(r:Rep H v (.lst ds)):∃a vs,v= .ref a∧H a=some (.lst vs)∧cu H vs ds:=by
 cases r with
 | lst e rs=>exact⟨_,_,rfl,e,rs⟩
noncomputable def cutD (ds:List D) (lo hi:Option Int):List D:=(ds.drop (HT.gH ds.length 0 lo)).take (HT.gH ds.length ds.length hi - HT.gH ds.length 0 lo)
theorem cu.iJ {H:Hp}{vs:List V}{ds:List D}{i:Int}{d:D}(r:cu H vs ds) (h:L2.iJ ds i=some d):∃v,L2.iJ vs i=some v∧Rep H v d:=by
 have hl:=r.length
 unfold L2.iJ at h ⊢
 rw[hl]
 cases e:Bg ds.length i with
 | none=>rw[e] at h;cases h
 | some j=>
  rw[e] at h
  exact r.get h
end
end L2
end
section
set_option Elab.async false
set_option linter.all false
set_option maxRecDepth 100000
namespace L2
open PySem PySem.Spec PyProof.Rows
theorem zX {scope:Scope}{env:Env}{n:Str}{k:NameKind}(h:(relabel scope env).names.lookup n=some k):(n,k)∈(relabel scope env).names:=PySem.mem_of_lookup h
theorem p5 {X:Cx}{x:Str}{scope:Scope}(h1:∀y∈scope.names,y.2≠.free) (h2:∀y∈scope.names,y.2≠.cell) (h3:scope.kind= .function) (h4:∀y∈scope.names,y.2= .local→scope.names.lookup y.1=some .local) (h5:scope.names.lookup x=some .local):
  pB X x [] [] scope []:=by
 refine⟨closureFor_none h1,h2,h3,h4,h5,fun n c h=>(by cases h),fun n h=>?_,by simp,rfl,fun j n h=>(by simp at h),fun n h=>(by simp at h)⟩
 have no:∀k,(k=NameKind.cell∨k=NameKind.free)→(relabel scope X.env).names.lookup n≠some k:=fun k hk e=>by
  have m:=zX e
  unfold relabel at m
  obtain⟨⟨n',k'⟩,hm,q⟩:=List.mem_map.mp m
  have z:(k' == NameKind.free)=false:=by simpa using h1 _ hm
  simp only[z,Bool.false_and,if_false] at q
  have q2:k'=k:=by
   have:=congrArg Prod.snd q
   simpa using this
  rcases hk with rfl | rfl
  ·exact h2 _ hm q2
  ·exact h1 _ hm q2
 rcases h with h | h
 ·exact absurd h (no _ (.inl rfl))
 ·exact absurd h (no _ (.inr rfl))
mutual
noncomputable def iC (n:Nat):D→Prop
 | .str z=>z.length≤n
 | .tup ds=>ds.length≤n∧Fits n ds
 | .lst ds=>ds.length≤n∧Fits n ds
 | .cH=>True
 | .bl _=>True
 | .int _=>True
noncomputable def Fits (n:Nat):List D→Prop
 | []=>True
 | d :: ds=>iC n d∧Fits n ds
end
mutual
theorem iC.mono {n m:Nat}(l:n≤m):∀{d:D},iC n d→iC m d
 | .str _,h=>Nat.le_trans h l
 | .tup _,h=>⟨Nat.le_trans h.1 l,Fits.mono l h.2⟩
 | .lst _,h=>⟨Nat.le_trans h.1 l,Fits.mono l h.2⟩
 | .cH,_=>True.intro
 | .bl _,_=>True.intro
 | .int _,_=>True.intro
theorem Fits.mono {n m:Nat}(l:n≤m):∀{ds:List D},Fits n ds→Fits m ds
 | [],_=>True.intro
 | _ :: _,h=>⟨iC.mono l h.1,Fits.mono l h.2⟩
end
theorem Fits.append {n:Nat}:∀{ds es:List D},Fits n ds→Fits n es→Fits n (ds++es)
 | [],_,_,h=>h
 | _ :: _,_,h,k=>⟨h.1,Fits.append h.2 k⟩
theorem Fits.take {n:Nat}:∀{ds:List D}(k:Nat),Fits n ds→Fits n (ds.take k)
 | _,0,_=>True.intro
 | [],_+1,_=>True.intro
 | _ :: _,k+1,h=>⟨h.1,Fits.take k h.2⟩
theorem Fits.drop {n:Nat}:∀{ds:List D}(k:Nat),Fits n ds→Fits n (ds.drop k)
 | _,0,h=>h
 | [],_+1,_=>True.intro
 | _ :: _,k+1,h=>Fits.drop k h.2
theorem Fits.get {n:Nat}:∀{ds:List D}{i:Nat}{d:D},Fits n ds→ds[i]? =some d→iC n d
 | [],_,_,_,e=>by simp at e
 | _ :: _,0,_,h,e=>by simp at e;subst e;exact h.1
 | _ :: _,i+1,_,h,e=>Fits.get (i:=i) h.2 (by simpa using e)
theorem fY (ds:List D) (lo hi:Option Int):(cutD ds lo hi).length≤ds.length:=by
 unfold cutD
 rw[List.length_take,List.length_drop]
 omega
theorem Fits.cut {n:Nat}{ds:List D}(h:Fits n ds) (lo hi:Option Int):Fits n (cutD ds lo hi):=(h.drop _).take _
noncomputable def cY (d:D) (l m:Int):Bool:=match d with
 | .int i=>decide (l≤i) && decide (i≤m)
 | _=>false
noncomputable def gf (d:D) (l m:Int):Bool:=match d with
 | .tup ds=>decide (l≤(ds.length:Int)) && decide ((ds.length:Int)≤m)
 | _=>false
end L2
end
section
set_option Elab.async false
set_option linter.all false
set_option maxRecDepth 100000
namespace L2
open PySem PySem.Spec PyProof.Rows
theorem lookup_some {α : Type} : ∀ {l : List (Str × α)} {n : Str}, n ∈ l.map (·.1) → ∃ c, l.lookup n = some c
  | [],_,h=>by simp at h
  | (m, c) :: l, n, h => by
    rw[List.lookup_cons]
    cases e:n == m with
    | true=>exact⟨c,rfl⟩
    | false=>
      rcases List.mem_cons.mp h with h | h
      · have h:n=m:=h
        rw[h,beq_self_eq_true] at e
        cases e
      · exact lookup_some h
end L2
end
section
set_option Elab.async false
set_option linter.all false
set_option maxRecDepth 100000
namespace L2
open PySem PySem.Spec PyProof.Rows
end L2
end
section
set_option Elab.async false
set_option linter.all false
set_option maxRecDepth 100000
namespace L2
open PySem PySem.Spec PyProof.Rows
mutual
noncomputable def toPy:D→PyData
 | .cH=>.none
 | .bl b=>.bool b
 | .int i=>.int i
 | .str z=>.str z
 | .tup ds=>.tuple (Fj ds)
 | .lst ds=>.list (Fj ds)
noncomputable def Fj:List D→List PyData
 | []=>[]
 | d :: ds=>toPy d :: Fj ds
end
section
variable {X:Cx}{pins:List (Addr×Obj)}{σ:St}{H:Hp}{s:Shared}
end
end L2
end
section
set_option Elab.async false
set_option linter.all false
set_option maxRecDepth 100000
namespace L2
open PySem PySem.Spec PyProof.Rows
inductive MO where
 | lst (ds:List D)
 | dct (kvs:List (Key×D))
 | yQ (kvs:List (List Key×D))
inductive U where
 | t (d:D) | m (o:MO) | b (o:MO) | v (i:Nat) | s (ns:List Int)
noncomputable abbrev SS:=List (Option U)
noncomputable def Sub (F H:Hp):Prop:=∀a o,F a=some o→H a=some o
noncomputable def iO {κ:Type}(F:Hp) (p:κ×V) (q:κ×D):Prop:=p.1=q.1∧Rep F p.2 q.2
noncomputable def At (F H:Hp) (a:Addr):MO→Prop
 | .lst ds=>∃vs,H a=some (.lst vs)∧cu F vs ds
 | .dct kvs=>∃ws,H a=some (.dK ws)∧Paired (iO F) ws kvs
 | .yQ kvs=>∃ws,H a=some (.dT ws)∧Paired (iO F) ws kvs
noncomputable def gK:U→Bool
 | .m _=>true
 | .b _=>true
 | _=>false
noncomputable def d9 (S:SS) (σ:St) (a:Addr):Prop:=∃(i:Nat) (u:U),S[i]? =some (some u)∧gK u=true∧σ[i]? =some (some (.ref a))
noncomputable def HH (K:PySem.W.Frag) (H:Hp) (a:Addr) (ns:List Int):Prop:=
 (∃o,H a=some (.j3 o (.lst (ns.map V.int))))∨∃(o:Obj) (its:Array Value) (n:Nat),K.lookup a=some o∧o.cls= .type "list"∧o.dict=none∧o.data= .seq its n∧its.size≤sizeLine∧Vals (ns.map V.int) its.toList
theorem HH.sq {K:PySem.W.Frag}{H:Hp}{a:Addr}{ns:List Int}:HH K H a ns→pQ K H a (ns.map V.int)
 | .inl h=>.inl (.inr h)
 | .inr h=>.inr h
noncomputable def wH (K:PySem.W.Frag) (F H:Hp) (v:V):U→Prop
 | .t d=>Rep F v d
 | .m o=>∃a,v= .ref a∧F a=none∧At F H a o
 | .b o=>∃a,v= .ref a∧F a=none∧At F H a o
 | .v _=>False
 | .s ns=>∃a,v= .ref a∧HH K H a ns
structure Ext (M:Addr→Prop) (F H F' H':Hp):Prop where
 le:∀b o,F b=some o→F' b=some o
 keep:∀b o,H b=some o→¬M b→H' b=some o
 jV:∀b o,H b=some o→¬M b→F b=none→F' b=none
 there:∀b o,H b=some o→∃o',H' b=some o'
 j3:∀b o u,H b=some (.j3 o u)→H' b=some (.j3 o u)
structure Base where
 P:List (Option Addr)
 F:Hp
 H:Hp
noncomputable def Base.M (B:Base) (a:Addr):Prop:=some a∈B.P
structure Rel (K:PySem.W.Frag) (B:Base) (S:SS) (σ:St) (F H:Hp):Prop where
 sub:Sub F H
 len:S.length=σ.length
 rep:∀(i:Nat) u,S[i]? =some (some u)→∃v,σ[i]? =some (some v)∧wH K F H v u
 CP:∀(i j:Nat) u w a,S[i]? =some (some u)→gK u=true→S[j]? =some (some w)→gK w=true→σ[i]? =some (some (.ref a))→σ[j]? =some (some (.ref a))→i=j
 own:∀(i:Nat) o a,S[i]? =some (some (.m o))→σ[i]? =some (some (.ref a))→B.H a=none
 bor:∀(i:Nat) o a,S[i]? =some (some (.b o))→σ[i]? =some (some (.ref a))→B.M a
 par:∀(i:Nat) a,B.P[i]? =some (some a)→σ[i]? =some (some (.ref a))∧∃o,S[i]? =some (some (.b o))
 ext:Ext B.M B.F B.H F H
structure Step (S S':SS) (σ:St) (F H F' H':Hp):Prop where
 ext:Ext (d9 S σ) F H F' H'
 mu:∀a,d9 S' σ a→d9 S σ a
 slots:∀(i:Nat) u,S[i]? =some (some u)→∃u',S'[i]? =some (some u')
theorem Ext.refl (M:Addr→Prop) (F H:Hp):Ext M F H F H:=⟨fun _ _ h=>h,fun _ _ h _=>h,fun _ _ _ _ h=>h,fun _ o h=>⟨o,h⟩,fun _ _ _ h=>h⟩
theorem Ext.trans {M M':Addr→Prop}{F H F1 H1 F2 H2:Hp}(x:Ext M F H F1 H1) (y:Ext M' F1 H1 F2 H2) (s:∀b,M' b→M b∨H b=none):Ext M F H F2 H2 where
 le:=fun b o h=>y.le b o (x.le b o h)
 keep:=fun b o h n=>y.keep b o (x.keep b o h n) fun q=>(s b q).elim n fun z=>by rw[h] at z;cases z
 jV:=fun b o h n f=>y.jV b o (x.keep b o h n) (fun q=>(s b q).elim n fun z=>by rw[h] at z;cases z) (x.jV b o h n f)
 there:=fun b o h=>let⟨o',h'⟩:=x.there b o h;y.there b o' h'
 j3:=fun b o u h=>y.j3 b o u (x.j3 b o u h)
theorem Step.refl (S:SS) (σ:St) (F H:Hp):Step S S σ F H F H:=⟨Ext.refl _ _ _,fun _ h=>h,fun _ u h=>⟨u,h⟩⟩
theorem Step.trans {S S1 S2:SS}{σ:St}{F H F1 H1 F2 H2:Hp}(x:Step S S1 σ F H F1 H1) (y:Step S1 S2 σ F1 H1 F2 H2):Step S S2 σ F H F2 H2:=
 ⟨x.ext.trans y.ext fun b q=>.inl (x.mu b q),fun a q=>x.mu a (y.mu a q),fun i u h=>let⟨u',h'⟩:=x.slots i u h;y.slots i u' h'⟩
mutual
theorem Rep.le {F F':Hp}(g:∀b o,F b=some o→F' b=some o):∀{v:V}{d:D},Rep F v d→Rep F' v d
 | _,_,.cH=>.cH
 | _,_,.bl b=>.bl b
 | _,_,.int i=>.int i
 | _,_,.str z=>.str z
 | _,_,.tup e r=>.tup (g _ _ e) (cu.le g r)
 | _,_,.lst e r=>.lst (g _ _ e) (cu.le g r)
theorem cu.le {F F':Hp}(g:∀b o,F b=some o→F' b=some o):∀{vs:List V}{ds:List D},cu F vs ds→cu F' vs ds
 | _,_,.nil=>.nil
 | _,_,.cons r rs=>.cons (Rep.le g r) (cu.le g rs)
end
theorem zY {κ:Type}{F F':Hp}(g:∀b o,F b=some o→F' b=some o){ws:List (κ×V)}{kvs:List (κ×D)}(r:Paired (iO F) ws kvs):Paired (iO F') ws kvs:=
 Paired.Df r fun _ _ z=>⟨z.1,z.2.le g⟩
theorem At.le {F F' H H':Hp}{a:Addr}(g:∀b o,F b=some o→F' b=some o) (k:∀o,H a=some o→H' a=some o):∀{o:MO},At F H a o→At F' H' a o
 | .lst _,⟨vs,e,r⟩=>⟨vs,k _ e,r.le g⟩
 | .dct _,⟨ws,e,r⟩=>⟨ws,k _ e,zY g r⟩
 | .yQ _,⟨ws,e,r⟩=>⟨ws,k _ e,zY g r⟩
theorem At.has {F H:Hp}{a:Addr}:∀{o:MO},At F H a o→∃u,H a=some u
 | .lst _,⟨_,e,_⟩=>⟨_,e⟩
 | .dct _,⟨_,e,_⟩=>⟨_,e⟩
 | .yQ _,⟨_,e,_⟩=>⟨_,e⟩
noncomputable def kR (K:PySem.W.Frag) (B:Base) (S:SS) (σ:St) (H0 F H:Hp) (v:V):U→Prop
 | .t d=>Rep F v d
 | .m o=>∃a,v= .ref a∧H0 a=none∧F a=none∧At F H a o∧¬d9 S σ a∧B.H a=none
 | .v i=>σ[i]? =some (some v)∧∃u,S[i]? =some (some u)
 | .b _=>False
 | .s ns=>∃a,v= .ref a∧HH K H a ns
theorem PE.imp {X:Cx}{e:Expr}{t t':TE}(h:PE X e t) (k:∀σ H Q,t' σ H Q→t σ H Q):PE X e t':=fun pins s σ H Q I q=>h pins s σ H Q I (k σ H Q q)
theorem PT.imp {X:Cx}{e:Expr}{t t':TT}(h:PT X e t) (k:∀σ H Q,t' σ H Q→t σ H Q):PT X e t':=fun pins s σ H Q I q=>h pins s σ H Q I (k σ H Q q)
theorem PW.imp {X:Cx}{e:Expr}{t t':TT}(h:PW X e t) (k:∀σ H Q,t' σ H Q→t σ H Q):PW X e t':=fun w pins s σ H Q I q=>h w pins s σ H Q I (k σ H Q q)
theorem PA.imp {X:Cx}{e:List Expr}{t t':TA}(h:PA X e t) (k:∀σ H Q,t' σ H Q→t σ H Q):PA X e t':=fun p pins s σ H Q I q=>h p pins s σ H Q I (k σ H Q q)
theorem PS.imp {X:Cx}{e:Stmt}{t t':TS}(h:PS X e t) (k:∀D σ H,t' D σ H→t D σ H):PS X e t':=fun pins s σ H Q I q=>h pins s σ H Q I (k Q σ H q)
theorem Bf.imp {X:Cx}{e:List Stmt}{t t':TS}(h:Bf X e t) (k:∀D σ H,t' D σ H→t D σ H):Bf X e t':=fun pins s σ H Q I q=>h pins s σ H Q I (k Q σ H q)
theorem PE.orelse {X:Cx}{e:Expr}{t:TE}(h:∀σ H Q,t σ H Q→∃t',PE X e t'∧t' σ H Q):PE X e t:=fun pins s σ H Q I q=>let⟨_,h1,h2⟩:=h σ H Q q;h1 pins s σ H Q I h2
theorem PS.orelse {X:Cx}{e:Stmt}{t:TS}(h:∀D σ H,t D σ H→∃t',PS X e t'∧t' D σ H):PS X e t:=fun pins s σ H Q I q=>let⟨_,h1,h2⟩:=h Q σ H q;h1 pins s σ H Q I h2
noncomputable abbrev GE:=SS→Option (U×SS)
noncomputable abbrev GD:=SS→Option (D×SS)
noncomputable abbrev GT:=SS→Option (Bool×SS)
noncomputable abbrev GA:=SS→Option (List D×SS)
inductive Out where
 | nx (S:SS) | rt (u:U) (S:SS) | bk (S:SS) | ct (S:SS)
noncomputable abbrev GS:=SS→Option Out
noncomputable def tE (K:PySem.W.Frag) (B:Base) (g:GE):TE:=fun σ H Q=>∃S F u S',Rel K B S σ F H∧g S=some (u,S')∧∀v F' H',Rel K B S' σ F' H'→Step S S' σ F H F' H'→kR K B S' σ H F' H' v u→Q v H'
noncomputable def tD (K:PySem.W.Frag) (B:Base) (g:GD):TE:=fun σ H Q=>∃S F d S',Rel K B S σ F H∧g S=some (d,S')∧∀v F' H',Rel K B S' σ F' H'→Step S S' σ F H F' H'→Rep F' v d→Q v H'
noncomputable def tQ (K:PySem.W.Frag) (B:Base) (g:GT):TT:=fun σ H Q=>∃S F b S',Rel K B S σ F H∧g S=some (b,S')∧∀F' H',Rel K B S' σ F' H'→Step S S' σ F H F' H'→Q b H'
noncomputable def XJ (K:PySem.W.Frag) (B:Base) (g:GA):TA:=fun σ H Q=>∃S F ds S',Rel K B S σ F H∧g S=some (ds,S')∧∀vs F' H',Rel K B S' σ F' H'→Step S S' σ F H F' H'→cu F' vs ds→Q vs H'
noncomputable def CQ (K:PySem.W.Frag) (B:Base) (F:Hp) (D:Ends):Out→Prop
 | .nx S=>∀σ' F' H',Rel K B S σ' F' H'→(∀b o,F b=some o→F' b=some o)→D.nx σ' H'
 | .bk S=>∀σ' F' H',Rel K B S σ' F' H'→(∀b o,F b=some o→F' b=some o)→D.bk σ' H'
 | .ct S=>∀σ' F' H',Rel K B S σ' F' H'→(∀b o,F b=some o→F' b=some o)→D.ct σ' H'
 | .rt u S=>∀v σ' F' H',Rel K B S σ' F' H'→(∀b o,F b=some o→F' b=some o)→kR K B S σ' B.H F' H' v u→D.rt v H'
noncomputable def tO (K:PySem.W.Frag) (B:Base) (g:GS):TS:=fun D σ H=>∃S F o,Rel K B S σ F H∧g S=some o∧CQ K B F D o
structure JE (X:Cx) (e:Expr) (g:GE):Prop where
 h:∀B,PE X e (tE X.K B g)
structure JD (X:Cx) (e:Expr) (g:GD):Prop where
 h:∀B,PE X e (tD X.K B g)
structure JT (X:Cx) (e:Expr) (g:GT):Prop where
 h:∀B,PT X e (tQ X.K B g)
structure JW (X:Cx) (e:Expr) (g:GT):Prop where
 h:∀B,PW X e (tQ X.K B g)
structure JA (X:Cx) (es:List Expr) (g:GA):Prop where
 h:∀B,PA X es (XJ X.K B g)
structure JS (X:Cx) (st:Stmt) (g:GS):Prop where
 h:∀B,PS X st (tO X.K B g)
structure JB (X:Cx) (st:List Stmt) (g:GS):Prop where
 h:∀B,Bf X st (tO X.K B g)
noncomputable def fz:U→SS→Option (D×SS)
 | .t d,S=>some (d,S)
 | .m (.lst ds),S=>some (.lst ds,S)
 | .v i,S=>match S[i]? with
  | some (some (.t d))=>some (d,S)
  | some (some (.m (.lst ds)))=>some (.lst ds,S.set i (some (.t (.lst ds))))
  | _=>none
 | _,_=>none
theorem get_set {α:Type}{l:List α}{i j:Nat}{x y:α}(h:(l.set i x)[j]? =some y):(i=j∧x=y∧i < l.length)∨(i≠j∧l[j]? =some y):=by
 by_cases e:i=j
 ·subst e
  by_cases hl:i < l.length
  ·rw[List.getElem?_set_self hl] at h;exact .inl ⟨rfl,Option.some.inj h,hl⟩
  ·rw[List.getElem?_eq_none (by simpa using hl)] at h;cases h
 ·rw[List.getElem?_set_ne e] at h;exact .inr ⟨e,h⟩
theorem Sub.j3 {F H:Hp}{a:Addr}{o:HO}(s:Sub F H) (h:H a=some o):Sub (upd F a o) H:=fun b u e=>by
 by_cases hb:b=a
 ·subst hb;rw[bY] at e;cases e;exact h
 ·rw[bh hb] at e;exact s b u e
theorem Sub.fresh {F H:Hp}{p:Addr}(s:Sub F H) (h:H p=Option.none):F p=Option.none:=by
 cases e:F p with
 | none=>rfl
 | some o=>have q:=s p o e;rw[h] at q;cases q
theorem rT {F:Hp}{a:Addr}{o:HO}(h:F a=none):∀b u,F b=some u→upd F a o b=some u:=fun b u e=>by rw[bh (cD e h)];exact e
theorem HH.le {K:PySem.W.Frag}{H H':Hp}{a:Addr}{ns:List Int}(k:∀b o u,H b=some (.j3 o u)→H' b=some (.j3 o u)):HH K H a ns→HH K H' a ns
 | .inl ⟨o,h⟩=>.inl ⟨o,k _ _ _ h⟩
 | .inr h=>.inr h
theorem wH.le {K:PySem.W.Frag}{F F' H H':Hp}{v:V}(g:∀b o,F b=some o→F' b=some o) (kf:∀b o u,H b=some (.j3 o u)→H' b=some (.j3 o u)):∀{u:U},wH K F H v u→(∀a,gK u=true→v= .ref a→(∀o,H a=some o→H' a=some o)∧F' a=none)→wH K F' H' v u
 | .t _,h,_=>Rep.le g h
 | .m _,⟨a,e,_,h⟩,k=>let⟨k1,k2⟩:=k a rfl e;⟨a,e,k2,h.le g k1⟩
 | .b _,⟨a,e,_,h⟩,k=>let⟨k1,k2⟩:=k a rfl e;⟨a,e,k2,h.le g k1⟩
 | .v _,h,_=>h
 | .s _,⟨a,e,h⟩,_=>⟨a,e,h.le kf⟩
theorem CS {K : PySem.W.Frag} {B : Base} {S S' : SS} {σ : St} {H0 F0 F H : Hp} {v : V} {u : U} {d : D} {S0 : SS} (R : Rel K B S σ F H) (st : Step S0 S σ F0 H0 F H) (r : kR K B S σ H0 F H v u) (e : fz u S = some (d, S')) :
    ∃F',Rel K B S' σ F' H∧Step S0 S' σ F0 H0 F' H∧Rep F' v d:=by
  cases u with
  | t d'=>cases e;exact⟨F,R,st,r⟩
  | b o=>cases r
  | s o=>cases e
  | m o =>
    cases o with
    | dct kvs=>cases e
    | yQ kvs=>cases e
    | lst ds=>
      cases e
      obtain⟨a,rfl,h0,hf,⟨vs,ha,rs⟩,nm,hB⟩:=r
      have g:=rT (o:=.lst vs) hf
      refine⟨upd F a (.lst vs),⟨R.sub.j3 ha,R.len,fun i u h=>?_,R.CP,R.own,R.bor,R.par,?_⟩,⟨⟨fun b o h=>g b o (st.ext.le b o h),st.ext.keep,fun b o h n f=>?_,st.ext.there,st.ext.j3⟩,st.mu,st.slots⟩,.lst bY (rs.le g)⟩
      · obtain⟨w,h1,h2⟩:=R.rep i u h
        refine⟨w,h1,h2.le g (fun _ _ _ z=>z) fun c hm hc=>⟨fun o q=>q,?_⟩⟩
        have hca:c≠a:=fun z=>nm ⟨i,u,h,hm,by rw[h1,hc,z]⟩
        rw[bh hca]
        cases u with
        | m o=>obtain⟨c',e',f',_⟩:=h2;rw[hc] at e';cases e';exact f'
        | b o=>obtain⟨c',e',f',_⟩:=h2;rw[hc] at e';cases e';exact f'
        | t d=>cases hm
        | v j=>cases hm
        | s j=>cases hm
      · exact⟨fun b o h=>g b o (R.ext.le b o h),R.ext.keep,fun b o h n f=>by rw[bh (fun z=>by rw[z,hB] at h;cases h)];exact R.ext.jV b o h n f,R.ext.there,R.ext.j3⟩
      · rw[bh (fun z=>by rw[z,h0] at h;cases h)]
        exact st.ext.jV b o h n f
  | v i =>
    obtain⟨hv,u,hu⟩:=r
    unfold fz at e
    simp only[hu] at e
    cases u with
    | t d'=>
      cases e
      obtain⟨w,h1,h2⟩:=R.rep i _ hu
      rw[hv] at h1
      cases h1
      exact⟨F,R,st,h2⟩
    | b o=>cases e
    | v j=>cases e
    | s j=>cases e
    | m o =>
      cases o with
      | dct kvs=>cases e
      | yQ kvs=>cases e
      | lst ds =>
        cases e
        obtain⟨w,h1,a,rfl,hf,⟨vs,ha,rs⟩⟩:=R.rep i _ hu
        have hiv:σ[i]? =some (some (.ref a)):=h1
        rw[hv] at h1
        cases h1
        have hB:=R.own i _ a hu hiv
        have g:=rT (o:=.lst vs) hf
        have back:∀j w,(S.set i (some (.t (.lst ds))))[j]? =some (some w)→gK w=true→i≠j∧S[j]? =some (some w):=fun j w h hm=>by
          rcases get_set h with⟨_,q,_⟩ | q
          · cases q;cases hm
          · exact q
        have mu:∀c,d9 (S.set i (some (.t (.lst ds)))) σ c→d9 S σ c:=fun c ⟨j,w,h,hm,z⟩=>⟨j,w,(back j w h hm).2,hm,z⟩
        refine⟨upd F a (.lst vs),⟨R.sub.j3 ha,by rw[List.length_set];exact R.len,fun j u h=>?_,fun j k u w c h1 m1 h2 m2=>R.CP j k u w c (back j u h1 m1).2 m1 (back k w h2 m2).2 m2,fun j o c h=>R.own j o c (back j _ h rfl).2,fun j o c h=>R.bor j o c (back j _ h rfl).2,fun j c h=>?_,?_⟩,
          ⟨⟨fun b o h=>g b o (st.ext.le b o h),st.ext.keep,fun b o h n f=>?_,st.ext.there,st.ext.j3⟩,fun c q=>st.mu c (mu c q),fun j u h=>?_⟩,.lst bY (rs.le g)⟩
        · rcases get_set h with⟨rfl,q,_⟩ | ⟨ne,q⟩
          · cases q
            exact⟨.ref a,hiv,.lst bY (rs.le g)⟩
          · obtain⟨w,h1,h2⟩:=R.rep j u q
            refine⟨w,h1,h2.le g (fun _ _ _ z=>z) fun c hm hc=>⟨fun o q=>q,?_⟩⟩
            have hca:c≠a:=fun z=>ne (R.CP i j _ u a hu rfl q hm hiv (by rw[h1,hc,z]))
            rw[bh hca]
            cases u with
            | m o=>obtain⟨c',e',f',_⟩:=h2;rw[hc] at e';cases e';exact f'
            | b o=>obtain⟨c',e',f',_⟩:=h2;rw[hc] at e';cases e';exact f'
            | t d=>cases hm
            | v j=>cases hm
            | s j=>cases hm
        · obtain⟨h1,o,h2⟩:=R.par j c h
          refine⟨h1,o,?_⟩
          have ne:i≠j:=fun z=>by subst z;rw[hu] at h2;cases h2
          rw[List.getElem?_set_ne ne]
          exact h2
        · exact⟨fun b o h=>g b o (R.ext.le b o h),R.ext.keep,fun b o h n f=>by rw[bh (fun z=>by rw[z,hB] at h;cases h)];exact R.ext.jV b o h n f,R.ext.there,R.ext.j3⟩
        · have hb:b≠a:=fun z=>n (st.mu b ⟨i,_,hu,rfl,by rw[z];exact hiv⟩)
          rw[bh hb]
          exact st.ext.jV b o h n f
        · obtain⟨u',h'⟩:=st.slots j u h
          by_cases hj:i=j
          · subst hj
            exact⟨.t (.lst ds),List.getElem?_set_self (List.getElem?_eq_some_iff.mp h').1⟩
          · exact⟨u',by rw[List.getElem?_set_ne hj];exact h'⟩
noncomputable def eF (g:GE):GD:=fun S=>(g S).bind fun p=>fz p.1 p.2
theorem JE.d {X:Cx}{e:Expr}{g:GE}(h:JE X e g):JD X e (eF g):=⟨fun B=>(h.h B).imp fun σ H Q ⟨S,F,d,S',R,hg,q⟩=>by
 unfold eF at hg
 cases e1:g S with
 | none=>rw[e1] at hg;cases hg
 | some p=>
  obtain⟨u,S1⟩:=p
  rw[e1] at hg
  refine⟨S,F,u,S1,R,e1,fun v F1 H1 R1 st1 r1=>?_⟩
  obtain⟨F2,R2,st2,r2⟩:=CS R1 st1 r1 hg
  exact q v F2 H1 R2 st2 r2⟩
noncomputable def eT (g:GD):GE:=fun S=>(g S).map fun p=>(.t p.1,p.2)
theorem JD.e {X:Cx}{e:Expr}{g:GD}(h:JD X e g):JE X e (eT g):=⟨fun B=>(h.h B).imp fun σ H Q ⟨S,F,u,S',R,hg,q⟩=>by
 unfold eT at hg
 cases e1:g S with
 | none=>rw[e1] at hg;cases hg
 | some p=>
  obtain⟨d,S1⟩:=p
  rw[e1] at hg
  cases hg
  exact⟨S,F,d,S1,R,e1,fun v F1 H1 R1 st1 r1=>q v F1 H1 R1 st1 r1⟩⟩
end L2
end
section
set_option Elab.async false
set_option linter.all false
set_option maxRecDepth 100000
namespace L2
open PySem PySem.Spec PyProof.Rows
structure jg (F H F' H':Hp):Prop where
 le:∀b o,F b=some o→F' b=some o
 same:∀b o,H b=some o→H' b=some o
 jV:∀b o,H b=some o→F b=none→F' b=none
theorem jg.refl (F H:Hp):jg F H F H:=⟨fun _ _ h=>h,fun _ _ h=>h,fun _ _ _ h=>h⟩
theorem jg.trans {F H F1 H1 F2 H2:Hp}(x:jg F H F1 H1) (y:jg F1 H1 F2 H2):jg F H F2 H2:=
 ⟨fun b o h=>y.le b o (x.le b o h),fun b o h=>y.same b o (x.same b o h),fun b o h f=>y.jV b o (x.same b o h) (x.jV b o h f)⟩
theorem jg.step {S:SS}{σ:St}{F H F' H':Hp}(n:jg F H F' H'):Step S S σ F H F' H':=
 ⟨⟨n.le,fun b o h _=>n.same b o h,fun b o h _ f=>n.jV b o h f,fun b o h=>⟨o,n.same b o h⟩,fun b o u h=>n.same b _ h⟩,fun _ h=>h,fun _ u h=>⟨u,h⟩⟩
theorem jg.obj {F H:Hp}{p:Addr}(h:H p=none) (o:HO):jg F H F (upd H p o):=
 ⟨fun _ _ q=>q,fun b u q=>by rw[bh (cD q h)];exact q,fun _ _ _ q=>q⟩
theorem Rd.same {H H':Hp}{a:Addr}{u:HO}(k:∀b o,H b=some o→H' b=some o):Rd H a u→Rd H' a u
 | .inl h=>.inl (k _ _ h)
 | .inr ⟨o,h⟩=>.inr ⟨o,k _ _ h⟩
theorem Sub.same {F H H':Hp}(s:Sub F H) (k:∀b o,H b=some o→H' b=some o):Sub F H':=fun a o e=>k a o (s a o e)
theorem Sub.BD {F H:Hp}{p:Addr}{o:HO}(s:Sub F H) (h:H p=none):Sub (upd F p o) (upd H p o):=fun b u e=>by
 by_cases hb:b=p
 ·subst hb;rw[bY] at e;cases e;exact bY
 ·rw[bh hb] at e;have q:=s b u e;rw[bh (cD q h)];exact q
theorem jg.root {F H:Hp}{p:Addr}(s:Sub F H) (h:H p=none) (o:HO):jg F H (upd F p o) (upd H p o):=
 ⟨rT (s.fresh h),fun b u q=>by rw[bh (cD q h)];exact q,fun b u q f=>by rw[bh (cD q h)];exact f⟩
theorem Rel.has {K:PySem.W.Frag}{B:Base}{S:SS}{σ:St}{F H:Hp}(R:Rel K B S σ F H){a:Addr}(m:d9 S σ a):∃o,H a=some o:=by
 obtain⟨i,u,h,hm,hv⟩:=m
 obtain⟨v,h1,h2⟩:=R.rep i u h
 rw[hv] at h1
 cases h1
 cases u with
 | t d=>cases hm
 | v j=>cases hm
 | s j=>cases hm
 | m o=>obtain⟨b,e,_,h⟩:=h2;cases e;exact h.has
 | b o=>obtain⟨b,e,_,h⟩:=h2;cases e;exact h.has
theorem Rel.new {K:PySem.W.Frag}{B:Base}{S:SS}{σ:St}{F H F' H':Hp}(R:Rel K B S σ F H) (n:jg F H F' H') (s:Sub F' H'):Rel K B S σ F' H' where
 sub:=s
 len:=R.len
 rep:=fun i u h=>by
  obtain⟨v,h1,h2⟩:=R.rep i u h
  refine⟨v,h1,h2.le n.le (fun b o u z=>n.same b _ z) fun a hm ha=>⟨fun o q=>n.same a o q,?_⟩⟩
  obtain⟨o,ho⟩:=R.has ⟨i,u,h,hm,by rw[h1,ha]⟩
  refine n.jV a o ho ?_
  cases u with
  | t d=>cases hm
  | v j=>cases hm
  | s j=>cases hm
  | m o=>obtain⟨b,e,f,_⟩:=h2;rw[ha] at e;cases e;exact f
  | b o=>obtain⟨b,e,f,_⟩:=h2;rw[ha] at e;cases e;exact f
 CP:=R.CP
 own:=R.own
 bor:=R.bor
 par:=R.par
 ext:=⟨fun b o h=>n.le b o (R.ext.le b o h),fun b o h m=>n.same b o (R.ext.keep b o h m),fun b o h m f=>n.jV b o (R.ext.keep b o h m) (R.ext.jV b o h m f),fun b o h=>let⟨o',h'⟩:=R.ext.there b o h;⟨o',n.same b o' h'⟩,fun b o u h=>n.same b _ (R.ext.j3 b o u h)⟩
noncomputable def DB (H0 F H:Hp) (v:V):U→Prop
 | .t d=>Rep F v d
 | .m o=>∃a,v= .ref a∧H0 a=none∧F a=none∧At F H a o
 | _=>False
theorem none_of {H H':Hp}{a:Addr}(t:∀b o,H b=some o→∃o',H' b=some o') (h:H' a=none):H a=none:=by
 cases e:H a with
 | none=>rfl
 | some o=>obtain⟨o',h'⟩:=t a o e;rw[h] at h';cases h'
theorem DB.Fl {K:PySem.W.Frag}{B:Base}{S S0:SS}{σ:St}{H0 F0 F1 H1 F H:Hp}{v:V}{u:U}(R:Rel K B S σ F1 H1) (st:Step S0 S σ F0 H0 F1 H1) (r:DB H1 F H v u):kR K B S σ H0 F H v u:=by
 cases u with
 | t d=>exact r
 | b o=>cases r
 | v i=>cases r
 | s i=>cases r
 | m o=>
  obtain⟨a,e,h0,f,h⟩:=r
  refine⟨a,e,none_of st.ext.there h0,f,h,fun m=>?_,none_of R.ext.there h0⟩
  obtain⟨o,ho⟩:=R.has m
  rw[h0] at ho
  cases ho
noncomputable def rP (f:List D→Option U):List V→Hp→VK→Prop:=fun xs H Q=>∃F ds u,Sub F H∧cu F xs ds∧f ds=some u∧∀v F' H',jg F H F' H'→Sub F' H'→DB H F' H' v u→Q v H'
noncomputable def tN:D→Bool
 | .tup _=>false
 | .lst _=>false
 | _=>true
noncomputable def toV:D→V
 | .bl b=>.bl b
 | .int i=>.int i
 | .str z=>.str z
 | _=>.cH
theorem zZ {F:Hp}:∀{d:D},tN d=true→Rep F (toV d) d
 | .cH,_=>.cH
 | .bl b,_=>.bl b
 | .int i,_=>.int i
 | .str z,_=>.str z
 | .tup _,h=>by cases h
 | .lst _,h=>by cases h
noncomputable def az (i:Nat):GE:=fun S=>match S[i]? with
 | some (some (.t d))=>some (.t d,S)
 | some (some (.s d))=>some (.s d,S)
 | some (some _)=>some (.v i,S)
 | _=>none
noncomputable def eC (d:D):GD:=fun S=>some (d,S)
noncomputable def ao:GA:=fun S=>some ([],S)
noncomputable def aa (g:GD) (ga:GA):GA:=fun S=>(g S).bind fun p=>(ga p.2).map fun q=>(p.1 :: q.1,q.2)
noncomputable def eP (f:List D→Option U) (ga:GA):GE:=fun S=>(ga S).bind fun p=>(f p.1).map fun u=>(u,p.2)
section
variable {X:Cx}{a b c e:Expr}{es:List Expr}{pos p p2:Pos}{x:Str}{g ga gb gc:GD}{gA:GA}{f f':List D→Option U}
theorem aj (i:Nat) (hN:X.N[i]? =some x:=by rfl) (hv:Ez X.env.scope x:=by first | exact Or.inl rfl | exact Or.inr (Or.inl rfl) | exact Or.inr (Or.inr rfl)) (hd:(x == ("__debug__":Str))=false:=by decide)
  (hcd:(x == ("__classdict__":Str))=false:=by decide):JE X (.Name x pos) (az i):=⟨fun B=>(jj hN hv hd hcd).imp fun σ H Q ⟨S,F,u,S',R,hg,q⟩=>by
 unfold az at hg
 cases hs:S[i]? with
 | none=>rw[hs] at hg;cases hg
 | some o=>
  cases o with
  | none=>rw[hs] at hg;cases hg
  | some w=>
   rw[hs] at hg
   obtain⟨v,h1,h2⟩:=R.rep i w hs
   refine⟨v,h1,?_⟩
   cases w with
   | t d=>cases hg;exact q v F H R (Step.refl ..) h2
   | m o=>cases hg;exact q v F H R (Step.refl ..) ⟨h1,_,hs⟩
   | b o=>cases hg;exact q v F H R (Step.refl ..) ⟨h1,_,hs⟩
   | s j=>cases hg;exact q v F H R (Step.refl ..) h2
   | v j=>cases hg;exact q v F H R (Step.refl ..) ⟨h1,_,hs⟩⟩
theorem DC {d:D}(hf:tN d=true) (h:PE X e (tC (toV d))):JD X e (eC d):=⟨fun B=>h.imp fun σ H Q ⟨S,F,u,S',R,hg,q⟩=>by
 cases hg
 exact q _ F H R (Step.refl ..) (zZ hf)⟩
theorem ak {i j}:JD X (.Constant (.int i) j pos) (eC (.int i)):=DC rfl JL
theorem ig {i j}:JD X (.Constant (.bool i) j pos) (eC (.bl i)):=DC rfl Mr
theorem KG {j}:JD X (.Constant .none j pos) (eC .cH):=DC rfl JM
theorem aB {i j}:JD X (.Constant (.str i) j pos) (eC (.str i)):=DC rfl EC
theorem aA:JA X [] ao:=⟨fun B=>yI.imp fun σ H Q ⟨S,F,u,S',R,hg,q⟩=>by
 cases hg
 exact q [] F H R (Step.refl ..) .nil⟩
theorem au {α β:Type}{o:Option α}{f:α→Option β}{y:β}(h:o.bind f=some y):∃z,o=some z∧f z=some y:=by
 cases o with
 | none=>cases h
 | some z=>exact⟨z,rfl,h⟩
theorem aG {α β:Type}{o:Option α}{f:α→β}{y:β}(h:o.map f=some y):∃z,o=some z∧f z=y:=by
 cases o with
 | none=>cases h
 | some z=>exact⟨z,rfl,Option.some.inj h⟩
theorem ah (h:JD X e g) (hr:JA X es gA) (hs:starEach (e :: es) X.env=(false,eval e X.env) :: starEach es X.env:=by rfl):JA X (e :: es) (aa g gA):=
 ⟨fun B=>(pA (h.h B) (hr.h B) hs).imp fun σ H Q ⟨S,F,u,S',R,hg,q⟩=>by
 obtain⟨⟨d,S1⟩,h1,hg⟩:=au hg
 obtain⟨⟨ds,S2⟩,h2,hg⟩:=aG hg
 cases hg
 exact⟨S,F,d,S1,R,h1,fun v F1 H1 R1 st1 r1=>⟨S1,F1,ds,S2,R1,h2,fun vs F2 H2 R2 st2 r2=>q _ F2 H2 R2 (st1.trans st2) (.cons (r1.le st2.ext.le) r2)⟩⟩⟩
theorem mQ {K:PySem.W.Frag}{B:Base}{σ:St}{H:Hp}{Q:VK}{r:List V→Hp→VK→Prop}(hr:∀vs H1 Q1,rP f vs H1 Q1→r vs H1 Q1) (h:tE K B (eP f gA) σ H Q):XJ K B gA σ H fun vs H1=>r vs H1 Q:=by
 obtain⟨S,F,u,S',R,hg,q⟩:=h
 obtain⟨⟨ds,S1⟩,h1,hg⟩:=au hg
 obtain⟨u',h2,hg⟩:=aG hg
 cases hg
 exact⟨S,F,ds,S1,R,h1,fun vs F1 H1 R1 st1 r1=>hr _ _ _ ⟨F1,ds,_,R1.sub,r1,h2,fun v F2 H2 n s2 r2=>q v F2 H2 (R1.new n s2) (st1.trans n.step) (r2.Fl R1 st1)⟩⟩
theorem lW {id:String}(hc:jf X (.builtin id) (rP f)) (hg:Gl X x) (hm:X.mg x=none) (hv:bootBuiltins x=some (.builtin id)) (ha:JA X (e :: es) gA) (hn:x≠"__name__":=by decide) (hdb:(x == ("__debug__":Str))=false:=by decide)
  (he:starEach (e :: es) X.env=(false,eval e X.env) :: starEach es X.env:=by rfl) (hpl:(backTo pos (starEach es X.env)).any (·.1)=false:=by rfl):JE X (.Call (.Name x p) (e :: es) [] pos) (eP f gA):=
 ⟨fun B=>(nK hc hg hm hv (ha.h B) hn hdb he hpl).imp fun σ H Q h=>mQ (fun _ _ _ z=>z) h⟩
theorem xH {T:String}(hc:jf X (.type T) (rP f)) (hg:Gl X x) (hm:X.mg x=none) (hv:bootBuiltins x=some (.type T)) (ha:JA X (e :: es) gA) (hn:x≠"__name__":=by decide) (hdb:(x == ("__debug__":Str))=false:=by decide)
  (he:starEach (e :: es) X.env=(false,eval e X.env) :: starEach es X.env:=by rfl) (hpl:(backTo pos (starEach es X.env)).any (·.1)=false:=by rfl):JE X (.Call (.Name x p) (e :: es) [] pos) (eP f gA):=
 ⟨fun B=>(Dq hc hg hm hv (ha.h B) hn hdb he hpl).imp fun σ H Q h=>mQ (fun _ _ _ z=>z) h⟩
noncomputable abbrev wB (X:Cx) (o:Value→Value→Sem Value) (f:List D→Option U):Prop:=qx X o (fun x y H Q=>rP f [x,y] H Q)
theorem qD {K:PySem.W.Frag}{B:Base}{σ:St}{H:Hp}{Q:VK}(h:tE K B (eP f (aa ga (aa gb ao))) σ H Q):LM (fun x y H Q=>rP f [x,y] H Q) (tD K B ga) (tD K B gb) σ H Q:=by
 obtain⟨S,F,u,S',R,hg,q⟩:=h
 obtain⟨⟨ds,S1⟩,h1,hg⟩:=au hg
 obtain⟨u',h2,hg⟩:=aG hg
 cases hg
 obtain⟨⟨d1,T1⟩,k1,h1⟩:=au h1
 obtain⟨⟨Zu,T2⟩,k2,h1⟩:=aG h1
 cases h1
 obtain⟨⟨d2,T3⟩,k3,k2⟩:=au k2
 obtain⟨⟨ds3,T4⟩,k4,k2⟩:=aG k2
 cases k2
 cases k4
 exact⟨S,F,d1,T1,R,k1,fun v1 F1 H1 R1 st1 r1=>⟨T1,F1,d2,_,R1,k3,fun v2 F2 H2 R2 st2 r2=>⟨F2,_,_,R2.sub,.cons (r1.le st2.ext.le) (.cons r2 .nil),h2,fun v F3 H3 n s3 r3=>q v F3 H3 (R2.new n s3) ((st1.trans st2).trans n.step) (r3.Fl R2 (st1.trans st2))⟩⟩⟩
theorem bM {op:Operator}(ho:wB X (binaryOp op) f) (ha:JD X a ga) (hb:JD X b gb):JE X (.BinOp a op b pos) (eP f (aa ga (aa gb ao))):=
 ⟨fun B=>(MD ho (ha.h B) (hb.h B)).imp fun σ H Q h=>qD h⟩
theorem iX {op:CmpOp}(ho:wB X (compareOp op) f) (ha:JD X a ga) (hb:JD X b gb) (hm:behindInMarks op b=false:=by first | exact EN _ | rfl):JE X (.Compare a [op] [b] pos) (eP f (aa ga (aa gb ao))):=
 ⟨fun B=>(Hi ho (ha.h B) (hb.h B) hm).imp fun σ H Q h=>qD h⟩
theorem M7 {op:UnaryOp}(ho:MC X (unaryOp op) (fun x H Q=>rP f [x] H Q)) (ha:JD X a ga):JE X (.UnaryOp op a pos) (eP f (aa ga ao)):=
 ⟨fun B=>(ME ho (ha.h B)).imp fun σ H Q h=>by
 obtain⟨S,F,u,S',R,hg,q⟩:=h
 obtain⟨⟨ds,S1⟩,h1,hg⟩:=au hg
 obtain⟨u',h2,hg⟩:=aG hg
 cases hg
 obtain⟨⟨d1,T1⟩,k1,h1⟩:=au h1
 obtain⟨⟨Zu,T2⟩,k2,h1⟩:=aG h1
 cases h1
 cases k2
 exact⟨S,F,d1,_,R,k1,fun v1 F1 H1 R1 st1 r1=>⟨F1,_,_,R1.sub,.cons r1 .nil,h2,fun v F3 H3 n s3 r3=>q v F3 H3 (R1.new n s3) (st1.trans n.step) (r3.Fl R1 st1)⟩⟩⟩
theorem nO (hr:E1 X (fun x y H Q=>rP f [x,y] H Q)) (ha:JD X a ga) (hb:JD X b gb) (hs:yM b):JE X (.Subscript a b pos) (eP f (aa ga (aa gb ao))):=
 ⟨fun B=>(E2 hr (ha.h B) (hb.h B) hs).imp fun σ H Q h=>qD h⟩
noncomputable def br:List D→Option U:=fun ds=>if ds.length≤100000 then some (.t (.tup ds)) else none
noncomputable def cG:List D→Option U:=fun ds=>if ds.length≤100000 then some (.m (.lst ds)) else none
theorem j4 {n:Nat}(h:n≤100000):n≤sizeLine:=Nat.le_trans h (by decide)
end
end L2
end
section
set_option Elab.async false
set_option linter.all false
set_option maxRecDepth 100000
namespace L2
open PySem PySem.Spec PyProof.Rows
section
variable {X:Cx}{a b c e:Expr}{es:List Expr}{pos p p2:Pos}{x:Str}{g ga gb gc:GD}{gA:GA}{f f':List D→Option U}
theorem aN {x1}(h:JA X es gA):JE X (.Tuple es x1 pos) (eP br gA):=
 ⟨fun B=>(Km (h.h B)).imp fun σ H Q z=>mQ (r:=fun xs H1 Q=>xs.length≤sizeLine∧∀p,H1 p=none→Q (.ref p) (upd H1 p (.tup xs))) (fun vs H1 Q1 ⟨F,ds,u,sb,rs,hf,q⟩=>by
 unfold br at hf
 split at hf
 ·rename_i hl
  cases hf
  refine⟨by rw[rs.length];exact j4 hl,fun p hp=>?_⟩
  exact q _ _ _ (jg.root sb hp _) (sb.BD hp) (.tup bY (rs.le (rT (sb.fresh hp))))
 ·cases hf) z⟩
theorem bE (h:JA X es gA):JE X (.List es pos) (eP cG gA):=
 ⟨fun B=>(Kn (h.h B)).imp fun σ H Q z=>mQ (r:=fun xs H1 Q=>xs.length≤sizeLine∧∀p,H1 p=none→Q (.ref p) (upd H1 p (.lst xs))) (fun vs H1 Q1 ⟨F,ds,u,sb,rs,hf,q⟩=>by
 unfold cG at hf
 split at hf
 ·rename_i hl
  cases hf
  refine⟨by rw[rs.length];exact j4 hl,fun p hp=>?_⟩
  exact q _ F _ (jg.obj hp _) (sb.same (jg.obj (F:=F) hp _).same) ⟨p,rfl,hp,sb.fresh hp,vs,bY,rs⟩
 ·cases hf) z⟩
noncomputable def qB (g:GD):GT:=fun S=>(g S).bind fun p=>match p.1 with
 | .bl k=>some (k,p.2)
 | _=>none
noncomputable def j5 (g:GT):GT:=fun S=>(g S).map fun p=>(!p.1,p.2)
noncomputable def je (g h:GT):GT:=fun S=>(g S).bind fun p=>if p.1 then h p.2 else some (false,p.2)
noncomputable def uH (g h:GT):GT:=fun S=>(g S).bind fun p=>if p.1 then some (true,p.2) else h p.2
noncomputable def eQ (g:GT):GD:=fun S=>(g S).map fun p=>(.bl p.1,p.2)
theorem kU {S:SS}{k:Bool}{S':SS}(h:qB g S=some (k,S')):g S=some (.bl k,S'):=by
 obtain⟨⟨d,S1⟩,h1,h⟩:=au h
 cases d <;> cases h
 exact h1
theorem jX {F:Hp}{v:V}{k:Bool}(r:Rep F v (.bl k)):v= .bl k:=by cases r;rfl
theorem mR {F:Hp}{v:V}{i:Int}(r:Rep F v (.int i)):v= .int i:=by cases r;rfl
theorem CT {F:Hp}{v:V}{i:Str}(r:Rep F v (.str i)):v= .str i:=by cases r;rfl
theorem eL (h:JD X e g) (he:∀whole,isTrue e X.env whole=(do let v ←whole;standAt e.pos;holding [v] (truthy v)):=by intro _;rfl):JT X e (qB g):=
 ⟨fun B=>(JP (h.h B) he).imp fun σ H Q ⟨S,F,k,S',R,hg,q⟩=>⟨S,F,.bl k,S',R,kU hg,fun v F' H' R' st r=>⟨k,jX r,q F' H' R' st⟩⟩⟩
theorem M8 {K:PySem.W.Frag}{B:Base}{gE:GE}{σ:St}{H:Hp}{Q:VK}(h:tD K B (eF gE) σ H Q):tE K B gE σ H Q:=by
 obtain⟨S,F,d,S',R,hg,q⟩:=h
 obtain⟨⟨u,S1⟩,h1,hg⟩:=au hg
 refine⟨S,F,u,S1,R,h1,fun v F1 H1 R1 st1 r1=>?_⟩
 obtain⟨F2,R2,st2,r2⟩:=CS R1 st1 r1 hg
 exact q v F2 H1 R2 st2 r2
theorem bQ {op:CmpOp}(ho:wB X (compareOp op) f) (ha:JD X a ga) (hb:JD X b gb) (hm:behindInMarks op b=false:=by first | exact EN _ | rfl):JT X (.Compare a [op] [b] pos) (qB (eF (eP f (aa ga (aa gb ao))))):=
 ⟨fun B=>(Hj ho (ha.h B) (hb.h B) hm).imp fun σ H Q ⟨S,F,k,S',R,hg,q⟩=>qD (M8 ⟨S,F,.bl k,S',R,kU hg,fun v F' H' R' st r=>⟨k,jX r,q F' H' R' st⟩⟩)⟩
theorem gg {q1:GT}(h:JT X a q1):JT X (.UnaryOp .Not a pos) (j5 q1):=
 ⟨fun B=>(JQ (h.h B)).imp fun σ H Q ⟨S,F,k,S',R,hg,q⟩=>by
 obtain⟨⟨d,S1⟩,h1,hg⟩:=aG hg
 cases hg
 exact⟨S,F,d,_,R,h1,fun F' H' R' st=>q F' H' R' st⟩⟩
theorem gM {q1:GT}(h:JT X a q1):JW X (.BoolOp .And [a] pos) q1:=⟨fun B=>pw_and1 (h.h B)⟩
theorem ez {q1:GT}(h:JT X a q1):JW X (.BoolOp .Or [a] pos) q1:=⟨fun B=>pw_or1 (h.h B)⟩
theorem lz {r:List Expr}{q1 q2:GT}(h:JT X a q1) (hr:JW X (.BoolOp .And (b :: r) pos) q2):JW X (.BoolOp .And (a :: b :: r) pos) (je q1 q2):=
 ⟨fun B=>(pw_and (h.h B) (hr.h B)).imp fun σ H Q ⟨S,F,k,S',R,hg,q⟩=>by
 obtain⟨⟨d,S1⟩,h1,hg⟩:=au hg
 refine⟨S,F,d,S1,R,h1,fun F1 H1 R1 st1=>?_⟩
 cases d with
 | true=>exact By ⟨S1,F1,k,S',R1,hg,fun F2 H2 R2 st2=>q F2 H2 R2 (st1.trans st2)⟩
 | false=>cases hg;exact Bx (q F1 H1 R1 st1)⟩
theorem iY {r:List Expr}{q1 q2:GT}(h:JT X a q1) (hr:JW X (.BoolOp .Or (b :: r) pos) q2):JW X (.BoolOp .Or (a :: b :: r) pos) (uH q1 q2):=
 ⟨fun B=>(pw_or (h.h B) (hr.h B)).imp fun σ H Q ⟨S,F,k,S',R,hg,q⟩=>by
 obtain⟨⟨d,S1⟩,h1,hg⟩:=au hg
 refine⟨S,F,d,S1,R,h1,fun F1 H1 R1 st1=>?_⟩
 cases d with
 | false=>exact Bx ⟨S1,F1,k,S',R1,hg,fun F2 H2 R2 st2=>q F2 H2 R2 (st1.trans st2)⟩
 | true=>cases hg;exact By (q F1 H1 R1 st1)⟩
theorem JW.t {q1:GT}(h:JW X e q1):JT X e q1:=⟨fun B=>(h.h B).pt⟩
theorem mS {op}(h:JD X a g):JD X (.BoolOp op [a] pos) (eQ (qB g)):=⟨fun B=>(JR (h.h B)).imp fun σ H Q ⟨S,F,k,S',R,hg,q⟩=>by
 obtain⟨⟨d,S1⟩,h1,hg⟩:=aG hg
 cases hg
 exact⟨S,F,.bl d,_,R,kU h1,q⟩⟩
theorem mT {r:List Expr}{q2:GT}(h:JD X a g) (hr:JD X (.BoolOp .And (b :: r) pos) (eQ q2)):JD X (.BoolOp .And (a :: b :: r) pos) (eQ (je (qB g) q2)):=
 ⟨fun B=>(JV (h.h B) (hr.h B)).imp fun σ H Q ⟨S,F,k,S',R,hg,q⟩=>by
 obtain⟨⟨d,S1⟩,h1,hg⟩:=aG hg
 cases hg
 obtain⟨⟨d1,S2⟩,h1,h2⟩:=au h1
 refine⟨S,F,.bl d1,S2,R,kU h1,fun v F1 H1 R1 st1 r1=>⟨d1,jX r1,?_⟩⟩
 cases d1 with
 | true=>
  have h2:q2 S2=some (d,S1):=h2
  exact By ⟨S2,F1,.bl d,S1,R1,by show(q2 S2).map _=_;rw[h2];rfl,fun v F2 H2 R2 st2 r2=>q v F2 H2 R2 (st1.trans st2) r2⟩
 | false=>cases h2;exact Bx (q _ F1 H1 R1 st1 (.bl false))⟩
theorem Ja {r:List Expr}{q2:GT}(h:JD X a g) (hr:JD X (.BoolOp .Or (b :: r) pos) (eQ q2)):JD X (.BoolOp .Or (a :: b :: r) pos) (eQ (uH (qB g) q2)):=
 ⟨fun B=>(Mu (h.h B) (hr.h B)).imp fun σ H Q ⟨S,F,k,S',R,hg,q⟩=>by
 obtain⟨⟨d,S1⟩,h1,hg⟩:=aG hg
 cases hg
 obtain⟨⟨d1,S2⟩,h1,h2⟩:=au h1
 refine⟨S,F,.bl d1,S2,R,kU h1,fun v F1 H1 R1 st1 r1=>⟨d1,jX r1,?_⟩⟩
 cases d1 with
 | false=>
  have h2:q2 S2=some (d,S1):=h2
  exact Bx ⟨S2,F1,.bl d,S1,R1,by show(q2 S2).map _=_;rw[h2];rfl,fun v F2 H2 R2 st2 r2=>q v F2 H2 R2 (st1.trans st2) r2⟩
 | true=>cases h2;exact By (q _ F1 H1 R1 st1 (.bl true))⟩
theorem KH (h:JD X a g):JD X (.UnaryOp .Not a pos) (eQ (j5 (qB g))):=⟨fun B=>(JX (h.h B)).imp fun σ H Q ⟨S,F,k,S',R,hg,q⟩=>by
 obtain⟨⟨d,S1⟩,h1,hg⟩:=aG hg
 cases hg
 obtain⟨⟨d1,S2⟩,h3,h2⟩:=aG h1
 cases h2
 exact⟨S,F,.bl d1,_,R,kU h3,fun v F1 H1 R1 st1 r1=>⟨d1,jX r1,q _ F1 H1 R1 st1 (.bl _)⟩⟩⟩
noncomputable def Zv (q:GT) (g h:GE):GE:=fun S=>(q S).bind fun p=>if p.1 then g p.2 else h p.2
theorem kR.weak {K:PySem.W.Frag}{B:Base}{S:SS}{σ:St}{H0 H1 F H:Hp}{v:V}(t:∀b o,H0 b=some o→∃o',H1 b=some o'):∀{u:U},kR K B S σ H1 F H v u→kR K B S σ H0 F H v u
 | .t _,h=>h
 | .s _,h=>h
 | .m _,⟨a,e,h0,h⟩=>⟨a,e,none_of t h0,h⟩
 | .v _,h=>h
 | .b _,h=>h
noncomputable def LO (f f':List D→Option U) (ga gb gc:GD):GD:=fun S=>(ga S).bind fun p=>(gb p.2).bind fun q=>match f [p.1,q.1] with
 | some (.t (.bl k))=>if k then(gc q.2).bind fun r=>match f' [q.1,r.1] with
   | some (.t (.bl k'))=>some (.bl k',r.2)
   | _=>none
  else some (.bl false,q.2)
 | _=>none
theorem Jb {K : PySem.W.Frag} {B : Base} {σ : St} {H : Hp} {Q : VK} (h : tD K B (LO f f' ga gb gc) σ H Q) : Bp (fun x y H Q => rP f [x, y] H Q) (fun x y H Q => rP f' [x, y] H Q) (tD K B ga) (tD K B gb) (tD K B gc) σ H Q := by
  obtain⟨S,F,d,S',R,hg,q⟩:=h
  obtain⟨⟨d1,S1⟩,h1,hg⟩:=au hg
  obtain⟨⟨d2,S2⟩,h2,hg⟩:=au hg
  refine⟨S,F,d1,S1,R,h1,fun v1 F1 H1 R1 st1 r1=>⟨S1,F1,d2,S2,R1,h2,fun v2 F2 H2 R2 st2 r2=>?_⟩⟩
  dsimp only at hg
  split at hg
  · rename_i k hk
    refine⟨F2,_,_,R2.sub,.cons (r1.le st2.ext.le) (.cons r2 .nil),hk,fun v F3 H3 n s3 r3=>⟨k,jX r3,?_⟩⟩
    have R3:=R2.new n s3
    have st3:Step S S2 σ F H F3 H3:=(st1.trans st2).trans n.step
    cases k with
    | false=>cases hg;exact Bx (q _ F3 H3 R3 st3 (.bl false))
    | true=>
      obtain⟨⟨d3,S3⟩,h3,hg⟩:=au hg
      refine By ⟨S2,F3,d3,S3,R3,h3,fun v3 F4 H4 R4 M4 r4=>?_⟩
      dsimp only at hg
      split at hg
      · rename_i k' hk'
        cases hg
        exact⟨F4,_,_,R4.sub,.cons (r2.le fun b o z=>M4.ext.le b o (n.le b o z)) (.cons r4 .nil),hk',fun v F5 H5 n5 s5 r5=>q v F5 H5 (R4.new n5 s5) ((st3.trans M4).trans n5.step) r5⟩
      · cases hg
  · cases hg
theorem Fo {op op':CmpOp}(ho:wB X (compareOp op) f) (ho':wB X (compareOp op') f') (ha:JD X a ga) (hb:JD X b gb) (hc:JD X c gc) (hm:lastMarks [op,op'] [b,c]=false:=by with_unfolding_all rfl):
  JD X (.Compare a [op,op'] [b,c] pos) (LO f f' ga gb gc):=⟨fun B=>(EO ho ho' (ha.h B) (hb.h B) (hc.h B) hm).imp fun σ H Q h=>Jb h⟩
theorem Fp {op op':CmpOp}(ho:wB X (compareOp op) f) (ho':wB X (compareOp op') f') (ha:JD X a ga) (hb:JD X b gb) (hc:JD X c gc) (hm:lastMarks [op,op'] [b,c]=false:=by with_unfolding_all rfl):
  JT X (.Compare a [op,op'] [b,c] pos) (qB (LO f f' ga gb gc)):=⟨fun B=>(ER ho ho' (ha.h B) (hb.h B) (hc.h B) hm).imp fun σ H Q ⟨S,F,k,S',R,hg,q⟩=>Jb ⟨S,F,.bl k,S',R,kU hg,fun v F' H' R' st r=>⟨k,jX r,q F' H' R' st⟩⟩⟩
end
end L2
end
section
set_option Elab.async false
set_option linter.all false
set_option maxRecDepth 100000
namespace L2
open PySem PySem.Spec PyProof.Rows
theorem cJ {α:Type}{c:Prop}{i:Decidable c}{x w:α}(h:(@ite _ c i (some x) none)=some w):c∧x=w:=by
 by_cases hc:c
 ·rw[if_pos hc] at h;exact⟨hc,Option.some.inj h⟩
 ·rw[if_neg hc] at h;cases h
theorem rW {α:Type}{c:Prop}{i:Decidable c}{x:Option α}{w:α}(h:(@ite _ c i x none)=some w):c∧x=some w:=by
 by_cases hc:c
 ·rw[if_pos hc] at h;exact⟨hc,h⟩
 ·rw[if_neg hc] at h;cases h
theorem Fq {F:Hp}{x:V}{ds:List D}(r:cu F [x] ds):∃d,ds=[d]∧Rep F x d:=by
 cases r with
 | cons r rs=>cases rs;exact⟨_,rfl,r⟩
theorem tR {F:Hp}{x y:V}{ds:List D}(r:cu F [x,y] ds):∃d e,ds=[d,e]∧Rep F x d∧Rep F y e:=by
 cases r with
 | cons r rs=>obtain⟨e,rfl,r2⟩:=Fq rs;exact⟨_,e,rfl,r,r2⟩
noncomputable def Ft (C:Int→Int→Bool) (h:Int→Int→D):List D→Option U
 | [.int i,.int j]=>if C i j then some (.t (h i j)) else none
 | _=>none
section
variable {X:Cx}
theorem tT {o:Value→Value→Sem Value}{C:Int→Int→Bool}{h:Int→Int→D}{r:R2}(hr:qx X o r) (k:∀i j H Q,C i j=true→Q (toV (h i j)) H→r (.int i) (.int j) H Q) (hf:∀i j,tN (h i j)=true):wB X o (Ft C h):=by
 intro pins s σ H x y v u Q I rx ry ⟨F,ds,w,sb,rs,hw,q⟩
 obtain⟨d,e,rfl,r1,r2⟩:=tR rs
 cases r1 <;> cases r2 <;> try (simp[Ft] at hw;done)
 rename_i i j
 obtain⟨hc,rfl⟩:=cJ hw
 exact hr pins s σ H _ _ v u Q I rx ry (k i j H Q hc (q _ F H (jg.refl ..) sb (zZ (hf i j))))
noncomputable abbrev lX:=Ft (fun _ _=>true) fun i j=>.int (i - j)
noncomputable abbrev CU:=Ft (fun _ _=>true) fun i j=>.bl (decide (i < j))
noncomputable abbrev Fv:=Ft (fun _ _=>true) fun i j=>.bl (decide (i≤j))
noncomputable abbrev BE:=Ft (fun _ _=>true) fun i j=>.bl (decide (j < i))
noncomputable abbrev HJ:=Ft (fun _ j=>decide (0 < j) && decide (j < 1073741824)) fun i j=>.int (i / j)
noncomputable abbrev wI:=Ft (fun _ j=>decide (0 < j)) fun i j=>.int (i % j)
noncomputable abbrev Fw:=Ft (fun i j=>decide (0≤j) && (decide (j≤1000) && decide (i.natAbs < 2 ^ 64))) fun i j=>.int (i ^ j.toNat)
theorem gj:wB X (binaryOp .Sub) lX:=tT Kd (fun i j H Q _ q=>⟨i,j,rfl,rfl,q⟩) fun _ _=>rfl
theorem lA:wB X (compareOp .Lt) CU:=tT MH (fun i j H Q _ q=>⟨i,j,rfl,rfl,q⟩) fun _ _=>rfl
theorem lB:wB X (compareOp .LtE) Fv:=tT MI (fun i j H Q _ q=>⟨i,j,rfl,rfl,q⟩) fun _ _=>rfl
theorem ku:wB X (compareOp .Gt) BE:=tT MJ (fun i j H Q _ q=>⟨i,j,rfl,rfl,q⟩) fun _ _=>rfl
theorem yR:wB X (binaryOp .FloorDiv) HJ:=tT Hh (fun i j H Q c q=>⟨i,j,rfl,rfl,by simpa[MG] using c,q⟩) fun _ _=>rfl
theorem j6:wB X (binaryOp .Mod) wI:=tT Kf (fun i j H Q c q=>⟨i,j,rfl,rfl,by simpa using c,q⟩) fun _ _=>rfl
theorem yS:wB X (binaryOp .Pow) Fw:=tT Kg (fun i j H Q c q=>⟨i,j,rfl,rfl,by
 simp only[Bool.and_eq_true,decide_eq_true_eq] at c
 exact⟨c.1,Int.le_trans c.2.1 (by decide),c.2.2⟩,q⟩) fun _ _=>rfl
theorem Sub.lV {F H:Hp}{v:V}{ds:List D}(s:Sub F H) (r:Rep F v (.tup ds)):∃a vs,v= .ref a∧F a=some (.tup vs)∧Rd H a (.tup vs)∧cu F vs ds:=by
 cases r with
 | tup e rs=>exact⟨_,_,rfl,e,Rd.of (s _ _ e),rs⟩
theorem Sub.kT {F H:Hp}{v:V}{ds:List D}(s:Sub F H) (r:Rep F v (.lst ds)):∃a vs,v= .ref a∧F a=some (.lst vs)∧Rd H a (.lst vs)∧cu F vs ds:=by
 cases r with
 | lst e rs=>exact⟨_,_,rfl,e,Rd.of (s _ _ e),rs⟩
theorem _root_.L2.Rd.E6 {pins:List (Addr×Obj)}{σ:St}{H:Hp}{s:Shared}(I:Inv X pins σ H s){l:Addr}{xs:List V}(h:Rd H l (.lst xs)):
  xs.length≤sizeLine∧∃its n,Vals xs its∧xs.length=its.length∧s.heap.get? l=some {cls:=.type "list",data:=.seq its.toArray n}:=by
 obtain⟨z,its,n,r,e⟩:=(h.ok I.hok:gI X.prog X.w H s.heap l (.lst xs))
 exact⟨z,its,n,r,r.length,e⟩
noncomputable def dm:List D→Option U
 | [.int i,.int j]=>some (.t (.int (i+j)))
 | [.str i,.str j]=>if i.length+j.length≤100000 then some (.t (.str (i++j))) else none
 | [.tup i,.tup j]=>if i.length+j.length≤100000 then some (.t (.tup (i++j))) else none
 | [.lst i,.lst j]=>if i.length+j.length≤100000 then some (.m (.lst (i++j))) else none
 | _=>none
theorem cz : wB X (binaryOp .Add) dm := by
  intro pins s σ H x y v u Q I rx ry ⟨F,ds,w,sb,rs,hw,q⟩
  obtain⟨d,e,rfl,r1,r2⟩:=tR rs
  cases d <;> cases e <;> try (simp[dm] at hw;done)
  · rename_i i j
    cases hw
    cases r1
    cases r2
    exact Kc pins s σ H _ _ v u Q I rx ry ⟨i,j,rfl,rfl,q _ F H (jg.refl ..) sb (.int _)⟩
  · rename_i i j
    obtain⟨hl,rfl⟩:=cJ hw
    cases r1
    cases r2
    exact Bq pins s σ H _ _ v u Q I rx ry ⟨i,j,rfl,rfl,j4 hl,q _ F H (jg.refl ..) sb (.str _)⟩
  · rename_i i j
    obtain⟨hl,rfl⟩:=cJ hw
    have Zw:=r2
    have Zx:=r1
    obtain⟨a,xs,rfl,fa,ha,xJ⟩:=sb.lV r1
    obtain⟨b,ys,rfl,fb,hb,HK⟩:=sb.lV r2
    by_cases hx:xs=[]
    · subst hx
      cases xJ
      cases rx
      cases ry
      obtain⟨its,r1',p1,_⟩:=I.tuple (.inl ha)
      obtain⟨its2,r2',p2,_⟩:=I.tuple (.inl hb)
      cases r1'
      obtain⟨⟨cls,dd,data,sl⟩,ho,hc,n,hd⟩:=id p1
      obtain⟨⟨Rn,dd2,data2,sl2⟩,ho2,hc2,n2,hd2⟩:=id p2
      simp only at hc hd hc2 hd2
      subst hc hd hc2 hd2
      exact concat_meets ⟨_,ho,rfl⟩ ⟨_,ho2,rfl⟩ noFill_tuple_add seq_tuple_add PySem.F.slot_tuple_add PySem.F.entry_tuple_add (PySem.F.args_tuple_add_2 _ _)
        (tuple_addW0 a b _ _ n n2 dd dd2 sl sl2 (by simp)) ⟨ho,ho2,⟨.ref b,H,I,rfl,q _ F H (jg.refl ..) sb Zw⟩⟩
    · refine Hy pins s σ H (.ref a) (.ref b) v u Q I rx ry ⟨a,b,xs,ys,rfl,rfl,.inl ha,.inl hb,hx,?_,fun hy=>?_,fun hy p hp=>?_⟩
      · rw[xJ.length,HK.length];exact j4 hl
      · subst hy
        cases HK
        exact q _ F H (jg.refl ..) sb (by show Rep F (.ref a) (.tup (i++[]));rw[List.append_nil];exact Zx)
      · exact q _ _ _ (jg.root sb hp _) (sb.BD hp) (.tup bY ((xJ.append HK).le (rT (sb.fresh hp))))
  · rename_i i j
    obtain⟨hl,rfl⟩:=cJ hw
    obtain⟨a,xs,rfl,fa,ha,xJ⟩:=sb.kT r1
    obtain⟨b,ys,rfl,fb,hb,HK⟩:=sb.kT r2
    cases rx
    cases ry
    obtain⟨z,its,n,r,hl1,e⟩:=Rd.E6 I ha
    obtain⟨z2,its2,n2,r2,hl2,e2⟩:=Rd.E6 I hb
    have hlen:xs.length+ys.length≤sizeLine:=by rw[xJ.length,HK.length];exact j4 hl
    refine PySem.P.add_list e e2 ?_ (by rw[List.size_toArray,List.size_toArray];omega)
    have ea:its.toArray++its2.toArray=(its++its2).toArray:=by simp
    rw[ea]
    have hp:H s.heap.objs.size=none:=I.fresh
    refine⟨.ref _,_,I.Rt (t':=s.toks) (r.append r2) (by rw[List.length_append];omega),rfl,?_⟩
    exact q _ F _ (jg.obj hp _) (sb.same (jg.obj (F:=F) hp _).same) ⟨_,rfl,hp,sb.fresh hp,_,bY,xJ.append HK⟩
noncomputable def BF:List D→Option U:=Ft (fun i j=>(decide (-(2 ^ 64) < i) && decide (i < 2 ^ 64)) || (decide (-(2 ^ 64) < j) && decide (j < 2 ^ 64))) fun i j=>.int (i * j)
theorem qE:wB X (binaryOp .Mult) BF:=tT Ke (fun i j H Q c q=>⟨i,j,rfl,rfl,by
 simp only[Bool.or_eq_true,Bool.and_eq_true,decide_eq_true_eq] at c
 exact c,q⟩) fun _ _=>rfl
noncomputable def HL:List D→Option U
 | [.int i]=>some (.t (.int (-i)))
 | _=>none
theorem HM:MC X (unaryOp .USub) (fun x H Q=>rP HL [x] H Q):=by
 intro pins s σ H x v Q I rx ⟨F,ds,w,sb,rs,hw,q⟩
 obtain⟨d,rfl,r1⟩:=Fq rs
 cases r1 <;> try (simp[HL] at hw;done)
 rename_i i
 cases hw
 exact Kh pins s σ H _ v Q I rx ⟨i,rfl,q _ F H (jg.refl ..) sb (.int _)⟩
noncomputable def zJ:List D→Option U
 | [.tup ds,.int i]=>(iJ ds i).map .t
 | [.lst ds,.int i]=>(iJ ds i).map .t
 | [.str z,.int i]=>if z.length≤100000 then(iJ z.cps.toList i).map fun c=>.t (.str ⟨#[c]⟩) else none
 | _=>none
theorem uU:E1 X (fun x y H Q=>rP zJ [x,y] H Q):=by
 intro value slice pins s σ H x y v u Q I rx ry ⟨F,ds,w,sb,rs,hw,q⟩ hsb
 obtain⟨d,e,rfl,r1,r2⟩:=tR rs
 cases d <;> cases e <;> try (simp[zJ] at hw;done)
 ·rename_i z i
  obtain⟨hl,hw⟩:=rW hw
  obtain⟨c,hc,hw⟩:=aG hw
  subst hw
  cases r1
  cases r2
  exact E4 value slice pins s σ H _ _ v u Q I rx ry ⟨z,i,c,rfl,rfl,j4 hl,hc,q _ F H (jg.refl ..) sb (.str _)⟩ hsb
 ·rename_i ds i
  obtain⟨c,hc,hw⟩:=aG (show(iJ ds i).map U.t=some w from hw)
  subst hw
  obtain⟨a,xs,rfl,fa,ha,xJ⟩:=sb.lV r1
  cases r2
  obtain⟨w',h1,h2⟩:=xJ.iJ hc
  exact E3 value slice pins s σ H _ _ v u Q I rx ry ⟨a,xs,i,w',rfl,rfl,.inl ha,h1,q _ F H (jg.refl ..) sb h2⟩ hsb
 ·rename_i ds i
  obtain⟨c,hc,hw⟩:=aG (show(iJ ds i).map U.t=some w from hw)
  subst hw
  obtain⟨a,xs,rfl,fa,ha,xJ⟩:=sb.kT r1
  cases r2
  obtain⟨w',h1,h2⟩:=xJ.iJ hc
  exact CM value slice pins s σ H _ _ v u Q I rx ry ⟨a,xs,i,w',rfl,rfl,.inl ha,h1,q _ F H (jg.refl ..) sb h2⟩ hsb
noncomputable def uV:List D→Option U
 | [.tup ds]=>some (.t (.int ds.length))
 | [.lst ds]=>some (.t (.int ds.length))
 | [.str z]=>if z.length≤100000 then some (.t (.int z.length)) else none
 | _=>none
theorem rX:jf X (.builtin "len") (rP uV):=by
 intro pins s σ H xs us Q I r ⟨F,ds,w,sb,rs,hw,q⟩
 match xs,ds,rs with
 | [],[],_=>exact absurd hw (by simp[uV])
 | [x],_,rs=>
  obtain⟨d,rfl,r1⟩:=Fq rs
  cases d <;> try (simp[uV] at hw;done)
  ·rename_i z
   obtain⟨hl,rfl⟩:=cJ hw
   cases r1
   exact qA pins s σ H _ us Q I r ⟨z,rfl,j4 hl,q _ F H (jg.refl ..) sb (.int _)⟩
  ·cases hw
   obtain⟨a,xs,rfl,fa,ha,xJ⟩:=sb.lV r1
   exact mO pins s σ H _ us Q I r ⟨a,xs,rfl,.inr (.inl ha),by rw[xJ.length];exact q _ F H (jg.refl ..) sb (.int _)⟩
  ·cases hw
   obtain⟨a,xs,rfl,fa,ha,xJ⟩:=sb.kT r1
   exact mO pins s σ H _ us Q I r ⟨a,xs,rfl,.inl (.inl ha),by rw[xJ.length];exact q _ F H (jg.refl ..) sb (.int _)⟩
 | _ :: _ :: _,[],rs=>cases rs
 | _ :: _ :: _,[_],rs=>cases rs with | cons _ rs=>cases rs
 | _ :: _ :: _,_ :: _ :: _,_=>exact absurd hw (by simp[uV])
end
end L2
end
section
set_option Elab.async false
set_option linter.all false
set_option maxRecDepth 100000
namespace L2
open PySem PySem.Spec PyProof.Rows
noncomputable def pM (i:Nat) (u:U) (S:SS):Option SS:=match S[i]? with
 | some (some (.b _))=>none
 | some _=>some (S.set i (some u))
 | none=>none
theorem DE {i:Nat}{u:U}{S S':SS}(h:pM i u S=some S'):S'=S.set i (some u)∧i < S.length∧∀o,S[i]?≠some (some (.b o)):=by
 unfold pM at h
 cases e:S[i]? with
 | none=>rw[e] at h;cases h
 | some w=>
  have hl:i < S.length:=(List.getElem?_eq_some_iff.mp e).1
  rw[e] at h
  cases w with
  | none=>cases h;exact⟨rfl,hl,fun o z=>by cases z⟩
  | some w=>
   cases w with
   | b o=>cases h
   | t d=>cases h;exact⟨rfl,hl,fun o z=>by cases z⟩
   | m d=>cases h;exact⟨rfl,hl,fun o z=>by cases z⟩
   | v d=>cases h;exact⟨rfl,hl,fun o z=>by cases z⟩
   | s d=>cases h;exact⟨rfl,hl,fun o z=>by cases z⟩
noncomputable def Jc (B:Base) (S:SS) (σ:St) (F H:Hp) (v:V):U→Prop
 | .t d=>Rep F v d
 | .m o=>∃a,v= .ref a∧F a=none∧At F H a o∧¬d9 S σ a∧B.H a=none
 | _=>False
theorem Rel.put {K : PySem.W.Frag} {B : Base} {S S' : SS} {σ : St} {F H : Hp} {i : Nat} {u : U} {v : V} (R : Rel K B S σ F H) (h : pM i u S = some S') (p : Jc B S σ F H v u) : Rel K B S' (σ.set i (some v)) F H := by
  obtain⟨rfl,hl,nb⟩:=DE h
  have hl':i < σ.length:=by rw[←R.len];exact hl
  have out:∀{j:Nat},i≠j→(σ.set i (some v))[j]? =σ[j]?:=fun ne=>List.getElem?_set_ne ne
  have DF:(σ.set i (some v))[i]? =some (some v):=List.getElem?_set_self hl'
  have Jd:∀j w a,i≠j→S[j]? =some (some w)→gK w=true→gK u=true→σ[j]? =some (some (.ref a))→v≠.ref a:=fun j w a ne hj hm hu hv z=>by
    cases u with
    | t d=>cases hu
    | v k=>cases hu
    | s k=>cases hu
    | b o=>exact p
    | m o=>
      obtain⟨c,e,_,_,nm,_⟩:=p
      rw[z] at e
      cases e
      exact nm ⟨j,w,hj,hm,hv⟩
  refine⟨R.sub,by rw[List.length_set,List.length_set];exact R.len,fun j w hj=>?_,fun j k w1 w2 a h1 m1 h2 m2 v1 v2=>?_,fun j o a hj hv=>?_,fun j o a hj hv=>?_,fun j a hj=>?_,R.ext⟩
  · rcases get_set hj with⟨rfl,q,_⟩ | ⟨ne,q⟩
    · cases q
      refine⟨v,DF,?_⟩
      cases u with
      | t d=>exact p
      | m o=>obtain⟨a,e,f,h,_⟩:=p;exact⟨a,e,f,h⟩
      | b o=>cases p
      | v k=>cases p
      | s k=>cases p
    · rw[out ne];exact R.rep j w q
  · rcases get_set h1 with⟨rfl,q1,_⟩ | ⟨ne1,q1⟩
    · rcases get_set h2 with⟨rfl,q2,_⟩ | ⟨ne2,q2⟩
      · rfl
      · cases q1
        rw[DF] at v1
        rw[out ne2] at v2
        cases v1
        exact absurd rfl (Jd k w2 a ne2 q2 m2 m1 v2)
    · rcases get_set h2 with⟨rfl,q2,_⟩ | ⟨ne2,q2⟩
      · cases q2
        rw[DF] at v2
        rw[out ne1] at v1
        cases v2
        exact absurd rfl (Jd j w1 a ne1 q1 m1 m2 v1)
      · rw[out ne1] at v1
        rw[out ne2] at v2
        exact R.CP j k w1 w2 a q1 m1 q2 m2 v1 v2
  · rcases get_set hj with⟨rfl,q,_⟩ | ⟨ne,q⟩
    · cases q
      rw[DF] at hv
      cases hv
      obtain⟨c,e,_,_,_,hB⟩:=p
      cases e
      exact hB
    · rw[out ne] at hv;exact R.own j o a q hv
  · rcases get_set hj with⟨rfl,q,_⟩ | ⟨ne,q⟩
    · cases q;cases p
    · rw[out ne] at hv;exact R.bor j o a q hv
  · obtain⟨h1,o,h2⟩:=R.par j a hj
    have ne:i≠j:=fun z=>by subst z;exact nb o h2
    exact⟨by rw[out ne];exact h1,o,by rw[List.getElem?_set_ne ne];exact h2⟩
noncomputable def dM:GS:=fun S=>some (.nx S)
noncomputable def bI (a b:GS):GS:=fun S=>(a S).bind fun o=>match o with
 | .nx S1=>b S1
 | o=>some o
noncomputable def dN (i:Nat) (g:GE):GS:=fun S=>(g S).bind fun p=>match p.1 with
 | .m o=>(pM i (.m o) p.2).map .nx
 | u=>(fz u p.2).bind fun q=>(pM i (.t q.1) q.2).map .nx
noncomputable def z8 (g:GE):GS:=fun S=>(g S).map fun p=>.nx p.2
noncomputable def cE (g:GE):GS:=fun S=>(g S).bind fun p=>match p.1 with
 | .v i=>match p.2[i]? with
  | some (some (.t d))=>some (.rt (.t d) p.2)
  | some (some (.m o))=>some (.rt (.m o) (p.2.set i none))
  | _=>none
 | .s _=>none
 | u=>some (.rt u p.2)
noncomputable def M9:GS:=fun S=>some (.rt (.t .cH) S)
noncomputable def jU (q:GT) (a b:GS):GS:=fun S=>(q S).bind fun p=>if p.1 then a p.2 else b p.2
theorem CQ.mono {K:PySem.W.Frag}{B:Base}{F F1:Hp}{D:Ends}(g:∀b o,F b=some o→F1 b=some o):∀{o:Out},CQ K B F D o→CQ K B F1 D o
 | .nx _,h=>fun σ' F' H' R le=>h σ' F' H' R fun b o z=>le b o (g b o z)
 | .bk _,h=>fun σ' F' H' R le=>h σ' F' H' R fun b o z=>le b o (g b o z)
 | .ct _,h=>fun σ' F' H' R le=>h σ' F' H' R fun b o z=>le b o (g b o z)
 | .rt _ _,h=>fun v σ' F' H' R le=>h v σ' F' H' R fun b o z=>le b o (g b o z)
section
variable {X:Cx}{a b c e:Expr}{pos p p2:Pos}{x:Str}{st:Stmt}{rest b1 b2 body:List Stmt}{g:GE}{s1 s2:GS}{q1:GT}
theorem cg:JB X [] dM:=⟨fun B=>G6.imp fun D σ H ⟨S,F,o,R,h,k⟩=>by cases h;exact k σ F H R fun _ _ z=>z⟩
theorem aF (h1:JS X st s1) (h2:JB X rest s2):JB X (st :: rest) (bI s1 s2):=⟨fun B=>(EF (h1.h B) (h2.h B)).imp fun D σ H ⟨S,F,o,R,h,k⟩=>by
 obtain⟨o1,e1,h⟩:=au h
 refine⟨S,F,o1,R,e1,?_⟩
 cases o1 with
 | nx S1=>exact fun σ' F' H' R' le=>⟨S1,F',o,R',h,k.mono le⟩
 | rt u S1=>cases h;exact k
 | bk S1=>cases h;exact k
 | ct S1=>cases h;exact k⟩
theorem aO (h1:JS X st s1):JB X [st] s1:=⟨fun B=>G7 (h1.h B)⟩
theorem kR.put {K:PySem.W.Frag}{B:Base}{S:SS}{σ:St}{H0 F H:Hp}{v:V}{o:MO}(r:kR K B S σ H0 F H v (.m o)):Jc B S σ F H v (.m o):=by
 obtain⟨a,e,_,f,h,n,hB⟩:=r
 exact⟨a,e,f,h,n,hB⟩
theorem HN {i:Nat}{K:PySem.W.Frag}{B:Base}{D:Ends}{σ:St}{H:Hp}(h:tO K B (dN i g) D σ H):J2 (tE K B g) (zO i) D σ H:=by
 obtain⟨S,F,o,R,h,k⟩:=h
 obtain⟨⟨u,S1⟩,h1,h⟩:=au h
 refine⟨S,F,u,S1,R,h1,fun v F1 H1 R1 st1 r1=>?_⟩
 have go:(∀o',u≠.m o')→(fz u S1).bind (fun q=>(pM i (.t q.1) q.2).map Out.nx)=some o→D.nx (σ.set i (some v)) H1:=fun _ h=>by
  obtain⟨⟨d,S2⟩,h2,h⟩:=au h
  obtain⟨S3,h3,h⟩:=aG h
  subst h
  obtain⟨F2,R2,st2,r2⟩:=CS R1 st1 r1 h2
  exact k _ F2 H1 (R2.put h3 r2) st2.ext.le
 cases u with
 | m o'=>
  obtain⟨S3,h3,h⟩:=aG (show(pM i (.m o') S1).map Out.nx=some o from h)
  subst h
  exact k _ F1 H1 (R1.put h3 r1.put) st1.ext.le
 | t d=>exact go (fun _ z=>by cases z) h
 | b d=>exact go (fun _ z=>by cases z) h
 | s d=>exact go (fun _ z=>by cases z) h
 | v d=>exact go (fun _ z=>by cases z) h
theorem cC {i:Nat}{pos':Pos}(hN:X.N.Nodup) (hi:X.N[i]? =some x) (hx:Loc X.env.scope x) (he:JE X e g) (hs:swapsWith e (some (.Name x pos')) pos.line X.env=pure false:=by rfl)
  (hf:X.fn x=true∨X.env.scope.names.lookup x=some .local:=by first | exact .inl rfl | exact .inr rfl | assumption):JS X (.Assign [.Name x pos'] e pos) (dN i g):=
 ⟨fun B=>(J3 hN hi hx (he.h B) hs hf).imp fun D σ H h=>HN h⟩
theorem yT (he:JE X e g) (hs:swapsWith e none pos.line X.env=pure false:=by rfl):JS X (.Expr e pos) (z8 g):=⟨fun B=>(G8 (he.h B) hs).imp fun D σ H ⟨S,F,o,R,h,k⟩=>by
 obtain⟨⟨u,S1⟩,h1,h⟩:=aG h
 subst h
 exact⟨S,F,u,S1,R,h1,fun v F1 H1 R1 st1 r1=>k σ F1 H1 R1 st1.ext.le⟩⟩
theorem Rel.drop {K:PySem.W.Frag}{B:Base}{S:SS}{σ:St}{F H:Hp}{i:Nat}{o:MO}(R:Rel K B S σ F H) (h:S[i]? =some (some (.m o))):Rel K B (S.set i none) σ F H:=by
 have back:∀{j w},(S.set i none)[j]? =some (some w)→i≠j∧S[j]? =some (some w):=fun {j w} z=>by
  rcases get_set z with⟨_,q,_⟩ | q
  ·cases q
  ·exact q
 refine⟨R.sub,by rw[List.length_set];exact R.len,fun j w z=>R.rep j w (back z).2,fun j k w1 w2 a h1 m1 h2 m2=>R.CP j k w1 w2 a (back h1).2 m1 (back h2).2 m2,fun j o a z=>R.own j o a (back z).2,fun j o a z=>R.bor j o a (back z).2,fun j a z=>?_,R.ext⟩
 obtain⟨k1,o',k2⟩:=R.par j a z
 have ne:i≠j:=fun z=>by subst z;rw[h] at k2;cases k2
 exact⟨k1,o',by rw[List.getElem?_set_ne ne];exact k2⟩
theorem aW (he:JE X e g):JS X (.Return (some e) pos) (cE g):=⟨fun B=>(JY (he.h B)).imp fun D σ H ⟨S,F,o,R,h,k⟩=>by
  obtain⟨⟨u,S1⟩,h1,h⟩:=au h
  refine⟨S,F,u,S1,R,h1,fun v F1 H1 R1 st1 r1=>?_⟩
  cases u with
  | t d=>cases h;exact k v σ F1 H1 R1 st1.ext.le r1
  | b d=>cases h;cases r1
  | s d=>cases h
  | m o'=>cases h;exact k v σ F1 H1 R1 st1.ext.le (by obtain⟨a,e,h0,f,h,n,hB⟩:=r1;exact⟨a,e,hB,f,h,n,hB⟩)
  | v i =>
    obtain⟨hv,w,hw⟩:=r1
    dsimp only at h
    rw[hw] at h
    obtain⟨v',z1,z2⟩:=R1.rep i w hw
    rw[hv] at z1
    cases z1
    cases w with
    | t d=>cases h;exact k v σ F1 H1 R1 st1.ext.le z2
    | b d=>cases h
    | v d=>cases h
    | s d=>cases h
    | m o'=>
      cases h
      obtain⟨a,rfl,f,ha⟩:=z2
      have hB:=R1.own i o' a hw hv
      refine k _ σ F1 H1 (R1.drop hw) st1.ext.le ⟨a,rfl,hB,f,ha,fun⟨j,w,z,hm,hj⟩=>?_,hB⟩
      rcases get_set z with⟨_,q,_⟩ | ⟨ne,q⟩
      · cases q
      · exact ne (R1.CP i j _ w a hw rfl q hm hv hj)⟩
theorem cR (hc:JT X c q1) (ha:JB X b1 s1) (hb:JB X b2 s2):JS X (.If c b1 b2 pos) (jU q1 s1 s2):=⟨fun B=>(Mx (hc.h B) (ha.h B) (hb.h B)).imp fun D σ H ⟨S,F,o,R,h,k⟩=>by
 obtain⟨⟨d,S1⟩,h1,h⟩:=au h
 refine⟨S,F,d,S1,R,h1,fun F1 H1 R1 st1=>?_⟩
 cases d with
 | true=>exact By ⟨S1,F1,o,R1,h,k.mono st1.ext.le⟩
 | false=>exact Bx ⟨S1,F1,o,R1,h,k.mono st1.ext.le⟩⟩
noncomputable abbrev GB:=D→SS→Option SS
noncomputable def Zy (K:PySem.W.Frag) (B:Base) (bd:GB):TG:=fun v σ H Q=>∃S F d S',Rel K B S σ F H∧Rep F v d∧bd d S=some S'∧∀σ',Rel K B S' σ' F H→Q σ' H
structure JG (X:Cx) (tg:Expr) (bd:GB):Prop where
 h:∀B,PG X tg (Zy X.K B bd)
noncomputable abbrev GW:=List D→SS→Option SS
noncomputable def RO (K:PySem.W.Frag) (B:Base) (bd:GW):G9:=fun vs σ H Q=>∃S F ds S',Rel K B S σ F H∧cu F vs ds∧bd ds S=some S'∧∀σ',Rel K B S' σ' F H→Q σ' H
structure Po (X:Cx) (Fx:List Expr) (bd:GW):Prop where
 h:∀B,IS X Fx (RO X.K B bd)
theorem PG.imp {tg:Expr}{t t':TG}(h:PG X tg t) (k:∀v σ H Q,t' v σ H Q→t v σ H Q):PG X tg t':=fun pins s σ H v u Q I r q=>h pins s σ H v u Q I r (k v σ H Q q)
theorem IS.imp {tg:List Expr}{t t':G9}(h:IS X tg t) (k:∀v σ H Q,t' v σ H Q→t v σ H Q):IS X tg t':=fun pins s σ H v u Q I r q=>h pins s σ H v u Q I r (k v σ H Q q)
noncomputable def bName (i:Nat):GB:=fun d S=>pM i (.t d) S
theorem mU {i:Nat}(hN:X.N.Nodup) (hi:X.N[i]? =some x) (hx:Loc X.env.scope x) (hf:X.fn x=true∨X.env.scope.names.lookup x=some .local:=by first | exact .inl rfl | exact .inr rfl | assumption):JG X (.Name x pos) (bName i):=
 ⟨fun B=>(CB hN hi hx hf).imp fun v σ H Q ⟨S,F,d,S',R,r,h,k⟩=>k _ (R.put h r)⟩
noncomputable def KI:GW:=fun ds S=>match ds with
 | []=>some S
 | _=>none
noncomputable def CV (b:GB) (bs:GW):GW:=fun ds S=>match ds with
 | d :: r=>(b d S).bind fun S1=>bs r S1
 | []=>none
theorem HP:Po X [] KI:=⟨fun B=>Hf.imp fun vs σ H Q ⟨S,F,ds,S',R,r,h,k⟩=>by
 cases r with
 | nil=>cases h;exact⟨rfl,k σ R⟩
 | cons _ _=>cases h⟩
theorem z9 {tg:Expr}{Fx:List Expr}{bd:GB}{Na:GW}(h1:JG X tg bd) (h2:Po X Fx Na) (hs:(assignEach (tg :: Fx) X.env).map (·.2)=assign tg X.env :: (assignEach Fx X.env).map (·.2):=by rfl):Po X (tg :: Fx) (CV bd Na):=
 ⟨fun B=>(EG (h1.h B) (h2.h B) hs).imp fun vs σ H Q ⟨S,F,ds,S',R,r,h,k⟩=>by
 cases r with
 | nil=>cases h
 | cons r rs=>
  obtain⟨S1,e1,h⟩:=au h
  exact⟨_,_,rfl,S,F,_,S1,R,r,e1,fun σ1 R1=>⟨S1,F,_,S',R1,rs,h,k⟩⟩⟩
noncomputable def HQ (n:Nat) (bs:GW):GB:=fun d S=>match d with
 | .tup ds=>if ds.length=n then bs ds S else none
 | _=>none
theorem KJ {Fx:List Expr}{k0:Nat}{Na:GW}{n:Nat}(hc:X.calm=true) (h:Po X Fx Na) (hn:(assignEach Fx X.env).length=n:=by rfl) (hst:(assignEach Fx X.env).findIdx? (·.1)=none:=by rfl):JG X (.Tuple Fx k0 pos) (HQ n Na):=
 ⟨fun B=>(J0 hc (h.h B) hn hst).imp fun v σ H Q ⟨S,F,d,S',R,r,h,k⟩=>by
 cases d <;> try (cases h)
 rename_i ds
 unfold HQ at h
 dsimp only at h
 split at h
 ·rename_i hl
  obtain⟨a,vs,rfl,fa,ha,rs⟩:=R.sub.lV r
  exact⟨a,vs,rfl,.inl ha,by rw[rs.length];exact hl,S,F,ds,S',R,rs,h,k⟩
 ·cases h⟩
noncomputable def KL (bd:GB) (g:GD):GS:=fun S=>(g S).bind fun p=>(bd p.1 p.2).map .nx
theorem KN {tg:Expr}{bd:GB}{gd:GD}(he:JD X e gd) (hg:JG X tg bd) (hs:swapsWithSole [tg] e pos.line X.env=pure false:=by rfl) (hw:swappedStores [tg] e X.env=pure none:=by rfl)
  (h1:(assignEach [tg] X.env).map (·.2)=[assign tg X.env]:=by rfl):JS X (.Assign [tg] e pos) (KL bd gd):=
 ⟨fun B=>(EH (he.h B) (hg.h B) hs hw h1).imp fun D σ H ⟨S,F,o,R,h,k⟩=>by
 obtain⟨⟨d,S1⟩,e1,h⟩:=au h
 obtain⟨S2,e2,h⟩:=aG h
 subst h
 exact⟨S,F,d,S1,R,e1,fun v F1 H1 R1 st1 r1=>⟨S1,F1,d,S2,R1,r1,e2,fun σ' R2=>k σ' F1 H1 R2 st1.ext.le⟩⟩⟩
noncomputable def Walk (J:It) (F:Hp) (ds:List D):Prop:=∀F' H',(∀b o,F b=some o→F' b=some o)→Sub F' H'→∀i,(∀d,ds[i]? =some d→J.go i H'∧∀x H2,J.Pe i H' x H2→H2=H'∧Rep F' x d)∧(ds.length≤i→J.stop i H')
noncomputable abbrev GI:=SS→Option (List D×SS)
noncomputable def XM (K:PySem.W.Frag) (B:Base) (gi:GI):TI:=fun σ H R=>∃S F ds S',Rel K B S σ F H∧gi S=some (ds,S')∧∀J F' H',Rel K B S' σ F' H'→Step S S' σ F H F' H'→Walk J F' ds→R J H'
structure JI (X:Cx) (tg e:Expr) (gi:GI):Prop where
 h:∀B,PI X tg e (XM X.K B gi)
theorem PI.orelse {tg:Expr}{wi:TI}(h:∀σ H R,wi σ H R→∃wi',PI X tg e wi'∧wi' σ H R):PI X tg e wi:=fun pins s σ H R I q=>let⟨_,h1,h2⟩:=h σ H R q;h1 pins s σ H R I h2
noncomputable def RP (g:GD):GI:=fun S=>(g S).bind fun p=>match p.1 with
 | .tup ds=>some (ds,p.2)
 | .lst ds=>some (ds,p.2)
 | _=>none
noncomputable def qF (g:GD):GI:=fun S=>(g S).bind fun p=>match p.1 with
 | .tup ds=>some (ds,p.2)
 | .lst ds=>some (ds,p.2)
 | .str z=>some (z.cps.toList.map fun c=>.str ⟨#[c]⟩,p.2)
 | _=>none
theorem DG {K:PySem.W.Frag}{F:Hp}{a:Addr}{vs:List V}{ds:List D}(fa:F a=some (.lst vs)) (rs:cu F vs ds):Walk (Q9 K a) F ds:=fun F' H' le sb i=>by
 have ha:pQ K H' a vs:=.inl (Rd.of (sb a _ (le _ _ fa)))
 refine⟨fun d hd=>?_,fun hl=>⟨vs,ha,by rw[rs.length];exact hl⟩⟩
 obtain⟨v,h1,h2⟩:=rs.get hd
 refine⟨⟨vs,v,ha,h1⟩,fun x H2 y=>⟨y.1,?_⟩⟩
 have:=y.2 vs ha
 rw[h1] at this
 cases this
 exact h2.le le
theorem Fy {K:PySem.W.Frag}{F:Hp}{a:Addr}{vs:List V}{ds:List D}(fa:F a=some (.tup vs)) (rs:cu F vs ds):Walk (Rb K a) F ds:=fun F' H' le sb i=>by
 have ha:yG K H' a vs:=.inl (Rd.of (sb a _ (le _ _ fa)))
 refine⟨fun d hd=>?_,fun hl=>⟨vs,ha,by rw[rs.length];exact hl⟩⟩
 obtain⟨v,h1,h2⟩:=rs.get hd
 refine⟨⟨vs,v,ha,h1⟩,fun x H2 y=>⟨y.1,?_⟩⟩
 have:=y.2 vs ha
 rw[h1] at this
 cases this
 exact h2.le le
theorem Fz {F:Hp}{z:Str}:Walk (RK z) F (z.cps.toList.map fun c=>.str ⟨#[c]⟩):=fun F' H' le sb i=>by
 refine⟨fun d hd=>?_,fun hl=>(show z.cps.size≤i by simpa using hl)⟩
 rw[List.getElem?_map] at hd
 obtain⟨c,hc,rfl⟩:=aG hd
 have hc':z.cps[i]? =some c:=by rw[←Array.getElem?_toList];exact hc
 refine⟨(Array.getElem?_eq_some_iff.mp hc').1,fun x H2 y=>⟨y.1,?_⟩⟩
 obtain⟨c2,k1,rfl⟩:=y.2
 rw[hc'] at k1
 cases k1
 exact .str _
theorem nP {gd:GD}(h:JD X e gd):JI X (.Name x pos) e (qF gd):=⟨fun B=>PI.orelse fun σ H R0 ⟨S,F,ds,S',R,hg,k⟩=>by
 obtain⟨⟨d,S1⟩,h1,hg⟩:=au hg
 cases d <;> try (cases hg)
 ·refine⟨_,KA (h.h B),S,F,_,_,R,h1,fun v F1 H1 R1 st1 r1=>?_⟩
  exact⟨_,CT r1,k _ F1 H1 R1 st1 Fz⟩
 ·refine⟨_,J4 (h.h B),S,F,_,_,R,h1,fun v F1 H1 R1 st1 r1=>?_⟩
  obtain⟨a,vs,rfl,fa,ha,rs⟩:=R1.sub.lV r1
  exact⟨a,rfl,⟨vs,.inl ha⟩,k _ F1 H1 R1 st1 (Fy fa rs)⟩
 ·refine⟨_,Hg (h.h B),S,F,_,_,R,h1,fun v F1 H1 R1 st1 r1=>?_⟩
  obtain⟨a,vs,rfl,fa,ha,rs⟩:=R1.sub.kT r1
  exact⟨a,rfl,⟨vs,.inl ha⟩,k _ F1 H1 R1 st1 (DG fa rs)⟩⟩
noncomputable def xy (lo:Int) (n:Nat):List D:=(List.range n).map fun(k:Nat)=>D.int (lo+(k:Int))
noncomputable def qG (gA:GA):GI:=fun S=>(gA S).bind fun p=>match p.1 with
 | [.int j]=>if j < 1000000∧-1000000 < j then some (xy 0 j.toNat,p.2) else none
 | _=>none
noncomputable def Nb (gA:GA):GI:=fun S=>(gA S).bind fun p=>match p.1 with
 | [.int i,.int j]=>if i < 1000000∧-1000000 < i∧j < 1000000∧-1000000 < j then some (xy i (j - i).toNat,p.2) else none
 | _=>none
theorem FA {F:Hp}{lo:Int}{n:Nat}:Walk (Pf lo n) F (xy lo n):=fun F' H' le sb i=>by
 refine⟨fun d hd=>?_,fun hl=>(show n≤i by simpa[xy] using hl)⟩
 unfold xy at hd
 rw[List.getElem?_map] at hd
 obtain⟨c,hc,rfl⟩:=aG hd
 obtain⟨hl,e⟩:=List.getElem?_eq_some_iff.mp hc
 rw[List.getElem_range] at e
 subst e
 refine⟨show i < n by simpa using hl,fun x H2 y=>⟨y.1,?_⟩⟩
 rw[y.2]
 exact .int _
theorem xK {tg : Expr} {gA : GA} (hg : Gl X "range") (hm : X.mg "range" = none) (ha : JA X [a] gA) (hs : starEach [a] X.env = [(false, eval a X.env)] := by rfl) : JI X tg (.Call (.Name "range" p) [a] [] pos) (qG gA) :=
  ⟨fun B=>PI.orelse fun σ H R0 ⟨S,F,ds,S',R,hg',k⟩=>by
  obtain⟨⟨d,S1⟩,h1,hg'⟩:=au hg'
  refine⟨_,Dk hg hm (ha.h B) hs,S,F,d,S1,R,h1,fun vs F1 H1 R1 st1 r1=>?_⟩
  dsimp only at hg'
  split at hg'
  · split at hg'
    · rename_i j hj
      cases hg'
      cases r1 with
      | cons r rs=>
        cases rs
        exact⟨j,by rw[mR r],by omega,by omega,k _ F1 H1 R1 st1 FA⟩
    · cases hg'
  · cases hg'⟩
noncomputable def loop (bd:GB) (body:GS):List D→SS→Option Out
 | [],S=>some (.nx S)
 | d :: ds,S=>(bd d S).bind fun S1=>(body S1).bind fun o=>match o with
  | .nx S2=>loop bd body ds S2
  | .ct S2=>loop bd body ds S2
  | .bk S2=>some (.nx S2)
  | .rt u S2=>some (.rt u S2)
noncomputable def uW (bd:GB) (gi:GI) (body:GS):GS:=fun S=>(gi S).bind fun p=>loop bd body p.1 p.2
theorem uX {tg iter:Expr}{bd:GB}{gi:GI}(hp:PassesOwn (model X.prog X.w) X.A X.env X.xe) (hc:X.calm=true) (hi:JI X tg iter gi) (hg:JG X tg bd) (hb:JB X body s1) (hs:∀x,foldedSetIterable iter X.env x=pure x:=by intro _;rfl):
  JS X (.For tg iter body [] pos) (uW bd gi s1):=⟨fun B=>(J5 hp hc (hi.h B) (hg.h B) (hb.h B) hs).imp fun D σ H ⟨S,F,o,R,h,k⟩=>by
 obtain⟨⟨ds,S1⟩,h1,h⟩:=au h
 refine⟨S,F,ds,S1,R,h1,fun J F1 H1 R1 st1 w=>?_⟩
 refine⟨fun i m σ' H'=>∃S' F',Rel X.K B S' σ' F' H'∧(∀b o,F1 b=some o→F' b=some o)∧i≤ds.length∧m=ds.length - i∧loop bd s1 (ds.drop i) S'=some o,⟨_,S1,F1,R1,fun _ _ z=>z,Nat.zero_le _,rfl,h⟩,?_⟩
 rintro i m σ' H' ⟨S',F',R',le,hl,rfl,nQ⟩
 have w':=w F' H' le R'.sub i
 by_cases hlt:i < ds.length
 ·have hd:ds[i]? =some ds[i]:=List.getElem?_eq_getElem hlt
  obtain⟨go,yl⟩:=w'.1 _ hd
  rw[List.drop_eq_getElem_cons hlt] at nQ
  obtain⟨S2,e2,nQ⟩:=au nQ
  obtain⟨o2,e3,nQ⟩:=au nQ
  refine .inr ⟨go,_,fun σ2 H2 n=>⟨ds.length - (i+1),by omega,n⟩,fun x H2 y=>?_⟩
  obtain⟨rfl,rx⟩:=yl x H2 y
  refine⟨S',F',_,S2,R',rx,e2,fun σ3 R3=>⟨S2,F',o2,R3,e3,?_⟩⟩
  cases o2 with
  | nx S3=>exact fun Nc F4 H4 R4 KO=>⟨S3,F4,R4,fun b o z=>KO b o (le b o z),hlt,rfl,nQ⟩
  | ct S3=>exact fun Nc F4 H4 R4 KO=>⟨S3,F4,R4,fun b o z=>KO b o (le b o z),hlt,rfl,nQ⟩
  | bk S3=>cases nQ;exact fun Nc F4 H4 R4 KO=>k Nc F4 H4 R4 fun b o z=>KO b o (le b o (st1.ext.le b o z))
  | rt u S3=>cases nQ;exact fun v Nc F4 H4 R4 KO=>k v Nc F4 H4 R4 fun b o z=>KO b o (le b o (st1.ext.le b o z))
 ·have e:i=ds.length:=by omega
  subst e
  rw[List.drop_length] at nQ
  cases nQ
  exact .inl ⟨w'.2 (Nat.le_refl _),k σ' F' H' R' fun b o z=>le b o (st1.ext.le b o z)⟩⟩
end
end L2
end
section
set_option Elab.async false
set_option linter.all false
set_option maxRecDepth 100000
namespace L2
open PySem PySem.Spec PyProof.Rows
noncomputable def LP:U→MO→Option U
 | .m _,o=>some (.m o)
 | .b _,o=>some (.b o)
 | _,_=>none
noncomputable def LQ:U→Option MO
 | .m o=>some o
 | .b o=>some o
 | _=>none
noncomputable def yU (S:SS) (i:Nat) (f:MO→Option (D×MO)):Option (D×SS):=match S[i]? with
 | some (some (.m o))=>(f o).map fun r=>(r.1,S.set i (some (.m r.2)))
 | some (some (.b o))=>(f o).map fun r=>(r.1,S.set i (some (.b r.2)))
 | _=>none
theorem At.Nd {F H:Hp}{a:Addr}{o:MO}{ob:Obj}{u:HO}(h:At F H a o):H a≠some (.j3 ob u):=fun z=>by
 cases o with
 | lst ds=>obtain⟨vs,e,_⟩:=h;rw[z] at e;cases e
 | dct ds=>obtain⟨vs,e,_⟩:=h;rw[z] at e;cases e
 | yQ ds=>obtain⟨vs,e,_⟩:=h;rw[z] at e;cases e
theorem wH.d9 {K:PySem.W.Frag}{F H:Hp}{v:V}{u:U}(r:wH K F H v u) (hm:gK u=true):∃a o,v= .ref a∧F a=none∧LQ u=some o∧At F H a o:=by
 cases u with
 | t d=>cases hm
 | v d=>cases hm
 | s d=>cases hm
 | m o=>obtain⟨a,e,f,h⟩:=r;exact⟨a,o,e,f,rfl,h⟩
 | b o=>obtain⟨a,e,f,h⟩:=r;exact⟨a,o,e,f,rfl,h⟩
theorem Rel.write {K : PySem.W.Frag} {B : Base} {S : SS} {σ : St} {F H : Hp} {i : Nat} {u u' : U} {a : Addr} {ho : HO} {o : MO} (R : Rel K B S σ F H) (hS : S[i]? = some (some u)) (hu : LP u o = some u') (hv : σ[i]? = some (some (.ref a))) (ha : At F (upd H a ho) a o) :
    Rel K B (S.set i (some u')) σ F (upd H a ho)∧Step S (S.set i (some u')) σ F H F (upd H a ho):=by
  have hm:gK u=true∧gK u'=true:=by cases u <;> cases hu <;> exact⟨rfl,rfl⟩
  have Nf:F a=none∧∀b ob w,H b=some (.j3 ob w)→b≠a:=by
    obtain⟨v,h1,h2⟩:=R.rep i u hS
    rw[hv] at h1
    cases h1
    obtain⟨b,_,e,f,_,k⟩:=h2.d9 hm.1
    cases e
    exact⟨f,fun b ob w z e=>k.Nd (by rw[e] at z;exact z)⟩
  have Ng:=Nf.1
  have LR:∀b ob w,H b=some (.j3 ob w)→upd H a ho b=some (.j3 ob w):=fun b ob w z=>by rw[bh (Nf.2 b ob w z)];exact z
  have Zz:L2.d9 S σ a:=⟨i,u,hS,hm.1,hv⟩
  have hl:i < S.length:=(List.getElem?_eq_some_iff.mp hS).1
  have kb:∀{j w},(S.set i (some u'))[j]? =some (some w)→(i=j∧u'=w)∨(i≠j∧S[j]? =some (some w)):=fun {j w} z=>by
    rcases get_set z with⟨e,q,_⟩ | q
    · exact .inl ⟨e,Option.some.inj q⟩
    · exact .inr q
  have orig:∀{j w},(S.set i (some u'))[j]? =some (some w)→gK w=true→∃w0,S[j]? =some (some w0)∧gK w0=true:=fun {j w} z hw=>by
    rcases kb z with⟨rfl,rfl⟩ | ⟨_,q⟩
    · exact⟨u,hS,hm.1⟩
    · exact⟨w,q,hw⟩
  have keepR:∀b o,b≠a→Rd H b o→Rd (upd H a ho) b o:=fun b o ne r=>by
    rcases r with r | ⟨ob,r⟩
    · exact .inl (by rw[bh ne];exact r)
    · exact .inr ⟨ob,by rw[bh ne];exact r⟩
  refine⟨⟨fun b o z=>by rw[bh (fun e=>by rw[e,Ng] at z;cases z)];exact R.sub b o z,by rw[List.length_set];exact R.len,fun j w z=>?_,fun j k w1 w2 c z1 m1 z2 m2=>?_,fun j o' c z hc=>?_,fun j o' c z hc=>?_,fun j c z=>?_,?_⟩,⟨?_,fun c ⟨j,w,z,hw,hc⟩=>?_,fun j w z=>?_⟩⟩
  · rcases kb z with⟨rfl,rfl⟩ | ⟨ne,q⟩
    · refine⟨.ref a,hv,?_⟩
      cases u <;> cases hu
      · exact⟨a,rfl,Ng,ha⟩
      · exact⟨a,rfl,Ng,ha⟩
    · obtain⟨v,h1,h2⟩:=R.rep j w q
      refine⟨v,h1,?_⟩
      by_cases hw:gK w=true
      · obtain⟨c,o',rfl,f,e,h⟩:=h2.d9 hw
        have hca:c≠a:=fun z=>ne (R.CP i j u w a hS hm.1 q hw hv (by rw[h1,z]))
        have h':At F (upd H a ho) c o':=h.le (fun _ _ z=>z) fun o z=>by rw[bh hca];exact z
        cases w <;> cases hw <;> cases e
        · exact⟨c,rfl,f,h'⟩
        · exact⟨c,rfl,f,h'⟩
      · cases w with
        | t d=>exact h2
        | v d=>exact h2
        | s d=>obtain⟨c,e,h⟩:=h2;exact⟨c,e,h.le LR⟩
        | m o=>exact absurd rfl hw
        | b o=>exact absurd rfl hw
  · obtain⟨RQ,q1,n1⟩:=orig z1 m1
    obtain⟨RS,q2,n2⟩:=orig z2 m2
    exact R.CP j k RQ RS c q1 n1 q2 n2
  · rcases kb z with⟨rfl,rfl⟩ | ⟨_,q⟩
    · cases u <;> cases hu
      exact R.own _ _ c hS hc
    · exact R.own j o' c q hc
  · rcases kb z with⟨rfl,rfl⟩ | ⟨_,q⟩
    · cases u <;> cases hu
      exact R.bor _ _ c hS hc
    · exact R.bor j o' c q hc
  · obtain⟨k1,o',k2⟩:=R.par j c z
    refine⟨k1,?_⟩
    by_cases e:i=j
    · subst e
      rw[hS] at k2
      cases k2
      cases hu
      exact⟨o,List.getElem?_set_self hl⟩
    · exact⟨o',by rw[List.getElem?_set_ne e];exact k2⟩
  · refine⟨R.ext.le,fun b o z n=>?_,R.ext.jV,fun b o z=>?_,fun b o w z=>LR b o w (R.ext.j3 b o w z)⟩
    · have hb:b≠a:=fun e=>by
        subst e
        cases u with
        | m o'=>rw[R.own i o' b hS hv] at z;cases z
        | b o'=>exact n (R.bor i o' b hS hv)
        | t d=>cases hu
        | v d=>cases hu
        | s d=>cases hu
      rw[bh hb]
      exact R.ext.keep b o z n
    · by_cases hb:b=a
      · exact⟨ho,by rw[hb,bY]⟩
      · rw[bh hb];exact R.ext.there b o z
  · refine⟨fun _ _ z=>z,fun b o z n=>?_,fun _ _ _ _ z=>z,fun b o z=>?_,LR⟩
    · rw[bh (fun e=>n (by rw[e];exact Zz))];exact z
    · by_cases hb:b=a
      · exact⟨ho,by rw[hb,bY]⟩
      · exact⟨o,by rw[bh hb];exact z⟩
  · obtain⟨w0,q,n⟩:=orig z hw
    exact⟨j,w0,q,n,hc⟩
  · by_cases e:i=j
    · subst e;exact⟨u',List.getElem?_set_self hl⟩
    · exact⟨w,by rw[List.getElem?_set_ne e];exact z⟩
theorem rY {S S':SS}{i:Nat}{f:MO→Option (D×MO)}{d:D}(h:yU S i f=some (d,S')):∃u u' o o',S[i]? =some (some u)∧gK u=true∧LQ u=some o∧f o=some (d,o')∧LP u o'=some u'∧S'=S.set i (some u'):=by
 unfold yU at h
 split at h
 ·rename_i o e
  obtain⟨⟨d',o'⟩,h1,h⟩:=aG h
  cases h
  exact⟨_,_,o,o',e,rfl,rfl,h1,rfl,rfl⟩
 ·rename_i o e
  obtain⟨⟨d',o'⟩,h1,h⟩:=aG h
  cases h
  exact⟨_,_,o,o',e,rfl,rfl,h1,rfl,rfl⟩
 ·cases h
noncomputable def XN (r:V→List V→Hp→VK→Prop) (h:List D→MO→Option (D×MO)):Prop:=
 ∀F H a vs xs ds args res o',Sub F H→H a=some (.lst vs)→F a=none→cu F vs ds→cu F xs args→h args (.lst ds)=some (res,o')→
  ∀Q:VK,(∀rv ho,Rep F rv res→At F (upd H a ho) a o'→Q rv (upd H a ho))→r (.ref a) xs H Q
noncomputable def fM:MO→Bool
 | .lst _=>true
 | _=>false
noncomputable def Nh (S:SS) (i:Nat):Bool:=match S[i]? with
 | some (some (.m (.lst _)))=>true
 | some (some (.b (.lst _)))=>true
 | _=>false
theorem KP {K:PySem.W.Frag}{B:Base}{S:SS}{σ:St}{F H:Hp}{i:Nat}(R:Rel K B S σ F H) (h:Nh S i=true):∃u a vs ds,S[i]? =some (some u)∧gK u=true∧LQ u=some (.lst ds)∧σ[i]? =some (some (.ref a))∧F a=none∧H a=some (.lst vs)∧cu F vs ds:=by
 unfold Nh at h
 split at h
 ·rename_i ds e
  obtain⟨v,k1,a,rfl,f,vs,k2,k3⟩:=R.rep i _ e
  exact⟨_,a,vs,ds,e,rfl,rfl,k1,f,k2,k3⟩
 ·rename_i ds e
  obtain⟨v,k1,a,rfl,f,vs,k2,k3⟩:=R.rep i _ e
  exact⟨_,a,vs,ds,e,rfl,rfl,k1,f,k2,k3⟩
 ·cases h
noncomputable def eM (i:Nat) (h:List D→MO→Option (D×MO)) (gA:GA):GD:=fun S=>if Nh S i then(gA S).bind fun p=>yU p.2 i (h p.1) else none
theorem FD {K:PySem.W.Frag}{B:Base}{S:SS}{σ:St}{F H:Hp}{i:Nat}{a:Addr}{u:U}{ds:List D}(R:Rel K B S σ F H) (hS:S[i]? =some (some u)) (hm:gK u=true) (hi:LQ u=some (.lst ds)) (hv:σ[i]? =some (some (.ref a))):F a=none∧∃vs,H a=some (.lst vs)∧cu F vs ds:=by
 obtain⟨v,k1,k2⟩:=R.rep i u hS
 rw[hv] at k1
 cases k1
 obtain⟨b,o2,e1,f,e2,k⟩:=k2.d9 hm
 cases e1
 rw[hi] at e2
 cases e2
 exact⟨f,k⟩
section
variable {X:Cx}{a b c e:Expr}{es:List Expr}{pos p p2 apos cpos px:Pos}{x name:Str}{g ga gb gc:GD}{gA:GA}{id:String}
theorem HR {i:Nat}{r:V→List V→Hp→VK→Prop}{h:List D→MO→Option (D×MO)}(slot:Slot "list" name id) (hty:typeOf (.builtin id)=pure (.type "method_descriptor")) (hm:Ku X id r) (hh:XN r h) (hl:∀args o,fM o=false→h args o=none) (ha:JA X (e :: es) gA)
  (hN:X.N[i]? =some x:=by rfl) (hv:Ez X.env.scope x:=by first | exact Or.inl rfl | exact Or.inr (Or.inl rfl) | exact Or.inr (Or.inr rfl))
  (hbase:attributeBase (.Name x px) name X.env (eval (.Name x px) X.env)=eval (.Name x px) X.env:=by rfl)
  (hfew:((backTo cpos (starEach (e :: es) X.env)).all (fun x=>!x.1) && (backToKw cpos (keywordEach [] X.env)).all (fun x=>x.1.isSome)
   && decide ((e :: es).length+([]:List Keyword).length+(if([]:List Keyword).isEmpty then 0 else 1) < 30))=true:=by rfl)
  (hline:(apos.endLine == cpos.line)=true:=by rfl) (hs:starEach (e :: es) X.env=(false,eval e X.env) :: starEach es X.env:=by rfl) (hplain:(backTo cpos (starEach es X.env)).any (·.1)=false:=by rfl)
  (hd:(x == ("__debug__":Str))=false:=by decide) (hcd:(x == ("__classdict__":Str))=false:=by decide):
  JD X (.Call (.Attribute (.Name x px) name apos) (e :: es) [] cpos) (eM i h gA):=
 ⟨fun B=>(MZ PySem.F.plainAttrs_list slot hty hm (jj hN hv hd hcd) (ha.h B) hbase hfew hline hs hplain).imp fun σ H Q ⟨S,F,d,S',R,hg,q⟩=>by
 unfold eM at hg
 split at hg
 ·rename_i hL
  obtain⟨⟨args,S1⟩,h1,hg⟩:=au hg
  obtain⟨u,u',o,o',hS,Je,hio,hf,KQ,rfl⟩:=rY hg
  obtain⟨u0,a,XA,ds0,_,_,_,hv0,_,hH,_⟩:=KP R hL
  cases o with
  | dct kvs=>rw[hl _ _ rfl] at hf;cases hf
  | yQ kvs=>rw[hl _ _ rfl] at hf;cases hf
  | lst ds=>
   refine⟨.ref a,hv0,.inl ⟨rfl,XA,pQ.of hH⟩,S,F,args,S1,R,h1,fun xs F1 H1 R1 st1 r1=>?_⟩
   obtain⟨hf1,vs,ZA,rs⟩:=FD R1 hS Je hio hv0
   refine hh F1 H1 a vs xs ds args d o' R1.sub ZA hf1 rs r1 hf Q fun rv ho rr ha=>?_
   obtain⟨R2,st2⟩:=R1.write hS KQ hv0 ha
   exact q rv F1 _ R2 (st1.trans st2) rr
 ·cases hg⟩
noncomputable def hAppend:List D→MO→Option (D×MO)
 | [d],.lst ds=>if ds.length < 100000 then some (.cH,.lst (ds++[d])) else none
 | _,_=>none
noncomputable def Aa:List D→MO→Option (D×MO)
 | [],.lst ds=>some (.cH,.lst ds.reverse)
 | _,_=>none
theorem cu.reverse {F:Hp}:∀{vs:List V}{ds:List D},cu F vs ds→cu F vs.reverse ds.reverse
 | _,_,.nil=>.nil
 | _,_,.cons r rs=>by rw[List.reverse_cons,List.reverse_cons];exact(cu.reverse rs).append (.cons r .nil)
end
end L2
end
section
set_option Elab.async false
set_option linter.all false
set_option maxRecDepth 100000
namespace L2
open PySem PySem.Spec PyProof.Rows
theorem kR.step {K:PySem.W.Frag}{B:Base}{S S':SS}{σ:St}{H0 F H F' H':Hp}{v:V}{u:U}(r:kR K B S σ H0 F H v u) (st:Step S S' σ F H F' H'):kR K B S' σ H0 F' H' v u:=by
 cases u with
 | t d=>exact r.le st.ext.le
 | b o=>exact r
 | v i=>obtain⟨h1,u,h2⟩:=r;exact⟨h1,st.slots i u h2⟩
 | s i=>obtain⟨a,e,h⟩:=r;exact⟨a,e,h.le st.ext.j3⟩
 | m o=>
  obtain⟨a,e,h0,f,h,n,hB⟩:=r
  obtain⟨ho,hh⟩:=h.has
  exact⟨a,e,h0,st.ext.jV a ho hh n f,h.le st.ext.le fun o z=>st.ext.keep a o z n,fun m=>n (st.mu a m),hB⟩
noncomputable abbrev GU:=SS→Option (List U×SS)
noncomputable def ZC (K:PySem.W.Frag) (B:Base) (gu:GU):TA:=fun σ H Q=>∃S F us S',Rel K B S σ F H∧gu S=some (us,S')∧∀vs F' H',Rel K B S' σ F' H'→Step S S' σ F H F' H'→Paired (fun v u=>kR K B S' σ H F' H' v u) vs us→Q vs H'
structure JU (X:Cx) (es:List Expr) (gu:GU):Prop where
 h:∀B,PA X es (ZC X.K B gu)
 len:∀S us S',gu S=some (us,S')→us.length=es.length
noncomputable def bN:GU:=fun S=>some ([],S)
noncomputable def aQ (g:GD) (gu:GU):GU:=fun S=>(g S).bind fun p=>(gu p.2).map fun q=>(.t p.1 :: q.1,q.2)
noncomputable def cT (g:GE) (gu:GU):GU:=fun S=>(g S).bind fun p=>(gu p.2).map fun q=>(p.1 :: q.1,q.2)
section
variable {X:Cx}{e:Expr}{es:List Expr}{g:GD}{ge:GE}{gu:GU}
theorem aR:JU X [] bN:=⟨fun B=>yI.imp fun σ H Q ⟨S,F,us,S',R,hg,q⟩=>by
 cases hg
 exact q [] F H R (Step.refl ..) .nil,fun S us S' h=>by cases h;rfl⟩
theorem aD (h:JD X e g) (hr:JU X es gu) (hs:starEach (e :: es) X.env=(false,eval e X.env) :: starEach es X.env:=by rfl):JU X (e :: es) (aQ g gu):=
 ⟨fun B=>(pA (h.h B) (hr.h B) hs).imp fun σ H Q ⟨S,F,us,S',R,hg,q⟩=>by
 obtain⟨⟨d,S1⟩,h1,hg⟩:=au hg
 obtain⟨⟨KR,S2⟩,h2,hg⟩:=aG hg
 cases hg
 exact⟨S,F,d,S1,R,h1,fun v F1 H1 R1 st1 r1=>⟨S1,F1,KR,S2,R1,h2,fun vs F2 H2 R2 st2 r2=>q _ F2 H2 R2 (st1.trans st2) (.cons (r1.le st2.ext.le) (Paired.Df r2 fun _ _ z=>z.weak st1.ext.there))⟩⟩,
 fun S us S' hg=>by
  obtain⟨⟨d,S1⟩,h1,hg⟩:=au hg
  obtain⟨⟨KR,S2⟩,h2,hg⟩:=aG hg
  cases hg
  show KR.length+1=es.length+1
  rw[hr.len _ _ _ h2]⟩
theorem bX (h:JE X e ge) (hr:JU X es gu) (hs:starEach (e :: es) X.env=(false,eval e X.env) :: starEach es X.env:=by rfl):JU X (e :: es) (cT ge gu):=
 ⟨fun B=>(pA (h.h B) (hr.h B) hs).imp fun σ H Q ⟨S,F,us,S',R,hg,q⟩=>by
 obtain⟨⟨d,S1⟩,h1,hg⟩:=au hg
 obtain⟨⟨KR,S2⟩,h2,hg⟩:=aG hg
 cases hg
 exact⟨S,F,d,S1,R,h1,fun v F1 H1 R1 st1 r1=>⟨S1,F1,KR,S2,R1,h2,fun vs F2 H2 R2 st2 r2=>q _ F2 H2 R2 (st1.trans st2) (.cons (r1.step st2) (Paired.Df r2 fun _ _ z=>z.weak st1.ext.there))⟩⟩,
 fun S us S' hg=>by
  obtain⟨⟨d,S1⟩,h1,hg⟩:=au hg
  obtain⟨⟨KR,S2⟩,h2,hg⟩:=aG hg
  cases hg
  show KR.length+1=es.length+1
  rw[hr.len _ _ _ h2]⟩
end
noncomputable def resolve (S:SS):U→Option U
 | .t d=>some (.t d)
 | .v i=>match S[i]? with
  | some (some (.m o))=>some (.b o)
  | some (some (.b o))=>some (.b o)
  | _=>none
 | .m o=>some (.b o)
 | .b _=>none
 | .s ns=>some (.s ns)
noncomputable def dH (S:SS):List U→Option (List U)
 | []=>some []
 | u :: us=>(resolve S u).bind fun w=>(dH S us).map fun ws=>w :: ws
noncomputable def slotsOf:List U→List Nat
 | []=>[]
 | .v i :: us=>i :: slotsOf us
 | _ :: us=>slotsOf us
noncomputable def dW:List U→Nat
 | []=>0
 | .m _ :: us=>dW us+1
 | _ :: us=>dW us
noncomputable def wb:List U→List MO→SS→Option SS
 | [],[],S=>some S
 | .v i :: us,o :: outs,S=>match S[i]? with
  | some (some (.m _))=>wb us outs (S.set i (some (.m o)))
  | some (some (.b _))=>wb us outs (S.set i (some (.b o)))
  | _=>none
 | .m _ :: us,_ :: outs,S=>wb us outs S
 | .t _ :: us,outs,S=>wb us outs S
 | .s _ :: us,outs,S=>wb us outs S
 | _,_,_=>none
noncomputable abbrev FM:=List U→Option (U×List MO)
noncomputable def aP (f:FM) (gu:GU):GE:=fun S=>(gu S).bind fun p=>
 if(slotsOf p.1).Nodup∧dW p.1≤1 then(dH p.2 p.1).bind fun us=>(f us).bind fun r=>(wb p.1 r.2 p.2).map fun S2=>(r.1,S2) else none
noncomputable def FE (K:PySem.W.Frag) (F H:Hp) (v:V):U→Prop
 | .s ns=>∃a,v= .ref a∧HH K H a ns
 | .t d=>Rep F v d
 | .b o=>∃a,v= .ref a∧F a=none∧At F H a o
 | _=>False
noncomputable def addrs:List V→List U→List Addr
 | .ref a :: vs,.b _ :: us=>a :: addrs vs us
 | _ :: vs,_ :: us=>addrs vs us
 | _,_=>[]
structure Post (F H F' H':Hp) (as:List Addr) (outs:List MO):Prop where
 sub:Sub F' H'
 ext:Ext (fun a=>a∈as) F H F' H'
 out:Paired (fun a o=>F' a=none∧At F' H' a o) as outs
noncomputable def spT (K:PySem.W.Frag) (n:Nat) (f:FM):Sp:=fun vs H Q _=>vs.length=n∧∃F us r outs,Sub F H∧Paired (FE K F H) vs us∧(addrs vs us).Nodup∧f us=some (r,outs)∧∀v F' H',Post F H F' H' (addrs vs us) outs→DB H F' H' v r→Q v H'
section
variable {K:PySem.W.Frag}{B:Base}{S S1 S2:SS}{σ:St}{H0 F H F' H':Hp}
theorem pC {i:Nat}{w:U}(h:resolve S (.v i)=some w):∃u o,S[i]? =some (some u)∧gK u=true∧LQ u=some o∧w= .b o:=by
 unfold resolve at h
 dsimp only at h
 split at h
 ·rename_i o e;cases h;exact⟨_,o,e,rfl,rfl,rfl⟩
 ·rename_i o e;cases h;exact⟨_,o,e,rfl,rfl,rfl⟩
 ·cases h
theorem yV (R:Rel K B S σ F H):∀{vs:List V}{us ws:List U},Paired (fun v u=>kR K B S σ H0 F H v u) vs us→dH S us=some ws→Paired (FE K F H) vs ws
 | _,_,_,.nil,h=>by cases h;exact .nil
 | _,_,_,@Paired.cons _ _ _ v u vs us r rs,h=>by
  obtain⟨w,h1,h⟩:=au h
  obtain⟨ws,h2,h⟩:=aG h
  subst h
  refine .cons ?_ (yV R rs h2)
  cases u with
  | t d=>cases h1;exact r
  | s d=>cases h1;exact r
  | b o=>cases h1
  | m o=>cases h1;obtain⟨a,e,_,f,k,_⟩:=r;exact⟨a,e,f,k⟩
  | v i=>
   obtain⟨u,o,hu,hm,hi,rfl⟩:=pC h1
   obtain⟨hv,_⟩:=r
   obtain⟨v',k1,k2⟩:=R.rep i u hu
   rw[hv] at k1
   cases k1
   obtain⟨a,o2,e,f,e2,k⟩:=k2.d9 hm
   rw[hi] at e2
   cases e2
   exact⟨a,e,f,k⟩
theorem qH (R : Rel K B S σ F H) : ∀ {vs : List V} {us ws : List U}, Paired (fun v u => kR K B S σ H0 F H v u) vs us → dH S us = some ws → ∀ a ∈ addrs vs ws,
    (∃i u,i∈slotsOf us∧S[i]? =some (some u)∧gK u=true∧σ[i]? =some (some (.ref a)))∨(0 < dW us∧H0 a=none∧B.H a=none∧¬d9 S σ a)
  | _,_,_,.nil,h,a,ha=>by cases h;cases ha
  | _,_,_,@Paired.cons _ _ _ v u vs us r rs,h,a,ha=>by
    obtain⟨w,h1,h⟩:=au h
    obtain⟨ws,h2,h⟩:=aG h
    subst h
    have ih:=qH R rs h2
    cases u with
    | t d=>
      cases h1
      have ha:a∈addrs vs ws:=by cases v <;> exact ha
      exact ih a ha
    | s d=>
      cases h1
      have ha:a∈addrs vs ws:=by cases v <;> exact ha
      exact ih a ha
    | b o=>cases h1
    | m o =>
      cases h1
      obtain⟨c,rfl,k0,f,k,n,hB⟩:=r
      rcases List.mem_cons.mp (show a∈c :: addrs vs ws from ha) with rfl | ha
      · exact .inr ⟨Nat.succ_pos _,k0,hB,n⟩
      · rcases ih a ha with z | ⟨_,z⟩
        · exact .inl z
        · exact .inr ⟨Nat.succ_pos _,z⟩
    | v i =>
      obtain⟨u,o,hu,hm,hi,rfl⟩:=pC h1
      obtain⟨hv,_⟩:=r
      obtain⟨v',k1,k2⟩:=R.rep i u hu
      rw[hv] at k1
      cases k1
      obtain⟨c,o2,rfl,f,e2,k⟩:=k2.d9 hm
      rcases List.mem_cons.mp (show a∈c :: addrs vs ws from ha) with rfl | ha
      · exact .inl ⟨i,u,List.mem_cons_self,hu,hm,hv⟩
      · rcases ih a ha with⟨j,w,z,z2⟩ | z
        · exact .inl ⟨j,w,List.mem_cons_of_mem _ z,z2⟩
        · exact .inr z
theorem iP (R : Rel K B S σ F H) : ∀ {vs : List V} {us ws : List U}, Paired (fun v u => kR K B S σ H0 F H v u) vs us → dH S us = some ws → (slotsOf us).Nodup → dW us ≤ 1 → (addrs vs ws).Nodup
  | _,_,_,.nil,h,_,_=>by cases h;exact List.nodup_nil
  | _,_,_,@Paired.cons _ _ _ v u vs us r rs,h,nd,fr=>by
    obtain⟨w,h1,h⟩:=au h
    obtain⟨ws,h2,h⟩:=aG h
    subst h
    cases u with
    | t d=>
      cases h1
      have:=iP R rs h2 nd fr
      cases v <;> exact this
    | s d=>
      cases h1
      have:=iP R rs h2 nd fr
      cases v <;> exact this
    | b o=>cases h1
    | m o=>
      cases h1
      have fr0:dW us=0:=by have:dW us+1≤1:=fr;omega
      obtain⟨c,rfl,k0,f,k,n,hB⟩:=r
      refine List.nodup_cons.mpr ⟨fun hc=>?_,iP R rs h2 nd (by omega)⟩
      rcases qH R rs h2 c hc with⟨j,w,_,z1,z2,z3⟩ | ⟨z,_⟩
      · exact n ⟨j,w,z1,z2,z3⟩
      · omega
    | v i =>
      obtain⟨u,o,hu,hm,hi,rfl⟩:=pC h1
      obtain⟨hv,_⟩:=r
      obtain⟨v',k1,k2⟩:=R.rep i u hu
      rw[hv] at k1
      cases k1
      obtain⟨c,o2,rfl,f,e2,k⟩:=k2.d9 hm
      obtain⟨RU,RV⟩:=List.nodup_cons.mp (show(i :: slotsOf us).Nodup from nd)
      refine List.nodup_cons.mpr ⟨fun hc=>?_,iP R rs h2 RV fr⟩
      rcases qH R rs h2 c hc with⟨j,w,z0,z1,z2,z3⟩ | ⟨_,_,_,z⟩
      · have:=R.CP i j u w c hu hm z1 z2 hv z3
        subst this
        exact RU z0
      · exact z ⟨i,u,hu,hm,hv⟩
theorem qI (R : Rel K B S σ F H) (P : Addr → MO → Prop) : ∀ {vs : List V} {us ws : List U} {outs : List MO} {S1 S2 : SS}, Paired (fun v u => kR K B S σ H0 F H v u) vs us → dH S us = some ws → wb us outs S1 = some S2 → (slotsOf us).Nodup → Paired P (addrs vs ws) outs →
    S2.length=S1.length∧(∀j,j∉slotsOf us→S2[j]? =S1[j]?)∧∀j∈slotsOf us,∃u u' o a,S1[j]? =some (some u)∧LP u o=some u'∧S2[j]? =some (some u')∧σ[j]? =some (some (.ref a))∧P a o
  | _,_,_,_,_,_,.nil,h,hw,_,hp=>by
    cases h
    cases hp
    cases hw
    exact⟨rfl,fun _ _=>rfl,fun j hj=>by cases hj⟩
  | _, _, _, outs, S1, S2, @Paired.cons _ _ _ v u vs us r rs, h, hw, nd, hp => by
    obtain⟨w,h1,h⟩:=au h
    obtain⟨ws,h2,h⟩:=aG h
    subst h
    cases u with
    | t d =>
      cases h1
      have hp:Paired P (addrs vs ws) outs:=by cases v <;> exact hp
      have hw:wb us outs S1=some S2:=by
        cases outs <;> exact hw
      have ih:=qI R P rs h2 hw nd hp
      exact ih
    | s d =>
      cases h1
      have hp:Paired P (addrs vs ws) outs:=by cases v <;> exact hp
      have hw:wb us outs S1=some S2:=by
        cases outs <;> exact hw
      have ih:=qI R P rs h2 hw nd hp
      exact ih
    | b o=>cases h1
    | m o =>
      cases h1
      obtain⟨c,rfl,k0,f,k,n,hB⟩:=r
      cases hp with
      | cons p1 p2=>
        have ih:=qI R P rs h2 (show wb us _ S1=some S2 from hw) nd p2
        exact ih
    | v i =>
      obtain⟨u0,o0,hu,hm,hi,rfl⟩:=pC h1
      obtain⟨hv,_⟩:=r
      obtain⟨v',k1,k2⟩:=R.rep i u0 hu
      rw[hv] at k1
      cases k1
      obtain⟨c,o2,rfl,f,e2,k⟩:=k2.d9 hm
      obtain⟨RU,RV⟩:=List.nodup_cons.mp (show(i :: slotsOf us).Nodup from nd)
      cases hp with
      | @cons _ o _ outs p1 p2 =>
        have go : ∀ u u', S1[i]? = some (some u) → LP u o = some u' → wb us outs (S1.set i (some u')) = some S2 → S2.length = S1.length ∧ (∀ j, j ∉ i :: slotsOf us → S2[j]? = S1[j]?) ∧ ∀ j ∈ i :: slotsOf us, ∃ u u' o a, S1[j]? = some (some u) ∧ LP u o = some u' ∧ S2[j]? = some (some u') ∧ σ[j]? = some (some (.ref a)) ∧ P a o := fun u u' e1 e2 hw => by
          obtain⟨l,out,DF⟩:=qI R P rs h2 hw RV p2
          refine⟨by rw[l,List.length_set],fun j hj=>?_,fun j hj=>?_⟩
          · rw[out j fun z=>hj (List.mem_cons_of_mem _ z),List.getElem?_set_ne fun z=>hj (by rw[z];exact List.mem_cons_self)]
          · by_cases e:i=j
            · subst e
              exact⟨u,u',o,c,e1,e2,by rw[out i RU];exact List.getElem?_set_self (List.getElem?_eq_some_iff.mp e1).1,hv,p1⟩
            · rcases List.mem_cons.mp hj with z | z
              · exact absurd z.symm e
              · obtain⟨w,w',o',a',q1,q2,q3,q4,q5⟩:=DF j z
                rw[List.getElem?_set_ne e] at q1
                exact⟨w,w',o',a',q1,q2,q3,q4,q5⟩
        unfold wb at hw
        split at hw
        · rename_i o' e;exact go _ _ e rfl hw
        · rename_i o' e;exact go _ _ e rfl hw
        · cases hw
end
theorem p6 {K : PySem.W.Frag} {B : Base} {S0 S S2 : SS} {σ : St} {F0 H0 F H F' H' : Hp} {vs : List V} {us ws : List U} {outs : List MO} (R : Rel K B S σ F H) (st : Step S0 S σ F0 H0 F H) (rr : Paired (fun v u => kR K B S σ H0 F H v u) vs us) (hr : dH S us = some ws) (hw : wb us outs S = some S2) (nd : (slotsOf us).Nodup) (p : Post F H F' H' (addrs vs ws) outs) :
    Rel K B S2 σ F' H'∧Step S0 S2 σ F0 H0 F' H'∧∀a,d9 S2 σ a→d9 S σ a:=by
  obtain⟨hl,out,DF⟩:=qI R (fun a o=>F' a=none∧At F' H' a o) rr hr hw nd p.out
  have ZD:∀{u:U}{o:MO}{u':U},LP u o=some u'→gK u=true∧gK u'=true∧LQ u'=some o:=fun {u o u'} h=>by cases u <;> cases h <;> exact⟨rfl,rfl,rfl⟩
  have orig:∀{j w},S2[j]? =some (some w)→gK w=true→∃w0,S[j]? =some (some w0)∧gK w0=true:=fun {j w} z hm=>by
    by_cases hj:j∈slotsOf us
    · obtain⟨u,u',o,a,q1,q2,q3,q4,q5⟩:=DF j hj
      exact⟨u,q1,(ZD q2).1⟩
    · rw[out j hj] at z;exact⟨w,z,hm⟩
  have mu:∀a,d9 S2 σ a→d9 S σ a:=fun a ⟨j,w,z,hm,hv⟩=>let⟨w0,q,n⟩:=orig z hm;⟨j,w0,q,n,hv⟩
  have CW:=qH R rr hr
  refine⟨⟨p.sub,by rw[hl];exact R.len,fun j w z=>?_,fun j k w1 w2 c z1 m1 z2 m2=>?_,fun j o a z hv=>?_,fun j o a z hv=>?_,fun j a z=>?_,?_⟩,⟨⟨?_,?_,?_,?_,fun b o u z=>p.ext.j3 b o u (st.ext.j3 b o u z)⟩,fun a m=>st.mu a (mu a m),fun j u z=>?_⟩,mu⟩
  · by_cases hj:j∈slotsOf us
    · obtain⟨u,u',o,a,q1,q2,q3,q4,q5,q6⟩:=DF j hj
      rw[q3] at z
      cases z
      refine⟨.ref a,q4,?_⟩
      cases u <;> cases q2
      · exact⟨a,rfl,q5,q6⟩
      · exact⟨a,rfl,q5,q6⟩
    · rw[out j hj] at z
      obtain⟨v,h1,h2⟩:=R.rep j w z
      refine⟨v,h1,h2.le p.ext.le p.ext.j3 fun a hm ha=>?_⟩
      have hna:a∉addrs vs ws:=fun hc=>by
        rcases CW a hc with⟨i,u,q0,q1,q2,q3⟩ | ⟨_,_,_,q⟩
        · have:=R.CP i j u w a q1 q2 z hm q3 (by rw[h1,ha])
          subst this
          exact hj q0
        · exact q ⟨j,w,z,hm,by rw[h1,ha]⟩
      obtain⟨c,o,e,f,_,k⟩:=h2.d9 hm
      rw[ha] at e
      cases e
      obtain⟨ho,hh⟩:=k.has
      exact⟨fun o q=>p.ext.keep a o q hna,p.ext.jV a ho hh hna f⟩
  · obtain⟨RQ,q1,n1⟩:=orig z1 m1
    obtain⟨RS,q2,n2⟩:=orig z2 m2
    exact R.CP j k RQ RS c q1 n1 q2 n2
  · by_cases hj:j∈slotsOf us
    · obtain⟨u,u',o',a',q1,q2,q3,q4,q5⟩:=DF j hj
      rw[q3] at z
      cases z
      cases u <;> cases q2
      exact R.own j _ a q1 hv
    · rw[out j hj] at z;exact R.own j o a z hv
  · by_cases hj:j∈slotsOf us
    · obtain⟨u,u',o',a',q1,q2,q3,q4,q5⟩:=DF j hj
      rw[q3] at z
      cases z
      cases u <;> cases q2
      exact R.bor j _ a q1 hv
    · rw[out j hj] at z;exact R.bor j o a z hv
  · obtain⟨k1,o,k2⟩:=R.par j a z
    refine⟨k1,?_⟩
    by_cases hj:j∈slotsOf us
    · obtain⟨u,u',o',a',q1,q2,q3,q4,q5⟩:=DF j hj
      rw[k2] at q1
      cases q1
      cases q2
      exact⟨_,q3⟩
    · exact⟨o,by rw[out j hj];exact k2⟩
  · refine R.ext.trans p.ext fun b hb=>?_
    rcases CW b hb with⟨i,u,q0,q1,q2,q3⟩ | ⟨_,_,q,_⟩
    · cases u with
      | t d=>cases q2
      | v d=>cases q2
      | s d=>cases q2
      | m o=>exact .inr (R.own i o b q1 q3)
      | b o=>exact .inl (R.bor i o b q1 q3)
    · exact .inr q
  · exact fun b o h=>p.ext.le b o (st.ext.le b o h)
  · intro b o h n
    refine p.ext.keep b o (st.ext.keep b o h n) fun hb=>?_
    rcases CW b hb with⟨i,u,q0,q1,q2,q3⟩ | ⟨_,q,_⟩
    · exact n (st.mu b ⟨i,u,q1,q2,q3⟩)
    · rw[h] at q;cases q
  · intro b o h n f
    refine p.ext.jV b o (st.ext.keep b o h n) (fun hb=>?_) (st.ext.jV b o h n f)
    rcases CW b hb with⟨i,u,q0,q1,q2,q3⟩ | ⟨_,q,_⟩
    · exact n (st.mu b ⟨i,u,q1,q2,q3⟩)
    · rw[h] at q;cases q
  · intro b o h
    obtain⟨o',h'⟩:=st.ext.there b o h
    exact p.ext.there b o' h'
  · obtain⟨u',h'⟩:=st.slots j u z
    by_cases hj:j∈slotsOf us
    · obtain⟨_,u2,_,_,_,_,q3,_⟩:=DF j hj
      exact⟨u2,q3⟩
    · exact⟨u',by rw[out j hj];exact h'⟩
section
variable {X:Cx}{e:Expr}{es:List Expr}{gu:GU}{x:Str}{p pos:Pos}{f:FM}{fa:Addr}{fd:FuncData}{ps:List Str}{k n:Nat}
theorem aK (F:bK X.prog X.w X.K X.mg X.base eG k fa fd ps (spT X.K n f)) (hr:jW k X.A) (hg:Gl X x) (hm:X.mg x=some (.ref fa)) (hk:PySem.W.keepIn X.K (.ref fa)=true) (hb:Binds X.K fd ps []) (ha:JU X (e :: es) gu) (hn:(e :: es).length=n:=by rfl)
  (hdb:(x == ("__debug__":Str))=false:=by decide) (he:starEach (e :: es) X.env=(false,eval e X.env) :: starEach es X.env:=by rfl) (hpl:(backTo pos (starEach es X.env)).any (·.1)=false:=by rfl):
  JE X (.Call (.Name x p) (e :: es) [] pos) (aP f gu):=⟨fun B=>(Hl F hr hg hm hk hb .nil IZ (ha.h B) hdb he hpl).imp fun σ H Q ⟨S,F0,u,S',R,hg,q⟩=>by
 obtain⟨⟨us,S1⟩,h1,hg⟩:=au hg
 dsimp only at hg
 split at hg
 ·rename_i hc
  obtain⟨ws,h2,hg⟩:=au hg
  obtain⟨⟨r,outs⟩,h3,hg⟩:=au hg
  obtain⟨S2,h4,hg⟩:=aG hg
  cases hg
  refine⟨S,F0,us,S1,R,h1,fun vs F1 H1 R1 st1 rr=>?_⟩
  show spT X.K n f (vs++[]) H1 Q E0
  rw[List.append_nil]
  have hlen:vs.length=n:=by rw[rr.length,ha.len _ _ _ h1];exact hn
  refine⟨hlen,F1,ws,r,outs,R1.sub,yV R1 rr h2,iP R1 rr h2 hc.1 hc.2,h3,fun v F2 H2 po rn=>?_⟩
  obtain⟨R2,st2,mu⟩:=p6 R1 st1 rr h2 h4 hc.1 po
  refine q v F2 H2 R2 st2 ?_
  cases r with
  | t d=>exact rn
  | b o=>cases rn
  | v i=>cases rn
  | s i=>cases rn
  | m o=>
   obtain⟨a,e,h0,f,h⟩:=rn
   refine⟨a,e,none_of st1.ext.there h0,f,h,fun m=>?_,none_of R1.ext.there h0⟩
   obtain⟨o',ho⟩:=R1.has (mu a m)
   rw[h0] at ho
   cases ho
 ·cases hg⟩
end
end L2
end
section
set_option Elab.async false
set_option linter.all false
set_option maxRecDepth 100000
namespace L2
open PySem PySem.Spec PyProof.Rows
noncomputable def aC:List U→SS→Option (List MO)
 | [],_=>some []
 | .b _ :: us,some (.b o) :: S=>(aC us S).map fun os=>o :: os
 | .b _ :: _,_=>none
 | _ :: us,_ :: S=>aC us S
 | _ :: _,[]=>none
noncomputable def aJ (n:Nat) (g:GS):FM:=fun us=>(g (us.map some++List.replicate (n - us.length) none)).bind fun o=>match o with
 | .rt (.t d) S=>(aC us S).map fun os=>(.t d,os)
 | .rt (.m o) S=>(aC us S).map fun os=>(.m o,os)
 | .nx S=>(aC us S).map fun os=>(.t .cH,os)
 | _=>none
noncomputable def lent:List V→List U→List (Option Addr)
 | .ref a :: vs,.b _ :: us=>some a :: lent vs us
 | _ :: vs,_ :: us=>none :: lent vs us
 | _,_=>[]
theorem nR:∀(vs:List V) (us:List U) (a:Addr),some a∈lent vs us↔a∈addrs vs us
 | [],us,a=>by cases us <;> simp[lent,addrs]
 | v :: vs,[],a=>by cases v <;> simp[lent,addrs]
 | v :: vs,u :: us,a=>by
  have ih:=nR vs us a
  cases v <;> cases u <;> simp[lent,addrs,ih]
theorem Ab:∀{vs:List V}{us:List U}{i:Nat}{a:Addr},(lent vs us)[i]? =some (some a)→vs[i]? =some (.ref a)∧∃o,us[i]? =some (.b o)
 | [],us,i,a,h=>by cases us <;> simp[lent] at h
 | v :: vs,[],i,a,h=>by cases v <;> simp[lent] at h
 | v :: vs,u :: us,0,a,h=>by
  cases v <;> cases u <;> simp[lent] at h
  subst h
  exact⟨rfl,_,rfl⟩
 | v :: vs,u :: us,i+1,a,h=>by
  have h':(lent vs us)[i]? =some (some a):=by cases v <;> cases u <;> simpa[lent] using h
  simpa using Ab h'
theorem yW {K:PySem.W.Frag}:∀{F H:Hp}{vs:List V}{us:List U}{i:Nat}{o:MO},Paired (FE K F H) vs us→us[i]? =some (.b o)→∃a,vs[i]? =some (.ref a)∧(lent vs us)[i]? =some (some a)∧F a=none∧At F H a o
 | _,_,_,_,_,_,.nil,h=>by simp at h
 | _,_,_,_,0,o,@Paired.cons _ _ _ v u vs us r rs,h=>by
  simp at h
  subst h
  obtain⟨a,rfl,f,k⟩:=r
  exact⟨a,rfl,rfl,f,k⟩
 | _,_,_,_,i+1,o,@Paired.cons _ _ _ v u vs us r rs,h=>by
  obtain⟨a,h1,h2,h3⟩:=yW (i:=i) rs (by simpa using h)
  refine⟨a,by simpa using h1,?_,h3⟩
  cases v <;> cases u <;> simpa[lent] using h2
theorem xM : ∀ {vs : List V} {us : List U} {i j : Nat} {a : Addr}, (addrs vs us).Nodup → (lent vs us)[i]? = some (some a) → (lent vs us)[j]? = some (some a) → i = j
  | [],us,i,j,a,_,h,_=>by cases us <;> simp[lent] at h
  | v :: vs,[],i,j,a,_,h,_=>by cases v <;> simp[lent] at h
  | v :: vs, u :: us, i, j, a, nd, h1, h2 => by
    have ih:∀{i j},(addrs vs us).Nodup→(lent vs us)[i]? =some (some a)→(lent vs us)[j]? =some (some a)→i=j:=fun {i j}=>xM (i:=i) (j:=j)
    by_cases RW:∃c o,v= .ref c∧u= .b o
    · obtain⟨c,o,rfl,rfl⟩:=RW
      obtain⟨n1,n2⟩:=List.nodup_cons.mp (show(c :: addrs vs us).Nodup from nd)
      cases i with
      | zero=>
        cases j with
        | zero=>rfl
        | succ j=>
          have e1:c=a:=by simpa[lent] using h1
          have e2:(lent vs us)[j]? =some (some a):=by simpa[lent] using h2
          subst e1
          exact absurd ((nR vs us c).mp (List.mem_of_getElem? e2)) n1
      | succ i=>
        have e1:(lent vs us)[i]? =some (some a):=by simpa[lent] using h1
        cases j with
        | zero=>
          have e2:c=a:=by simpa[lent] using h2
          subst e2
          exact absurd ((nR vs us c).mp (List.mem_of_getElem? e1)) n1
        | succ j=>exact congrArg Nat.succ (ih n2 e1 (by simpa[lent] using h2))
    · have e1:lent (v :: vs) (u :: us)=none :: lent vs us:=by cases v <;> cases u <;> first | rfl | exact absurd ⟨_,_,rfl,rfl⟩ RW
      have e2:addrs (v :: vs) (u :: us)=addrs vs us:=by cases v <;> cases u <;> first | rfl | exact absurd ⟨_,_,rfl,rfl⟩ RW
      rw[e1] at h1 h2
      rw[e2] at nd
      cases i with
      | zero=>simp at h1
      | succ i=>
        cases j with
        | zero=>simp at h2
        | succ j=>exact congrArg Nat.succ (ih nd (by simpa using h1) (by simpa using h2))
theorem p7 {α β:Type}{P:α→β→Prop}:∀{l:List α}{r:List β}{i:Nat}{y:β},Paired P l r→r[i]? =some y→∃x,l[i]? =some x∧P x y
 | _,_,_,_,.nil,h=>by simp at h
 | _,_,0,_,.cons p _,h=>by simp at h;subst h;exact⟨_,rfl,p⟩
 | _,_,i+1,_,.cons _ ps,h=>by
  obtain⟨x,h1,h2⟩:=p7 (i:=i) ps (by simpa using h)
  exact⟨x,by simpa using h1,h2⟩
theorem xN {K:PySem.W.Frag}{F H:Hp}{vs:List V}{us:List U}{n:Nat}(sb:Sub F H) (ar:Paired (FE K F H) vs us) (nd:(addrs vs us).Nodup) (N:List Str) (hN:N.length=n):
  Rel K ⟨lent vs us,F,H⟩ (us.map some++List.replicate (n - us.length) none) (start N vs) F H:=by
 have hl:vs.length=us.length:=ar.length
 have gS:∀{i:Nat}{u:U},(us.map some++List.replicate (n - us.length) none)[i]? =some (some u)→us[i]? =some u:=fun {i u} h=>by
  rw[List.getElem?_append] at h
  split at h
  ·rw[List.getElem?_map] at h
   obtain⟨w,h1,h2⟩:=aG h
   cases h2
   exact h1
  ·rw[List.getElem?_replicate] at h
   split at h <;> cases h
 have RX:∀{i:Nat}{v:V},vs[i]? =some v→(start N vs)[i]? =some (some v):=fun {i v} h=>by
  unfold start
  have hi:=(List.getElem?_eq_some_iff.mp h).1
  rw[List.getElem?_append_left (by simpa using hi),List.getElem?_map,h]
  rfl
 have vb:∀{i:Nat}{v w:V},vs[i]? =some v→(start N vs)[i]? =some (some w)→v=w:=fun {i v w} h k=>by
  rw[RX h] at k
  cases k
  rfl
 have HS:∀{i:Nat}{u:U},us[i]? =some u→gK u=true→∃o a,u= .b o∧vs[i]? =some (.ref a)∧(lent vs us)[i]? =some (some a)∧F a=none∧At F H a o:=fun {i u} h hm=>by
  obtain⟨v,h1,h2⟩:=p7 ar h
  cases u with
  | t d=>cases hm
  | v d=>cases hm
  | s d=>cases hm
  | m o=>cases h2
  | b o=>obtain⟨a,k1,k2,k3,k4⟩:=yW ar h;exact⟨o,a,rfl,k1,k2,k3,k4⟩
 refine⟨sb,?_,fun i u h=>?_,fun i j u w a h1 m1 h2 m2 v1 v2=>?_,fun i o a h hv=>?_,fun i o a h hv=>?_,fun i a h=>?_,Ext.refl ..⟩
 ·unfold start;simp[hl,hN]
 ·obtain⟨v,h1,h2⟩:=p7 ar (gS h)
  refine⟨v,RX h1,?_⟩
  cases u with
  | t d=>exact h2
  | s d=>exact h2
  | v d=>cases h2
  | m o=>cases h2
  | b o=>exact h2
 ·obtain⟨_,a1,_,k1,k2,_⟩:=HS (gS h1) m1
  obtain⟨_,a2,_,l1,l2,_⟩:=HS (gS h2) m2
  have e1:=vb k1 v1
  have e2:=vb l1 v2
  cases e1
  cases e2
  exact xM nd k2 l2
 ·obtain⟨_,_,e,_⟩:=HS (gS h) rfl
  cases e
 ·obtain⟨_,a1,_,k1,k2,_⟩:=HS (gS h) rfl
  have e1:=vb k1 hv
  cases e1
  exact List.mem_of_getElem? k2
 ·obtain⟨k1,o,k2⟩:=Ab h
  refine⟨RX k1,o,?_⟩
  have hi:=(List.getElem?_eq_some_iff.mp k2).1
  rw[List.getElem?_append_left (by simpa using hi),List.getElem?_map,k2]
  rfl
theorem yX {F' H' : Hp} : ∀ {vs : List V} {us : List U} {S : SS} {os : List MO}, aC us S = some os → vs.length = us.length → (∀ (i : Nat) (o : MO) (a : Addr), (lent vs us)[i]? = some (some a) → S[i]? = some (some (.b o)) → F' a = none ∧ At F' H' a o) → (∀ (i : Nat) (o : MO), us[i]? = some (.b o) → ∃ a, vs[i]? = some (.ref a)) →
    Paired (fun a o=>F' a=none∧At F' H' a o) (addrs vs us) os
  | [],[],S,os,h,_,_,_=>by cases S <;> (simp[aC] at h;subst h;exact .nil)
  | [],_ :: _,_,_,_,l,_,_=>by cases l
  | _ :: _,[],_,_,_,l,_,_=>by cases l
  | v :: vs, u :: us, S, os, h, l, k, kb => by
    have l':vs.length=us.length:=by simpa using l
    have kb':∀(i:Nat) (o:MO),us[i]? =some (.b o)→∃a,vs[i]? =some (.ref a):=fun i o z=>by simpa using kb (i+1) o (by simpa using z)
    by_cases hu:∃o,u= .b o
    · obtain⟨o,rfl⟩:=hu
      obtain⟨a,ha⟩:=kb 0 o rfl
      have ha:v= .ref a:=by simpa using ha
      subst ha
      cases S with
      | nil=>simp[aC] at h
      | cons s S=>
        cases s with
        | none=>simp[aC] at h
        | some s=>
          cases s with
          | b o'=>
            obtain⟨os',h1,h2⟩:=aG (show(aC us S).map (fun os=>o' :: os)=some os from h)
            subst h2
            exact .cons (k 0 o' a rfl rfl) (yX h1 l' (fun i o a z1 z2=>k (i+1) o a (by simpa[lent] using z1) (by simpa using z2)) kb')
          | t d=>simp[aC] at h
          | m d=>simp[aC] at h
          | v d=>simp[aC] at h
          | s d=>simp[aC] at h
    · cases S with
      | nil=>cases u <;> first | (simp[aC] at h;done) | exact absurd ⟨_,rfl⟩ hu
      | cons s S=>
        have h':aC us S=some os:=by cases u <;> first | exact absurd ⟨_,rfl⟩ hu | simpa[aC] using h
        have e2:addrs (v :: vs) (u :: us)=addrs vs us:=by cases v <;> cases u <;> first | rfl | exact absurd ⟨_,rfl⟩ hu
        have e1:lent (v :: vs) (u :: us)=none :: lent vs us:=by cases v <;> cases u <;> first | rfl | exact absurd ⟨_,rfl⟩ hu
        rw[e2]
        exact yX h' l' (fun i o a z1 z2=>k (i+1) o a (by rw[e1];simpa using z1) (by simpa using z2)) kb'
theorem post_of {K:PySem.W.Frag}{F0 H:Hp}{vs:List V}{us:List U}(ar:Paired (FE K F0 H) vs us) (S':SS) (σ':St) (F' H':Hp) (os:List MO) (R':Rel K ⟨lent vs us,F0,H⟩ S' σ' F' H') (ho':aC us S'=some os):Post F0 H F' H' (addrs vs us) os:=by
 refine⟨R'.sub,⟨R'.ext.le,fun b o z n=>R'.ext.keep b o z fun m=>n ((nR vs us b).mp m),fun b o z n=>R'.ext.jV b o z fun m=>n ((nR vs us b).mp m),R'.ext.there,R'.ext.j3⟩,yX ho' ar.length (fun i o a z1 z2=>?_) fun i o z=>?_⟩
 ·obtain⟨k1,o2,k2⟩:=R'.par i a z1
  obtain⟨v,j1,j2⟩:=R'.rep i _ z2
  rw[k1] at j1
  cases j1
  obtain⟨c,e,f,k⟩:=j2
  cases e
  exact⟨f,k⟩
 ·obtain⟨a,h1,_⟩:=yW ar z
  exact⟨a,h1⟩
section
variable {P:Program}{w:World}{K:PySem.W.Frag}{mg:Str→Option Value}{base:Heap}
theorem qJ {x qual:Str}{st:Stmt}{f:Addr}{fd:FuncData}{N ps:List Str}{k:Nat}{fm:FM}{g:GS}(F:nN K x qual st f fd) (Sc:cy N ps (aE st))
  (hb:∀(cdv:Value) (A:Around) (outer:List Env) (s:Shared) (H:Hp) (E:XK),jW k (A.deeper (envOfC qual (aE st) s.heap.objs.size f cdv))→JB (Bs eG P w K mg base N qual (aE st) f cdv A outer s H E).G5 (bH st) g)
  (hf:∀us r,fm us=some r→aJ N.length g us=some r):bK P w K mg base eG (k+1) f fd ps (spT K ps.length fm):=by
 refine F.ok Sc (fun vs H Q E h=>h.1) fun cdv A outer s H vs Q E hr h=>?_
 obtain⟨hlen,F0,us,r,outs,sb,ar,nd,hfm,q⟩:=h
 have hrun:=hf us (r,outs) hfm
 have J:=hb cdv A outer s H E hr
 refine⟨_,J.h ⟨lent vs us,F0,H⟩,?_⟩
 have R0:=xN sb ar nd N rfl
 obtain⟨o,ho,hrun⟩:=au hrun
 refine⟨_,F0,o,R0,ho,?_⟩
 have post:=post_of ar
 cases o with
 | bk S'=>cases hrun
 | ct S'=>cases hrun
 | nx S'=>
  obtain⟨os,h1,h2⟩:=aG (show(aC us S').map _=some (r,outs) from hrun)
  cases h2
  exact fun σ' F' H' R' le=>q .cH F' H' (post S' σ' F' H' outs R' h1) .cH
 | rt u S'=>
  cases u with
  | b o=>cases hrun
  | v i=>cases hrun
  | s i=>cases hrun
  | t d=>
   obtain⟨os,h1,h2⟩:=aG (show(aC us S').map _=some (r,outs) from hrun)
   cases h2
   exact fun v σ' F' H' R' le rr=>q v F' H' (post S' σ' F' H' outs R' h1) rr
  | m o=>
   obtain⟨os,h1,h2⟩:=aG (show(aC us S').map _=some (r,outs) from hrun)
   cases h2
   exact fun v σ' F' H' R' le rr=>q v F' H' (post S' σ' F' H' outs R' h1) (by obtain⟨a,e,h0,f,h,n,hB⟩:=rr;exact⟨a,e,hB,f,h⟩)
end
end L2
end
section
set_option Elab.async false
set_option linter.all false
set_option maxRecDepth 100000
namespace L2
open PySem PySem.Spec PyProof.Rows
noncomputable def yY (S:SS) (i:Nat):Option U:=match S[i]? with
 | some (some (.t d))=>some (.t d)
 | some (some (.s d))=>some (.s d)
 | some (some (.m _))=>some (.v i)
 | some (some (.b _))=>some (.v i)
 | _=>none
noncomputable def kW (S:SS):List Nat→Option (List U)
 | []=>some []
 | i :: cap=>(yY S i).bind fun u=>(kW S cap).map fun us=>u :: us
noncomputable def xO:GT:=fun S=>some (true,S)
noncomputable def ir (cap:List Nat) (q:GT) (g:GD):List D→SS→List D→Option (List D×SS)
  | [],S,acc=>some (acc,S)
  | d :: ds, S, acc => (kW S cap).bind fun us =>
    if(slotsOf us).Nodup∧dW us≤1 then(dH S us).bind fun ws=>(q (some (.t d) :: ws.map some)).bind fun p=>
      if p.1 then(g p.2).bind fun r=>(aC (.t d :: ws) r.2).bind fun outs=>(wb us outs S).bind fun S'=>ir cap q g ds S' (acc++[r.1])
      else(aC (.t d :: ws) p.2).bind fun outs=>(wb us outs S).bind fun S'=>ir cap q g ds S' acc
    else none
noncomputable def tU (cap:List Nat) (gi:GI) (q:GT) (g:GD):GE:=fun S=>(gi S).bind fun p=>if p.1.length≤100000 then(ir cap q g p.1 p.2 []).map fun r=>(.m (.lst r.1),r.2) else none
structure RY (X:Cx) (es:List Expr) (q:GT):Prop where
 h:∀B,LN X es (tQ X.K B q)
theorem CY {X:Cx}:RY X [] xO:=⟨fun B pins s σ H Q I ⟨S,F,b,S',R,hg,q⟩=>by cases hg;exact HB pins s σ H Q I (q F H R (Step.refl ..))⟩
theorem yZ {X:Cx}{c:Expr}{q:GT}(h:JT X c q):RY X [c] q:=⟨fun B=>HC (h.h B)⟩
theorem FF {K:PySem.W.Frag}{B:Base}{S:SS}{σ:St}{F H:Hp}(R:Rel K B S σ F H):∀{cap:List Nat}{us:List U},kW S cap=some us→∃vs:List V,gJ cap σ=vs.map some∧Paired (fun v u=>kR K B S σ H F H v u) vs us
  | [],us,h=>by cases h;exact⟨[],rfl,.nil⟩
  | i :: cap, us, h => by
    obtain⟨u,h1,h⟩:=au h
    obtain⟨us',h2,h⟩:=aG h
    subst h
    obtain⟨vs,k1,k2⟩:=FF R h2
    have one:∀w,S[i]? =some (some w)→∃v,σ[i]? =some (some v)∧wH K F H v w:=R.rep i
    unfold yY at h1
    have fin:∀v,σ[i]? =some (some v)→kR K B S σ H F H v u→∃vs:List V,gJ (i :: cap) σ=vs.map some∧Paired (fun v u=>kR K B S σ H F H v u) vs (u :: us'):=fun v e r=>
      ⟨v :: vs,by show(σ[i]?).join :: gJ cap σ=_;rw[e,k1];rfl,.cons r k2⟩
    split at h1
    · rename_i d e
      cases h1
      obtain⟨v,e1,r⟩:=one _ e
      exact fin v e1 r
    · rename_i d e
      cases h1
      obtain⟨v,e1,r⟩:=one _ e
      exact fin v e1 r
    · rename_i o e
      cases h1
      obtain⟨v,e1,r⟩:=one _ e
      exact fin v e1 ⟨e1,_,e⟩
    · rename_i o e
      cases h1
      obtain⟨v,e1,r⟩:=one _ e
      exact fin v e1 ⟨e1,_,e⟩
    · cases h1
theorem FG {K:PySem.W.Frag}{B:Base}{S:SS}{σ:St}{F H:Hp}(R:Rel K B S σ F H) (d:D){us ws:List U}(h:dH S us=some ws):dH S (.t d :: us)=some (.t d :: ws):=by
 show(some (U.t d)).bind _=_
 show(dH S us).map _=_
 rw[h]
 rfl
theorem FH {K : PySem.W.Frag} {B : Base} {cap : List Nat} {gi : GI} {q : GT} {g : GD} {σ : St} {H : Hp} {Q : VK} (h : tE K B (tU cap gi q g) σ H Q) : Rw (XM K B gi) cap (fun σ H Q => ∃ B, tQ K B q σ H Q) (fun σ H Q => ∃ B, tD K B g σ H Q) σ H Q := by
  obtain⟨x,_⟩:∃x:Str,True:=⟨"",trivial⟩
  obtain⟨S,F,u,S',R,hg,k⟩:=h
  obtain⟨⟨ds,S1⟩,h1,hg⟩:=au hg
  dsimp only at hg
  split at hg
  · rename_i hlen
    obtain⟨⟨res,Sf⟩,h2,hg⟩:=aG hg
    cases hg
    refine⟨S,F,ds,S1,R,h1,fun J F1 H1 R1 st1 w=>?_⟩
    refine⟨fun i m ys H'=>∃S2 F2 acc,Rel K B S2 σ F2 H'∧Step S S2 σ F H F2 H'∧(∀b o,F1 b=some o→F2 b=some o)∧cu F2 ys acc∧acc.length≤i∧i≤ds.length∧m=ds.length - i∧ir cap q g (ds.drop i) S2 acc=some (res,Sf),
      ⟨_,S1,F1,[],R1,st1,fun _ _ z=>z,.nil,Nat.le_refl _,Nat.zero_le _,rfl,h2⟩,?_⟩
    rintro i m ys H' ⟨S2,F2,acc,R2,st2,le,ry,ha,hl,rfl,nQ⟩
    refine⟨by rw[ry.length];exact Nat.lt_of_le_of_lt (Nat.le_trans ha (Nat.le_trans hl hlen)) (by decide),?_⟩
    have w':=w F2 H' le R2.sub i
    by_cases hlt:i < ds.length
    · have hd:ds[i]? =some ds[i]:=List.getElem?_eq_getElem hlt
      obtain⟨go,yl⟩:=w'.1 _ hd
      rw[List.drop_eq_getElem_cons hlt] at nQ
      refine .inr ⟨go,fun xv H3 y=>?_⟩
      obtain⟨rfl,rx⟩:=yl xv H3 y
      obtain⟨us,e1,nQ⟩:=au nQ
      skip
      split at nQ
      · rename_i hnd
        obtain⟨ws,e2,nQ⟩:=au nQ
        obtain⟨⟨bk,T1⟩,e3,nQ⟩:=au nQ
        obtain⟨vs,k1,k2⟩:=FF R2 e1
        have rr:Paired (fun v u=>kR K B S2 σ H3 F2 H3 v u) (xv :: vs) (.t ds[i] :: us):=.cons rx k2
        have er:=FG R2 ds[i] e2
        have ar:=yV R2 rr er
        have nd:=iP R2 rr er hnd.1 hnd.2
        have R3:=xN (n:=ws.length+1) R2.sub ar nd (List.replicate (ws.length+1) x) (by simp)
        have hvl:vs.length=ws.length:=by have:=ar.length;simpa using this
        have es:start (List.replicate (ws.length+1) x) (xv :: vs)=some xv :: gJ cap σ:=by
          unfold start;rw[k1];simp[hvl]
        have eS:(U.t ds[i] :: ws).map some++List.replicate (ws.length+1 - (U.t ds[i] :: ws).length) none=some (U.t ds[i]) :: ws.map some:=by simp
        rw[es,eS] at R3
        have back:∀(T2:SS) (F3 H4:Hp) (outs:List MO) (S3:SS),Rel K ⟨lent (xv :: vs) (U.t ds[i] :: ws),F2,H3⟩ T2 (some xv :: gJ cap σ) F3 H4→aC (U.t ds[i] :: ws) T2=some outs→wb us outs S2=some S3→Rel K B S3 σ F3 H4∧Step S S3 σ F H F3 H4∧(∀b o,F2 b=some o→F3 b=some o):=fun T2 F3 H4 outs S3 RT ho hw=>by
          have po:=post_of ar T2 _ F3 H4 outs RT ho
          obtain⟨Ra,Jf,_⟩:=p6 (S0:=S2) (F0:=F2) (H0:=H3) R2 (Step.refl ..) rr er (show wb (U.t ds[i] :: us) outs S2=some S3 by cases outs <;> exact hw) hnd.1 po
          exact⟨Ra,st2.trans Jf,Jf.ext.le⟩
        refine⟨_,_,F2,bk,T1,R3,e3,fun F3 H4 XO ZE=>?_⟩
        cases bk with
        | true=>
          obtain⟨⟨yd,T2⟩,e4,nQ⟩:=au (show(g T1).bind _=_ from nQ)
          obtain⟨outs,e5,nQ⟩:=au nQ
          obtain⟨S3,e6,nQ⟩:=au nQ
          refine By ⟨_,T1,F3,yd,T2,XO,e4,fun yv F4 H5 ZF ZG RZ=>?_⟩
          obtain⟨Ra,Jf,Ni⟩:=back T2 F4 H5 outs S3 ZF e5 e6
          refine⟨ds.length - (i+1),by omega,S3,F4,acc++[yd],Ra,Jf,fun b o z=>Ni b o (le b o z),(ry.le Ni).append (.cons RZ .nil),by simp;omega,hlt,rfl,nQ⟩
        | false=>
          obtain⟨outs,e5,nQ⟩:=au (show(aC (U.t ds[i] :: ws) T1).bind _=_ from nQ)
          obtain⟨S3,e6,nQ⟩:=au nQ
          obtain⟨Ra,Jf,Ni⟩:=back T1 F3 H4 outs S3 XO e5 e6
          exact Bx ⟨ds.length - (i+1),by omega,S3,F3,acc,Ra,Jf,fun b o z=>Ni b o (le b o z),ry.le Ni,by omega,hlt,rfl,nQ⟩
      · cases nQ
    · have e:i=ds.length:=by omega
      subst e
      rw[List.drop_length] at nQ
      cases nQ
      refine .inl ⟨w'.2 (Nat.le_refl _),fun p hp=>?_⟩
      have n:=jg.obj (F:=F2) hp (.lst ys)
      refine k (.ref p) F2 _ (R2.new n (R2.sub.same n.same)) (st2.trans n.step) ⟨p,rfl,none_of st2.ext.there hp,R2.sub.fresh hp,⟨ys,bY,ry⟩,fun m=>?_,none_of R2.ext.there hp⟩
      obtain⟨o,ho⟩:=R2.has m
      rw[hp] at ho
      cases ho
  · cases hg
theorem qK {X:Cx}{elt iter:Expr}{ifs:List Expr}{x:Str}{px pos:Pos}{scope:Scope}{cl:List (Str×Addr)}{fL:List Str}{cap:List Nat}{gi:GI}{q:GT}{g:GD}(T:pB X x fL cap scope cl) (hc:X.calm=true) (hi:JI X (.Name x px) iter gi)
  (ht:∀C s H fp,RY (lu X (x :: fL) scope cl C s H fp) ifs q) (he:∀C s H fp,JD (lu X (x :: fL) scope cl C s H fp) elt g)
  (hs:∀x,foldedSetIterable iter X.env x=pure x:=by intro _;rfl):JE X (.ListComp elt [⟨.Name x px,iter,ifs,0⟩] scope pos) (tU cap gi q g):=⟨fun B=>by
 exact(Fd (tc:=fun σ H Q=>∃B,tQ X.K B q σ H Q) (te:=fun σ H Q=>∃B,tD X.K B g σ H Q) T hc (hi.h B) (fun C s H fp pins s' σ H' Q I ⟨B',z⟩=>(ht C s H fp).h B' pins s' σ H' Q I z) (fun C s H fp pins s' σ H' Q I ⟨B',z⟩=>(he C s H fp).h B' pins s' σ H' Q I z) hs).imp fun σ H Q h=>FH h⟩
end L2
end
section
set_option Elab.async false
set_option linter.all false
set_option maxRecDepth 100000
namespace L2
open PySem PySem.Spec PyProof.Rows
mutual
noncomputable def kQ:D→D→Bool
 | .cH,.cH=>true
 | .bl a,.bl b=>a == b
 | .int a,.int b=>a == b
 | .bl a,.int b=>(if a then 1 else 0) == b
 | .int a,.bl b=>a == (if b then 1 else 0)
 | .str a,.str b=>a == b
 | .tup a,.tup b=>pN a b
 | .lst a,.lst b=>pN a b
 | _,_=>false
noncomputable def pN:List D→List D→Bool
 | [],[]=>true
 | a :: as,b :: bs=>kQ a b && pN as bs
 | _,_=>false
end
mutual
noncomputable def bW:D→Nat
 | .tup ds=>bF ds+1
 | .lst ds=>bF ds+1
 | _=>0
noncomputable def bF:List D→Nat
 | []=>0
 | d :: ds=>max (bW d) (bF ds)
end
mutual
theorem uY:∀d:D,kQ d d=true
 | .cH=>rfl
 | .bl a=>by simp[kQ]
 | .int a=>by simp[kQ]
 | .str a=>by simp[kQ]
 | .tup a=>by unfold kQ;exact lY a
 | .lst a=>by unfold kQ;exact lY a
theorem lY:∀ds:List D,pN ds ds=true
 | []=>rfl
 | d :: ds=>by unfold pN;rw[uY d,lY ds];rfl
end
noncomputable def nT (as bs:List D) (j:Nat):Bool:=match as[j]?,bs[j]? with
 | some a,some b=>kQ a b
 | _,_=>true
theorem uZ (n:Nat) (e:Nat→Bool):(List.range (n+1)).all e=(e 0 && (List.range n).all fun j=>e (j+1)):=by
 rw[List.range_succ_eq_map,List.all_cons,List.all_map]
 rfl
theorem nU:∀{as bs:List D},as.length≠bs.length→pN as bs=false
 | [],[],h=>absurd rfl h
 | [],_ :: _,_=>rfl
 | _ :: _,[],_=>rfl
 | a :: as,b :: bs,h=>by
  unfold pN
  rw[nU (as:=as) (bs:=bs) (fun z=>h (by simp[z])),Bool.and_false]
theorem kB:∀{as bs:List D},as.length=bs.length→(List.range as.length).all (nT as bs)=pN as bs
 | [],[],_=>rfl
 | [],_ :: _,h=>by cases h
 | _ :: _,[],h=>by cases h
 | a :: as,b :: bs,h=>by
  have h':as.length=bs.length:=by simpa using h
  show(List.range (as.length+1)).all _=_
  rw[uZ]
  unfold pN
  have ih:=kB h'
  have e:(fun j=>nT (a :: as) (b :: bs) (j+1))=nT as bs:=by funext j;simp[nT]
  rw[e,ih]
  rfl
mutual
theorem Rep.uniq {F:Hp}:∀{v:V}{d e:D},Rep F v d→Rep F v e→d=e
 | _,_,_,.cH,r=>by cases r;rfl
 | _,_,_,.bl b,r=>by cases r;rfl
 | _,_,_,.int b,r=>by cases r;rfl
 | _,_,_,.str b,r=>by cases r;rfl
 | _,_,_,.tup e1 r1,r=>by
  cases r with
  | tup e2 r2=>rw[e1] at e2;cases e2;rw[cu.uniq r1 r2]
  | lst e2 r2=>rw[e1] at e2;cases e2
 | _,_,_,.lst e1 r1,r=>by
  cases r with
  | tup e2 r2=>rw[e1] at e2;cases e2
  | lst e2 r2=>rw[e1] at e2;cases e2;rw[cu.uniq r1 r2]
theorem cu.uniq {F:Hp}:∀{vs:List V}{ds es:List D},cu F vs ds→cu F vs es→ds=es
 | _,_,_,.nil,r=>by cases r;rfl
 | _,_,_,.cons r1 s1,r=>by
  cases r with
  | cons r2 s2=>rw[Rep.uniq r1 r2,cu.uniq s1 s2]
end
section
variable {X:Cx}{pins:List (Addr×Obj)}{σ:St}{F H:Hp}{s:Shared}
theorem Sub.isTup (I:Inv X pins σ H s) (sb:Sub F H){a:Addr}{vs:List V}(h:F a=some (.tup vs)):∃its:List Value,Vals vs its∧s.heap.IsTuple a its.toArray:=by
 obtain⟨its,rv,p,_⟩:=I.tuple (.inl (Rd.of (sb a _ h)))
 exact⟨its,rv,p⟩
theorem Sub.fM (I:Inv X pins σ H s) (sb:Sub F H){a:Addr}{vs:List V}(h:F a=some (.lst vs)):∃its:List Value,Vals vs its∧s.heap.IsList a its.toArray:=by
 obtain⟨its,rv,p,_⟩:=I.list (.inl (Rd.of (sb a _ h)))
 exact⟨its,rv,p.isList⟩
noncomputable def jH (A:Around) (s:Shared) (its cU:List Value) (ds es:List D):Prop:=∀j (h1:j < its.toArray.size) (h2:j < cU.toArray.size),SeqAt.EqAt A.in1 s its.toArray[j] cU.toArray[j] (nT ds es j)
theorem CZ {n m:Nat}(h:n=m) (e:Nat→Bool):((List.range (min n m)).all e && n == m)=(List.range n).all e:=by
 subst h;simp
theorem qL {A:Around}{ca cb:Addr}{iu cU:List Value}{ds es:List D}(hu:A.units < cLine) (pa:s.heap.IsTuple ca iu.toArray) (pb:s.heap.IsTuple cb cU.toArray) (la:iu.length=ds.length) (lb:cU.length=es.length) (h:jH A s iu cU ds es):
  SeqAt.RcAt A s (.ref ca) (.ref cb) (pN ds es):=by
 have q:=SeqAt.RcAt.tuples (e:=nT ds es) pa pb hu h
 rw[List.size_toArray,List.size_toArray,la,lb] at q
 by_cases hl:ds.length=es.length
 ·rw[CZ hl,kB hl] at q;exact q
 ·rw[nU hl]
  have:(ds.length == es.length)=false:=by simpa using hl
  rw[this,Bool.and_false] at q
  exact q
theorem u5 {A:Around}{ca cb:Addr}{iu cU:List Value}{ds es:List D}(hu:A.units < cLine) (pa:s.heap.IsTuple ca iu.toArray) (pb:s.heap.IsTuple cb cU.toArray) (la:iu.length=ds.length) (lb:cU.length=es.length) (h:jH A s iu cU ds es):
  SeqAt.RcNeAt A s (.ref ca) (.ref cb) (!pN ds es):=by
 have q:=SeqAt.RcNeAt.tuples (e:=nT ds es) pa pb hu h
 rw[List.size_toArray,List.size_toArray,la,lb] at q
 by_cases hl:ds.length=es.length
 ·rw[CZ hl,kB hl] at q;exact q
 ·rw[nU hl]
  have:(ds.length == es.length)=false:=by simpa using hl
  rw[this,Bool.and_false] at q
  exact q
theorem tV {A:Around}{ca cb:Addr}{iu cU:List Value}{ds es:List D}(hu:A.units < cLine) (pa:s.heap.IsList ca iu.toArray) (pb:s.heap.IsList cb cU.toArray) (la:iu.length=ds.length) (lb:cU.length=es.length) (h:jH A s iu cU ds es):
  SeqAt.RcAt A s (.ref ca) (.ref cb) (pN ds es):=by
 by_cases hl:ds.length=es.length
 ·have q:=SeqAt.RcAt.lists (e:=nT ds es) pa pb (by rw[List.size_toArray,List.size_toArray,la,lb];exact hl) hu h
  rw[List.size_toArray,la,kB hl] at q;exact q
 ·rw[nU hl]
  exact SeqAt.RcAt.lists_lengths pa pb (by rw[List.size_toArray,List.size_toArray,la,lb];simpa using hl) hu
theorem wJ {A:Around}{ca cb:Addr}{iu cU:List Value}{ds es:List D}(hu:A.units < cLine) (pa:s.heap.IsList ca iu.toArray) (pb:s.heap.IsList cb cU.toArray) (la:iu.length=ds.length) (lb:cU.length=es.length) (h:jH A s iu cU ds es):
  SeqAt.RcNeAt A s (.ref ca) (.ref cb) (!pN ds es):=by
 by_cases hl:ds.length=es.length
 ·have q:=SeqAt.RcNeAt.lists (e:=nT ds es) pa pb (by rw[List.size_toArray,List.size_toArray,la,lb];exact hl) hu h
  rw[List.size_toArray,la,kB hl] at q;exact q
 ·rw[nU hl]
  exact SeqAt.RcNeAt.lists_lengths pa pb (by rw[List.size_toArray,List.size_toArray,la,lb];simpa using hl) hu
theorem fc {α:Type}(l:List α) (j:Nat) (h:j < l.toArray.size):l[j]? =some l.toArray[j]:=by
 have z:j < l.length:=by simpa using h
 simp[z]
mutual
theorem Jg (I : Inv X pins σ H s) (sb : Sub F H) : ∀ (d : D) {e : D} {A : Around} {x y : V} {u w' : Value}, Rep F x d → Rep F y e → RelV x u → RelV y w' → A.units + bW d < cLine → SeqAt.EqAt A s u w' (kQ d e) := fun d {e A x y u w'} r1 r2 rx ry hu => by
  cases r1 with
  | cH=>
    cases rx
    cases r2 with
    | cH=>cases ry;exact SeqAt.EqAt.same _
    | bl b=>cases ry;exact SeqAt.EqAt.none_bool b
    | int b=>obtain⟨tb,rfl⟩:=ry;exact SeqAt.EqAt.none_int b tb
    | str b=>obtain⟨tb,rfl⟩:=ry;exact SeqAt.EqAt.none_str b tb
    | @tup cb nW lZ eb rb=>cases ry;obtain⟨cU,kC,pb⟩:=sb.isTup I eb;exact SeqAt.EqAt.none_tuple pb (by omega)
    | @lst cb nW lZ eb rb=>cases ry;obtain⟨cU,kC,pb⟩:=sb.fM I eb;exact SeqAt.EqAt.none_list pb (by omega)
  | bl a=>
    cases rx
    cases r2 with
    | cH=>cases ry;exact SeqAt.EqAt.bool_none a
    | bl b=>cases ry;exact SeqAt.EqAt.bool_bool a b
    | int b=>obtain⟨tb,rfl⟩:=ry;exact SeqAt.EqAt.bool_int a b tb
    | str b=>obtain⟨tb,rfl⟩:=ry;exact SeqAt.EqAt.bool_str a b tb
    | @tup cb nW lZ eb rb=>cases ry;obtain⟨cU,kC,pb⟩:=sb.isTup I eb;exact SeqAt.EqAt.bool_tuple a pb (by omega)
    | @lst cb nW lZ eb rb=>cases ry;obtain⟨cU,kC,pb⟩:=sb.fM I eb;exact SeqAt.EqAt.bool_list a pb (by omega)
  | int a=>
    obtain⟨ta,rfl⟩:=rx
    cases r2 with
    | cH=>cases ry;exact SeqAt.EqAt.int_none a ta
    | bl b=>cases ry;exact SeqAt.EqAt.int_bool a ta b
    | int b=>obtain⟨tb,rfl⟩:=ry;exact SeqAt.EqAt.int_int a ta b tb
    | str b=>obtain⟨tb,rfl⟩:=ry;exact SeqAt.EqAt.int_str a ta b tb
    | @tup cb nW lZ eb rb=>cases ry;obtain⟨cU,kC,pb⟩:=sb.isTup I eb;exact SeqAt.EqAt.int_tuple a ta pb (by omega)
    | @lst cb nW lZ eb rb=>cases ry;obtain⟨cU,kC,pb⟩:=sb.fM I eb;exact SeqAt.EqAt.int_list a ta pb (by omega)
  | str a=>
    obtain⟨ta,rfl⟩:=rx
    cases r2 with
    | cH=>cases ry;exact SeqAt.EqAt.str_none a ta
    | bl b=>cases ry;exact SeqAt.EqAt.str_bool a ta b
    | int b=>obtain⟨tb,rfl⟩:=ry;exact SeqAt.EqAt.str_int a ta b tb
    | str b=>obtain⟨tb,rfl⟩:=ry;exact SeqAt.EqAt.str_str a ta b tb
    | @tup cb nW lZ eb rb=>cases ry;obtain⟨cU,kC,pb⟩:=sb.isTup I eb;exact SeqAt.EqAt.str_tuple a ta pb (by omega)
    | @lst cb nW lZ eb rb=>cases ry;obtain⟨cU,kC,pb⟩:=sb.fM I eb;exact SeqAt.EqAt.str_list a ta pb (by omega)
  | @tup ca Nj pO ea ra=>
    cases rx;obtain⟨iu,Ac,pa⟩:=sb.isTup I ea
    cases r2 with
    | cH=>cases ry;exact SeqAt.EqAt.tuple_none pa (by omega)
    | bl b=>cases ry;exact SeqAt.EqAt.tuple_bool b pa (by omega)
    | int b=>obtain⟨tb,rfl⟩:=ry;exact SeqAt.EqAt.tuple_int b tb pa (by omega)
    | str b=>obtain⟨tb,rfl⟩:=ry;exact SeqAt.EqAt.tuple_str b tb pa (by omega)
    | @tup cb nW lZ eb rb=>cases ry;obtain⟨cU,kC,pb⟩:=sb.isTup I eb;exact(by
      have hd:A.units+(bF pO+1) < cLine:=hu
      have items:jH A s iu cU pO lZ:=fun j h1 h2=>kD I sb pO (A:=A.in1) ra rb Ac kC (by show A.units+1+bF pO < cLine;omega) (fc iu j h1) (fc cU j h2)
      by_cases hc:ca=cb
      · subst hc
        rw[ea] at eb
        cases eb
        obtain rfl:=cu.uniq ra rb
        show SeqAt.EqAt A s _ _ (pN pO pO)
        rw[lY]
        exact SeqAt.EqAt.same _
      · exact SeqAt.EqAt.of_refs hc (qL (by omega) pa pb (Ac.length.symm.trans ra.length) (kC.length.symm.trans rb.length) items))
    | @lst cb nW lZ eb rb=>cases ry;obtain⟨cU,kC,pb⟩:=sb.fM I eb;exact SeqAt.EqAt.tuple_list pa pb (by omega)
  | @lst ca Nj pO ea ra=>
    cases rx;obtain⟨iu,Ac,pa⟩:=sb.fM I ea
    cases r2 with
    | cH=>cases ry;exact SeqAt.EqAt.list_none pa (by omega)
    | bl b=>cases ry;exact SeqAt.EqAt.list_bool b pa (by omega)
    | int b=>obtain⟨tb,rfl⟩:=ry;exact SeqAt.EqAt.list_int b tb pa (by omega)
    | str b=>obtain⟨tb,rfl⟩:=ry;exact SeqAt.EqAt.list_str b tb pa (by omega)
    | @tup cb nW lZ eb rb=>cases ry;obtain⟨cU,kC,pb⟩:=sb.isTup I eb;exact SeqAt.EqAt.list_tuple pa pb (by omega)
    | @lst cb nW lZ eb rb=>cases ry;obtain⟨cU,kC,pb⟩:=sb.fM I eb;exact(by
      have hd:A.units+(bF pO+1) < cLine:=hu
      have items:jH A s iu cU pO lZ:=fun j h1 h2=>kD I sb pO (A:=A.in1) ra rb Ac kC (by show A.units+1+bF pO < cLine;omega) (fc iu j h1) (fc cU j h2)
      by_cases hc:ca=cb
      · subst hc
        rw[ea] at eb
        cases eb
        obtain rfl:=cu.uniq ra rb
        show SeqAt.EqAt A s _ _ (pN pO pO)
        rw[lY]
        exact SeqAt.EqAt.same _
      · exact SeqAt.EqAt.of_refs hc (tV (by omega) pa pb (Ac.length.symm.trans ra.length) (kC.length.symm.trans rb.length) items))
theorem kD (I : Inv X pins σ H s) (sb : Sub F H) : ∀ (ds : List D) {es : List D} {A : Around} {vs ws : List V} {us us' : List Value} {j : Nat} {u w' : Value}, cu F vs ds → cu F ws es → Vals vs us → Vals ws us' → A.units + bF ds < cLine → us[j]? = some u → us'[j]? = some w' → SeqAt.EqAt A s u w' (nT ds es j) := fun ds {es A vs ws us us' j u w'} r1 r2 v1 v2 hu h1 h2 => by
  cases r1 with
  | nil=>cases v1;simp at h1
  | @cons v d vs ds r rs =>
    cases v1 with
    | cons q qs=>
      cases r2 with
      | nil=>cases v2;simp at h2
      | @cons w e ws es r' rs'=>
        cases v2 with
        | cons q' ZI=>
          have hd:A.units+max (bW d) (bF ds) < cLine:=hu
          cases j with
          | zero=>
            simp at h1 h2
            subst h1 h2
            exact Jg I sb d r r' q q' (by omega)
          | succ j=>
            simp at h1 h2
            have:=kD I sb ds (A:=A) rs rs' qs ZI (j:=j) (by omega) h1 h2
            simpa[nT] using this
end
end
end L2
end
section
set_option Elab.async false
set_option linter.all false
set_option maxRecDepth 100000
namespace L2
open PySem PySem.Spec PyProof.Rows
section
variable {X:Cx}{pins:List (Addr×Obj)}{σ:St}{F H:Hp}{s:Shared}
theorem Nk (I:Inv X pins σ H s) (sb:Sub F H){d e:D}{A:Around}{x y:V}{u w':Value}(r1:Rep F x d) (r2:Rep F y e) (rx:RelV x u) (ry:RelV y w') (hu:A.units+bW d < cLine):SeqAt.RcAt A s u w' (kQ d e):=by
 cases r1 with
 | cH=>
  cases rx
  cases r2 with
  | cH=>cases ry;exact SeqAt.RcAt.none_none
  | bl b=>cases ry;exact SeqAt.RcAt.none_bool b
  | int b=>obtain⟨tb,rfl⟩:=ry;exact SeqAt.RcAt.none_int b tb
  | str b=>obtain⟨tb,rfl⟩:=ry;exact SeqAt.RcAt.none_str b tb
  | @tup cb nW lZ eb rb=>cases ry;obtain⟨cU,kC,pb⟩:=sb.isTup I eb;exact SeqAt.RcAt.none_tuple pb (by omega)
  | @lst cb nW lZ eb rb=>cases ry;obtain⟨cU,kC,pb⟩:=sb.fM I eb;exact SeqAt.RcAt.none_list pb (by omega)
 | bl a=>
  cases rx
  cases r2 with
  | cH=>cases ry;exact SeqAt.RcAt.bool_none a
  | bl b=>cases ry;exact SeqAt.RcAt.bool_bool a b
  | int b=>obtain⟨tb,rfl⟩:=ry;exact SeqAt.RcAt.bool_int a b tb
  | str b=>obtain⟨tb,rfl⟩:=ry;exact SeqAt.RcAt.bool_str a b tb
  | @tup cb nW lZ eb rb=>cases ry;obtain⟨cU,kC,pb⟩:=sb.isTup I eb;exact SeqAt.RcAt.bool_tuple a pb (by omega)
  | @lst cb nW lZ eb rb=>cases ry;obtain⟨cU,kC,pb⟩:=sb.fM I eb;exact SeqAt.RcAt.bool_list a pb (by omega)
 | int a=>
  obtain⟨ta,rfl⟩:=rx
  cases r2 with
  | cH=>cases ry;exact SeqAt.RcAt.int_none a ta
  | bl b=>cases ry;exact SeqAt.RcAt.int_bool a ta b
  | int b=>obtain⟨tb,rfl⟩:=ry;exact SeqAt.RcAt.int_int a ta b tb
  | str b=>obtain⟨tb,rfl⟩:=ry;exact SeqAt.RcAt.int_str a ta b tb
  | @tup cb nW lZ eb rb=>cases ry;obtain⟨cU,kC,pb⟩:=sb.isTup I eb;exact SeqAt.RcAt.int_tuple a ta pb (by omega)
  | @lst cb nW lZ eb rb=>cases ry;obtain⟨cU,kC,pb⟩:=sb.fM I eb;exact SeqAt.RcAt.int_list a ta pb (by omega)
 | str a=>
  obtain⟨ta,rfl⟩:=rx
  cases r2 with
  | cH=>cases ry;exact SeqAt.RcAt.str_none a ta
  | bl b=>cases ry;exact SeqAt.RcAt.str_bool a ta b
  | int b=>obtain⟨tb,rfl⟩:=ry;exact SeqAt.RcAt.str_int a ta b tb
  | str b=>obtain⟨tb,rfl⟩:=ry;exact SeqAt.RcAt.str_str a ta b tb
  | @tup cb nW lZ eb rb=>cases ry;obtain⟨cU,kC,pb⟩:=sb.isTup I eb;exact SeqAt.RcAt.str_tuple a ta pb (by omega)
  | @lst cb nW lZ eb rb=>cases ry;obtain⟨cU,kC,pb⟩:=sb.fM I eb;exact SeqAt.RcAt.str_list a ta pb (by omega)
 | @tup ca Nj pO ea ra=>
  cases rx;obtain⟨iu,Ac,pa⟩:=sb.isTup I ea
  cases r2 with
  | cH=>cases ry;exact SeqAt.RcAt.tuple_none pa (by omega)
  | bl b=>cases ry;exact SeqAt.RcAt.tuple_bool b pa (by omega)
  | int b=>obtain⟨tb,rfl⟩:=ry;exact SeqAt.RcAt.tuple_int b tb pa (by omega)
  | str b=>obtain⟨tb,rfl⟩:=ry;exact SeqAt.RcAt.tuple_str b tb pa (by omega)
  | @tup cb nW lZ eb rb=>cases ry;obtain⟨cU,kC,pb⟩:=sb.isTup I eb;exact(by
   have hd:A.units+(bF pO+1) < cLine:=hu
   have items:jH A s iu cU pO lZ:=fun j h1 h2=>kD I sb pO (A:=A.in1) ra rb Ac kC (by show A.units+1+bF pO < cLine;omega) (fc iu j h1) (fc cU j h2)
   exact qL (by omega) pa pb (Ac.length.symm.trans ra.length) (kC.length.symm.trans rb.length) items)
  | @lst cb nW lZ eb rb=>cases ry;obtain⟨cU,kC,pb⟩:=sb.fM I eb;exact SeqAt.RcAt.tuple_list pa pb (by omega)
 | @lst ca Nj pO ea ra=>
  cases rx;obtain⟨iu,Ac,pa⟩:=sb.fM I ea
  cases r2 with
  | cH=>cases ry;exact SeqAt.RcAt.list_none pa (by omega)
  | bl b=>cases ry;exact SeqAt.RcAt.list_bool b pa (by omega)
  | int b=>obtain⟨tb,rfl⟩:=ry;exact SeqAt.RcAt.list_int b tb pa (by omega)
  | str b=>obtain⟨tb,rfl⟩:=ry;exact SeqAt.RcAt.list_str b tb pa (by omega)
  | @tup cb nW lZ eb rb=>cases ry;obtain⟨cU,kC,pb⟩:=sb.isTup I eb;exact SeqAt.RcAt.list_tuple pa pb (by omega)
  | @lst cb nW lZ eb rb=>cases ry;obtain⟨cU,kC,pb⟩:=sb.fM I eb;exact(by
   have hd:A.units+(bF pO+1) < cLine:=hu
   have items:jH A s iu cU pO lZ:=fun j h1 h2=>kD I sb pO (A:=A.in1) ra rb Ac kC (by show A.units+1+bF pO < cLine;omega) (fc iu j h1) (fc cU j h2)
   exact tV (by omega) pa pb (Ac.length.symm.trans ra.length) (kC.length.symm.trans rb.length) items)
theorem HU (I:Inv X pins σ H s) (sb:Sub F H){d e:D}{A:Around}{x y:V}{u w':Value}(r1:Rep F x d) (r2:Rep F y e) (rx:RelV x u) (ry:RelV y w') (hu:A.units+bW d < cLine):SeqAt.RcNeAt A s u w' (!kQ d e):=by
 cases r1 with
 | cH=>
  cases rx
  cases r2 with
  | cH=>cases ry;exact SeqAt.RcNeAt.none_none
  | bl b=>cases ry;exact SeqAt.RcNeAt.none_bool b
  | int b=>obtain⟨tb,rfl⟩:=ry;exact SeqAt.RcNeAt.none_int b tb
  | str b=>obtain⟨tb,rfl⟩:=ry;exact SeqAt.RcNeAt.none_str b tb
  | @tup cb nW lZ eb rb=>cases ry;obtain⟨cU,kC,pb⟩:=sb.isTup I eb;exact SeqAt.RcNeAt.none_tuple pb (by omega)
  | @lst cb nW lZ eb rb=>cases ry;obtain⟨cU,kC,pb⟩:=sb.fM I eb;exact SeqAt.RcNeAt.none_list pb (by omega)
 | bl a=>
  cases rx
  cases r2 with
  | cH=>cases ry;exact SeqAt.RcNeAt.bool_none a
  | bl b=>cases ry;exact SeqAt.RcNeAt.bool_bool a b
  | int b=>obtain⟨tb,rfl⟩:=ry;exact SeqAt.RcNeAt.bool_int a b tb
  | str b=>obtain⟨tb,rfl⟩:=ry;exact SeqAt.RcNeAt.bool_str a b tb
  | @tup cb nW lZ eb rb=>cases ry;obtain⟨cU,kC,pb⟩:=sb.isTup I eb;exact SeqAt.RcNeAt.bool_tuple a pb (by omega)
  | @lst cb nW lZ eb rb=>cases ry;obtain⟨cU,kC,pb⟩:=sb.fM I eb;exact SeqAt.RcNeAt.bool_list a pb (by omega)
 | int a=>
  obtain⟨ta,rfl⟩:=rx
  cases r2 with
  | cH=>cases ry;exact SeqAt.RcNeAt.int_none a ta
  | bl b=>cases ry;exact SeqAt.RcNeAt.int_bool a ta b
  | int b=>obtain⟨tb,rfl⟩:=ry;exact SeqAt.RcNeAt.int_int a ta b tb
  | str b=>obtain⟨tb,rfl⟩:=ry;exact SeqAt.RcNeAt.int_str a ta b tb
  | @tup cb nW lZ eb rb=>cases ry;obtain⟨cU,kC,pb⟩:=sb.isTup I eb;exact SeqAt.RcNeAt.int_tuple a ta pb (by omega)
  | @lst cb nW lZ eb rb=>cases ry;obtain⟨cU,kC,pb⟩:=sb.fM I eb;exact SeqAt.RcNeAt.int_list a ta pb (by omega)
 | str a=>
  obtain⟨ta,rfl⟩:=rx
  cases r2 with
  | cH=>cases ry;exact SeqAt.RcNeAt.str_none a ta
  | bl b=>cases ry;exact SeqAt.RcNeAt.str_bool a ta b
  | int b=>obtain⟨tb,rfl⟩:=ry;exact SeqAt.RcNeAt.str_int a ta b tb
  | str b=>obtain⟨tb,rfl⟩:=ry;exact SeqAt.RcNeAt.str_str a ta b tb
  | @tup cb nW lZ eb rb=>cases ry;obtain⟨cU,kC,pb⟩:=sb.isTup I eb;exact SeqAt.RcNeAt.str_tuple a ta pb (by omega)
  | @lst cb nW lZ eb rb=>cases ry;obtain⟨cU,kC,pb⟩:=sb.fM I eb;exact SeqAt.RcNeAt.str_list a ta pb (by omega)
 | @tup ca Nj pO ea ra=>
  cases rx;obtain⟨iu,Ac,pa⟩:=sb.isTup I ea
  cases r2 with
  | cH=>cases ry;exact SeqAt.RcNeAt.tuple_none pa (by omega)
  | bl b=>cases ry;exact SeqAt.RcNeAt.tuple_bool b pa (by omega)
  | int b=>obtain⟨tb,rfl⟩:=ry;exact SeqAt.RcNeAt.tuple_int b tb pa (by omega)
  | str b=>obtain⟨tb,rfl⟩:=ry;exact SeqAt.RcNeAt.tuple_str b tb pa (by omega)
  | @tup cb nW lZ eb rb=>cases ry;obtain⟨cU,kC,pb⟩:=sb.isTup I eb;exact(by
   have hd:A.units+(bF pO+1) < cLine:=hu
   have items:jH A s iu cU pO lZ:=fun j h1 h2=>kD I sb pO (A:=A.in1) ra rb Ac kC (by show A.units+1+bF pO < cLine;omega) (fc iu j h1) (fc cU j h2)
   exact u5 (by omega) pa pb (Ac.length.symm.trans ra.length) (kC.length.symm.trans rb.length) items)
  | @lst cb nW lZ eb rb=>cases ry;obtain⟨cU,kC,pb⟩:=sb.fM I eb;exact SeqAt.RcNeAt.tuple_list pa pb (by omega)
 | @lst ca Nj pO ea ra=>
  cases rx;obtain⟨iu,Ac,pa⟩:=sb.fM I ea
  cases r2 with
  | cH=>cases ry;exact SeqAt.RcNeAt.list_none pa (by omega)
  | bl b=>cases ry;exact SeqAt.RcNeAt.list_bool b pa (by omega)
  | int b=>obtain⟨tb,rfl⟩:=ry;exact SeqAt.RcNeAt.list_int b tb pa (by omega)
  | str b=>obtain⟨tb,rfl⟩:=ry;exact SeqAt.RcNeAt.list_str b tb pa (by omega)
  | @tup cb nW lZ eb rb=>cases ry;obtain⟨cU,kC,pb⟩:=sb.isTup I eb;exact SeqAt.RcNeAt.list_tuple pa pb (by omega)
  | @lst cb nW lZ eb rb=>cases ry;obtain⟨cU,kC,pb⟩:=sb.fM I eb;exact(by
   have hd:A.units+(bF pO+1) < cLine:=hu
   have items:jH A s iu cU pO lZ:=fun j h1 h2=>kD I sb pO (A:=A.in1) ra rb Ac kC (by show A.units+1+bF pO < cLine;omega) (fc iu j h1) (fc cU j h2)
   exact wJ (by omega) pa pb (Ac.length.symm.trans ra.length) (kC.length.symm.trans rb.length) items)
noncomputable def ux:List D→Option U
 | [a,b]=>if bW a≤40 then some (.t (.bl (kQ a b))) else none
 | _=>none
noncomputable def Jh:List D→Option U
 | [a,b]=>if bW a≤40 then some (.t (.bl (!kQ a b))) else none
 | _=>none
theorem eO (hu:X.A.units+64 < cLine):wB X (compareOp .Eq) ux:=by
 intro pins s σ H x y v u Q I rx ry ⟨F,ds,w,sb,rs,hw,q⟩
 obtain⟨d,e,rfl,r1,r2⟩:=tR rs
 obtain⟨hd,rfl⟩:=cJ (show(if bW d≤40 then some (U.t (.bl (kQ d e))) else none)=some w from hw)
 exact Nk I sb r1 r2 rx ry (by omega) _ _ _ _ ⟨.bl _,H,I,rfl,q _ F H (jg.refl ..) sb (.bl _)⟩
theorem rZ (hu:X.A.units+64 < cLine):wB X (compareOp .NotEq) Jh:=by
 intro pins s σ H x y v u Q I rx ry ⟨F,ds,w,sb,rs,hw,q⟩
 obtain⟨d,e,rfl,r1,r2⟩:=tR rs
 obtain⟨hd,rfl⟩:=cJ (show(if bW d≤40 then some (U.t (.bl (!kQ d e))) else none)=some w from hw)
 exact HU I sb r1 r2 rx ry (by omega) _ _ _ _ ⟨.bl _,H,I,rfl,q _ F H (jg.refl ..) sb (.bl _)⟩
noncomputable def inD (x:D) (ds:List D):Bool:=ds.any fun y=>kQ y x
noncomputable def Ad:List D→Option U
 | [x,.tup ds]=>if bF ds≤40 then some (.t (.bl (inD x ds))) else none
 | [x,.lst ds]=>if bF ds≤40 then some (.t (.bl (inD x ds))) else none
 | [.str i,.str j]=>some (.t (.bl (!(Builtin.Str.occurrences j i 0 j.length 1).isEmpty)))
 | _=>none
noncomputable def kE:List D→Option U
 | [x,.tup ds]=>if bF ds≤40 then some (.t (.bl (!inD x ds))) else none
 | [x,.lst ds]=>if bF ds≤40 then some (.t (.bl (!inD x ds))) else none
 | [.str i,.str j]=>some (.t (.bl (!(!(Builtin.Str.occurrences j i 0 j.length 1).isEmpty))))
 | _=>none
theorem pD:∀{ds:List D}{d:D},d∈ds→bW d≤bF ds
 | d :: ds,e,h=>by
  show bW e≤max (bW d) (bF ds)
  rcases List.mem_cons.mp h with rfl | h
  ·exact Nat.le_max_left _ _
  ·exact Nat.le_trans (pD h) (Nat.le_max_right _ _)
theorem RelV.uniq {v w':V}{u:Value}(a:RelV v u) (b:RelV w' u):v=w':=by
 cases v <;> cases w' <;> simp only[RelV] at a b <;> first
  | rfl
  | (subst a;cases b;done)
  | (subst a;cases b;rfl)
  | (obtain⟨t,rfl⟩:=a;obtain⟨t',e⟩:=b;cases e;done)
  | (obtain⟨t,rfl⟩:=a;obtain⟨t',e⟩:=b;cases e;rfl)
  | (obtain⟨t,rfl⟩:=a;cases b;done)
  | (obtain⟨t,rfl⟩:=b;cases a;done)
open Classical in
noncomputable def wK (F:Hp) (d:D) (y:Value):Bool:=if h:∃(v:V) (dd:D),RelV v y∧Rep F v dd then kQ (Classical.choose (Classical.choose_spec h)) d else false
theorem FI {v:V}{dd d:D}{y:Value}(a:RelV v y) (r:Rep F v dd):wK F d y=kQ dd d:=by
 unfold wK
 have h:∃(v:V) (dd:D),RelV v y∧Rep F v dd:=⟨v,dd,a,r⟩
 rw[dif_pos h]
 have k:=Classical.choose_spec (Classical.choose_spec h)
 have e1:=RelV.uniq k.1 a
 have r':Rep F (Classical.choose h) dd:=by rw[e1];exact r
 rw[Rep.uniq k.2 r']
theorem mh (I:Inv X pins σ H s) (sb:Sub F H){A:Around}{x:V}{u:Value}{d:D}(r:Rep F x d) (rx:RelV x u):∀{vs:List V}{ds:List D}{its:List Value},cu F vs ds→Vals vs its→A.units+bF ds < cLine→
  (∀y∈its,SeqAt.EqAt A s y u (wK F d y))∧its.any (wK F d)=inD d ds
 | _,_,_,.nil,.nil,_=>⟨(fun y hy=>absurd hy (by simp)),rfl⟩
 | _,_,_,@cu.cons _ v dd vs ds r1 rs,.cons q qs,hu=>by
  have hd:A.units+max (bW dd) (bF ds) < cLine:=hu
  obtain⟨h1,h2⟩:=mh I sb (A:=A) r rx rs qs (by omega)
  refine⟨fun y hy=>?_,?_⟩
  ·rcases List.mem_cons.mp hy with rfl | hy
   ·rw[FI q r1];exact Jg I sb dd r1 r q rx (by omega)
   ·exact h1 y hy
  ·rw[List.any_cons,h2,FI q r1]
   rfl
theorem u6 (hu:X.A.units+64 < cLine):wB X (compareOp .In) Ad:=by
 intro pins s σ H x y v u Q I rx ry ⟨F,ds,w,sb,rs,hw,q⟩
 obtain⟨d,e,rfl,r1,r2⟩:=tR rs
 cases e with
 | tup ds=>
  obtain⟨hd,rfl⟩:=cJ (show(if bF ds≤40 then some (U.t (.bl (inD d ds))) else none)=some w by cases d <;> exact hw)
  obtain⟨a,vs,rfl,fa,ha,rs⟩:=sb.lV r2
  cases ry
  obtain⟨its,rv,p⟩:=sb.isTup I fa
  obtain⟨h1,h2⟩:=mh I sb (A:=X.A.in1) r1 rx rs rv (by show X.A.units+1+bF ds < cLine;omega)
  refine SeqAt.in_tupleAt (wK F d) p (fun y hy=>h1 y (by simpa using hy)) ⟨.bl _,H,I,rfl,?_⟩
  rw[show its.toArray.any (wK F d)=its.any (wK F d) by simp,h2]
  exact q _ F H (jg.refl ..) sb (.bl _)
 | lst ds=>
  obtain⟨hd,rfl⟩:=cJ (show(if bF ds≤40 then some (U.t (.bl (inD d ds))) else none)=some w by cases d <;> exact hw)
  obtain⟨a,vs,rfl,fa,ha,rs⟩:=sb.kT r2
  cases ry
  obtain⟨its,rv,p⟩:=sb.fM I fa
  obtain⟨h1,h2⟩:=mh I sb (A:=X.A.in1) r1 rx rs rv (by show X.A.units+1+bF ds < cLine;omega)
  refine SeqAt.in_listAt (wK F d) p (fun y hy=>h1 y (by simpa using hy)) ⟨.bl _,H,I,rfl,?_⟩
  rw[show its.toArray.any (wK F d)=its.any (wK F d) by simp,h2]
  exact q _ F H (jg.refl ..) sb (.bl _)
 | str j=>
  cases d <;> try (simp[Ad] at hw;done)
  rename_i i
  cases hw
  cases r1
  cases r2
  exact Dl pins s σ H _ _ v u Q I rx ry ⟨i,j,rfl,rfl,q _ F H (jg.refl ..) sb (.bl _)⟩
 | cH=>cases d <;> (simp[Ad] at hw;done)
 | bl b=>cases d <;> (simp[Ad] at hw;done)
 | int b=>cases d <;> (simp[Ad] at hw;done)
theorem xP (hu:X.A.units+64 < cLine):wB X (compareOp .NotIn) kE:=by
 intro pins s σ H x y v u Q I rx ry ⟨F,ds,w,sb,rs,hw,q⟩
 obtain⟨d,e,rfl,r1,r2⟩:=tR rs
 cases e with
 | tup ds=>
  obtain⟨hd,rfl⟩:=cJ (show(if bF ds≤40 then some (U.t (.bl (!inD d ds))) else none)=some w by cases d <;> exact hw)
  obtain⟨a,vs,rfl,fa,ha,rs⟩:=sb.lV r2
  cases ry
  obtain⟨its,rv,p⟩:=sb.isTup I fa
  obtain⟨h1,h2⟩:=mh I sb (A:=X.A.in1) r1 rx rs rv (by show X.A.units+1+bF ds < cLine;omega)
  refine SeqAt.notIn_tupleAt (wK F d) p (fun y hy=>h1 y (by simpa using hy)) ⟨.bl _,H,I,rfl,?_⟩
  rw[show its.toArray.any (wK F d)=its.any (wK F d) by simp,h2]
  exact q _ F H (jg.refl ..) sb (.bl _)
 | lst ds=>
  obtain⟨hd,rfl⟩:=cJ (show(if bF ds≤40 then some (U.t (.bl (!inD d ds))) else none)=some w by cases d <;> exact hw)
  obtain⟨a,vs,rfl,fa,ha,rs⟩:=sb.kT r2
  cases ry
  obtain⟨its,rv,p⟩:=sb.fM I fa
  obtain⟨h1,h2⟩:=mh I sb (A:=X.A.in1) r1 rx rs rv (by show X.A.units+1+bF ds < cLine;omega)
  refine SeqAt.notIn_listAt (wK F d) p (fun y hy=>h1 y (by simpa using hy)) ⟨.bl _,H,I,rfl,?_⟩
  rw[show its.toArray.any (wK F d)=its.any (wK F d) by simp,h2]
  exact q _ F H (jg.refl ..) sb (.bl _)
 | str j=>
  cases d <;> try (simp[kE] at hw;done)
  rename_i i
  cases hw
  cases r1
  cases r2
  exact yH pins s σ H _ _ v u Q I rx ry ⟨i,j,rfl,rfl,q _ F H (jg.refl ..) sb (.bl _)⟩
 | cH=>cases d <;> (simp[kE] at hw;done)
 | bl b=>cases d <;> (simp[kE] at hw;done)
 | int b=>cases d <;> (simp[kE] at hw;done)
end
end L2
end
section
set_option Elab.async false
set_option linter.all false
set_option maxRecDepth 100000
namespace L2
open PySem PySem.Spec PyProof.Rows
noncomputable def cS (T:String) (d:D):Option Bool:=match T with
 | "tuple"=>some (bZ d)
 | "list"=>some (Fg d)
 | "str"=>some (dU d)
 | "bool"=>some (zW d)
 | "int"=>some (yP d)
 | _=>none
theorem FJ {K:PySem.W.Frag}{T:String}{d:D}{b:Bool}(h:cS T d=some b):PySem.W.kitOne K (.type (I0 d)) (.type T)=some b:=by
 unfold cS at h
 split at h
 ·cases h;exact HE d
 ·cases h;exact HF d
 ·cases h;exact Fi d
 ·cases h;exact KD d
 ·cases h;exact HG d
 ·cases h
noncomputable def bJ:List String→D→Option Bool
 | [],_=>some false
 | T :: Ts,d=>match cS T d with
  | some true=>some true
  | some false=>bJ Ts d
  | none=>none
section
variable {X:Cx}{pins:List (Addr×Obj)}{σ:St}{F H:Hp}{s:Shared}
theorem HV (I:Inv X pins σ H s) (sb:Sub F H){A:Around}{E:Value→Shared→Prop}{Q:Value→Shared→Prop}{x:V}{u:Value}{d:D}{c:Value}{b:Bool}(r:Rep F x d) (rx:RelV x u) (e:PySem.W.kitOne X.K (.type (I0 d)) c=some b) (h:∀tk,Q (.bool b) {s with toks:=tk}):
  wpAny (model X.prog X.w) A (call (.builtin "isinstance") [u,c]) Q E s:=by
 cases r with
 | cH=>cases rx;exact PySem.W.kia_one PySem.W.kitx_none I.Bl True.intro e (fun z=>nomatch z) h
 | bl y=>cases rx;exact PySem.W.kia_one PySem.W.kitx_bool I.Bl True.intro e (fun z=>nomatch z) h
 | int i=>obtain⟨t,rfl⟩:=rx;exact PySem.W.kia_one PySem.W.kitx_int I.Bl True.intro e (fun z=>nomatch z) h
 | str y=>obtain⟨t,rfl⟩:=rx;exact PySem.W.kia_one PySem.W.kitx_str I.Bl True.intro e (fun z=>nomatch z) h
 | tup ea _=>
  cases rx
  obtain⟨its,_,o,h1,h2,_⟩:=sb.isTup I ea
  exact PySem.W.kia_one PySem.W.kitx_tuple I.Bl ⟨o,h1,h2⟩ e (fun z=>nomatch z) h
 | lst ea _=>
  cases rx
  obtain⟨its,_,o,h1,h2,_⟩:=sb.fM I ea
  exact PySem.W.kia_one PySem.W.kitx_list I.Bl ⟨o,h1,h2⟩ e (fun z=>nomatch z) h
end
noncomputable def u9 (Ts:List String) (g:GD):GD:=fun S=>(g S).bind fun p=>(bJ Ts p.1).map fun b=>(.bl b,p.2)
section
variable {X:Cx}{a b c e:Expr}{es:List Expr}{pos p p2 px:Pos}{x y:Str}{g ga gb gc:GD}{gA:GA}
theorem DH {T:String}{d:D}{b:Bool}(h:bJ [T] d=some b):cS T d=some b:=by
 unfold bJ at h
 cases e:cS T d with
 | none=>rw[e] at h;cases h
 | some k=>rw[e] at h;cases k <;> exact h
theorem cV {T:String}(hg:Gl X "isinstance") (hm:X.mg "isinstance" =none) (Pp:Gl X y) (hm2:X.mg y=none) (hv2:bootBuiltins y=some (.type T)) (ha:JD X a ga) (hn2:y≠"__name__":=by decide) (hd2:(y == ("__debug__":Str))=false:=by decide)
    (hs:starEach [a,.Name y px] X.env=(false,eval a X.env) :: starEach [.Name y px] X.env:=by rfl) (hs2:starEach [.Name y px] X.env=(false,eval (.Name y px) X.env) :: starEach [] X.env:=by rfl) (hpl:(backTo pos (starEach [.Name y px] X.env)).any (·.1)=false:=by rfl):
    JD X (.Call (.Name "isinstance" p) [a,.Name y px] [] pos) (u9 [T] ga):=⟨fun B=>
  (nK (r := fun xs H Q => ∃ x F d b, xs = [x, .ty T] ∧ Sub F H ∧ Rep F x d ∧ cS T d = some b ∧ Q (.bl b) H) (fun pins s σ H xs us Q I r ⟨x, F, d, b, e1, sb, rd, hk, q⟩ => by
      subst e1
      obtain⟨u,w',rfl,ru,rw'⟩:=vals2 r
      cases rw'
      exact HV I sb rd ru (FJ hk) fun tk=>⟨.bl b,H,I.tok tk,rfl,q⟩) hg hm PyProof.Rows.Boot.isinstance (pA (ha.h B) (pA (G4 (v:=.ty T) Pp hm2 hv2 rfl hn2 hd2) yI hs2) hs) (by decide) (by decide) hs hpl).imp fun σ H Q ⟨S,F,d,S',R,hg,q⟩=>by
  obtain⟨⟨d1,S1⟩,h1,hg⟩:=au hg
  obtain⟨k,h2,hg⟩:=aG hg
  cases hg
  exact⟨S,F,d1,_,R,h1,fun v F1 H1 R1 st1 r1=>⟨v,F1,d1,k,rfl,R1.sub,r1,DH h2,q _ F1 H1 R1 st1 (.bl k)⟩⟩⟩
noncomputable def jY:List D→Option (List Bool)
 | []=>some []
 | .bl b :: ds=>(jY ds).map fun bs=>b :: bs
 | _=>none
theorem tW {F:Hp}:∀{vs:List V}{ds:List D}{bs:List Bool},cu F vs ds→jY ds=some bs→vs=bs.map V.bl
 | _,_,_,.nil,h=>by cases h;rfl
 | _,_,_,@cu.cons _ v d vs ds r rs,h=>by
  cases d <;> try (simp[jY] at h;done)
  obtain⟨bs,h1,h2⟩:=aG (show(jY ds).map _=_ from h)
  subst h2
  rw[jX r,tW rs h1]
  rfl
noncomputable def FL:List D→Option U
 | [.lst ds]=>(jY ds).map fun bs=>.t (.bl (bs.all id))
 | _=>none
noncomputable def R5:List D→Option U
 | [.lst ds]=>(jY ds).map fun bs=>.t (.bl (bs.any id))
 | _=>none
theorem C0 {P:D→Prop}{F:Hp}{xs:List V}{ds:List D}{f:List D→Option U}{w':U}(rs:cu F xs ds) (h:f ds=some w') (hn:f []=none) (h2:∀a b r,f (a :: b :: r)=none):∃x d,xs=[x]∧ds=[d]∧Rep F x d:=by
 cases rs with
 | nil=>rw[hn] at h;cases h
 | cons r rs=>
  cases rs with
  | nil=>exact⟨_,_,rfl,rfl,r⟩
  | cons _ _=>rw[h2] at h;cases h
theorem xQ (hc:X.calm=true):jf X (.builtin "all") (rP FL):=by
 intro pins s σ H xs us Q I r ⟨F,ds,w,sb,rs,hw,q⟩
 obtain⟨x,d,rfl,rfl,r1⟩:=C0 (P:=fun _=>True) rs hw rfl (fun d _ _=>by cases d <;> rfl)
 cases d <;> try (simp[FL] at hw;done)
 rename_i ds
 obtain⟨bs,h1,rfl⟩:=aG (show(jY ds).map _=some w from hw)
 obtain⟨a,vs,rfl,fa,ha,xJ⟩:=sb.kT r1
 obtain rfl:=tW xJ h1
 exact Dz hc pins s σ H _ us Q I r ⟨a,bs,rfl,.inl ha,q _ F H (jg.refl ..) sb (.bl _)⟩
noncomputable def Nl:List D→Option U
 | [.int i,.int j,.int k]=>some (.t (.int (if j < i then(if k < j then k else j) else if k < i then k else i)))
 | _=>none
noncomputable def Nm:List D→Option U
 | [.int i,.int j]=>some (.t (.int (if j < i then j else i)))
 | _=>none
noncomputable def C1:List D→Option U
 | [.int i,.int j]=>some (.t (.int (if j > i then j else i)))
 | _=>none
theorem BG (hc : X.calm = true) : jf X (.builtin "max") (rP C1) := by
  intro pins s σ H xs us Q I r ⟨F,ds,w,sb,rs,hw,q⟩
  unfold C1 at hw
  split at hw
  · rename_i i j
    cases hw
    cases rs with
    | cons r1 rs=>cases rs with
      | cons r2 rs=>
        cases rs
        rw[mR r1,mR r2] at r
        exact Dm hc pins s σ H _ us Q I r ⟨i,j,rfl,q _ F H (jg.refl ..) sb (.int _)⟩
  · cases hw
noncomputable def tX:List D→Option U
 | [.tup ds]=>some (.m (.lst ds))
 | [.lst ds]=>some (.m (.lst ds))
 | _=>none
noncomputable def FN:List D→Option U
 | [.tup ds]=>some (.t (.tup ds))
 | [.lst ds]=>some (.t (.tup ds))
 | _=>none
theorem vc:jf X (.type "list") (rP tX):=by
 intro pins s σ H xs us Q I r ⟨F,ds,w,sb,rs,hw,q⟩
 obtain⟨x,d,rfl,rfl,r1⟩:=C0 (P:=fun _=>True) rs hw rfl (fun d _ _=>by cases d <;> rfl)
 cases d <;> try (simp[tX] at hw;done)
 ·cases hw
  obtain⟨a,vs,rfl,fa,ha,xJ⟩:=sb.lV r1
  exact qC pins s σ H _ us Q I r ⟨a,vs,rfl,.inr (.inl ha),fun p hp=>q _ F _ (jg.obj hp _) (sb.same (jg.obj (F:=F) hp _).same) ⟨p,rfl,hp,sb.fresh hp,vs,bY,xJ⟩⟩
 ·cases hw
  obtain⟨a,vs,rfl,fa,ha,xJ⟩:=sb.kT r1
  exact qC pins s σ H _ us Q I r ⟨a,vs,rfl,.inl (.inl ha),fun p hp=>q _ F _ (jg.obj hp _) (sb.same (jg.obj (F:=F) hp _).same) ⟨p,rfl,hp,sb.fresh hp,vs,bY,xJ⟩⟩
end
end L2
end
section
set_option Elab.async false
set_option linter.all false
set_option maxRecDepth 100000
namespace L2
open PySem PySem.Spec PyProof.Rows
noncomputable def keyOf:D→Option Key
 | .int i=>some (.inl i)
 | .str z=>some (.inr z)
 | _=>none
theorem mj {F:Hp}{v:V}{d:D}{k:Key}(r:Rep F v d) (h:keyOf d=some k):v=kV k:=by
 cases r <;> cases h <;> rfl
noncomputable def dw {κ:Type} [DecidableEq κ] (kvs:List (κ×D)) (k:κ):Option D:=(kvs.find? fun kv=>decide (kv.1=k)).map (·.2)
noncomputable def putD {κ:Type} [DecidableEq κ] (kvs:List (κ×D)) (k:κ) (d:D):List (κ×D):=
 if(kvs.any fun kv=>decide (kv.1=k))=true then kvs.map (fun kv=>if kv.1=k then(kv.1,d) else kv) else kvs++[(k,d)]
theorem pF {κ:Type} [DecidableEq κ] {F:Hp}{k:κ}{d:D}:∀{ws:List (κ×V)}{kvs:List (κ×D)},Paired (iO F) ws kvs→dw kvs k=some d→∃v,pZ ws k=some v∧Rep F v d
 | _,_,.nil,h=>by cases h
 | _,_,@Paired.cons _ _ _ p q ws kvs r rs,h=>by
  by_cases e:q.1=k
  ·have e':p.1=k:=r.1.trans e
   refine⟨p.2,qy e',?_⟩
   have:dw (q :: kvs) k=some q.2:=by simp[dw,List.find?_cons,e]
   rw[this] at h
   cases h
   exact r.2
  ·have e':¬p.1=k:=fun z=>e (r.1.symm.trans z)
   have:dw (q :: kvs) k=dw kvs k:=by simp[dw,List.find?_cons,e]
   rw[this] at h
   obtain⟨v,h1,h2⟩:=pF rs h
   exact⟨v,by rw[nL e'];exact h1,h2⟩
theorem xR {κ:Type} [DecidableEq κ] {F:Hp}{k:κ}:∀{ws:List (κ×V)}{kvs:List (κ×D)},Paired (iO F) ws kvs→dw kvs k=none→pZ ws k=none
 | _,_,.nil,h=>rfl
 | _,_,@Paired.cons _ _ _ p q ws kvs r rs,h=>by
  by_cases e:q.1=k
  ·have:dw (q :: kvs) k=some q.2:=by simp[dw,List.find?_cons,e]
   rw[this] at h
   cases h
  ·have e':¬p.1=k:=fun z=>e (r.1.symm.trans z)
   have:dw (q :: kvs) k=dw kvs k:=by simp[dw,List.find?_cons,e]
   rw[this] at h
   rw[nL e']
   exact xR rs h
theorem Ae {κ:Type} [DecidableEq κ] {F:Hp}{k:κ}:∀{ws:List (κ×V)}{kvs:List (κ×D)},Paired (iO F) ws kvs→(ws.any fun kv=>decide (kv.1=k))=(kvs.any fun kv=>decide (kv.1=k))
 | _,_,.nil=>rfl
 | _,_,.cons r rs=>by rw[List.any_cons,List.any_cons,Ae rs,r.1]
theorem Af {κ:Type} [DecidableEq κ] {F:Hp}{k:κ}{v:V}{d:D}(r:Rep F v d):∀{ws:List (κ×V)}{kvs:List (κ×D)},Paired (iO F) ws kvs→Paired (iO F) (ws.map fun kv=>if kv.1=k then(kv.1,v) else kv) (kvs.map fun kv=>if kv.1=k then(kv.1,d) else kv)
 | _,_,.nil=>.nil
 | _,_,@Paired.cons _ _ _ p q ws kvs h hs=>by
  refine .cons ?_ (Af r hs)
  show iO F (if p.1=k then(p.1,v) else p) (if q.1=k then(q.1,d) else q)
  rw[h.1]
  by_cases e:q.1=k
  ·rw[if_pos e,if_pos e];exact⟨rfl,r⟩
  ·rw[if_neg e,if_neg e];exact h
theorem tY {α β:Type}{P:α→β→Prop}{x:α}{y:β}(p:P x y):∀{l:List α}{r:List β},Paired P l r→Paired P (l++[x]) (r++[y])
 | _,_,.nil=>.cons p .nil
 | _,_,.cons q qs=>.cons q (tY p qs)
theorem vd {κ:Type} [DecidableEq κ] {F:Hp}{k:κ}{v:V}{d:D}{ws:List (κ×V)}{kvs:List (κ×D)}(h:Paired (iO F) ws kvs) (r:Rep F v d):Paired (iO F) (putK ws k v) (putD kvs k d):=by
 unfold putK putD
 rw[Ae h]
 by_cases e:(kvs.any fun kv=>decide (kv.1=k))=true
 ·rw[if_pos e,if_pos e];exact Af r h
 ·rw[if_neg e,if_neg e];exact tY ⟨rfl,r⟩ h
noncomputable def keysOf:List D→Option (List Key)
 | []=>some []
 | d :: ds=>(keyOf d).bind fun k=>(keysOf ds).map fun ks=>k :: ks
noncomputable def BH:D→Option (List Key)
 | .tup ds=>keysOf ds
 | _=>none
theorem tZ {F:Hp}:∀{vs:List V}{ds:List D}{ks:List Key},cu F vs ds→keysOf ds=some ks→vs=ks.map kV
 | _,_,_,.nil,h=>by cases h;rfl
 | _,_,_,.cons r rs,h=>by
  obtain⟨k,h1,h⟩:=au h
  obtain⟨ks,h2,rfl⟩:=aG h
  rw[mj r h1,tZ rs h2]
  rfl
theorem qM {F H:Hp}{v:V}{d:D}{ks:List Key}(sb:Sub F H) (r:Rep F v d) (h:BH d=some ks):∃b,v= .ref b∧H b=some (.tup (ks.map kV)):=by
 cases r with
 | tup e rs=>exact⟨_,rfl,by rw[←tZ rs h];exact sb _ _ e⟩
 | cH=>cases h
 | bl _=>cases h
 | int _=>cases h
 | str _=>cases h
 | lst _ _=>cases h
noncomputable def qN:U→D→Option D
 | .t (.tup ds),.int i=>iJ ds i
 | .t (.lst ds),.int i=>iJ ds i
 | .m (.lst ds),.int i=>iJ ds i
 | .b (.lst ds),.int i=>iJ ds i
 | .s ns,.int i=>(iJ ns i).map D.int
 | .m (.dct kvs),k=>(keyOf k).bind (dw kvs)
 | .b (.dct kvs),k=>(keyOf k).bind (dw kvs)
 | .m (.yQ kvs),k=>(BH k).bind (dw kvs)
 | .b (.yQ kvs),k=>(BH k).bind (dw kvs)
 | _,_=>none
noncomputable def dh (i:Nat) (gb:GD):GD:=fun S=>match S[i]? with
 | some (some _)=>(gb S).bind fun p=>match p.2[i]? with
  | some (some u)=>(qN u p.1).map fun d=>(d,p.2)
  | _=>none
 | _=>none
theorem HW {α β:Type}(f:α→β){l:List α}{i:Int}{x:α}(h:iJ l i=some x):iJ (l.map f) i=some (f x):=by
 unfold iJ at h ⊢
 rw[List.length_map]
 obtain⟨j,h1,h2⟩:=au h
 rw[h1]
 show(l.map f)[j]? =_
 rw[List.getElem?_map,h2]
 rfl
section
variable {X:Cx}{a b c e value:Expr}{es:List Expr}{pos p p2 px pos':Pos}{x y:Str}{g ga gb gc gk gv:GD}{gA:GA}
theorem bD {i : Nat} (hu : X.A.units + 1 < cLine) (hb : JD X b gb) (hs : yM b := by first | (intro _ _; rfl)) (hN : X.N[i]? = some x := by rfl) (hv : Ez X.env.scope x := by first | exact Or.inl rfl | exact Or.inr (Or.inl rfl) | exact Or.inr (Or.inr rfl))
    (hd:(x == ("__debug__":Str))=false:=by decide) (hcd:(x == ("__classdict__":Str))=false:=by decide):JD X (.Subscript (.Name x px) b pos) (dh i gb):=⟨fun B=>PE.orelse fun σ H Q ⟨S,F,d,S',R,hg,q⟩=>by
  unfold dh at hg
  split at hg
  · rename_i u0 R6
    obtain⟨v0,hv0,_⟩:=R.rep i u0 R6
    obtain⟨⟨k,S1⟩,h1,hg⟩:=au hg
    dsimp only at hg
    split at hg
    · rename_i u hS
      obtain⟨d',hr,hg⟩:=aG hg
      cases hg
      have CW:∀F1 H1,Rel X.K B S' σ F1 H1→wH X.K F1 H1 v0 u:=fun F1 H1 R1=>by
        obtain⟨v,k1,k2⟩:=R1.rep i u hS
        rw[hv0] at k1
        cases k1
        exact k2
      have seq:∀(Y:V→V→Hp→VK→Prop),PE X (.Subscript (.Name x px) b pos) (LM Y (JK i) (tD X.K B gb))→(∀v F1 H1,Rel X.K B S' σ F1 H1→Step S S' σ F H F1 H1→Rep F1 v k→Y v0 v H1 Q)→∃t',PE X (.Subscript (.Name x px) b pos) t'∧t' σ H Q:=fun Y hY h=>
        ⟨_,hY,v0,hv0,S,F,k,S',R,h1,fun v F1 H1 R1 st1 r1=>h v F1 H1 R1 st1 r1⟩
      have dict:∀kvs,(∀F1 H1,Rel X.K B S' σ F1 H1→∃a ws,v0= .ref a∧H1 a=some (.dK ws)∧Paired (iO F1) ws kvs)→(keyOf k).bind (dw kvs)=some d→∃t',PE X (.Subscript (.Name x px) b pos) t'∧t' σ H Q:=fun kvs hat hr=>by
        obtain⟨kk,e1,e2⟩:=au hr
        refine⟨_,CG hu (jj hN hv hd hcd) (hb.h B) hs,v0,hv0,S,F,k,S',R,h1,fun v F1 H1 R1 st1 r1=>?_⟩
        obtain⟨a,ws,rfl,ha,pr⟩:=hat F1 H1 R1
        obtain⟨w',z1,z2⟩:=pF pr e2
        rw[mj r1 e1]
        exact⟨a,w',rfl,by rw[←z1];exact pL.k ha,q w' F1 H1 R1 st1 z2⟩
      have Ji:∀kvs,(∀F1 H1,Rel X.K B S' σ F1 H1→∃a ws,v0= .ref a∧H1 a=some (.dT ws)∧Paired (iO F1) ws kvs)→(BH k).bind (dw kvs)=some d→∃t',PE X (.Subscript (.Name x px) b pos) t'∧t' σ H Q:=fun kvs hat hr=>by
        obtain⟨kk,e1,e2⟩:=au hr
        refine⟨_,CG hu (jj hN hv hd hcd) (hb.h B) hs,v0,hv0,S,F,k,S',R,h1,fun v F1 H1 R1 st1 r1=>?_⟩
        obtain⟨a,ws,rfl,ha,pr⟩:=hat F1 H1 R1
        obtain⟨w',z1,z2⟩:=pF pr e2
        obtain⟨b',rfl,hb'⟩:=qM R1.sub r1 e1
        exact⟨a,w',rfl,by rw[←z1];exact pL.t ha hb',q w' F1 H1 R1 st1 z2⟩
      have list:∀ds ii,k= .int ii→iJ ds ii=some d→(∀F1 H1,Rel X.K B S' σ F1 H1→∃a vs,v0= .ref a∧(pQ X.K H1 a vs∨yG X.K H1 a vs)∧cu F1 vs ds)→∃t',PE X (.Subscript (.Name x px) b pos) t'∧t' σ H Q:=fun ds ii ek hrr hat=>by
        subst ek
        refine seq _ (E2 E5 (jj hN hv hd hcd) (hb.h B) hs) fun v F1 H1 R1 st1 r1=>?_
        obtain⟨a,vs,rfl,ha,rs⟩:=hat F1 H1 R1
        obtain⟨w',z1,z2⟩:=rs.iJ hrr
        rw[mR r1]
        rcases ha with ha | ha
        · exact .inl ⟨a,vs,ii,w',rfl,rfl,ha,z1,q w' F1 H1 R1 st1 z2⟩
        · exact .inr (.inl ⟨a,vs,ii,w',rfl,rfl,ha,z1,q w' F1 H1 R1 st1 z2⟩)
      unfold qN at hr
      split at hr
      · rename_i ds ii
        exact list ds ii rfl hr fun F1 H1 R1=>let⟨a,vs,e1,fa,ha,rs⟩:=R1.sub.lV (CW F1 H1 R1);⟨a,vs,e1,.inr (.inl ha),rs⟩
      · rename_i ds ii
        exact list ds ii rfl hr fun F1 H1 R1=>let⟨a,vs,e1,fa,ha,rs⟩:=R1.sub.kT (CW F1 H1 R1);⟨a,vs,e1,.inl (.inl ha),rs⟩
      · rename_i ds ii
        exact list ds ii rfl hr fun F1 H1 R1=>let⟨a,e1,fa,vs,ha,rs⟩:=CW F1 H1 R1;⟨a,vs,e1,.inl (pQ.of ha),rs⟩
      · rename_i ds ii
        exact list ds ii rfl hr fun F1 H1 R1=>let⟨a,e1,fa,vs,ha,rs⟩:=CW F1 H1 R1;⟨a,vs,e1,.inl (pQ.of ha),rs⟩
      · rename_i ns ii
        obtain⟨n,z1,z2⟩:=aG hr
        subst z2
        refine seq _ (E2 E5 (jj hN hv hd hcd) (hb.h B) hs) fun v F1 H1 R1 st1 r1=>?_
        obtain⟨a,e1,ha⟩:=CW F1 H1 R1
        rw[mR r1]
        exact .inl ⟨a,ns.map V.int,ii,.int n,e1,rfl,ha.sq,HW V.int z1,q _ F1 H1 R1 st1 (.int n)⟩
      · rename_i kvs
        exact dict kvs (fun F1 H1 R1=>let⟨a,e1,fa,ws,ha,pr⟩:=CW F1 H1 R1;⟨a,ws,e1,ha,pr⟩) hr
      · rename_i kvs
        exact dict kvs (fun F1 H1 R1=>let⟨a,e1,fa,ws,ha,pr⟩:=CW F1 H1 R1;⟨a,ws,e1,ha,pr⟩) hr
      · rename_i kvs
        exact Ji kvs (fun F1 H1 R1=>let⟨a,e1,fa,ws,ha,pr⟩:=CW F1 H1 R1;⟨a,ws,e1,ha,pr⟩) hr
      · rename_i kvs
        exact Ji kvs (fun F1 H1 R1=>let⟨a,e1,fa,ws,ha,pr⟩:=CW F1 H1 R1;⟨a,ws,e1,ha,pr⟩) hr
      · cases hr
    · cases hg
  · cases hg⟩
noncomputable def y9:U→Option Nat
 | .t (.tup ds)=>some ds.length
 | .t (.lst ds)=>some ds.length
 | .t (.str z)=>if z.length≤100000 then some z.length else none
 | .m (.lst ds)=>some ds.length
 | .b (.lst ds)=>some ds.length
 | .m (.dct ds)=>some ds.length
 | .b (.dct ds)=>some ds.length
 | .s ns=>some ns.length
 | _=>none
noncomputable def jk (i:Nat):GD:=fun S=>match S[i]? with
 | some (some u)=>(y9 u).map fun n=>(.int (n:Nat),S)
 | _=>none
theorem eu {α β:Type}{P:α→β→Prop}:∀{l:List α}{r:List β},Paired P l r→l.length=r.length
 | _,_,.nil=>rfl
 | _,_,.cons _ ps=>congrArg Nat.succ (eu ps)
theorem fG {i:Nat}(hg:Gl X "len") (hm:X.mg "len" =none) (hN:X.N[i]? =some x:=by rfl) (hv:Ez X.env.scope x:=by first | exact Or.inl rfl | exact Or.inr (Or.inl rfl) | exact Or.inr (Or.inr rfl))
  (hd:(x == ("__debug__":Str))=false:=by decide) (hcd:(x == ("__classdict__":Str))=false:=by decide) (he:starEach [.Name x px] X.env=(false,eval (.Name x px) X.env) :: starEach [] X.env:=by rfl) (hpl:(backTo pos (starEach [] X.env)).any (·.1)=false:=by rfl):
  JD X (.Call (.Name "len" p) [.Name x px] [] pos) (jk i):=⟨fun B=>PE.orelse fun σ H Q ⟨S,F,d,S',R,hg',q⟩=>by
 unfold jk at hg'
 split at hg'
 ·rename_i u hS
  obtain⟨n,hn,hg'⟩:=aG hg'
  cases hg'
  obtain⟨v0,hv0,r0⟩:=R.rep i u hS
  have fin:=q (.int n) F H R (Step.refl ..) (.int _)
  have arg:PA X [.Name x px] (IU (JK i) Kl):=pA (jj hN hv hd hcd) yI he
  have list:∀a vs,v0= .ref a→(pQ X.K H a vs∨yG X.K H a vs)→vs.length=n→∃t',PE X (.Call (.Name "len" p) [.Name x px] [] pos) t'∧t' σ H Q:=fun a vs e1 ha hl=>
   ⟨_,nK mO hg hm PySem.boot_len arg (by decide) (by decide) he hpl,v0,hv0,a,vs,by rw[e1],ha,by rw[hl];exact fin⟩
  have dict:∀a ws,v0= .ref a→H a=some (.dK ws)→ws.length=n→∃t',PE X (.Call (.Name "len" p) [.Name x px] [] pos) t'∧t' σ H Q:=fun a vs e1 ha hl=>
   ⟨_,nK Dy hg hm PySem.boot_len arg (by decide) (by decide) he hpl,v0,hv0,a,vs,by rw[e1],ha,by rw[hl];exact fin⟩
  unfold y9 at hn
  split at hn
  ·cases hn;obtain⟨a,vs,e1,fa,ha,rs⟩:=R.sub.lV r0;exact list a vs e1 (.inr (.inl ha)) rs.length
  ·cases hn;obtain⟨a,vs,e1,fa,ha,rs⟩:=R.sub.kT r0;exact list a vs e1 (.inl (.inl ha)) rs.length
  ·rename_i z
   obtain⟨hl,rfl⟩:=cJ hn
   exact⟨_,nK qA hg hm PySem.boot_len arg (by decide) (by decide) he hpl,v0,hv0,z,by rw[CT r0],j4 hl,fin⟩
  ·cases hn;obtain⟨a,e1,fa,vs,ha,rs⟩:=r0;exact list a vs e1 (.inl (pQ.of ha)) rs.length
  ·cases hn;obtain⟨a,e1,fa,vs,ha,rs⟩:=r0;exact list a vs e1 (.inl (pQ.of ha)) rs.length
  ·cases hn;obtain⟨a,e1,fa,ws,ha,pr⟩:=r0;exact dict a ws e1 ha (eu pr)
  ·cases hn;obtain⟨a,e1,fa,ws,ha,pr⟩:=r0;exact dict a ws e1 ha (eu pr)
  ·cases hn;obtain⟨a,e1,ha⟩:=r0;exact list a _ e1 (.inl ha.sq) (by simp)
  ·cases hn
 ·cases hg'⟩
end
end L2
end
section
set_option Elab.async false
set_option linter.all false
set_option maxRecDepth 100000
namespace L2
open PySem PySem.Spec PyProof.Rows
noncomputable def ve (o:MO) (k d:D):Option MO:=match o with
 | .dct kvs=>(keyOf k).bind fun kk=>if kvs.length < 100000 then some (.dct (putD kvs kk d)) else none
 | .yQ kvs=>(BH k).bind fun kk=>if kvs.length < 100000 then some (.yQ (putD kvs kk d)) else none
 | .lst ds=>match k with
  | .int i=>(Bg ds.length i).map fun j=>.lst (ds.set j d)
  | _=>none
noncomputable def BI (i:Nat) (gk gv:GD):GS:=fun S=>(gv S).bind fun p=>match p.2[i]? with
 | some (some _)=>(gk p.2).bind fun r=>(yU r.2 i fun o=>(ve o r.1 p.1).map fun o'=>(.cH,o')).map fun z=>.nx z.2
 | _=>none
theorem cu.set {F:Hp}{v:V}{d:D}(r:Rep F v d):∀{vs:List V}{ds:List D}(j:Nat),cu F vs ds→cu F (vs.set j v) (ds.set j d)
 | _,_,_,.nil=>.nil
 | _,_,0,.cons _ rs=>.cons r rs
 | _,_,j+1,.cons q rs=>.cons q (cu.set r j rs)
section
variable {X:Cx}{a b c e value k:Expr}{es:List Expr}{pos p p2 px pos':Pos}{x y:Str}{g ga gb gc gk gv:GD}{gA:GA}
theorem vf {i:Nat}(hu:X.A.units+1 < cLine) (hk:JD X k gk) (hval:JD X value gv) (hN:X.N[i]? =some x:=by rfl) (hv:Ez X.env.scope x:=by first | exact Or.inl rfl | exact Or.inr (Or.inl rfl) | exact Or.inr (Or.inr rfl))
  (hd:(x == ("__debug__":Str))=false:=by decide) (hcd:(x == ("__classdict__":Str))=false:=by decide)
  (hs:swapsWith value (some (.Subscript (.Name x px) k pos')) pos.line X.env=pure false:=by rfl)
  (hs1:swapsWithSole [.Subscript (.Name x px) k pos'] value pos.line X.env=pure false:=by rfl) (hs2:swappedStores [.Subscript (.Name x px) k pos'] value X.env=pure none:=by rfl)
  (ZJ:(assignEach [.Subscript (.Name x px) k pos'] X.env).map (·.2)=[assign (.Subscript (.Name x px) k pos') X.env]:=by rfl)
  (ZK:∀v,assign (.Subscript (.Name x px) k pos') X.env v=(do
   let ov ←holding [v] (eval (.Name x px) X.env)
   let iv ←holding [v,ov] (eval k X.env)
   standAt pos'
   holding [v,ov,iv] (setItem ov iv v)
   release [v,ov,iv] []):=by intro _;rfl):
  JS X (.Assign [.Subscript (.Name x px) k pos'] value pos) (BI i gk gv):=⟨fun B=>PS.orelse fun D σ H ⟨S,F,o,R,hg,q⟩=>by
 obtain⟨⟨d,S1⟩,h1,hg⟩:=au hg
 dsimp only at hg
 split at hg
 ·rename_i u0 R6
  obtain⟨⟨kd,S2⟩,h2,hg⟩:=au hg
  obtain⟨⟨nd,S3⟩,h3,hg⟩:=aG hg
  subst hg
  obtain⟨u,u',mo,mo',hS,Je,hio,hf,KQ,rfl⟩:=rY h3
  obtain⟨mo2,hw,hf2⟩:=aG hf
  cases hf2
  have hv0:∀F1 H1,Rel X.K B S1 σ F1 H1→∃v,σ[i]? =some (some v):=fun F1 H1 R1=>let⟨v,k1,_⟩:=R1.rep i u0 R6;⟨v,k1⟩
  cases mo with
  | dct kvs=>
   obtain⟨kk,e1,hw⟩:=au hw
   obtain⟨hl,rfl⟩:=cJ hw
   refine⟨_,CH hu (jj hN hv hd hcd) (hk.h B) (hval.h B) hs,S,F,d,S1,R,h1,fun v F1 H1 R1 st1 r1=>?_⟩
   obtain⟨v0,hv0⟩:=hv0 F1 H1 R1
   refine⟨v0,hv0,S1,F1,kd,S2,R1,h2,fun y F2 H2 R2 st2 r2=>?_⟩
   obtain⟨v',k1,k2⟩:=R2.rep i u hS
   rw[hv0] at k1
   cases k1
   obtain⟨a,o2,rfl,fa,eo,k3⟩:=k2.d9 Je
   rw[hio] at eo
   cases eo
   obtain⟨ws,ha,pr⟩:=k3
   rw[mj r2 e1]
   refine⟨a,_,rfl,zS.k ha (by rw[eu pr];exact Nat.lt_of_lt_of_le hl (by decide)),?_⟩
   obtain⟨R3,st3⟩:=R2.write (ho:=.dK (putK ws kk v)) hS KQ hv0 ⟨_,bY,vd pr (r1.le st2.ext.le)⟩
   exact q σ F2 _ R3 fun b o z=>st2.ext.le b o (st1.ext.le b o z)
  | yQ kvs=>
   obtain⟨kk,e1,hw⟩:=au hw
   obtain⟨hl,rfl⟩:=cJ hw
   refine⟨_,CH hu (jj hN hv hd hcd) (hk.h B) (hval.h B) hs,S,F,d,S1,R,h1,fun v F1 H1 R1 st1 r1=>?_⟩
   obtain⟨v0,hv0⟩:=hv0 F1 H1 R1
   refine⟨v0,hv0,S1,F1,kd,S2,R1,h2,fun y F2 H2 R2 st2 r2=>?_⟩
   obtain⟨v',k1,k2⟩:=R2.rep i u hS
   rw[hv0] at k1
   cases k1
   obtain⟨a,o2,rfl,fa,eo,k3⟩:=k2.d9 Je
   rw[hio] at eo
   cases eo
   obtain⟨ws,ha,pr⟩:=k3
   obtain⟨b',rfl,hb'⟩:=qM R2.sub r2 e1
   refine⟨a,_,rfl,zS.t ha hb' (by rw[eu pr];exact Nat.lt_of_lt_of_le hl (by decide)),?_⟩
   obtain⟨R3,st3⟩:=R2.write (ho:=.dT (putK ws kk v)) hS KQ hv0 ⟨_,bY,vd pr (r1.le st2.ext.le)⟩
   exact q σ F2 _ R3 fun b o z=>st2.ext.le b o (st1.ext.le b o z)
  | lst ds=>
   unfold ve at hw
   dsimp only at hw
   split at hw
   ·rename_i ii
    obtain⟨j,e1,rfl⟩:=aG hw
    refine⟨_,EH (hval.h B) (J1 (jj hN hv hd hcd) (hk.h B) set_list ZK) hs1 hs2 ZJ,S,F,d,S1,R,h1,fun v F1 H1 R1 st1 r1=>?_⟩
    obtain⟨v0,hv0⟩:=hv0 F1 H1 R1
    refine⟨v0,hv0,S1,F1,_,S2,R1,h2,fun y F2 H2 R2 st2 r2=>?_⟩
    obtain⟨v',k1,k2⟩:=R2.rep i u hS
    rw[hv0] at k1
    cases k1
    obtain⟨a,o2,rfl,fa,eo,k3⟩:=k2.d9 Je
    rw[hio] at eo
    cases eo
    obtain⟨vs,ha,rs⟩:=k3
    rw[mR r2]
    refine⟨a,vs,_,j,rfl,rfl,ha,by rw[rs.length];exact e1,?_⟩
    obtain⟨R3,st3⟩:=R2.write (ho:=.lst (vs.set j v)) hS KQ hv0 ⟨_,bY,rs.set (r1.le st2.ext.le) j⟩
    exact q σ F2 _ R3 fun b o z=>st2.ext.le b o (st1.ext.le b o z)
   ·cases hw
 ·cases hg⟩
theorem Rel.R7 {K:PySem.W.Frag}{B:Base}{S:SS}{σ:St}{F H:Hp}{a:Addr}{o o':HO}(R:Rel K B S σ F H) (hn:¬d9 S σ a) (hf:F a=none) (hB:B.H a=none) (hh:H a=some o) (hz:∀ob u,o≠.j3 ob u):Rel K B S σ F (upd H a o'):=by
 have LR:∀b ob w,H b=some (.j3 ob w)→upd H a o' b=some (.j3 ob w):=fun b ob w z=>by
  rw[bh (fun e=>by rw[e,hh] at z;cases z;exact hz _ _ rfl)];exact z
 refine⟨fun b u z=>?_,R.len,fun j w z=>?_,R.CP,R.own,R.bor,R.par,⟨R.ext.le,fun b u z n=>?_,R.ext.jV,fun b u z=>?_,fun b ob w z=>LR b ob w (R.ext.j3 b ob w z)⟩⟩
 ·have hb:b≠a:=fun e=>by rw[e,hf] at z;cases z
  rw[bh hb];exact R.sub b u z
 ·obtain⟨v,h1,h2⟩:=R.rep j w z
  refine⟨v,h1,h2.le (fun _ _ z=>z) LR fun c hm hc=>?_⟩
  have hca:c≠a:=fun e=>hn ⟨j,w,z,hm,by rw[h1,hc,e]⟩
  obtain⟨c',_,e,f,_⟩:=h2.d9 hm
  rw[hc] at e
  cases e
  exact⟨fun o z=>by rw[bh hca];exact z,f⟩
 ·rw[bh (fun e=>by rw[e,hB] at z;cases z)];exact R.ext.keep b u z n
 ·by_cases hb:b=a
  ·exact⟨o',by rw[hb,bY]⟩
  ·rw[bh hb];exact R.ext.there b u z
noncomputable def mV:List (Str×GD)→SS→Option (List (Key×D)×SS)
 | [],S=>some ([],S)
 | (z,g) :: r,S=>(g S).bind fun p=>(mV r p.2).map fun q=>((.inr z,p.1) :: q.1,q.2)
noncomputable def dI (kvs more:List (Key×D)):List (Key×D):=more.foldl (fun acc kv=>putD acc kv.1 kv.2) kvs
theorem p8 {F:Hp}:∀{more:List (Key×V)}{Jj:List (Key×D)}{ws:List (Key×V)}{kvs:List (Key×D)},Paired (iO F) more Jj→Paired (iO F) ws kvs→Paired (iO F) (kr ws more) (dI kvs Jj)
 | _,_,_,_,.nil,h=>h
 | _,_,ws,kvs,@Paired.cons _ _ _ p q _ _ r rs,h=>by
  have e:=vd (k:=q.1) h r.2
  show Paired (iO F) (kr (putK ws p.1 p.2) _) (dI (putD kvs q.1 q.2) _)
  rw[r.1]
  exact p8 rs e
noncomputable def qO (wL:List (Str×GD)):GE:=fun S=>(mV wL S).map fun p=>(.m (.dct (dI [] p.1)),p.2)
structure Pq (X:Cx) (pos:Pos) (keys:List (Option Expr)) (values:List Expr) (wL:List (Str×GD)):Prop where
 h:∀B,MR X pos keys values (wL.map fun p=>(tC (.str p.1),tD X.K B p.2))
theorem qP:Pq X pos [] [] []:=⟨fun B=>Hr⟩
theorem dD {z:Str}{j:Nat}{pk:Pos}{v:Expr}{ks:List (Option Expr)}{vs:List Expr}{wL:List (Str×GD)}(hv:JD X v g) (hr:Pq X pos ks vs wL):Pq X pos (some (.Constant (.str z) j pk) :: ks) (v :: vs) ((z,g) :: wL):=⟨fun B=>EV EC (hv.h B) (hr.h B)⟩
theorem Ag {B:Base}{σ:St}:∀{wL:List (Str×GD)}{S0 S:SS}{F0 H0 F H:Hp}{kvs:List (Key×D)}{S':SS}{Q:List (V×V)→Hp→Prop},Rel X.K B S σ F H→Step S0 S σ F0 H0 F H→mV wL S=some (kvs,S')→
  (∀(ws:List (Key×V)) (F' H':Hp),Rel X.K B S' σ F' H'→Step S0 S' σ F0 H0 F' H'→Paired (iO F') ws kvs→Q (ws.map fun kv=>(kV kv.1,kv.2)) H')→uQ (wL.map fun p=>(tC (.str p.1),tD X.K B p.2)) σ H Q
 | [],S0,S,F0,H0,F,H,kvs,S',Q,R,st,h,q=>by cases h;exact q [] F H R st .nil
 | (z,g) :: r,S0,S,F0,H0,F,H,kvs,S',Q,R,st,h,q=>by
  obtain⟨⟨d,S1⟩,h1,h⟩:=au h
  obtain⟨⟨ZL,S2⟩,h2,h⟩:=aG h
  cases h
  show tC (.str z) σ H fun x H1=>tD X.K B g σ H1 fun y H2=>uQ _ σ H2 fun ps H3=>Q ((x,y) :: ps) H3
  refine⟨S,F,d,S1,R,h1,fun v F1 H1 R1 st1 r1=>?_⟩
  refine Ag (S0:=S1) (F0:=F1) (H0:=H1) R1 (Step.refl ..) h2 fun ws F2 H2 R2 st2 pr=>?_
  exact q ((.inr z,v) :: ws) F2 H2 R2 ((st.trans st1).trans st2) (.cons ⟨rfl,r1.le st2.ext.le⟩ pr)
theorem qQ {keys : List (Option Expr)} {values : List Expr} {wL : List (Str × GD)} (h : Pq X pos keys values wL) (hall : keys.all (·.isSome) = true := by rfl) (hl : keys.length = values.length := by rfl) (h0 : keys ≠ [] := by decide) (Rm : keys.length ≤ 15 := by decide) (hk : wL.length ≤ 15 := by decide) :
    JE X (.Dict keys values pos) (qO wL):=⟨fun B=>(Hs (h.h B) hall hl h0 Rm).imp fun σ H Q ⟨S,F,u,S',R,hg,q⟩=>by
  obtain⟨⟨kvs,S1⟩,h1,hg⟩:=aG hg
  cases hg
  intro p hp
  have n:=jg.obj (F:=F) hp (.dK [])
  have hn:¬d9 S σ p:=fun m=>by obtain⟨o,ho⟩:=R.has m;rw[hp] at ho;cases ho
  refine Ag (S0:=S) (F0:=F) (H0:=upd H p (.dK [])) (R.new n (R.sub.same n.same)) (Step.refl ..) h1 fun ws F1 H1 R1 st1 pr=>?_
  have hp1:H1 p=some (.dK []):=st1.ext.keep p _ bY hn
  have hf1:F1 p=none:=st1.ext.jV p _ bY hn (R.sub.fresh hp)
  have hn1:¬d9 S1 σ p:=fun m=>hn (st1.mu p m)
  have hB:B.H p=none:=none_of R.ext.there hp
  have len:ws.length≤15:=by
    rw[eu pr]
    have:∀{wL:List (Str×GD)}{S:SS}{kvs:List (Key×D)}{S':SS},mV wL S=some (kvs,S')→kvs.length=wL.length:=fun {wL}=>by
      induction wL with
      | nil=>intro S kvs S' h;cases h;rfl
      | cons p r ih=>
        intro S kvs S' h
        obtain⟨⟨d,T1⟩,k1,h⟩:=au (show(p.2 S).bind _=_ from h)
        obtain⟨⟨ZM,T2⟩,k2,h⟩:=aG h
        cases h
        show ZM.length+1=r.length+1
        rw[ih k2]
    rw[this h1]
    exact hk
  refine⟨hp1,ws,rfl,len,?_⟩
  have R2:=R1.R7 (o':=.dK (kr [] ws)) hn1 hf1 hB hp1 (fun _ _ z=>by cases z)
  refine q (.ref p) F1 _ R2 ⟨⟨st1.ext.le,fun b o z m=>?_,fun b o z m f=>?_,fun b o z=>?_,fun b ob w z=>?_⟩,st1.mu,st1.slots⟩ ⟨p,rfl,hp,hf1,⟨_,bY,p8 pr .nil⟩,hn1,hB⟩
  · have hb:b≠p:=cD z hp
    rw[bh hb]
    exact st1.ext.keep b o (by rw[bh hb];exact z) m
  · have hb:b≠p:=cD z hp
    exact st1.ext.jV b o (by rw[bh hb];exact z) m f
  · have hb:b≠p:=cD z hp
    rw[bh hb]
    exact st1.ext.there b o (by rw[bh hb];exact z)
  · have hb:b≠p:=cD z hp
    rw[bh hb]
    exact st1.ext.j3 b ob w (by rw[bh hb];exact z)⟩
end
end L2
end
section
set_option Elab.async false
set_option linter.all false
set_option maxRecDepth 100000
namespace L2
open PySem PySem.Spec PyProof.Rows
noncomputable def mq (g:Option GD) (S:SS):Option (Option Int×SS):=match g with
 | none=>some (none,S)
 | some g=>(g S).bind fun p=>match p.1 with
  | .int i=>some (some i,p.2)
  | _=>none
noncomputable def ZN (K:PySem.W.Frag) (B:Base) (g:Option GD):TO:=fun σ H Q=>∃S F o S',Rel K B S σ F H∧mq g S=some (o,S')∧∀F' H',Rel K B S' σ F' H'→Step S S' σ F H F' H'→Q o H'
structure JO (X:Cx) (e:Option Expr) (g:Option GD):Prop where
 h:∀B,PO X e (ZN X.K B g)
theorem PO.imp {X:Cx}{e:Option Expr}{t t':TO}(h:PO X e t) (k:∀σ H Q,t' σ H Q→t σ H Q):PO X e t':=fun pins s σ H Q I q=>h pins s σ H Q I (k σ H Q q)
theorem j7 {X:Cx}:JO X none none:=⟨fun B=>Hv.imp fun σ H Q ⟨S,F,o,S',R,h,q⟩=>by cases h;exact q F H R (Step.refl ..)⟩
theorem j8 {X:Cx}{e:Expr}{g:GD}(h:JD X e g):JO X (some e) (some g):=⟨fun B=>(Hw (h.h B)).imp fun σ H Q ⟨S,F,o,S',R,h,q⟩=>by
 obtain⟨⟨d,S1⟩,h1,h⟩:=au (show(g S).bind _=_ from h)
 cases d <;> try (cases h)
 exact⟨S,F,_,_,R,h1,fun v F1 H1 R1 st1 r1=>⟨_,mR r1,q F1 H1 R1 st1⟩⟩⟩
noncomputable def HX (d:D) (lo hi:Option Int):Option U:=match d with
 | .tup ds=>some (.t (.tup (cutD ds lo hi)))
 | .lst ds=>some (.m (.lst (cutD ds lo hi)))
 | .str z=>if z.length≤100000 then some (.t (.str (Txt.slice z lo hi))) else none
 | _=>none
theorem cu.cut {F:Hp}{vs:List V}{ds:List D}(rs:cu F vs ds) (lo hi:Option Int):cu F (wC vs lo hi) (cutD ds lo hi):=by
 unfold wC cutD
 rw[rs.length]
 exact(rs.drop _).take _
noncomputable def R8:V→Option Int→Option Int→Hp→VK→Prop:=fun x lo hi H Q=>∃F d u,Sub F H∧Rep F x d∧HX d lo hi=some u∧∀v F' H',jg F H F' H'→Sub F' H'→DB H F' H' v u→Q v H'
theorem R9 {X : Cx} : Hx X R8 := by
  intro pins s σ H x v vl vu lo hi sl Q I rx hs pl pu ⟨F,d,u,sb,r,hf,q⟩
  cases d with
  | tup ds =>
    cases hf
    have r0:=r
    obtain⟨a,xs,rfl,fa,ha,rs⟩:=sb.lV r
    have hl:=rs.length
    by_cases hw:HT.gH xs.length 0 lo=0∧HT.gH xs.length xs.length hi=xs.length
    · cases rx
      obtain⟨its,rv,ht,hz⟩:=I.tuple (.inl ha)
      have hlen:its.toArray.size=xs.length:=by rw[List.size_toArray];exact rv.length.symm
      refine⟨"tuple",_,PyProof.Rows.slot_tuple_getitem.lookup,ht.typeIs,?_⟩
      refine HT.DA ht hs pl pu (by rw[hlen];exact hw) ⟨.ref a,H,I,rfl,q _ F H (jg.refl ..) sb ?_⟩
      have e:cutD ds lo hi=ds:=by
        unfold cutD
        rw[←hl,hw.1,hw.2,List.drop_zero,Nat.sub_zero,List.take_of_length_le (by rw[hl];exact Nat.le_refl _)]
      show Rep F _ (.tup (cutD ds lo hi))
      rw[e]
      exact r0
    · exact Ks pins s σ H (.ref a) v vl vu lo hi sl Q I rx hs pl pu ⟨a,xs,rfl,.inl ha,hw,fun p hp=>q _ _ _ (jg.root sb hp _) (sb.BD hp) (.tup bY ((rs.cut lo hi).le (rT (sb.fresh hp))))⟩
  | lst ds=>
    cases hf
    obtain⟨a,xs,rfl,fa,ha,rs⟩:=sb.kT r
    exact CN pins s σ H (.ref a) v vl vu lo hi sl Q I rx hs pl pu ⟨a,xs,rfl,.inl ha,fun p hp=>q _ F _ (jg.obj hp _) (sb.same (jg.obj (F:=F) hp _).same) ⟨p,rfl,hp,sb.fresh hp,_,bY,rs.cut lo hi⟩⟩
  | str z=>
    obtain⟨hl,rfl⟩:=cJ hf
    cases r
    exact KC pins s σ H _ v vl vu lo hi sl Q I rx hs pl pu ⟨z,rfl,j4 hl,fun _=>q _ F H (jg.refl ..) sb (.str _)⟩
  | cH=>cases hf
  | bl b=>cases hf
  | int b=>cases hf
noncomputable def zK (g:GD) (lo hi:Option GD):GE:=fun S=>(g S).bind fun p=>(mq lo p.2).bind fun l=>(mq hi l.2).bind fun h=>(HX p.1 l.1 h.1).map fun u=>(u,h.2)
section
variable {X:Cx}{a b c e:Expr}{lo hi:Option Expr}{pos p p2 px:Pos}{x y:Str}{g ga:GD}{gA:GA}{gl gh:Option GD}
theorem jN (he:JD X e g) (hl:JO X lo gl) (hh:JO X hi gh):JE X (.Subscript e (.Slice lo hi none p2) pos) (zK g gl gh):=⟨fun B=>(zU R9 (he.h B) (hl.h B) (hh.h B)).imp fun σ H Q ⟨S,F,u,S',R,hg,q⟩=>by
 obtain⟨⟨d,S1⟩,h1,hg⟩:=au hg
 obtain⟨⟨l,S2⟩,h2,hg⟩:=au hg
 obtain⟨⟨h,S3⟩,h3,hg⟩:=au hg
 obtain⟨u',h4,hg⟩:=aG hg
 cases hg
 exact⟨S,F,d,S1,R,h1,fun v F1 H1 R1 st1 r1=>⟨S1,F1,l,S2,R1,h2,fun F2 H2 R2 st2=>⟨S2,F2,h,_,R2,h3,fun F3 H3 R3 st3=>⟨F3,d,_,R3.sub,r1.le (fun b o z=>st3.ext.le b o (st2.ext.le b o z)),h4,fun v F4 H4 n s4 r4=>q v F4 H4 (R3.new n s4) (((st1.trans st2).trans st3).trans n.step) (r4.Fl R3 ((st1.trans st2).trans st3))⟩⟩⟩⟩⟩
noncomputable def vg (ns:List Int) (lo hi:Option Int):List Int:=(ns.drop (HT.gH ns.length 0 lo)).take (HT.gH ns.length ns.length hi - HT.gH ns.length 0 lo)
noncomputable def DI (i:Nat) (lo hi:Option GD):GE:=fun S=>match S[i]? with
 | some (some (.s ns))=>(mq lo S).bind fun l=>(mq hi l.2).map fun h=>(.m (.lst ((vg ns l.1 h.1).map D.int)),h.2)
 | _=>none
theorem xS {F:Hp}:∀ns:List Int,cu F (ns.map V.int) (ns.map D.int)
 | []=>.nil
 | n :: ns=>.cons (.int n) (xS ns)
theorem DJ (ns:List Int) (lo hi:Option Int):wC (ns.map V.int) lo hi=(vg ns lo hi).map V.int:=by
 unfold wC vg
 rw[List.length_map,List.map_take,List.map_drop]
theorem DK {i:Nat}(hl:JO X lo gl) (hh:JO X hi gh) (hN:X.N[i]? =some x:=by rfl) (hv:Ez X.env.scope x:=by first | exact Or.inl rfl | exact Or.inr (Or.inl rfl) | exact Or.inr (Or.inr rfl))
  (hd:(x == ("__debug__":Str))=false:=by decide) (hcd:(x == ("__classdict__":Str))=false:=by decide):JE X (.Subscript (.Name x px) (.Slice lo hi none p2) pos) (DI i gl gh):=⟨fun B=>(zU CN (jj hN hv hd hcd) (hl.h B) (hh.h B)).imp fun σ H Q ⟨S,F,u,S',R,hg,q⟩=>by
 unfold DI at hg
 split at hg
 ·rename_i ns hS
  obtain⟨⟨l,S1⟩,h1,hg⟩:=au hg
  obtain⟨⟨h,S2⟩,h2,hg⟩:=aG hg
  cases hg
  obtain⟨v0,hv0,a,rfl,sc⟩:=R.rep i _ hS
  refine⟨_,hv0,S,F,l,S1,R,h1,fun F1 H1 R1 st1=>⟨S1,F1,h,_,R1,h2,fun F2 H2 R2 st2=>?_⟩⟩
  have ZO:=(sc.le st1.ext.j3).le st2.ext.j3
  refine⟨a,_,rfl,ZO.sq,fun p hp=>?_⟩
  rw[DJ]
  have n:=jg.obj (F:=F2) hp (.lst ((vg ns l h).map V.int))
  have st:=st1.trans st2
  exact q _ F2 _ (R2.new n (R2.sub.same n.same)) (st.trans n.step) (DB.Fl (u:=.m (.lst ((vg ns l h).map D.int))) R2 st ⟨p,rfl,hp,R2.sub.fresh hp,_,bY,xS _⟩)
 ·cases hg⟩
noncomputable def Pr (d:D):Prop:=(toPy d).showable=true∧(toPy d).depth≤20∧(toPy d).shown.length≤sizeLine
noncomputable instance (d:D):Decidable (Pr d):=by unfold Pr;infer_instance
noncomputable def Nn:List D→Option U
 | [d]=>if Pr d then some (.t (.str (toPy d).shown)) else none
 | _=>none
theorem HY {z:Str}{t:Tok}(hg:Gl X x) (hm:X.mg x=some (.str z t)) (hd:(x == ("__debug__":Str))=false:=by decide):JD X (.Name x pos) (eC (.str z)):=DC rfl (qw (v:=.str z) hg hm ⟨t,rfl⟩ hd)
theorem pG {i:Int}{t:Tok}(hg:Gl X x) (hm:X.mg x=some (.int i t)) (hd:(x == ("__debug__":Str))=false:=by decide):JD X (.Name x pos) (eC (.int i)):=DC rfl (qw (v:=.int i) hg hm ⟨t,rfl⟩ hd)
end
end L2
end
section
set_option Elab.async false
set_option linter.all false
set_option maxRecDepth 100000
namespace L2
open PySem PySem.Spec PyProof.Rows
end L2
end
section
set_option Elab.async false
set_option linter.all false
set_option maxRecDepth 100000
namespace L2
open PySem PySem.Spec PyProof.Rows
section
variable {X:Cx}{a b c e:Expr}{es:List Expr}{pos p p2 px:Pos}{x y:Str}{f:FM}{fa:Addr}{fd:FuncData}{ps:List Str}{k n:Nat}
theorem FO (F:bK X.prog X.w X.K X.mg X.base eG k fa fd ps (spT X.K 0 f)) (hr:jW k X.A) (hg:Gl X x) (hm:X.mg x=some (.ref fa)) (hk:PySem.W.keepIn X.K (.ref fa)=true) (hb:Binds X.K fd ps [])
  (hdb:(x == ("__debug__":Str))=false:=by decide):JE X (.Call (.Name x p) [] [] pos) (aP f bN):=⟨fun B=>(ET F hr hg hm hk hb .nil IZ hdb).imp fun σ H Q ⟨S,F0,u,S',R,hg,q⟩=>by
 obtain⟨⟨us,S1⟩,h1,hg⟩:=au hg
 cases h1
 have hg:=(rW hg).2
 obtain⟨ws,h2,hg⟩:=au hg
 cases h2
 obtain⟨⟨r,outs⟩,h3,hg⟩:=au hg
 obtain⟨S2,h4,hg⟩:=aG hg
 cases hg
 have ZP:Step S S σ F0 H F0 H:=Step.refl ..
 refine⟨rfl,F0,[],r,outs,R.sub,.nil,List.nodup_nil,h3,fun v F2 H2 po rn=>?_⟩
 obtain⟨R2,st2,mu⟩:=p6 (vs:=[]) (us:=[]) (ws:=[]) R ZP .nil rfl h4 List.nodup_nil po
 refine q v F2 H2 R2 st2 ?_
 cases r with
 | t d=>exact rn
 | b o=>cases rn
 | v i=>cases rn
 | s i=>cases rn
 | m o=>
  obtain⟨a,e,h0,f,h⟩:=rn
  refine⟨a,e,h0,f,h,fun m=>?_,none_of R.ext.there h0⟩
  obtain⟨o',ho⟩:=R.has (mu a m)
  rw[h0] at ho
  cases ho⟩
noncomputable def ZQ:List D→Option U
 | [.bl a,.bl b]=>some (.t (.bl (a == b)))
 | _=>none
noncomputable def qR:List D→Option U
 | [.bl a,.bl b]=>some (.t (.bl (a != b)))
 | _=>none
theorem DL:wB X (compareOp .IsNot) qR:=by
 intro pins s σ H x y v u Q I rx ry ⟨F,ds,w,sb,rs,hw,q⟩
 obtain⟨d,e,rfl,r1,r2⟩:=tR rs
 cases d <;> cases e <;> try (simp[qR] at hw;done)
 cases hw
 rw[jX r1] at rx
 rw[jX r2] at ry
 cases rx
 cases ry
 exact isnot_bool ⟨.bl _,H,I,rfl,q _ F H (jg.refl ..) sb (.bl _)⟩
end
end L2
end
section
set_option Elab.async false
set_option linter.all false
set_option maxRecDepth 100000
namespace L2
open PySem PySem.Spec PyProof.Rows
section
variable {X:Cx}
end
end L2
end
section
set_option Elab.async false
set_option linter.all false
set_option maxRecDepth 100000
namespace L2
open PySem PySem.Spec PyProof.Rows
section
variable {prog:Program}{w:World}{A:Around}{R:Result→Shared→Prop}{I:Addr}{fp wr:List Addr}{G:Array GenState→Array GenState→Prop}{n:Nat}{P:Nat→Value→Prop}{St:Nat→Shared→Prop}
end
section
variable {prog:Program}{w:World}{A:Around}{E:Value→Shared→Prop}{s:Shared}
end
end L2
end
section
set_option Elab.async false
set_option linter.all false
set_option maxRecDepth 100000
namespace L2
open PySem PySem.Spec PyProof.Rows
section
variable {X:Cx}{a:Expr}{pos p p1 p2:Pos}{ga:GD}
end
end L2
end
section
set_option Elab.async false
set_option linter.all false
set_option maxRecDepth 100000
namespace L2
open PySem PySem.Spec PyProof.Rows
noncomputable def Ah:U→Option (List D)
 | .t (.lst ds)=>some ds
 | .m (.lst ds)=>some ds
 | .b (.lst ds)=>some ds
 | _=>none
noncomputable def Sa (n:Bool) (i:Nat) (g:GD):GD:=fun S=>(g S).bind fun p=>match p.2[i]? with
 | some (some u)=>(Ah u).bind fun ds=>if bF ds≤40 then some (.bl (n != inD p.1 ds),p.2) else none
 | _=>none
section
variable {X:Cx}{a:Expr}{x:Str}{px pos:Pos}{ga:GD}
end
end L2
end
section
set_option Elab.async false
set_option linter.all false
set_option maxRecDepth 100000
namespace L2
open PySem PySem.Spec PyProof.Rows
noncomputable def look:U→Option D
 | .t d=>some d
 | .m (.lst ds)=>some (.lst ds)
 | .b (.lst ds)=>some (.lst ds)
 | _=>none
noncomputable def Np (f:List D→Option U) (i:Nat):GD:=fun S=>match S[i]? with
 | some (some u)=>(look u).bind fun d=>match f [d] with
  | some (.t e)=>if tN e=true then some (e,S) else none
  | _=>none
 | _=>none
noncomputable def Sd (Ts:List String) (i:Nat):GD:=fun S=>match S[i]? with
 | some (some u)=>(look u).bind fun d=>(bJ Ts d).map fun b=>(.bl b,S)
 | _=>none
section
variable {X:Cx}{x y:Str}{p px py pos:Pos}{f:List D→Option U}
end
section
variable (S:SS) (i:Nat) (g:GD)
@[simp] theorem Pu (f:List D→Option U):Np f i S=match S[i]? with
 | some (some u)=>(look u).bind fun d=>match f [d] with
  | some (.t e)=>if tN e=true then some (e,S) else none
  | _=>none
 | _=>none:=rfl
@[simp] theorem Se (Ts:List String):Sd Ts i S=match S[i]? with | some (some u)=>(look u).bind fun d=>(bJ Ts d).map fun b=>(.bl b,S) | _=>none:=rfl
@[simp] theorem Sg (n:Bool):Sa n i g S=(g S).bind fun p=>match p.2[i]? with | some (some u)=>(Ah u).bind fun ds=>if bF ds≤40 then some (.bl (n != inD p.1 ds),p.2) else none | _=>none:=rfl
@[simp] theorem Nq (d:D):look (.t d)=some d:=rfl
@[simp] theorem Nr (ds:List D):look (.m (.lst ds))=some (.lst ds):=rfl
@[simp] theorem Nt (ds:List D):look (.b (.lst ds))=some (.lst ds):=rfl
@[simp] theorem LS (ds:List D):Ah (.t (.lst ds))=some ds:=rfl
@[simp] theorem LU (ds:List D):Ah (.m (.lst ds))=some ds:=rfl
@[simp] theorem LV (ds:List D):Ah (.b (.lst ds))=some ds:=rfl
@[simp] theorem LW (ds:List D):Aa [] (.lst ds)=some (.cH,.lst ds.reverse):=rfl
end
end L2
end
section
set_option Elab.async false
set_option linter.all false
set_option maxRecDepth 100000
namespace L2
open PySem PySem.Spec PyProof.Rows
section
variable {X:Cx}{a b c e:Expr}{es:List Expr}{pos p p2 px:Pos}{x y:Str}
theorem cu.rep {F:Hp}{vs:List V}{ds:List D}(r:cu F vs ds):∀k:Nat,cu F (List.replicate k vs).flatten (List.replicate k ds).flatten
 | 0=>.nil
 | k+1=>by rw[List.replicate_succ,List.replicate_succ,List.flatten_cons,List.flatten_cons];exact r.append (cu.rep r k)
noncomputable def Sh:List D→Option U
 | [.lst ds,.int k]=>if 0≤k∧k.toNat≤100000∧ds.length * k.toNat≤100000 then some (.m (.lst (List.replicate k.toNat ds).flatten)) else none
 | _=>none
noncomputable def Si:List D→Option U
 | [.int i]=>some (.t (.int i))
 | [.bl k]=>some (.t (.int (if k then 1 else 0)))
 | _=>none
noncomputable def Ai:V→List V→Hp→VK→Prop:=fun x vs H Q=>∃l b xs zs,x= .ref l∧vs=[.ref b]∧H l=some (.lst xs)∧Rd H b (.lst zs)∧xs.length+zs.length≤sizeLine∧Q .cH (upd H l (.lst (xs++zs)))
theorem BJ:Ku X "list.extend" Ai:=by
 intro pins s σ H x vs v us Q I rx rv h
 obtain⟨l,b,xs,zs,rfl,rfl,hH,hB,hz,q⟩:=h
 cases rx
 obtain⟨u,rfl,ru⟩:=rv.one
 cases ru
 obtain⟨z,its,n,r,hl,e⟩:=I.E6 hH
 obtain⟨z2,its2,n2,r2,hl2,e2⟩:=hB.E6 I
 have hsz:its.toArray.size+its2.toArray.size≤sizeLine:=by rw[List.size_toArray,List.size_toArray];omega
 have FP:¬(!its.toArray.isEmpty && Builtin.List.listTooLong (its.toArray.size+its2.toArray.size))=true:=by
  rw[E7 hsz,Bool.and_false]
  exact Bool.false_ne_true
 refine call_meets F.slot_list_extend ⟨_,e,rfl⟩ F.entry_list_extend (F.args_list_extend_2 _ _)
  (AutoSeq1.list_extend_list_list_0 l its.toArray n b its2.toArray n2 FP (by rw[List.size_toArray];omega) (by omega)) ⟨e,e2,?_⟩
 refine⟨.cH,_,I.Rr (its':=its++its2) hH e (by simp) (r.append r2) ?_,rfl,q⟩
 rw[List.length_append]
 omega
noncomputable def mW:List D→MO→Option (D×MO)
 | [.lst es],.lst ds=>if ds.length+es.length≤100000 then some (.cH,.lst (ds++es)) else none
 | _,_=>none
theorem DM:XN Ai mW:=by
 intro F H a vs xs ds args res o' sb hH fa rs rx hw Q q
 unfold mW at hw
 split at hw
 ·rename_i es ds' e2
  cases e2
  obtain⟨hl,hw⟩:=cJ hw
  cases hw
  cases rx with
  | cons r rr=>
   cases rr
   obtain⟨b,zs,rfl,fb,hb,HK⟩:=sb.kT r
   exact⟨a,b,vs,zs,rfl,rfl,hH,hb,by rw[rs.length,HK.length];exact Nat.le_trans hl (by decide),q .cH _ .cH ⟨_,bY,rs.append HK⟩⟩
 ·cases hw
theorem DN (a:List D) (o:MO) (h:fM o=false):mW a o=none:=by
 cases o with
 | lst ds=>cases h
 | dct k=>unfold mW;split <;> first | rfl | (rename_i e;cases e)
 | yQ k=>unfold mW;split <;> first | rfl | (rename_i e;cases e)
noncomputable def Jk:D→Bool
 | .cH=>true
 | _=>false
noncomputable def Sj:List D→Option U
 | [d,.cH]=>some (.t (.bl (Jk d)))
 | _=>none
noncomputable def Sk (f:Int→Int→Int) (i:Nat) (g:GD):GS:=fun S=>match S[i]? with
 | some (some (.t (.int n)))=>(g S).bind fun p=>match p.1 with
  | .int m=>(pM i (.t (.int (f n m))) p.2).map .nx
  | _=>none
 | _=>none
theorem vh {x : Str} {fL : List Str} {cap : List Nat} {scope : Scope} {cl : List (Str × Addr)} (clos : closureFor scope X.env = pure cl) (yO : ∀ z ∈ scope.names, z.2 ≠ .cell) (kind : scope.kind = .function) (names : ∀ z ∈ scope.names, z.2 = .local → scope.names.lookup z.1 = some .local)
    (loc:scope.names.lookup x=some .local) (hc:cl.map (fun p=>X.env.cells.lookup p.1)=cl.map (fun p=>some p.2)) (only:∀z∈scope.names,z.2= .free→z.1∈fL) (hcl:cl.map (·.1)=fL.reverse∨cl.map (·.1)=fL) (nd:(x :: fL).Nodup)
    (slot:cap.map (fun i=>X.N[i]?)=fL.map some) (vis:fL.map (fun n=>X.env.scope.names.lookup n)=fL.map fun _=>some .cell) (rel:fL.map (fun n=>(relabel scope X.env).names.lookup n)=fL.map fun _=>some .cell):
    pB X x fL cap scope cl:=by
  have all:∀{α β:Type}{f g:α→β}{l:List α},l.map f=l.map g→∀a∈l,f a=g a:=fun {α β f g l} h=>by
    induction l with
    | nil=>intro a m;cases m
    | cons b r ih=>
      intro a m
      rw[List.map_cons,List.map_cons] at h
      injection h with h1 h2
      rcases List.mem_cons.mp m with z | z
      · rw[z];exact h1
      · exact ih h2 a z
  have Nu:∀n,n∈fL→∃c,cl.lookup n=some c:=fun n hn=>lookup_some (hcl.elim (fun z=>by rw[z];exact List.mem_reverse.mpr hn) fun z=>by rw[z];exact hn)
  have len:cap.length=fL.length:=by have:=congrArg List.length slot;simpa using this
  refine⟨clos,yO,kind,names,loc,fun n c h=>all hc (n,c) (PySem.mem_of_lookup h),fun n h=>?_,nd,len,fun j n h=>?_,fun n h=>⟨.inl (all rel n h),Nu n h,by rw[all vis n h];decide⟩⟩
  · refine Nu n ?_
    have go:∀k,(k=NameKind.cell∨k=NameKind.free)→(relabel scope X.env).names.lookup n=some k→n∈fL:=fun k hk e=>by
      have m:=PySem.mem_of_lookup e
      unfold relabel at m
      obtain⟨⟨n',k'⟩,hm,q⟩:=List.mem_map.mp m
      by_cases hf:k'= .free
      · have h0:n'∈fL:=only _ hm hf
        have e1:n'=n:=by
          have h1:=congrArg Prod.fst q
          dsimp only at h1
          split at h1 <;> exact h1
        rw[←e1]
        exact h0
      · have z:(k' == NameKind.free)=false:=by simpa using hf
        simp only[z,Bool.false_and] at q
        have q2:k'=k:=by
          have:=congrArg Prod.snd q
          simpa using this
        rcases hk with rfl | rfl
        · exact absurd q2 (yO _ hm)
        · exact absurd q2 hf
    rcases h with h | h
    · exact go _ (.inl rfl) h
    · exact go _ (.inr rfl) h
  · have e:=congrArg (fun l=>l[j]?) slot
    simp only[List.getElem?_map,h,Option.map_some] at e
    cases q:cap[j]? with
    | none=>rw[q] at e;cases e
    | some i=>
      rw[q] at e
      exact⟨i,rfl,Option.some.inj e,.inr (.inl (all vis n (List.mem_of_getElem? h)))⟩
end
end L2
end
section
set_option Elab.async false
set_option linter.all false
set_option maxRecDepth 100000
namespace L2
open PySem PySem.Spec PyProof.Rows
open AutoSeq1 (wpAny_loadPart')
noncomputable def Nv (k:Bool) (h:Heap) (a:Addr) (its:Array Value):Prop:=match k with
 | true=>h.IsList a its
 | false=>h.IsTuple a its
noncomputable def KS (k:Bool) (h:Heap) (it a:Addr) (i:Nat):Prop:=match k with
 | true=>h.IsListIter it a i
 | false=>h.IsTupleIter it a i
noncomputable def ZR:Bool→String
 | true=>"list_iterator"
 | false=>"tuple_iterator"
noncomputable def ZS (k:Bool) (a:Addr):Obj:={cls:=.type (ZR k),data:=.fields #[.ref a,.int 0 0]}
theorem Nv.at {k:Bool}{h h':Heap}{a:Addr}{its:Array Value}(x:Nv k h a its) (g:∀o,h.get? a=some o→h'.get? a=some o):Nv k h' a its:=by
 cases k <;> exact let⟨o,ho,r⟩:=x;⟨o,g o ho,r⟩
theorem KS.at {k:Bool}{h h':Heap}{it a:Addr}{i:Nat}(x:KS k h it a i) (g:∀o,h.get? it=some o→h'.get? it=some o):KS k h' it a i:=by
 cases k <;> exact let⟨o,ho,r⟩:=x;⟨o,g o ho,r⟩
theorem KS.obj {k:Bool}{h:Heap}{it a:Addr}{i:Nat}(x:KS k h it a i):∃o,h.get? it=some o∧∀v,o.data≠.cell v:=by
 cases k <;> exact let⟨o,ho,_,r⟩:=x;⟨o,ho,fun v z=>by rw[r] at z;cases z⟩
theorem KS.new (k:Bool) (h:Heap) (a:Addr):KS k (h.push (ZS k a)) h.objs.size a 0:=by
 cases k <;> exact⟨_,Heap.get?_push_size _ rfl,rfl,rfl⟩
section
variable {prog:Program}{w:World}{A:Around}{E:Value→Shared→Prop}{s:Shared}
end
end L2
end
section
set_option Elab.async false
set_option linter.all false
set_option maxRecDepth 100000
namespace L2
open PySem PySem.Spec PyProof.Rows
section
variable {prog:Program}{w:World}{A:Around}{E:Value→Shared→Prop}{s:Shared}
end
section
variable {X:Cx}{pins:List (Addr×Obj)}{σ:St}{H:Hp}{s:Shared}
end
end L2
end
section
set_option Elab.async false
set_option linter.all false
set_option maxRecDepth 100000
namespace L2
open PySem PySem.Spec PyProof.Rows
section
variable {prog:Program}{w:World}{A:Around}{E:Value→Shared→Prop}{s:Shared}
end
end L2
end
section
set_option Elab.async false
set_option linter.all false
set_option maxRecDepth 100000
namespace L2
open PySem PySem.Spec PyProof.Rows
section
variable {X:Cx}{a b c e:Expr}{body elts:List Expr}{pos p tpos:Pos}{jt:Nat}
theorem Nv.lt {k:Bool}{h:Heap}{a:Addr}{its:Array Value}(x:Nv k h a its):a < h.objs.size:=by
 cases k <;> exact let⟨o,ho,_⟩:=x;Heap.lt_size ho
noncomputable def Aj:D→Option (Bool×List D)
 | .lst ds=>some (true,ds)
 | .tup ds=>some (false,ds)
 | _=>none
noncomputable def Jl (ds:List D):List D:=ds.mapIdx fun i d=>.tup [.int i,d]
noncomputable def Nx (gA:GA):GI:=fun S=>(gA S).bind fun p=>match p.1 with
 | [d]=>(Aj d).map fun q=>(Jl q.2,p.2)
 | _=>none
noncomputable def Ny (gA:GA):GI:=fun S=>(gA S).bind fun p=>match p.1 with
 | [d,e]=>(Aj d).bind fun q=>(Aj e).map fun r=>(List.zipWith (fun a b=>.tup [a,b]) q.2 r.2,p.2)
 | _=>none
end
end L2
end
section
set_option Elab.async false
set_option linter.all false
set_option maxRecDepth 100000
namespace L2
open PySem PySem.Spec PyProof.Rows
section
variable {X:Cx}{a b c e:Expr}{x y:Str}{p px py pos pos' tpos:Pos}{f:List D→Option U}{gb:GD}
theorem Vals.repl {v:V}{u:Value}(r:RelV v u):∀m:Nat,Vals (List.replicate m v) (List.replicate m u)
 | 0=>.nil
 | m+1=>.cons r (Vals.repl r m)
theorem cu.repl {F:Hp}{v:V}{d:D}(r:Rep F v d):∀m:Nat,cu F (List.replicate m v) (List.replicate m d)
 | 0=>.nil
 | m+1=>.cons r (cu.repl r m)
end
end L2
end
section
set_option Elab.async false
set_option linter.all false
set_option maxRecDepth 100000
namespace L2
open PySem PySem.Spec PyProof.Rows
noncomputable def Nz:GE:=fun S=>some (.m (.yQ []),S)
noncomputable def NB:GE:=fun S=>some (.m (.dct []),S)
section
variable {X:Cx}{a b c e k:Expr}{x y:Str}{p px py pos pos' tpos apos cpos:Pos}{gk:GD}
noncomputable def KU (d:D):List D→Option Nat
 | []=>none
 | e :: ds=>if kQ e d then some 0 else(KU d ds).map (· +1)
noncomputable def KW:List D→MO→Option (D×MO)
 | [d],.lst ds=>if bF ds≤40∧ds.length < 100000 then(KU d ds).map fun j=>(.int (j:Nat),.lst ds) else none
 | _,_=>none
end
end L2
end
section
set_option Elab.async false
set_option linter.all false
set_option maxRecDepth 100000
namespace L2
open PySem PySem.Spec PyProof.Rows
section
variable {X:Cx}{k v:Expr}{pos:Pos}{tk tv:TE}{gk gv:GD}
end
end L2
end
section
set_option Elab.async false
set_option linter.all false
set_option maxRecDepth 100000
namespace L2
open PySem PySem.Spec PyProof.Rows
noncomputable def jh (kvs:List (Str×Int)) (z:Str):Option Int:=(kvs.find? fun p=>decide (p.1=z)).map (·.2)
noncomputable def KY:Option Int→Option Value→Prop
 | some i,u=>∃t,u=some (.int i t)
 | none,u=>u=none
noncomputable def KTab (P:Program) (w:World) (K:PySem.W.Frag) (a:Addr) (kvs:List (Str×Int)):Prop:=
 (a == sysModules)=false∧∃o es ep,K.lookup a=some o∧o.ExactDict∧o.data= .dict es ep∧KeysOf (cP P w) es∧∀z,KY (jh kvs z) (findBy (cP P w).is es (.inr z))
noncomputable def r9 (w:World):List (Str×Int)→List DictEntry→Prop
 | [],[]=>True
 | (z,i) :: r,e :: es=>(e.hash=hashStr w z∧(∃t,e.key= .str z t)∧∃t,e.val= .int i t)∧r9 w r es
 | _,_=>False
theorem xT {P:Program}{w:World}:∀{kvs:List (Str×Int)}{es:List DictEntry},r9 w kvs es→∀e∈es,∃k,(cP P w).is k e.key=true∧e.hash=(cP P w).hash k
 | [],[],_,e,he=>by cases he
 | (z,i) :: r,e :: es,h,e',he=>by
  obtain⟨⟨h1,⟨t,h2⟩,_⟩,h3⟩:=h
  rcases List.mem_cons.mp he with rfl | q
  ·exact⟨.inr z,by rw[h2];exact nH P w z t,h1⟩
  ·exact xT h3 e' q
 | [],_ :: _,h,_,_=>h.elim
 | _ :: _,[],h,_,_=>h.elim
theorem xU {P:Program}{w:World}(z:Str):∀{kvs:List (Str×Int)}{es:List DictEntry},r9 w kvs es→KY (jh kvs z) ((es.find? fun e=>(cP P w).is (.inr z) e.key).map (·.val))
 | [],[],_=>rfl
 | (y,i) :: r,e :: es,h=>by
  obtain⟨⟨h1,⟨t,h2⟩,u,h4⟩,h3⟩:=h
  have k:(cP P w).is (.inr z) e.key=decide ((.inr z:Key)= .inr y):=KeyKind.is_eq_decide (knd:=cP P w) (k:=.inr y) (by rw[h2];exact nH P w y t) (.inr z)
  unfold jh
  by_cases q:y=z
  ·subst q
   rw[List.find?_cons_of_pos (by simp),List.find?_cons_of_pos (by rw[k];simp)]
   exact⟨u,by rw[Option.map_some,h4]⟩
  ·rw[List.find?_cons_of_neg (by simpa using q),List.find?_cons_of_neg (by rw[k];simp only[decide_eq_true_eq,Sum.inr.injEq];exact fun e=>q e.symm)]
   exact xU z h3
 | [],_ :: _,h=>h.elim
 | _ :: _,[],h=>h.elim
theorem C2 {P:Program}{w:World}{K:PySem.W.Frag}{a:Addr}{kvs:List (Str×Int)}{es:List DictEntry}{ep:Nat}(h:K.lookup a=some ⟨.type "dict",none,.dict es.toArray ep,#[]⟩) (hs:(a == sysModules)=false) (he:r9 w kvs es):KTab P w K a kvs:=by
 refine⟨hs,_,es.toArray,ep,h,⟨rfl,rfl,rfl⟩,rfl,fun e q=>xT he e (by simpa using q),fun z=>?_⟩
 have:=xU (P:=P) z he
 unfold findBy
 rw[List.find?_toArray]
 exact this
section
variable {X:Cx}{pins:List (Addr×Obj)}{σ:St}{H:Hp}{s:Shared}{a:Addr}{kvs:List (Str×Int)}
theorem KTab.map (I:Inv X pins σ H s) (h:KTab X.prog X.w X.K a kvs):∃f:Key→Option Value,s.heap.MapOf (cP X.prog X.w) a f∧∀z,KY (jh kvs z) (f (.inr z)):=by
 obtain⟨_,o,es,ep,h1,h2,h3,h4,h5⟩:=h
 exact⟨_,⟨o,es,ep,I.Bl a o h1,h2,h3,h4,fun _=>rfl⟩,h5⟩
end
noncomputable def KZ (kvs:List (Str×Int)) (g:GD):GD:=fun S=>(g S).bind fun p=>match p.1 with
 | .str z=>(jh kvs z).map fun i=>(.int i,p.2)
 | _=>none
noncomputable def za (kvs:List (Str×Int)) (g gd:GD):GD:=fun S=>(g S).bind fun p=>(gd p.2).bind fun q=>match p.1,q.1 with
 | .str z,.int j=>some (.int ((jh kvs z).getD j),q.2)
 | _,_=>none
section
variable {X:Cx}{e f:Expr}{x:Str}{px pos apos cpos:Pos}{ty tx:TE}{g gd:GD}{a:Addr}{kvs:List (Str×Int)}
theorem K0 (hg:Gl X x) (hm:X.mg x=some (.ref a)) (hk:KTab X.prog X.w X.K a kvs) (he:PE X e ty) (hs:Ho e) (hd:(x == ("__debug__":Str))=false):
  PE X (.Subscript (.Name x px) e pos) (fun σ H Q=>ty σ H fun y H1=>∃z i,y= .str z∧jh kvs z=some i∧Q (.int i) H1):=by
 intro pins s σ H Q I h
 refine CF PySem.F.slot_dict_getitem.lookup hs (fq (qw (v:=.ref a) hg hm rfl hd pins s σ H (fun v H1=>v= .ref a∧H1=H) I ⟨rfl,rfl⟩) fun u s1 ⟨x',H1,I1,rx,ex,eH⟩=>?_)
 subst ex eH
 obtain rfl:u=Value.ref a:=rx
 refine fq (he pins s1 σ _ _ I1 h) fun iv s2 ⟨y,H2,I2,ry,z,i,ey,el,q⟩=>?_
 subst ey
 obtain⟨fm,m1,m2⟩:=hk.map I2
 have r:=m2 z
 rw[el] at r
 obtain⟨t,r⟩:=r
 exact⟨m1.typeIs,wpAny_getItem_of (k:=.inr z) (uP (k:=.inr z) ry) m1 r ⟨.int i,H2,I2.tok _,⟨t,rfl⟩,q⟩⟩
theorem DO (hg:Gl X x) (hm:X.mg x=some (.ref a)) (hk:KTab X.prog X.w X.K a kvs) (he:PE X e ty) (hf:PE X f tx) (m:M2 X (.Name x px) "get" apos e f cpos) (hd:(x == ("__debug__":Str))=false):
  PE X (.Call (.Attribute (.Name x px) "get" apos) [e,f] [] cpos) (fun σ H Q=>ty σ H fun y H1=>tx σ H1 fun y2 H2=>∃z j,y= .str z∧y2= .int j∧Q (.int ((jh kvs z).getD j)) H2):=by
 intro pins s σ H Q I h
 refine wpAny_Call_method m.base m.few m.line PySem.F.plainAttrs_dict PySem.F.slot_dict_get PySem.F.type_dict_get (fq (qw (v:=.ref a) hg hm rfl hd pins s σ H (fun v H1=>v= .ref a∧H1=H) I ⟨rfl,rfl⟩) fun u s1 ⟨x',H1,I1,rx,ex,eH⟩=>?_)
 subst ex eH
 obtain rfl:u=Value.ref a:=rx
 obtain⟨fm,m1,m2⟩:=hk.map I1
 refine⟨m1.typeIs,fun b hb=>?_,?_⟩
 ·cases hb
  obtain⟨ob,_,_,h1,h2,_⟩:=m1
  exact⟨ob,h1,h2.2.1⟩
 rw[m.trees]
 refine Calls.callWith_builtin rfl (Calls.evalArgs_plain (Calls.spliced_cons (fq (he pins s1 σ _ _ I1 h) fun iv s2 ⟨y,H2,I2,ry,q2⟩=>
  Calls.spliced_cons (fq (hf pins s2 σ H2 _ I2 q2) fun fv s3 ⟨y2,H3,I3,RZ,z,j,ey,ZT,q3⟩=>Calls.spliced_nil ?_))))
 subst ey ZT
 obtain⟨XQ,k1,k2⟩:=hk.map I3
 refine call_meetsIn PySem.F.slot_dict_get k1.typeIs PySem.F.entry_dict_get (PySem.F.args_dict_get_3 _ _ _) (meets_dict_get_default (k:=.inr z) (cP X.prog X.w) a (uP (k:=.inr z) ry) hk.1 fv) ⟨XQ,k1,.int ((jh kvs z).getD j),H3,I3.tok _,?_,q3⟩
 have r:=k2 z
 cases el:jh kvs z with
 | none=>rw[el] at r;rw[show XQ (.inr z)=none from r];exact RZ
 | some i=>rw[el] at r;obtain⟨t,r⟩:=r;rw[r];exact⟨t,rfl⟩
theorem K1 (hg:Gl X x) (hm:X.mg x=some (.ref a)) (hk:KTab X.prog X.w X.K a kvs) (he:JD X e g) (hs:Ho e:=by intro _ _;rfl) (hd:(x == ("__debug__":Str))=false:=by decide):JD X (.Subscript (.Name x px) e pos) (KZ kvs g):=
 ⟨fun B=>(K0 hg hm hk (he.h B) hs hd).imp fun σ H Q ⟨S,F,d,S',R,hg',q⟩=>by
  obtain⟨⟨d1,S1⟩,h1,hg'⟩:=au hg'
  cases d1 <;> try (cases hg')
  rename_i z
  obtain⟨i,h2,hg'⟩:=aG hg'
  cases hg'
  exact⟨S,F,.str z,_,R,h1,fun v F1 H1 R1 st1 r1=>by cases r1;exact⟨z,i,rfl,h2,q (.int i) F1 H1 R1 st1 (.int i)⟩⟩⟩
theorem DP (hg:Gl X x) (hm:X.mg x=some (.ref a)) (hk:KTab X.prog X.w X.K a kvs) (he:JD X e g) (hf:JD X f gd) (hb:attributeBase (.Name x px) "get" X.env (eval (.Name x px) X.env)=eval (.Name x px) X.env:=by rfl)
  (hfew:((backTo cpos (starEach [e,f] X.env)).all (fun x=>!x.1) && (backToKw cpos (keywordEach [] X.env)).all (fun x=>x.1.isSome) && decide (([e,f]:List Expr).length+([]:List Keyword).length+(if([]:List Keyword).isEmpty then 0 else 1) < 30))=true:=by rfl)
  (hline:(apos.endLine == cpos.line)=true:=by rfl) (htr:backTo cpos (starEach [e,f] X.env)=[(false,eval e X.env),(false,eval f X.env)]:=by rfl) (hd:(x == ("__debug__":Str))=false:=by decide):
  JD X (.Call (.Attribute (.Name x px) "get" apos) [e,f] [] cpos) (za kvs g gd):=
 ⟨fun B=>(DO hg hm hk (he.h B) (hf.h B) ⟨hb,hfew,hline,htr⟩ hd).imp fun σ H Q ⟨S,F,d,S',R,hg',q⟩=>by
  obtain⟨⟨d1,S1⟩,h1,hg'⟩:=au hg'
  obtain⟨⟨d2,S2⟩,h2,Pp⟩:=au hg'
  clear hg'
  cases d1 <;> try (cases Pp)
  rename_i z
  cases d2 <;> try (cases Pp)
  rename_i j
  exact⟨S,F,.str z,_,R,h1,fun v F1 H1 R1 st1 r1=>by cases r1;exact⟨_,F1,.int j,_,R1,h2,fun v2 F2 H2 R2 st2 r2=>by cases r2;exact⟨z,j,rfl,rfl,q (.int _) F2 H2 R2 (st1.trans st2) (.int _)⟩⟩⟩⟩
end
noncomputable def BK (K:PySem.W.Frag) (a:Addr) (zs:List Str):Prop:=∃(o:Obj) (its:List Value) (n:Nat),K.lookup a=some o∧o.cls= .type "tuple"∧o.data= .seq its.toArray n∧its.length≤1000∧Vals (zs.map V.str) its
noncomputable def zb:List Str→List Value→Prop
 | [],[]=>True
 | z :: r,v :: vs=>(∃t,v= .str z t)∧zb r vs
 | _,_=>False
theorem xV:∀{zs:List Str}{vs:List Value},zb zs vs→Vals (zs.map V.str) vs
 | [],[],_=>.nil
 | z :: r,v :: vs,h=>.cons h.1 (xV h.2)
 | [],_ :: _,h=>h.elim
 | _ :: _,[],h=>h.elim
theorem HZ {K:PySem.W.Frag}{a:Addr}{zs:List Str}{its:List Value}{n:Nat}{od:Option Addr}{sl:Array (Option Value)}(h:K.lookup a=some ⟨.type "tuple",od,.seq its.toArray n,sl⟩) (hl:its.length≤1000) (hs:zb zs its):BK K a zs:=
 ⟨_,its,n,h,rfl,rfl,hl,xV hs⟩
theorem xW {F:Hp}:∀zs:List Str,cu F (zs.map V.str) (zs.map D.str)
 | []=>.nil
 | z :: zs=>.cons (.str z) (xW zs)
theorem jO:∀zs:List Str,bF (zs.map D.str)=0
 | []=>rfl
 | z :: zs=>by show max (bW (.str z)) (bF (zs.map D.str))=0;rw[jO zs];rfl
noncomputable def BL (n:Bool) (zs:List Str) (g:GD):GD:=fun S=>(g S).map fun p=>(.bl (n != inD p.1 (zs.map D.str)),p.2)
section
variable {X:Cx}{e:Expr}{x:Str}{px pos:Pos}{g:GD}{a:Addr}{zs:List Str}
theorem K2 (I:Inv X pins σ H s) (hk:BK X.K a zs) (hu:X.A.units+64 < cLine){F:Hp}{d:D}{v:V}{u:Value}(sb:Sub F H) (r:Rep F v d) (rv:RelV v u):∃its:List Value,IsTup s.heap a its.toArray∧(∀y∈its,SeqAt.EqAt X.A.in1 s y u (wK F d y))∧its.any (wK F d)=inD d (zs.map D.str):=by
 obtain⟨o,its,n,h1,h2,h3,h4,h5⟩:=hk
 obtain⟨k1,k2⟩:=mh I sb (A:=X.A.in1) r rv (xW zs) h5 (by rw[jO];show X.A.units+1+0 < cLine;omega)
 exact⟨its,⟨o,I.Bl a o h1,h2,n,h3⟩,k1,k2⟩
theorem K3 (hu:X.A.units+64 < cLine) (hg:Gl X x) (hm:X.mg x=some (.ref a)) (hk:BK X.K a zs){B:Base}(he:PE X e (tD X.K B g)) (hd:(x == ("__debug__":Str))=false):
  PC X .In e (.Name x px) (tD X.K B (BL false zs g)):=by
 intro pins s σ H Q I h
 obtain⟨S,F,d,S',R,hg',q⟩:=h
 obtain⟨⟨d1,S1⟩,h1,hg'⟩:=aG hg'
 cases hg'
 refine fq (he pins s σ H (fun y H1=>∃F',Sub F' H1∧Rep F' y d1∧Q (.bl (false != inD d1 (zs.map D.str))) H1) I ⟨S,F,d1,_,R,h1,fun v F1 H1 R1 st1 r1=>⟨F1,R1.sub,r1,q (.bl _) F1 H1 R1 st1 (.bl _)⟩⟩) fun iv s1 ⟨y,H1,I1,ry,F',sb,r',q'⟩=>?_
 refine fq (qw (v:=.ref a) hg hm rfl hd pins s1 σ H1 (fun v H2=>v= .ref a∧H2=H1) I1 ⟨rfl,rfl⟩) fun u s2 ⟨x',H2,I2,rx,ex,eH⟩=>?_
 subst ex eH
 obtain rfl:u=Value.ref a:=rx
 obtain⟨its,p,k1,k2⟩:=K2 I2 hk hu sb r' ry
 refine SeqAt.in_tupleAt (wK F' d1) p (fun y hy=>k1 y (by simpa using hy)) ⟨.bl _,_,I2,rfl,?_⟩
 rw[show its.toArray.any (wK F' d1)=its.any (wK F' d1) by simp,k2]
 simpa using q'
theorem NC {B:Base}{g:GD}{σ:St}{H:Hp}{Q:Bool→Hp→Prop}(h:tQ X.K B (qB g) σ H Q):tB (tD X.K B g) σ H Q:=by
 obtain⟨S,F,kk,S',R,hg',q⟩:=h
 exact⟨S,F,.bl kk,S',R,kU hg',fun v F' H' R' st r=>⟨kk,jX r,q F' H' R' st⟩⟩
theorem BN (hu:X.A.units+64 < cLine) (hg:Gl X x) (hm:X.mg x=some (.ref a)) (hk:BK X.K a zs) (he:JD X e g) (hd:(x == ("__debug__":Str))=false:=by decide) (hi:behindInMarks .In (.Name x px)=false:=by with_unfolding_all rfl):JT X (.Compare e [.In] [.Name x px] pos) (qB (BL false zs g)):=
 ⟨fun B=>(JN (K3 hu hg hm hk (he.h B) hd) hi).imp fun σ H Q h=>NC h⟩
end
end L2
end
section
set_option Elab.async false
set_option linter.all false
set_option maxRecDepth 100000
namespace L2
open PySem PySem.Spec PyProof.Rows
noncomputable def FQ:U→D→Option (Option D)
 | .m (.dct kvs),k=>(keyOf k).map (dw kvs)
 | .b (.dct kvs),k=>(keyOf k).map (dw kvs)
 | .m (.yQ kvs),k=>(BH k).map (dw kvs)
 | .b (.yQ kvs),k=>(BH k).map (dw kvs)
 | _,_=>none
noncomputable def vj:U→Bool
 | .m (.dct _)=>true
 | .b (.dct _)=>true
 | .m (.yQ _)=>true
 | .b (.yQ _)=>true
 | _=>false
noncomputable def C3 (i:Nat) (gk gd:GD):GD:=fun S=>match S[i]? with
 | some (some u)=>if vj u then(gk S).bind fun p=>(gd p.2).bind fun q=>match q.2[i]? with
  | some (some u2)=>(FQ u2 p.1).map fun o=>(o.getD q.1,q.2)
  | _=>none
  else none
 | _=>none
noncomputable def ND (F:Hp):Option V→Option D→Prop
 | some v,some d=>Rep F v d
 | none,none=>True
 | _,_=>False
theorem qT {κ:Type} [DecidableEq κ] {F:Hp}{ws:List (κ×V)}{kvs:List (κ×D)}(pr:Paired (iO F) ws kvs) (k:κ):ND F (pZ ws k) (dw kvs k):=by
 cases e:dw kvs k with
 | none=>rw[xR pr e];exact True.intro
 | some d=>obtain⟨v,h,r⟩:=pF pr e;rw[h];exact r
theorem Ia {K:PySem.W.Frag}{F H:Hp}{v w:V}{u:U}{d:D}{h:Option D}(sb:Sub F H) (r:wH K F H v u) (rk:Rep F w d) (e:FQ u d=some h):∃a o,v= .ref a∧pL H a w o∧ND F o h:=by
 unfold FQ at e
 split at e
 ·obtain⟨kk,e1,rfl⟩:=aG e
  obtain⟨a,rfl,fa,ws,ha,pr⟩:=r
  rw[mj rk e1]
  exact⟨a,_,rfl,pL.k ha,qT pr kk⟩
 ·obtain⟨kk,e1,rfl⟩:=aG e
  obtain⟨a,rfl,fa,ws,ha,pr⟩:=r
  rw[mj rk e1]
  exact⟨a,_,rfl,pL.k ha,qT pr kk⟩
 ·obtain⟨kk,e1,rfl⟩:=aG e
  obtain⟨a,rfl,fa,ws,ha,pr⟩:=r
  obtain⟨b,rfl,hb⟩:=qM sb rk e1
  exact⟨a,_,rfl,pL.t ha hb,qT pr kk⟩
 ·obtain⟨kk,e1,rfl⟩:=aG e
  obtain⟨a,rfl,fa,ws,ha,pr⟩:=r
  obtain⟨b,rfl,hb⟩:=qM sb rk e1
  exact⟨a,_,rfl,pL.t ha hb,qT pr kk⟩
 ·cases e
theorem Ak {K:PySem.W.Frag}{F H:Hp}{v:V}{u:U}(r:wH K F H v u) (h:vj u=true):∃a,v= .ref a∧Ph H a:=by
 unfold vj at h
 split at h
 ·obtain⟨a,rfl,fa,ws,ha,pr⟩:=r;exact⟨a,rfl,.inl ⟨ws,.inl ha⟩⟩
 ·obtain⟨a,rfl,fa,ws,ha,pr⟩:=r;exact⟨a,rfl,.inl ⟨ws,.inl ha⟩⟩
 ·obtain⟨a,rfl,fa,ws,ha,pr⟩:=r;exact⟨a,rfl,.inr ⟨ws,.inl ha⟩⟩
 ·obtain⟨a,rfl,fa,ws,ha,pr⟩:=r;exact⟨a,rfl,.inr ⟨ws,.inl ha⟩⟩
 ·cases h
section
variable {X:Cx}{e f:Expr}{x:Str}{px pos apos cpos:Pos}{gk gd:GD}{ge:GE}
theorem Ib {i : Nat} (hu : X.A.units + 1 < cLine) (he : JD X e gk) (hf : JD X f gd) (hN : X.N[i]? = some x := by rfl) (hv : Ez X.env.scope x := by first | exact Or.inl rfl | exact Or.inr (Or.inl rfl) | exact Or.inr (Or.inr rfl))
    (hb:attributeBase (.Name x px) "get" X.env (eval (.Name x px) X.env)=eval (.Name x px) X.env:=by rfl)
    (hfew:((backTo cpos (starEach [e,f] X.env)).all (fun x=>!x.1) && (backToKw cpos (keywordEach [] X.env)).all (fun x=>x.1.isSome) && decide (([e,f]:List Expr).length+([]:List Keyword).length+(if([]:List Keyword).isEmpty then 0 else 1) < 30))=true:=by rfl)
    (hline:(apos.endLine == cpos.line)=true:=by rfl) (htr:backTo cpos (starEach [e,f] X.env)=[(false,eval e X.env),(false,eval f X.env)]:=by rfl) (hd:(x == ("__debug__":Str))=false:=by decide) (hcd:(x == ("__classdict__":Str))=false:=by decide):
    JD X (.Call (.Attribute (.Name x px) "get" apos) [e,f] [] cpos) (C3 i gk gd):=
  ⟨fun B => (EX hu (jj hN hv hd hcd) (he.h B) (hf.h B) ⟨hb, hfew, hline, htr⟩).imp fun σ H Q ⟨S, F, d, S', R, hg, q⟩ => by
    unfold C3 at hg
    split at hg
    · rename_i u hS
      split at hg
      · rename_i hD
        obtain⟨⟨d1,S1⟩,h1,hg⟩:=au hg
        obtain⟨⟨d2,S2⟩,h2,hg⟩:=au hg
        dsimp only at hg
        split at hg
        · rename_i u2 NF
          obtain⟨o,h3,hg⟩:=aG hg
          cases hg
          obtain⟨v0,hv0,r0⟩:=R.rep i u hS
          obtain⟨a,rfl,ha⟩:=Ak r0 hD
          refine⟨.ref a,hv0,a,rfl,ha,S,F,d1,S1,R,h1,fun v1 F1 H1 R1 st1 r1=>⟨S1,F1,d2,_,R1,h2,fun v2 F2 H2 R2 st2 r2=>?_⟩⟩
          obtain⟨v3,NG,r3⟩:=R2.rep i u2 NF
          rw[hv0] at NG
          cases NG
          obtain⟨a',ov,e1,g1,rl⟩:=Ia R2.sub r3 (r1.le st2.ext.le) h3
          cases e1
          refine⟨ov,g1,q _ F2 H2 R2 (st1.trans st2) ?_⟩
          cases o with
          | none=>cases ov with
            | none=>exact r2
            | some _=>exact(show False from rl).elim
          | some d=>cases ov with
            | none=>exact(show False from rl).elim
            | some v=>exact rl
        · cases hg
      · cases hg
    · cases hg⟩
noncomputable def NH (td te:TE):TE:=fun σ H Q=>td σ H fun x H1=>∃a,x= .ref a∧Ph H1 a∧te σ H1 fun y H2=>∃p kvs more,y= .ref p∧H2 a=some (.dK kvs)∧H2 p=some (.dK more)∧a≠p∧kvs.length+more.length≤sizeLine∧Q .cH (upd H2 a (.dK (kr kvs more)))
theorem Ic {o:Expr}{td te:TE}(ho:PE X o td) (he:PE X e te) (m:M1 X o "update" apos e cpos):PE X (.Call (.Attribute o "update" apos) [e] [] cpos) (NH td te):=by
 intro pins s σ H Q I h
 refine wpAny_Call_method m.base m.few m.line PySem.F.plainAttrs_dict PySem.F.slot_dict_update PySem.F.type_dict_update (fq (ho pins s σ H _ I h) fun u s1 ⟨x,H1,I1,rx,a,ex,d,q1⟩=>?_)
 subst ex
 obtain rfl:u=Value.ref a:=rx
 obtain⟨t1,t2,_⟩:=EW I1 d
 refine⟨t1,t2,?_⟩
 rw[m.trees]
 refine Calls.callWith_builtin rfl (Calls.evalArgs_plain (Calls.spliced_cons (fq (he pins s1 σ H1 _ I1 q1) fun iv s2 ⟨y,H2,I2,ry,p,kvs,more,ey,ha,hp,ne,hl,q2⟩=>Calls.spliced_nil ?_)))
 subst ey
 obtain rfl:iv=Value.ref p:=ry
 obtain⟨z1,d1,vs1,r1,XR⟩:=CD I2.hok ha
 obtain⟨z2,d2,vs2,r2,dd2⟩:=CD I2.hok hp
 refine call_meetsIn PySem.F.slot_dict_update XR.typeIs PySem.F.entry_dict_update (PySem.F.args_dict_update_2 _ _) (meets_dict_update (cP X.prog X.w) a p ne d2) ⟨vs1,vs2,XR,dd2,(by rw[←r1.length,←r2.length];exact hl),fun h' GR _ hs=>⟨.cH,_,?_,rfl,q2⟩⟩
 have hz:(kr kvs more).length≤sizeLine:=Nat.le_trans (lq more kvs) hl
 have hee:∃q,h'.get? a=some q:=let⟨q,_,_,hq,_⟩:=GR;⟨q,hq⟩
 exact uG I2 (by rw[ha];exact True.intro) hs hee (Bt hz d1 (r2.merge r1) GR)
noncomputable def Al (i:Nat) (ge:GE):GD:=fun S=>match S[i]? with
 | some (some u)=>if vj u then(ge S).bind fun p=>match p.1 with
  | .m (.dct more)=>yU p.2 i fun o=>match o with
   | .dct kvs=>if kvs.length+more.length≤100000 then some (.cH,.dct (dI kvs more)) else none
   | _=>none
  | _=>none
  else none
 | _=>none
theorem C4 {i : Nat} (he : JE X e ge) (hN : X.N[i]? = some x := by rfl) (hv : Ez X.env.scope x := by first | exact Or.inl rfl | exact Or.inr (Or.inl rfl) | exact Or.inr (Or.inr rfl))
    (hb:attributeBase (.Name x px) "update" X.env (eval (.Name x px) X.env)=eval (.Name x px) X.env:=by rfl)
    (hfew:((backTo cpos (starEach [e] X.env)).all (fun x=>!x.1) && (backToKw cpos (keywordEach [] X.env)).all (fun x=>x.1.isSome) && decide (([e]:List Expr).length+([]:List Keyword).length+(if([]:List Keyword).isEmpty then 0 else 1) < 30))=true:=by rfl)
    (hline:(apos.endLine == cpos.line)=true:=by rfl) (htr:backTo cpos (starEach [e] X.env)=[(false,eval e X.env)]:=by rfl) (hd:(x == ("__debug__":Str))=false:=by decide) (hcd:(x == ("__classdict__":Str))=false:=by decide):
    JD X (.Call (.Attribute (.Name x px) "update" apos) [e] [] cpos) (Al i ge):=
  ⟨fun B => (Ic (jj hN hv hd hcd) (he.h B) ⟨hb, hfew, hline, htr⟩).imp fun σ H Q ⟨S, F, d, S', R, hg, q⟩ => by
    unfold Al at hg
    split at hg
    · rename_i u hS
      split at hg
      · rename_i hD
        obtain⟨⟨u1,S1⟩,h1,hg⟩:=au hg
        dsimp only at hg
        split at hg
        · rename_i more
          obtain⟨u2,u',o,o',NF,Je,hio,hf,KQ,rfl⟩:=rY hg
          split at hf
          · rename_i kvs
            obtain⟨hl,hf⟩:=rW hf
            cases hf
            obtain⟨v0,hv0,r0⟩:=R.rep i u hS
            obtain⟨a,rfl,ha⟩:=Ak r0 hD
            refine⟨.ref a,hv0,a,rfl,ha,S,F,_,S1,R,h1,fun v1 F1 H1 R1 st1 r1=>?_⟩
            obtain⟨p,rfl,hp0,fp,⟨Ew,hp,XS⟩,hn,hB⟩:=r1
            obtain⟨v3,NG,r3⟩:=R1.rep i u2 NF
            rw[hv0] at NG
            cases NG
            have mA:d9 S1 σ a:=⟨i,u2,NF,Je,hv0⟩
            have ne:a≠p:=fun z=>hn (z▸mA)
            obtain⟨b,o2,e1,fa,e2,k⟩:=r3.d9 Je
            cases e1
            rw[hio] at e2
            cases e2
            obtain⟨FT,ha1,XT⟩:=k
            refine⟨p,FT,Ew,rfl,ha1,hp,ne,?_,?_⟩
            · rw[eu XT,eu XS,sizeLine_eq];omega
            · obtain⟨R2,st2⟩:=R1.write (ho:=.dK (kr FT Ew)) NF KQ hv0 ⟨_,bY,p8 XS XT⟩
              exact q .cH F1 _ R2 (st1.trans st2) .cH
          · cases hf
        · cases hg
      · cases hg
    · cases hg⟩
end
noncomputable def xX (i:Nat) (S:SS):SS:=match S[i]? with
 | some (some (.m (.lst ds)))=>S.set i (some (.t (.lst ds)))
 | _=>S
noncomputable def Ie (i:Nat) (g:GE):GE:=fun S=>g (xX i S)
theorem K4 {X:Cx}{e:Expr}{g:GE}(i:Nat) (h:JE X e g):JE X e (Ie i g):=⟨fun B=>(h.h B).imp fun σ H Q ⟨S,F,u,S',R,hg,q⟩=>by
 unfold Ie xX at hg
 split at hg
 ·rename_i ds hS
  obtain⟨v,hv,r⟩:=R.rep i _ hS
  obtain⟨F1,R1,st1,_⟩:=CS (S0:=S) (F0:=F) (H0:=H) (u:=.v i) (v:=v) (d:=.lst ds) (S':=S.set i (some (.t (.lst ds)))) R (Step.refl ..) ⟨hv,_,hS⟩ (by simp only[fz,hS])
  exact⟨_,F1,u,S',R1,hg,fun v' F' H' R' st r'=>q v' F' H' R' (st1.trans st) r'⟩
 ·exact⟨S,F,u,S',R,hg,q⟩⟩
end L2
end
section
set_option Elab.async false
set_option linter.all false
set_option maxRecDepth 100000
namespace L2
open PySem PySem.Spec PyProof.Rows
section
variable (S:SS) (d e:D) (o:MO) (i j:Nat) (g ga gb gc:GD) (ge:GE) (q q1 q2:GT) (gA:GA) (gu:GU) (a b:GS) (f f':List D→Option U) (fm:FM) (bd:GB) (gi:GI)
@[simp] theorem Sl:az i S=match S[i]? with | some (some (.t d))=>some (.t d,S) | some (some (.s d))=>some (.s d,S) | some (some _)=>some (.v i,S) | _=>none:=rfl
@[simp] theorem ZU:eC d S=some (d,S):=rfl
@[simp] theorem So:ao S=some ([],S):=rfl
@[simp] theorem Pw:aa g gA S=(g S).bind fun p=>(gA p.2).map fun q=>(p.1 :: q.1,q.2):=rfl
@[simp] theorem ZV:eP f gA S=(gA S).bind fun p=>(f p.1).map fun u=>(u,p.2):=rfl
@[simp] theorem ZW:eF ge S=(ge S).bind fun p=>fz p.1 p.2:=rfl
@[simp] theorem ZX:eT g S=(g S).map fun p=>(.t p.1,p.2):=rfl
@[simp] theorem Su:fz (.t d) S=some (d,S):=rfl
@[simp] theorem Sv (ds:List D):fz (.m (.lst ds)) S=some (.lst ds,S):=rfl
@[simp] theorem Sx:fz (.v i) S=match S[i]? with | some (some (.t d))=>some (d,S) | some (some (.m (.lst ds)))=>some (.lst ds,S.set i (some (.t (.lst ds)))) | _=>none:=rfl
@[simp] theorem ZY:qB g S=(g S).bind fun p=>match p.1 with | .bl k=>some (k,p.2) | _=>none:=rfl
@[simp] theorem Sy:j5 q S=(q S).map fun p=>(!p.1,p.2):=rfl
@[simp] theorem Sz:je q1 q2 S=(q1 S).bind fun p=>if p.1 then q2 p.2 else some (false,p.2):=rfl
@[simp] theorem XU:uH q1 q2 S=(q1 S).bind fun p=>if p.1 then some (true,p.2) else q2 p.2:=rfl
@[simp] theorem ZZ:eQ q S=(q S).map fun p=>(.bl p.1,p.2):=rfl
@[simp] theorem Px:xO S=some (true,S):=rfl
@[simp] theorem XW:LO f f' ga gb gc S=(ga S).bind fun p=>(gb p.2).bind fun q=>match f [p.1,q.1] with
 | some (.t (.bl k))=>if k then(gc q.2).bind fun r=>match f' [q.1,r.1] with
   | some (.t (.bl k'))=>some (.bl k',r.2)
   | _=>none
  else some (.bl false,q.2)
 | _=>none:=rfl
@[simp] theorem XX (g1 g2:GE):Zv q g1 g2 S=(q S).bind fun p=>if p.1 then g1 p.2 else g2 p.2:=rfl
@[simp] theorem SA:dM S=some (.nx S):=rfl
@[simp] theorem mX:bI a b S=(a S).bind fun o=>match o with | .nx S1=>b S1 | o=>some o:=rfl
@[simp] theorem SD:dN i ge S=(ge S).bind fun p=>match p.1 with | .m o=>(pM i (.m o) p.2).map .nx | u=>(fz u p.2).bind fun q=>(pM i (.t q.1) q.2).map .nx:=rfl
@[simp] theorem mY (u:U):pM i u S=match S[i]? with | some (some (.b _))=>none | some _=>some (S.set i (some u)) | none=>none:=rfl
@[simp] theorem Py:z8 ge S=(ge S).map fun p=>.nx p.2:=rfl
@[simp] theorem SE:cE ge S=(ge S).bind fun p=>match p.1 with
 | .v i=>match p.2[i]? with
  | some (some (.t d))=>some (.rt (.t d) p.2)
  | some (some (.m o))=>some (.rt (.m o) (p.2.set i none))
  | _=>none
 | .s _=>none
 | u=>some (.rt u p.2):=rfl
@[simp] theorem Pz:M9 S=some (.rt (.t .cH) S):=rfl
@[simp] theorem XY:jU q a b S=(q S).bind fun p=>if p.1 then a p.2 else b p.2:=rfl
@[simp] theorem SG:KL bd g S=(g S).bind fun p=>(bd p.1 p.2).map .nx:=rfl
@[simp] theorem PB:bName i d S=pM i (.t d) S:=rfl
@[simp] theorem BO:uW bd gi a S=(gi S).bind fun p=>loop bd a p.1 p.2:=rfl
@[simp] theorem SH:RP g S=(g S).bind fun p=>match p.1 with | .tup ds=>some (ds,p.2) | .lst ds=>some (ds,p.2) | _=>none:=rfl
@[simp] theorem Ig:qG gA S=(gA S).bind fun p=>match p.1 with | [.int j]=>if j < 1000000∧-1000000 < j then some (xy 0 j.toNat,p.2) else none | _=>none:=rfl
@[simp] theorem PD:Nb gA S=(gA S).bind fun p=>match p.1 with | [.int i,.int j]=>if i < 1000000∧-1000000 < i∧j < 1000000∧-1000000 < j then some (xy i (j - i).toNat,p.2) else none | _=>none:=rfl
@[simp] theorem K5:loop bd a [] S=some (.nx S):=rfl
@[simp] theorem SI:bN S=some ([],S):=rfl
@[simp] theorem SJ:aQ g gu S=(g S).bind fun p=>(gu p.2).map fun q=>(.t p.1 :: q.1,q.2):=rfl
@[simp] theorem SK:cT ge gu S=(ge S).bind fun p=>(gu p.2).map fun q=>(p.1 :: q.1,q.2):=rfl
@[simp] theorem PF:aP fm gu S=(gu S).bind fun p=>if(slotsOf p.1).Nodup∧dW p.1≤1 then(dH p.2 p.1).bind fun us=>(fm us).bind fun r=>(wb p.1 r.2 p.2).map fun S2=>(r.1,S2) else none:=rfl
@[simp] theorem LX:dH S []=some []:=rfl
@[simp] theorem K6 (u:U) (us:List U):dH S (u :: us)=(resolve S u).bind fun w=>(dH S us).map fun ws=>w :: ws:=rfl
@[simp] theorem PJ:resolve S (.t d)=some (.t d):=rfl
@[simp] theorem PK:resolve S (.m o)=some (.b o):=rfl
@[simp] theorem PL (ns:List Int):resolve S (.s ns)=some (.s ns):=rfl
@[simp] theorem PM:resolve S (.v i)=match S[i]? with | some (some (.m o))=>some (.b o) | some (some (.b o))=>some (.b o) | _=>none:=rfl
@[simp] theorem NI:slotsOf []=[]:=rfl
@[simp] theorem SM (us:List U):slotsOf (.t d :: us)=slotsOf us:=rfl
@[simp] theorem SN (us:List U):slotsOf (.m o :: us)=slotsOf us:=rfl
@[simp] theorem SO (ns:List Int) (us:List U):slotsOf (.s ns :: us)=slotsOf us:=rfl
@[simp] theorem SQ (us:List U):slotsOf (.v i :: us)=i :: slotsOf us:=rfl
@[simp] theorem NJ:dW []=0:=rfl
@[simp] theorem SR (us:List U):dW (.t d :: us)=dW us:=rfl
@[simp] theorem SV (us:List U):dW (.m o :: us)=dW us+1:=rfl
@[simp] theorem SW (ns:List Int) (us:List U):dW (.s ns :: us)=dW us:=rfl
@[simp] theorem SX (us:List U):dW (.v i :: us)=dW us:=rfl
@[simp] theorem NK:wb [] [] S=some S:=rfl
@[simp] theorem SY (us:List U) (os:List MO):wb (.t d :: us) os S=wb us os S:=by cases os <;> rfl
@[simp] theorem S4 (ns:List Int) (us:List U) (os:List MO):wb (.s ns :: us) os S=wb us os S:=by cases os <;> rfl
@[simp] theorem S5 (us:List U) (os:List MO):wb (.m o :: us) (o' :: os) S=wb us os S:=rfl
@[simp] theorem S6 (us:List U) (os:List MO):wb (.v i :: us) (o :: os) S=match S[i]? with | some (some (.m _))=>wb us os (S.set i (some (.m o))) | some (some (.b _))=>wb us os (S.set i (some (.b o))) | _=>none:=rfl
@[simp] theorem S7:dh i gb S=match S[i]? with | some (some _)=>(gb S).bind fun p=>(match p.2[i]? with | some (some u)=>(qN u p.1).map fun d=>(d,p.2) | _=>none) | _=>none:=rfl
@[simp] theorem S8:jk i S=match S[i]? with | some (some u)=>(y9 u).map fun n=>(.int (n:Nat),S) | _=>none:=rfl
@[simp] theorem Z0 (h:List D→MO→Option (D×MO)):eM i h gA S=if Nh S i then(gA S).bind fun p=>yU p.2 i (h p.1) else none:=rfl
@[simp] theorem S9 (gk gv:GD):BI i gk gv S=(gv S).bind fun p=>match p.2[i]? with | some (some _)=>(gk p.2).bind fun r=>(yU r.2 i fun o=>(ve o r.1 p.1).map fun o'=>(.cH,o')).map fun z=>.nx z.2 | _=>none:=rfl
@[simp] theorem XZ (Ts:List String):u9 Ts g S=(g S).bind fun p=>(bJ Ts p.1).map fun b=>(.bl b,p.2):=rfl
@[simp] theorem K7 (ds:List D) (k:Int):qN (.t (.tup ds)) (.int k)=iJ ds k:=rfl
@[simp] theorem K8 (ds:List D) (k:Int):qN (.t (.lst ds)) (.int k)=iJ ds k:=rfl
@[simp] theorem K9 (ds:List D) (k:Int):qN (.m (.lst ds)) (.int k)=iJ ds k:=rfl
@[simp] theorem La (ds:List D) (k:Int):qN (.b (.lst ds)) (.int k)=iJ ds k:=rfl
@[simp] theorem Lb (kvs:List (Key×D)) (k:D):qN (.b (.dct kvs)) k=(keyOf k).bind (dw kvs):=by cases k <;> rfl
@[simp] theorem LY (ns:List Int) (k:Int):qN (.s ns) (.int k)=(iJ ns k).map D.int:=rfl
@[simp] theorem PN (k:Int):keyOf (.int k)=some (.inl k):=rfl
@[simp] theorem PR (k:Str):keyOf (.str k)=some (.inr k):=rfl
@[simp] theorem LZ (ds:List D):y9 (.t (.tup ds))=some ds.length:=rfl
@[simp] theorem L0 (ds:List D):y9 (.t (.lst ds))=some ds.length:=rfl
@[simp] theorem L1 (ds:List D):y9 (.m (.lst ds))=some ds.length:=rfl
@[simp] theorem L3 (ds:List D):y9 (.b (.lst ds))=some ds.length:=rfl
@[simp] theorem NL (ns:List Int):y9 (.s ns)=some ns.length:=rfl
@[simp] theorem X0 (C:Int→Int→Bool) (h:Int→Int→D) (x y:Int):Ft C h [.int x,.int y]=if C x y then some (.t (h x y)) else none:=rfl
@[simp] theorem NN (x y:Int):dm [.int x,.int y]=some (.t (.int (x+y))):=rfl
@[simp] theorem NO (x y:Str):dm [.str x,.str y]=if x.length+y.length≤100000 then some (.t (.str (x++y))) else none:=rfl
@[simp] theorem NP (x y:List D):dm [.tup x,.tup y]=if x.length+y.length≤100000 then some (.t (.tup (x++y))) else none:=rfl
@[simp] theorem NQ (x y:List D):dm [.lst x,.lst y]=if x.length+y.length≤100000 then some (.m (.lst (x++y))) else none:=rfl
@[simp] theorem Tc (x y:Int):BF [.int x,.int y]=if((decide (-(2 ^ 64) < x) && decide (x < 2 ^ 64)) || (decide (-(2 ^ 64) < y) && decide (y < 2 ^ 64))) then some (.t (.int (x * y))) else none:=rfl
@[simp] theorem Td (x:Int):HL [.int x]=some (.t (.int (-x))):=rfl
@[simp] theorem Te (ds:List D):br ds=if ds.length≤100000 then some (.t (.tup ds)) else none:=rfl
@[simp] theorem Tf (ds:List D):cG ds=if ds.length≤100000 then some (.m (.lst ds)) else none:=rfl
@[simp] theorem PU (ds:List D) (k:Int):zJ [.tup ds,.int k]=(iJ ds k).map .t:=rfl
@[simp] theorem PV (ds:List D) (k:Int):zJ [.lst ds,.int k]=(iJ ds k).map .t:=rfl
@[simp] theorem X3:ux [d,e]=if bW d≤40 then some (.t (.bl (kQ d e))) else none:=rfl
@[simp] theorem X4:Jh [d,e]=if bW d≤40 then some (.t (.bl (!kQ d e))) else none:=rfl
@[simp] theorem PX (x y z:Int):Nl [.int x,.int y,.int z]=some (.t (.int (if y < x then(if z < y then z else y) else if z < x then z else x))):=rfl
@[simp] theorem PY (x y:Int):C1 [.int x,.int y]=some (.t (.int (if y > x then y else x))):=rfl
@[simp] theorem NR (ds:List D):uV [.tup ds]=some (.t (.int ds.length)):=rfl
@[simp] theorem NS (ds:List D):uV [.lst ds]=some (.t (.int ds.length)):=rfl
@[simp] theorem L4 (ds:List D):tX [.tup ds]=some (.m (.lst ds)):=rfl
@[simp] theorem L5 (ds:List D):tX [.lst ds]=some (.m (.lst ds)):=rfl
@[simp] theorem Lc (ds:List D):FN [.tup ds]=some (.t (.tup ds)):=rfl
@[simp] theorem Ld (ds:List D):FN [.lst ds]=some (.t (.tup ds)):=rfl
@[simp] theorem Tg (ds:List D):FL [.lst ds]=(jY ds).map fun bs=>.t (.bl (bs.all id)):=rfl
@[simp] theorem Th (ds:List D):R5 [.lst ds]=(jY ds).map fun bs=>.t (.bl (bs.any id)):=rfl
@[simp] theorem PZ:Nn [d]=if Pr d then some (.t (.str (toPy d).shown)) else none:=rfl
@[simp] theorem uI (x y:Str):kQ (.str x) (.str y)=(x == y):=by simp[kQ]
@[simp] theorem P0 (x y:Int):kQ (.int x) (.int y)=(x == y):=by simp[kQ]
@[simp] theorem P1 (x y:Bool):kQ (.bl x) (.bl y)=(x == y):=by simp[kQ]
@[simp] theorem P4 (x:Str):bW (.str x)=0:=by simp[bW]
@[simp] theorem P5 (x:Int):bW (.int x)=0:=by simp[bW]
@[simp] theorem P6 (x:Bool):bW (.bl x)=0:=by simp[bW]
@[simp] theorem Ti (h:MO→Option (D×MO)):yU S i h=match S[i]? with | some (some (.m o))=>(h o).map fun r=>(r.1,S.set i (some (.m r.2))) | some (some (.b o))=>(h o).map fun r=>(r.1,S.set i (some (.b r.2))) | _=>none:=rfl
@[simp] theorem X5:Nh S i=match S[i]? with | some (some (.m (.lst _)))=>true | some (some (.b (.lst _)))=>true | _=>false:=rfl
@[simp] theorem L6 (kvs:List (Key×D)) (k:D):ve (.dct kvs) k d=(keyOf k).bind fun kk=>if kvs.length < 100000 then some (.dct (putD kvs kk d)) else none:=rfl
@[simp] theorem L7 (ds:List D) (k:Int):ve (.lst ds) (.int k) d=(Bg ds.length k).map fun j=>.lst (ds.set j d):=rfl
@[simp] theorem NT (ds:List D):hAppend [d] (.lst ds)=if ds.length < 100000 then some (.cH,.lst (ds++[d])) else none:=rfl
@[simp] theorem L8:aC [] S=some []:=by cases S <;> rfl
@[simp] theorem P7 (us:List U) (o2:MO):aC (.b o2 :: us) (some (.b o) :: S)=(aC us S).map fun os=>o :: os:=rfl
@[simp] theorem C5 (us:List U) (x:Option U):aC (.t d :: us) (x :: S)=aC us S:=by cases x <;> rfl
@[simp] theorem P8 (ns:List Int) (us:List U) (x:Option U):aC (.s ns :: us) (x :: S)=aC us S:=by cases x <;> rfl
end
structure fW where
 c:Int
 l:Int
 n:Int
noncomputable def cK (t:fW):List (Key×D):=[(.inr "cell",.int t.c),(.inr "left",.int t.l),(.inr "turn",.int t.n)]
noncomputable def nX:List (Key×D)→Option fW
 | [(k1,.int c),(k2,.int l),(k3,.int n)]=>if k1= .inr "cell"∧k2= .inr "left"∧k3= .inr "turn" then some ⟨c,l,n⟩ else none
 | _=>none
@[simp] theorem vm (t:fW):nX (cK t)=some t:=by simp[nX,cK]
theorem nY {kvs:List (Key×D)}{t:fW}(h:nX kvs=some t):kvs=cK t:=by
 unfold nX at h
 split at h
 ·obtain⟨⟨rfl,rfl,rfl⟩,rfl⟩:=cJ h
  rfl
 ·cases h
@[simp] theorem Tj (t:fW):dw (cK t) (.inr "cell")=some (.int t.c):=by rfl
@[simp] theorem Tn (t:fW):dw (cK t) (.inr "left")=some (.int t.l):=by rfl
@[simp] theorem To (t:fW):dw (cK t) (.inr "turn")=some (.int t.n):=by rfl
@[simp] theorem P9 (t:fW) (x:Int):putD (cK t) (.inr "turn") (.int x)=cK {t with n:=x}:=by rfl
@[simp] theorem Qa (t:fW) (x:Int):putD (cK t) (.inr "left") (.int x)=cK {t with l:=x}:=by rfl
@[simp] theorem NU (t:fW):(cK t).length=3:=rfl
noncomputable def mixed (c n:Int):Int:=(((c % 2147483647+31 * (n+1) * (n+1)+1) * 48271) % 2147483629+7 * (n+1)) * 69621 % 2147483587 / 7
noncomputable def aT (t:fW) (m:Int):Int:=if 0 < t.l then t.l % m else mixed t.c t.n % m
noncomputable def aH (t:fW) (m:Int):fW:=if 0 < t.l then⟨t.c,t.l / m,t.n+1⟩ else⟨t.c,t.l,t.n+1⟩
noncomputable def fO:FM
 | [.b (.dct kvs),.t (.int m)]=>(nX kvs).bind fun t=>if 0 < m∧m < 1000000∧0≤t.n∧t.n < 1000000 then some (.t (.int (aT t m)),[.dct (cK (aH t m))]) else none
 | _=>none
noncomputable def jP:GS:=
 (bI (dN 2 (eP dm (aa (dh 0 (eC (.str "turn"))) (aa (eC (.int 1)) ao))))
 (bI (BI 0 (eC (.str "turn")) (eF (az 2)))
 (bI (jU (qB (eF (eP BE (aa (dh 0 (eC (.str "left"))) (aa (eC (.int 0)) ao))))) (bI (dN 3 (eP wI (aa (dh 0 (eC (.str "left"))) (aa (eF (az 1)) ao))))
 (bI (BI 0 (eC (.str "left")) (eF (eP HJ (aa (dh 0 (eC (.str "left"))) (aa (eF (az 1)) ao)))))
 (cE (az 3)))) dM)
 (bI (dN 4 (eP BF (aa (eF (eP dm (aa (eF (eP dm (aa (eF (eP wI (aa (dh 0 (eC (.str "cell"))) (aa (eC (.int 2147483647)) ao)))) (aa (eF (eP BF (aa (eF (eP BF (aa (eC (.int 31)) (aa (eF (az 2)) ao)))) (aa (eF (az 2)) ao)))) ao)))) (aa (eC (.int 1)) ao)))) (aa (eC (.int 48271)) ao))))
 (bI (dN 4 (eP BF (aa (eF (eP dm (aa (eF (eP wI (aa (eF (az 4)) (aa (eC (.int 2147483629)) ao)))) (aa (eF (eP BF (aa (eC (.int 7)) (aa (eF (az 2)) ao)))) ao)))) (aa (eC (.int 69621)) ao))))
 (cE (eP wI (aa (eF (eP HJ (aa (eF (eP wI (aa (eF (az 4)) (aa (eC (.int 2147483587)) ao)))) (aa (eC (.int 7)) ao)))) (aa (eF (az 1)) ao)))))))))
theorem pick_run:∀us r,fO us=some r→aJ 5 jP us=some r:=by
 intro us r h
 unfold fO at h
 split at h
 ·rename_i kvs m
  obtain⟨t,h1,h⟩:=au h
  obtain⟨⟨h2,h3,h4,h5⟩,rfl⟩:=cJ h
  obtain rfl:=nY h1
  have e1:-18446744073709551616 < t.n+1:=by omega
  have e2:t.n+1 < 18446744073709551616:=by omega
  have e3:m < 1073741824:=by omega
  by_cases hl:0 < t.l
  ·simp[aJ,jP,aT,aH,hl,h2,e3]
  ·simp[aJ,jP,aT,aH,hl,h2,e3,mixed,e1,e2]
 ·cases h
end L2
end
section
set_option Elab.async false
set_option linter.all false
set_option maxRecDepth 100000
namespace L2
open PySem PySem.Spec PyProof.Rows
noncomputable def mZ:GS:=
 (bI (jU (uH (j5 (qB (u9 ["int"] (eF (az 0))))) (qB (u9 ["bool"] (eF (az 0))))) (cE (eT (eC (.bl false)))) dM)
 (cE (eT (eQ (je (qB (eF (eP Fv (aa (eF (az 1)) (aa (eF (az 0)) ao))))) (qB (eF (eP Fv (aa (eF (az 0)) (aa (eF (az 2)) ao))))))))))
noncomputable def nZ:FM
 | [.t d,.t (.int l),.t (.int m)]=>some (.t (.bl (cY d l m)),[])
 | _=>none
theorem whole_run:∀us r,nZ us=some r→aJ 3 mZ us=some r:=by
 intro us r h
 unfold nZ at h
 split at h
 ·rename_i d l m
  cases h
  cases d <;> simp[aJ,mZ,cY,bJ,cS,yP,zW]
  rename_i x
  by_cases h1:l≤x <;> simp[h1]
 ·cases h
noncomputable def m5:GS:=
 (cE (eT (eQ (je (qB (u9 ["tuple"] (eF (az 0)))) (je (qB (eF (eP Fv (aa (eF (az 1)) (aa (jk 0) ao))))) (qB (eF (eP Fv (aa (jk 0) (aa (eF (az 2)) ao))))))))))
noncomputable def oh:FM
 | [.t d,.t (.int l),.t (.int m)]=>some (.t (.bl (gf d l m)),[])
 | _=>none
theorem DQ:∀us r,oh us=some r→aJ 3 m5 us=some r:=by
 intro us r h
 unfold oh at h
 split at h
 ·rename_i d l m
  cases h
  cases d <;> simp[aJ,m5,gf,bJ,cS,bZ]
  rename_i x
  by_cases h1:l≤(x.length:Int) <;> simp[h1]
 ·cases h
noncomputable def iD:GS:=
 (cE (eT (eQ (je (qB (u9 ["int"] (eF (az 0)))) (je (qB (eQ (j5 (qB (u9 ["bool"] (eF (az 0))))))) (qB (LO Fv Fv (eC (.int 0)) (eF (az 0)) (eF (az 1)))))))))
noncomputable def cL:FM
 | [.t d,.t (.int m)]=>some (.t (.bl (cY d 0 m)),[])
 | _=>none
theorem Am:∀us r,cL us=some r→aJ 2 iD us=some r:=by
 intro us r h
 unfold cL at h
 split at h
 ·rename_i d m
  cases h
  cases d <;> simp[aJ,iD,cY,bJ,cS,yP,zW]
  rename_i x
  by_cases h1:(0:Int)≤x <;> simp[h1]
 ·cases h
noncomputable def j9:GS:=
 (cE (eP cG (aa (eC (.str "a")) (aa (eC (.str "ab")) (aa (eC (.str "abc")) (aa (eC (.str "b")) (aa (eC (.str "any")) (aa (eC (.str "name")) (aa (eC (.str "x")) (aa (eC (.str "zzzzzzzz")) ao))))))))))
noncomputable def se:List Str:=["a","ab","abc","b","any","name","x","zzzzzzzz"]
noncomputable def sf:FM
 | []=>some (.m (.lst (se.map D.str)),[])
 | _=>none
theorem DR:∀us r,sf us=some r→aJ 0 j9 us=some r:=by
 intro us r h
 unfold sf at h
 split at h
 ·cases h
  simp[aJ,j9,se]
 ·cases h
noncomputable def jQ:GS:=
 (bI (dN 2 (az 1))
 (bI (jU (qB (eF (eP BE (aa (jk 0) (aa (eC (.int 0)) ao))))) (dN 2 (eP dm (aa (dh 0 (eF (eP wI (aa (eF (az 1)) (aa (jk 0) ao))))) (aa (eF (eP HJ (aa (eF (az 1)) (aa (jk 0) ao)))) ao)))) dM)
 (cE (qO [("cell",(eF (az 2))),("left",(eF (eP C1 (aa (eC (.int 0)) (aa (eF (eP lX (aa (eF (az 2)) (aa (eF (eP Fw (aa (eC (.int 10)) (aa (eC (.int 18)) ao)))) ao)))) ao))))),("turn",(eC (.int 0)))]))))
noncomputable def An (ns:List Int) (k:Int):Int:=if 0 < ns.length then(iJ ns (k % ns.length)).getD 0+k / ns.length else k
noncomputable def xY (ns:List Int) (k:Int):fW:=⟨An ns k,if An ns k - 10 ^ 18 > 0 then An ns k - 10 ^ 18 else 0,0⟩
noncomputable def vn:FM
 | [.s ns,.t (.int k)]=>if 0≤k∧k < 1000000∧ns.length < 1000000 then some (.m (.dct (cK (xY ns k))),[]) else none
 | _=>none
theorem FU {α:Type}{l:List α}{i:Int}(h0:0≤i) (h1:i < l.length):∃x,iJ l i=some x:=by
 unfold iJ Bg
 rw[if_pos h0,if_pos h1]
 have:i.toNat < l.length:=by omega
 exact⟨l[i.toNat],List.getElem?_eq_getElem this⟩
@[simp] theorem NV (k1 k2 k3:Str) (g1 g2 g3:GD) (S:SS):qO [(k1,g1),(k2,g2),(k3,g3)] S=(g1 S).bind fun a=>(g2 a.2).bind fun b=>(g3 b.2).map fun c=>(.m (.dct (dI [] [(.inr k1,a.1),(.inr k2,b.1),(.inr k3,c.1)])),c.2):=by
 simp only[qO,mV]
 cases g1 S with
 | none=>rfl
 | some a=>
  simp only[Option.bind_some]
  cases g2 a.2 with
  | none=>rfl
  | some b=>
   simp only[Option.bind_some]
   cases g3 b.2 with
   | none=>rfl
   | some c=>rfl
theorem vo (c l n:Int):dI [] [(.inr "cell",.int c),(.inr "left",.int l),(.inr "turn",.int n)]=cK ⟨c,l,n⟩:=rfl
theorem FW:∀us r,vn us=some r→aJ 3 jQ us=some r:=by
 intro us r h
 unfold vn at h
 split at h
 ·rename_i ns k
  obtain⟨⟨h1,h2,h3⟩,rfl⟩:=cJ h
  by_cases hl:0 < ns.length
  ·have e0:(0:Int) < ns.length:=by omega
   obtain⟨x,hx⟩:=FU (l:=ns) (i:=k % ns.length) (Int.emod_nonneg _ (by omega)) (Int.emod_lt_of_pos _ e0)
   have e1:(ns.length:Int) < 1073741824:=by omega
   simp[aJ,jQ,e0,e1,hx,vo,xY,An,hl]
  ·have e0:¬(0:Int) < ns.length:=by omega
   simp[aJ,jQ,e0,vo,xY,An,hl]
 ·cases h
end L2
end
section
set_option Elab.async false
set_option linter.all false
set_option maxRecDepth 100000
namespace Sw
open PySem PySem.Spec PyProof.Rows L2
theorem bG {t:fW}{m:Int}(h:0 < m):0≤aT t m∧aT t m < m:=by
 unfold aT
 split
 ·exact⟨Int.emod_nonneg _ (by omega),Int.emod_lt_of_pos _ h⟩
 ·exact⟨Int.emod_nonneg _ (by omega),Int.emod_lt_of_pos _ h⟩
@[simp] theorem dX (t:fW) (m:Int):(aH t m).n=t.n+1:=by unfold aH;split <;> rfl
theorem mw {t:fW}{m:Int}(h1:0 < m) (h2:m < 1000000) (h3:0≤t.n) (h4:t.n < 1000000):fO [.b (.dct (cK t)),.t (.int m)]=some (.t (.int (aT t m)),[.dct (cK (aH t m))]):=by
 simp[fO,h1,h2,h3,h4]
theorem FY {α:Type}{l:List α}{i:Int}(h0:0≤i) (h1:i < l.length):iJ l i=some (l[i.toNat]'(by omega)):=by
 unfold iJ Bg
 rw[if_pos h0,if_pos h1]
 exact List.getElem?_eq_getElem (by omega)
end Sw
end
section
set_option Elab.async false
set_option linter.all false
set_option maxRecDepth 100000
namespace Sw
open PySem PySem.Spec PyProof.Rows L2
end Sw
end
section
set_option Elab.async false
set_option linter.all false
set_option maxRecDepth 100000
namespace Sw
open PySem PySem.Spec PyProof.Rows L2
noncomputable def m6 (aq:FM):GS:=
 (bI (dN 1 (eP cG (aa (eC .cH) (aa (eC (.bl true)) (aa (eC (.bl false)) (aa (eC (.int 0)) (aa (eF (eP HL (aa (eC (.int 1)) ao))) (aa (eC (.int 6)) (aa (eF (eP Fw (aa (eC (.int 10)) (aa (eC (.int 19)) ao)))) (aa (eC (.str "")) (aa (eC (.str "A")) (aa (eC (.str "a.b")) (aa (eC (.str "a1")) (aa (eC (.str "ninesigns")) ao))))))))))))))
 (bI (dN 1 (eP dm (aa (eF (az 1)) (aa (eF (eP cG (aa (eF (eP br ao)) (aa (eF (eP cG ao)) (aa (eF (eP br (aa (eC (.str "a")) ao))) (aa (eF (eP cG (aa (eC (.str "a")) (aa (eC (.int 0)) ao)))) (aa (eF (eP br (aa (eC (.str "a")) (aa (eC (.int 0)) ao)))) ao))))))) ao))))
 (cE (eT (dh 1 (eF (aP aq (cT (az 0) (aQ (eC (.int 17)) bN)))))))))
noncomputable def DS:List D:=[.cH,.bl true,.bl false,.int 0,.int (-1),.int 6,.int 10000000000000000000,.str "",.str "A",.str "a.b",.str "a1",.str "ninesigns",.tup [],.lst [],.tup [.str "a"],.lst [.str "a",.int 0],.tup [.str "a",.int 0]]
noncomputable def qU (t:fW):D:=DS.getD (aT t 17).toNat .cH
noncomputable def qV:FM
 | [.b (.dct kvs)]=>(nX kvs).bind fun t=>if 0≤t.n∧t.n < 900000 then some (.t (qU t),[.dct (cK (aH t 17))]) else none
 | _=>none
theorem oq {α:Type}{l:List α}{i:Int}{x:α}(h0:0≤i) (h1:i < l.length):iJ l i=some (l.getD i.toNat x):=by
 rw[FY h0 h1]
 have:i.toNat < l.length:=by omega
 simp[List.getD,this]
theorem Ih:∀us r,qV us=some r→aJ 2 (m6 fO) us=some r:=by
 intro us r h
 unfold qV at h
 split at h
 ·rename_i kvs
  obtain⟨t,h1,h⟩:=au h
  obtain⟨⟨h2,h3⟩,rfl⟩:=cJ h
  obtain rfl:=nY h1
  have e1:=mw (t:=t) (m:=17) (by omega) (by omega) h2 (by omega)
  have p:=bG (t:=t) (m:=17) (by omega)
  have e2:iJ DS (aT t 17)=some (qU t):=oq p.1 p.2
  unfold DS at e2
  simp[aJ,m6,e1,e2]
 ·cases h
noncomputable def bV (t:fW) (d:D):D×fW:=
 match d with
 | .tup ds=>if aT t 8 < 5 then
   (([.tup (cutD ds none (some (aT (aH t 8) (ds.length+1)))),.tup (ds++cutD ds (some (aT (aH t 8) (ds.length+1))) none),.tup (cutD ds none (some (aT (aH t 8) (ds.length+1)))++cutD ds (some (aT (aH t 8) (ds.length+1)+1)) none),.lst ds,.tup (ds++[.tup ds])]:List D).getD (aT t 8).toNat .cH,aH (aH t 8) (ds.length+1))
  else(qU (aH t 8),aH (aH t 8) 17)
 | .int i=>if cY (.int i) 0 100000000000000000000=true∧aT t 8 < 5 then(([.int (i+1),.int (i - 1),.int 5,.int 9,.int 10]:List D).getD (aT t 8).toNat .cH,aH t 8) else(qU (aH t 8),aH (aH t 8) 17)
 | .str z=>if aT t 8 < 6 then(([.str (z++("a":Str)),.str (Txt.slice z (some 1) none),.str (z++("A":Str)),.str "x",.str "now",.str "less"]:List D).getD (aT t 8).toNat .cH,aH t 8) else(qU (aH t 8),aH (aH t 8) 17)
 | _=>(qU (aH t 8),aH (aH t 8) 17)
noncomputable def eU:Nat→fW→D→D×fW
  | k + 1, t, .tup ds => if ds.length = 0 then bV t (.tup ds) else if 0 < aT t 4 then
      (.tup (cutD ds none (some (aT (aH t 4) ds.length))++[(eU k (aH (aH t 4) ds.length) (ds.getD (aT (aH t 4) ds.length).toNat .cH)).1]++cutD ds (some (aT (aH t 4) ds.length+1)) none),(eU k (aH (aH t 4) ds.length) (ds.getD (aT (aH t 4) ds.length).toNat .cH)).2)
    else bV (aH t 4) (.tup ds)
  | _,t,d=>bV t d
noncomputable def kX (aq:FM) (aV:FM) (aX:FM) (aZ:FM):GS:=
 (bI (jU (je (qB (u9 ["tuple"] (eF (az 1)))) (je (qB (eF (eP BE (aa (jk 1) (aa (eC (.int 0)) ao))))) (je (qB (eF (eP BE (aa (eF (az 2)) (aa (eC (.int 0)) ao))))) (qB (eF (eP BE (aa (eF (aP aq (cT (az 0) (aQ (eC (.int 4)) bN)))) (aa (eC (.int 0)) ao)))))))) (bI (dN 3 (aP aq (cT (az 0) (aQ (jk 1) bN))))
 (cE (eP dm (aa (eF (eP dm (aa (eF (zK (eF (az 1)) none (some (eF (az 3))))) (aa (eF (eP br (aa (eF (aP aV (cT (az 0) (aQ (dh 1 (eF (az 3))) (aQ (eF (eP lX (aa (eF (az 2)) (aa (eC (.int 1)) ao)))) bN))))) ao))) ao)))) (aa (eF (zK (eF (az 1)) (some (eF (eP dm (aa (eF (az 3)) (aa (eC (.int 1)) ao))))) none)) ao))))) dM)
 (bI (dN 4 (aP aq (cT (az 0) (aQ (eC (.int 8)) bN))))
 (bI (jU (je (qB (u9 ["tuple"] (eF (az 1)))) (qB (eF (eP CU (aa (eF (az 4)) (aa (eC (.int 5)) ao)))))) (bI (dN 3 (aP aq (cT (az 0) (aQ (eF (eP dm (aa (jk 1) (aa (eC (.int 1)) ao)))) bN))))
 (cE (eP zJ (aa (eF (eP cG (aa (eF (zK (eF (az 1)) none (some (eF (az 3))))) (aa (eF (eP dm (aa (eF (az 1)) (aa (eF (zK (eF (az 1)) (some (eF (az 3))) none)) ao)))) (aa (eF (eP dm (aa (eF (zK (eF (az 1)) none (some (eF (az 3))))) (aa (eF (zK (eF (az 1)) (some (eF (eP dm (aa (eF (az 3)) (aa (eC (.int 1)) ao))))) none)) ao)))) (aa (eF (eP tX (aa (eF (az 1)) ao))) (aa (eF (eP dm (aa (eF (az 1)) (aa (eF (eP br (aa (eF (az 1)) ao))) ao)))) ao))))))) (aa (eF (az 4)) ao))))) dM)
 (bI (jU (je (qB (eF (aP aX (aQ (eF (az 1)) (aQ (eF (eP Fw (aa (eC (.int 10)) (aa (eC (.int 20)) ao)))) bN))))) (qB (eF (eP CU (aa (eF (az 4)) (aa (eC (.int 5)) ao)))))) (cE (eP zJ (aa (eF (eP cG (aa (eF (eP dm (aa (eF (az 1)) (aa (eC (.int 1)) ao)))) (aa (eF (eP lX (aa (eF (az 1)) (aa (eC (.int 1)) ao)))) (aa (eC (.int 5)) (aa (eC (.int 9)) (aa (eC (.int 10)) ao))))))) (aa (eF (az 4)) ao)))) dM)
 (bI (jU (je (qB (u9 ["str"] (eF (az 1)))) (qB (eF (eP CU (aa (eF (az 4)) (aa (eC (.int 6)) ao)))))) (cE (eP zJ (aa (eF (eP cG (aa (eF (eP dm (aa (eF (az 1)) (aa (eC (.str "a")) ao)))) (aa (eF (zK (eF (az 1)) (some (eC (.int 1))) none)) (aa (eF (eP dm (aa (eF (az 1)) (aa (eC (.str "A")) ao)))) (aa (eC (.str "x")) (aa (eC (.str "now")) (aa (eC (.str "less")) ao)))))))) (aa (eF (az 4)) ao)))) dM)
 (cE (aP aZ (cT (az 0) bN))))))))
open Classical in
noncomputable def gD (j:Nat):FM
 | [.b (.dct kvs),.t d,.t (.int k)]=>(nX kvs).bind fun t=>if 0≤k∧k < j∧iC 5000 d∧0≤t.n∧t.n+2 * k < 600000 then some (.t (eU k.toNat t d).1,[.dct (cK (eU k.toNat t d).2)]) else none
 | _=>none
noncomputable def dP (aq:FM) (aV:FM) (aX:FM) (aZ:FM):GS:=
 (bI (dN 4 (aP aq (cT (az 0) (aQ (eC (.int 8)) bN))))
 (bI (jU (je (qB (u9 ["tuple"] (eF (az 1)))) (qB (eF (eP CU (aa (eF (az 4)) (aa (eC (.int 5)) ao)))))) (bI (dN 3 (aP aq (cT (az 0) (aQ (eF (eP dm (aa (jk 1) (aa (eC (.int 1)) ao)))) bN))))
 (cE (eP zJ (aa (eF (eP cG (aa (eF (zK (eF (az 1)) none (some (eF (az 3))))) (aa (eF (eP dm (aa (eF (az 1)) (aa (eF (zK (eF (az 1)) (some (eF (az 3))) none)) ao)))) (aa (eF (eP dm (aa (eF (zK (eF (az 1)) none (some (eF (az 3))))) (aa (eF (zK (eF (az 1)) (some (eF (eP dm (aa (eF (az 3)) (aa (eC (.int 1)) ao))))) none)) ao)))) (aa (eF (eP tX (aa (eF (az 1)) ao))) (aa (eF (eP dm (aa (eF (az 1)) (aa (eF (eP br (aa (eF (az 1)) ao))) ao)))) ao))))))) (aa (eF (az 4)) ao))))) dM)
 (bI (jU (je (qB (eF (aP aX (aQ (eF (az 1)) (aQ (eF (eP Fw (aa (eC (.int 10)) (aa (eC (.int 20)) ao)))) bN))))) (qB (eF (eP CU (aa (eF (az 4)) (aa (eC (.int 5)) ao)))))) (cE (eP zJ (aa (eF (eP cG (aa (eF (eP dm (aa (eF (az 1)) (aa (eC (.int 1)) ao)))) (aa (eF (eP lX (aa (eF (az 1)) (aa (eC (.int 1)) ao)))) (aa (eC (.int 5)) (aa (eC (.int 9)) (aa (eC (.int 10)) ao))))))) (aa (eF (az 4)) ao)))) dM)
 (bI (jU (je (qB (u9 ["str"] (eF (az 1)))) (qB (eF (eP CU (aa (eF (az 4)) (aa (eC (.int 6)) ao)))))) (cE (eP zJ (aa (eF (eP cG (aa (eF (eP dm (aa (eF (az 1)) (aa (eC (.str "a")) ao)))) (aa (eF (zK (eF (az 1)) (some (eC (.int 1))) none)) (aa (eF (eP dm (aa (eF (az 1)) (aa (eC (.str "A")) ao)))) (aa (eC (.str "x")) (aa (eC (.str "now")) (aa (eC (.str "less")) ao)))))))) (aa (eF (az 4)) ao)))) dM)
 (cE (aP aZ (cT (az 0) bN)))))))
noncomputable def iQ (aq:FM) (aV:FM) (aX:FM) (aZ:FM):GS:=
 (jU (je (qB (u9 ["tuple"] (eF (az 1)))) (je (qB (eF (eP BE (aa (jk 1) (aa (eC (.int 0)) ao))))) (je (qB (eF (eP BE (aa (eF (az 2)) (aa (eC (.int 0)) ao))))) (qB (eF (eP BE (aa (eF (aP aq (cT (az 0) (aQ (eC (.int 4)) bN)))) (aa (eC (.int 0)) ao)))))))) (bI (dN 3 (aP aq (cT (az 0) (aQ (jk 1) bN))))
 (cE (eP dm (aa (eF (eP dm (aa (eF (zK (eF (az 1)) none (some (eF (az 3))))) (aa (eF (eP br (aa (eF (aP aV (cT (az 0) (aQ (dh 1 (eF (az 3))) (aQ (eF (eP lX (aa (eF (az 2)) (aa (eC (.int 1)) ao)))) bN))))) ao))) ao)))) (aa (eF (zK (eF (az 1)) (some (eF (eP dm (aa (eF (az 3)) (aa (eC (.int 1)) ao))))) none)) ao))))) dM)
theorem Ii (f1 f2 f3 f4:FM):kX f1 f2 f3 f4=bI (iQ f1 f2 f3 f4) (dP f1 f2 f3 f4):=rfl
@[simp] theorem NW (g:GD) (lo hi:Option GD) (S:SS):zK g lo hi S=(g S).bind fun p=>(mq lo p.2).bind fun l=>(mq hi l.2).bind fun h=>(HX p.1 l.1 h.1).map fun u=>(u,h.2):=rfl
@[simp] theorem Tp (S:SS):mq none S=some (none,S):=rfl
@[simp] theorem Tq (g:GD) (S:SS):mq (some g) S=(g S).bind fun p=>match p.1 with | .int i=>some (some i,p.2) | _=>none:=rfl
@[simp] theorem Ij (ds:List D) (lo hi:Option Int):HX (.tup ds) lo hi=some (.t (.tup (cutD ds lo hi))):=rfl
@[simp] theorem Ik (ds:List D) (lo hi:Option Int):HX (.lst ds) lo hi=some (.m (.lst (cutD ds lo hi))):=rfl
@[simp] theorem Qc (z:Str) (lo hi:Option Int):HX (.str z) lo hi=if z.length≤100000 then some (.t (.str (Txt.slice z lo hi))) else none:=rfl
theorem wM {t : fW} {d k : D} {x3 : Option U} {f2 : FM} (hf : iC 5000 d) (h3 : 0 ≤ t.n) (h4 : t.n < 700000) (hx : x3 = none ∨ ∃ a, x3 = some (.t a)) :
    ∃y z w,dP fO f2 cL qV [some (.b (.dct (cK t))),some (.t d),some (.t k),x3,none]=some (.rt (.t (bV t d).1) [some (.b (.dct (cK (bV t d).2))),y,z,w,some (.t (.int (aT t 8)))]):=by
  have e1:=mw (t:=t) (m:=8) (by omega) (by omega) h3 (by omega)
  have p1:=bG (t:=t) (m:=8) (by omega)
  have o1:qV [.b (.dct (cK (aH t 8)))]=some (.t (qU (aH t 8)),[.dct (cK (aH (aH t 8) 17))]):=by
    have a1:0≤t.n+1:=by omega
    have a2:t.n+1 < 900000:=by omega
    simp[qV,a1,a2]
  cases d with
  | tup ds=>
    have hl:ds.length≤5000:=hf.1
    have e2:=mw (t:=aH t 8) (m:=ds.length+1) (by omega) (by omega) (by simp;omega) (by simp;omega)
    by_cases hw:aT t 8 < 5
    · have e3:=oq (α:=D) (x:=.cH) (l:=[.tup (cutD ds none (some (aT (aH t 8) (ds.length+1)))),.tup (ds++cutD ds (some (aT (aH t 8) (ds.length+1))) none),.tup (cutD ds none (some (aT (aH t 8) (ds.length+1)))++cutD ds (some (aT (aH t 8) (ds.length+1)+1)) none),.lst ds,.tup (ds++[.tup ds])]) p1.1 (by simpa using hw)
      have c1:=fY ds none (some (aT (aH t 8) (ds.length+1)))
      have c2:=fY ds (some (aT (aH t 8) (ds.length+1))) none
      have c3:=fY ds (some (aT (aH t 8) (ds.length+1)+1)) none
      have g1:ds.length+(cutD ds (some (aT (aH t 8) (ds.length+1))) none).length≤100000:=by omega
      have g2:(cutD ds none (some (aT (aH t 8) (ds.length+1)))).length+(cutD ds (some (aT (aH t 8) (ds.length+1)+1)) none).length≤100000:=by omega
      have g3:ds.length+1≤100000:=by omega
      refine⟨some (.t (.tup ds)),some (.t k),some (.t (.int (aT (aH t 8) (ds.length+1)))),?_⟩
      rcases hx with rfl | ⟨a,rfl⟩
      · simp[dP,e1,e2,hw,bJ,cS,bZ,e3,g1,g2,g3,bV]
      · simp[dP,e1,e2,hw,bJ,cS,bZ,e3,g1,g2,g3,bV]
    · refine⟨some (.t (.tup ds)),some (.t k),x3,?_⟩
      simp[dP,e1,hw,bJ,cS,bZ,dU,bV,cL,cY,o1]
  | int i =>
    by_cases hw:cY (.int i) 0 100000000000000000000=true∧aT t 8 < 5
    · have e3:=oq (α:=D) (x:=.cH) (l:=[.int (i+1),.int (i - 1),.int 5,.int 9,.int 10]) p1.1 (by simpa using hw.2)
      refine⟨some (.t (.int i)),some (.t k),x3,?_⟩
      simp[dP,e1,hw.1,hw.2,bJ,cS,bZ,e3,bV,cL]
    · refine⟨some (.t (.int i)),some (.t k),x3,?_⟩
      by_cases h1:cY (.int i) 0 100000000000000000000=true
      · have h2:¬aT t 8 < 5:=fun z=>hw ⟨h1,z⟩
        simp[dP,e1,h1,h2,bJ,cS,bZ,dU,bV,cL,o1]
      · simp[dP,e1,h1,bJ,cS,bZ,dU,bV,cL,o1]
  | str z=>
    have hl:z.length≤5000:=hf
    by_cases hw:aT t 8 < 6
    · have e3:=oq (α:=D) (x:=.cH) (l:=[.str (z++("a":Str)),.str (Txt.slice z (some 1) none),.str (z++("A":Str)),.str "x",.str "now",.str "less"]) p1.1 (by simpa using hw)
      have g1:z.length+("a":Str).length≤100000:=by show z.length+1≤100000;omega
      have g2:z.length+("A":Str).length≤100000:=by show z.length+1≤100000;omega
      have g3:z.length≤100000:=by omega
      refine⟨some (.t (.str z)),some (.t k),x3,?_⟩
      simp[dP,e1,hw,bJ,cS,bZ,dU,e3,bV,cL,cY,g1,g2,g3]
    · refine⟨some (.t (.str z)),some (.t k),x3,?_⟩
      simp[dP,e1,hw,bJ,cS,bZ,dU,bV,cL,cY,o1]
  | cH=>exact⟨some (.t .cH),some (.t k),x3,by simp[dP,e1,bJ,cS,bZ,dU,bV,cL,cY,o1]⟩
  | bl b=>exact⟨some (.t (.bl b)),some (.t k),x3,by simp[dP,e1,bJ,cS,bZ,dU,bV,cL,cY,o1]⟩
  | lst ds=>exact⟨some (.t (.lst ds)),some (.t k),x3,by simp[dP,e1,bJ,cS,bZ,dU,bV,cL,cY,o1]⟩
theorem mz {α:Type}{l:List α}{i:Int}{x:α}(h0:0≤i) (h1:i < l.length):l.getD i.toNat x∈l:=by
 have:i.toNat < l.length:=by omega
 simp[List.getD,this]
theorem Fits.mem {n:Nat}:∀{ds:List D}{d:D},Fits n ds→d∈ds→iC n d
 | _ :: _,_,h,m=>by
  rcases List.mem_cons.mp m with rfl | m
  ·exact h.1
  ·exact Fits.mem h.2 m
theorem FZ (j : Nat) : ∀ us r, gD (j + 1) us = some r → aJ 5 (kX fO (gD j) cL qV) us = some r := by
  intro us r h
  unfold gD at h
  split at h
  · rename_i kvs d k
    obtain⟨t,h1,h⟩:=au h
    obtain⟨⟨hk0,hkj,hf,h3,h4⟩,rfl⟩:=cJ h
    obtain rfl:=nY h1
    rw[Ii]
    have tl:∀(t':fW) (x3:Option U),0≤t'.n→t'.n < 700000→(x3=none∨∃a,x3=some (.t a))→(iQ fO (gD j) cL qV) [some (.b (.dct (cK t))),some (.t d),some (.t (.int k)),none,none]=some (.nx [some (.b (.dct (cK t'))),some (.t d),some (.t (.int k)),x3,none])→
        aJ 5 (bI (iQ fO (gD j) cL qV) (dP fO (gD j) cL qV)) [.b (.dct (cK t)),.t d,.t (.int k)]=some (.t (bV t' d).1,[.dct (cK (bV t' d).2)]):=fun t' x3 a1 a2 a3 eh=>by
      obtain⟨y,z,w,e⟩:=wM (k:=.int k) (f2:=gD j) hf a1 a2 a3
      simp[aJ,eh,e]
    by_cases hd:∃ds,d= .tup ds∧0 < ds.length∧0 < k
    · obtain⟨ds,rfl,hl,hk⟩:=hd
      have Z1:ds.length≤5000:=hf.1
      obtain⟨m,hm⟩:∃m:Nat,k.toNat=m+1:=⟨k.toNat - 1,by omega⟩
      have e1:=mw (t:=t) (m:=4) (by omega) (by omega) h3 (by omega)
      have c1:(0:Int) < ds.length:=by omega
      have n1:ds.length≠0:=by omega
      by_cases hp:0 < aT t 4
      · have e2:=mw (t:=aH t 4) (m:=ds.length) c1 (by omega) (by simp;omega) (by simp;omega)
        have p2:=bG (t:=aH t 4) (m:=ds.length) c1
        have e3:=oq (α:=D) (x:=.cH) p2.1 p2.2
        have hmem:=mz (α:=D) (x:=.cH) p2.1 p2.2
        have e4:gD j [.b (.dct (cK (aH (aH t 4) ds.length))),.t (ds.getD (aT (aH t 4) ds.length).toNat .cH),.t (.int (k - 1))]=some (.t (eU m (aH (aH t 4) ds.length) (ds.getD (aT (aH t 4) ds.length).toNat .cH)).1,[.dct (cK (eU m (aH (aH t 4) ds.length) (ds.getD (aT (aH t 4) ds.length).toNat .cH)).2)]):=by
          have q1:0≤k - 1∧k - 1 < (j:Int)∧iC 5000 (ds.getD (aT (aH t 4) ds.length).toNat .cH)∧0≤(aH (aH t 4) ds.length).n∧(aH (aH t 4) ds.length).n+2 * (k - 1) < 600000:=by
            refine⟨by omega,by omega,Fits.mem hf.2 hmem,by simp;omega,by simp;omega⟩
          have q2:(k - 1).toNat=m:=by omega
          unfold gD
          simp only[vm,Option.bind_some]
          rw[if_pos q1,q2]
        generalize hx:eU m (aH (aH t 4) ds.length) (ds.getD (aT (aH t 4) ds.length).toNat .cH)=bx at e4
        have c2:=fY ds none (some (aT (aH t 4) ds.length))
        have c3:=fY ds (some (aT (aH t 4) ds.length+1)) none
        have g1:(cutD ds none (some (aT (aH t 4) ds.length))).length+1≤100000:=by omega
        have g2:(cutD ds none (some (aT (aH t 4) ds.length))).length+1+(cutD ds (some (aT (aH t 4) ds.length+1)) none).length≤100000:=by omega
        have eb:eU k.toNat t (.tup ds)=(.tup (cutD ds none (some (aT (aH t 4) ds.length))++[bx.1]++cutD ds (some (aT (aH t 4) ds.length+1)) none),bx.2):=by
          rw[hm]
          unfold eU
          rw[if_neg n1,if_pos hp,hx]
        rw[eb]
        rw[List.getD_eq_getElem?_getD] at e3 e4
        simp[aJ,iQ,bJ,cS,bZ,hl,hk,e1,hp,e2,e3,e4,g1,g2]
      · have eb:eU k.toNat t (.tup ds)=bV (aH t 4) (.tup ds):=by
          rw[hm]
          unfold eU
          rw[if_neg n1,if_neg hp]
        rw[eb]
        refine tl (aH t 4) none (by simp;omega) (by simp;omega) (.inl rfl) ?_
        simp[iQ,bJ,cS,bZ,hl,hk,e1,hp]
    · have eb:eU k.toNat t d=bV t d:=by
        cases d with
        | tup ds=>
          cases hm:k.toNat with
          | zero=>unfold eU;rfl
          | succ m=>
            unfold eU
            rw[if_pos]
            exact Classical.byContradiction fun z=>hd ⟨ds,rfl,by omega,by omega⟩
        | _=>cases k.toNat <;> rfl
      rw[eb]
      refine tl t none h3 (by omega) (.inl rfl) ?_
      cases d with
      | tup ds=>
        by_cases c1:0 < ds.length
        · have c2:¬0 < k:=fun z=>hd ⟨ds,rfl,c1,z⟩
          simp[iQ,bJ,cS,bZ,c1,c2]
        · simp[iQ,bJ,cS,bZ,c1]
      | _=>simp[iQ,bJ,cS,bZ]
  · cases h
end Sw
end
section
set_option Elab.async false
set_option linter.all false
set_option maxRecDepth 100000
namespace Sw
open PySem PySem.Spec PyProof.Rows L2
theorem Ga:∀(ts:List D) (S:SS),S.length=ts.length→aC (ts.map U.t) S=some []
 | [],S,_=>by cases S <;> rfl
 | d :: ts,[],h=>by cases h
 | d :: ts,x :: S,h=>by
  show aC (U.t d :: ts.map U.t) (x :: S)=_
  rw[C5]
  exact Ga ts S (by simpa using h)
theorem Jm (S:SS):∀ts:List D,dH S (ts.map U.t)=some (ts.map U.t)
 | []=>rfl
 | d :: ts=>by
  show(some (U.t d)).bind _=_
  rw[Jm S ts]
  rfl
theorem NX:∀ts:List D,slotsOf (ts.map U.t)=[]
 | []=>rfl
 | d :: ts=>NX ts
theorem NY:∀ts:List D,dW (ts.map U.t)=0
 | []=>rfl
 | d :: ts=>NY ts
theorem Le (S:SS):∀ts:List D,wb (ts.map U.t) [] S=some S
 | []=>rfl
 | d :: ts=>Le S ts
theorem qW {cap:List Nat}{q:GT}{g:GD}{S:SS}{ts:List D}(hc:kW S cap=some (ts.map U.t)) (p:D→Bool) (f:D→D):∀(ds acc:List D),
    (∀d∈ds,q (some (.t d) :: ts.map fun x=>some (.t x))=some (p d,some (.t d) :: ts.map fun x=>some (.t x)))→(∀d∈ds,p d=true→g (some (.t d) :: ts.map fun x=>some (.t x))=some (f d,some (.t d) :: ts.map fun x=>some (.t x)))→
    ir cap q g ds S acc=some (acc++(ds.filter p).map f,S)
  | [],acc,_,_=>by simp[ir]
  | d :: ds, acc, hq, hg => by
    have em:(ts.map U.t).map some=ts.map fun x=>some (U.t x):=by simp
    have eo:aC (.t d :: ts.map U.t) (some (.t d) :: ts.map fun x=>some (.t x))=some []:=by rw[C5];exact Ga ts _ (by simp)
    have q0:=hq d (List.mem_cons_self)
    unfold ir
    rw[hc]
    simp only[Option.bind_some]
    rw[if_pos ⟨by rw[NX];exact List.nodup_nil,by rw[NY];exact Nat.zero_le _⟩,Jm]
    simp only[Option.bind_some]
    rw[em,q0]
    simp only[Option.bind_some]
    by_cases hp:p d=true
    · rw[if_pos hp,hg d List.mem_cons_self hp]
      simp only[Option.bind_some]
      rw[eo]
      simp only[Option.bind_some]
      rw[Le]
      simp only[Option.bind_some]
      rw[qW hc p f ds (acc++[f d]) (fun e he=>hq e (List.mem_cons_of_mem _ he)) (fun e he=>hg e (List.mem_cons_of_mem _ he)),List.filter_cons_of_pos hp]
      simp
    · rw[if_neg hp,eo]
      simp only[Option.bind_some]
      rw[Le]
      simp only[Option.bind_some]
      rw[qW hc p f ds acc (fun e he=>hq e (List.mem_cons_of_mem _ he)) (fun e he=>hg e (List.mem_cons_of_mem _ he)),List.filter_cons_of_neg hp]
theorem xZ {cap:List Nat}{g:GD}{S:SS}{ts:List D}(hc:kW S cap=some (ts.map U.t)) (f:D→D) (ds acc:List D) (hg:∀d∈ds,g (some (.t d) :: ts.map fun x=>some (.t x))=some (f d,some (.t d) :: ts.map fun x=>some (.t x))):
  ir cap xO g ds S acc=some (acc++ds.map f,S):=by
 rw[qW hc (fun _=>true) f ds acc (fun _ _=>rfl) (fun d hd _=>hg d hd),List.filter_eq_self.mpr (fun _ _=>rfl)]
@[simp] theorem Qd (cap:List Nat) (gi:GI) (q:GT) (g:GD) (S:SS):tU cap gi q g S=(gi S).bind fun p=>if p.1.length≤100000 then(ir cap q g p.1 p.2 []).map fun r=>(.m (.lst r.1),r.2) else none:=rfl
theorem ou (g:GD) (S:SS):qF g S=(g S).bind fun p=>match p.1 with | .tup ds=>some (ds,p.2) | .lst ds=>some (ds,p.2) | .str z=>some (z.cps.toList.map fun c=>.str ⟨#[c]⟩,p.2) | _=>none:=rfl
theorem sr {α:Type}(f:α→Bool):∀ds:List α,jY (ds.map fun d=>.bl (f d))=some (ds.map f)
 | []=>rfl
 | d :: ds=>by simp[jY,sr f ds]
end Sw
end
section
set_option Elab.async false
set_option linter.all false
set_option maxRecDepth 100000
namespace Sw
open PySem PySem.Spec PyProof.Rows L2
theorem DT {x:D}{z:Str}(h:kQ (.str z) x=true):x= .str z:=by
 cases x <;> simp[kQ] at h
 rw[h]
end Sw
end
section
set_option Elab.async false
set_option linter.all false
set_option maxRecDepth 100000
namespace Sw
open PySem PySem.Spec PyProof.Rows L2
mutual
noncomputable def Sane:D→Prop
 | .int i=>i.natAbs < 10 ^ 30
 | .str z=>∀c∈z.cps.toList,c < 16 ^ 8
 | .tup ds=>ji ds
 | .lst ds=>ji ds
 | .cH=>True
 | .bl _=>True
noncomputable def ji:List D→Prop
 | []=>True
 | d :: ds=>Sane d∧ji ds
end
mutual
noncomputable def wD:D→Nat
 | .cH=>6
 | .bl _=>6
 | .int _=>40
 | .str z=>10 * z.length+2
 | .tup ds=>Gb ds+4
 | .lst ds=>Gb ds+4
noncomputable def Gb:List D→Nat
 | []=>0
 | d :: ds=>wD d+2+Gb ds
end
theorem BP:∀as bs:List D,Gb (as++bs)=Gb as+Gb bs
 | [],bs=>by show Gb bs=0+Gb bs;omega
 | a :: as,bs=>by show wD a+2+Gb (as++bs)=wD a+2+Gb as+Gb bs;rw[BP as bs];omega
theorem ji.append:∀{as bs:List D},ji as→ji bs→ji (as++bs)
 | [],_,_,h=>h
 | _ :: _,_,h,k=>⟨h.1,ji.append h.2 k⟩
theorem ji.mem:∀{ds:List D}{d:D},ji ds→d∈ds→Sane d
 | _ :: _,_,h,m=>by
  rcases List.mem_cons.mp m with rfl | m
  ·exact h.1
  ·exact ji.mem h.2 m
theorem ji.of:∀{ds:List D},(∀d∈ds,Sane d)→ji ds
 | [],_=>True.intro
 | d :: ds,h=>⟨h d List.mem_cons_self,ji.of fun e he=>h e (List.mem_cons_of_mem _ he)⟩
theorem ji.cut {ds:List D}(h:ji ds) (lo hi:Option Int):ji (cutD ds lo hi):=ji.of fun d hd=>h.mem (List.mem_of_mem_drop (List.mem_of_mem_take hd))
theorem gX:∀as bs:List D,bF (as++bs)=max (bF as) (bF bs)
 | [],bs=>by show bF bs=max 0 (bF bs);omega
 | a :: as,bs=>by show max (bW a) (bF (as++bs))=max (max (bW a) (bF as)) (bF bs);rw[gX as bs];omega
theorem vp {ds:List D}{n:Nat}(h:∀d∈ds,bW d≤n):bF ds≤n:=by
 induction ds with
 | nil=>exact Nat.zero_le _
 | cons d ds ih=>
  show max (bW d) (bF ds)≤n
  have:=h d List.mem_cons_self
  have:=ih fun e he=>h e (List.mem_cons_of_mem _ he)
  omega
theorem su (ds:List D) (lo hi:Option Int):bF (cutD ds lo hi)≤bF ds:=vp fun d hd=>pD (List.mem_of_mem_drop (List.mem_of_mem_take hd))
structure Good (n k:Nat) (d:D):Prop where
 Tr:Sane d
 w:wD d≤n
 dep:bW d≤k
theorem Good.mono {n k n' k':Nat}{d:D}(h:Good n k d) (a:n≤n') (b:k≤k'):Good n' k' d:=⟨h.Tr,Nat.le_trans h.w a,Nat.le_trans h.dep b⟩
end Sw
end
section
set_option Elab.async false
set_option linter.all false
set_option maxRecDepth 100000
namespace Sw
open PySem PySem.Spec PyProof.Rows L2
end Sw
end
section
set_option Elab.async false
set_option linter.all false
set_option maxRecDepth 100000
namespace Sw
open PySem PySem.Spec PyProof.Rows L2
theorem uc (t:fW) (d:D):t.n+1≤(bV t d).2.n∧(bV t d).2.n≤t.n+2:=by
 unfold bV
 cases d <;> dsimp only <;> (try split) <;> simp <;> omega
theorem BQ : ∀ (k : Nat) (t : fW) (d : D), t.n + 1 ≤ (eU k t d).2.n ∧ (eU k t d).2.n ≤ t.n + 2 * k + 3
  | 0,t,d=>by
    have e:eU 0 t d=bV t d:=by cases d <;> rfl
    rw[e];have:=uc t d;omega
  | k + 1, t, d => by
    cases d with
    | tup ds =>
      unfold eU
      split
      · have:=uc t (.tup ds);omega
      · split
        · have:=BQ k (aH (aH t 4) ds.length) (ds.getD (aT (aH t 4) ds.length).toNat .cH)
          simp only[dX] at this
          constructor <;> dsimp only <;> omega
        · have:=uc (aH t 4) (.tup ds);simp only[dX] at this;omega
    | cH=>have:=uc t .cH;show t.n+1≤(bV t .cH).2.n∧(bV t .cH).2.n≤_;omega
    | bl b=>have:=uc t (.bl b);show t.n+1≤(bV t (.bl b)).2.n∧(bV t (.bl b)).2.n≤_;omega
    | int b=>have:=uc t (.int b);show t.n+1≤(bV t (.int b)).2.n∧(bV t (.int b)).2.n≤_;omega
    | str b=>have:=uc t (.str b);show t.n+1≤(bV t (.str b)).2.n∧(bV t (.str b)).2.n≤_;omega
    | lst b=>have:=uc t (.lst b);show t.n+1≤(bV t (.lst b)).2.n∧(bV t (.lst b)).2.n≤_;omega
end Sw
end
section
set_option Elab.async false
set_option linter.all false
set_option maxRecDepth 100000
namespace Sw
open PySem PySem.Spec PyProof.Rows L2
noncomputable def BR (n:Nat):FM
 | [.s ns]=>if ns.length≤n then some (.t (.bl true),[]) else none
 | _=>none
theorem Ao (us:List U):gD 0 us=none:=by
 unfold gD
 split
 ·rename_i kvs d k
  cases nX kvs with
  | none=>rfl
  | some t=>
   simp only[Option.bind_some]
   rw[if_neg]
   intro h
   have:=h.1
   have:=h.2.1
   omega
 ·rfl
theorem sA {P:Program}{w:World}{K:PySem.W.Frag}{mg:Str→Option Value}{base:Heap}{f:Addr}{fd:FuncData}{n k:Nat}{ps:List Str}{fm:FM}(h:∀us,fm us=none):bK P w K mg base eG n f fd ps (spT K k fm):=by
 have no:∀vs H Q E,¬spT K k fm vs H Q E:=fun vs H Q E ⟨_,F,us,r,outs,_,_,_,e,_⟩=>by rw[h us] at e;cases e
 exact⟨fun vs H Q E h=>absurd h (no vs H Q E),fun A outer s H args us vs Q E _ _ _ _ h=>absurd h (no vs H Q E)⟩
theorem Lf {K:PySem.W.Frag}{H:Hp}{a:Addr}{ns:List Int}{n:Nat}{E:XK}(hl:ns.length≤n) (hO:Hz H) (hS:pQ K H a (ns.map V.int)):spT K 1 (BR n) [.ref a] H (fun v _=>v= .bl true) E:=by
 have sc:HH K H a ns:=by
  rcases hS with(h | h) | h
  ·rcases hO a with z | ⟨o,xs,z⟩
   ·rw[h] at z;cases z
   ·rw[h] at z;cases z
  ·exact .inl h
  ·exact .inr h
 exact⟨rfl,fun _=>none,[.s ns],.t (.bl true),[],(fun b o z=>by cases z),.cons ⟨a,rfl,sc⟩ .nil,List.nodup_nil,by simp[BR,hl],fun v F' H' _ r=>jX r⟩
end Sw
end
section
set_option Elab.async false
set_option linter.all false
set_option maxRecDepth 100000
namespace Sw
open PySem PySem.Spec PyProof.Rows L2
noncomputable def X6:Str:="abcdefghijklmnopqrstuvwxyz"
noncomputable def nG (y:Str):Bool:=!(Builtin.Str.occurrences X6 y 0 X6.length 1).isEmpty
noncomputable def signs (z:Str):List Str:=z.cps.toList.map fun c=>(⟨#[c]⟩:Str)
theorem x8 (z:Str):(signs z).length=z.length:=by unfold signs;rw[List.length_map];rfl
theorem Aq (z:Str):qF (eF (az 0)) [some (.t (.str z))]=some ((signs z).map D.str,[some (.t (.str z))]):=by unfold signs;rw[List.map_map];rfl
noncomputable def nameB:D→Bool
 | .str z=>decide (1≤z.length) && decide (z.length≤8) && (signs z).all nG
 | _=>false
theorem Lg (y:Str):Ad [.str y,.str "abcdefghijklmnopqrstuvwxyz"]=some (.t (.bl (nG y))):=rfl
theorem DU (y:Str):kE [.str y,.str "abcdefghijklmnopqrstuvwxyz"]=some (.t (.bl (!nG y))):=rfl
theorem iw {z:Str}(h:z.length≤20000):y9 (.t (.str z))=some z.length:=by show(if z.length≤100000 then some z.length else none)=_;rw[if_pos (by omega)]
noncomputable def jl:GS:=
 (bI (jU (uH (j5 (qB (u9 ["str"] (eF (az 0))))) (uH (qB (eF (eP CU (aa (jk 0) (aa (eC (.int 1)) ao))))) (qB (eF (eP BE (aa (jk 0) (aa (eC (.int 8)) ao))))))) (cE (eT (eC (.bl false)))) dM)
 (cE (eP FL (aa (eF (tU [] (qF (eF (az 0))) xO (eF (eP Ad (aa (eF (az 0)) (aa (eC (.str "abcdefghijklmnopqrstuvwxyz")) ao)))))) ao))))
noncomputable def Gd:D→Nat
 | .str z=>z.length
 | _=>0
noncomputable def j0:FM
 | [.t d]=>if Gd d≤20000 then some (.t (.bl (nameB d)),[]) else none
 | _=>none
theorem Ge : ∀ us r, j0 us = some r → aJ 1 jl us = some r := by
  intro us r h
  unfold j0 at h
  split at h
  · rename_i d
    obtain⟨hb,rfl⟩:=cJ h
    cases d with
    | str z =>
      have hb:z.length≤20000:=hb
      have iw:=iw hb
      by_cases h1:(z.length:Int) < 1
      · have h2:¬1≤z.length:=by omega
        simp[aJ,jl,nameB,bJ,cS,dU,iw,h1,h2]
      · by_cases h3:(8:Int) < z.length
        · have h2:¬z.length≤8:=by omega
          simp[aJ,jl,nameB,bJ,cS,dU,iw,h1,h2,h3]
        · have h4:1≤z.length:=by omega
          have h5:z.length≤8:=by omega
          have h6:((signs z).map D.str).length≤100000:=by rw[List.length_map,x8];omega
          have ei:=Aq z
          generalize hx:signs z=xs at h6 ei
          have e:=xZ (cap:=[]) (g:=eF (eP Ad (aa (eF (az 0)) (aa (eC (.str "abcdefghijklmnopqrstuvwxyz")) ao)))) (S:=[some (.t (.str z))]) (ts:=[]) rfl (fun d=>match d with | .str y=>.bl (nG y) | _=>.cH) (xs.map D.str) [] (fun d hd=>by
            obtain⟨c,_,rfl⟩:=List.mem_map.mp hd
            simp[Lg])
          have e2:([]:List D)++((xs.map D.str).map fun d=>match d with | .str y=>D.bl (nG y) | _=>.cH)=xs.map fun y=>D.bl (nG y):=by rw[List.map_map];rfl
          have e3:=sr nG xs
          rw[e2] at e
          generalize xs.map D.str=L at e ei h6
          generalize (xs.map fun y=>D.bl (nG y))=M at e e3
          simp[aJ,jl,nameB,bJ,cS,dU,iw,h1,h3,h4,h5,ei,h6,e,e3,hx]
    | _=>simp[aJ,jl,nameB,bJ,cS,dU]
  · cases h
noncomputable def eV:GS:=
 (bI (jU (uH (j5 (qB (u9 ["str"] (eF (az 0))))) (j5 (qB (LO Fv Fv (eC (.int 1)) (jk 0) (eC (.int 8)))))) (cE (eT (eC (.bl false)))) dM)
 (cE (eP ux (aa (eF (tU [] (qF (eF (az 0))) (qB (eF (eP kE (aa (eF (az 0)) (aa (eC (.str "abcdefghijklmnopqrstuvwxyz")) ao))))) (eF (az 0)))) (aa (eF (eP cG ao)) ao)))))
noncomputable def ow:D→Bool
 | .str y=>!nG y
 | _=>false
theorem vq:∀xs:List Str,(xs.map D.str).filter ow=(xs.filter fun y=>!nG y).map D.str
  | []=>rfl
  | y :: xs => by
    by_cases h:nG y=true
    · have e:ow (.str y)=false:=by simp[ow,h]
      rw[List.map_cons,List.filter_cons_of_neg (by simp[e]),List.filter_cons_of_neg (by simp[h]),vq xs]
    · have e:ow (.str y)=true:=by simp[ow,h]
      rw[List.map_cons,List.filter_cons_of_pos e,List.filter_cons_of_pos (by simp[h]),vq xs,List.map_cons]
theorem eq_nil (xs:List Str):kQ (.lst (xs.map D.str)) (.lst [])=xs.isEmpty:=by cases xs <;> simp[kQ,pN]
theorem jO (xs:List Str):bW (.lst (xs.map D.str))≤40:=by
 have:bF (xs.map D.str)=0:=by
  induction xs with
  | nil=>rfl
  | cons x xs ih=>show max 0 (bF (xs.map D.str))=0;omega
 show bF (xs.map D.str)+1≤40
 omega
theorem Ar:∀xs:List Str,(xs.filter fun y=>!nG y).isEmpty=xs.all nG
  | []=>rfl
  | y :: xs => by
    by_cases h:nG y=true
    · rw[List.filter_cons_of_neg (by simp[h]),Ar xs,List.all_cons,h,Bool.true_and]
    · rw[List.filter_cons_of_pos (by simp[h]),List.all_cons]
      simp[h]
theorem zc : ∀ us r, j0 us = some r → aJ 1 eV us = some r := by
  intro us r h
  unfold j0 at h
  split at h
  · rename_i d
    obtain⟨hb,rfl⟩:=cJ h
    cases d with
    | str z =>
      have hb:z.length≤20000:=hb
      have iw:=iw hb
      by_cases h1:(1:Int)≤z.length
      · by_cases h3:(z.length:Int)≤8
        · have h4:1≤z.length:=by omega
          have h5:z.length≤8:=by omega
          have h6:((signs z).map D.str).length≤100000:=by rw[List.length_map,x8];omega
          have ei:=Aq z
          generalize hx:signs z=xs at h6 ei
          have e:=qW (cap:=[]) (q:=qB (eF (eP kE (aa (eF (az 0)) (aa (eC (.str "abcdefghijklmnopqrstuvwxyz")) ao))))) (g:=eF (az 0)) (S:=[some (.t (.str z))]) (ts:=[]) rfl ow (fun d=>d) (xs.map D.str) [] (fun d hd=>by
            obtain⟨c,_,rfl⟩:=List.mem_map.mp hd
            simp[DU,ow]) (fun d hd _=>by
            obtain⟨c,_,rfl⟩:=List.mem_map.mp hd
            simp)
          have e2:([]:List D)++((xs.map D.str).filter ow).map (fun d=>d)=(xs.filter fun y=>!nG y).map D.str:=by rw[vq];simp
          rw[e2] at e
          have e3:=eq_nil (xs.filter fun y=>!nG y)
          have e4:=jO (xs.filter fun y=>!nG y)
          rw[Ar xs] at e3
          generalize xs.map D.str=L at e ei h6
          generalize (xs.filter fun y=>!nG y).map D.str=M at e e3 e4
          simp[aJ,eV,nameB,bJ,cS,dU,iw,h1,h3,h4,h5,ei,h6,e,e3,e4,hx]
        · have h2:¬z.length≤8:=by omega
          simp[aJ,eV,nameB,bJ,cS,dU,iw,h1,h2,h3]
      · have h2:¬1≤z.length:=by omega
        simp[aJ,eV,nameB,bJ,cS,dU,iw,h1,h2]
    | _=>simp[aJ,eV,nameB,bJ,cS,dU]
  · cases h
end Sw
end
section
set_option Elab.async false
set_option linter.all false
set_option maxRecDepth 100000
namespace L2
open PySem PySem.Spec PyProof.Rows
section
variable (S:SS) (d:D) (i:Nat) (g ga gb gc:GD) (gA:GA)
@[simp] theorem Tt (f:Int→Int→Int):Sk f i g S=match S[i]? with
 | some (some (.t (.int n)))=>(g S).bind fun p=>match p.1 with
  | .int m=>(pM i (.t (.int (f n m))) p.2).map .nx
  | _=>none
 | _=>none:=rfl
@[simp] theorem Tu:Sj [d,.cH]=some (.t (.bl (Jk d))):=rfl
@[simp] theorem Qe (k:Bool):Si [.bl k]=some (.t (.int (if k then 1 else 0))):=rfl
@[simp] theorem Tv (ds:List D) (k:Int):Sh [.lst ds,.int k]=if 0≤k∧k.toNat≤100000∧ds.length * k.toNat≤100000 then some (.m (.lst (List.replicate k.toNat ds).flatten)) else none:=rfl
@[simp] theorem Ma (es ds:List D):mW [.lst es] (.lst ds)=if ds.length+es.length≤100000 then some (.cH,.lst (ds++es)) else none:=rfl
@[simp] theorem Qg:Nx gA S=(gA S).bind fun p=>match p.1 with
 | [d]=>(Aj d).map fun q=>(Jl q.2,p.2)
 | _=>none:=rfl
@[simp] theorem Qh:Ny gA S=(gA S).bind fun p=>match p.1 with
 | [d,e]=>(Aj d).bind fun q=>(Aj e).map fun r=>(List.zipWith (fun a b=>.tup [a,b]) q.2 r.2,p.2)
 | _=>none:=rfl
@[simp] theorem NZ (ds:List D):Aj (.lst ds)=some (true,ds):=rfl
@[simp] theorem N1 (ds:List D):Aj (.tup ds)=some (false,ds):=rfl
@[simp] theorem Qi (x y:Int):Nm [.int x,.int y]=some (.t (.int (if y < x then y else x))):=rfl
end
end L2
namespace Sq
open PySem PySem.Spec PyProof.Rows L2 Sw
theorem C6 {bd:GB}{body:GS}:∀(ds:List D) (I:List D→SS→Prop) (S:SS),I ds S→(∀d r S,I (d :: r) S→∃S1 S2,bd d S=some S1∧body S1=some (.nx S2)∧I r S2)→∃S',loop bd body ds S=some (.nx S')∧I [] S'
 | [],I,S,h,_=>⟨S,rfl,h⟩
 | d :: ds,I,S,h,k=>by
  obtain⟨S1,S2,e1,e2,h2⟩:=k d ds S h
  obtain⟨S',e,h'⟩:=C6 ds I S2 h2 k
  refine⟨S',?_,h'⟩
  show((bd d S).bind fun S1=>(body S1).bind _)=_
  rw[e1,Option.bind_some,e2,Option.bind_some]
  exact e
theorem BS (cap : List Nat) (q : GT) (g : GD) (d : D) (ds : List D) (S : SS) (acc : List D) : ir cap q g (d :: ds) S acc = (ir cap q g [d] S acc).bind fun r => ir cap q g ds r.2 r.1 := by
  simp only[ir]
  cases kW S cap with
  | none=>rfl
  | some us =>
    simp only[Option.bind_some]
    split
    · cases dH S us with
      | none=>rfl
      | some ws =>
        simp only[Option.bind_some]
        cases q (some (.t d) :: ws.map some) with
        | none=>rfl
        | some p=>
          simp only[Option.bind_some]
          split
          · cases g p.2 with
            | none=>rfl
            | some r=>
              simp only[Option.bind_some]
              cases aC (.t d :: ws) r.2 with
              | none=>rfl
              | some outs=>
                simp only[Option.bind_some]
                cases wb us outs S with
                | none=>rfl
                | some S'=>rfl
          · cases aC (.t d :: ws) p.2 with
            | none=>rfl
            | some outs=>
              simp only[Option.bind_some]
              cases wb us outs S with
              | none=>rfl
              | some S'=>rfl
    · rfl
theorem BU {α:Type}{l:List α}{i:Int}{x:α}(h0:0≤i) (h:l[i.toNat]? =some x):iJ l i=some x:=by
 have hl:=(List.getElem?_eq_some_iff.mp h).1
 unfold iJ Bg
 rw[if_pos h0,if_pos (by omega)]
 exact h
theorem Lh {α:Type}{l:List α}{i:Int}(h0:0≤i) (h1:i < l.length):∃x,iJ l i=some x∧l[i.toNat]? =some x:=by
 have h:i.toNat < l.length:=by omega
 exact⟨l[i.toNat],BU h0 (List.getElem?_eq_getElem h),List.getElem?_eq_getElem h⟩
theorem x9 {gA:GA}{S S':SS}{j:Int}(h:gA S=some ([.int j],S')) (h1:j < 1000000) (h2:-1000000 < j):qG gA S=some (xy 0 j.toNat,S'):=by
 unfold qG
 rw[h]
 simp only[Option.bind_some]
 rw[if_pos ⟨h1,h2⟩]
noncomputable abbrev fd (c i l:Int):MO:=.lst [.int c,.int i,.int l]
end Sq
end
section
set_option Elab.async false
set_option linter.all false
set_option maxRecDepth 100000
namespace L2
open PySem PySem.Spec PyProof.Rows
noncomputable def lC:Option U→Bool
 | some (.b _)=>true
 | _=>false
@[simp] theorem X7:lC none=false:=rfl
@[simp] theorem X8 (d:D):lC (some (.t d))=false:=rfl
@[simp] theorem Yb (o:MO):lC (some (.m o))=false:=rfl
theorem kg (i:Nat) (u:U) (S:SS):pM i u S=(S[i]?).bind fun x=>if lC x then none else some (S.set i (some u)):=by
 unfold pM
 cases S[i]? with
 | none=>rfl
 | some x=>cases x with
  | none=>rfl
  | some u=>cases u <;> rfl
@[simp] theorem Tw (n:Nat) (bs:GW) (ds:List D) (S:SS):HQ n bs (.tup ds) S=if ds.length=n then bs ds S else none:=rfl
@[simp] theorem Qj (b:GB) (bs:GW) (d:D) (r:List D) (S:SS):CV b bs (d :: r) S=(b d S).bind fun S1=>bs r S1:=rfl
@[simp] theorem Tz (S:SS):KI [] S=some S:=rfl
@[simp] theorem Qk (S:SS):Nz S=some (.m (.yQ []),S):=rfl
@[simp] theorem Ql (S:SS):NB S=some (.m (.dct []),S):=rfl
@[simp] theorem N2 (z:Str):tN (.str z)=true:=rfl
@[simp] theorem N3 (b:Bool):tN (.bl b)=true:=rfl
@[simp] theorem N4 (b:Int):tN (.int b)=true:=rfl
@[simp] theorem NW (g:GD) (lo hi:Option GD) (S:SS):zK g lo hi S=(g S).bind fun p=>(mq lo p.2).bind fun l=>(mq hi l.2).bind fun h=>(HX p.1 l.1 h.1).map fun u=>(u,h.2):=rfl
@[simp] theorem Mb (S:SS):mq none S=some (none,S):=rfl
@[simp] theorem Mc (g:GD) (S:SS):mq (some g) S=(g S).bind fun p=>match p.1 with | .int i=>some (some i,p.2) | _=>none:=rfl
@[simp] theorem Ij (ds:List D) (lo hi:Option Int):HX (.tup ds) lo hi=some (.t (.tup (cutD ds lo hi))):=rfl
@[simp] theorem Ik (ds:List D) (lo hi:Option Int):HX (.lst ds) lo hi=some (.m (.lst (cutD ds lo hi))):=rfl
@[simp] theorem N5 (d:D) (ds:List D):KW [d] (.lst ds)=if bF ds≤40∧ds.length < 100000 then(KU d ds).map fun j=>(.int (j:Nat),.lst ds) else none:=rfl
@[simp] theorem Li (ds:List D):Aa [] (.lst ds)=some (.cH,.lst ds.reverse):=rfl
theorem vt {bd:GB}{body:GS}(ds:List D) (I:Nat→SS→Prop) (S:SS) (h0:I 0 S) (hs:∀j d S,ds[j]? =some d→I j S→∃S1 S2,bd d S=some S1∧body S1=some (.nx S2)∧I (j+1) S2):∃S',loop bd body ds S=some (.nx S')∧I ds.length S':=by
 obtain⟨S',e,j,hr,hj,hI⟩:=Sq.C6 (bd:=bd) (body:=body) ds (fun r S=>∃j,ds.drop j=r∧j≤ds.length∧I j S) S ⟨0,rfl,Nat.zero_le _,h0⟩ (by
  rintro d r S ⟨j,hr,hj,hI⟩
  have hlt:j < ds.length:=by
   have:=congrArg List.length hr
   rw[List.length_drop,List.length_cons] at this
   omega
  rw[List.drop_eq_getElem_cons hlt] at hr
  injection hr with h1 h2
  obtain⟨S1,S2,e1,e2,h3⟩:=hs j d S (by rw[List.getElem?_eq_getElem hlt,h1]) hI
  exact⟨S1,S2,e1,e2,j+1,h2,hlt,h3⟩)
 have:j=ds.length:=by
  have:=congrArg List.length hr
  rw[List.length_drop,List.length_nil] at this
  omega
 subst this
 exact⟨S',e,hI⟩
theorem Il {n j:Nat}{d:D}(h:(xy 0 n)[j]? =some d):j < n∧d= .int j:=by
 unfold xy at h
 rw[List.getElem?_map] at h
 cases e:(List.range n)[j]? with
 | none=>rw[e] at h;cases h
 | some k=>
  rw[e] at h
  obtain⟨h1,h2⟩:=List.getElem?_eq_some_iff.mp e
  rw[List.getElem_range] at h2
  rw[List.length_range] at h1
  subst h2
  refine⟨h1,?_⟩
  have:=Option.some.inj h
  rw[←this]
  show D.int (0+(j:Int))=_
  rw[Int.zero_add]
theorem DV (bd:GB) (body:GS) (d:D) (ds:List D) (S:SS):loop bd body (d :: ds) S=(bd d S).bind fun S1=>(body S1).bind fun o=>match o with
  | .nx S2=>loop bd body ds S2
  | .ct S2=>loop bd body ds S2
  | .bk S2=>some (.nx S2)
  | .rt u S2=>some (.rt u S2):=rfl
end L2
end
section
set_option Elab.async false
set_option linter.all false
set_option maxRecDepth 100000
namespace Ss
open PySem PySem.Spec PyProof.Rows L2 Sw
@[simp] theorem TF (kvs:List (Str×Int)) (g:GD) (S:SS):KZ kvs g S=(g S).bind fun p=>match p.1 with | .str z=>(jh kvs z).map fun i=>(.int i,p.2) | _=>none:=rfl
@[simp] theorem Me (kvs:List (Str×Int)) (g gd:GD) (S:SS):za kvs g gd S=(g S).bind fun p=>(gd p.2).bind fun q=>match p.1,q.1 with | .str z,.int j=>some (.int ((jh kvs z).getD j),q.2) | _,_=>none:=rfl
@[simp] theorem TH (n:Bool) (zs:List Str) (g:GD) (S:SS):BL n zs g S=(g S).map fun p=>(.bl (n != inD p.1 (zs.map D.str)),p.2):=rfl
noncomputable def Sm (d:D):Prop:=iC 20000 d∧bW d≤38
theorem As {n:Nat}:∀{ds:List D}{x:D},Fits n ds→x∈ds→iC n x
 | d :: ds,x,h,hx=>by
  rcases List.mem_cons.mp hx with rfl | q
  ·exact h.1
  ·exact As h.2 q
theorem Sm.mem {ds:List D}(h:Sm (.tup ds)){x:D}(hx:x∈ds):Sm x:=⟨As h.1.2 hx,by have:bF ds+1≤38:=h.2;have:=pD hx;omega⟩
theorem Sm.Gd {d:D}(h:Sm d):Gd d≤20000:=by
 cases d with
 | str z=>exact h.1
 | _=>exact Nat.zero_le _
theorem cF (a:D) (r:List D):iJ (a :: r) 0=some a:=by
 unfold iJ Bg
 rw[if_pos (by decide),if_pos (by simp only[List.length_cons];omega)]
 rfl
theorem dF (a b:D) (r:List D):iJ (a :: b :: r) 1=some b:=by
 unfold iJ Bg
 rw[if_pos (by decide),if_pos (by simp only[List.length_cons];omega)]
 rfl
theorem m8 (a b c:D) (r:List D):iJ (a :: b :: c :: r) 2=some c:=by
 unfold iJ Bg
 rw[if_pos (by decide),if_pos (by simp only[List.length_cons];omega)]
 rfl
theorem sC (d:D) (l m:Int):oh [.t d,.t (.int l),.t (.int m)]=some (.t (.bl (gf d l m)),[]):=rfl
theorem ya (d:D) (l m:Int):nZ [.t d,.t (.int l),.t (.int m)]=some (.t (.bl (cY d l m)),[]):=rfl
theorem oz (d:D) (m:Int):cL [.t d,.t (.int m)]=some (.t (.bl (cY d 0 m)),[]):=rfl
theorem mC {d:D}(h:Sm d):j0 [.t d]=some (.t (.bl (nameB d)),[]):=by
 show(if Gd d≤20000 then _ else _)=_
 rw[if_pos h.Gd]
theorem zd (x:D) (zs:List Str):Ad [x,.tup (zs.map D.str)]=some (.t (.bl (inD x (zs.map D.str)))):=by
 have:bF (zs.map D.str)≤40:=by rw[L2.jO];omega
 cases x <;> simp[Ad,this]
theorem Im (x:D) (zs:List Str):Ad [x,.lst (zs.map D.str)]=some (.t (.bl (inD x (zs.map D.str)))):=by
 have:bF (zs.map D.str)≤40:=by rw[L2.jO];omega
 cases x <;> simp[Ad,this]
noncomputable def wN:List Str:=["less","same","more"]
noncomputable def Gf:List Str:=["each","one"]
noncomputable def fP (bs:List Str):D→Bool
 | .tup [a]=>kQ a (.str "any")
 | .tup [a,b]=>if kQ a (.str "name") then nameB b else inD a (wN.map D.str) && (cY b 0 9 || inD b (bs.map D.str))
 | _=>false
noncomputable def cA (fQ:FM) (gz:FM) (fR:FM):GS:=
 (bI (jU (j5 (qB (eF (aP fQ (aQ (eF (az 0)) (aQ (eC (.int 1)) (aQ (eC (.int 2)) bN))))))) (cE (eT (eC (.bl false)))) dM)
 (bI (jU (qB (eF (eP ux (aa (jk 0) (aa (eC (.int 1)) ao))))) (cE (eP ux (aa (dh 0 (eC (.int 0))) (aa (eC (.str "any")) ao)))) dM)
 (bI (jU (qB (eF (eP ux (aa (dh 0 (eC (.int 0))) (aa (eC (.str "name")) ao))))) (cE (aP gz (aQ (dh 0 (eC (.int 1))) bN))) dM)
 (cE (eT (eQ (je (qB (eF (eP Ad (aa (dh 0 (eC (.int 0))) (aa (eF (eP br (aa (eC (.str "less")) (aa (eC (.str "same")) (aa (eC (.str "more")) ao))))) ao))))) (qB (eQ (uH (qB (eF (aP fR (aQ (dh 0 (eC (.int 1))) (aQ (eC (.int 0)) (aQ (eC (.int 9)) bN)))))) (qB (eF (eP Ad (aa (dh 0 (eC (.int 1))) (aa (eF (az 1)) ao)))))))))))))))
noncomputable def mD:FM:=aJ 2 (cA oh j0 nZ)
theorem Gg:∀us r,mD us=some r→aJ 2 (cA oh j0 nZ) us=some r:=fun _ _ h=>h
theorem Io {d : D} (h : Sm d) (bs : List Str) : mD [.t d, .t (.tup (bs.map D.str))] = some (.t (.bl (fP bs d)), []) := by
  have e1:=sC d 1 2
  cases d with
  | tup ds =>
    match ds,h,e1 with
    | [],h,e1=>simp[mD,aJ,cA,e1,gf,fP,aC]
    | [a],h,e1=>
      have ha:=(h.mem (x:=a) (by simp)).2
      have hd:bW a≤40:=by omega
      simp[mD,aJ,cA,e1,gf,fP,aC,cF,hd]
    | [a, b], h, e1 =>
      have ha:=(h.mem (x:=a) (by simp)).2
      have hd:bW a≤40:=by omega
      have hb:=mC (h.mem (x:=b) (by simp))
      have w:=ya b 0 9
      have i1:=zd a wN
      have i2:=zd b bs
      have tl:wN.map D.str=[.str "less",.str "same",.str "more"]:=rfl
      rw[tl] at i1
      cases q:kQ a (.str "name") with
      | true=>simp[mD,aJ,cA,e1,gf,fP,aC,cF,dF,hd,hb,q]
      | false=>
        cases q2:inD a [.str "less",.str "same",.str "more"] with
        | true=>
          rw[q2] at i1
          cases q3:cY b 0 9 with
          | true=>simp[mD,aJ,cA,e1,gf,fP,aC,cF,dF,hd,q,tl,i1,q2,w,q3]
          | false=>simp[mD,aJ,cA,e1,gf,fP,aC,cF,dF,hd,q,tl,i1,q2,w,q3,i2]
        | false=>
          rw[q2] at i1
          simp[mD,aJ,cA,e1,gf,fP,aC,cF,dF,hd,q,tl,i1,q2]
    | a :: b :: c :: r,h,e1=>
      have:¬((r.length:Int)+1+1+1≤2):=by omega
      have e2:gf (.tup (a :: b :: c :: r)) 1 2=false:=by simp[gf,this]
      rw[e2] at e1
      simp[mD,aJ,cA,e1,fP,aC]
  | _=>simp[mD,aJ,cA,e1,gf,fP,aC]
noncomputable def Qm:List (Str×Int):=[("yes",1),("no",1),("now",2),("not",2),("both",3),("either",3),("next",2),("till",3),("within",3),("always",2),("some",2),("each",4),("one",4)]
noncomputable def TJ:List (Str×Int):=[("yes",1),("no",1),("now",2),("not",1),("both",1),("either",1),("next",1),("till",1),("within",2),("always",1),("some",1),("each",3),("one",3)]
noncomputable def dg (z:Str):Int:=(jh Qm z).getD 0
noncomputable def dQ (z:Str):Nat:=((jh TJ z).getD 0).toNat
noncomputable def dc (z:Str):Bool:=inD (.str z) (Gf.map D.str)
noncomputable def vA:List Str:=["yes","no","now","not","both","either","next","till","within","always","some","each","one"]
theorem ze {kvs:List (Str×Int)}{z:Str}(h:z∉kvs.map (·.1)):jh kvs z=none:=by
 unfold jh
 have:kvs.find? (fun p=>decide (p.1=z))=none:=List.find?_eq_none.mpr fun p hp q=>h (by rw[←of_decide_eq_true q];exact List.mem_map_of_mem hp)
 rw[this]
 rfl
theorem yc {z:Str}(h:z∉vA):dg z=0:=by unfold dg;rw[ze (show z∉Qm.map (·.1) from h)];rfl
theorem oA {z:Str}(h:dg z≠0):z∈vA:=Classical.byContradiction fun q=>h (yc q)
structure sD (z:Str):Prop where
 Jf:jh TJ z=some ((dQ z:Nat):Int)
 s1:1≤dQ z
 s4:(dQ z:Int)≤dg z
 l4:dg z≤4
 few:dg z - dQ z≤2
theorem zf:∀z∈vA,sD z:=by
 intro z hz
 simp only[vA,List.mem_cons,List.not_mem_nil,or_false] at hz
 rcases hz with rfl | rfl | rfl | rfl | rfl | rfl | rfl | rfl | rfl | rfl | rfl | rfl | rfl <;> exact⟨by decide,by decide,by decide,by decide,by decide⟩
noncomputable def kF:GS:=
 (cE (zK (eF (az 0)) (some (KZ [("yes",1),("no",1),("now",2),("not",1),("both",1),("either",1),("next",1),("till",1),("within",2),("always",1),("some",1),("each",3),("one",3)] (dh 0 (eC (.int 0))))) none))
noncomputable def fS:GS:=
 (bI (jU (qB (BL false ["each","one"] (dh 0 (eC (.int 0))))) (cE (eP dm (aa (eF (az 1)) (aa (eF (eP br (aa (dh 0 (eC (.int 2))) ao))) ao)))) dM)
 (cE (az 1)))
noncomputable def cI (fQ:FM) (gO:FM) (fR:FM) (gz:FM):GS:=
 (bI (jU (uH (j5 (qB (eF (aP fQ (aQ (eF (az 0)) (aQ (eC (.int 1)) (aQ (eC (.int 4)) bN))))))) (j5 (qB (u9 ["str"] (dh 0 (eC (.int 0))))))) (cE (eT (eC (.bl false)))) dM)
 (bI (dN 2 (eT (dh 0 (eC (.int 0)))))
 (bI (jU (qB (eF (eP Jh (aa (za [("yes",1),("no",1),("now",2),("not",2),("both",3),("either",3),("next",2),("till",3),("within",3),("always",2),("some",2),("each",4),("one",4)] (eF (az 2)) (eC (.int 0))) (aa (jk 0) ao))))) (cE (eT (eC (.bl false)))) dM)
 (bI (jU (qB (eF (eP ux (aa (eF (az 2)) (aa (eC (.str "now")) ao))))) (cE (aP gO (aQ (dh 0 (eC (.int 1))) (aQ (eF (az 1)) bN)))) dM)
 (bI (jU (qB (eF (eP ux (aa (eF (az 2)) (aa (eC (.str "within")) ao))))) (cE (aP fR (aQ (dh 0 (eC (.int 1))) (aQ (eC (.int 0)) (aQ (eC (.int 5)) bN))))) dM)
 (bI (jU (qB (BL false ["each","one"] (eF (az 2)))) (cE (eT (eQ (je (qB (eF (aP gz (aQ (dh 0 (eC (.int 1))) bN)))) (qB (eF (aP gz (aQ (dh 0 (eC (.int 2))) bN)))))))) dM)
 (cE (eT (eC (.bl true))))))))))
noncomputable def lD:FM:=aJ 1 kF
theorem DW:∀us r,lD us=some r→aJ 1 kF us=some r:=fun _ _ h=>h
theorem Gh (ds:List D) (k:Nat):L2.cutD ds (some (k:Int)) none=ds.drop k:=by
 unfold L2.cutD
 rw[HT.EY,HT.CI]
 by_cases h:k≤ds.length
 ·rw[Nat.min_eq_left h,List.take_of_length_le (by rw[List.length_drop];omega)]
 ·rw[Nat.min_eq_right (by omega),List.drop_of_length_le (Nat.le_refl _),List.drop_of_length_le (by omega),List.take_nil]
theorem Au {z:Str}{r:List D}(h:sD z):lD [.t (.tup (.str z :: r))]=some (.t (.tup ((.str z :: r).drop (dQ z))),[]):=by
 have e:=h.Jf
 unfold TJ at e
 have c:=Gh (.str z :: r) (dQ z)
 simp[lD,aJ,kF,cF,e,c,aC]
noncomputable def m9:FM:=aJ 2 fS
theorem DX:∀us r,m9 us=some r→aJ 2 fS us=some r:=fun _ _ h=>h
theorem Gi {z:Str}{r:List D}{bd:D}(h:dc z=false):m9 [.t (.tup (.str z :: r)),.t bd]=some (.t bd,[]):=by
 unfold dc Gf at h
 simp only[List.map_cons,List.map_nil] at h
 simp[m9,aJ,fS,cF,h,aC]
theorem DY {z:Str}{a b:D}{r:List D}{bs:List D}(h:dc z=true) (hl:bs.length≤1000):m9 [.t (.tup (.str z :: a :: b :: r)),.t (.tup bs)]=some (.t (.tup (bs++[b])),[]):=by
 unfold dc Gf at h
 simp only[List.map_cons,List.map_nil] at h
 have e:bs.length+1≤100000:=by omega
 simp[m9,aJ,fS,cF,m8,h,aC,e]
noncomputable def cW (bs:List Str) (z:Str) (r:List D):Bool:=
 if dg z=(r.length:Int)+1 then
  (match r with
  | []=>true
  | a :: r2=>if z="now" then fP bs a else if z="within" then cY a 0 5 else if dc z then(match r2 with | b :: _=>nameB a && nameB b | []=>false) else true)
 else false
noncomputable def ng (bs:List Str):D→Bool
 | .tup (.str z :: r)=>cW bs z r
 | _=>false
noncomputable def eZ:FM:=aJ 3 (cI oh mD nZ j0)
theorem BV:∀us r,eZ us=some r→aJ 3 (cI oh mD nZ j0) us=some r:=fun _ _ h=>h
theorem Ip (z:Str):dg z≤4:=by
 by_cases h:dg z=0
 ·omega
 ·exact(zf z (oA h)).l4
theorem DZ {d : D} {bd : D} (h : ∀ z r, d ≠ .tup (.str z :: r)) : eZ [.t d, .t bd] = some (.t (.bl false), []) := by
  have e1:=sC d 1 4
  cases d with
  | tup ds =>
    cases ds with
    | nil=>simp[eZ,aJ,cI,e1,gf,aC]
    | cons a r=>
      have e2:dU a=false:=by
        cases a with
        | str z=>exact absurd rfl (h z r)
        | _=>rfl
      cases q:gf (.tup (a :: r)) 1 4 with
      | false=>rw[q] at e1;simp[eZ,aJ,cI,e1,aC]
      | true=>rw[q] at e1;simp[eZ,aJ,cI,e1,aC,cF,bJ,cS,e2]
  | _=>simp[eZ,aJ,cI,e1,gf,aC]
theorem bU (z:Str):dU (.str z)=true:=rfl
theorem D0 {d : D} (h : Sm d) (bs : List Str) : eZ [.t d, .t (.tup (bs.map D.str))] = some (.t (.bl (ng bs d)), []) := by
  by_cases hz:∃z r,d= .tup (.str z :: r)
  · obtain ⟨z, r, rfl⟩ := hz
    have e1:=sC (.tup (.str z :: r)) 1 4
    have hl:dg z=(jh Qm z).getD 0:=rfl
    unfold Qm at hl
    have dz:bW (.str z)=0:=rfl
    have es:ng bs (.tup (.str z :: r))=cW bs z r:=rfl
    rw[es]
    by_cases q:(r.length:Int)+1≤4
    · have e2 : gf (.tup (.str z :: r)) 1 4 = true := by
        have:(1:Int)≤(r.length:Int)+1:=by omega
        simp[gf,q,this]
      rw[e2] at e1
      unfold cW
      by_cases c:dg z=(r.length:Int)+1
      · rw[if_pos c]
        rw[hl] at c
        cases r with
        | nil =>
          by_cases n1:z="now"
          · subst n1;exact absurd c (by decide)
          · by_cases n2:z="within"
            · subst n2;exact absurd c (by decide)
            · cases n3:dc z with
              | true=>
                exfalso
                simp only[dc,Gf,inD,List.map_cons,List.map_nil,List.any_cons,List.any_nil,Bool.or_false,uI,Bool.or_eq_true,beq_iff_eq] at n3
                rcases n3 with rfl | rfl <;> exact absurd c (by decide)
              | false=>
                unfold dc Gf at n3
                simp only[List.map_cons,List.map_nil] at n3
                simp at c
                simp[eZ,aJ,cI,e1,aC,cF,bJ,cS,bU,c,n1,n2,n3]
        | cons a r2=>
          have ha:=h.mem (x:=a) (by simp)
          by_cases n1:z="now"
          · have t:=Io ha bs
            simp at c
            simp[eZ,aJ,cI,e1,aC,cF,dF,bJ,cS,bU,c,eq_true n1,t]
          · by_cases n2:z="within"
            · have w:=ya a 0 5
              simp at c
              simp[eZ,aJ,cI,e1,aC,cF,dF,bJ,cS,bU,c,n1,eq_true n2,w]
            · cases n3:dc z with
              | true=>
                have n4:=n3
                unfold dc Gf at n4
                simp only[List.map_cons,List.map_nil] at n4
                have na:=mC ha
                cases r2 with
                | nil=>
                  exfalso
                  simp only[List.length_singleton] at c
                  simp only[dc,Gf,inD,List.map_cons,List.map_nil,List.any_cons,List.any_nil,Bool.or_false,uI,Bool.or_eq_true,beq_iff_eq] at n3
                  rcases n3 with rfl | rfl <;> exact absurd c (by decide)
                | cons b r3=>
                  have nb:=mC (h.mem (x:=b) (by simp))
                  simp at c
                  cases qa:nameB a with
                  | true=>rw[qa] at na;simp[eZ,aJ,cI,e1,aC,cF,dF,m8,bJ,cS,bU,c,n1,n2,n4,na,nb,qa]
                  | false=>rw[qa] at na;simp[eZ,aJ,cI,e1,aC,cF,dF,m8,bJ,cS,bU,c,n1,n2,n4,na,nb,qa]
              | false=>
                have n4:=n3
                unfold dc Gf at n4
                simp only[List.map_cons,List.map_nil] at n4
                simp at c
                simp[eZ,aJ,cI,e1,aC,cF,dF,bJ,cS,bU,c,n1,n2,n4]
      · rw[if_neg c]
        rw[hl] at c
        simp[eZ,aJ,cI,e1,aC,cF,bJ,cS,bU,c]
    · have e2:gf (.tup (.str z :: r)) 1 4=false:=by simp[gf,q]
      rw[e2] at e1
      have c:¬dg z=(r.length:Int)+1:=by have:=Ip z;omega
      unfold cW
      rw[if_neg c]
      simp[eZ,aJ,cI,e1,aC]
  · have:ng bs d=false:=by
      unfold ng
      split
      · rename_i z r;exact absurd ⟨z,r,rfl⟩ hz
      · rfl
    rw[this]
    exact DZ fun z r e=>hz ⟨z,r,e⟩
end Ss
end
section
set_option Elab.async false
set_option linter.all false
set_option maxRecDepth 100000
namespace Ss
open PySem PySem.Spec PyProof.Rows L2 Sw
noncomputable def strOf:D→Str
 | .str z=>z
 | _=>""
noncomputable def cZ (bs:List Str) (z:Str) (r:List D):List Str:=if dc z=true then bs++[strOf (r.getD 1 .cH)] else bs
noncomputable def bq (z:Str) (r:List D):List D:=(.str z :: r).drop (dQ z)
noncomputable def cM:Nat→List Str→D→Bool
 | 0,_,_=>false
 | n+1,bs,.tup (.str z :: r)=>cW bs z r && (bq z r).all (cM n (cZ bs z r))
 | _+1,_,_=>false
noncomputable def fu (kG:FM) (iy:FM) (eB:FM) (eY:FM):GS:=
 (bI (jU (uH (qB (eF (eP ux (aa (eF (az 2)) (aa (eC (.int 0)) ao))))) (j5 (qB (eF (aP kG (aQ (eF (az 0)) (aQ (eF (az 1)) bN))))))) (cE (eT (eC (.bl false)))) dM)
 (bI (dN 3 (aP iy (aQ (eF (az 0)) (aQ (eF (az 1)) bN))))
 (cE (eP FL (aa (eF (tU [3,2] (qF (eF (aP eB (aQ (eF (az 0)) bN)))) xO (eF (aP eY (aQ (eF (az 0)) (aQ (eF (az 1)) (aQ (eF (eP lX (aa (eF (az 2)) (aa (eC (.int 1)) ao)))) bN))))))) ao)))))
noncomputable def oB:Nat→FM
 | 0=>fun _=>none
 | j+1=>aJ 4 (fu eZ m9 lD (oB j))
theorem Gj (j:Nat):∀us r,oB (j+1) us=some r→aJ 4 (fu eZ m9 lD (oB j)) us=some r:=fun _ _ h=>h
theorem kH {bs:List Str}{z:Str}{r:List D}(h:cW bs z r=true):dg z=(r.length:Int)+1∧sD z∧z∈vA:=by
 unfold cW at h
 split at h
 ·rename_i c
  have:=oA (z:=z) (by omega)
  exact⟨c,zf z this,this⟩
 ·cases h
theorem Av {d:D}(h:nameB d=true):∃y,d= .str y:=by
 cases d with
 | str z=>exact⟨z,rfl⟩
 | _=>cases h
theorem jm {z:Str}(h:dc z=true):z="each"∨z="one":=by
 simp only[dc,Gf,inD,List.map_cons,List.map_nil,List.any_cons,List.any_nil,Bool.or_false,uI,Bool.or_eq_true,beq_iff_eq] at h
 rcases h with h | h
 ·exact .inl h.symm
 ·exact .inr h.symm
theorem yf {bs:List Str}{z:Str}{r:List D}(h:cW bs z r=true) (hb:dc z=true):∃a y p,r=[a,.str y,p]∧nameB a=true∧nameB (.str y)=true:=by
 obtain⟨c,_,_⟩:=kH h
 have hl:dg z=4:=by rcases jm hb with rfl | rfl <;> decide
 have n1:¬z="now":=by rcases jm hb with rfl | rfl <;> decide
 have n2:¬z="within":=by rcases jm hb with rfl | rfl <;> decide
 unfold cW at h
 rw[if_pos c] at h
 match r,c,h with
 | [],c,h=>simp at c;omega
 | [a],c,h=>simp at c;omega
 | [a,b],c,h=>simp at c;omega
 | [a,b,p],c,h=>
  simp only[n1,n2,if_false,hb,if_true,Bool.and_eq_true] at h
  obtain⟨y,rfl⟩:=Av h.2
  exact⟨a,y,p,rfl,h.1,h.2⟩
 | a :: b :: p :: q :: t,c,h=>simp only[List.length_cons] at c;omega
theorem Gk {bs:List Str}{z:Str}{r:List D}(h:cW bs z r=true) (hl:bs.length≤1000):m9 [.t (.tup (.str z :: r)),.t (.tup (bs.map D.str))]=some (.t (.tup ((cZ bs z r).map D.str)),[]):=by
 cases hb:dc z with
 | false=>
  rw[Gi hb]
  unfold cZ
  rw[hb]
  rfl
 | true=>
  obtain⟨a,y,p,rfl,_,_⟩:=yf h hb
  rw[DY hb (by rw[List.length_map];exact hl)]
  unfold cZ
  rw[if_pos hb,List.map_append]
  rfl
theorem D3 (bs:List Str) (z:Str) (r:List D):(cZ bs z r).length≤bs.length+1:=by
 unfold cZ
 split
 ·rw[List.length_append];exact Nat.le_refl _
 ·omega
theorem yg {z:Str}{r:List D}{x:D}(h:sD z) (hx:x∈bq z r):x∈r:=by
 unfold bq at hx
 obtain⟨k,hk⟩:∃k,dQ z=k+1:=⟨dQ z - 1,by have:=h.s1;omega⟩
 rw[hk,List.drop_succ_cons] at hx
 exact List.mem_of_mem_drop hx
theorem pH {z:Str}{r:List D}(h:sD z) (c:dg z=(r.length:Int)+1):(bq z r).length≤2:=by
 unfold bq
 rw[List.length_drop,List.length_cons]
 have:=h.few
 omega
theorem BW {f1 f2 f3 f4:FM}{d bd:D}{m:Int}(m0:m≠0) (e1:f1 [.t d,.t bd]=some (.t (.bl false),[])):aJ 4 (fu f1 f2 f3 f4) [.t d,.t bd,.t (.int m)]=some (.t (.bl false),[]):=by
 simp[aJ,fu,aC,m0,e1]
theorem D4 {f1 f2 f3 f4:FM}{d bd ib:D}{m:Int}{pl ql:List D}{qs:List Bool}{b:Bool}(m0:m≠0) (e1:f1 [.t d,.t bd]=some (.t (.bl true),[])) (e2:f2 [.t d,.t bd]=some (.t ib,[])) (e3:f3 [.t d]=some (.t (.tup pl),[]))
  (e4:ir [3,2] xO (eF (aP f4 (aQ (eF (az 0)) (aQ (eF (az 1)) (aQ (eF (eP lX (aa (eF (az 2)) (aa (eC (.int 1)) ao)))) bN))))) pl [some (.t d),some (.t bd),some (.t (.int m)),some (.t ib)] []=some (ql,[some (.t d),some (.t bd),some (.t (.int m)),some (.t ib)])) (e5:pl.length≤100000) (e6:jY ql=some qs) (e7:qs.all id=b):aJ 4 (fu f1 f2 f3 f4) [.t d,.t bd,.t (.int m)]=some (.t (.bl b),[]):=by
 simp[aJ,fu,aC,m0,e1,e2,ou,e3,e4,e5,e6,←e7]
theorem C7 : ∀ (n j : Nat), n ≤ j → ∀ (d : D) (bs : List Str), Sm d → bs.length + n ≤ 100 → oB (j + 1) [.t d, .t (.tup (bs.map D.str)), .t (.int (n : Int))] = some (.t (.bl (cM n bs d)), [])
  | 0,j,_,d,bs,_,_=>by simp[oB,aJ,fu,aC,cM]
  | n+1,0,h,_,_,_,_=>by omega
  | n + 1, j + 1, hj, d, bs, hd, hb => by
    have e1:=D0 hd bs
    have n0:¬((n:Int)+1=0):=by omega
    have ef:cM (n+1) bs d=(ng bs d && (match d with | .tup (.str z :: r)=>(bq z r).all (cM n (cZ bs z r)) | _=>false)):=by
      cases d with
      | tup ds=>
        cases ds with
        | nil=>rfl
        | cons a r=>cases a <;> rfl
      | _=>rfl
    rw[ef]
    cases q:ng bs d with
    | false=>
      rw[q] at e1
      exact BW (by omega) e1
    | true=>
      rw[q] at e1
      obtain⟨z,r,rfl⟩:∃z r,d= .tup (.str z :: r):=by
        unfold ng at q
        split at q
        · exact⟨_,_,rfl⟩
        · cases q
      have hs:cW bs z r=true:=q
      obtain⟨c,hh,_⟩:=kH hs
      have e2:=Gk hs (by omega)
      have e3:=Au (r:=r) hh
      have il:=D3 bs z r
      have e4:=xZ (cap:=[3,2]) (g:=eF (aP (oB (j+1)) (aQ (eF (az 0)) (aQ (eF (az 1)) (aQ (eF (eP lX (aa (eF (az 2)) (aa (eC (.int 1)) ao)))) bN))))) (S:=[some (.t (.tup (.str z :: r))),some (.t (.tup (bs.map D.str))),some (.t (.int ((n+1:Nat):Int))),some (.t (.tup ((cZ bs z r).map D.str)))])
        (ts:=[.tup ((cZ bs z r).map D.str),.int ((n+1:Nat):Int)]) rfl (fun p=>.bl (cM n (cZ bs z r) p)) (bq z r) [] (by
          intro p hp
          have ih:=C7 n j (by omega) p (cZ bs z r) (hd.mem (List.mem_cons_of_mem _ (yg hh hp))) (by omega)
          have en:((n+1:Nat):Int) - 1=(n:Int):=by omega
          simp[-Int.natCast_add,en,ih])
      have e5:(bq z r).length≤100000:=by have:=pH hh c;omega
      have e6:=sr (cM n (cZ bs z r)) (bq z r)
      rw[List.nil_append] at e4
      have e7:((bq z r).map (cM n (cZ bs z r))).all id=(bq z r).all (cM n (cZ bs z r)):=by rw[List.all_map];rfl
      exact D4 (by omega) e1 e2 e3 e4 e5 e6 (by rw[e7,Bool.true_and])
noncomputable def fX:Nat→D→List D
 | 0,_=>[]
 | n+1,.tup (.str z :: r)=>.tup (.str z :: r) :: (bq z r).flatMap (fX n)
 | _+1,d=>[d]
noncomputable def sE (eB:FM) (dY:FM):GS:=
 (z8 (eT (eM 1 mW (aa (eF (aP dY (aQ (eF (az 2)) bN))) ao))))
noncomputable def oE (eB:FM) (dY:FM):GS:=
 (bI (dN 1 (eP cG (aa (eF (az 0)) ao)))
 (bI (uW (bName 2) (qF (eF (aP eB (aQ (eF (az 0)) bN)))) (sE eB dY))
 (cE (az 1))))
noncomputable def vB:Nat→FM
 | 0=>fun _=>none
 | j+1=>aJ 3 (oE lD (vB j))
theorem Iq (j:Nat):∀us r,vB (j+1) us=some r→aJ 3 (oE lD (vB j)) us=some r:=fun _ _ h=>h
theorem vC {f:D→List D}{k:Nat}:∀{ps:List D},(∀p∈ps,(f p).length≤k)→(ps.flatMap f).length≤k * ps.length
 | [],_=>Nat.zero_le _
 | p :: ps,h=>by
  have ih:=vC (f:=f) (k:=k) (ps:=ps) fun q hq=>h q (List.mem_cons_of_mem _ hq)
  have h1:=h p List.mem_cons_self
  rw[List.flatMap_cons,List.length_append,List.length_cons,Nat.mul_succ]
  omega
theorem jo {n : Nat} {bs : List Str} {d : D} (h : cM (n + 1) bs d = true) : ∃ z r, d = .tup (.str z :: r) ∧ cW bs z r = true ∧ ∀ p ∈ bq z r, cM n (cZ bs z r) p = true := by
  cases d with
  | tup ds =>
    cases ds with
    | nil=>cases h
    | cons a r=>
      cases a with
      | str z=>
        obtain⟨h1,h2⟩:=Bool.and_eq_true_iff.mp (show(cW bs z r && (bq z r).all (cM n (cZ bs z r)))=true from h)
        exact⟨z,r,rfl,h1,fun p hp=>List.all_eq_true.mp h2 p hp⟩
      | _=>cases h
  | _=>cases h
theorem uJ:∀{n:Nat}{bs:List Str}{d:D},cM n bs d=true→(fX n d).length≤3 ^ n
 | 0,_,_,h=>by cases h
 | n+1,bs,d,h=>by
  obtain⟨z,r,rfl,h1,h2⟩:=jo h
  obtain⟨c,hh,_⟩:=kH h1
  have:=vC (f:=fX n) (k:=3 ^ n) (ps:=bq z r) fun p hp=>uJ (h2 p hp)
  have h3:=Nat.mul_le_mul_left (3 ^ n) (pH hh c)
  have h4:1≤3 ^ n:=Nat.one_le_pow _ _ (by decide)
  show((bq z r).flatMap (fX n)).length+1≤3 ^ (n+1)
  rw[Nat.pow_succ]
  omega
theorem BX : ∀ (n j : Nat), n ≤ j → n ≤ 8 → ∀ (d : D) (bs : List Str), cM n bs d = true → vB j [.t d] = some (.m (.lst (fX n d)), [])
  | 0,_,_,_,_,_,h=>by cases h
  | n+1,0,h,_,_,_,_=>by omega
  | n + 1, j + 1, hj, h8, d, bs, h => by
    obtain⟨z,r,rfl,h1,h2⟩:=jo h
    obtain⟨c,hh,_⟩:=kH h1
    have e3:lD [.t (.tup (.str z :: r))]=some (.t (.tup (bq z r)),[]):=Au (r:=r) hh
    have pl:=pH hh c
    have pw:3 ^ n≤3 ^ 7:=Nat.pow_le_pow_right (by decide) (by omega)
    obtain⟨S',e,x2,q2,hs⟩:=vt (bd:=bName 2) (body:=sE lD (vB j)) (bq z r)
      (fun k S=>∃x2,lC x2=false∧S=[some (.t (.tup (.str z :: r))),some (.m (.lst (.tup (.str z :: r) :: ((bq z r).take k).flatMap (fX n)))),x2])
      [some (.t (.tup (.str z :: r))),some (.m (.lst [.tup (.str z :: r)])),none] ⟨none,rfl,rfl⟩ (by
        rintro k p S hp ⟨x2,q2,rfl⟩
        have hm:=List.mem_of_getElem? hp
        have ih:=BX n j (by omega) (by omega) p _ (h2 p hm)
        have il:=uJ (h2 p hm)
        have fl:=vC (f:=fX n) (k:=3 ^ n) (ps:=(bq z r).take k) fun p hp=>uJ (h2 p (List.mem_of_mem_take hp))
        have tl:((bq z r).take k).length≤2:=by rw[List.length_take];omega
        have fl2:=Nat.mul_le_mul_left (3 ^ n) tl
        have h37:(3:Nat) ^ 7=2187:=by decide
        have b1:(((bq z r).take k).flatMap (fX n)).length+1+(fX n p).length≤100000:=by omega
        refine⟨[some (.t (.tup (.str z :: r))),some (.m (.lst (.tup (.str z :: r) :: ((bq z r).take k).flatMap (fX n)))),some (.t p)],_,by simp[-mY,kg,q2],?_,some (.t p),rfl,rfl⟩
        rw[List.take_succ,hp]
        simp only[Option.toList_some]
        rw[List.flatMap_append]
        generalize ((bq z r).take k).flatMap (fX n)=A at *
        simp[sE,ih,b1])
    rw[List.take_length] at hs
    subst hs
    show aJ 3 _ _=some (.m (.lst (.tup (.str z :: r) :: (bq z r).flatMap (fX n))),[])
    simp[aJ,oE,aC,ou,e3,e]
noncomputable def gF (n:Nat) (d:D):Nat:=(fX n d).length
noncomputable def vD:D→Bool
 | .tup (.str z :: _)=>dc z
 | _=>false
noncomputable def kh (n:Nat) (d:D):Nat:=((fX n d).filter vD).length
theorem Aw:∀{n:Nat}{bs:List Str}{d:D},cM n bs d=true→∀x∈fX n d,∃z r,x= .tup (.str z :: r)
  | 0,_,_,h=>by cases h
  | n + 1, bs, d, h => by
    obtain⟨z,r,rfl,h1,h2⟩:=jo h
    intro x hx
    rcases List.mem_cons.mp (show x∈.tup (.str z :: r) :: (bq z r).flatMap (fX n) from hx) with q | q
    · exact⟨z,r,q⟩
    · obtain⟨p,hp,hx⟩:=List.mem_flatMap.mp q
      exact Aw (h2 p hp) x hx
noncomputable def vE (dY:FM):GS:=
 (cE (eP uV (aa (eF (aP dY (aQ (eF (az 0)) bN))) ao)))
noncomputable def yh:FM:=aJ 1 (vE (vB 9))
theorem Gm:∀us r,yh us=some r→aJ 1 (vE (vB 9)) us=some r:=fun _ _ h=>h
theorem Ir {n:Nat}{bs:List Str}{d:D}(hn:n≤8) (h:cM n bs d=true):yh [.t d]=some (.t (.int (gF n d:Nat)),[]):=by
 have e:=BX n 9 (by omega) hn d bs h
 unfold gF
 simp[yh,aJ,vE,e,aC]
noncomputable def iZ (dY:FM):GS:=
 (cE (eP uV (aa (eF (tU [] (qF (eF (aP dY (aQ (eF (az 0)) bN)))) (qB (BL false ["each","one"] (dh 0 (eC (.int 0))))) (eF (az 0)))) ao)))
noncomputable def yi:FM:=aJ 1 (iZ (vB 9))
theorem Gn:∀us r,yi us=some r→aJ 1 (iZ (vB 9)) us=some r:=fun _ _ h=>h
theorem Iu {n:Nat}{bs:List Str}{d:D}(hn:n≤8) (h:cM n bs d=true):yi [.t d]=some (.t (.int (kh n d:Nat)),[]):=by
 have e:=BX n 9 (by omega) hn d bs h
 have pw:3 ^ n≤3 ^ 8:=Nat.pow_le_pow_right (by decide) (by omega)
 have al:=uJ h
 have e2:=qW (cap:=[]) (q:=qB (BL false ["each","one"] (dh 0 (eC (.int 0))))) (g:=eF (az 0)) (S:=[some (.t d)]) (ts:=[]) rfl vD (fun d=>d) (fX n d) [] (by
  intro x hx
  obtain⟨z,r,rfl⟩:=Aw h x hx
  have:vD (.tup (.str z :: r))=dc z:=rfl
  rw[this]
  unfold dc Gf
  simp[cF]) (by intro x hx _;simp)
 rw[List.nil_append,List.map_id'] at e2
 have h38:(3:Nat) ^ 8=6561:=by decide
 have e3:(fX n d).length≤100000:=by omega
 unfold kh
 simp[yi,aJ,iZ,e,ou,e2,e3,aC]
noncomputable def fZ (eY:FM) (Ax:FM) (jR:FM):GS:=
 (bI (jU (j5 (qB (eF (aP eY (aQ (eF (az 0)) (aQ (eF (eP br ao)) (aQ (eC (.int 8)) bN))))))) (cE (eT (eC (.bl false)))) dM)
 (cE (eT (eQ (je (qB (eF (eP Fv (aa (eF (aP Ax (aQ (eF (az 0)) bN))) (aa (eC (.int 16)) ao))))) (qB (eF (eP Fv (aa (eF (aP jR (aQ (eF (az 0)) bN))) (aa (eC (.int 3)) ao))))))))))
noncomputable def zg (d:D):Bool:=cM 8 [] d && (decide (gF 8 d≤16) && decide (kh 8 d≤3))
noncomputable def lE:FM:=aJ 1 (fZ (oB 9) yh yi)
theorem D5:∀us r,lE us=some r→aJ 1 (fZ (oB 9) yh yi) us=some r:=fun _ _ h=>h
theorem Ay {d : D} (h : Sm d) : lE [.t d] = some (.t (.bl (zg d)), []) := by
  have e1:=C7 8 8 (Nat.le_refl _) d [] h (by decide)
  simp only[List.map_nil] at e1
  unfold zg
  have e1:oB 9 [.t d,.t (.tup []),.t (.int 8)]=some (.t (.bl (cM 8 [] d)),[]):=e1
  cases q:cM 8 [] d with
  | false=>rw[q] at e1;simp[lE,aJ,fZ,e1,aC]
  | true=>
    rw[q] at e1
    have e2:=Ir (by decide) q
    have e3:=Iu (by decide) q
    by_cases c1:gF 8 d≤16
    · have c2:(gF 8 d:Int)≤16:=by omega
      by_cases c3:kh 8 d≤3
      · have c4:(kh 8 d:Int)≤3:=by omega
        simp[lE,aJ,fZ,e1,e2,e3,aC,c1,c2,c3,c4]
      · have c4:¬(kh 8 d:Int)≤3:=by omega
        simp[lE,aJ,fZ,e1,e2,e3,aC,c1,c2,c3,c4]
    · have c2:¬(gF 8 d:Int)≤16:=by omega
      simp[lE,aJ,fZ,e1,e2,aC,c1,c2]
end Ss
end
section
set_option Elab.async false
set_option linter.all false
set_option maxRecDepth 100000
namespace Ss
open PySem PySem.Spec PyProof.Rows L2 Sw
@[simp] theorem Qn (wL:List (Str×GD)) (S:SS):qO wL S=(mV wL S).map fun p=>(.m (.dct (dI [] p.1)),p.2):=rfl
@[simp] theorem Iv (S:SS):mV [] S=some ([],S):=rfl
@[simp] theorem GX (z:Str) (g:GD) (r:List (Str×GD)) (S:SS):mV ((z,g) :: r) S=(g S).bind fun p=>(mV r p.2).map fun q=>((.inr z,p.1) :: q.1,q.2):=rfl
@[simp] theorem Qo (i:Nat) (ge:GE) (S:SS):Al i ge S=match S[i]? with
 | some (some u)=>if vj u then(ge S).bind fun p=>match p.1 with
  | .m (.dct more)=>yU p.2 i fun o=>match o with
   | .dct kvs=>if kvs.length+more.length≤100000 then some (.cH,.dct (dI kvs more)) else none
   | _=>none
  | _=>none
  else none
 | _=>none:=rfl
@[simp] theorem Qp (i:Nat) (gk gd:GD) (S:SS):C3 i gk gd S=match S[i]? with
 | some (some u)=>if vj u then(gk S).bind fun p=>(gd p.2).bind fun q=>match q.2[i]? with
  | some (some u2)=>(FQ u2 p.1).map fun o=>(o.getD q.1,q.2)
  | _=>none
  else none
 | _=>none:=rfl
@[simp] theorem Qq (kvs:List (Key×D)):vj (.m (.dct kvs))=true:=rfl
@[simp] theorem TL (kvs:List (Key×D)) (k:D):FQ (.m (.dct kvs)) k=(keyOf k).map (dw kvs):=rfl
noncomputable def BY (n:Int) (ps:List Int):D:=.tup [.int n,.lst (ps.map D.int)]
noncomputable def Iw:List (Key×D):=[(.inr "yes",BY 1 []),(.inr "no",BY 1 []),(.inr "now",BY 2 []),(.inr "not",BY 2 [1]),(.inr "next",BY 2 [1]),(.inr "always",BY 2 [1])]
noncomputable def Iz:List (Key×D):=[(.inr "some",BY 2 [1]),(.inr "both",BY 3 [1,2]),(.inr "either",BY 3 [1,2]),(.inr "till",BY 3 [1,2])]
noncomputable def Lj:List (Key×D):=[(.inr "within",BY 3 [2]),(.inr "each",BY 4 [3]),(.inr "one",BY 4 [3])]
noncomputable def Qs:List (Key×D):=dI (dI (dI [] Iw) (dI [] Iz)) (dI [] Lj)
theorem IA (kvs:List (Key×D)) (k:Key) (d:D):(putD kvs k d).length≤kvs.length+1:=by
 unfold putD
 split
 ·rw[List.length_map];omega
 ·rw[List.length_append];exact Nat.le_refl _
theorem mF:∀(more kvs:List (Key×D)),(dI kvs more).length≤kvs.length+more.length
 | [],kvs=>Nat.le_refl _
 | p :: r,kvs=>by
  have h1:=mF r (putD kvs p.1 p.2)
  have h2:=IA kvs p.1 p.2
  show(dI (putD kvs p.1 p.2) r).length≤_
  rw[List.length_cons]
  omega
noncomputable def i6:GS:=
 (bI (dN 1 (qO [("yes",(eF (eP br (aa (eC (.int 1)) (aa (eF (eP cG ao)) ao))))),("no",(eF (eP br (aa (eC (.int 1)) (aa (eF (eP cG ao)) ao))))),("now",(eF (eP br (aa (eC (.int 2)) (aa (eF (eP cG ao)) ao))))),("not",(eF (eP br (aa (eC (.int 2)) (aa (eF (eP cG (aa (eC (.int 1)) ao))) ao))))),("next",(eF (eP br (aa (eC (.int 2)) (aa (eF (eP cG (aa (eC (.int 1)) ao))) ao))))),("always",(eF (eP br (aa (eC (.int 2)) (aa (eF (eP cG (aa (eC (.int 1)) ao))) ao)))))]))
 (bI (z8 (eT (Al 1 (qO [("some",(eF (eP br (aa (eC (.int 2)) (aa (eF (eP cG (aa (eC (.int 1)) ao))) ao))))),("both",(eF (eP br (aa (eC (.int 3)) (aa (eF (eP cG (aa (eC (.int 1)) (aa (eC (.int 2)) ao)))) ao))))),("either",(eF (eP br (aa (eC (.int 3)) (aa (eF (eP cG (aa (eC (.int 1)) (aa (eC (.int 2)) ao)))) ao))))),("till",(eF (eP br (aa (eC (.int 3)) (aa (eF (eP cG (aa (eC (.int 1)) (aa (eC (.int 2)) ao)))) ao)))))]))))
 (bI (z8 (eT (Al 1 (qO [("within",(eF (eP br (aa (eC (.int 3)) (aa (eF (eP cG (aa (eC (.int 2)) ao))) ao))))),("each",(eF (eP br (aa (eC (.int 4)) (aa (eF (eP cG (aa (eC (.int 3)) ao))) ao))))),("one",(eF (eP br (aa (eC (.int 4)) (aa (eF (eP cG (aa (eC (.int 3)) ao))) ao)))))]))))
 (cE (eT (C3 1 (eF (az 0)) (eF (eP br (aa (eC (.int 0)) (aa (eF (eP cG ao)) ao))))))))))
noncomputable def oF:FM:=aJ 2 i6
theorem D6:∀us r,oF us=some r→aJ 2 i6 us=some r:=fun _ _ h=>h
theorem D7 (z:Str):oF [.t (.str z)]=some (.t ((dw Qs (.inr z)).getD (BY 0 [])),[]):=by
 have l1:=mF Iw []
 have l2:=mF Iz []
 have l3:=mF Lj []
 have l4:=mF (dI [] Iz) (dI [] Iw)
 have k1:Iw.length=6:=rfl
 have k2:Iz.length=4:=rfl
 have k3:Lj.length=3:=rfl
 rw[List.length_nil] at l1 l2 l3
 have b1:(dI [] Iw).length+(dI [] Iz).length≤100000:=by omega
 have b2:(dI (dI [] Iw) (dI [] Iz)).length+(dI [] Lj).length≤100000:=by omega
 clear l1 l2 l3 l4 k1 k2 k3
 unfold Qs
 unfold Iw Iz Lj at *
 simp only[BY,List.map_nil,List.map_cons] at *
 simp[oF,aJ,i6,aC,b1,b2]
noncomputable def Ex (z:Str):List Int:=(List.range (dg z - dQ z).toNat).map fun(k:Nat)=>(dQ z:Int)+k
theorem Gp {kvs:List (Key×D)}{k:Key}{d:D}{x:Key}(h:x∈(putD kvs k d).map (·.1)):x∈kvs.map (·.1)∨x=k:=by
 unfold putD at h
 split at h
 ·rw[List.map_map] at h
  obtain⟨kv,h1,h2⟩:=List.mem_map.mp h
  simp only[Function.comp] at h2
  split at h2
  ·exact .inl (List.mem_map.mpr ⟨kv,h1,h2⟩)
  ·exact .inl (List.mem_map.mpr ⟨kv,h1,h2⟩)
 ·rw[List.map_append] at h
  rcases List.mem_append.mp h with q | q
  ·exact .inl q
  ·exact .inr (by simpa using q)
theorem nh:∀{more kvs:List (Key×D)}{x:Key},x∈(dI kvs more).map (·.1)→x∈kvs.map (·.1)∨x∈more.map (·.1)
  | [],kvs,x,h=>.inl h
  | p :: r, kvs, x, h => by
    rcases nh (more:=r) (kvs:=putD kvs p.1 p.2) h with q | q
    · rcases Gp q with y | y
      · exact .inl y
      · exact .inr (by rw[y];exact List.mem_cons_self)
    · exact .inr (List.mem_cons_of_mem _ q)
theorem BZ {kvs:List (Key×D)}{k:Key}(h:k∉kvs.map (·.1)):dw kvs k=none:=by
 unfold dw
 have:kvs.find? (fun kv=>decide (kv.1=k))=none:=List.find?_eq_none.mpr fun p hp q=>h (by rw[←of_decide_eq_true q];exact List.mem_map_of_mem hp)
 rw[this]
 rfl
theorem yj (z : Str) : oF [.t (.str z)] = some (.t (.tup [.int (dg z), .lst ((Ex z).map D.int)]), []) := by
  rw[D7]
  by_cases h:z∈vA
  · simp only[vA,List.mem_cons,List.not_mem_nil,or_false] at h
    rcases h with rfl | rfl | rfl | rfl | rfl | rfl | rfl | rfl | rfl | rfl | rfl | rfl | rfl <;> rfl
  · have e1:dw Qs (.inr z)=none:=BZ fun q=>by
      unfold Qs at q
      have k1:(.inr z:Key)∈Iw.map (·.1)→False:=fun q=>by
        apply h
        simp only[Iw,List.map_cons,List.map_nil,List.mem_cons,List.not_mem_nil,or_false,Sum.inr.injEq] at q
        rcases q with rfl | rfl | rfl | rfl | rfl | rfl <;> decide
      have k2:(.inr z:Key)∈Iz.map (·.1)→False:=fun q=>by
        apply h
        simp only[Iz,List.map_cons,List.map_nil,List.mem_cons,List.not_mem_nil,or_false,Sum.inr.injEq] at q
        rcases q with rfl | rfl | rfl | rfl <;> decide
      have k3:(.inr z:Key)∈Lj.map (·.1)→False:=fun q=>by
        apply h
        simp only[Lj,List.map_cons,List.map_nil,List.mem_cons,List.not_mem_nil,or_false,Sum.inr.injEq] at q
        rcases q with rfl | rfl | rfl <;> decide
      have one:∀L:List (Key×D),((.inr z:Key)∈L.map (·.1)→False)→(.inr z:Key)∈(dI [] L).map (·.1)→False:=fun L k q=>by
        rcases nh q with q | q
        · cases q
        · exact k q
      rcases nh q with q | q
      · rcases nh q with q | q
        · exact one _ k1 q
        · exact one _ k2 q
      · exact one _ k3 q
    rw[e1]
    have e2:dg z=0:=yc h
    have e3:Ex z=[]:=by unfold Ex;rw[e2];rw[show((0:Int) - dQ z).toNat=0 by omega];rfl
    rw[e2,e3]
    rfl
theorem ym {b:D}(h:dU b=false) (zs:List Str):inD b (zs.map D.str)=false:=by
 unfold inD
 rw[List.any_map,List.any_eq_false]
 intro z _ q
 have:=DT (show kQ (.str z) b=true from q)
 subst this
 cases h
noncomputable def bR (cO:FM) (aX:FM):GS:=
 (bI (jU (uH (j5 (qB (u9 ["tuple"] (eF (az 0))))) (uH (qB (eF (eP ux (aa (jk 0) (aa (eC (.int 0)) ao))))) (j5 (qB (u9 ["str"] (dh 0 (eC (.int 0)))))))) (cE (eT (eC (.bl false)))) dM)
 (bI (jU (qB (eF (eP ux (aa (dh 0 (eC (.int 0))) (aa (eC (.str "any")) ao))))) (cE (eP ux (aa (jk 0) (aa (eC (.int 1)) ao)))) dM)
 (bI (jU (uH (qB (eF (eP Jh (aa (jk 0) (aa (eC (.int 2)) ao))))) (qB (eF (eP kE (aa (dh 0 (eC (.int 0))) (aa (eF (eP br (aa (eC (.str "name")) (aa (eC (.str "less")) (aa (eC (.str "same")) (aa (eC (.str "more")) ao)))))) ao)))))) (cE (eT (eC (.bl false)))) dM)
 (bI (jU (qB (eF (eP ux (aa (dh 0 (eC (.int 0))) (aa (eC (.str "name")) ao))))) (cE (aP cO (aQ (dh 0 (eC (.int 1))) bN))) dM)
 (cE (eT (eQ (uH (qB (eF (aP aX (aQ (dh 0 (eC (.int 1))) (aQ (eC (.int 9)) bN))))) (qB (eQ (je (qB (u9 ["str"] (dh 0 (eC (.int 1))))) (qB (eF (eP Ad (aa (dh 0 (eC (.int 1))) (aa (eF (az 1)) ao))))))))))))))))
noncomputable def gm:FM:=aJ 2 (bR j0 cL)
theorem D8:∀us r,gm us=some r→aJ 2 (bR j0 cL) us=some r:=fun _ _ h=>h
noncomputable def N6:List Str:=["name","less","same","more"]
theorem B0 (x:D) (zs:List Str):kE [x,.tup (zs.map D.str)]=some (.t (.bl (!inD x (zs.map D.str)))):=by
 have:bF (zs.map D.str)≤40:=by rw[L2.jO];omega
 cases x <;> simp[kE,this]
theorem Gq {d : D} (h : Sm d) (bs : List Str) : gm [.t d, .t (.lst (bs.map D.str))] = some (.t (.bl (fP bs d)), []) := by
  cases d with
  | tup ds =>
    cases ds with
    | nil=>simp[gm,aJ,bR,aC,bJ,cS,bZ,fP]
    | cons a r=>
      cases qa:dU a with
      | false=>
        have e:fP bs (.tup (a :: r))=false:=by
          have n1:kQ a (.str "any")=false:=by cases a <;> simp[kQ] <;> cases qa
          have n2:kQ a (.str "name")=false:=by cases a <;> simp[kQ] <;> cases qa
          have n3:=ym qa wN
          match r with
          | []=>exact n1
          | [b]=>simp[fP,n2,n3]
          | _ :: _ :: _=>rfl
        rw[e]
        simp[gm,aJ,bR,aC,bJ,cS,bZ,cF,qa]
      | true=>
        obtain⟨s,rfl⟩:∃s,a= .str s:=by
          cases a with
          | str s=>exact⟨s,rfl⟩
          | _=>cases qa
        have i1:=B0 (.str s) N6
        have tl:N6.map D.str=[.str "name",.str "less",.str "same",.str "more"]:=rfl
        rw[tl] at i1
        have dz:bW (.str s)=0:=rfl
        by_cases n1:s="any"
        · have e:fP bs (.tup (.str s :: r))=r.isEmpty:=by
            subst n1
            match r with
            | []=>rfl
            | [b]=>rfl
            | _ :: _ :: _=>rfl
          rw[e]
          cases r with
          | nil=>simp[gm,aJ,bR,aC,bJ,cS,bZ,cF,bU,eq_true n1]
          | cons b r=>
            have:¬((r.length:Int)+1+1=1):=by omega
            have z0:¬((r.length:Int)+1+1=0):=by omega
            simp[gm,aJ,bR,aC,bJ,cS,bZ,cF,bU,eq_true n1,this,z0]
        · match r, h with
          | [],h=>
            have e:fP bs (.tup [.str s])=false:=by simp[fP,n1]
            rw[e]
            simp[gm,aJ,bR,aC,bJ,cS,bZ,cF,bU,n1]
          | [b],h=>
            have hb:=h.mem (x:=b) (by simp)
            have nb:=mC hb
            have w:=oz b 9
            have i2:=Im b bs
            by_cases n2:s="name"
            · have q1:inD (.str s) [.str "name",.str "less",.str "same",.str "more"]=true:=by subst n2;decide
              rw[q1] at i1
              simp[gm,aJ,bR,aC,bJ,cS,bZ,cF,dF,bU,n1,i1,eq_true n2,nb,fP]
            · have q0:inD (.str s) [.str "name",.str "less",.str "same",.str "more"]=inD (.str s) (wN.map D.str):=by
                have Z2:¬(Str.ofString "name" =s):=fun z=>n2 z.symm
                unfold inD wN
                simp only[List.map_cons,List.map_nil,List.any_cons,List.any_nil,uI,beq_eq_false_iff_ne.mpr Z2,Bool.false_or]
              rw[q0] at i1
              have e:fP bs (.tup [.str s,b])=(inD (.str s) (wN.map D.str) && (cY b 0 9 || inD b (bs.map D.str))):=by simp[fP,n2]
              rw[e]
              cases q1:inD (.str s) (wN.map D.str) with
              | false=>
                rw[q1] at i1
                simp[gm,aJ,bR,aC,bJ,cS,bZ,cF,dF,bU,n1,i1]
              | true=>
                rw[q1] at i1
                cases q3:cY b 0 9 with
                | true=>rw[q3] at w;simp[gm,aJ,bR,aC,bJ,cS,bZ,cF,dF,bU,n1,i1,n2,w]
                | false=>
                  rw[q3] at w
                  cases q4:dU b with
                  | true=>simp[gm,aJ,bR,aC,bJ,cS,bZ,cF,dF,bU,n1,i1,n2,w,q4,i2]
                  | false=>
                    have:=ym q4 bs
                    simp[gm,aJ,bR,aC,bJ,cS,bZ,cF,dF,bU,n1,i1,n2,w,q4,this]
          | b :: c :: r,h=>
            have:¬((r.length:Int)+1+1+1=2):=by omega
            have z0:¬((r.length:Int)+1+1+1=0):=by omega
            have e:fP bs (.tup (.str s :: b :: c :: r))=false:=rfl
            rw[e]
            simp[gm,aJ,bR,aC,bJ,cS,bZ,cF,bU,n1,this,z0]
  | _=>simp[gm,aJ,bR,aC,bJ,cS,bZ,fP]
end Ss
end
section
set_option Elab.async false
set_option linter.all false
set_option maxRecDepth 100000
namespace Ss
open PySem PySem.Spec PyProof.Rows L2 Sw
noncomputable abbrev CC:=Int×Int
noncomputable def Bh (f:D→CC→Bool×CC):List D→CC→Bool×CC
 | [],c=>(true,c)
 | p :: ps,c=>((f p c).1 && (Bh f ps (f p c).2).1,(Bh f ps (f p c).2).2)
noncomputable def pR (N7:List Str→D→CC→Bool×CC) (last:Bool) (bs:List Str) (z:Str) (r:List D) (c:CC):Bool×CC:=
 if(¬dg z=(r.length:Int)+1)∨last=true∨16 < c.1+1 then(false,(c.1+1,c.2))
 else if z="now" then(fP bs (r.getD 0 .cH),(c.1+1,c.2))
 else if z="within"∧cY (r.getD 0 .cH) 0 5=false then(false,(c.1+1,c.2))
 else if dc z=true then
  (if 3 < c.2+1∨nameB (r.getD 0 .cH)=false∨nameB (r.getD 1 .cH)=false then(false,(c.1+1,c.2+1))
  else Bh (N7 (bs++[strOf (r.getD 1 .cH)])) (bq z r) (c.1+1,c.2+1))
 else Bh (N7 bs) (bq z r) (c.1+1,c.2)
noncomputable def oG:Nat→List Str→D→CC→Bool×CC
 | 0,bs,.tup (.str z :: r),c=>pR (fun _ _ c=>(false,c)) true bs z r c
 | n+1,bs,.tup (.str z :: r),c=>pR (oG n) false bs z r c
 | _,_,_,c=>(false,c)
noncomputable def aL (jS:FM) (iz:FM) (aX:FM) (cO:FM) (aI:FM):GS:=
 (bI (jU (uH (j5 (qB (u9 ["tuple"] (eF (az 0))))) (uH (qB (eF (eP ux (aa (jk 0) (aa (eC (.int 0)) ao))))) (j5 (qB (u9 ["str"] (dh 0 (eC (.int 0)))))))) (cE (eT (eC (.bl false)))) dM)
 (bI (BI 3 (eC (.int 0)) (eF (eP dm (aa (dh 3 (eC (.int 0))) (aa (eC (.int 1)) ao)))))
 (bI (KL (HQ 2 (CV (bName 4) (CV (bName 5) KI))) (eF (aP jS (aQ (dh 0 (eC (.int 0))) bN))))
 (bI (jU (uH (qB (eF (eP Jh (aa (jk 0) (aa (eF (az 4)) ao))))) (uH (qB (eF (eP BE (aa (eF (az 2)) (aa (eC (.int 8)) ao))))) (qB (eF (eP BE (aa (dh 3 (eC (.int 0))) (aa (eC (.int 16)) ao))))))) (cE (eT (eC (.bl false)))) dM)
 (bI (jU (qB (eF (eP ux (aa (dh 0 (eC (.int 0))) (aa (eC (.str "now")) ao))))) (cE (aP iz (aQ (dh 0 (eC (.int 1))) (aQ (eF (az 1)) bN)))) dM)
 (bI (jU (je (qB (eF (eP ux (aa (dh 0 (eC (.int 0))) (aa (eC (.str "within")) ao))))) (j5 (qB (eF (aP aX (aQ (dh 0 (eC (.int 1))) (aQ (eC (.int 5)) bN))))))) (cE (eT (eC (.bl false)))) dM)
 (bI (jU (qB (eF (eP Ad (aa (dh 0 (eC (.int 0))) (aa (eF (eP br (aa (eC (.str "each")) (aa (eC (.str "one")) ao)))) ao))))) (bI (BI 3 (eC (.int 1)) (eF (eP dm (aa (dh 3 (eC (.int 1))) (aa (eC (.int 1)) ao)))))
 (bI (jU (uH (qB (eF (eP BE (aa (dh 3 (eC (.int 1))) (aa (eC (.int 3)) ao))))) (uH (j5 (qB (eF (aP cO (aQ (dh 0 (eC (.int 1))) bN))))) (j5 (qB (eF (aP cO (aQ (dh 0 (eC (.int 2))) bN))))))) (cE (eT (eC (.bl false)))) dM)
 (dN 1 (eP dm (aa (eF (az 1)) (aa (eF (eP cG (aa (dh 0 (eC (.int 2))) ao))) ao)))))) dM)
 (cE (eP ux (aa (eF (Ie 1 (tU [3,2,0,1] (qF (eF (az 5))) (j5 (qB (eF (aP aI (aQ (dh 3 (eF (az 0))) (aQ (eF (az 4)) (aQ (eF (eP dm (aa (eF (az 2)) (aa (eC (.int 1)) ao)))) (cT (az 1) bN)))))))) (eF (az 0))))) (aa (eF (eP cG ao)) ao)))))))))))
@[simp] theorem TM (i:Nat) (g:GE) (S:SS):Ie i g S=g (xX i S):=rfl
section
variable {f1 f2 f3 f4 f5:FM}{z:Str}{r:List D}{vs dp:D}{c0 c1:Int}
noncomputable abbrev cn (a b:Int):MO:=.lst [.int a,.int b]
theorem oH (a b:D):iJ [a,b] 0=some a∧iJ [a,b] 1=some b:=⟨rfl,rfl⟩
theorem Gr:Bg 2 0=some 0∧Bg 2 1=some 1:=⟨rfl,rfl⟩
theorem Jo {d : D} (h : ∀ z r, d ≠ .tup (.str z :: r)) : aJ 6 (aL f1 f2 f3 f4 f5) [.t d, .t vs, .t dp, .b (cn c0 c1)] = some (.t (.bl false), [cn c0 c1]) := by
  cases d with
  | tup ds =>
    cases ds with
    | nil=>simp[aJ,aL,aC,bJ,cS,bZ]
    | cons a r=>
      have e2:dU a=false:=by
        cases a with
        | str z=>exact absurd rfl (h z r)
        | _=>rfl
      have z0:¬((r.length:Int)+1=0):=by omega
      simp[aJ,aL,aC,bJ,cS,bZ,cF,e2,z0]
  | _=>simp[aJ,aL,aC,bJ,cS,bZ]
theorem N8 {lg deep:Int}{zh:List D}(e1:f1 [.t (.str z)]=some (.t (.tup [.int lg,.lst zh]),[])) (h:¬((r.length:Int)+1=lg)∨8 < deep∨16 < c0+1):aJ 6 (aL f1 f2 f3 f4 f5) [.t (.tup (.str z :: r)),.t vs,.t (.int deep),.b (cn c0 c1)]=some (.t (.bl false),[cn (c0+1) c1]):=by
 have z0:¬((r.length:Int)+1=0):=by omega
 by_cases a:(r.length:Int)+1=lg
 ·subst a
  by_cases b:8 < deep
  ·simp[aJ,aL,aC,bJ,cS,bZ,cF,bU,z0,oH,Gr,e1,b]
  ·have c:16 < c0+1:=by rcases h with h | h | h;exact absurd rfl h;exact absurd h b;exact h
   simp[aJ,aL,aC,bJ,cS,bZ,cF,bU,z0,oH,Gr,e1,b,c]
 ·simp[aJ,aL,aC,bJ,cS,bZ,cF,bU,z0,oH,Gr,e1,a]
theorem Lk {deep:Int}{zh:List D}{a:D}{b:Bool}(e1:f1 [.t (.str z)]=some (.t (.tup [.int ((r.length:Int)+1+1),.lst zh]),[])) (h1:¬8 < deep) (h2:¬16 < c0+1) (hz:z="now") (e2:f2 [.t a,.t vs]=some (.t (.bl b),[])):aJ 6 (aL f1 f2 f3 f4 f5) [.t (.tup (.str z :: a :: r)),.t vs,.t (.int deep),.b (cn c0 c1)]=some (.t (.bl b),[cn (c0+1) c1]):=by
 have z0:¬((r.length:Int)+1+1=0):=by omega
 simp[aJ,aL,aC,bJ,cS,bZ,cF,dF,bU,z0,oH,Gr,e1,h1,h2,eq_true hz,e2]
theorem D9 {deep:Int}{zh:List D}{a:D}(e1:f1 [.t (.str z)]=some (.t (.tup [.int ((r.length:Int)+1+1),.lst zh]),[])) (h1:¬8 < deep) (h2:¬16 < c0+1) (hz1:¬z="now") (hz:z="within") (e2:f3 [.t a,.t (.int 5)]=some (.t (.bl false),[])):aJ 6 (aL f1 f2 f3 f4 f5) [.t (.tup (.str z :: a :: r)),.t vs,.t (.int deep),.b (cn c0 c1)]=some (.t (.bl false),[cn (c0+1) c1]):=by
 have z0:¬((r.length:Int)+1+1=0):=by omega
 simp[aJ,aL,aC,bJ,cS,bZ,cF,dF,bU,z0,oH,Gr,e1,h1,h2,hz1,eq_true hz,e2]
noncomputable abbrev QJ (f5:FM):GT:=j5 (qB (eF (aP f5 (aQ (dh 3 (eF (az 0))) (aQ (eF (az 4)) (aQ (eF (eP dm (aa (eF (az 2)) (aa (eC (.int 1)) ao)))) (cT (az 1) bN)))))))
theorem zj (z:Str):Ad [.str z,.tup [.str "each",.str "one"]]=some (.t (.bl (dc z))):=zd (.str z) Gf
theorem Ll {deep:Int}{zh:List D}{a b:D}{na nb:Bool}(e1:f1 [.t (.str z)]=some (.t (.tup [.int ((r.length:Int)+1+1+1),.lst zh]),[])) (h1:¬8 < deep) (h2:¬16 < c0+1) (hz1:¬z="now") (hz2:¬z="within") (hz:dc z=true)
  (e2:f4 [.t a]=some (.t (.bl na),[])) (e3:f4 [.t b]=some (.t (.bl nb),[])) (hb:3 < c1+1∨na=false∨nb=false):aJ 6 (aL f1 f2 f3 f4 f5) [.t (.tup (.str z :: a :: b :: r)),.t vs,.t (.int deep),.b (cn c0 c1)]=some (.t (.bl false),[cn (c0+1) (c1+1)]):=by
 have z0:¬((r.length:Int)+1+1+1=0):=by omega
 have fb:=zj z
 rw[hz] at fb
 by_cases k1:3 < c1+1
 ·simp[aJ,aL,aC,bJ,cS,bZ,cF,dF,m8,bU,z0,oH,Gr,e1,h1,h2,hz1,hz2,fb,e2,e3,k1]
 ·cases na with
  | false=>simp[aJ,aL,aC,bJ,cS,bZ,cF,dF,m8,bU,z0,oH,Gr,e1,h1,h2,hz1,hz2,fb,e2,e3,k1]
  | true=>cases nb with
   | false=>simp[aJ,aL,aC,bJ,cS,bZ,cF,dF,m8,bU,z0,oH,Gr,e1,h1,h2,hz1,hz2,fb,e2,e3,k1]
   | true=>rcases hb with q | q | q;exact absurd q k1;cases q;cases q
theorem Lm {deep a0 a1:Int}{zh vl fl:List D}{a b:D}(e1:f1 [.t (.str z)]=some (.t (.tup [.int ((r.length:Int)+1+1+1),.lst zh]),[])) (h1:¬8 < deep) (h2:¬16 < c0+1) (hz1:¬z="now") (hz2:¬z="within") (hz:dc z=true)
  (e2:f4 [.t a]=some (.t (.bl true),[])) (e3:f4 [.t b]=some (.t (.bl true),[])) (hb:¬3 < c1+1) (hv:vl.length+1≤100000) (hp:zh.length≤100000)
  (hc:ir [3,2,0,1] (QJ f5) (eF (az 0)) zh [some (.t (.tup (.str z :: a :: b :: r))),some (.t (.lst (vl++[b]))),some (.t (.int deep)),some (.b (cn (c0+1) (c1+1))),some (.t (.int ((r.length:Int)+1+1+1))),some (.t (.lst zh))] []=some (fl,[some (.t (.tup (.str z :: a :: b :: r))),some (.t (.lst (vl++[b]))),some (.t (.int deep)),some (.b (cn a0 a1)),some (.t (.int ((r.length:Int)+1+1+1))),some (.t (.lst zh))]))
  (hd:bW (.lst fl)≤40):aJ 6 (aL f1 f2 f3 f4 f5) [.t (.tup (.str z :: a :: b :: r)),.t (.lst vl),.t (.int deep),.b (cn c0 c1)]=some (.t (.bl (kQ (.lst fl) (.lst []))),[cn a0 a1]):=by
 have z0:¬((r.length:Int)+1+1+1=0):=by omega
 have fb:=zj z
 rw[hz] at fb
 simp only[QJ,cn] at hc
 simp[aJ,aL,aC,bJ,cS,bZ,cF,dF,m8,bU,z0,oH,Gr,e1,h1,h2,hz1,hz2,fb,e2,e3,hb,hv,hp,ou,xX,hc,hd]
theorem N9 {deep a0 a1:Int}{zh vl fl:List D}(e1:f1 [.t (.str z)]=some (.t (.tup [.int ((r.length:Int)+1),.lst zh]),[])) (h1:¬8 < deep) (h2:¬16 < c0+1) (hz1:¬z="now") (hz2:¬z="within"∨∃a q,r=a :: q∧f3 [.t a,.t (.int 5)]=some (.t (.bl true),[])) (hz:dc z=false) (hp:zh.length≤100000)
  (hc:ir [3,2,0,1] (QJ f5) (eF (az 0)) zh [some (.t (.tup (.str z :: r))),some (.t (.lst vl)),some (.t (.int deep)),some (.b (cn (c0+1) c1)),some (.t (.int ((r.length:Int)+1))),some (.t (.lst zh))] []=some (fl,[some (.t (.tup (.str z :: r))),some (.t (.lst vl)),some (.t (.int deep)),some (.b (cn a0 a1)),some (.t (.int ((r.length:Int)+1))),some (.t (.lst zh))]))
  (hd:bW (.lst fl)≤40):aJ 6 (aL f1 f2 f3 f4 f5) [.t (.tup (.str z :: r)),.t (.lst vl),.t (.int deep),.b (cn c0 c1)]=some (.t (.bl (kQ (.lst fl) (.lst []))),[cn a0 a1]):=by
 have z0:¬((r.length:Int)+1=0):=by omega
 have fb:=zj z
 rw[hz] at fb
 simp only[QJ,cn] at hc
 by_cases k:z="within"
 ·rcases hz2 with q | ⟨a,q,rfl,e2⟩
  ·exact absurd k q
  ·simp only[List.length_cons] at *
   have z0:¬((q.length:Int)+1+1=0):=by omega
   simp at hc e1
   simp[aJ,aL,aC,bJ,cS,bZ,cF,dF,bU,z0,oH,Gr,e1,h1,h2,hz1,eq_true k,e2,fb,hp,ou,xX,hc,hd]
 ·simp[aJ,aL,aC,bJ,cS,bZ,cF,bU,z0,oH,Gr,e1,h1,h2,hz1,k,fb,hp,ou,xX,hc,hd]
end
end Ss
end
section
set_option Elab.async false
set_option linter.all false
set_option maxRecDepth 100000
namespace Ss
open PySem PySem.Spec PyProof.Rows L2 Sw
theorem uK {f5 : FM} {vs : D} {tl : List D} {deep : Int} {x4 x5 : Option U} {F : D → CC → Bool × CC} : ∀ (ks : List Int) (ps acc : List D) (c : CC), ks.map (iJ tl) = ps.map some →
    (∀p∈ps,∀c:CC,f5 [.t p,.t vs,.t (.int (deep+1)),.b (cn c.1 c.2)]=some (.t (.bl (F p c).1),[cn (F p c).2.1 (F p c).2.2]))→
    ∃is:List Int,ir [3,2,0,1] (QJ f5) (eF (az 0)) (ks.map D.int) [some (.t (.tup tl)),some (.t vs),some (.t (.int deep)),some (.b (cn c.1 c.2)),x4,x5] acc=some (acc++is.map D.int,[some (.t (.tup tl)),some (.t vs),some (.t (.int deep)),some (.b (cn (Bh F ps c).2.1 (Bh F ps c).2.2)),x4,x5])∧is.isEmpty=(Bh F ps c).1
  | [],[],acc,c,_,_=>⟨[],by simp[ir,Bh],rfl⟩
  | [],_ :: _,_,_,h,_=>by cases h
  | _ :: _,[],_,_,h,_=>by cases h
  | k :: ks, p :: ps, acc, c, h, hf => by
    rw[List.map_cons,List.map_cons] at h
    injection h with h1 h2
    have e1:=hf p List.mem_cons_self c
    rw[List.map_cons,Sq.BS]
    obtain⟨c0,c1⟩:=c
    simp only at e1
    cases q:(F p (c0,c1)).1 with
    | true=>
      rw[q] at e1
      obtain⟨is,g1,g2⟩:=uK (f5:=f5) (vs:=vs) (deep:=deep) (x4:=x4) (x5:=x5) (F:=F) ks ps acc (F p (c0,c1)).2 h2 fun x hx=>hf x (List.mem_cons_of_mem _ hx)
      refine⟨is,?_,?_⟩
      · have st:ir [3,2,0,1] (QJ f5) (eF (az 0)) [.int k] [some (.t (.tup tl)),some (.t vs),some (.t (.int deep)),some (.b (cn c0 c1)),x4,x5] acc=some (acc,[some (.t (.tup tl)),some (.t vs),some (.t (.int deep)),some (.b (cn (F p (c0,c1)).2.1 (F p (c0,c1)).2.2)),x4,x5]):=by
          simp only[cn] at e1 ⊢
          simp[ir,kW,yY,h1,e1,aC]
        rw[st,Option.bind_some]
        exact g1
      · rw[g2]
        show(Bh F ps (F p (c0,c1)).2).1=((F p (c0,c1)).1 && (Bh F ps (F p (c0,c1)).2).1)
        rw[q,Bool.true_and]
    | false=>
      rw[q] at e1
      obtain⟨is,g1,g2⟩:=uK (f5:=f5) (vs:=vs) (deep:=deep) (x4:=x4) (x5:=x5) (F:=F) ks ps (acc++[.int k]) (F p (c0,c1)).2 h2 fun x hx=>hf x (List.mem_cons_of_mem _ hx)
      refine⟨k :: is,?_,?_⟩
      · have st:ir [3,2,0,1] (QJ f5) (eF (az 0)) [.int k] [some (.t (.tup tl)),some (.t vs),some (.t (.int deep)),some (.b (cn c0 c1)),x4,x5] acc=some (acc++[.int k],[some (.t (.tup tl)),some (.t vs),some (.t (.int deep)),some (.b (cn (F p (c0,c1)).2.1 (F p (c0,c1)).2.2)),x4,x5]):=by
          simp only[cn] at e1 ⊢
          simp[ir,kW,yY,h1,e1,aC]
        rw[st,Option.bind_some]
        simp only
        rw[g1]
        show _=some (acc++(.int k :: is.map D.int),_)
        rw[List.append_assoc]
        rfl
      · show false=((F p (c0,c1)).1 && _)
        rw[q]
        rfl
theorem Ea {z:Str}{r:List D}(hh:sD z) (c:dg z=(r.length:Int)+1):(Ex z).map (iJ (.str z :: r))=(bq z r).map some:=by
 have s1:=hh.s1
 have s4:=hh.s4
 unfold Ex bq
 rw[List.map_map]
 apply List.ext_getElem?
 intro i
 rw[List.getElem?_map,List.getElem?_map,List.getElem?_drop]
 by_cases hi:i < (dg z - dQ z).toNat
 ·rw[List.getElem?_range hi]
  have hlt:dQ z+i < (D.str z :: r).length:=by rw[List.length_cons];omega
  rw[List.getElem?_eq_getElem hlt]
  show some (iJ (.str z :: r) ((dQ z:Int)+i))=some (some _)
  rw[Sq.BU (x:=(D.str z :: r)[dQ z+i]) (by omega) (by rw[show((dQ z:Int)+(i:Int)).toNat=dQ z+i by omega];exact List.getElem?_eq_getElem hlt)]
 ·rw[List.getElem?_eq_none (by rw[List.length_range];omega),List.getElem?_eq_none (by rw[List.length_cons];omega)]
  rfl
noncomputable def oJ:Nat→FM
 | 0=>fun _=>none
 | j+1=>aJ 6 (aL oF gm cL j0 (oJ j))
theorem Gs (j:Nat):∀us r,oJ (j+1) us=some r→aJ 6 (aL oF gm cL j0 (oJ j)) us=some r:=fun _ _ h=>h
theorem Az (is:List Int):bW (.lst (is.map D.int))≤40:=by
 have:bF (is.map D.int)≤0:=vp fun d hd=>by obtain⟨i,_,rfl⟩:=List.mem_map.mp hd;exact Nat.le_refl _
 show bF (is.map D.int)+1≤40
 omega
theorem AA (is:List Int):kQ (.lst (is.map D.int)) (.lst [])=is.isEmpty:=by cases is <;> rfl
theorem uL (n:Nat) (bs:List Str){d:D}(c:CC) (h:∀z r,d≠.tup (.str z :: r)):oG n bs d c=(false,c):=by
 cases d with
 | tup ds=>
  cases ds with
  | nil=>cases n <;> rfl
  | cons a r=>
   cases a with
   | str z=>exact absurd rfl (h z r)
   | _=>cases n <;> rfl
 | _=>cases n <;> rfl
theorem ni:dg "now" =2∧dg "within" =3:=by decide
theorem IB : ∀ (n j : Nat), n ≤ j → ∀ (d : D) (bs : List Str) (c : CC), Sm d → bs.length + n ≤ 100 → oJ (j + 1) [.t d, .t (.lst (bs.map D.str)), .t (.int (9 - (n : Int))), .b (cn c.1 c.2)] = some (.t (.bl (oG n bs d c).1), [cn (oG n bs d c).2.1 (oG n bs d c).2.2]) := by
  intro n
  induction n with
  | zero=>
    intro j hj d bs c hd hb
    by_cases hz:∃z r,d= .tup (.str z :: r)
    · obtain⟨z,r,rfl⟩:=hz
      have e:oG 0 bs (.tup (.str z :: r)) c=(false,(c.1+1,c.2)):=by
        show pR _ true bs z r c=_
        unfold pR
        rw[if_pos (.inr (.inl rfl))]
      rw[e]
      exact N8 (yj z) (.inr (.inl (by omega)))
    · rw[uL 0 bs c fun z r e=>hz ⟨z,r,e⟩]
      exact Jo fun z r e=>hz ⟨z,r,e⟩
  | succ n ih =>
    intro j hj d bs c hd hb
    obtain⟨c0,c1⟩:=c
    by_cases hz:∃z r,d= .tup (.str z :: r)
    · obtain⟨z,r,rfl⟩:=hz
      have e1:=yj z
      obtain⟨j,rfl⟩:∃i,j=i+1:=⟨j - 1,by omega⟩
      have eJ:oG (n+1) bs (.tup (.str z :: r)) (c0,c1)=pR (oG n) false bs z r (c0,c1):=rfl
      rw[eJ]
      unfold pR
      by_cases A:(¬dg z=(r.length:Int)+1)∨(false=true)∨16 < (c0,c1).1+1
      · rw[if_pos A]
        refine N8 e1 ?_
        rcases A with q | q | q
        · exact .inl fun z=>q z.symm
        · cases q
        · exact .inr (.inr q)
      · rw[if_neg A]
        have cl:dg z=(r.length:Int)+1:=Classical.byContradiction fun q=>A (.inl q)
        have GY:¬16 < c0+1:=fun q=>A (.inr (.inr q))
        have hh:=zf z (oA (by omega))
        have d8:¬(8:Int) < 9 - ((n+1:Nat):Int):=by omega
        have en:9 - ((n+1:Nat):Int)+1=9 - (n:Int):=by omega
        rw[cl] at e1
        have pl:=Ea hh cl
        have Z3:(Ex z).length≤100000:=by
          have:=congrArg List.length pl
          rw[List.length_map,List.length_map] at this
          have:=pH hh cl
          omega
        have Oa:((Ex z).map D.int).length≤100000:=by rw[List.length_map];exact Z3
        have psm:∀p∈bq z r,Sm p:=fun p hp=>hd.mem (List.mem_cons_of_mem _ (yg hh hp))
        by_cases n1:z="now"
        · rw[if_pos n1]
          have:dg z=2:=by rw[n1];exact ni.1
          match r,hd,cl,e1 with
          | [],hd,cl,e1=>simp at cl;omega
          | a :: r2,hd,cl,e1=>
            simp only[List.length_cons] at e1
            exact Lk (by simpa using e1) d8 GY n1 (Gq (hd.mem (x:=a) (by simp)) bs)
        · rw[if_neg n1]
          by_cases n2:z="within"∧cY (r.getD 0 .cH) 0 5=false
          · rw[if_pos n2]
            have:dg z=3:=by rw[n2.1];exact ni.2
            match r,hd,cl,e1,n2 with
            | [],hd,cl,e1,n2=>simp at cl;omega
            | a :: r2,hd,cl,e1,n2=>
              simp only[List.length_cons] at e1
              exact D9 (by simpa using e1) d8 GY n1 n2.1 (by rw[oz];rw[show cY a 0 5=false from n2.2])
          · rw[if_neg n2]
            cases hb2:dc z with
            | true=>
              rw[if_pos rfl]
              have n3:¬z="within":=by rcases jm hb2 with rfl | rfl <;> decide
              have l4:dg z=4:=by rcases jm hb2 with rfl | rfl <;> decide
              match r,hd,cl,e1,pl,psm with
              | [],hd,cl,e1,_,_=>simp at cl;omega
              | [a],hd,cl,e1,_,_=>simp at cl;omega
              | a :: b :: r2, hd, cl, e1, pl, psm =>
                have na:=mC (hd.mem (x:=a) (by simp))
                have nb:=mC (hd.mem (x:=b) (by simp))
                simp only[List.length_cons] at e1
                have e1:oF [.t (.str z)]=some (.t (.tup [.int ((r2.length:Int)+1+1+1),.lst ((Ex z).map D.int)]),[]):=by simpa using e1
                by_cases B:3 < (c0,c1).2+1∨nameB ((a :: b :: r2).getD 0 .cH)=false∨nameB ((a :: b :: r2).getD 1 .cH)=false
                · rw[if_pos B]
                  exact Ll e1 d8 GY n1 n3 hb2 na nb B
                · rw[if_neg B]
                  have b3:¬3 < c1+1:=fun q=>B (.inl q)
                  have ba:nameB a=true:=by
                    cases q:nameB a with
                    | true=>rfl
                    | false=>exact absurd (.inr (.inl q)) B
                  have bb:nameB b=true:=by
                    cases q:nameB b with
                    | true=>rfl
                    | false=>exact absurd (.inr (.inr q)) B
                  obtain⟨y,rfl⟩:=Av bb
                  rw[ba] at na
                  rw[bb] at nb
                  obtain⟨is,g1,g2⟩:=uK (f5:=oJ (j+1)) (vs:=.lst ((bs++[y]).map D.str)) (tl:=.str z :: a :: .str y :: r2) (deep:=9 - ((n+1:Nat):Int)) (x4:=some (.t (.int ((r2.length:Int)+1+1+1)))) (x5:=some (.t (.lst ((Ex z).map D.int)))) (F:=oG n (bs++[y])) (Ex z) (bq z (a :: .str y :: r2)) [] (c0+1,c1+1) pl (fun p hp c=>by
                    rw[en]
                    exact ih j (by omega) p (bs++[y]) c (psm p hp) (by rw[List.length_append,List.length_singleton];omega))
                  rw[List.nil_append] at g1
                  have vl:(bs++[y]).map D.str=bs.map D.str++[.str y]:=by rw[List.map_append];rfl
                  rw[vl] at g1
                  have:=Lm (f2:=gm) (f3:=cL) (c0:=c0) (c1:=c1) (fl:=is.map D.int) e1 d8 GY n1 n3 hb2 na nb b3 (by rw[List.length_map];omega) Oa g1 (Az is)
                  rw[AA,g2] at this
                  exact this
            | false =>
              rw[if_neg (by simp)]
              obtain⟨is,g1,g2⟩:=uK (f5:=oJ (j+1)) (vs:=.lst (bs.map D.str)) (tl:=.str z :: r) (deep:=9 - ((n+1:Nat):Int)) (x4:=some (.t (.int ((r.length:Int)+1)))) (x5:=some (.t (.lst ((Ex z).map D.int)))) (F:=oG n bs) (Ex z) (bq z r) [] (c0+1,c1) pl (fun p hp c=>by
                rw[en]
                exact ih j (by omega) p bs c (psm p hp) (by omega))
              rw[List.nil_append] at g1
              have wz:¬z="within"∨∃a q,r=a :: q∧cL [.t a,.t (.int 5)]=some (.t (.bl true),[]):=by
                by_cases n3:z="within"
                · right
                  have:dg z=3:=by rw[n3];exact ni.2
                  match r,cl,n2 with
                  | [],cl,n2=>simp at cl;omega
                  | a :: r2,cl,n2=>
                    refine⟨a,r2,rfl,?_⟩
                    rw[oz]
                    cases q:cY a 0 5 with
                    | true=>rfl
                    | false=>exact absurd ⟨n3,q⟩ n2
                · exact .inl n3
              have:=N9 (f2:=gm) (f4:=j0) (c0:=c0) (c1:=c1) (fl:=is.map D.int) e1 d8 GY n1 wz hb2 Oa g1 (Az is)
              rw[AA,g2] at this
              exact this
    · rw[uL (n+1) bs (c0,c1) fun z r e=>hz ⟨z,r,e⟩]
      exact Jo fun z r e=>hz ⟨z,r,e⟩
end Ss
end
section
set_option Elab.async false
set_option linter.all false
set_option maxRecDepth 100000
namespace Ss
open PySem PySem.Spec PyProof.Rows L2 Sw
noncomputable def Gu (n:Nat) (bs:List Str) (d:D) (f:D→CC→Bool×CC):Prop:=∀c0 c1:Int,c0≤16→c1≤3→
 ((f d (c0,c1)).1=true↔cM n bs d=true∧c0+(gF n d:Int)≤16∧c1+(kh n d:Int)≤3)∧((f d (c0,c1)).1=true→(f d (c0,c1)).2=(c0+(gF n d:Int),c1+(kh n d:Int)))
theorem B3 {n : Nat} {bs : List Str} {f : D → CC → Bool × CC} : ∀ (ps : List D), (∀ p ∈ ps, Gu n bs p f) → ∀ c0 c1 : Int, c0 ≤ 16 → c1 ≤ 3 →
    ((Bh f ps (c0,c1)).1=true↔(∀p∈ps,cM n bs p=true)∧c0+((ps.flatMap (fX n)).length:Int)≤16∧c1+(((ps.flatMap (fX n)).filter vD).length:Int)≤3)∧((Bh f ps (c0,c1)).1=true→(Bh f ps (c0,c1)).2=(c0+((ps.flatMap (fX n)).length:Int),c1+(((ps.flatMap (fX n)).filter vD).length:Int)))
  | [],_,c0,c1,h0,h1=>by
    refine⟨⟨fun _=>⟨by simp,by simpa using h0,by simpa using h1⟩,fun _=>rfl⟩,fun _=>?_⟩
    show(c0,c1)=_
    simp
  | p :: ps, hp, c0, c1, h0, h1 => by
    obtain⟨a1,a2⟩:=hp p List.mem_cons_self c0 c1 h0 h1
    have hps:∀q∈ps,Gu n bs q f:=fun q hq=>hp q (List.mem_cons_of_mem _ hq)
    have el:(((p :: ps).flatMap (fX n)).length:Int)=(gF n p:Int)+((ps.flatMap (fX n)).length:Int):=by rw[List.flatMap_cons,List.length_append];unfold gF;push_cast;rfl
    have eb:((((p :: ps).flatMap (fX n)).filter vD).length:Int)=(kh n p:Int)+(((ps.flatMap (fX n)).filter vD).length:Int):=by rw[List.flatMap_cons,List.filter_append,List.length_append];unfold kh;push_cast;rfl
    rw[el,eb]
    have eg:Bh f (p :: ps) (c0,c1)=((f p (c0,c1)).1 && (Bh f ps (f p (c0,c1)).2).1,(Bh f ps (f p (c0,c1)).2).2):=rfl
    rw[eg]
    simp only
    cases q:(f p (c0,c1)).1 with
    | false=>
      rw[Bool.false_and]
      refine⟨⟨fun z=>(by cases z),fun⟨z1,z2,z3⟩=>?_⟩,fun z=>(by cases z)⟩
      exfalso
      have:(f p (c0,c1)).1=true:=a1.mpr ⟨z1 p List.mem_cons_self,by omega,by omega⟩
      rw[q] at this
      cases this
    | true=>
      obtain⟨b1,b2,b3⟩:=a1.mp q
      have e2:=a2 q
      rw[e2,Bool.true_and]
      obtain⟨i1,i2⟩:=B3 ps hps (c0+gF n p) (c1+kh n p) b2 b3
      refine⟨⟨fun z=>?_,fun⟨z1,z2,z3⟩=>?_⟩,fun z=>?_⟩
      · obtain⟨y1,y2,y3⟩:=i1.mp z
        refine⟨fun x hx=>?_,by omega,by omega⟩
        rcases List.mem_cons.mp hx with rfl | w
        · exact b1
        · exact y1 x w
      · exact i1.mpr ⟨fun x hx=>z1 x (List.mem_cons_of_mem _ hx),by omega,by omega⟩
      · rw[i2 z]
        exact Prod.ext (by simp only;omega) (by simp only;omega)
theorem qX (n:Nat) (z:Str) (r:List D):(gF (n+1) (.tup (.str z :: r)):Int)=1+(((bq z r).flatMap (fX n)).length:Int):=by
 unfold gF
 show(((.tup (.str z :: r):D) :: (bq z r).flatMap (fX n)).length:Int)=_
 rw[List.length_cons]
 push_cast
 omega
theorem uM (n:Nat) (z:Str) (r:List D):(kh (n+1) (.tup (.str z :: r)):Int)=(if dc z=true then 1 else 0)+((((bq z r).flatMap (fX n)).filter vD).length:Int):=by
 unfold kh
 show((((.tup (.str z :: r):D) :: (bq z r).flatMap (fX n)).filter vD).length:Int)=_
 by_cases h:dc z=true
 ·rw[List.filter_cons_of_pos (by exact h),if_pos h,List.length_cons]
  push_cast
  omega
 ·rw[List.filter_cons_of_neg (by exact h),if_neg h]
  omega
theorem kI (n:Nat) (bs:List Str) (z:Str) (r:List D):cM (n+1) bs (.tup (.str z :: r))=true↔cW bs z r=true∧∀p∈bq z r,cM n (cZ bs z r) p=true:=by
 show(cW bs z r && (bq z r).all (cM n (cZ bs z r)))=true↔_
 rw[Bool.and_eq_true_iff,List.all_eq_true]
theorem ud {bs:List Str}{z:Str}{r:List D}(c:dg z=(r.length:Int)+1) (n1:¬z="now") (n2:¬(z="within"∧cY (r.getD 0 .cH) 0 5=false)) (hb:dc z=false):cW bs z r=true:=by
 unfold cW
 rw[if_pos c]
 cases r with
 | nil=>rfl
 | cons a q=>
  simp only[n1,if_false,hb]
  by_cases k:z="within"
  ·rw[if_pos k]
   cases w:cY a 0 5 with
   | true=>rfl
   | false=>exact absurd ⟨k,w⟩ n2
  ·rw[if_neg k]
   rfl
theorem Gv : ∀ (n : Nat) (bs : List Str) (d : D), Gu n bs d (oG n bs) := by
  intro n
  induction n with
  | zero=>
    intro bs d c0 c1 h0 h1
    have e:(oG 0 bs d (c0,c1)).1=false:=by
      by_cases hz:∃z r,d= .tup (.str z :: r)
      · obtain⟨z,r,rfl⟩:=hz
        show(pR _ true bs z r (c0,c1)).1=_
        unfold pR
        rw[if_pos (.inr (.inl rfl))]
      · rw[uL 0 bs _ fun z r e=>hz ⟨z,r,e⟩]
    rw[e]
    exact⟨⟨fun z=>(by cases z),fun z=>(by cases z.1)⟩,fun z=>(by cases z)⟩
  | succ n ih =>
    intro bs d c0 c1 h0 h1
    by_cases hz:∃z r,d= .tup (.str z :: r)
    · obtain⟨z,r,rfl⟩:=hz
      have es:=qX n z r
      have eb:=uM n z r
      have ef:=kI n bs z r
      have eJ:oG (n+1) bs (.tup (.str z :: r)) (c0,c1)=pR (oG n) false bs z r (c0,c1):=rfl
      rw[eJ]
      have no:∀x:Bool×CC,x.1=false→¬(cM (n+1) bs (.tup (.str z :: r))=true∧c0+(gF (n+1) (.tup (.str z :: r)):Int)≤16∧c1+(kh (n+1) (.tup (.str z :: r)):Int)≤3)→
          (x.1=true↔cM (n+1) bs (.tup (.str z :: r))=true∧c0+(gF (n+1) (.tup (.str z :: r)):Int)≤16∧c1+(kh (n+1) (.tup (.str z :: r)):Int)≤3)∧(x.1=true→x.2=(c0+(gF (n+1) (.tup (.str z :: r)):Int),c1+(kh (n+1) (.tup (.str z :: r)):Int))):=fun x hx hn=>by
        rw[hx]
        exact⟨⟨fun y=>(by cases y),fun y=>absurd y hn⟩,fun y=>(by cases y)⟩
      unfold pR
      by_cases A:(¬dg z=(r.length:Int)+1)∨(false=true)∨16 < (c0,c1).1+1
      · rw[if_pos A]
        refine no _ rfl fun⟨y1,y2,y3⟩=>?_
        rcases A with q | q | q
        · exact q (kH (ef.mp y1).1).1
        · cases q
        · have q:16 < c0+1:=q
          omega
      · rw[if_neg A]
        have cl:dg z=(r.length:Int)+1:=Classical.byContradiction fun q=>A (.inl q)
        have GY:¬16 < c0+1:=fun q=>A (.inr (.inr q))
        by_cases n1:z="now"
        · rw[if_pos n1]
          have l2:dg z=2:=by rw[n1];exact ni.1
          have s2:dQ z=2:=by rw[n1];decide
          have nb:dc z=false:=by rw[n1];decide
          match r,cl,es,eb,ef,no with
          | [],cl,es,eb,ef,no=>simp at cl;omega
          | a :: b :: q,cl,es,eb,ef,no=>simp only[List.length_cons] at cl;omega
          | [a],cl,es,eb,ef,no=>
            have pn:bq z [a]=[]:=by unfold bq;rw[s2];rfl
            have sh:cW bs z [a]=fP bs a:=by unfold cW;rw[if_pos cl];simp only[if_pos n1]
            rw[pn] at es eb ef
            rw[sh] at ef
            rw[nb] at eb
            simp at es eb ef
            have e1:([a]:List D).getD 0 .cH=a:=rfl
            rw[e1]
            simp only
            refine⟨⟨fun y=>⟨ef.trans y,by omega,by omega⟩,fun y=>ef.symm.trans y.1⟩,fun y=>?_⟩
            rw[es,eb]
            simp
        · rw[if_neg n1]
          by_cases n2:z="within"∧cY (r.getD 0 .cH) 0 5=false
          · rw[if_pos n2]
            refine no _ rfl fun⟨y1,y2,y3⟩=>?_
            have sh:=(ef.mp y1).1
            unfold cW at sh
            rw[if_pos cl] at sh
            have l3:dg z=3:=by rw[n2.1];exact ni.2
            match r,cl,n2,sh with
            | [],cl,n2,sh=>simp at cl;omega
            | a :: q,cl,n2,sh=>
              simp only at sh
              rw[if_neg n1,if_pos n2.1,show cY a 0 5=false from n2.2] at sh
              cases sh
          · rw[if_neg n2]
            cases hb:dc z with
            | true=>
              rw[if_pos rfl]
              rw[hb,if_pos rfl] at eb
              have n3:¬z="within":=by rcases jm hb with rfl | rfl <;> decide
              by_cases B:3 < (c0,c1).2+1∨nameB (r.getD 0 .cH)=false∨nameB (r.getD 1 .cH)=false
              · rw[if_pos B]
                refine no _ rfl fun⟨y1,y2,y3⟩=>?_
                obtain⟨a,y,p,rfl,k1,k2⟩:=yf (ef.mp y1).1 hb
                rcases B with q | q | q
                · have q:3 < c1+1:=q
                  omega
                · rw[show nameB a=false from q] at k1;cases k1
                · rw[show nameB (.str y)=false from q] at k2;cases k2
              · rw[if_neg B]
                have b3:¬3 < c1+1:=fun q=>B (.inl q)
                have ib:cZ bs z r=bs++[strOf (r.getD 1 .cH)]:=by unfold cZ;rw[if_pos hb]
                have sh:cW bs z r=true:=by
                  unfold cW
                  rw[if_pos cl]
                  have l4:dg z=4:=by rcases jm hb with rfl | rfl <;> decide
                  match r,cl,B with
                  | [],cl,B=>simp at cl;omega
                  | [a],cl,B=>simp at cl;omega
                  | a :: b :: q, cl, B =>
                    simp only[n1,n3,if_false,hb,if_true]
                    cases qa:nameB a with
                    | false=>exact absurd (.inr (.inl qa)) B
                    | true=>cases qb:nameB b with
                      | false=>exact absurd (.inr (.inr qb)) B
                      | true=>rfl
                obtain⟨i1,i2⟩:=B3 (n:=n) (bs:=bs++[strOf (r.getD 1 .cH)]) (f:=oG n (bs++[strOf (r.getD 1 .cH)])) (bq z r) (fun p _=>ih _ p) (c0+1) (c1+1) (by omega) (by omega)
                rw[ib] at ef
                refine⟨⟨fun y=>?_,fun⟨y1,y2,y3⟩=>?_⟩,fun y=>?_⟩
                · obtain⟨k1,k2,k3⟩:=i1.mp y
                  exact⟨ef.mpr ⟨sh,k1⟩,by omega,by omega⟩
                · exact i1.mpr ⟨(ef.mp y1).2,by omega,by omega⟩
                · rw[i2 y]
                  exact Prod.ext (by simp only;omega) (by simp only;omega)
            | false=>
              rw[if_neg (by simp)]
              rw[hb,if_neg (by simp)] at eb
              have ib:cZ bs z r=bs:=by unfold cZ;rw[if_neg (by rw[hb];simp)]
              have sh:=ud (bs:=bs) cl n1 n2 hb
              obtain⟨i1,i2⟩:=B3 (n:=n) (bs:=bs) (f:=oG n bs) (bq z r) (fun p _=>ih _ p) (c0+1) c1 (by omega) h1
              rw[ib] at ef
              refine⟨⟨fun y=>?_,fun⟨y1,y2,y3⟩=>?_⟩,fun y=>?_⟩
              · obtain⟨k1,k2,k3⟩:=i1.mp y
                exact⟨ef.mpr ⟨sh,k1⟩,by omega,by omega⟩
              · exact i1.mpr ⟨(ef.mp y1).2,by omega,by omega⟩
              · rw[i2 y]
                exact Prod.ext (by simp only;omega) (by simp only;omega)
    · have e1:=uL (n+1) bs (c0,c1) fun z r e=>hz ⟨z,r,e⟩
      rw[e1]
      have e2:cM (n+1) bs d=false:=by
        cases q:cM (n+1) bs d with
        | false=>rfl
        | true=>obtain⟨z,r,e,_⟩:=jo q;exact absurd ⟨z,r,e⟩ hz
      rw[e2]
      exact⟨⟨fun y=>(by cases y),fun y=>(by cases y.1)⟩,fun y=>(by cases y)⟩
theorem Gw (d:D):(oG 8 [] d (0,0)).1=zg d:=by
 obtain⟨h1,_⟩:=Gv 8 [] d 0 0 (by decide) (by decide)
 rw[Bool.eq_iff_iff,h1]
 unfold zg
 simp only[Bool.and_eq_true,decide_eq_true_eq]
 constructor
 ·rintro⟨a,b,c⟩;exact⟨a,by omega,by omega⟩
 ·rintro⟨a,b,c⟩;exact⟨a,by omega,by omega⟩
end Ss
end
section
set_option Elab.async false
set_option linter.all false
set_option maxRecDepth 100000
namespace Ss
open PySem PySem.Spec PyProof.Rows L2 Sw
structure Dr (deep:Nat) (bs:List Str) (room:Nat) (bin:Nat) (d:D):Prop where
 fm:cM deep bs d=true
 sz:gF deep d≤room
 bn:kh deep d=bin
 fit:iC 8 d
 dep:bW d≤deep+1
noncomputable def Bj:List D:=se.map D.str
theorem Ob:∀z∈se,nameB (.str z)=true∧z.length≤8:=by decide +kernel
noncomputable def C8 (b:Int):List (Key×D):=[(.inr "names",.lst Bj),(.inr "binders",.int b)]
theorem Jp (b:Int):dw (C8 b) (.inr "names")=some (.lst Bj):=rfl
theorem Jq (b:Int):dw (C8 b) (.inr "binders")=some (.int b):=rfl
theorem Oc (b x:Int):putD (C8 b) (.inr "binders") (.int x)=C8 x:=rfl
theorem uN:Bj.length=8:=rfl
theorem Jr {i:Int}(h0:0≤i) (h1:i < 8):∃z,iJ Bj i=some (.str z)∧nameB (.str z)=true∧z.length≤8:=by
 have h:i.toNat < se.length:=by show _ < 8;omega
 refine⟨se[i.toNat],Sq.BU h0 (by unfold Bj;rw[List.getElem?_map,List.getElem?_eq_getElem h];rfl),?_⟩
 exact Ob _ (List.getElem_mem h)
noncomputable abbrev tp (t:fW):MO:=.dct (cK t)
theorem fK {t:fW}{m:Int}(h1:0 < m) (h2:m < 1000) (h3:0≤t.n) (h4:t.n < 900000):fO [.b (tp t),.t (.int m)]=some (.t (.int (aT t m)),[tp (aH t m)]):=mw h1 (by omega) h3 (by omega)
noncomputable def fy (aq:FM):GS:=
 (bI (dN 3 (aP aq (cT (az 0) (aQ (eC (.int 5)) bN))))
 (bI (jU (qB (eF (eP ux (aa (eF (az 3)) (aa (eC (.int 0)) ao))))) (cE (eP br (aa (eC (.str "any")) ao))) dM)
 (bI (jU (qB (eF (eP ux (aa (eF (az 3)) (aa (eC (.int 1)) ao))))) (cE (eP br (aa (eC (.str "name")) (aa (dh 1 (eF (aP aq (cT (az 0) (aQ (jk 1) bN))))) ao)))) dM)
 (bI (dN 4 (eP zJ (aa (eF (eP cG (aa (eC (.int 0)) (aa (eC (.int 1)) (aa (eC (.int 2)) (aa (eC (.int 3)) (aa (eC (.int 5)) (aa (eC (.int 9)) ao)))))))) (aa (eF (aP aq (cT (az 0) (aQ (eC (.int 6)) bN)))) ao))))
 (bI (jU (je (qB (eF (eP Jh (aa (eF (az 2)) (aa (eF (eP br ao)) ao))))) (qB (eF (eP BE (aa (eF (aP aq (cT (az 0) (aQ (eC (.int 3)) bN)))) (aa (eC (.int 0)) ao)))))) (dN 4 (eT (dh 2 (eF (aP aq (cT (az 0) (aQ (jk 2) bN))))))) dM)
 (cE (eP br (aa (eF (eP zJ (aa (eF (eP cG (aa (eC (.str "less")) (aa (eC (.str "same")) (aa (eC (.str "more")) ao))))) (aa (eF (eP lX (aa (eF (az 3)) (aa (eC (.int 2)) ao)))) ao)))) (aa (eF (az 4)) ao)))))))))
noncomputable def kJ:FM:=aJ 5 (fy fO)
theorem Eb:∀us r,kJ us=some r→aJ 5 (fy fO) us=some r:=fun _ _ h=>h
theorem qY {x:D}{l:List D}{i:Int}(h0:0≤i) (h1:i < l.length):∃y,iJ l i=some y∧y∈l:=by
 obtain⟨y,a,b⟩:=Sq.Lh (l:=l) h0 h1
 exact⟨y,a,List.mem_of_getElem? b⟩
theorem AB (bs:List Str) (a b:D):fP bs (.tup [a,b])=if kQ a (.str "name")=true then nameB b else inD a (wN.map D.str) && (cY b 0 9 || inD b (bs.map D.str)):=rfl
theorem Gx {t : fW} {bs : List Str} (h0 : 0 ≤ t.n) (h1 : t.n < 800000) (hb : bs.length < 900) (hs : ∀ z ∈ bs, z.length ≤ 8) :
    ∃d t',kJ [.b (tp t),.t (.lst Bj),.t (.tup (bs.map D.str))]=some (.t d,[tp t'])∧fP bs d=true∧iC 8 d∧bW d≤1∧t.n≤t'.n∧t'.n≤t.n+4:=by
  have p1:=fK (t:=t) (m:=5) (by omega) (by omega) h0 (by omega)
  obtain⟨w0,w1⟩:=bG (t:=t) (m:=5) (by omega)
  generalize hw:aT t 5=w at *
  have Qt:(aH t 5).n=t.n+1:=dX t 5
  generalize aH t 5=t1 at *
  by_cases c0:w=0
  · subst c0
    exact⟨.tup [.str "any"],t1,by simp[kJ,aJ,fy,p1,aC],rfl,⟨(by show 1≤8;omega),(by show 3≤8;omega),True.intro⟩,by decide,by omega,by omega⟩
  · by_cases c1:w=1
    · subst c1
      have p2:=fK (t:=t1) (m:=8) (by omega) (by omega) (by omega) (by omega)
      obtain⟨v0,v1⟩:=bG (t:=t1) (m:=8) (by omega)
      generalize aT t1 8=v at *
      have Ln:(aH t1 8).n=t1.n+1:=dX t1 8
      generalize aH t1 8=t2 at *
      obtain⟨z,a1,a2,a3⟩:=Jr v0 v1
      have nl:(Bj.length:Int)=8:=rfl
      refine⟨.tup [.str "name",.str z],t2,by simp[kJ,aJ,fy,p1,aC,nl,p2,a1],?_,⟨(by show 2≤8;omega),(by show 4≤8;omega),a3,True.intro⟩,by show max 0 (max 0 0)+1≤1;omega,by omega,by omega⟩
      rw[AB,if_pos (uY _)]
      exact a2
    · have p2:=fK (t:=t1) (m:=6) (by omega) (by omega) (by omega) (by omega)
      obtain⟨v0,v1⟩:=bG (t:=t1) (m:=6) (by omega)
      generalize aT t1 6=v at *
      have Ln:(aH t1 6).n=t1.n+1:=dX t1 6
      generalize aH t1 6=t2 at *
      obtain⟨nb,b1,b2⟩:=qY (x:=.cH) (l:=[.int 0,.int 1,.int 2,.int 3,.int 5,.int 9]) v0 v1
      have hnb:cY nb 0 9=true∧iC 8 nb∧bW nb=0:=by
        simp only[List.mem_cons,List.not_mem_nil,or_false] at b2
        rcases b2 with rfl | rfl | rfl | rfl | rfl | rfl <;> exact⟨by decide,True.intro,rfl⟩
      obtain⟨hd,d1,d2⟩:=qY (x:=.cH) (l:=[.str "less",.str "same",.str "more"]) (i:=w - 2) (by omega) (by simp only[List.length_cons,List.length_nil];omega)
      have Qu:inD hd (wN.map D.str)=true∧kQ hd (.str "name")=false∧iC 8 hd∧bW hd=0:=by
        simp only[List.mem_cons,List.not_mem_nil,or_false] at d2
        rcases d2 with rfl | rfl | rfl <;> exact⟨by decide,by decide,(by show _≤8;decide),rfl⟩
      have fin:∀x:D,(cY x 0 9=true∨inD x (bs.map D.str)=true)→iC 8 x→bW x=0→fP bs (.tup [hd,x])=true∧iC 8 (.tup [hd,x])∧bW (.tup [hd,x])≤1:=fun x h1 h2 h3=>by
        refine⟨?_,⟨(by show 2≤8;omega),Qu.2.2.1,h2,True.intro⟩,by show max (bW hd) (max (bW x) 0)+1≤1;rw[Qu.2.2.2,h3];decide⟩
        rw[AB,Qu.2.1,Qu.1]
        rcases h1 with q | q
        · rw[q];rfl
        · rw[q];simp
      have dv:bW (.tup (bs.map D.str))≤40:=by show bF (bs.map D.str)+1≤40;rw[L2.jO];omega
      cases bs with
      | nil=>
        obtain⟨f1,f2,f3⟩:=fin nb (.inl hnb.1) hnb.2.1 hnb.2.2
        refine⟨.tup [hd,nb],t2,?_,f1,f2,f3,by omega,by omega⟩
        have q:kQ (.tup []) (.tup [])=true:=rfl
        simp only[List.map_nil] at dv ⊢
        simp[kJ,aJ,fy,p1,aC,c0,c1,p2,b1,dv,q,d1]
      | cons y ys=>
        have q:kQ (.tup ((y :: ys).map D.str)) (.tup [])=false:=rfl
        have p3:=fK (t:=t2) (m:=3) (by omega) (by omega) (by omega) (by omega)
        have Z4:(aH t2 3).n=t2.n+1:=dX t2 3
        generalize aT t2 3=u at *
        generalize aH t2 3=t3 at *
        by_cases c3:0 < u
        · have p4:=fK (t:=t3) (m:=((y :: ys).map D.str).length) (by rw[List.length_map];simp only[List.length_cons];omega) (by rw[List.length_map];omega) (by omega) (by omega)
          have t4n:(aH t3 ((y :: ys).map D.str).length).n=t3.n+1:=dX t3 _
          obtain⟨x0,x1⟩:=bG (t:=t3) (m:=((y :: ys).map D.str).length) (by rw[List.length_map];simp only[List.length_cons];omega)
          obtain⟨vv,g1,g2⟩:=qY (x:=.cH) (l:=(y :: ys).map D.str) x0 x1
          generalize aH t3 ((y :: ys).map D.str).length=t4 at *
          generalize aT t3 ((y :: ys).map D.str).length=x at *
          obtain⟨vs,m1,rfl⟩:=List.mem_map.mp g2
          have iv:inD (.str vs) ((y :: ys).map D.str)=true:=by
            unfold inD
            exact List.any_eq_true.mpr ⟨.str vs,g2,uY _⟩
          obtain⟨f1,f2,f3⟩:=fin (.str vs) (.inr iv) (hs vs m1) rfl
          refine⟨.tup [hd,.str vs],t4,?_,f1,f2,f3,by omega,by omega⟩
          generalize (y :: ys).map D.str=L at *
          simp[kJ,aJ,fy,p1,aC,c0,c1,p2,b1,dv,q,p3,c3,p4,g1,d1]
        · obtain⟨f1,f2,f3⟩:=fin nb (.inl hnb.1) hnb.2.1 hnb.2.2
          refine⟨.tup [hd,nb],t3,?_,f1,f2,f3,by omega,by omega⟩
          generalize (y :: ys).map D.str=L at *
          simp[kJ,aJ,fy,p1,aC,c0,c1,p2,b1,dv,q,p3,c3,d1]
end Ss
end
section
set_option Elab.async false
set_option linter.all false
set_option maxRecDepth 100000
namespace Ss
open PySem PySem.Spec PyProof.Rows L2 Sw
theorem Yc {n room:Nat}{bs:List Str}{z:Str}{r:List D}(sh:cW bs z r=true) (pl:bq z r=[]) (nb:dc z=false) (hr:1≤room) (fit:iC 8 (.tup (.str z :: r))) (dep:bW (.tup (.str z :: r))≤n+2):Dr (n+1) bs room 0 (.tup (.str z :: r)):=by
 have es:=qX n z r
 have eb:=uM n z r
 rw[pl] at es eb
 rw[nb] at eb
 simp at es eb
 exact⟨(kI n bs z r).mpr ⟨sh,by rw[pl];simp⟩,by omega,by omega,fit,dep⟩
theorem TN {n room b:Nat}{bs:List Str}{z:Str}{r:List D}{p:D}(sh:cW bs z r=true) (pl:bq z r=[p]) (h:Dr n (cZ bs z r) room b p) (fit:iC 8 (.tup (.str z :: r))) (dep:bW (.tup (.str z :: r))≤n+2):Dr (n+1) bs (room+1) ((if dc z=true then 1 else 0)+b) (.tup (.str z :: r)):=by
 have es:=qX n z r
 have eb:=uM n z r
 rw[pl] at es eb
 have e1:([p].flatMap (fX n)).length=gF n p:=by simp[gF]
 have e2:(([p].flatMap (fX n)).filter vD).length=kh n p:=by simp[kh]
 rw[e1] at es
 rw[e2] at eb
 have:=h.sz
 have:=h.bn
 refine⟨(kI n bs z r).mpr ⟨sh,by rw[pl];intro q hq;rw[show q=p by simpa using hq];exact h.fm⟩,by omega,?_,fit,dep⟩
 by_cases hb:dc z=true
 ·rw[if_pos hb] at eb ⊢;omega
 ·rw[if_neg hb] at eb ⊢;omega
theorem Z5 {n r1 r2 b1 b2:Nat}{bs:List Str}{z:Str}{r:List D}{p q:D}(sh:cW bs z r=true) (pl:bq z r=[p,q]) (nb:dc z=false) (h1:Dr n bs r1 b1 p) (h2:Dr n bs r2 b2 q) (fit:iC 8 (.tup (.str z :: r))) (dep:bW (.tup (.str z :: r))≤n+2):Dr (n+1) bs (r1+r2+1) (b1+b2) (.tup (.str z :: r)):=by
 have es:=qX n z r
 have eb:=uM n z r
 rw[pl] at es eb
 have e1:([p,q].flatMap (fX n)).length=gF n p+gF n q:=by simp[gF]
 have e2:(([p,q].flatMap (fX n)).filter vD).length=kh n p+kh n q:=by simp[kh]
 rw[e1] at es
 rw[e2,nb] at eb
 simp at eb
 have:=h1.sz
 have:=h1.bn
 have:=h2.sz
 have:=h2.bn
 have ib:cZ bs z r=bs:=by unfold cZ;rw[if_neg (by rw[nb];simp)]
 refine⟨(kI n bs z r).mpr ⟨sh,by rw[pl,ib];intro x hx;simp at hx;rcases hx with rfl | rfl;exact h1.fm;exact h2.fm⟩,by omega,by omega,fit,dep⟩
theorem Dr.more {n room Js b:Nat}{bs:List Str}{d:D}(h:Dr n bs room b d) (hr:room≤Js):Dr n bs Js b d:=⟨h.fm,Nat.le_trans h.sz hr,h.bn,h.fit,h.dep⟩
noncomputable def bT (aq:FM) (kK:FM) (bS:FM) (jT:FM):GS:=
 (bI (dN 5 (aP aq (cT (az 0) (aQ (eC (.int 9)) bN))))
 (bI (jU (uH (qB (eF (eP CU (aa (eF (az 3)) (aa (eC (.int 2)) ao))))) (uH (qB (eF (eP CU (aa (eF (az 4)) (aa (eC (.int 2)) ao))))) (qB (eF (eP ux (aa (eF (az 5)) (aa (eC (.int 0)) ao))))))) (bI (jU (qB (eF (eP ux (aa (eF (eP wI (aa (eF (az 5)) (aa (eC (.int 5)) ao)))) (aa (eC (.int 4)) ao))))) (cE (eP br (aa (eF (eP zJ (aa (eF (eP cG (aa (eC (.str "yes")) (aa (eC (.str "no")) ao)))) (aa (eF (aP aq (cT (az 0) (aQ (eC (.int 2)) bN)))) ao)))) ao))) dM)
 (cE (eP br (aa (eC (.str "now")) (aa (eF (aP kK (cT (az 0) (aQ (dh 1 (eC (.str "names"))) (aQ (eF (az 2)) bN))))) ao))))) dM)
 (bI (jU (je (qB (eF (eP CU (aa (eF (az 5)) (aa (eC (.int 5)) ao))))) (qB (eF (eP BE (aa (eF (az 3)) (aa (eC (.int 2)) ao)))))) (bI (dN 6 (eP dm (aa (eC (.int 1)) (aa (eF (aP aq (cT (az 0) (aQ (eF (eP lX (aa (eF (az 3)) (aa (eC (.int 2)) ao)))) bN)))) ao))))
 (bI (dN 7 (aP bS (cT (az 0) (cT (az 1) (aQ (eF (az 2)) (aQ (eF (az 6)) (aQ (eF (eP lX (aa (eF (az 4)) (aa (eC (.int 1)) ao)))) bN)))))))
 (bI (dN 8 (aP bS (cT (az 0) (cT (az 1) (aQ (eF (az 2)) (aQ (eF (eP lX (aa (eF (eP lX (aa (eF (az 3)) (aa (eC (.int 1)) ao)))) (aa (eF (az 6)) ao)))) (aQ (eF (eP lX (aa (eF (az 4)) (aa (eC (.int 1)) ao)))) bN)))))))
 (cE (eP br (aa (eF (eP zJ (aa (eF (eP cG (aa (eC (.str "both")) (aa (eC (.str "either")) (aa (eC (.str "till")) (aa (eC (.str "till")) ao)))))) (aa (eF (eP lX (aa (eF (az 5)) (aa (eC (.int 1)) ao)))) ao)))) (aa (eF (az 7)) (aa (eF (az 8)) ao)))))))) dM)
 (cE (aP jT (cT (az 0) (cT (az 1) (aQ (eF (az 2)) (aQ (eF (az 3)) (aQ (eF (az 4)) bN))))))))))
noncomputable def cX (aq:FM) (bS:FM):GS:=
 (bI (dN 5 (aP aq (cT (az 0) (aQ (eC (.int 8)) bN))))
 (bI (jU (je (qB (eF (eP CU (aa (eF (az 5)) (aa (eC (.int 3)) ao))))) (qB (eF (eP CU (aa (dh 1 (eC (.str "binders"))) (aa (eC (.int 3)) ao)))))) (bI (BI 1 (eC (.str "binders")) (eF (eP dm (aa (dh 1 (eC (.str "binders"))) (aa (eC (.int 1)) ao)))))
 (bI (dN 6 (eT (dh 1 (eC (.str "names")))))
 (bI (dN 7 (eP zJ (aa (eF (eP cG (aa (eC (.str "x")) (aa (eC (.str "k")) (aa (eC (.str "a")) (aa (eC (.str "ab")) ao)))))) (aa (eF (aP aq (cT (az 0) (aQ (eC (.int 4)) bN)))) ao))))
 (bI (dN 8 (eP br (aa (eF (eP zJ (aa (eF (eP cG (aa (eC (.str "each")) (aa (eC (.str "one")) ao)))) (aa (eF (eP wI (aa (eF (az 5)) (aa (eC (.int 2)) ao)))) ao)))) (aa (dh 6 (eF (aP aq (cT (az 0) (aQ (jk 6) bN))))) (aa (eF (az 7)) ao)))))
 (cE (eP dm (aa (eF (az 8)) (aa (eF (eP br (aa (eF (aP bS (cT (az 0) (cT (az 1) (aQ (eF (eP dm (aa (eF (az 2)) (aa (eF (eP br (aa (eF (az 7)) ao))) ao)))) (aQ (eF (eP lX (aa (eF (az 3)) (aa (eC (.int 1)) ao)))) (aQ (eF (eP lX (aa (eF (az 4)) (aa (eC (.int 1)) ao)))) bN))))))) ao))) ao)))))))) dM)
 (bI (dN 8 (eP br (aa (eF (eP zJ (aa (eF (eP cG (aa (eC (.str "not")) (aa (eC (.str "next")) (aa (eC (.str "always")) (aa (eC (.str "some")) ao)))))) (aa (eF (eP wI (aa (eF (az 5)) (aa (eC (.int 4)) ao)))) ao)))) ao)))
 (bI (jU (qB (eF (eP ux (aa (eF (az 5)) (aa (eC (.int 3)) ao))))) (dN 8 (eP br (aa (eC (.str "within")) (aa (eF (aP aq (cT (az 0) (aQ (eC (.int 6)) bN)))) ao)))) dM)
 (cE (eP dm (aa (eF (az 8)) (aa (eF (eP br (aa (eF (aP bS (cT (az 0) (cT (az 1) (aQ (eF (az 2)) (aQ (eF (eP lX (aa (eF (az 3)) (aa (eC (.int 1)) ao)))) (aQ (eF (eP lX (aa (eF (az 4)) (aa (eC (.int 1)) ao)))) bN))))))) ao))) ao))))))))
section
variable {f1 f2 f3 f4:FM}{T0 T1 T2 T3 T4:MO}{ws FT Ew:List (Key×D)}{vs nd d1 d2:D}{room deep w:Int}
theorem Lo {v:Int}{y:D}(p1:f1 [.b T0,.t (.int 9)]=some (.t (.int w),[T1])) (h:room < 2∨deep < 2∨w=0) (h5:w % 5=4) (p2:f1 [.b T1,.t (.int 2)]=some (.t (.int v),[T2])) (hy:iJ [.str "yes",.str "no"] v=some y):
  aJ 9 (bT f1 f2 f3 f4) [.b T0,.b (.dct ws),.t vs,.t (.int room),.t (.int deep)]=some (.t (.tup [y]),[T2,.dct ws]):=by
 by_cases a:room < 2
 ·simp[aJ,bT,p1,a,h5,p2,hy,aC]
 ·by_cases b:deep < 2
  ·simp[aJ,bT,p1,a,b,h5,p2,hy,aC]
  ·have c:w=0:=by rcases h with h | h | h;exact absurd h a;exact absurd h b;exact h
   subst c
   exact absurd h5 (by decide)
theorem Lp {d:D}(p1:f1 [.b T0,.t (.int 9)]=some (.t (.int w),[T1])) (h:room < 2∨deep < 2∨w=0) (h5:¬w % 5=4) (hn:dw ws (.inr "names")=some nd) (p2:f2 [.b T1,.t nd,.t vs]=some (.t d,[T2])):
  aJ 9 (bT f1 f2 f3 f4) [.b T0,.b (.dct ws),.t vs,.t (.int room),.t (.int deep)]=some (.t (.tup [.str "now",d]),[T2,.dct ws]):=by
 by_cases a:room < 2
 ·simp[aJ,bT,p1,a,h5,hn,p2,aC]
 ·by_cases b:deep < 2
  ·simp[aJ,bT,p1,a,b,h5,hn,p2,aC]
  ·have c:w=0:=by rcases h with h | h | h;exact absurd h a;exact absurd h b;exact h
   subst c
   simp[aJ,bT,p1,a,b,hn,p2,aC]
theorem Lq {fi:Int}{y:D}(p1:f1 [.b T0,.t (.int 9)]=some (.t (.int w),[T1])) (ha:¬room < 2) (hb:¬deep < 2) (hc:¬w=0) (h5:w < 5) (h2:2 < room) (p2:f1 [.b T1,.t (.int (room - 2))]=some (.t (.int fi),[T2]))
  (p3:f3 [.b T2,.b (.dct ws),.t vs,.t (.int (1+fi)),.t (.int (deep - 1))]=some (.t d1,[T3,.dct FT])) (p4:f3 [.b T3,.b (.dct FT),.t vs,.t (.int (room - 1 - (1+fi))),.t (.int (deep - 1))]=some (.t d2,[T4,.dct Ew])) (hy:iJ [.str "both",.str "either",.str "till",.str "till"] (w - 1)=some y):
  aJ 9 (bT f1 f2 f3 f4) [.b T0,.b (.dct ws),.t vs,.t (.int room),.t (.int deep)]=some (.t (.tup [y,d1,d2]),[T4,.dct Ew]):=by
 simp[aJ,bT,p1,ha,hb,hc,h5,h2,p2,p3,p4,hy,aC]
theorem Od (p1:f1 [.b T0,.t (.int 9)]=some (.t (.int w),[T1])) (ha:¬room < 2) (hb:¬deep < 2) (hc:¬w=0) (h:¬(w < 5∧2 < room)) (p2:f4 [.b T1,.b (.dct ws),.t vs,.t (.int room),.t (.int deep)]=some (.t d1,[T2,.dct FT])):
  aJ 9 (bT f1 f2 f3 f4) [.b T0,.b (.dct ws),.t vs,.t (.int room),.t (.int deep)]=some (.t d1,[T2,.dct FT]):=by
 by_cases a:w < 5
 ·have b:¬2 < room:=fun q=>h ⟨a,q⟩
  simp[aJ,bT,p1,ha,hb,hc,a,b,p2,aC]
 ·simp[aJ,bT,p1,ha,hb,hc,a,p2,aC]
theorem Lr {b x n:Int}{bl nl:List D}{xd hd nm:D}(p1:f1 [.b T0,.t (.int 8)]=some (.t (.int w),[T1])) (h3:w < 3) (hb:dw ws (.inr "binders")=some (.int b)) (b3:b < 3) (hl:ws.length < 100000) (hp:putD ws (.inr "binders") (.int (b+1))=FT) (hn:dw FT (.inr "names")=some (.lst nl))
  (p2:f1 [.b T1,.t (.int 4)]=some (.t (.int x),[T2])) (hx:iJ [.str "x",.str "k",.str "a",.str "ab"] x=some xd) (hh:iJ [.str "each",.str "one"] (w % 2)=some hd) (p3:f1 [.b T2,.t (.int (nl.length:Nat))]=some (.t (.int n),[T3])) (hm:iJ nl n=some nm) (hv:bl.length+1≤100000)
  (p4:f2 [.b T3,.b (.dct FT),.t (.tup (bl++[xd])),.t (.int (room - 1)),.t (.int (deep - 1))]=some (.t d1,[T4,.dct Ew])):
  aJ 9 (cX f1 f2) [.b T0,.b (.dct ws),.t (.tup bl),.t (.int room),.t (.int deep)]=some (.t (.tup [hd,nm,xd,d1]),[T4,.dct Ew]):=by
 simp[aJ,cX,p1,h3,hb,b3,hl,hp,hn,p2,hx,hh,p3,hm,hv,p4,aC]
theorem Ls {b:Int}{hd:D}(p1:f1 [.b T0,.t (.int 8)]=some (.t (.int w),[T1])) (hb:dw ws (.inr "binders")=some (.int b)) (h3:¬(w < 3∧b < 3)) (hw:¬w=3) (hh:iJ [.str "not",.str "next",.str "always",.str "some"] (w % 4)=some hd)
  (p4:f2 [.b T1,.b (.dct ws),.t vs,.t (.int (room - 1)),.t (.int (deep - 1))]=some (.t d1,[T4,.dct Ew])):
  aJ 9 (cX f1 f2) [.b T0,.b (.dct ws),.t vs,.t (.int room),.t (.int deep)]=some (.t (.tup [hd,d1]),[T4,.dct Ew]):=by
 by_cases a:w < 3
 ·have b:¬b < 3:=fun q=>h3 ⟨a,q⟩
  simp[aJ,cX,p1,a,hb,b,hw,hh,p4,aC]
 ·simp[aJ,cX,p1,a,hw,hh,p4,aC]
theorem Ec {k:Int}(p1:f1 [.b T0,.t (.int 8)]=some (.t (.int 3),[T1])) (p2:f1 [.b T1,.t (.int 6)]=some (.t (.int k),[T2]))
  (p4:f2 [.b T2,.b (.dct ws),.t vs,.t (.int (room - 1)),.t (.int (deep - 1))]=some (.t d1,[T4,.dct Ew])):
  aJ 9 (cX f1 f2) [.b T0,.b (.dct ws),.t vs,.t (.int room),.t (.int deep)]=some (.t (.tup [.str "within",.int k,d1]),[T4,.dct Ew]):=by
 have hh:iJ [D.str "not",.str "next",.str "always",.str "some"] 3=some (.str "some"):=rfl
 simp[aJ,cX,p1,p2,hh,p4,aC]
end
end Ss
end
section
set_option Elab.async false
set_option linter.all false
set_option maxRecDepth 100000
namespace Ss
open PySem PySem.Spec PyProof.Rows L2 Sw
noncomputable def Oe:Nat→FM×FM
 | 0=>(fun _=>none,fun _=>none)
 | j+1=>(aJ 9 (bT fO kJ (Oe j).1 (Oe j).2),aJ 9 (cX fO (Oe j).1))
noncomputable def sF (j:Nat):FM:=(Oe j).1
noncomputable def Gy (j:Nat):FM:=(Oe j).2
theorem IC (j:Nat):∀us r,sF (j+1) us=some r→aJ 9 (bT fO kJ (sF j) (Gy j)) us=some r:=fun _ _ h=>h
theorem ID (j:Nat):∀us r,Gy (j+1) us=some r→aJ 9 (cX fO (sF j)) us=some r:=fun _ _ h=>h
theorem Ed (us:List U):sF 0 us=none:=rfl
theorem Ef (us:List U):Gy 0 us=none:=rfl
noncomputable def Gz (f:FM) (deep room:Nat):Prop:=∀(t:fW) (bs:List Str) (b:Nat),0≤t.n→t.n+8 * room < 700000→bs.length+deep < 800→(∀z∈bs,z.length≤8)→b≤3→
 ∃(d:D) (t':fW) (bin:Nat),f [.b (tp t),.b (.dct (C8 b)),.t (.tup (bs.map D.str)),.t (.int room),.t (.int deep)]=some (.t d,[tp t',.dct (C8 ((b+bin:Nat):Int))])∧Dr deep bs room bin d∧b+bin≤3∧t.n≤t'.n∧t'.n≤t.n+8 * room
theorem Eg {z:Str}(h:z.length≤8):iC 8 (.str z):=h
theorem vF {bs:List Str}{z:Str}{r:List D}(c:dg z=(r.length:Int)+1) (n1:z≠"now") (n2:z≠"within") (hb:dc z=false):cW bs z r=true:=ud c n1 (fun q=>n2 q.1) hb
theorem GC {f:FM}{deep room:Nat}(hr:2≤room) (hd:2≤deep) (ih:Gz f (deep - 1) (room - 1)):
  ∀(t:fW) (bs:List Str) (b:Nat),0≤t.n→t.n+8 * room < 700002→bs.length+deep < 800→(∀z∈bs,z.length≤8)→b≤3→
  ∃(d:D) (t':fW) (bin:Nat),aJ 9 (cX fO f) [.b (tp t),.b (.dct (C8 b)),.t (.tup (bs.map D.str)),.t (.int room),.t (.int deep)]=some (.t d,[tp t',.dct (C8 ((b+bin:Nat):Int))])∧Dr deep bs room bin d∧b+bin≤3∧t.n≤t'.n∧t'.n+1≤t.n+8 * room:=by
 intro t bs b t0 t1 hl hs hb
 obtain⟨n,rfl⟩:∃n,deep=n+1:=⟨deep - 1,by omega⟩
 obtain⟨rm,rfl⟩:∃m,room=m+1:=⟨room - 1,by omega⟩
 have ih:Gz f n rm:=ih
 have er:(((rm+1:Nat):Int) - 1)=(rm:Int):=by omega
 have ed:(((n+1:Nat):Int) - 1)=(n:Int):=by omega
 have p1:=fK (t:=t) (m:=8) (by omega) (by omega) t0 (by omega)
 obtain⟨w0,w1⟩:=bG (t:=t) (m:=8) (by omega)
 have Qt:(aH t 8).n=t.n+1:=dX t 8
 generalize aT t 8=w at *
 generalize aH t 8=ta at *
 by_cases c:w < 3∧(b:Int) < 3
 ·have p2:=fK (t:=ta) (m:=4) (by omega) (by omega) (by omega) (by omega)
  obtain⟨x0,x1⟩:=bG (t:=ta) (m:=4) (by omega)
  have Ln:(aH ta 4).n=ta.n+1:=dX ta 4
  generalize aT ta 4=x at *
  generalize aH ta 4=tb at *
  have p3:=fK (t:=tb) (m:=(Bj.length:Nat)) (by rw[uN];omega) (by rw[uN];omega) (by omega) (by omega)
  obtain⟨m0,m1⟩:=bG (t:=tb) (m:=(Bj.length:Nat)) (by rw[uN];omega)
  have Z4:(aH tb (Bj.length:Nat)).n=tb.n+1:=dX tb _
  generalize aT tb (Bj.length:Nat)=m at *
  generalize aH tb (Bj.length:Nat)=tc at *
  obtain⟨nm,a1,a2,a3⟩:=Jr m0 (by rw[uN] at m1;exact m1)
  obtain⟨xd,b1,b2⟩:=qY (x:=.cH) (l:=[.str "x",.str "k",.str "a",.str "ab"]) x0 x1
  obtain⟨hd,d1,d2⟩:=qY (x:=.cH) (l:=[.str "each",.str "one"]) (i:=w % 2) (Int.emod_nonneg _ (by decide)) (Int.emod_lt_of_pos _ (by decide))
  obtain⟨xs,rfl,xn,xl⟩:∃xs,xd= .str xs∧nameB (.str xs)=true∧xs.length≤8:=by
   simp only[List.mem_cons,List.not_mem_nil,or_false] at b2
   rcases b2 with rfl | rfl | rfl | rfl <;> exact⟨_,rfl,by decide +kernel,by decide⟩
  obtain⟨hs2,rfl,hbn,Z6,FP⟩:∃z,hd= .str z∧dc z=true∧z.length≤8∧dg z=4∧dQ z=3∧z≠"now"∧z≠"within":=by
   simp only[List.mem_cons,List.not_mem_nil,or_false] at d2
   rcases d2 with rfl | rfl <;> exact⟨_,rfl,by decide,by decide,by decide,by decide,by decide,by decide⟩
  obtain⟨l4,s3,n1,n2⟩:=FP
  obtain⟨d,t',bin,g1,g2,g3,g4,g5⟩:=ih tc (bs++[xs]) (b+1) (by omega) (by omega) (by rw[List.length_append,List.length_singleton];omega) (by
   intro z hz
   rcases List.mem_append.mp hz with q | q
   ·exact hs z q
   ·rw[show z=xs by simpa using q];exact xl) (by omega)
  have ev:(bs++[xs]).map D.str=bs.map D.str++[.str xs]:=by rw[List.map_append];rfl
  have Z7:((b+1:Nat):Int)=(b:Int)+1:=by omega
  rw[ev,Z7] at g1
  have sh:cW bs hs2 [.str nm,.str xs,d]=true:=by
   unfold cW
   rw[if_pos (by rw[l4];rfl)]
   simp only[n1,n2,if_false,hbn,if_true,a2,xn]
   rfl
  have pl:bq hs2 [.str nm,.str xs,d]=[d]:=by unfold bq;rw[s3];rfl
  have ib:cZ bs hs2 [.str nm,.str xs,d]=bs++[xs]:=by unfold cZ;rw[if_pos hbn];rfl
  have dr:=TN (n:=n) (room:=rm) (b:=bin) (bs:=bs) (z:=hs2) (r:=[.str nm,.str xs,d]) sh pl (by rw[ib];exact g2) ⟨(by show 4≤8;omega),Eg Z6,Eg a3,Eg xl,g2.fit,True.intro⟩ (by
   have:=g2.dep
   show max 0 (max 0 (max 0 (max (bW d) 0)))+1≤n+2
   omega)
  rw[if_pos hbn] at dr
  refine⟨_,t',1+bin,?_,dr,by omega,by omega,by omega⟩
  have TQ:((b+(1+bin):Nat):Int)=((b+1+bin:Nat):Int):=by omega
  rw[TQ]
  exact Lr (f1:=fO) (f2:=f) (ws:=C8 b) (FT:=C8 ((b:Int)+1)) (Ew:=C8 ((b+1+bin:Nat):Int)) p1 c.1 (Jq b) c.2 (by show 2 < 100000;omega) (Oc b _) (Jp _) p2 b1 d1 p3 a1 (by rw[List.length_map];omega) (by rw[er,ed];exact g1)
 ·by_cases cw:w=3
  ·subst cw
   have p2:=fK (t:=ta) (m:=6) (by omega) (by omega) (by omega) (by omega)
   obtain⟨x0,x1⟩:=bG (t:=ta) (m:=6) (by omega)
   have Ln:(aH ta 6).n=ta.n+1:=dX ta 6
   generalize aT ta 6=x at *
   generalize aH ta 6=tb at *
   obtain⟨d,t',bin,g1,g2,g3,g4,g5⟩:=ih tb bs b (by omega) (by omega) (by omega) hs hb
   have sh:cW bs "within" [.int x,d]=true:=by
    unfold cW
    rw[if_pos (by rw[ni.2];rfl)]
    simp only[show ¬(("within":Str)="now") by decide,if_false,if_true]
    show(decide (0≤x) && decide (x≤5))=true
    simp only[Bool.and_eq_true,decide_eq_true_eq]
    omega
   have pl:bq "within" [.int x,d]=[d]:=by unfold bq;rw[show dQ "within" =2 by decide];rfl
   have nb:dc "within" =false:=by decide
   have ib:cZ bs "within" [.int x,d]=bs:=by unfold cZ;rw[if_neg (by rw[nb];simp)]
   have dr:=TN (n:=n) (room:=rm) (b:=bin) (bs:=bs) (z:="within") (r:=[.int x,d]) sh pl (by rw[ib];exact g2) ⟨(by show 3≤8;omega),(by show 6≤8;omega),True.intro,g2.fit,True.intro⟩ (by
    have:=g2.dep
    show max 0 (max 0 (max (bW d) 0))+1≤n+2
    omega)
   rw[if_neg (by rw[nb];simp),Nat.zero_add] at dr
   exact⟨_,t',bin,Ec p1 p2 (by rw[er,ed];exact g1),dr,g3,by omega,by omega⟩
  ·obtain⟨d,t',bin,g1,g2,g3,g4,g5⟩:=ih ta bs b (by omega) (by omega) (by omega) hs hb
   obtain⟨hd,d1,d2⟩:=qY (x:=.cH) (l:=[.str "not",.str "next",.str "always",.str "some"]) (i:=w % 4) (Int.emod_nonneg _ (by decide)) (Int.emod_lt_of_pos _ (by decide))
   obtain⟨z,rfl,nb,zl,l2,s1,n1,n2⟩:∃z,hd= .str z∧dc z=false∧z.length≤8∧dg z=2∧dQ z=1∧z≠"now"∧z≠"within":=by
    simp only[List.mem_cons,List.not_mem_nil,or_false] at d2
    rcases d2 with rfl | rfl | rfl | rfl <;> exact⟨_,rfl,by decide,by decide,by decide,by decide,by decide,by decide⟩
   have sh:cW bs z [d]=true:=vF (by rw[l2];rfl) n1 n2 nb
   have pl:bq z [d]=[d]:=by unfold bq;rw[s1];rfl
   have ib:cZ bs z [d]=bs:=by unfold cZ;rw[if_neg (by rw[nb];simp)]
   have dr:=TN (n:=n) (room:=rm) (b:=bin) (bs:=bs) (z:=z) (r:=[d]) sh pl (by rw[ib];exact g2) ⟨(by show 2≤8;omega),Eg zl,g2.fit,True.intro⟩ (by
    have:=g2.dep
    show max 0 (max (bW d) 0)+1≤n+2
    omega)
   rw[if_neg (by rw[nb];simp),Nat.zero_add] at dr
   exact⟨_,t',bin,Ls p1 (Jq b) c cw d1 (by rw[er,ed];exact g1),dr,g3,by omega,by omega⟩
theorem Lu : ∀ (deep : Nat), 1 ≤ deep → ∀ (j room : Nat), 2 * deep ≤ j → 1 ≤ room → room ≤ 100 → Gz (sF j) deep room := by
  intro deep
  induction deep with
  | zero=>intro h;omega
  | succ n ih=>
    intro _ j room hj hr hr9 t bs b t0 t1 hl hs hb
    obtain⟨i,rfl⟩:∃i,j=i+2:=⟨j - 2,by omega⟩
    have p1:=fK (t:=t) (m:=9) (by omega) (by omega) t0 (by omega)
    obtain⟨w0,w1⟩:=bG (t:=t) (m:=9) (by omega)
    have Qt:(aH t 9).n=t.n+1:=dX t 9
    generalize aT t 9=w at *
    generalize aH t 9=ta at *
    show ∃d t' bin,aJ 9 (bT fO kJ (sF (i+1)) (Gy (i+1))) _=_∧_
    by_cases c:(room:Int) < 2∨((n+1:Nat):Int) < 2∨w=0
    · by_cases c5:w % 5=4
      · have p2:=fK (t:=ta) (m:=2) (by omega) (by omega) (by omega) (by omega)
        obtain⟨v0,v1⟩:=bG (t:=ta) (m:=2) (by omega)
        have Ln:(aH ta 2).n=ta.n+1:=dX ta 2
        generalize aT ta 2=v at *
        generalize aH ta 2=tb at *
        obtain⟨y,y1,y2⟩:=qY (x:=.cH) (l:=[.str "yes",.str "no"]) v0 v1
        obtain⟨z,rfl,nb,zl,l2,s1,n1,n2⟩:∃z,y= .str z∧dc z=false∧z.length≤8∧dg z=1∧dQ z=1∧z≠"now"∧z≠"within":=by
          simp only[List.mem_cons,List.not_mem_nil,or_false] at y2
          rcases y2 with rfl | rfl <;> exact⟨_,rfl,by decide,by decide,by decide,by decide,by decide,by decide⟩
        refine⟨_,tb,0,Lo p1 c c5 p2 y1,Yc (vF (by rw[l2];rfl) n1 n2 nb) (by unfold bq;rw[s1];rfl) nb hr ⟨(by show 1≤8;omega),Eg zl,True.intro⟩ (by show max 0 0+1≤n+2;omega),hb,by omega,by omega⟩
      · obtain⟨d,t',g1,g2,g3,g4,g5,g6⟩:=Gx (t:=ta) (bs:=bs) (by omega) (by omega) (by omega) hs
        refine⟨_,t',0,Lp p1 c c5 (Jp b) g1,Yc (z:="now") (r:=[d]) ?_ (by unfold bq;rw[show dQ "now" =2 by decide];rfl) (by decide) hr ⟨(by show 2≤8;omega),(by show 3≤8;omega),g3,True.intro⟩ (by show max 0 (max (bW d) 0)+1≤n+2;omega),hb,by omega,by omega⟩
        unfold cW
        rw[if_pos (by rw[ni.1];rfl)]
        simp only[if_true]
        exact g2
    · have c1:¬(room:Int) < 2:=fun q=>c (.inl q)
      have c2:¬((n+1:Nat):Int) < 2:=fun q=>c (.inr (.inl q))
      have c3:¬w=0:=fun q=>c (.inr (.inr q))
      have ed:(((n+1:Nat):Int) - 1)=(n:Int):=by omega
      by_cases c4:w < 5∧2 < (room:Int)
      · have p2:=fK (t:=ta) (m:=(room:Int) - 2) (by omega) (by omega) (by omega) (by omega)
        obtain⟨v0,v1⟩:=bG (t:=ta) (m:=(room:Int) - 2) (by omega)
        have Ln:(aH ta ((room:Int) - 2)).n=ta.n+1:=dX ta _
        generalize aT ta ((room:Int) - 2)=v at *
        generalize aH ta ((room:Int) - 2)=tb at *
        obtain⟨r1,hr1⟩:∃r1:Nat,(r1:Int)=1+v:=⟨(1+v).toNat,by omega⟩
        obtain⟨r2,hr2⟩:∃r2:Nat,(r2:Int)=(room:Int) - 1 - (1+v):=⟨((room:Int) - 1 - (1+v)).toNat,by omega⟩
        obtain⟨d1,Z8,b1,g1,g2,g3,g4,g5⟩:=ih (by omega) (i+1) r1 (by omega) (by omega) (by omega) tb bs b (by omega) (by omega) (by omega) hs hb
        obtain⟨d2,Z9,b2,k1,k2,k3,k4,k5⟩:=ih (by omega) (i+1) r2 (by omega) (by omega) (by omega) Z8 bs (b+b1) (by omega) (by omega) (by omega) hs g3
        obtain⟨y,y1,y2⟩:=qY (x:=.cH) (l:=[.str "both",.str "either",.str "till",.str "till"]) (i:=w - 1) (by omega) (by simp only[List.length_cons,List.length_nil];omega)
        obtain⟨z,rfl,nb,zl,l2,s1,n1,n2⟩:∃z,y= .str z∧dc z=false∧z.length≤8∧dg z=3∧dQ z=1∧z≠"now"∧z≠"within":=by
          simp only[List.mem_cons,List.not_mem_nil,or_false] at y2
          rcases y2 with rfl | rfl | rfl | rfl <;> exact⟨_,rfl,by decide,by decide,by decide,by decide,by decide,by decide⟩
        have dr:=Z5 (n:=n) (bs:=bs) (z:=z) (r:=[d1,d2]) (vF (by rw[l2];rfl) n1 n2 nb) (by unfold bq;rw[s1];rfl) nb g2 k2 ⟨(by show 3≤8;omega),Eg zl,g2.fit,k2.fit,True.intro⟩ (by
          have:=g2.dep
          have:=k2.dep
          show max 0 (max (bW d1) (max (bW d2) 0))+1≤n+2
          omega)
        have TQ:((b+(b1+b2):Nat):Int)=((b+b1+b2:Nat):Int):=by omega
        refine⟨_,Z9,b1+b2,?_,dr.more (by omega),by omega,by omega,by omega⟩
        rw[TQ]
        rw[hr1] at g1
        rw[hr2] at k1
        exact Lq p1 c1 c2 c3 c4.1 c4.2 p2 (by rw[ed];exact g1) (by rw[ed];exact k1) y1
      · obtain⟨d,t',bin,g1,g2,g3,g4,g5⟩:=GC (f:=sF i) (deep:=n+1) (room:=room) (by omega) (by omega) (ih (by omega) i (room - 1) (by omega) (by omega) (by omega)) ta bs b (by omega) (by omega) hl hs hb
        exact⟨d,t',bin,Od p1 c1 c2 c3 c4 g1,g2,g3,by omega,by omega⟩
end Ss
end
section
set_option Elab.async false
set_option linter.all false
set_option maxRecDepth 100000
namespace Ss
open PySem PySem.Spec PyProof.Rows L2 Sw
theorem vG {f g:D→List D}:∀{ps:List D},(∀p∈ps,f p=g p)→ps.flatMap f=ps.flatMap g
 | [],_=>rfl
 | p :: ps,h=>by rw[List.flatMap_cons,List.flatMap_cons,h p List.mem_cons_self,vG fun q hq=>h q (List.mem_cons_of_mem _ hq)]
theorem GF (n:Nat):(xy 0 n).length=n:=by unfold xy;rw[List.length_map,List.length_range]
theorem yp:∀{n:Nat}{bs:List Str}{d:D},cM n bs d=true→cM (n+1) bs d=true∧fX (n+1) d=fX n d
 | 0,_,_,h=>by cases h
 | n+1,bs,d,h=>by
  obtain⟨z,r,rfl,h1,h2⟩:=jo h
  have up:=fun p hp=>yp (h2 p hp)
  refine⟨(kI (n+1) bs z r).mpr ⟨h1,fun p hp=>(up p hp).1⟩,?_⟩
  show(.tup (.str z :: r):D) :: (bq z r).flatMap (fX (n+1))= .tup (.str z :: r) :: (bq z r).flatMap (fX n)
  rw[vG fun p hp=>(up p hp).2]
theorem Eh {n m:Nat}{bs:List Str}{d:D}(hm:n≤m) (h:cM n bs d=true):cM m bs d=true∧fX m d=fX n d:=by
  induction m with
  | zero => obtain rfl : n = 0 := by omega
            exact⟨h,rfl⟩
  | succ m ih=>
    by_cases e:n=m+1
    · subst e;exact⟨h,rfl⟩
    · obtain⟨a,b⟩:=ih (by omega)
      obtain⟨c,d⟩:=yp a
      exact⟨c,d.trans b⟩
theorem Dr.say {deep room bin:Nat}{d:D}(h:Dr deep [] room bin d) (h1:deep≤8) (h2:room≤16) (h3:bin≤3):zg d=true:=by
 obtain⟨a,b⟩:=Eh h1 h.fm
 have s:=h.sz
 have n:=h.bn
 unfold gF at s
 unfold kh at n
 unfold zg gF kh
 rw[a,b]
 simp only[Bool.true_and,Bool.and_eq_true,decide_eq_true_eq]
 omega
noncomputable def gY (bS:FM):GS:=
 (cE (aP bS (cT (az 0) (cT (qO [("names",(eF (az 1))),("binders",(eC (.int 0)))]) (aQ (eF (eP br ao)) (aQ (eF (az 2)) (aQ (eF (az 3)) bN)))))))
noncomputable def vH:FM:=aJ 4 (gY (sF 17))
theorem B4:∀us r,vH us=some r→aJ 4 (gY (sF 17)) us=some r:=fun _ _ h=>h
theorem Of:dI [] [((.inr "names":Key),D.lst Bj),(.inr "binders",.int 0)]=C8 0:=rfl
theorem Ei {t:fW}{room deep:Nat}(h0:0≤t.n) (h1:t.n < 600000) (r1:1≤room) (r2:room≤16) (d1:1≤deep) (d2:deep≤8):
  ∃d t',vH [.b (tp t),.t (.lst Bj),.t (.int room),.t (.int deep)]=some (.t d,[tp t'])∧zg d=true∧iC 8 d∧bW d≤9∧t.n≤t'.n∧t'.n≤t.n+128:=by
 obtain⟨d,t',bin,g1,g2,g3,g4,g5⟩:=Lu deep d1 17 room (by omega) r1 (by omega) t [] 0 h0 (by omega) (by simp only[List.length_nil];omega) (by simp) (by omega)
 have dp:=g2.dep
 refine⟨d,t',?_,g2.say d2 r2 (by omega),g2.fit,by omega,g4,by omega⟩
 have g1:sF 17 [.b (tp t),.b (.dct (C8 0)),.t (.tup []),.t (.int room),.t (.int deep)]=some (.t d,[tp t',.dct (C8 ((0+bin:Nat):Int))]):=g1
 have w0:=Of
 show aJ 4 (gY (sF 17)) _=_
 generalize sF 17=f at *
 generalize Bj=nl at *
 simp[aJ,gY,aC,w0,g1]
noncomputable def lF (aq:FM):GS:=
 (dN 1 (eP br (aa (eC (.str "next")) (aa (eF (az 1)) ao))))
noncomputable def dZ (aq:FM):GS:=
 (bI (dN 2 (aP aq (cT (az 0) (aQ (eC (.int 6)) bN))))
 (bI (jU (qB (eF (eP CU (aa (eF (az 2)) (aa (eC (.int 2)) ao))))) (cE (eP br (aa (eF (eP zJ (aa (eF (eP cG (aa (eC (.str "always")) (aa (eC (.str "not")) ao)))) (aa (eF (az 2)) ao)))) (aa (eF (az 1)) ao)))) dM)
 (bI (jU (qB (eF (eP ux (aa (eF (az 2)) (aa (eC (.int 2)) ao))))) (cE (eP br (aa (eC (.str "both")) (aa (eF (az 1)) (aa (eF (eP br (aa (eC (.str "now")) (aa (eF (eP br (aa (eC (.str "any")) ao))) ao)))) ao))))) dM)
 (bI (jU (qB (eF (eP ux (aa (eF (az 2)) (aa (eC (.int 3)) ao))))) (cE (eP br (aa (eC (.str "each")) (aa (eC (.str "a")) (aa (eC (.str "x")) (aa (eF (eP br (aa (eC (.str "one")) (aa (eC (.str "b")) (aa (eC (.str "k")) (aa (eF (eP br (aa (eC (.str "both")) (aa (eF (eP br (aa (eC (.str "now")) (aa (eF (eP br (aa (eC (.str "less")) (aa (eC (.str "k")) ao)))) ao)))) (aa (eF (az 1)) ao))))) ao)))))) ao)))))) dM)
 (bI (jU (qB (eF (eP ux (aa (eF (az 2)) (aa (eC (.int 4)) ao))))) (cE (eP br (aa (eC (.str "both")) (aa (eF (eP br (aa (eC (.str "each")) (aa (eC (.str "a")) (aa (eC (.str "x")) (aa (eF (eP br (aa (eC (.str "yes")) ao))) ao)))))) (aa (eF (eP br (aa (eC (.str "now")) (aa (eF (eP br (aa (eC (.str "same")) (aa (eC (.str "x")) ao)))) ao)))) ao))))) dM)
 (bI (uW (bName 3) (qG (aa (eF (aP aq (cT (az 0) (aQ (eC (.int 9)) bN)))) ao)) (lF aq))
 (cE (az 1))))))))
noncomputable def lG:FM:=aJ 4 (dZ fO)
theorem Ej:∀us r,lG us=some r→aJ 4 (dZ fO) us=some r:=fun _ _ h=>h
theorem IE {n:Nat}{ds:List D}(h:ds.length≤n) (hf:∀d∈ds,iC n d):iC n (.tup ds):=by
 refine⟨h,?_⟩
 clear h
 induction ds with
 | nil=>exact True.intro
 | cons d ds ih=>exact⟨hf d List.mem_cons_self,ih fun e he=>hf e (List.mem_cons_of_mem _ he)⟩
theorem IF {k:Nat}{ds:List D}(hf:∀d∈ds,bW d≤k):bW (.tup ds)≤k+1:=by
 have:=vp hf
 show bF ds+1≤k+1
 omega
theorem Lv (n k:Nat) (z:Str) (h:z.length≤8) (hn:8≤n):iC n (.str z)∧bW (.str z)≤k:=⟨Nat.le_trans h hn,Nat.zero_le _⟩
theorem iK {n k:Nat}{ds:List D}(hl:ds.length≤n) (h:∀d∈ds,iC n d∧bW d≤k):iC n (.tup ds)∧bW (.tup ds)≤k+1:=⟨IE hl fun d hd=>(h d hd).1,IF fun d hd=>(h d hd).2⟩
theorem vI {t : fW} {s : D} {n k : Nat} (h0 : 0 ≤ t.n) (h1 : t.n < 600000) (hn : 8 ≤ n) (hf : iC n s) (hd : bW s ≤ k) :
    ∃d t',lG [.b (tp t),.t s]=some (.t d,[tp t'])∧iC n d∧bW d≤k+9∧t.n≤t'.n∧t'.n≤t.n+2:=by
  have p1:=fK (t:=t) (m:=6) (by omega) (by omega) h0 (by omega)
  obtain⟨w0,w1⟩:=bG (t:=t) (m:=6) (by omega)
  have Qt:(aH t 6).n=t.n+1:=dX t 6
  generalize aT t 6=w at *
  generalize aH t 6=ta at *
  have ss:iC n s∧bW s≤k:=⟨hf,hd⟩
  have up:∀{d:D}{a b:Nat},iC n d∧bW d≤a→a≤b→iC n d∧bW d≤b:=fun h1 h2=>⟨h1.1,Nat.le_trans h1.2 h2⟩
  have st:∀(z:Str) (b:Nat),z.length≤8→iC n (.str z)∧bW (.str z)≤b:=fun z b h=>Lv n b z h hn
  by_cases c1:w < 2
  · obtain⟨y,y1,y2⟩:=qY (x:=.cH) (l:=[.str "always",.str "not"]) w0 (by simp only[List.length_cons,List.length_nil];omega)
    have hy:iC n y∧bW y≤k:=by
      simp only[List.mem_cons,List.not_mem_nil,or_false] at y2
      rcases y2 with rfl | rfl <;> exact st _ _ (by decide)
    have fin:iC n (.tup [y,s])∧bW (.tup [y,s])≤k+1:=iK (by simp;omega) (by simp only[List.mem_cons,List.not_mem_nil,or_false];rintro x (rfl | rfl);exact hy;exact ss)
    exact⟨_,ta,by simp[lG,aJ,dZ,p1,c1,y1,aC],fin.1,by omega,by omega,by omega⟩
  · by_cases c2:w=2
    · subst c2
      have a1:iC n (.tup [.str "any"])∧bW (.tup [.str "any"])≤k+1:=iK (by simp;omega) (by simp only[List.mem_cons,List.not_mem_nil,or_false];rintro x rfl;exact st _ _ (by decide))
      have a2:iC n (.tup [.str "now",.tup [.str "any"]])∧bW (.tup [.str "now",.tup [.str "any"]])≤k+2:=iK (by simp;omega) (by simp only[List.mem_cons,List.not_mem_nil,or_false];rintro x (rfl | rfl);exact st _ _ (by decide);exact a1)
      have fin:iC n (.tup [.str "both",s,.tup [.str "now",.tup [.str "any"]]])∧bW (.tup [.str "both",s,.tup [.str "now",.tup [.str "any"]]])≤k+3:=iK (by simp;omega) (by simp only[List.mem_cons,List.not_mem_nil,or_false];rintro x (rfl | rfl | rfl);exact st _ _ (by decide);exact up ss (by omega);exact a2)
      exact⟨_,ta,by simp[lG,aJ,dZ,p1,aC],fin.1,by omega,by omega,by omega⟩
    · by_cases c3:w=3
      · subst c3
        have a1:iC n (.tup [.str "less",.str "k"])∧bW (.tup [.str "less",.str "k"])≤k+1:=iK (by simp;omega) (by simp only[List.mem_cons,List.not_mem_nil,or_false];rintro x (rfl | rfl) <;> exact st _ _ (by decide))
        have a2:iC n (.tup [.str "now",.tup [.str "less",.str "k"]])∧bW (.tup [.str "now",.tup [.str "less",.str "k"]])≤k+2:=iK (by simp;omega) (by simp only[List.mem_cons,List.not_mem_nil,or_false];rintro x (rfl | rfl);exact st _ _ (by decide);exact a1)
        have a3:iC n (.tup [.str "both",.tup [.str "now",.tup [.str "less",.str "k"]],s])∧bW (.tup [.str "both",.tup [.str "now",.tup [.str "less",.str "k"]],s])≤k+3:=iK (by simp;omega) (by simp only[List.mem_cons,List.not_mem_nil,or_false];rintro x (rfl | rfl | rfl);exact st _ _ (by decide);exact a2;exact up ss (by omega))
        have a4:iC n (.tup [.str "one",.str "b",.str "k",.tup [.str "both",.tup [.str "now",.tup [.str "less",.str "k"]],s]])∧bW (.tup [.str "one",.str "b",.str "k",.tup [.str "both",.tup [.str "now",.tup [.str "less",.str "k"]],s]])≤k+4:=iK (by simp;omega) (by simp only[List.mem_cons,List.not_mem_nil,or_false];rintro x (rfl | rfl | rfl | rfl);exact st _ _ (by decide);exact st _ _ (by decide);exact st _ _ (by decide);exact a3)
        have fin:iC n (.tup [.str "each",.str "a",.str "x",.tup [.str "one",.str "b",.str "k",.tup [.str "both",.tup [.str "now",.tup [.str "less",.str "k"]],s]]])∧bW (.tup [.str "each",.str "a",.str "x",.tup [.str "one",.str "b",.str "k",.tup [.str "both",.tup [.str "now",.tup [.str "less",.str "k"]],s]]])≤k+5:=iK (by simp;omega) (by simp only[List.mem_cons,List.not_mem_nil,or_false];rintro x (rfl | rfl | rfl | rfl);exact st _ _ (by decide);exact st _ _ (by decide);exact st _ _ (by decide);exact a4)
        exact⟨_,ta,by simp[lG,aJ,dZ,p1,aC],fin.1,by omega,by omega,by omega⟩
      · by_cases c4:w=4
        · subst c4
          have a1:iC n (.tup [.str "yes"])∧bW (.tup [.str "yes"])≤k+1:=iK (by simp;omega) (by simp only[List.mem_cons,List.not_mem_nil,or_false];rintro x rfl;exact st _ _ (by decide))
          have a2:iC n (.tup [.str "each",.str "a",.str "x",.tup [.str "yes"]])∧bW (.tup [.str "each",.str "a",.str "x",.tup [.str "yes"]])≤k+2:=iK (by simp;omega) (by simp only[List.mem_cons,List.not_mem_nil,or_false];rintro x (rfl | rfl | rfl | rfl);exact st _ _ (by decide);exact st _ _ (by decide);exact st _ _ (by decide);exact a1)
          have a3:iC n (.tup [.str "same",.str "x"])∧bW (.tup [.str "same",.str "x"])≤k+1:=iK (by simp;omega) (by simp only[List.mem_cons,List.not_mem_nil,or_false];rintro x (rfl | rfl) <;> exact st _ _ (by decide))
          have a4:iC n (.tup [.str "now",.tup [.str "same",.str "x"]])∧bW (.tup [.str "now",.tup [.str "same",.str "x"]])≤k+2:=iK (by simp;omega) (by simp only[List.mem_cons,List.not_mem_nil,or_false];rintro x (rfl | rfl);exact st _ _ (by decide);exact a3)
          have fin:iC n (.tup [.str "both",.tup [.str "each",.str "a",.str "x",.tup [.str "yes"]],.tup [.str "now",.tup [.str "same",.str "x"]]])∧bW (.tup [.str "both",.tup [.str "each",.str "a",.str "x",.tup [.str "yes"]],.tup [.str "now",.tup [.str "same",.str "x"]]])≤k+3:=iK (by simp;omega) (by simp only[List.mem_cons,List.not_mem_nil,or_false];rintro x (rfl | rfl | rfl);exact st _ _ (by decide);exact a2;exact a4)
          exact⟨_,ta,by simp[lG,aJ,dZ,p1,aC],fin.1,by omega,by omega,by omega⟩
        · have p2:=fK (t:=ta) (m:=9) (by omega) (by omega) (by omega) (by omega)
          obtain⟨v0,v1⟩:=bG (t:=ta) (m:=9) (by omega)
          have Ln:(aH ta 9).n=ta.n+1:=dX ta 9
          generalize aT ta 9=v at *
          generalize aH ta 9=tb at *
          obtain⟨S',e,d,x3,q3,f1,f2,rfl⟩:=vt (bd:=bName 3) (body:=lF fO) (xy 0 v.toNat)
            (fun j S=>∃d x3,lC x3=false∧iC n d∧bW d≤k+j∧S=[some (.b (tp tb)),some (.t d),some (.t (.int w)),x3])
            [some (.b (tp tb)),some (.t s),some (.t (.int w)),none] ⟨s,none,rfl,hf,hd,rfl⟩ (by
              rintro j d S hj ⟨d0,x3,q3,f1,f2,rfl⟩
              refine⟨[some (.b (tp tb)),some (.t d0),some (.t (.int w)),some (.t d)],[some (.b (tp tb)),some (.t (.tup [.str "next",d0])),some (.t (.int w)),some (.t d)],by simp[-mY,kg,q3],by simp[lF],.tup [.str "next",d0],some (.t d),rfl,?_⟩
              have:=iK (n:=n) (k:=k+j) (ds:=[.str "next",d0]) (by simp;omega) (by simp only[List.mem_cons,List.not_mem_nil,or_false];rintro x (rfl | rfl);exact st _ _ (by decide);exact⟨f1,f2⟩)
              exact⟨this.1,this.2,rfl⟩)
          rw[GF] at f2
          refine⟨d,tb,?_,f1,by omega,by omega,by omega⟩
          have e4:qG (aa (eF (aP fO (cT (az 0) (aQ (eC (.int 9)) bN)))) ao) [some (.b (tp ta)),some (.t s),some (.t (.int w)),none]=some (xy 0 v.toNat,[some (.b (tp tb)),some (.t s),some (.t (.int w)),none]):=Sq.x9 (by simp[p2]) (by omega) (by omega)
          simp[lG,aJ,dZ,p1,c1,c2,c3,c4,-Ig,e4,e,aC]
noncomputable def iA:GS:=
 (bI (dN 1 (eP br (aa (eC (.str "both")) (aa (eF (eP br (aa (eC (.str "one")) (aa (eC (.str "ab")) (aa (eC (.str "x")) (aa (eF (eP br (aa (eC (.str "no")) ao))) ao)))))) (aa (eF (az 0)) ao)))))
 (cE (eP br (aa (eC (.str "both")) (aa (eF (eP br (aa (eC (.str "each")) (aa (eC (.str "a")) (aa (eC (.str "x")) (aa (eF (eP br (aa (eC (.str "yes")) ao))) ao)))))) (aa (eF (eP br (aa (eC (.str "either")) (aa (eF (eP br (aa (eC (.str "each")) (aa (eC (.str "a")) (aa (eC (.str "k")) (aa (eF (eP br (aa (eC (.str "now")) (aa (eF (eP br (aa (eC (.str "same")) (aa (eC (.str "k")) ao)))) ao)))) ao)))))) (aa (eF (az 1)) ao))))) ao))))))
noncomputable def pI:FM:=aJ 2 iA
theorem B5:∀us r,pI us=some r→aJ 2 iA us=some r:=fun _ _ h=>h
noncomputable def IG (l:D):D:=.tup [.str "both",.tup [.str "each",.str "a",.str "x",.tup [.str "yes"]],.tup [.str "either",.tup [.str "each",.str "a",.str "k",.tup [.str "now",.tup [.str "same",.str "k"]]],.tup [.str "both",.tup [.str "one",.str "ab",.str "x",.tup [.str "no"]],l]]]
theorem yq (l:D):pI [.t l]=some (.t (IG l),[]):=by simp[pI,aJ,iA,IG,aC]
theorem GG {n k:Nat}(hn:20≤n) (hk:1≤k) (t:fW):iC n (qU t)∧bW (qU t)≤k:=by
 have p:=bG (t:=t) (m:=17) (by omega)
 have hm:qU t∈DS:=mz p.1 p.2
 have:∀x∈DS,iC 20 x∧bW x≤1:=by
  intro x hx
  simp only[DS,List.mem_cons,List.not_mem_nil,or_false] at hx
  rcases hx with rfl | rfl | rfl | rfl | rfl | rfl | rfl | rfl | rfl | rfl | rfl | rfl | rfl | rfl | rfl | rfl | rfl <;> refine⟨?_,by decide⟩ <;> first | exact True.intro | (show _≤20;decide) | exact⟨by decide,True.intro⟩ | exact⟨by decide,(by show _≤20;decide),True.intro⟩ | exact⟨by decide,(by show _≤20;decide),True.intro,True.intro⟩
 obtain⟨a,b⟩:=this _ hm
 exact⟨a.mono hn,Nat.le_trans b hk⟩
theorem oK {n k : Nat} (hn : 20 ≤ n) (t : fW) {d : D} (h : iC n d) (hd : bW d ≤ k) : iC (2 * n + 2) (bV t d).1 ∧ bW (bV t d).1 ≤ k + 2 := by
  have od:∀t,iC (2 * n+2) (qU t)∧bW (qU t)≤k+2:=fun t=>GG (by omega) (by omega) t
  unfold bV
  cases d with
  | tup ds =>
    dsimp only
    split
    · rename_i c
      have p:=bG (t:=t) (m:=8) (by omega)
      have hlt:(aT t 8).toNat < 5:=by omega
      have hl:ds.length≤n:=h.1
      have hfs:Fits (2 * n+2) ds:=Fits.mono (by omega) h.2
      have hds:bF ds+1≤k:=hd
      have cl:=fun lo hi=>fY ds lo hi
      have cd:=fun lo hi=>su ds lo hi
      have all:∀y∈([.tup (L2.cutD ds none (some (aT (aH t 8) (ds.length+1)))),.tup (ds++L2.cutD ds (some (aT (aH t 8) (ds.length+1))) none),.tup (L2.cutD ds none (some (aT (aH t 8) (ds.length+1)))++L2.cutD ds (some (aT (aH t 8) (ds.length+1)+1)) none),.lst ds,.tup (ds++[.tup ds])]:List D),iC (2 * n+2) y∧bW y≤k+2:=by
        intro y hy
        simp only[List.mem_cons,List.not_mem_nil,or_false] at hy
        rcases hy with rfl | rfl | rfl | rfl | rfl
        · exact⟨⟨by have:=cl none (some (aT (aH t 8) (ds.length+1)));omega,hfs.cut _ _⟩,by show bF _+1≤_;have:=cd none (some (aT (aH t 8) (ds.length+1)));omega⟩
        · exact⟨⟨by rw[List.length_append];have:=cl (some (aT (aH t 8) (ds.length+1))) none;omega,hfs.append (hfs.cut _ _)⟩,by show bF _+1≤_;rw[gX];have:=cd (some (aT (aH t 8) (ds.length+1))) none;omega⟩
        · exact⟨⟨by rw[List.length_append];have:=cl none (some (aT (aH t 8) (ds.length+1)));have:=cl (some (aT (aH t 8) (ds.length+1)+1)) none;omega,(hfs.cut _ _).append (hfs.cut _ _)⟩,by show bF _+1≤_;rw[gX];have:=cd none (some (aT (aH t 8) (ds.length+1)));have:=cd (some (aT (aH t 8) (ds.length+1)+1)) none;omega⟩
        · exact⟨⟨by omega,hfs⟩,by show bF _+1≤_;omega⟩
        · exact⟨⟨by rw[List.length_append,List.length_singleton];omega,hfs.append ⟨⟨by omega,hfs⟩,True.intro⟩⟩,by show bF _+1≤_;rw[gX];show max _ (max (bF ds+1) 0)+1≤_;omega⟩
      have hm:=mz (α:=D) (l:=[.tup (L2.cutD ds none (some (aT (aH t 8) (ds.length+1)))),.tup (ds++L2.cutD ds (some (aT (aH t 8) (ds.length+1))) none),.tup (L2.cutD ds none (some (aT (aH t 8) (ds.length+1)))++L2.cutD ds (some (aT (aH t 8) (ds.length+1)+1)) none),.lst ds,.tup (ds++[.tup ds])]) (i:=aT t 8) (x:=.cH) p.1 (by simp only[List.length_cons,List.length_nil];omega)
      exact all _ hm
    · exact od _
  | int i =>
    dsimp only
    split
    · rename_i c
      have p:=bG (t:=t) (m:=8) (by omega)
      have hm:=mz (α:=D) (l:=[.int (i+1),.int (i - 1),.int 5,.int 9,.int 10]) (i:=aT t 8) (x:=.cH) p.1 (by simp only[List.length_cons,List.length_nil];omega)
      have all:∀y∈([.int (i+1),.int (i - 1),.int 5,.int 9,.int 10]:List D),iC (2 * n+2) y∧bW y≤k+2:=by
        intro y hy
        simp only[List.mem_cons,List.not_mem_nil,or_false] at hy
        rcases hy with rfl | rfl | rfl | rfl | rfl <;> exact⟨True.intro,Nat.zero_le _⟩
      exact all _ hm
    · exact od _
  | str z =>
    dsimp only
    split
    · rename_i c
      have p:=bG (t:=t) (m:=8) (by omega)
      have hz:z.length≤n:=h
      have hm:=mz (α:=D) (l:=[.str (z++("a":Str)),.str (Txt.slice z (some 1) none),.str (z++("A":Str)),.str "x",.str "now",.str "less"]) (i:=aT t 8) (x:=.cH) p.1 (by simp only[List.length_cons,List.length_nil];omega)
      have all:∀y∈([.str (z++("a":Str)),.str (Txt.slice z (some 1) none),.str (z++("A":Str)),.str "x",.str "now",.str "less"]:List D),iC (2 * n+2) y∧bW y≤k+2:=by
        intro y hy
        simp only[List.mem_cons,List.not_mem_nil,or_false] at hy
        rcases hy with rfl | rfl | rfl | rfl | rfl | rfl
        · exact⟨(by show(z++("a":Str)).length≤_;rw[strLen_append];show z.length+1≤_;omega),Nat.zero_le _⟩
        · exact⟨Nat.le_trans (Txt.slice_le z _ _) (by omega),Nat.zero_le _⟩
        · exact⟨(by show(z++("A":Str)).length≤_;rw[strLen_append];show z.length+1≤_;omega),Nat.zero_le _⟩
        · exact⟨(by show 1≤_;omega),Nat.zero_le _⟩
        · exact⟨(by show 3≤_;omega),Nat.zero_le _⟩
        · exact⟨(by show 4≤_;omega),Nat.zero_le _⟩
      exact all _ hm
    · exact od _
  | cH=>exact od _
  | bl b=>exact od _
  | lst ds=>exact od _
theorem zm {n : Nat} (hn : 20 ≤ n) : ∀ (k : Nat) (t : fW) (d : D) (dd : Nat), iC n d → bW d ≤ dd → iC (2 * n + 2) (eU k t d).1 ∧ bW (eU k t d).1 ≤ dd + 2
  | 0,t,d,dd,h,hd=>by
    have e:eU 0 t d=bV t d:=by cases d <;> rfl
    rw[e];exact oK hn t h hd
  | k + 1, t, d, dd, h, hd => by
    cases d with
    | tup ds =>
      unfold eU
      split
      · exact oK hn t h hd
      · rename_i hl
        split
        · have c1:(0:Int) < ds.length:=by omega
          have p2:=bG (t:=aH t 4) (m:=ds.length) c1
          have hmem:=mz (α:=D) (x:=.cH) p2.1 p2.2
          have d0:bF ds+1≤dd:=hd
          have dx:=pD hmem
          have ih:=zm hn k (aH (aH t 4) ds.length) _ (dd - 1) (Fits.mem h.2 hmem) (by omega)
          generalize (eU k (aH (aH t 4) ds.length) (ds.getD (aT (aH t 4) ds.length).toNat .cH)).1=x at ih
          have hfs:Fits (2 * n+2) ds:=Fits.mono (by omega) h.2
          have Z1:ds.length≤n:=h.1
          have c2:=fY ds none (some (aT (aH t 4) ds.length))
          have c3:=fY ds (some (aT (aH t 4) ds.length+1)) none
          have e1:=su ds none (some (aT (aH t 4) ds.length))
          have e2:=su ds (some (aT (aH t 4) ds.length+1)) none
          refine⟨⟨?_,((hfs.cut _ _).append (show Fits (2 * n+2) [x] from⟨ih.1,True.intro⟩)).append (hfs.cut _ _)⟩,?_⟩
          · rw[List.length_append,List.length_append,List.length_singleton];omega
          · show bF _+1≤dd+2
            rw[gX,gX]
            show max (max _ (max (bW x) 0)) _+1≤_
            have:=ih.2
            omega
        · exact oK hn _ h hd
    | cH=>exact oK hn t h hd
    | bl b=>exact oK hn t h hd
    | int b=>exact oK hn t h hd
    | str b=>exact oK hn t h hd
    | lst b=>exact oK hn t h hd
theorem yr {j:Nat}{t:fW}{d:D}{k:Int}(h0:0≤k) (h1:k < j) (hf:iC 5000 d) (h:0≤t.n) (h2:t.n+2 * k < 600000):gD j [.b (tp t),.t d,.t (.int k)]=some (.t (eU k.toNat t d).1,[tp (eU k.toNat t d).2]):=by
 unfold gD
 simp only[tp,vm,Option.bind_some]
 rw[if_pos ⟨h0,h1,hf,h,h2⟩]
end Ss
end
section
set_option Elab.async false
set_option linter.all false
set_option maxRecDepth 100000
namespace Ss
open PySem PySem.Spec PyProof.Rows L2 Sw
noncomputable def sG (aU:FM) (bu:FM) (aI:FM) (bL:FM) (bf:FM) (bg:FM) (aq:FM) (aV:FM) (aY:FM) (aZ:FM):GS:=
 (bI (dN 3 (aP bu (aQ (eF (az 2)) bN)))
 (jU (uH (j5 (qB (u9 ["bool"] (eF (az 3))))) (qB (eF (eP Jh (aa (eF (az 3)) (aa (eF (aP aI (aQ (eF (az 2)) (aQ (eF (eP cG ao)) (aQ (eC (.int 1)) (cT (eP cG (aa (eC (.int 0)) (aa (eC (.int 0)) ao))) bN)))))) ao)))))) (cE (eT (eC (.bl false)))) dM))
noncomputable def GH (aU:FM) (bu:FM) (aI:FM) (bL:FM) (bf:FM) (bg:FM) (aq:FM) (aV:FM) (aY:FM) (aZ:FM):GS:=
 (bI (dN 3 (aP bu (aQ (eF (az 2)) bN)))
 (jU (uH (j5 (qB (u9 ["bool"] (eF (az 3))))) (qB (eF (eP Jh (aa (eF (az 3)) (aa (eF (aP aI (aQ (eF (az 2)) (aQ (eF (eP cG ao)) (aQ (eC (.int 1)) (cT (eP cG (aa (eC (.int 0)) (aa (eC (.int 0)) ao))) bN)))))) ao)))))) (cE (eT (eC (.bl false)))) dM))
noncomputable def sH (aU:FM) (bu:FM) (aI:FM) (bL:FM) (bf:FM) (bg:FM) (aq:FM) (aV:FM) (aY:FM) (aZ:FM):GS:=
 (bI (dN 5 (aP bL (cT (az 0) (aQ (eF (az 4)) bN))))
 (bI (dN 6 (aP bf (cT (az 5) (aQ (eF (aP bg bN)) (aQ (eF (eP dm (aa (eC (.int 1)) (aa (eF (aP aq (cT (az 5) (aQ (eC (.int 16)) bN)))) ao)))) (aQ (eF (eP dm (aa (eC (.int 1)) (aa (eF (aP aq (cT (az 5) (aQ (eC (.int 8)) bN)))) ao)))) bN))))))
 (bI (jU (qB (eF (eP qR (aa (eF (aP bu (aQ (eF (az 6)) bN))) (aa (eC (.bl true)) ao))))) (cE (eT (eC (.bl false)))) dM)
 (bI (dN 7 (aP aV (cT (az 5) (aQ (eF (az 6)) (aQ (eC (.int 6)) bN)))))
 (bI (dN 1 (eP cG (aa (eF (az 7)) (aa (eF (aP aV (cT (az 5) (aQ (eF (az 7)) (aQ (eC (.int 6)) bN))))) (aa (eF (aP aY (cT (az 5) (aQ (eF (az 6)) bN)))) (aa (eF (eP tX (aa (eF (az 6)) ao))) (aa (eF (aP aZ (cT (az 5) bN))) ao)))))))
 (uW (bName 2) (qF (eF (eP dm (aa (eF (az 1)) (aa (eF (eP cG (aa (eF (aP aY (cT (az 5) (aQ (eF (aP aY (cT (az 5) (aQ (eF (az 6)) bN)))) bN)))) ao))) ao))))) (GH aU bu aI bL bf bg aq aV aY aZ)))))))
noncomputable def AD (aU:FM) (bu:FM) (aI:FM) (bL:FM) (bf:FM) (bg:FM) (aq:FM) (aV:FM) (aY:FM) (aZ:FM):GS:=
 (bI (dN 1 (eP cG (aa (eF (aP aU (aQ (eF (eP br (aa (eC (.str "yes")) ao))) bN))) (aa (eF (aP aU (aQ (eF (eP br (aa (eC (.str "one")) (aa (eC (.str "a")) (aa (eC (.str "x")) (aa (eF (eP br (aa (eC (.str "yes")) ao))) ao)))))) bN))) (aa (eF (eP br (aa (eF (eP cG (aa (eC (.str "now")) ao))) (aa (eF (eP br (aa (eC (.str "any")) ao))) ao)))) (aa (eF (eP br (aa (eF (eP cG ao)) (aa (eC (.int 0)) ao)))) (aa (eF (eP cG (aa (eF (eP br (aa (eC (.str "yes")) ao))) ao))) ao)))))))
 (bI (dN 1 (eP dm (aa (eF (az 1)) (aa (eF (eP cG (aa (eF (eP br (aa (eC (.str "now")) (aa (eF (eP br (aa (eF (eP cG (aa (eC (.str "any")) ao))) ao))) ao)))) (aa (eF (eP br (aa (eC (.str "now")) (aa (eF (eP cG (aa (eC (.str "any")) ao))) ao)))) (aa (eF (eP br (aa (eC (.str "now")) (aa (eF (eP br (aa (eF (eP cG ao)) (aa (eC (.int 1)) ao)))) ao)))) (aa (eF (eP br (aa (eC (.str "each")) (aa (eF (eP cG (aa (eC (.str "a")) ao))) (aa (eC (.str "x")) (aa (eF (eP br (aa (eC (.str "yes")) ao))) ao)))))) ao)))))) ao))))
 (bI (uW (bName 2) (qF (eF (eP dm (aa (eF (az 1)) (aa (eF (eP cG (aa (eF (eP br (aa (eC (.str "each")) (aa (eC (.str "a")) (aa (eF (eP cG (aa (eC (.str "x")) ao))) (aa (eF (eP br (aa (eC (.str "yes")) ao))) ao)))))) (aa (eF (eP br (aa (eC (.str "within")) (aa (eF (eP cG (aa (eC (.int 1)) ao))) (aa (eF (eP br (aa (eC (.str "yes")) ao))) ao))))) (aa (eF (eP br (aa (eC (.str "not")) (aa (eF (eP cG (aa (eF (eP br (aa (eC (.str "yes")) ao))) ao))) ao)))) ao))))) ao))))) (sG aU bu aI bL bf bg aq aV aY aZ))
 (bI (uW (bName 4) (qG (aa (eF (eP dm (aa (eC (.int 1)) (aa (eF (eP uV (aa (eF (DI 0 none (some (eC (.int 14))))) ao))) ao)))) ao)) (sH aU bu aI bL bf bg aq aV aY aZ))
 (cE (eT (eC (.bl true))))))))
noncomputable def TR (aU:FM) (bu:FM) (aI:FM) (bL:FM) (bf:FM) (bg:FM) (aq:FM) (aV:FM) (aY:FM) (aZ:FM):GS:=
 (dN 1 (eP cG (aa (eF (aP aU (aQ (eF (eP br (aa (eC (.str "yes")) ao))) bN))) (aa (eF (aP aU (aQ (eF (eP br (aa (eC (.str "one")) (aa (eC (.str "a")) (aa (eC (.str "x")) (aa (eF (eP br (aa (eC (.str "yes")) ao))) ao)))))) bN))) (aa (eF (eP br (aa (eF (eP cG (aa (eC (.str "now")) ao))) (aa (eF (eP br (aa (eC (.str "any")) ao))) ao)))) (aa (eF (eP br (aa (eF (eP cG ao)) (aa (eC (.int 0)) ao)))) (aa (eF (eP cG (aa (eF (eP br (aa (eC (.str "yes")) ao))) ao))) ao)))))))
noncomputable def TU (aU:FM) (bu:FM) (aI:FM) (bL:FM) (bf:FM) (bg:FM) (aq:FM) (aV:FM) (aY:FM) (aZ:FM):GS:=
 (dN 1 (eP dm (aa (eF (az 1)) (aa (eF (eP cG (aa (eF (eP br (aa (eC (.str "now")) (aa (eF (eP br (aa (eF (eP cG (aa (eC (.str "any")) ao))) ao))) ao)))) (aa (eF (eP br (aa (eC (.str "now")) (aa (eF (eP cG (aa (eC (.str "any")) ao))) ao)))) (aa (eF (eP br (aa (eC (.str "now")) (aa (eF (eP br (aa (eF (eP cG ao)) (aa (eC (.int 1)) ao)))) ao)))) (aa (eF (eP br (aa (eC (.str "each")) (aa (eF (eP cG (aa (eC (.str "a")) ao))) (aa (eC (.str "x")) (aa (eF (eP br (aa (eC (.str "yes")) ao))) ao)))))) ao)))))) ao))))
noncomputable def Yd (aU:FM) (bu:FM) (aI:FM) (bL:FM) (bf:FM) (bg:FM) (aq:FM) (aV:FM) (aY:FM) (aZ:FM):GS:=
 (uW (bName 2) (qF (eF (eP dm (aa (eF (az 1)) (aa (eF (eP cG (aa (eF (eP br (aa (eC (.str "each")) (aa (eC (.str "a")) (aa (eF (eP cG (aa (eC (.str "x")) ao))) (aa (eF (eP br (aa (eC (.str "yes")) ao))) ao)))))) (aa (eF (eP br (aa (eC (.str "within")) (aa (eF (eP cG (aa (eC (.int 1)) ao))) (aa (eF (eP br (aa (eC (.str "yes")) ao))) ao))))) (aa (eF (eP br (aa (eC (.str "not")) (aa (eF (eP cG (aa (eF (eP br (aa (eC (.str "yes")) ao))) ao))) ao)))) ao))))) ao))))) (sG aU bu aI bL bf bg aq aV aY aZ))
noncomputable def Ye (aU:FM) (bu:FM) (aI:FM) (bL:FM) (bf:FM) (bg:FM) (aq:FM) (aV:FM) (aY:FM) (aZ:FM):GS:=
 (uW (bName 4) (qG (aa (eF (eP dm (aa (eC (.int 1)) (aa (eF (eP uV (aa (eF (DI 0 none (some (eC (.int 14))))) ao))) ao)))) ao)) (sH aU bu aI bL bf bg aq aV aY aZ))
noncomputable def Yg (aU:FM) (bu:FM) (aI:FM) (bL:FM) (bf:FM) (bg:FM) (aq:FM) (aV:FM) (aY:FM) (aZ:FM):GS:=
 (cE (eT (eC (.bl true))))
theorem lw_eq (aU:FM) (bu:FM) (aI:FM) (bL:FM) (bf:FM) (bg:FM) (aq:FM) (aV:FM) (aY:FM) (aZ:FM):AD aU bu aI bL bf bg aq aV aY aZ=bI (TR aU bu aI bL bf bg aq aV aY aZ) (bI (TU aU bu aI bL bf bg aq aV aY aZ) (bI (Yd aU bu aI bL bf bg aq aV aY aZ) (bI (Ye aU bu aI bL bf bg aq aV aY aZ) (Yg aU bu aI bL bf bg aq aV aY aZ)))):=rfl
noncomputable def Qv (f2 f3:FM) (d:D):Prop:=∃b o,f2 [.t d]=some (.t (.bl b),[])∧f3 [.t d,.t (.lst []),.t (.int 1),.b (cn 0 0)]=some (.t (.bl b),[o])
section
variable {f1 f2 f3 f4 f5 f6 f7 f8 f9 Bk:FM}{a0 a1 a4 a5 a6 a7:Option U}
theorem II {x3:Option U}{d:D}(h3:lC x3=false) (h:Qv f2 f3 d):∃y3,lC y3=false∧sG f1 f2 f3 f4 f5 f6 f7 f8 f9 Bk [a0,a1,some (.t d),x3,a4,a5,a6,a7]=some (.nx [a0,a1,some (.t d),y3,a4,a5,a6,a7]):=by
 obtain⟨b,o,e1,e2⟩:=h
 refine⟨some (.t (.bl b)),rfl,?_⟩
 simp only[cn] at e2
 simp[sG,-mY,kg,h3,e1,bJ,cS,zW,e2]
theorem zo:∀(L:List D) (x2 x3:Option U),lC x2=false→lC x3=false→(∀d∈L,Qv f2 f3 d)→∃y2 y3,lC y2=false∧lC y3=false∧loop (bName 2) (sG f1 f2 f3 f4 f5 f6 f7 f8 f9 Bk) L [a0,a1,x2,x3,a4,a5,a6,a7]=some (.nx [a0,a1,y2,y3,a4,a5,a6,a7])
 | [],x2,x3,h2,h3,_=>⟨x2,x3,h2,h3,rfl⟩
 | d :: L,x2,x3,h2,h3,h=>by
  obtain⟨y3,q3,e⟩:=II (f1:=f1) (f4:=f4) (f5:=f5) (f6:=f6) (f7:=f7) (f8:=f8) (f9:=f9) (Bk:=Bk) (a0:=a0) (a1:=a1) (a4:=a4) (a5:=a5) (a6:=a6) (a7:=a7) h3 (h d List.mem_cons_self)
  obtain⟨z2,z3,r2,r3,e2⟩:=zo L (some (.t d)) y3 rfl q3 fun x hx=>h x (List.mem_cons_of_mem _ hx)
  refine⟨z2,z3,r2,r3,?_⟩
  have eb:bName 2 d [a0,a1,x2,x3,a4,a5,a6,a7]=some [a0,a1,some (.t d),x3,a4,a5,a6,a7]:=by simp[-mY,kg,h2]
  rw[DV,eb,Option.bind_some,e,Option.bind_some]
  exact e2
theorem w21:GH f1 f2 f3 f4 f5 f6 f7 f8 f9 Bk=sG f1 f2 f3 f4 f5 f6 f7 f8 f9 Bk:=rfl
theorem IJ {ns:List Int}{k a b:Int}{x1 x2 x3 x5 x6 x7:Option U}{T0 T1 T2 T3 T4 T5 T6 T7 T8 T9:MO}{nl dl:List D}{d1 d2 d3 d4 d5 d6:D}(h1:lC x1=false) (h2:lC x2=false) (h3:lC x3=false) (h5:lC x5=false) (h6:lC x6=false) (h7:lC x7=false)
  (e4:f4 [.s ns,.t (.int k)]=some (.m T0,[])) (e6:f6 []=some (.m (.lst nl),[])) (p1:f7 [.b T0,.t (.int 16)]=some (.t (.int a),[T1])) (p2:f7 [.b T1,.t (.int 8)]=some (.t (.int b),[T2]))
  (e5:f5 [.b T2,.t (.lst nl),.t (.int (1+a)),.t (.int (1+b))]=some (.t (.tup dl),[T3])) (e2:f2 [.t (.tup dl)]=some (.t (.bl true),[]))
  (e8:f8 [.b T3,.t (.tup dl),.t (.int 6)]=some (.t d1,[T4])) (Og:f8 [.b T4,.t d1,.t (.int 6)]=some (.t d2,[T5])) (e9:f9 [.b T5,.t (.tup dl)]=some (.t d3,[T6])) (TV:Bk [.b T6]=some (.t d4,[T7]))
  (TX:f9 [.b T7,.t (.tup dl)]=some (.t d5,[T8])) (TY:f9 [.b T8,.t d5]=some (.t d6,[T9])) (ok:∀d∈[d1,d2,d3,.lst dl,d4,d6],Qv f2 f3 d):
  ∃y1 y2 y3 y5 y6 y7,lC y1=false∧lC y2=false∧lC y3=false∧lC y5=false∧lC y6=false∧lC y7=false∧sH f1 f2 f3 f4 f5 f6 f7 f8 f9 Bk [some (.s ns),x1,x2,x3,some (.t (.int k)),x5,x6,x7]=some (.nx [some (.s ns),y1,y2,y3,some (.t (.int k)),y5,y6,y7]):=by
 obtain⟨y2,y3,q2,q3,lp⟩:=zo (f1:=f1) (f2:=f2) (f3:=f3) (f4:=f4) (f5:=f5) (f6:=f6) (f7:=f7) (f8:=f8) (f9:=f9) (Bk:=Bk) (a0:=some (.s ns)) (a1:=some (.t (.lst [d1,d2,d3,.lst dl,d4]))) (a4:=some (.t (.int k))) (a5:=some (.m T9)) (a6:=some (.t (.tup dl))) (a7:=some (.t d1)) [d1,d2,d3,.lst dl,d4,d6] x2 x3 h2 h3 ok
 refine⟨some (.t (.lst [d1,d2,d3,.lst dl,d4])),y2,y3,some (.m T9),some (.t (.tup dl)),some (.t d1),rfl,q2,q3,rfl,rfl,rfl,?_⟩
 unfold sH
 rw[w21]
 have s1:dN 5 (aP f4 (cT (az 0) (aQ (eF (az 4)) bN))) [some (.s ns),x1,x2,x3,some (.t (.int k)),x5,x6,x7]=some (.nx [some (.s ns),x1,x2,x3,some (.t (.int k)),some (.m T0),x6,x7]):=by simp[-mY,kg,h5,e4]
 have s2:dN 6 (aP f5 (cT (az 5) (aQ (eF (aP f6 bN)) (aQ (eF (eP dm (aa (eC (.int 1)) (aa (eF (aP f7 (cT (az 5) (aQ (eC (.int 16)) bN)))) ao)))) (aQ (eF (eP dm (aa (eC (.int 1)) (aa (eF (aP f7 (cT (az 5) (aQ (eC (.int 8)) bN)))) ao)))) bN))))) [some (.s ns),x1,x2,x3,some (.t (.int k)),some (.m T0),x6,x7]=some (.nx [some (.s ns),x1,x2,x3,some (.t (.int k)),some (.m T3),some (.t (.tup dl)),x7]):=by simp[-mY,kg,h6,e6,p1,p2,e5]
 have s3:jU (qB (eF (eP qR (aa (eF (aP f2 (aQ (eF (az 6)) bN))) (aa (eC (.bl true)) ao))))) (cE (eT (eC (.bl false)))) dM [some (.s ns),x1,x2,x3,some (.t (.int k)),some (.m T3),some (.t (.tup dl)),x7]=some (.nx [some (.s ns),x1,x2,x3,some (.t (.int k)),some (.m T3),some (.t (.tup dl)),x7]):=by simp[e2,qR]
 have s4:dN 7 (aP f8 (cT (az 5) (aQ (eF (az 6)) (aQ (eC (.int 6)) bN)))) [some (.s ns),x1,x2,x3,some (.t (.int k)),some (.m T3),some (.t (.tup dl)),x7]=some (.nx [some (.s ns),x1,x2,x3,some (.t (.int k)),some (.m T4),some (.t (.tup dl)),some (.t d1)]):=by simp[-mY,kg,h7,e8]
 have s5:dN 1 (eP cG (aa (eF (az 7)) (aa (eF (aP f8 (cT (az 5) (aQ (eF (az 7)) (aQ (eC (.int 6)) bN))))) (aa (eF (aP f9 (cT (az 5) (aQ (eF (az 6)) bN)))) (aa (eF (eP tX (aa (eF (az 6)) ao))) (aa (eF (aP Bk (cT (az 5) bN))) ao)))))) [some (.s ns),x1,x2,x3,some (.t (.int k)),some (.m T4),some (.t (.tup dl)),some (.t d1)]=some (.nx [some (.s ns),some (.m (.lst [d1,d2,d3,.lst dl,d4])),x2,x3,some (.t (.int k)),some (.m T7),some (.t (.tup dl)),some (.t d1)]):=by simp[-mY,kg,h1,Og,e9,TV]
 have s6:qF (eF (eP dm (aa (eF (az 1)) (aa (eF (eP cG (aa (eF (aP f9 (cT (az 5) (aQ (eF (aP f9 (cT (az 5) (aQ (eF (az 6)) bN)))) bN)))) ao))) ao)))) [some (.s ns),some (.m (.lst [d1,d2,d3,.lst dl,d4])),x2,x3,some (.t (.int k)),some (.m T7),some (.t (.tup dl)),some (.t d1)]=some ([d1,d2,d3,.lst dl,d4,d6],[some (.s ns),some (.t (.lst [d1,d2,d3,.lst dl,d4])),x2,x3,some (.t (.int k)),some (.m T9),some (.t (.tup dl)),some (.t d1)]):=by simp[ou,TX,TY]
 rw[mX,s1,Option.bind_some]
 simp only
 rw[mX,s2,Option.bind_some]
 simp only
 rw[mX,s3,Option.bind_some]
 simp only
 rw[mX,s4,Option.bind_some]
 simp only
 rw[mX,s5,Option.bind_some]
 simp only
 rw[BO,s6,Option.bind_some]
 exact lp
end
mutual
noncomputable def IK:D→Bool
 | .str z=>decide (z.length≤20000)
 | .tup ds=>decide (ds.length≤20000) && vJ ds
 | .lst ds=>decide (ds.length≤20000) && vJ ds
 | .cH=>true
 | .bl _=>true
 | .int _=>true
noncomputable def vJ:List D→Bool
 | []=>true
 | d :: ds=>IK d && vJ ds
end
mutual
theorem C9:∀{d:D},IK d=true→iC 20000 d
 | .str z,h=>by
  have q:decide (z.length≤20000)=true:=h
  have p:z.length≤20000:=of_decide_eq_true q
  exact p
 | .tup ds,h=>by
  obtain⟨a,b⟩:=Bool.and_eq_true_iff.mp (show(decide (ds.length≤20000) && vJ ds)=true from h)
  exact⟨of_decide_eq_true a,vK b⟩
 | .lst ds,h=>by
  obtain⟨a,b⟩:=Bool.and_eq_true_iff.mp (show(decide (ds.length≤20000) && vJ ds)=true from h)
  exact⟨of_decide_eq_true a,vK b⟩
 | .cH,_=>True.intro
 | .bl _,_=>True.intro
 | .int _,_=>True.intro
theorem vK:∀{ds:List D},vJ ds=true→Fits 20000 ds
 | [],_=>True.intro
 | d :: ds,h=>by
  obtain⟨a,b⟩:=Bool.and_eq_true_iff.mp (show(IK d && vJ ds)=true from h)
  exact⟨C9 a,vK b⟩
end
theorem vL {d:D}(h:Sm d):Qv lE (oJ 10) d:=by
 have e:=IB 8 9 (by omega) d [] (0,0) h (by decide)
 rw[Gw] at e
 exact⟨zg d,_,Ay h,e⟩
noncomputable def pP:List D:=[IG (.tup [.str "yes"]),IG (.tup [.str "one",.str "a",.str "x",.tup [.str "yes"]]),.tup [.lst [.str "now"],.tup [.str "any"]],.tup [.lst [],.int 0],.lst [.tup [.str "yes"]],
 .tup [.str "now",.tup [.lst [.str "any"]]],.tup [.str "now",.lst [.str "any"]],.tup [.str "now",.tup [.lst [],.int 1]],.tup [.str "each",.lst [.str "a"],.str "x",.tup [.str "yes"]]]
noncomputable def AE:List D:=pP++[.tup [.str "each",.str "a",.lst [.str "x"],.tup [.str "yes"]],.tup [.str "within",.lst [.int 1],.tup [.str "yes"]],.tup [.str "not",.lst [.tup [.str "yes"]]]]
theorem GJ:∀d∈AE,Sm d:=by
 have h:(AE.all fun d=>IK d && decide (bW d≤38))=true:=by decide +kernel
 intro d hd
 obtain⟨a,b⟩:=Bool.and_eq_true_iff.mp (List.all_eq_true.mp h d hd)
 exact⟨C9 a,of_decide_eq_true b⟩
theorem B6 (us:List U):oB 0 us=none:=rfl
theorem Ek (us:List U):vB 0 us=none:=rfl
theorem B7 (us:List U):oJ 0 us=none:=rfl
noncomputable abbrev GZ (g:FM→FM→FM→FM→FM→FM→FM→FM→FM→FM→GS):GS:=g pI lE (oJ 10) vn vH sf fO (gD 7) lG qV
theorem El {ns:List Int}{k:Int}(h:0≤k) (h1:k < 1000000) (h2:ns.length < 1000000):vn [.s ns,.t (.int k)]=some (.m (tp (xY ns k)),[]):=by simp[vn,h,h1,h2]
theorem GK {t:fW}(h:0≤t.n) (h1:t.n < 900000):qV [.b (tp t)]=some (.t (qU t),[tp (aH t 17)]):=by simp[qV,tp,h,h1]
theorem Oh {ns:List Int}{k:Int}{x1 x2 x3 x5 x6 x7:Option U}(k0:0≤k) (k1:k < 1000) (hns:ns.length < 1000) (h1:lC x1=false) (h2:lC x2=false) (h3:lC x3=false) (h5:lC x5=false) (h6:lC x6=false) (h7:lC x7=false):
  ∃y1 y2 y3 y5 y6 y7,lC y1=false∧lC y2=false∧lC y3=false∧lC y5=false∧lC y6=false∧lC y7=false∧GZ sH [some (.s ns),x1,x2,x3,some (.t (.int k)),x5,x6,x7]=some (.nx [some (.s ns),y1,y2,y3,some (.t (.int k)),y5,y6,y7]):=by
 have e4:=El (ns:=ns) (k:=k) k0 (by omega) (by omega)
 have t0n:(xY ns k).n=0:=rfl
 generalize xY ns k=t0 at *
 have p1:=fK (t:=t0) (m:=16) (by omega) (by omega) (by omega) (by omega)
 obtain⟨a0,a1⟩:=bG (t:=t0) (m:=16) (by omega)
 have Qt:(aH t0 16).n=t0.n+1:=dX t0 16
 generalize aT t0 16=a at *
 generalize aH t0 16=t1 at *
 have p2:=fK (t:=t1) (m:=8) (by omega) (by omega) (by omega) (by omega)
 obtain⟨b0,b1⟩:=bG (t:=t1) (m:=8) (by omega)
 have Ln:(aH t1 8).n=t1.n+1:=dX t1 8
 generalize aT t1 8=b at *
 generalize aH t1 8=t2 at *
 obtain⟨ra,hra⟩:∃r:Nat,(r:Int)=1+a:=⟨(1+a).toNat,by omega⟩
 obtain⟨rb,hrb⟩:∃r:Nat,(r:Int)=1+b:=⟨(1+b).toNat,by omega⟩
 obtain⟨d,t3,e5,sy,ft,dp,g4,g5⟩:=Ei (t:=t2) (room:=ra) (deep:=rb) (by omega) (by omega) (by omega) (by omega) (by omega) (by omega)
 rw[hra,hrb] at e5
 have Mf:∀{x:D}{n m:Nat},iC n x→n≤20000→bW x≤m→m≤38→Sm x:=fun f h d k=>⟨f.mono h,Nat.le_trans d k⟩
 obtain⟨dl,rfl⟩:∃dl,d= .tup dl:=by
  have:cM 8 [] d=true:=by
   unfold zg at sy
   exact(Bool.and_eq_true_iff.mp sy).1
  obtain⟨z,r,e,_⟩:=jo this
  exact⟨_,e⟩
 have TZ:iC 20 (.tup dl):=ft.mono (by omega)
 have e8:=yr (j:=7) (t:=t3) (d:=.tup dl) (k:=6) (by omega) (by omega) (ft.mono (by omega)) (by omega) (by omega)
 obtain⟨s1,s2⟩:=zm (n:=20) (by omega) 6 t3 (.tup dl) 9 TZ dp
 have n4:=BQ 6 t3 (.tup dl)
 have e8:gD 7 [.b (tp t3),.t (.tup dl),.t (.int 6)]=some (.t (eU 6 t3 (.tup dl)).1,[tp (eU 6 t3 (.tup dl)).2]):=e8
 generalize eU 6 t3 (.tup dl)=B1 at *
 have Og:=yr (j:=7) (t:=B1.2) (d:=B1.1) (k:=6) (by omega) (by omega) (s1.mono (by omega)) (by omega) (by omega)
 obtain⟨s3,s4⟩:=zm (n:=2 * 20+2) (by omega) 6 B1.2 B1.1 11 s1 s2
 have n5:=BQ 6 B1.2 B1.1
 have Og:gD 7 [.b (tp B1.2),.t B1.1,.t (.int 6)]=some (.t (eU 6 B1.2 B1.1).1,[tp (eU 6 B1.2 B1.1).2]):=Og
 generalize eU 6 B1.2 B1.1=B2 at *
 obtain⟨d3,t6,e9,u1,u2,u3,u4⟩:=vI (t:=B2.2) (s:=.tup dl) (n:=8) (k:=9) (by omega) (by omega) (by omega) ft dp
 have TV:=GK (t:=t6) (by omega) (by omega)
 have o1:=GG (n:=20) (k:=1) (by omega) (by omega) t6
 have t7n:(aH t6 17).n=t6.n+1:=dX t6 17
 generalize qU t6=d4 at *
 generalize aH t6 17=t7 at *
 obtain⟨d5,t8,TX,v1,v2,v3,v4⟩:=vI (t:=t7) (s:=.tup dl) (n:=8) (k:=9) (by omega) (by omega) (by omega) ft dp
 obtain⟨d6,t9,TY,z1,z2,z3,z4⟩:=vI (t:=t8) (s:=d5) (n:=8) (k:=18) (by omega) (by omega) (by omega) v1 v2
 refine IJ h1 h2 h3 h5 h6 h7 e4 (show sf []=some (.m (.lst Bj),[]) from rfl) p1 p2 e5 ?_ e8 Og e9 TV TX TY ?_
 ·rw[Ay (Mf ft (by omega) dp (by omega)),sy]
 ·intro x hx
  simp only[List.mem_cons,List.not_mem_nil,or_false] at hx
  rcases hx with rfl | rfl | rfl | rfl | rfl | rfl
  ·exact vL (Mf s1 (by omega) s2 (by omega))
  ·exact vL (Mf s3 (by omega) s4 (by omega))
  ·exact vL (Mf u1 (by omega) u2 (by omega))
  ·exact vL ⟨(ft.mono (show 8≤20000 by omega)),Nat.le_trans (show bW (.lst dl)≤9 from dp) (by omega)⟩
  ·exact vL (Mf o1.1 (by omega) o1.2 (by omega))
  ·exact vL (Mf z1 (by omega) z2 (by omega))
theorem Jt (ns:List Int):(vg ns none (some 14)).length≤14:=by
 unfold vg
 rw[List.length_take]
 have:HT.gH ns.length ns.length (some 14)≤14:=by
  have:=HT.CI ns.length ns.length 14
  have e:HT.gH ns.length ns.length (some ((14:Nat):Int))=HT.gH ns.length ns.length (some 14):=rfl
  rw[←e,this]
  exact Nat.min_le_left _ _
 have:HT.gH ns.length 0 none=0:=rfl
 omega
theorem Em : ∀ us r, BR 63 us = some r → aJ 8 (GZ AD) us = some r := by
  intro us r h
  unfold BR at h
  split at h
  · rename_i ns
    obtain⟨hl,rfl⟩:=cJ h
    have b1:=yq (.tup [.str "yes"])
    have b2:=yq (.tup [.str "one",.str "a",.str "x",.tup [.str "yes"]])
    show((GZ AD) [some (.s ns),none,none,none,none,none,none,none]).bind _=_
    simp only[GZ]
    rw[lw_eq]
    have s0:GZ TR [some (.s ns),none,none,none,none,none,none,none]=some (.nx [some (.s ns),some (.m (.lst (pP.take 5))),none,none,none,none,none,none]):=by simp[TR,b1,b2,pP]
    have s1:GZ TU [some (.s ns),some (.m (.lst (pP.take 5))),none,none,none,none,none,none]=some (.nx [some (.s ns),some (.m (.lst pP)),none,none,none,none,none,none]):=by simp[TU,pP]
    obtain⟨y2,y3,q2,q3,lp⟩:=zo (f1:=pI) (f2:=lE) (f3:=oJ 10) (f4:=vn) (f5:=vH) (f6:=sf) (f7:=fO) (f8:=gD 7) (f9:=lG) (Bk:=qV) (a0:=some (.s ns)) (a1:=some (.t (.lst pP))) (a4:=none) (a5:=none) (a6:=none) (a7:=none) AE none none rfl rfl fun d hd=>vL (GJ d hd)
    have s2:GZ Yd [some (.s ns),some (.m (.lst pP)),none,none,none,none,none,none]=some (.nx [some (.s ns),some (.t (.lst pP)),y2,y3,none,none,none,none]):=by
      have i1:qF (eF (eP dm (aa (eF (az 1)) (aa (eF (eP cG (aa (eF (eP br (aa (eC (.str "each")) (aa (eC (.str "a")) (aa (eF (eP cG (aa (eC (.str "x")) ao))) (aa (eF (eP br (aa (eC (.str "yes")) ao))) ao)))))) (aa (eF (eP br (aa (eC (.str "within")) (aa (eF (eP cG (aa (eC (.int 1)) ao))) (aa (eF (eP br (aa (eC (.str "yes")) ao))) ao))))) (aa (eF (eP br (aa (eC (.str "not")) (aa (eF (eP cG (aa (eF (eP br (aa (eC (.str "yes")) ao))) ao))) ao)))) ao))))) ao)))) [some (.s ns),some (.m (.lst pP)),none,none,none,none,none,none]=some (AE,[some (.s ns),some (.t (.lst pP)),none,none,none,none,none,none]):=by simp[ou,AE,pP]
      show uW _ _ _ _=_
      rw[BO,i1,Option.bind_some]
      exact lp
    obtain⟨S',e3,y1,x2,x3,x4,x5,x6,x7,r1,r2,r3,r4,r5,r6,r7,hS⟩:=vt (bd:=bName 4) (body:=GZ sH) (xy 0 (1+(vg ns none (some 14)).length))
      (fun j S=>∃x1 x2 x3 x4 x5 x6 x7:Option U,lC x1=false∧lC x2=false∧lC x3=false∧lC x4=false∧lC x5=false∧lC x6=false∧lC x7=false∧S=[some (.s ns),x1,x2,x3,x4,x5,x6,x7])
      [some (.s ns),some (.t (.lst pP)),y2,y3,none,none,none,none] ⟨_,_,_,_,_,_,_,rfl,q2,q3,rfl,rfl,rfl,rfl,rfl⟩ (by
        rintro j d S hd ⟨x1,x2,x3,x4,x5,x6,x7,r1,r2,r3,r4,r5,r6,r7,rfl⟩
        obtain⟨hj,rfl⟩:=Il hd
        have:=Jt ns
        obtain⟨z1,z2,z3,z5,z6,z7,g1,g2,g3,g5,g6,g7,e⟩:=Oh (ns:=ns) (k:=j) (by omega) (by omega) (by omega) r1 r2 r3 r5 r6 r7
        exact⟨_,_,by simp[-mY,kg,r4],e,z1,z2,z3,_,z5,z6,z7,g1,g2,g3,rfl,g5,g6,g7,rfl⟩)
    have s3:GZ Ye [some (.s ns),some (.t (.lst pP)),y2,y3,none,none,none,none]=some (.nx S'):=by
      have c:=Jt ns
      have g1:qG (aa (eF (eP dm (aa (eC (.int 1)) (aa (eF (eP uV (aa (eF (DI 0 none (some (eC (.int 14))))) ao))) ao)))) ao) [some (.s ns),some (.t (.lst pP)),y2,y3,none,none,none,none]=some (xy 0 (1+(vg ns none (some 14)).length),[some (.s ns),some (.t (.lst pP)),y2,y3,none,none,none,none]):=by
        have:(1+((vg ns none (some 14)).length:Int)).toNat=1+(vg ns none (some 14)).length:=by omega
        rw[←this]
        refine Sq.x9 ?_ (by omega) (by omega)
        simp[DI]
      show uW _ _ _ _=_
      rw[BO,g1,Option.bind_some]
      exact e3
    simp only[GZ] at s0 s1 s2 s3
    rw[mX,s0,Option.bind_some]
    simp only
    rw[mX,s1,Option.bind_some]
    simp only
    rw[mX,s2,Option.bind_some]
    simp only
    rw[mX,s3,Option.bind_some]
    simp only
    subst hS
    simp[Yg,aC]
  · cases h
end Ss
end
section
set_option Elab.async false
set_option linter.all false
set_option maxRecDepth 100000
namespace K05
open PySem PySem.Spec PyProof.Rows L2
def top (i:Nat):Stmt:=PySem.Challenge.pw_surewatch_k05_sayings.main.body.getD i (.Pass ⟨0,0,0,0⟩)
open L2 Sw Ss
noncomputable abbrev jq:Stmt:=top 3
theorem AF:cy ["thing","least","most"] ["thing","least","most"] (aE jq):=⟨rfl,rfl,rfl,by decide +kernel,rfl,by decide +kernel,by decide +kernel⟩
theorem AG {P:Program}{w:World}{K:PySem.W.Frag}{mg:Str→Option Value}{base:Heap}{f:Addr}{fd:FuncData}{n:Nat}{fm:FM}(F:nN K "is_whole" "is_whole" jq f fd) (aM:mg "isinstance" =none) (En:mg "int" =none) (pS:mg "bool" =none)
  (hf:∀us r,fm us=some r→aJ 3 (mZ) us=some r):bK P w K mg base eG (n+1) f fd ["thing","least","most"] (spT K 3 fm):=
 qJ (g:=mZ) F AF (fun cdv A outer s H E hr=>(aF (cR (JW.t (iY (gg (eL (cV rfl aM rfl En PyProof.Rows.Boot.int (JE.d (aj 0))))) (ez (eL (cV rfl aM rfl pS PyProof.Rows.Boot.bool (JE.d (aj 0))))))) (aO (aW (JD.e ig))) cg)
  (aO (aW (JD.e (mT (JE.d (iX lB (JE.d (aj 1)) (JE.d (aj 0)))) (mS (JE.d (iX lB (JE.d (aj 0)) (JE.d (aj 2))))))))))) hf
noncomputable abbrev jr:Stmt:=top 4
theorem AH:cy ["thing","least","most"] ["thing","least","most"] (aE jr):=⟨rfl,rfl,rfl,by decide +kernel,rfl,by decide +kernel,by decide +kernel⟩
theorem AI {P:Program}{w:World}{K:PySem.W.Frag}{mg:Str→Option Value}{base:Heap}{f:Addr}{fd:FuncData}{n:Nat}{fm:FM}(F:nN K "is_tuple" "is_tuple" jr f fd) (aM:mg "isinstance" =none) (ju:mg "tuple" =none) (dO:mg "len" =none)
  (hf:∀us r,fm us=some r→aJ 3 (m5) us=some r):bK P w K mg base eG (n+1) f fd ["thing","least","most"] (spT K 3 fm):=
 qJ (g:=m5) F AH (fun cdv A outer s H E hr=>(aO (aW (JD.e (mT (cV rfl aM rfl ju PyProof.Rows.Boot.tuple (JE.d (aj 0))) (mT (JE.d (iX lB (JE.d (aj 1)) (fG (i:=0) rfl dO))) (mS (JE.d (iX lB (fG (i:=0) rfl dO) (JE.d (aj 2))))))))))) hf
noncomputable abbrev kq:Stmt:=top 5
theorem B8:cy ["thing"] ["thing"] (aE kq):=⟨rfl,rfl,rfl,by decide +kernel,rfl,by decide +kernel,by decide +kernel⟩
theorem B9 {P:Program}{w:World}{K:PySem.W.Frag}{mg:Str→Option Value}{base:Heap}{f:Addr}{fd:FuncData}{n:Nat}{fm:FM}(F:nN K "is_name" "is_name" kq f fd) (aM:mg "isinstance" =none) (nj:mg "str" =none) (dO:mg "len" =none) (Eo:mg "all" =none){lH:Tok}(lI:mg "LONGEST_NAME" =some (.int 8 lH)){vM:Tok}(vN:mg "LETTERS" =some (.str "abcdefghijklmnopqrstuvwxyz" vM))
  (hf:∀us r,fm us=some r→aJ 1 (jl) us=some r):bK P w K mg base eG (n+1) f fd ["thing"] (spT K 1 fm):=
 qJ (g:=jl) F B8 (fun cdv A outer s H E hr=>(aF (cR (JW.t (iY (gg (eL (cV rfl aM rfl nj PyProof.Rows.Boot.str (JE.d (aj 0))))) (iY (bQ lA (fG (i:=0) rfl dO) ak) (ez (bQ ku (fG (i:=0) rfl dO) (pG rfl lI)))))) (aO (aW (JD.e ig))) cg)
  (aO (aW (lW (xQ rfl) rfl Eo PyProof.Rows.Boot.all (ah (JE.d (qK (p5 (by decide) (by decide) rfl (by decide) rfl) rfl (nP (JE.d (aj 0))) (fun _ _ _ _=>CY) (fun _ _ _ _=>(JE.d (iX (u6 hr.units) (JE.d (aj 0)) (HY rfl vN) (by with_unfolding_all rfl)))))) aA)))))) hf
noncomputable abbrev ff:Stmt:=top 8
theorem sI:cy ["thing","bound"] ["thing","bound"] (aE ff):=⟨rfl,rfl,rfl,by decide +kernel,rfl,by decide +kernel,by decide +kernel⟩
theorem sJ {P:Program}{w:World}{K:PySem.W.Frag}{mg:Str→Option Value}{base:Heap}{f:Addr}{fd:FuncData}{n:Nat}{fm:FM}(F:nN K "is_test_among" "is_test_among" ff f fd) (dO:mg "len" =none){jv:Tok}(jw:mg "GREATEST_NUMBER" =some (.int 9 jv))
  {jx:Addr}{mG:FuncData}{fQ:FM}(sL:bK P w K mg base eG n jx mG ["thing","least","most"] (spT K 3 fQ)) (sM:Binds K mG ["thing","least","most"] []) (sN:PySem.W.keepIn K (.ref jx)=true) (sO:mg "is_tuple" =some (.ref jx))
  {kL:Addr}{oM:FuncData}{gz:FM}(qZ:bK P w K mg base eG n kL oM ["thing"] (spT K 1 gz)) (q8:Binds K oM ["thing"] []) (q9:PySem.W.keepIn K (.ref kL)=true) (rq:mg "is_name" =some (.ref kL))
  {jy:Addr}{mH:FuncData}{fR:FM}(sP:bK P w K mg base eG n jy mH ["thing","least","most"] (spT K 3 fR)) (sQ:Binds K mH ["thing","least","most"] []) (sR:PySem.W.keepIn K (.ref jy)=true) (sS:mg "is_whole" =some (.ref jy))
  (hf:∀us r,fm us=some r→aJ 2 (cA fQ gz fR) us=some r):bK P w K mg base eG (n+1) f fd ["thing","bound"] (spT K 2 fm):=
 qJ (g:=cA fQ gz fR) F sI (fun cdv A outer s H E hr=>(aF (cR (gg (eL (JE.d (aK sL hr rfl sO sN sM (aD (JE.d (aj 0)) (aD ak (aD ak aR))))))) (aO (aW (JD.e ig))) cg)
  (aF (cR (bQ (eO hr.units) (fG (i:=0) rfl dO) ak) (aO (aW (iX (eO hr.units) (bD (i:=0) (cj hr) ak (fun _ _=>rfl)) aB))) cg)
  (aF (cR (bQ (eO hr.units) (bD (i:=0) (cj hr) ak (fun _ _=>rfl)) aB) (aO (aW (aK qZ hr rfl rq q9 q8 (aD (bD (i:=0) (cj hr) ak (fun _ _=>rfl)) aR)))) cg)
  (aO (aW (JD.e (mT (JE.d (iX (u6 hr.units) (bD (i:=0) (cj hr) ak (fun _ _=>rfl)) (JE.d (aN (ah aB (ah aB (ah aB aA))))) (by with_unfolding_all rfl))) (mS (Ja (JE.d (aK sP hr rfl sS sR sQ (aD (bD (i:=0) (cj hr) ak (fun _ _=>rfl)) (aD ak (aD (pG rfl jw) aR))))) (mS (JE.d (iX (u6 hr.units) (bD (i:=0) (cj hr) ak (fun _ _=>rfl)) (JE.d (aj 1)) (by with_unfolding_all rfl)))))))))))))) hf
noncomputable abbrev jz:Stmt:=top 17
theorem AJ:cy ["saying"] ["saying"] (aE jz):=⟨rfl,rfl,rfl,by decide +kernel,rfl,by decide +kernel,by decide +kernel⟩
theorem AK {P:Program}{w:World}{K:PySem.W.Frag}{mg:Str→Option Value}{base:Heap}{f:Addr}{fd:FuncData}{n:Nat}{fm:FM}(F:nN K "parts_of" "parts_of" jz f fd){pJ:Addr}(zp:mg "STARTS" =some (.ref pJ)) (zq:KTab P w K pJ [("yes",1),("no",1),("now",2),("not",1),("both",1),("either",1),("next",1),("till",1),("within",2),("always",1),("some",1),("each",3),("one",3)])
  (hf:∀us r,fm us=some r→aJ 1 (kF) us=some r):bK P w K mg base eG (n+1) f fd ["saying"] (spT K 1 fm):=
 qJ (g:=kF) F AJ (fun cdv A outer s H E hr=>(aO (aW (jN (JE.d (aj 0)) (j8 (K1 rfl zp zq (bD (i:=0) (cj hr) ak (fun _ _=>rfl)))) j7)))) hf
noncomputable abbrev fT:Stmt:=top 18
theorem uy:cy ["saying","bound"] ["saying","bound"] (aE fT):=⟨rfl,rfl,rfl,by decide +kernel,rfl,by decide +kernel,by decide +kernel⟩
theorem uz {P:Program}{w:World}{K:PySem.W.Frag}{mg:Str→Option Value}{base:Heap}{f:Addr}{fd:FuncData}{n:Nat}{fm:FM}(F:nN K "bound_within" "bound_within" fT f fd){gP:Addr}(i7:mg "BINDERS" =some (.ref gP)) (i8:BK K gP ["each","one"])
  (hf:∀us r,fm us=some r→aJ 2 (fS) us=some r):bK P w K mg base eG (n+1) f fd ["saying","bound"] (spT K 2 fm):=
 qJ (g:=fS) F uy (fun cdv A outer s H E hr=>(aF (cR (BN hr.units rfl i7 i8 (bD (i:=0) (cj hr) ak (fun _ _=>rfl))) (aO (aW (bM cz (JE.d (aj 1)) (JE.d (aN (ah (bD (i:=0) (cj hr) ak (fun _ _=>rfl)) aA)))))) cg)
  (aO (aW (aj 1))))) hf
noncomputable abbrev iR:Stmt:=top 19
theorem rA:cy ["thing","bound","head"] ["thing","bound"] (aE iR):=⟨rfl,rfl,rfl,by decide +kernel,rfl,by decide +kernel,by decide +kernel⟩
theorem zu {P:Program}{w:World}{K:PySem.W.Frag}{mg:Str→Option Value}{base:Heap}{f:Addr}{fd:FuncData}{n:Nat}{fm:FM}(F:nN K "is_shaped" "is_shaped" iR f fd) (aM:mg "isinstance" =none) (nj:mg "str" =none) (dO:mg "len" =none){mJ:Addr}(vO:mg "LENGTHS" =some (.ref mJ)) (vP:KTab P w K mJ [("yes",1),("no",1),("now",2),("not",2),("both",3),("either",3),("next",2),("till",3),("within",3),("always",2),("some",2),("each",4),("one",4)]){jA:Tok}(jB:mg "GREATEST_WITHIN" =some (.int 5 jA)){gP:Addr}(i7:mg "BINDERS" =some (.ref gP)) (i8:BK K gP ["each","one"])
  {jx:Addr}{mG:FuncData}{fQ:FM}(sL:bK P w K mg base eG n jx mG ["thing","least","most"] (spT K 3 fQ)) (sM:Binds K mG ["thing","least","most"] []) (sN:PySem.W.keepIn K (.ref jx)=true) (sO:mg "is_tuple" =some (.ref jx))
  {kM:Addr}{oN:FuncData}{gO:FM}(vQ:bK P w K mg base eG n kM oN ["thing","bound"] (spT K 2 gO)) (vR:Binds K oN ["thing","bound"] []) (vU:PySem.W.keepIn K (.ref kM)=true) (vV:mg "is_test_among" =some (.ref kM))
  {jy:Addr}{mH:FuncData}{fR:FM}(sP:bK P w K mg base eG n jy mH ["thing","least","most"] (spT K 3 fR)) (sQ:Binds K mH ["thing","least","most"] []) (sR:PySem.W.keepIn K (.ref jy)=true) (sS:mg "is_whole" =some (.ref jy))
  {kL:Addr}{oM:FuncData}{gz:FM}(qZ:bK P w K mg base eG n kL oM ["thing"] (spT K 1 gz)) (q8:Binds K oM ["thing"] []) (q9:PySem.W.keepIn K (.ref kL)=true) (rq:mg "is_name" =some (.ref kL))
  (hf:∀us r,fm us=some r→aJ 3 (cI fQ gO fR gz) us=some r):bK P w K mg base eG (n+1) f fd ["thing","bound"] (spT K 2 fm):=
 qJ (g:=cI fQ gO fR gz) F rA (fun cdv A outer s H E hr=>(aF (cR (JW.t (iY (gg (eL (JE.d (aK sL hr rfl sO sN sM (aD (JE.d (aj 0)) (aD ak (aD ak aR))))))) (ez (gg (eL (cV rfl aM rfl nj PyProof.Rows.Boot.str (bD (i:=0) (cj hr) ak (fun _ _=>rfl)))))))) (aO (aW (JD.e ig))) cg)
  (aF (cC (i:=2) rA.nd rfl (by first | exact Or.inl rfl | exact Or.inr rfl) (JD.e (bD (i:=0) (cj hr) ak (fun _ _=>rfl))))
  (aF (cR (bQ (rZ hr.units) (DP rfl vO vP (JE.d (aj 2)) ak) (fG (i:=0) rfl dO)) (aO (aW (JD.e ig))) cg)
  (aF (cR (bQ (eO hr.units) (JE.d (aj 2)) aB) (aO (aW (aK vQ hr rfl vV vU vR (aD (bD (i:=0) (cj hr) ak (fun _ _=>rfl)) (aD (JE.d (aj 1)) aR))))) cg)
  (aF (cR (bQ (eO hr.units) (JE.d (aj 2)) aB) (aO (aW (aK sP hr rfl sS sR sQ (aD (bD (i:=0) (cj hr) ak (fun _ _=>rfl)) (aD ak (aD (pG rfl jB) aR)))))) cg)
  (aF (cR (BN hr.units rfl i7 i8 (JE.d (aj 2))) (aO (aW (JD.e (mT (JE.d (aK qZ hr rfl rq q9 q8 (aD (bD (i:=0) (cj hr) ak (fun _ _=>rfl)) aR))) (mS (JE.d (aK qZ hr rfl rq q9 q8 (aD (bD (i:=0) (cj hr) ak (fun _ _=>rfl)) aR)))))))) cg)
  (aO (aW (JD.e ig)))))))))) hf
noncomputable abbrev fB:Stmt:=top 20
theorem rB:cy ["thing","bound","room","inner"] ["thing","bound","room"] (aE fB):=⟨rfl,rfl,rfl,by decide +kernel,rfl,by decide +kernel,by decide +kernel⟩
theorem zw {P:Program}{w:World}{K:PySem.W.Frag}{mg:Str→Option Value}{base:Heap}{f:Addr}{fd:FuncData}{n:Nat}{fm:FM}(F:nN K "is_formed" "is_formed" fB f fd) (Eo:mg "all" =none)
  {p9:Addr}{vW:FuncData}{kG:FM}(Ca:bK P w K mg base eG n p9 vW ["thing","bound"] (spT K 2 kG)) (Cb:Binds K vW ["thing","bound"] []) (Cc:PySem.W.keepIn K (.ref p9)=true) (Cd:mg "is_shaped" =some (.ref p9))
  {lJ:Addr}{pT:FuncData}{iy:FM}(wO:bK P w K mg base eG n lJ pT ["saying","bound"] (spT K 2 iy)) (wQ:Binds K pT ["saying","bound"] []) (wR:PySem.W.keepIn K (.ref lJ)=true) (wU:mg "bound_within" =some (.ref lJ))
  {jC:Addr}{mK:FuncData}{eB:FM}(sU:bK P w K mg base eG n jC mK ["saying"] (spT K 1 eB)) (sV:Binds K mK ["saying"] []) (sW:PySem.W.keepIn K (.ref jC)=true) (sX:mg "parts_of" =some (.ref jC))
  {iL:Addr}{kN:FuncData}{eY:FM}(qc:bK P w K mg base eG n iL kN ["thing","bound","room"] (spT K 3 eY)) (qd:Binds K kN ["thing","bound","room"] []) (qg:PySem.W.keepIn K (.ref iL)=true) (qh:mg "is_formed" =some (.ref iL))
  (hf:∀us r,fm us=some r→aJ 4 (fu kG iy eB eY) us=some r):bK P w K mg base eG (n+1) f fd ["thing","bound","room"] (spT K 3 fm):=
 qJ (g:=fu kG iy eB eY) F rB (fun cdv A outer s H E hr=>(aF (cR (JW.t (iY (bQ (eO hr.units) (JE.d (aj 2)) ak) (ez (gg (eL (JE.d (aK Ca hr rfl Cd Cc Cb (aD (JE.d (aj 0)) (aD (JE.d (aj 1)) aR))))))))) (aO (aW (JD.e ig))) cg)
  (aF (cC (i:=3) rB.nd rfl (by first | exact Or.inl rfl | exact Or.inr rfl) (aK wO hr rfl wU wR wQ (aD (JE.d (aj 0)) (aD (JE.d (aj 1)) aR))))
  (aO (aW (lW (xQ rfl) rfl Eo PyProof.Rows.Boot.all (ah (JE.d (qK (vh (fL:=["inner","room"]) (cap:=[3,2]) rfl (by decide) rfl (by decide) rfl rfl (by decide) (by first | exact Or.inl rfl | exact Or.inr rfl) (by decide) rfl rfl rfl) rfl (nP (JE.d (aK sU hr rfl sX sW sV (aD (JE.d (aj 0)) aR)))) (fun _ _ _ _=>CY) (fun _ _ _ _=>(JE.d (aK qc hr rfl qh qg qd (aD (JE.d (aj 0)) (aD (JE.d (aj 1)) (aD (JE.d (bM gj (JE.d (aj 2)) ak)) aR)))))))) aA))))))) hf
noncomputable abbrev i9:Stmt:=top 21
theorem sY:cy ["saying","found","part"] ["saying"] (aE i9):=⟨rfl,rfl,rfl,by decide +kernel,rfl,by decide +kernel,by decide +kernel⟩
theorem Ep {P:Program}{w:World}{K:PySem.W.Frag}{mg:Str→Option Value}{base:Heap}{f:Addr}{fd:FuncData}{n:Nat}{fm:FM}(F:nN K "all_in" "all_in" i9 f fd)
  {jC:Addr}{mK:FuncData}{eB:FM}(sU:bK P w K mg base eG n jC mK ["saying"] (spT K 1 eB)) (sV:Binds K mK ["saying"] []) (sW:PySem.W.keepIn K (.ref jC)=true) (sX:mg "parts_of" =some (.ref jC))
  {jc:Addr}{kY:FuncData}{dY:FM}(rC:bK P w K mg base eG n jc kY ["saying"] (spT K 1 dY)) (rD:Binds K kY ["saying"] []) (rE:PySem.W.keepIn K (.ref jc)=true) (rF:mg "all_in" =some (.ref jc))
  (hf:∀us r,fm us=some r→aJ 3 (oE eB dY) us=some r):bK P w K mg base eG (n+1) f fd ["saying"] (spT K 1 fm):=
 qJ (g:=oE eB dY) F sY (fun cdv A outer s H E hr=>(aF (cC (i:=1) sY.nd rfl (by first | exact Or.inl rfl | exact Or.inr rfl) (bE (ah (JE.d (aj 0)) aA)))
  (aF (uX PassesOwn.never rfl (nP (JE.d (aK sU hr rfl sX sW sV (aD (JE.d (aj 0)) aR)))) (mU (i:=2) sY.nd rfl (by first | exact Or.inl rfl | exact Or.inr rfl)) (aO (yT (JD.e (HR (i:=1) PySem.F.slot_list_extend PySem.F.type_list_extend BJ DM DN (ah (JE.d (aK rC hr rfl rF rE rD (aD (JE.d (aj 2)) aR))) aA))))))
  (aO (aW (aj 1)))))) hf
noncomputable abbrev gZ:Stmt:=top 22
theorem wV:cy ["saying"] ["saying"] (aE gZ):=⟨rfl,rfl,rfl,by decide +kernel,rfl,by decide +kernel,by decide +kernel⟩
theorem wW {P:Program}{w:World}{K:PySem.W.Frag}{mg:Str→Option Value}{base:Heap}{f:Addr}{fd:FuncData}{n:Nat}{fm:FM}(F:nN K "binders_in" "binders_in" gZ f fd) (dO:mg "len" =none){gP:Addr}(i7:mg "BINDERS" =some (.ref gP)) (i8:BK K gP ["each","one"])
  {jc:Addr}{kY:FuncData}{dY:FM}(rC:bK P w K mg base eG n jc kY ["saying"] (spT K 1 dY)) (rD:Binds K kY ["saying"] []) (rE:PySem.W.keepIn K (.ref jc)=true) (rF:mg "all_in" =some (.ref jc))
  (hf:∀us r,fm us=some r→aJ 1 (iZ dY) us=some r):bK P w K mg base eG (n+1) f fd ["saying"] (spT K 1 fm):=
 qJ (g:=iZ dY) F wV (fun cdv A outer s H E hr=>(aO (aW (lW rX rfl dO PySem.boot_len (ah (JE.d (qK (p5 (by decide) (by decide) rfl (by decide) rfl) rfl (nP (JE.d (aK rC hr rfl rF rE rD (aD (JE.d (aj 0)) aR)))) (fun _ _ _ _=>(yZ (BN hr.units rfl i7 i8 (bD (i:=0) (cj hr) ak (fun _ _=>rfl))))) (fun _ _ _ _=>(JE.d (aj 0))))) aA))))) hf
noncomputable abbrev iS:Stmt:=top 23
theorem zx:cy ["thing"] ["thing"] (aE iS):=⟨rfl,rfl,rfl,by decide +kernel,rfl,by decide +kernel,by decide +kernel⟩
theorem zy {P:Program}{w:World}{K:PySem.W.Frag}{mg:Str→Option Value}{base:Heap}{f:Addr}{fd:FuncData}{n:Nat}{fm:FM}(F:nN K "is_saying" "is_saying" iS f fd){nk:Tok}(nq:mg "MOST_WITHIN" =some (.int 8 nk)){lK:Tok}(lM:mg "MOST_SAYINGS" =some (.int 16 lK)){lN:Tok}(lO:mg "MOST_BINDERS" =some (.int 3 lN))
  {iL:Addr}{kN:FuncData}{eY:FM}(qc:bK P w K mg base eG n iL kN ["thing","bound","room"] (spT K 3 eY)) (qd:Binds K kN ["thing","bound","room"] []) (qg:PySem.W.keepIn K (.ref iL)=true) (qh:mg "is_formed" =some (.ref iL))
  {GL:Addr}{Ju:FuncData}{Ax:FM}(Oi:bK P w K mg base eG n GL Ju ["saying"] (spT K 1 Ax)) (bsize:Binds K Ju ["saying"] []) (Oj:PySem.W.keepIn K (.ref GL)=true) (Ol:mg "size" =some (.ref GL))
  {oO:Addr}{ue:FuncData}{jR:FM}(AL:bK P w K mg base eG n oO ue ["saying"] (spT K 1 jR)) (AM:Binds K ue ["saying"] []) (AN:PySem.W.keepIn K (.ref oO)=true) (AO:mg "binders_in" =some (.ref oO))
  (hf:∀us r,fm us=some r→aJ 1 (fZ eY Ax jR) us=some r):bK P w K mg base eG (n+1) f fd ["thing"] (spT K 1 fm):=
 qJ (g:=fZ eY Ax jR) F zx (fun cdv A outer s H E hr=>(aF (cR (gg (eL (JE.d (aK qc hr rfl qh qg qd (aD (JE.d (aj 0)) (aD (JE.d (aN aA)) (aD (pG rfl nq) aR))))))) (aO (aW (JD.e ig))) cg)
  (aO (aW (JD.e (mT (JE.d (iX lB (JE.d (aK Oi hr rfl Ol Oj bsize (aD (JE.d (aj 0)) aR))) (pG rfl lM))) (mS (JE.d (iX lB (JE.d (aK AL hr rfl AO AN AM (aD (JE.d (aj 0)) aR))) (pG rfl lO)))))))))) hf
noncomputable abbrev sZ:Stmt:=top 24
theorem IL:cy ["saying"] ["saying"] (aE sZ):=⟨rfl,rfl,rfl,by decide +kernel,rfl,by decide +kernel,by decide +kernel⟩
theorem IM {P:Program}{w:World}{K:PySem.W.Frag}{mg:Str→Option Value}{base:Heap}{f:Addr}{fd:FuncData}{n:Nat}{fm:FM}(F:nN K "size" "size" sZ f fd) (dO:mg "len" =none)
  {jc:Addr}{kY:FuncData}{dY:FM}(rC:bK P w K mg base eG n jc kY ["saying"] (spT K 1 dY)) (rD:Binds K kY ["saying"] []) (rE:PySem.W.keepIn K (.ref jc)=true) (rF:mg "all_in" =some (.ref jc))
  (hf:∀us r,fm us=some r→aJ 1 (vE dY) us=some r):bK P w K mg base eG (n+1) f fd ["saying"] (spT K 1 fm):=
 qJ (g:=vE dY) F IL (fun cdv A outer s H E hr=>(aO (aW (lW rX rfl dO PySem.boot_len (ah (JE.d (aK rC hr rfl rF rE rD (aD (JE.d (aj 0)) aR))) aA))))) hf
noncomputable abbrev iT:Stmt:=top 26
theorem nu:cy ["_law_script","_law_at","_law_cell"] ["_law_script","_law_at"] (aE iT):=⟨rfl,rfl,rfl,by decide +kernel,rfl,by decide +kernel,by decide +kernel⟩
theorem zz {P:Program}{w:World}{K:PySem.W.Frag}{mg:Str→Option Value}{base:Heap}{f:Addr}{fd:FuncData}{n:Nat}{fm:FM}(F:nN K "_law_tape" "_law_tape" iT f fd) (dO:mg "len" =none) (Lw:mg "max" =none)
  (hf:∀us r,fm us=some r→aJ 3 (jQ) us=some r):bK P w K mg base eG (n+1) f fd ["_law_script","_law_at"] (spT K 2 fm):=
 qJ (g:=jQ) F nu (fun cdv A outer s H E hr=>(aF (cC (i:=2) nu.nd rfl (by first | exact Or.inl rfl | exact Or.inr rfl) (aj 1))
  (aF (cR (bQ ku (fG (i:=0) rfl dO) ak) (aO (cC (i:=2) nu.nd rfl (by first | exact Or.inl rfl | exact Or.inr rfl) (bM cz (bD (i:=0) (cj hr) (JE.d (bM j6 (JE.d (aj 1)) (fG (i:=0) rfl dO))) (fun _ _=>rfl)) (JE.d (bM yR (JE.d (aj 1)) (fG (i:=0) rfl dO)))))) cg)
  (aO (aW (qQ (dD (JE.d (aj 2)) (dD (JE.d (lW (BG rfl) rfl Lw PyProof.Rows.Boot.max (ah ak (ah (JE.d (bM gj (JE.d (aj 2)) (JE.d (bM yS ak ak)))) aA)))) (dD ak qP))))))))) hf
noncomputable abbrev iU:Stmt:=top 27
theorem jd:cy ["_law_tape_here","_law_many","_law_turn","_law_found","_law_mixed"] ["_law_tape_here","_law_many"] (aE iU):=⟨rfl,rfl,rfl,by decide +kernel,rfl,by decide +kernel,by decide +kernel⟩
theorem zA {P:Program}{w:World}{K:PySem.W.Frag}{mg:Str→Option Value}{base:Heap}{f:Addr}{fd:FuncData}{n:Nat}{fm:FM}(F:nN K "_law_pick" "_law_pick" iU f fd)
  (hf:∀us r,fm us=some r→aJ 5 (jP) us=some r):bK P w K mg base eG (n+1) f fd ["_law_tape_here","_law_many"] (spT K 2 fm):=
 qJ (g:=jP) F jd (fun cdv A outer s H E hr=>(aF (cC (i:=2) jd.nd rfl (by first | exact Or.inl rfl | exact Or.inr rfl) (bM cz (bD (i:=0) (cj hr) aB (fun _ _=>rfl)) ak))
  (aF (vf (i:=0) (cj hr) aB (JE.d (aj 2)))
  (aF (cR (bQ ku (bD (i:=0) (cj hr) aB (fun _ _=>rfl)) ak) (aF (cC (i:=3) jd.nd rfl (by first | exact Or.inl rfl | exact Or.inr rfl) (bM j6 (bD (i:=0) (cj hr) aB (fun _ _=>rfl)) (JE.d (aj 1))))
  (aF (vf (i:=0) (cj hr) aB (JE.d (bM yR (bD (i:=0) (cj hr) aB (fun _ _=>rfl)) (JE.d (aj 1)))))
  (aO (aW (aj 3))))) cg)
  (aF (cC (i:=4) jd.nd rfl (by first | exact Or.inl rfl | exact Or.inr rfl) (bM qE (JE.d (bM cz (JE.d (bM cz (JE.d (bM j6 (bD (i:=0) (cj hr) aB (fun _ _=>rfl)) ak)) (JE.d (bM qE (JE.d (bM qE ak (JE.d (aj 2)))) (JE.d (aj 2)))))) ak)) ak))
  (aF (cC (i:=4) jd.nd rfl (by first | exact Or.inl rfl | exact Or.inr rfl) (bM qE (JE.d (bM cz (JE.d (bM j6 (JE.d (aj 4)) ak)) (JE.d (bM qE ak (JE.d (aj 2)))))) ak))
  (aO (aW (bM j6 (JE.d (bM yR (JE.d (bM j6 (JE.d (aj 4)) ak)) ak)) (JE.d (aj 1))))))))))) hf
noncomputable abbrev fU:Stmt:=top 28
theorem uA:cy ["_law_thing"] ["_law_thing"] (aE fU):=⟨rfl,rfl,rfl,by decide +kernel,rfl,by decide +kernel,by decide +kernel⟩
theorem uB {P:Program}{w:World}{K:PySem.W.Frag}{mg:Str→Option Value}{base:Heap}{f:Addr}{fd:FuncData}{n:Nat}{fm:FM}(F:nN K "_law_is_name" "_law_is_name" fU f fd) (aM:mg "isinstance" =none) (nj:mg "str" =none) (dO:mg "len" =none)
  (hf:∀us r,fm us=some r→aJ 1 (eV) us=some r):bK P w K mg base eG (n+1) f fd ["_law_thing"] (spT K 1 fm):=
 qJ (g:=eV) F uA (fun cdv A outer s H E hr=>(aF (cR (JW.t (iY (gg (eL (cV rfl aM rfl nj PyProof.Rows.Boot.str (JE.d (aj 0))))) (ez (gg (Fp lB lB ak (fG (i:=0) rfl dO) ak))))) (aO (aW (JD.e ig))) cg)
  (aO (aW (iX (eO hr.units) (JE.d (qK (p5 (by decide) (by decide) rfl (by decide) rfl) rfl (nP (JE.d (aj 0))) (fun _ _ _ _=>(yZ (bQ (xP hr.units) (JE.d (aj 0)) aB (by with_unfolding_all rfl)))) (fun _ _ _ _=>(JE.d (aj 0))))) (JE.d (bE aA))))))) hf
noncomputable abbrev fh:Stmt:=top 29
theorem s8:cy ["_law_thing","_law_most"] ["_law_thing","_law_most"] (aE fh):=⟨rfl,rfl,rfl,by decide +kernel,rfl,by decide +kernel,by decide +kernel⟩
theorem tu {P:Program}{w:World}{K:PySem.W.Frag}{mg:Str→Option Value}{base:Heap}{f:Addr}{fd:FuncData}{n:Nat}{fm:FM}(F:nN K "_law_whole_to" "_law_whole_to" fh f fd) (aM:mg "isinstance" =none) (En:mg "int" =none) (pS:mg "bool" =none)
  (hf:∀us r,fm us=some r→aJ 2 (iD) us=some r):bK P w K mg base eG (n+1) f fd ["_law_thing","_law_most"] (spT K 2 fm):=
 qJ (g:=iD) F s8 (fun cdv A outer s H E hr=>(aO (aW (JD.e (mT (cV rfl aM rfl En PyProof.Rows.Boot.int (JE.d (aj 0))) (mT (KH (cV rfl aM rfl pS PyProof.Rows.Boot.bool (JE.d (aj 0)))) (mS (Fo lB lB ak (JE.d (aj 0)) (JE.d (aj 1)))))))))) hf
noncomputable abbrev g8:Stmt:=top 30
theorem wX:cy [] [] (aE g8):=⟨rfl,rfl,rfl,by decide +kernel,rfl,by decide +kernel,by decide +kernel⟩
theorem wY {P:Program}{w:World}{K:PySem.W.Frag}{mg:Str→Option Value}{base:Heap}{f:Addr}{fd:FuncData}{n:Nat}{fm:FM}(F:nN K "_law_names" "_law_names" g8 f fd)
  (hf:∀us r,fm us=some r→aJ 0 (j9) us=some r):bK P w K mg base eG (n+1) f fd [] (spT K 0 fm):=
 qJ (g:=j9) F wX (fun cdv A outer s H E hr=>(aO (aW (bE (ah aB (ah aB (ah aB (ah aB (ah aB (ah aB (ah aB (ah aB aA)))))))))))) hf
noncomputable abbrev iV:Stmt:=top 31
theorem ki:cy ["_law_tape_here","_law_names_here","_law_variables","_law_way","_law_number"] ["_law_tape_here","_law_names_here","_law_variables"] (aE iV):=⟨rfl,rfl,rfl,by decide +kernel,rfl,by decide +kernel,by decide +kernel⟩
theorem zB {P:Program}{w:World}{K:PySem.W.Frag}{mg:Str→Option Value}{base:Heap}{f:Addr}{fd:FuncData}{n:Nat}{fm:FM}(F:nN K "_law_test" "_law_test" iV f fd) (dO:mg "len" =none)
  {bw:Addr}{cB:FuncData}{aq:FM}(bz:bK P w K mg base eG n bw cB ["_law_tape_here","_law_many"] (spT K 2 aq)) (bA:Binds K cB ["_law_tape_here","_law_many"] []) (bB:PySem.W.keepIn K (.ref bw)=true) (bC:mg "_law_pick" =some (.ref bw))
  (hf:∀us r,fm us=some r→aJ 5 (fy aq) us=some r):bK P w K mg base eG (n+1) f fd ["_law_tape_here","_law_names_here","_law_variables"] (spT K 3 fm):=
 qJ (g:=fy aq) F ki (fun cdv A outer s H E hr=>(aF (cC (i:=3) ki.nd rfl (by first | exact Or.inl rfl | exact Or.inr rfl) (aK bz hr rfl bC bB bA (bX (aj 0) (aD ak aR))))
  (aF (cR (bQ (eO hr.units) (JE.d (aj 3)) ak) (aO (aW (aN (ah aB aA)))) cg)
  (aF (cR (bQ (eO hr.units) (JE.d (aj 3)) ak) (aO (aW (aN (ah aB (ah (bD (i:=1) (cj hr) (JE.d (aK bz hr rfl bC bB bA (bX (aj 0) (aD (fG (i:=1) rfl dO) aR)))) (fun _ _=>rfl)) aA))))) cg)
  (aF (cC (i:=4) ki.nd rfl (by first | exact Or.inl rfl | exact Or.inr rfl) (nO uU (JE.d (bE (ah ak (ah ak (ah ak (ah ak (ah ak (ah ak aA)))))))) (JE.d (aK bz hr rfl bC bB bA (bX (aj 0) (aD ak aR)))) (fun _ _=>rfl)))
  (aF (cR (JW.t (lz (bQ (rZ hr.units) (JE.d (aj 2)) (JE.d (aN aA))) (gM (bQ ku (JE.d (aK bz hr rfl bC bB bA (bX (aj 0) (aD ak aR)))) ak)))) (aO (cC (i:=4) ki.nd rfl (by first | exact Or.inl rfl | exact Or.inr rfl) (JD.e (bD (i:=2) (cj hr) (JE.d (aK bz hr rfl bC bB bA (bX (aj 0) (aD (fG (i:=2) rfl dO) aR)))) (fun _ _=>rfl))))) cg)
  (aO (aW (aN (ah (JE.d (nO uU (JE.d (bE (ah aB (ah aB (ah aB aA))))) (JE.d (bM gj (JE.d (aj 3)) ak)) (fun _ _=>rfl))) (ah (JE.d (aj 4)) aA))))))))))) hf
noncomputable abbrev d7:Stmt:=top 32
theorem fH:cy ["_law_tape_here","_law_world","_law_variables","_law_room","_law_deep","_law_way","_law_names_here","_law_x","_law_head"] ["_law_tape_here","_law_world","_law_variables","_law_room","_law_deep"] (aE d7):=⟨rfl,rfl,rfl,by decide +kernel,rfl,by decide +kernel,by decide +kernel⟩
theorem wZ {P:Program}{w:World}{K:PySem.W.Frag}{mg:Str→Option Value}{base:Heap}{f:Addr}{fd:FuncData}{n:Nat}{fm:FM}(F:nN K "_law_inner" "_law_inner" d7 f fd) (dO:mg "len" =none)
  {bw:Addr}{cB:FuncData}{aq:FM}(bz:bK P w K mg base eG n bw cB ["_law_tape_here","_law_many"] (spT K 2 aq)) (bA:Binds K cB ["_law_tape_here","_law_many"] []) (bB:PySem.W.keepIn K (.ref bw)=true) (bC:mg "_law_pick" =some (.ref bw))
  {dB:Addr}{fC:FuncData}{bS:FM}(gn:bK P w K mg base eG n dB fC ["_law_tape_here","_law_world","_law_variables","_law_room","_law_deep"] (spT K 5 bS)) (gq:Binds K fC ["_law_tape_here","_law_world","_law_variables","_law_room","_law_deep"] []) (gr:PySem.W.keepIn K (.ref dB)=true) (gw:mg "_law_saying" =some (.ref dB))
  (hf:∀us r,fm us=some r→aJ 9 (cX aq bS) us=some r):bK P w K mg base eG (n+1) f fd ["_law_tape_here","_law_world","_law_variables","_law_room","_law_deep"] (spT K 5 fm):=
 qJ (g:=cX aq bS) F fH (fun cdv A outer s H E hr=>(aF (cC (i:=5) fH.nd rfl (by first | exact Or.inl rfl | exact Or.inr rfl) (aK bz hr rfl bC bB bA (bX (aj 0) (aD ak aR))))
  (aF (cR (JW.t (lz (bQ lA (JE.d (aj 5)) ak) (gM (bQ lA (bD (i:=1) (cj hr) aB (fun _ _=>rfl)) ak)))) (aF (vf (i:=1) (cj hr) aB (JE.d (bM cz (bD (i:=1) (cj hr) aB (fun _ _=>rfl)) ak)))
  (aF (cC (i:=6) fH.nd rfl (by first | exact Or.inl rfl | exact Or.inr rfl) (JD.e (bD (i:=1) (cj hr) aB (fun _ _=>rfl))))
  (aF (cC (i:=7) fH.nd rfl (by first | exact Or.inl rfl | exact Or.inr rfl) (nO uU (JE.d (bE (ah aB (ah aB (ah aB (ah aB aA)))))) (JE.d (aK bz hr rfl bC bB bA (bX (aj 0) (aD ak aR)))) (fun _ _=>rfl)))
  (aF (cC (i:=8) fH.nd rfl (by first | exact Or.inl rfl | exact Or.inr rfl) (aN (ah (JE.d (nO uU (JE.d (bE (ah aB (ah aB aA)))) (JE.d (bM j6 (JE.d (aj 5)) ak)) (fun _ _=>rfl))) (ah (bD (i:=6) (cj hr) (JE.d (aK bz hr rfl bC bB bA (bX (aj 0) (aD (fG (i:=6) rfl dO) aR)))) (fun _ _=>rfl)) (ah (JE.d (aj 7)) aA)))))
  (aO (aW (bM cz (JE.d (aj 8)) (JE.d (aN (ah (JE.d (aK gn hr rfl gw gr gq (bX (aj 0) (bX (aj 1) (aD (JE.d (bM cz (JE.d (aj 2)) (JE.d (aN (ah (JE.d (aj 7)) aA))))) (aD (JE.d (bM gj (JE.d (aj 3)) ak)) (aD (JE.d (bM gj (JE.d (aj 4)) ak)) aR))))))) aA)))))))))) cg)
  (aF (cC (i:=8) fH.nd rfl (by first | exact Or.inl rfl | exact Or.inr rfl) (aN (ah (JE.d (nO uU (JE.d (bE (ah aB (ah aB (ah aB (ah aB aA)))))) (JE.d (bM j6 (JE.d (aj 5)) ak)) (fun _ _=>rfl))) aA)))
  (aF (cR (bQ (eO hr.units) (JE.d (aj 5)) ak) (aO (cC (i:=8) fH.nd rfl (by first | exact Or.inl rfl | exact Or.inr rfl) (aN (ah aB (ah (JE.d (aK bz hr rfl bC bB bA (bX (aj 0) (aD ak aR)))) aA))))) cg)
  (aO (aW (bM cz (JE.d (aj 8)) (JE.d (aN (ah (JE.d (aK gn hr rfl gw gr gq (bX (aj 0) (bX (aj 1) (aD (JE.d (aj 2)) (aD (JE.d (bM gj (JE.d (aj 3)) ak)) (aD (JE.d (bM gj (JE.d (aj 4)) ak)) aR))))))) aA))))))))))) hf
noncomputable abbrev dG:Stmt:=top 33
theorem gQ:cy ["_law_tape_here","_law_world","_law_variables","_law_room","_law_deep","_law_way","_law_first","_law_one","_law_other"] ["_law_tape_here","_law_world","_law_variables","_law_room","_law_deep"] (aE dG):=⟨rfl,rfl,rfl,by decide +kernel,rfl,by decide +kernel,by decide +kernel⟩
theorem vX {P:Program}{w:World}{K:PySem.W.Frag}{mg:Str→Option Value}{base:Heap}{f:Addr}{fd:FuncData}{n:Nat}{fm:FM}(F:nN K "_law_saying" "_law_saying" dG f fd)
  {bw:Addr}{cB:FuncData}{aq:FM}(bz:bK P w K mg base eG n bw cB ["_law_tape_here","_law_many"] (spT K 2 aq)) (bA:Binds K cB ["_law_tape_here","_law_many"] []) (bB:PySem.W.keepIn K (.ref bw)=true) (bC:mg "_law_pick" =some (.ref bw))
  {qi:Addr}{vY:FuncData}{kK:FM}(Ce:bK P w K mg base eG n qi vY ["_law_tape_here","_law_names_here","_law_variables"] (spT K 3 kK)) (Cf:Binds K vY ["_law_tape_here","_law_names_here","_law_variables"] []) (Cg:PySem.W.keepIn K (.ref qi)=true) (Ci:mg "_law_test" =some (.ref qi))
  {dB:Addr}{fC:FuncData}{bS:FM}(gn:bK P w K mg base eG n dB fC ["_law_tape_here","_law_world","_law_variables","_law_room","_law_deep"] (spT K 5 bS)) (gq:Binds K fC ["_law_tape_here","_law_world","_law_variables","_law_room","_law_deep"] []) (gr:PySem.W.keepIn K (.ref dB)=true) (gw:mg "_law_saying" =some (.ref dB))
  {oR:Addr}{uf:FuncData}{jT:FM}(AQ:bK P w K mg base eG n oR uf ["_law_tape_here","_law_world","_law_variables","_law_room","_law_deep"] (spT K 5 jT)) (AR:Binds K uf ["_law_tape_here","_law_world","_law_variables","_law_room","_law_deep"] []) (AS:PySem.W.keepIn K (.ref oR)=true) (AU:mg "_law_inner" =some (.ref oR))
  (hf:∀us r,fm us=some r→aJ 9 (bT aq kK bS jT) us=some r):bK P w K mg base eG (n+1) f fd ["_law_tape_here","_law_world","_law_variables","_law_room","_law_deep"] (spT K 5 fm):=
 qJ (g:=bT aq kK bS jT) F gQ (fun cdv A outer s H E hr=>(aF (cC (i:=5) gQ.nd rfl (by first | exact Or.inl rfl | exact Or.inr rfl) (aK bz hr rfl bC bB bA (bX (aj 0) (aD ak aR))))
  (aF (cR (JW.t (iY (bQ lA (JE.d (aj 3)) ak) (iY (bQ lA (JE.d (aj 4)) ak) (ez (bQ (eO hr.units) (JE.d (aj 5)) ak))))) (aF (cR (bQ (eO hr.units) (JE.d (bM j6 (JE.d (aj 5)) ak)) ak) (aO (aW (aN (ah (JE.d (nO uU (JE.d (bE (ah aB (ah aB aA)))) (JE.d (aK bz hr rfl bC bB bA (bX (aj 0) (aD ak aR)))) (fun _ _=>rfl))) aA)))) cg)
  (aO (aW (aN (ah aB (ah (JE.d (aK Ce hr rfl Ci Cg Cf (bX (aj 0) (aD (bD (i:=1) (cj hr) aB (fun _ _=>rfl)) (aD (JE.d (aj 2)) aR))))) aA)))))) cg)
  (aF (cR (JW.t (lz (bQ lA (JE.d (aj 5)) ak) (gM (bQ ku (JE.d (aj 3)) ak)))) (aF (cC (i:=6) gQ.nd rfl (by first | exact Or.inl rfl | exact Or.inr rfl) (bM cz ak (JE.d (aK bz hr rfl bC bB bA (bX (aj 0) (aD (JE.d (bM gj (JE.d (aj 3)) ak)) aR))))))
  (aF (cC (i:=7) gQ.nd rfl (by first | exact Or.inl rfl | exact Or.inr rfl) (aK gn hr rfl gw gr gq (bX (aj 0) (bX (aj 1) (aD (JE.d (aj 2)) (aD (JE.d (aj 6)) (aD (JE.d (bM gj (JE.d (aj 4)) ak)) aR)))))))
  (aF (cC (i:=8) gQ.nd rfl (by first | exact Or.inl rfl | exact Or.inr rfl) (aK gn hr rfl gw gr gq (bX (aj 0) (bX (aj 1) (aD (JE.d (aj 2)) (aD (JE.d (bM gj (JE.d (bM gj (JE.d (aj 3)) ak)) (JE.d (aj 6)))) (aD (JE.d (bM gj (JE.d (aj 4)) ak)) aR)))))))
  (aO (aW (aN (ah (JE.d (nO uU (JE.d (bE (ah aB (ah aB (ah aB (ah aB aA)))))) (JE.d (bM gj (JE.d (aj 5)) ak)) (fun _ _=>rfl))) (ah (JE.d (aj 7)) (ah (JE.d (aj 8)) aA))))))))) cg)
  (aO (aW (aK AQ hr rfl AU AS AR (bX (aj 0) (bX (aj 1) (aD (JE.d (aj 2)) (aD (JE.d (aj 3)) (aD (JE.d (aj 4)) aR)))))))))))) hf
noncomputable abbrev g9:Stmt:=top 34
theorem w4:cy ["_law_tape_here","_law_names_here","_law_room","_law_deep"] ["_law_tape_here","_law_names_here","_law_room","_law_deep"] (aE g9):=⟨rfl,rfl,rfl,by decide +kernel,rfl,by decide +kernel,by decide +kernel⟩
theorem w5 {P:Program}{w:World}{K:PySem.W.Frag}{mg:Str→Option Value}{base:Heap}{f:Addr}{fd:FuncData}{n:Nat}{fm:FM}(F:nN K "_law_whole" "_law_whole" g9 f fd)
  {dB:Addr}{fC:FuncData}{bS:FM}(gn:bK P w K mg base eG n dB fC ["_law_tape_here","_law_world","_law_variables","_law_room","_law_deep"] (spT K 5 bS)) (gq:Binds K fC ["_law_tape_here","_law_world","_law_variables","_law_room","_law_deep"] []) (gr:PySem.W.keepIn K (.ref dB)=true) (gw:mg "_law_saying" =some (.ref dB))
  (hf:∀us r,fm us=some r→aJ 4 (gY bS) us=some r):bK P w K mg base eG (n+1) f fd ["_law_tape_here","_law_names_here","_law_room","_law_deep"] (spT K 4 fm):=
 qJ (g:=gY bS) F w4 (fun cdv A outer s H E hr=>(aO (aW (aK gn hr rfl gw gr gq (bX (aj 0) (bX (qQ (dD (JE.d (aj 1)) (dD ak qP))) (aD (JE.d (aN aA)) (aD (JE.d (aj 2)) (aD (JE.d (aj 3)) aR))))))))) hf
noncomputable abbrev ia:Stmt:=top 35
theorem pU:cy ["_law_head","_law_shapes"] ["_law_head"] (aE ia):=⟨rfl,rfl,rfl,by decide +kernel,rfl,by decide +kernel,by decide +kernel⟩
theorem xg {P:Program}{w:World}{K:PySem.W.Frag}{mg:Str→Option Value}{base:Heap}{f:Addr}{fd:FuncData}{n:Nat}{fm:FM}(F:nN K "_law_shape" "_law_shape" ia f fd)
  (hf:∀us r,fm us=some r→aJ 2 (i6) us=some r):bK P w K mg base eG (n+1) f fd ["_law_head"] (spT K 1 fm):=
 qJ (g:=i6) F pU (fun cdv A outer s H E hr=>(aF (cC (i:=1) pU.nd rfl (by first | exact Or.inl rfl | exact Or.inr rfl) (qQ (dD (JE.d (aN (ah ak (ah (JE.d (bE aA)) aA)))) (dD (JE.d (aN (ah ak (ah (JE.d (bE aA)) aA)))) (dD (JE.d (aN (ah ak (ah (JE.d (bE aA)) aA)))) (dD (JE.d (aN (ah ak (ah (JE.d (bE (ah ak aA))) aA)))) (dD (JE.d (aN (ah ak (ah (JE.d (bE (ah ak aA))) aA)))) (dD (JE.d (aN (ah ak (ah (JE.d (bE (ah ak aA))) aA)))) qP))))))))
  (aF (yT (JD.e (C4 (i:=1) (qQ (dD (JE.d (aN (ah ak (ah (JE.d (bE (ah ak aA))) aA)))) (dD (JE.d (aN (ah ak (ah (JE.d (bE (ah ak (ah ak aA)))) aA)))) (dD (JE.d (aN (ah ak (ah (JE.d (bE (ah ak (ah ak aA)))) aA)))) (dD (JE.d (aN (ah ak (ah (JE.d (bE (ah ak (ah ak aA)))) aA)))) qP))))))))
  (aF (yT (JD.e (C4 (i:=1) (qQ (dD (JE.d (aN (ah ak (ah (JE.d (bE (ah ak aA))) aA)))) (dD (JE.d (aN (ah ak (ah (JE.d (bE (ah ak aA))) aA)))) (dD (JE.d (aN (ah ak (ah (JE.d (bE (ah ak aA))) aA)))) qP)))))))
  (aO (aW (JD.e (Ib (i:=1) (cj hr) (JE.d (aj 0)) (JE.d (aN (ah ak (ah (JE.d (bE aA)) aA)))))))))))) hf
noncomputable abbrev fV:Stmt:=top 36
theorem uC:cy ["_law_thing","_law_variables"] ["_law_thing","_law_variables"] (aE fV):=⟨rfl,rfl,rfl,by decide +kernel,rfl,by decide +kernel,by decide +kernel⟩
theorem uD {P:Program}{w:World}{K:PySem.W.Frag}{mg:Str→Option Value}{base:Heap}{f:Addr}{fd:FuncData}{n:Nat}{fm:FM}(F:nN K "_law_is_test" "_law_is_test" fV f fd) (aM:mg "isinstance" =none) (ju:mg "tuple" =none) (dO:mg "len" =none) (nj:mg "str" =none)
  {fJ:Addr}{iB:FuncData}{cO:FM}(jI:bK P w K mg base eG n fJ iB ["_law_thing"] (spT K 1 cO)) (jJ:Binds K iB ["_law_thing"] []) (jK:PySem.W.keepIn K (.ref fJ)=true) (jL:mg "_law_is_name" =some (.ref fJ))
  {cN:Addr}{dJ:FuncData}{aX:FM}(gR:bK P w K mg base eG n cN dJ ["_law_thing","_law_most"] (spT K 2 aX)) (gT:Binds K dJ ["_law_thing","_law_most"] []) (gU:PySem.W.keepIn K (.ref cN)=true) (gW:mg "_law_whole_to" =some (.ref cN))
  (hf:∀us r,fm us=some r→aJ 2 (bR cO aX) us=some r):bK P w K mg base eG (n+1) f fd ["_law_thing","_law_variables"] (spT K 2 fm):=
 qJ (g:=bR cO aX) F uC (fun cdv A outer s H E hr=>(aF (cR (JW.t (iY (gg (eL (cV rfl aM rfl ju PyProof.Rows.Boot.tuple (JE.d (aj 0))))) (iY (bQ (eO hr.units) (fG (i:=0) rfl dO) ak) (ez (gg (eL (cV rfl aM rfl nj PyProof.Rows.Boot.str (bD (i:=0) (cj hr) ak (fun _ _=>rfl))))))))) (aO (aW (JD.e ig))) cg)
  (aF (cR (bQ (eO hr.units) (bD (i:=0) (cj hr) ak (fun _ _=>rfl)) aB) (aO (aW (iX (eO hr.units) (fG (i:=0) rfl dO) ak))) cg)
  (aF (cR (JW.t (iY (bQ (rZ hr.units) (fG (i:=0) rfl dO) ak) (ez (bQ (xP hr.units) (bD (i:=0) (cj hr) ak (fun _ _=>rfl)) (JE.d (aN (ah aB (ah aB (ah aB (ah aB aA)))))) (by with_unfolding_all rfl))))) (aO (aW (JD.e ig))) cg)
  (aF (cR (bQ (eO hr.units) (bD (i:=0) (cj hr) ak (fun _ _=>rfl)) aB) (aO (aW (aK jI hr rfl jL jK jJ (aD (bD (i:=0) (cj hr) ak (fun _ _=>rfl)) aR)))) cg)
  (aO (aW (JD.e (Ja (JE.d (aK gR hr rfl gW gU gT (aD (bD (i:=0) (cj hr) ak (fun _ _=>rfl)) (aD ak aR)))) (mS (mT (cV rfl aM rfl nj PyProof.Rows.Boot.str (bD (i:=0) (cj hr) ak (fun _ _=>rfl))) (mS (JE.d (iX (u6 hr.units) (bD (i:=0) (cj hr) ak (fun _ _=>rfl)) (JE.d (aj 1)) (by with_unfolding_all rfl))))))))))))))) hf
noncomputable abbrev cQ:Stmt:=top 37
theorem gG:cy ["_law_thing","_law_variables","_law_deep","_law_counts","_law_long","_law_places"] ["_law_thing","_law_variables","_law_deep","_law_counts"] (aE cQ):=⟨rfl,rfl,rfl,by decide +kernel,rfl,by decide +kernel,by decide +kernel⟩
theorem rG {P:Program}{w:World}{K:PySem.W.Frag}{mg:Str→Option Value}{base:Heap}{f:Addr}{fd:FuncData}{n:Nat}{fm:FM}(F:nN K "_law_is_saying" "_law_is_saying" cQ f fd) (aM:mg "isinstance" =none) (ju:mg "tuple" =none) (dO:mg "len" =none) (nj:mg "str" =none)
  {oU:Addr}{ug:FuncData}{jS:FM}(AV:bK P w K mg base eG n oU ug ["_law_head"] (spT K 1 jS)) (AW:Binds K ug ["_law_head"] []) (AX:PySem.W.keepIn K (.ref oU)=true) (AY:mg "_law_shape" =some (.ref oU))
  {lP:Addr}{pW:FuncData}{iz:FM}(xh:bK P w K mg base eG n lP pW ["_law_thing","_law_variables"] (spT K 2 iz)) (xj:Binds K pW ["_law_thing","_law_variables"] []) (xm:PySem.W.keepIn K (.ref lP)=true) (xq:mg "_law_is_test" =some (.ref lP))
  {cN:Addr}{dJ:FuncData}{aX:FM}(gR:bK P w K mg base eG n cN dJ ["_law_thing","_law_most"] (spT K 2 aX)) (gT:Binds K dJ ["_law_thing","_law_most"] []) (gU:PySem.W.keepIn K (.ref cN)=true) (gW:mg "_law_whole_to" =some (.ref cN))
  {fJ:Addr}{iB:FuncData}{cO:FM}(jI:bK P w K mg base eG n fJ iB ["_law_thing"] (spT K 1 cO)) (jJ:Binds K iB ["_law_thing"] []) (jK:PySem.W.keepIn K (.ref fJ)=true) (jL:mg "_law_is_name" =some (.ref fJ))
  {dR:Addr}{gB:FuncData}{aI:FM}(iE:bK P w K mg base eG n dR gB ["_law_thing","_law_variables","_law_deep","_law_counts"] (spT K 4 aI)) (iF:Binds K gB ["_law_thing","_law_variables","_law_deep","_law_counts"] []) (iG:PySem.W.keepIn K (.ref dR)=true) (iH:mg "_law_is_saying" =some (.ref dR))
  (hf:∀us r,fm us=some r→aJ 6 (aL jS iz aX cO aI) us=some r):bK P w K mg base eG (n+1) f fd ["_law_thing","_law_variables","_law_deep","_law_counts"] (spT K 4 fm):=
 qJ (g:=aL jS iz aX cO aI) F gG (fun cdv A outer s H E hr=>(aF (cR (JW.t (iY (gg (eL (cV rfl aM rfl ju PyProof.Rows.Boot.tuple (JE.d (aj 0))))) (iY (bQ (eO hr.units) (fG (i:=0) rfl dO) ak) (ez (gg (eL (cV rfl aM rfl nj PyProof.Rows.Boot.str (bD (i:=0) (cj hr) ak (fun _ _=>rfl))))))))) (aO (aW (JD.e ig))) cg)
  (aF (vf (i:=3) (cj hr) ak (JE.d (bM cz (bD (i:=3) (cj hr) ak (fun _ _=>rfl)) ak)))
  (aF (KN (JE.d (aK AV hr rfl AY AX AW (aD (bD (i:=0) (cj hr) ak (fun _ _=>rfl)) aR))) (KJ rfl (z9 (mU (i:=4) gG.nd rfl (by first | exact Or.inl rfl | exact Or.inr rfl)) (z9 (mU (i:=5) gG.nd rfl (by first | exact Or.inl rfl | exact Or.inr rfl)) HP))))
  (aF (cR (JW.t (iY (bQ (rZ hr.units) (fG (i:=0) rfl dO) (JE.d (aj 4))) (iY (bQ ku (JE.d (aj 2)) ak) (ez (bQ ku (bD (i:=3) (cj hr) ak (fun _ _=>rfl)) ak))))) (aO (aW (JD.e ig))) cg)
  (aF (cR (bQ (eO hr.units) (bD (i:=0) (cj hr) ak (fun _ _=>rfl)) aB) (aO (aW (aK xh hr rfl xq xm xj (aD (bD (i:=0) (cj hr) ak (fun _ _=>rfl)) (aD (JE.d (aj 1)) aR))))) cg)
  (aF (cR (JW.t (lz (bQ (eO hr.units) (bD (i:=0) (cj hr) ak (fun _ _=>rfl)) aB) (gM (gg (eL (JE.d (aK gR hr rfl gW gU gT (aD (bD (i:=0) (cj hr) ak (fun _ _=>rfl)) (aD ak aR))))))))) (aO (aW (JD.e ig))) cg)
  (aF (cR (bQ (u6 hr.units) (bD (i:=0) (cj hr) ak (fun _ _=>rfl)) (JE.d (aN (ah aB (ah aB aA)))) (by with_unfolding_all rfl)) (aF (vf (i:=3) (cj hr) ak (JE.d (bM cz (bD (i:=3) (cj hr) ak (fun _ _=>rfl)) ak)))
  (aF (cR (JW.t (iY (bQ ku (bD (i:=3) (cj hr) ak (fun _ _=>rfl)) ak) (iY (gg (eL (JE.d (aK jI hr rfl jL jK jJ (aD (bD (i:=0) (cj hr) ak (fun _ _=>rfl)) aR))))) (ez (gg (eL (JE.d (aK jI hr rfl jL jK jJ (aD (bD (i:=0) (cj hr) ak (fun _ _=>rfl)) aR))))))))) (aO (aW (JD.e ig))) cg)
  (aO (cC (i:=1) gG.nd rfl (by first | exact Or.inl rfl | exact Or.inr rfl) (bM cz (JE.d (aj 1)) (JE.d (bE (ah (bD (i:=0) (cj hr) ak (fun _ _=>rfl)) aA)))))))) cg)
  (aO (aW (iX (eO hr.units) (JE.d (K4 1 (qK (vh (fL:=["_law_counts","_law_deep","_law_thing","_law_variables"]) (cap:=[3,2,0,1]) rfl (by decide) rfl (by decide) rfl rfl (by decide) (by first | exact Or.inl rfl | exact Or.inr rfl) (by decide) rfl rfl rfl) rfl (nP (JE.d (aj 5))) (fun _ _ _ _=>(yZ (gg (eL (JE.d (aK iE hr rfl iH iG iF (aD (bD (i:=3) (cj hr) (JE.d (aj 0)) (fun _ _=>rfl)) (aD (JE.d (aj 4)) (aD (JE.d (bM cz (JE.d (aj 2)) ak)) (bX (aj 1) aR)))))))))) (fun _ _ _ _=>(JE.d (aj 0)))))) (JE.d (bE aA))))))))))))) hf
noncomputable abbrev jD:Stmt:=top 38
theorem oV:cy ["_law_tape_here","_law_odd_here"] ["_law_tape_here"] (aE jD):=⟨rfl,rfl,rfl,by decide +kernel,rfl,by decide +kernel,by decide +kernel⟩
theorem AZ {P:Program}{w:World}{K:PySem.W.Frag}{mg:Str→Option Value}{base:Heap}{f:Addr}{fd:FuncData}{n:Nat}{fm:FM}(F:nN K "_law_odd" "_law_odd" jD f fd)
  {bw:Addr}{cB:FuncData}{aq:FM}(bz:bK P w K mg base eG n bw cB ["_law_tape_here","_law_many"] (spT K 2 aq)) (bA:Binds K cB ["_law_tape_here","_law_many"] []) (bB:PySem.W.keepIn K (.ref bw)=true) (bC:mg "_law_pick" =some (.ref bw))
  (hf:∀us r,fm us=some r→aJ 2 (m6 aq) us=some r):bK P w K mg base eG (n+1) f fd ["_law_tape_here"] (spT K 1 fm):=
 qJ (g:=m6 aq) F oV (fun cdv A outer s H E hr=>(aF (cC (i:=1) oV.nd rfl (by first | exact Or.inl rfl | exact Or.inr rfl) (bE (ah KG (ah ig (ah ig (ah ak (ah (JE.d (M7 HM ak)) (ah ak (ah (JE.d (bM yS ak ak)) (ah aB (ah aB (ah aB (ah aB (ah aB aA))))))))))))))
  (aF (cC (i:=1) oV.nd rfl (by first | exact Or.inl rfl | exact Or.inr rfl) (bM cz (JE.d (aj 1)) (JE.d (bE (ah (JE.d (aN aA)) (ah (JE.d (bE aA)) (ah (JE.d (aN (ah aB aA))) (ah (JE.d (bE (ah aB (ah ak aA)))) (ah (JE.d (aN (ah aB (ah ak aA)))) aA)))))))))
  (aO (aW (JD.e (bD (i:=1) (cj hr) (JE.d (aK bz hr rfl bC bB bA (bX (aj 0) (aD ak aR)))) (fun _ _=>rfl)))))))) hf
noncomputable abbrev fE:Stmt:=top 39
theorem kj:cy ["_law_tape_here","_law_thing","_law_deep","_law_at","_law_way"] ["_law_tape_here","_law_thing","_law_deep"] (aE fE):=⟨rfl,rfl,rfl,by decide +kernel,rfl,by decide +kernel,by decide +kernel⟩
theorem zC {P:Program}{w:World}{K:PySem.W.Frag}{mg:Str→Option Value}{base:Heap}{f:Addr}{fd:FuncData}{n:Nat}{fm:FM}(F:nN K "_law_bent" "_law_bent" fE f fd) (aM:mg "isinstance" =none) (ju:mg "tuple" =none) (dO:mg "len" =none) (yt:mg "list" =none) (nj:mg "str" =none)
  {bw:Addr}{cB:FuncData}{aq:FM}(bz:bK P w K mg base eG n bw cB ["_law_tape_here","_law_many"] (spT K 2 aq)) (bA:Binds K cB ["_law_tape_here","_law_many"] []) (bB:PySem.W.keepIn K (.ref bw)=true) (bC:mg "_law_pick" =some (.ref bw))
  {iM:Addr}{kO:FuncData}{aV:FM}(nv:bK P w K mg base eG n iM kO ["_law_tape_here","_law_thing","_law_deep"] (spT K 3 aV)) (nA:Binds K kO ["_law_tape_here","_law_thing","_law_deep"] []) (nB:PySem.W.keepIn K (.ref iM)=true) (nC:mg "_law_bent" =some (.ref iM))
  {cN:Addr}{dJ:FuncData}{aX:FM}(gR:bK P w K mg base eG n cN dJ ["_law_thing","_law_most"] (spT K 2 aX)) (gT:Binds K dJ ["_law_thing","_law_most"] []) (gU:PySem.W.keepIn K (.ref cN)=true) (gW:mg "_law_whole_to" =some (.ref cN))
  {jE:Addr}{mL:FuncData}{aZ:FM}(tw:bK P w K mg base eG n jE mL ["_law_tape_here"] (spT K 1 aZ)) (tF:Binds K mL ["_law_tape_here"] []) (tG:PySem.W.keepIn K (.ref jE)=true) (tH:mg "_law_odd" =some (.ref jE))
  (hf:∀us r,fm us=some r→aJ 5 (kX aq aV aX aZ) us=some r):bK P w K mg base eG (n+1) f fd ["_law_tape_here","_law_thing","_law_deep"] (spT K 3 fm):=
 qJ (g:=kX aq aV aX aZ) F kj (fun cdv A outer s H E hr=>(aF (cR (JW.t (lz (eL (cV rfl aM rfl ju PyProof.Rows.Boot.tuple (JE.d (aj 1)))) (lz (bQ ku (fG (i:=1) rfl dO) ak) (lz (bQ ku (JE.d (aj 2)) ak) (gM (bQ ku (JE.d (aK bz hr rfl bC bB bA (bX (aj 0) (aD ak aR)))) ak)))))) (aF (cC (i:=3) kj.nd rfl (by first | exact Or.inl rfl | exact Or.inr rfl) (aK bz hr rfl bC bB bA (bX (aj 0) (aD (fG (i:=1) rfl dO) aR))))
  (aO (aW (bM cz (JE.d (bM cz (JE.d (jN (JE.d (aj 1)) j7 (j8 (JE.d (aj 3))))) (JE.d (aN (ah (JE.d (aK nv hr rfl nC nB nA (bX (aj 0) (aD (bD (i:=1) (cj hr) (JE.d (aj 3)) (fun _ _=>rfl)) (aD (JE.d (bM gj (JE.d (aj 2)) ak)) aR))))) aA))))) (JE.d (jN (JE.d (aj 1)) (j8 (JE.d (bM cz (JE.d (aj 3)) ak))) j7)))))) cg)
  (aF (cC (i:=4) kj.nd rfl (by first | exact Or.inl rfl | exact Or.inr rfl) (aK bz hr rfl bC bB bA (bX (aj 0) (aD ak aR))))
  (aF (cR (JW.t (lz (eL (cV rfl aM rfl ju PyProof.Rows.Boot.tuple (JE.d (aj 1)))) (gM (bQ lA (JE.d (aj 4)) ak)))) (aF (cC (i:=3) kj.nd rfl (by first | exact Or.inl rfl | exact Or.inr rfl) (aK bz hr rfl bC bB bA (bX (aj 0) (aD (JE.d (bM cz (fG (i:=1) rfl dO) ak)) aR))))
  (aO (aW (nO uU (JE.d (bE (ah (JE.d (jN (JE.d (aj 1)) j7 (j8 (JE.d (aj 3))))) (ah (JE.d (bM cz (JE.d (aj 1)) (JE.d (jN (JE.d (aj 1)) (j8 (JE.d (aj 3))) j7)))) (ah (JE.d (bM cz (JE.d (jN (JE.d (aj 1)) j7 (j8 (JE.d (aj 3))))) (JE.d (jN (JE.d (aj 1)) (j8 (JE.d (bM cz (JE.d (aj 3)) ak))) j7)))) (ah (JE.d (xH vc rfl yt PyProof.Rows.Boot.list (ah (JE.d (aj 1)) aA))) (ah (JE.d (bM cz (JE.d (aj 1)) (JE.d (aN (ah (JE.d (aj 1)) aA))))) aA))))))) (JE.d (aj 4)) (fun _ _=>rfl))))) cg)
  (aF (cR (JW.t (lz (eL (JE.d (aK gR hr rfl gW gU gT (aD (JE.d (aj 1)) (aD (JE.d (bM yS ak ak)) aR))))) (gM (bQ lA (JE.d (aj 4)) ak)))) (aO (aW (nO uU (JE.d (bE (ah (JE.d (bM cz (JE.d (aj 1)) ak)) (ah (JE.d (bM gj (JE.d (aj 1)) ak)) (ah ak (ah ak (ah ak aA))))))) (JE.d (aj 4)) (fun _ _=>rfl)))) cg)
  (aF (cR (JW.t (lz (eL (cV rfl aM rfl nj PyProof.Rows.Boot.str (JE.d (aj 1)))) (gM (bQ lA (JE.d (aj 4)) ak)))) (aO (aW (nO uU (JE.d (bE (ah (JE.d (bM cz (JE.d (aj 1)) aB)) (ah (JE.d (jN (JE.d (aj 1)) (j8 ak) j7)) (ah (JE.d (bM cz (JE.d (aj 1)) aB)) (ah aB (ah aB (ah aB aA)))))))) (JE.d (aj 4)) (fun _ _=>rfl)))) cg)
  (aO (aW (aK tw hr rfl tH tG tF (bX (aj 0) aR)))))))))) hf
noncomputable abbrev ie:Stmt:=top 40
theorem jM:cy ["_law_tape_here","_law_saying_here","_law_way","_law_k"] ["_law_tape_here","_law_saying_here"] (aE ie):=⟨rfl,rfl,rfl,by decide +kernel,rfl,by decide +kernel,by decide +kernel⟩
theorem xr {P:Program}{w:World}{K:PySem.W.Frag}{mg:Str→Option Value}{base:Heap}{f:Addr}{fd:FuncData}{n:Nat}{fm:FM}(F:nN K "_law_grown" "_law_grown" ie f fd) (tK:mg "range" =none)
  {bw:Addr}{cB:FuncData}{aq:FM}(bz:bK P w K mg base eG n bw cB ["_law_tape_here","_law_many"] (spT K 2 aq)) (bA:Binds K cB ["_law_tape_here","_law_many"] []) (bB:PySem.W.keepIn K (.ref bw)=true) (bC:mg "_law_pick" =some (.ref bw))
  (hf:∀us r,fm us=some r→aJ 4 (dZ aq) us=some r):bK P w K mg base eG (n+1) f fd ["_law_tape_here","_law_saying_here"] (spT K 2 fm):=
 qJ (g:=dZ aq) F jM (fun cdv A outer s H E hr=>(aF (cC (i:=2) jM.nd rfl (by first | exact Or.inl rfl | exact Or.inr rfl) (aK bz hr rfl bC bB bA (bX (aj 0) (aD ak aR))))
  (aF (cR (bQ lA (JE.d (aj 2)) ak) (aO (aW (aN (ah (JE.d (nO uU (JE.d (bE (ah aB (ah aB aA)))) (JE.d (aj 2)) (fun _ _=>rfl))) (ah (JE.d (aj 1)) aA))))) cg)
  (aF (cR (bQ (eO hr.units) (JE.d (aj 2)) ak) (aO (aW (aN (ah aB (ah (JE.d (aj 1)) (ah (JE.d (aN (ah aB (ah (JE.d (aN (ah aB aA))) aA)))) aA)))))) cg)
  (aF (cR (bQ (eO hr.units) (JE.d (aj 2)) ak) (aO (aW (aN (ah aB (ah aB (ah aB (ah (JE.d (aN (ah aB (ah aB (ah aB (ah (JE.d (aN (ah aB (ah (JE.d (aN (ah aB (ah (JE.d (aN (ah aB (ah aB aA)))) aA)))) (ah (JE.d (aj 1)) aA))))) aA)))))) aA))))))) cg)
  (aF (cR (bQ (eO hr.units) (JE.d (aj 2)) ak) (aO (aW (aN (ah aB (ah (JE.d (aN (ah aB (ah aB (ah aB (ah (JE.d (aN (ah aB aA))) aA)))))) (ah (JE.d (aN (ah aB (ah (JE.d (aN (ah aB (ah aB aA)))) aA)))) aA)))))) cg)
  (aF (uX PassesOwn.never rfl (xK rfl tK (ah (JE.d (aK bz hr rfl bC bB bA (bX (aj 0) (aD ak aR)))) aA)) (mU (i:=3) jM.nd rfl (by first | exact Or.inl rfl | exact Or.inr rfl)) (aO (cC (i:=1) jM.nd rfl (by first | exact Or.inl rfl | exact Or.inr rfl) (aN (ah aB (ah (JE.d (aj 1)) aA))))))
  (aO (aW (aj 1)))))))))) hf
noncomputable abbrev gC:Stmt:=top 41
theorem oW:cy ["_law_last","_law_two"] ["_law_last"] (aE gC):=⟨rfl,rfl,rfl,by decide +kernel,rfl,by decide +kernel,by decide +kernel⟩
theorem vZ {P:Program}{w:World}{K:PySem.W.Frag}{mg:Str→Option Value}{base:Heap}{f:Addr}{fd:FuncData}{n:Nat}{fm:FM}(F:nN K "_law_beside" "_law_beside" gC f fd)
  (hf:∀us r,fm us=some r→aJ 2 (iA) us=some r):bK P w K mg base eG (n+1) f fd ["_law_last"] (spT K 1 fm):=
 qJ (g:=iA) F oW (fun cdv A outer s H E hr=>(aF (cC (i:=1) oW.nd rfl (by first | exact Or.inl rfl | exact Or.inr rfl) (aN (ah aB (ah (JE.d (aN (ah aB (ah aB (ah aB (ah (JE.d (aN (ah aB aA))) aA)))))) (ah (JE.d (aj 0)) aA)))))
  (aO (aW (aN (ah aB (ah (JE.d (aN (ah aB (ah aB (ah aB (ah (JE.d (aN (ah aB aA))) aA)))))) (ah (JE.d (aN (ah aB (ah (JE.d (aN (ah aB (ah aB (ah aB (ah (JE.d (aN (ah aB (ah (JE.d (aN (ah aB (ah aB aA)))) aA)))) aA)))))) (ah (JE.d (aj 1)) aA))))) aA)))))))) hf
noncomputable abbrev rH:Stmt:=top 42
theorem jZ:cy ["_law_script","_law_things","_law_thing","_law_found","_law_k","_law_tape_here","_law_saying_here","_law_bent_here"] ["_law_script"] (aE rH):=⟨rfl,rfl,rfl,by decide +kernel,rfl,by decide +kernel,by decide +kernel⟩
theorem Lx {P:Program}{w:World}{K:PySem.W.Frag}{mg:Str→Option Value}{base:Heap}{f:Addr}{fd:FuncData}{n:Nat}{fm:FM}(F:nN K "law" "law" rH f fd) (aM:mg "isinstance" =none) (pS:mg "bool" =none) (dO:mg "len" =none) (tK:mg "range" =none) (yt:mg "list" =none)
  {nD:Addr}{rJ:FuncData}{aU:FM}(rK:bK P w K mg base eG n nD rJ ["_law_last"] (spT K 1 aU)) (rL:Binds K rJ ["_law_last"] []) (rM:PySem.W.keepIn K (.ref nD)=true) (rN:mg "_law_beside" =some (.ref nD))
  {qj:Addr}{v5:FuncData}{bu:FM}(qk:bK P w K mg base eG n qj v5 ["thing"] (spT K 1 bu)) (qm:Binds K v5 ["thing"] []) (qo:PySem.W.keepIn K (.ref qj)=true) (qp:mg "is_saying" =some (.ref qj))
  {dR:Addr}{gB:FuncData}{aI:FM}(iE:bK P w K mg base eG n dR gB ["_law_thing","_law_variables","_law_deep","_law_counts"] (spT K 4 aI)) (iF:Binds K gB ["_law_thing","_law_variables","_law_deep","_law_counts"] []) (iG:PySem.W.keepIn K (.ref dR)=true) (iH:mg "_law_is_saying" =some (.ref dR))
  {qq:Addr}{v7:FuncData}{bL:FM}(Cj:bK P w K mg base eG n qq v7 ["_law_script","_law_at"] (spT K 2 bL)) (Ck:Binds K v7 ["_law_script","_law_at"] []) (Cm:PySem.W.keepIn K (.ref qq)=true) (Cn:mg "_law_tape" =some (.ref qq))
  {oX:Addr}{uh:FuncData}{bf:FM}(A0:bK P w K mg base eG n oX uh ["_law_tape_here","_law_names_here","_law_room","_law_deep"] (spT K 4 bf)) (A1:Binds K uh ["_law_tape_here","_law_names_here","_law_room","_law_deep"] []) (A2:PySem.W.keepIn K (.ref oX)=true) (A3:mg "_law_whole" =some (.ref oX))
  {oY:Addr}{um:FuncData}{bg:FM}(A4:bK P w K mg base eG n oY um [] (spT K 0 bg)) (A5:Binds K um [] []) (A6:PySem.W.keepIn K (.ref oY)=true) (A7:mg "_law_names" =some (.ref oY))
  {bw:Addr}{cB:FuncData}{aq:FM}(bz:bK P w K mg base eG n bw cB ["_law_tape_here","_law_many"] (spT K 2 aq)) (bA:Binds K cB ["_law_tape_here","_law_many"] []) (bB:PySem.W.keepIn K (.ref bw)=true) (bC:mg "_law_pick" =some (.ref bw))
  {iM:Addr}{kO:FuncData}{aV:FM}(nv:bK P w K mg base eG n iM kO ["_law_tape_here","_law_thing","_law_deep"] (spT K 3 aV)) (nA:Binds K kO ["_law_tape_here","_law_thing","_law_deep"] []) (nB:PySem.W.keepIn K (.ref iM)=true) (nC:mg "_law_bent" =some (.ref iM))
  {oZ:Addr}{uo:FuncData}{aY:FM}(o7:bK P w K mg base eG n oZ uo ["_law_tape_here","_law_saying_here"] (spT K 2 aY)) (o8:Binds K uo ["_law_tape_here","_law_saying_here"] []) (o9:PySem.W.keepIn K (.ref oZ)=true) (pe:mg "_law_grown" =some (.ref oZ))
  {jE:Addr}{mL:FuncData}{aZ:FM}(tw:bK P w K mg base eG n jE mL ["_law_tape_here"] (spT K 1 aZ)) (tF:Binds K mL ["_law_tape_here"] []) (tG:PySem.W.keepIn K (.ref jE)=true) (tH:mg "_law_odd" =some (.ref jE))
  (hf:∀us r,fm us=some r→aJ 8 (AD aU bu aI bL bf bg aq aV aY aZ) us=some r):bK P w K mg base eG (n+1) f fd ["_law_script"] (spT K 1 fm):=
 qJ (g:=AD aU bu aI bL bf bg aq aV aY aZ) F jZ (fun cdv A outer s H E hr=>(aF (cC (i:=1) jZ.nd rfl (by first | exact Or.inl rfl | exact Or.inr rfl) (bE (ah (JE.d (aK rK hr rfl rN rM rL (aD (JE.d (aN (ah aB aA))) aR))) (ah (JE.d (aK rK hr rfl rN rM rL (aD (JE.d (aN (ah aB (ah aB (ah aB (ah (JE.d (aN (ah aB aA))) aA)))))) aR))) (ah (JE.d (aN (ah (JE.d (bE (ah aB aA))) (ah (JE.d (aN (ah aB aA))) aA)))) (ah (JE.d (aN (ah (JE.d (bE aA)) (ah ak aA)))) (ah (JE.d (bE (ah (JE.d (aN (ah aB aA))) aA))) aA)))))))
  (aF (cC (i:=1) jZ.nd rfl (by first | exact Or.inl rfl | exact Or.inr rfl) (bM cz (JE.d (aj 1)) (JE.d (bE (ah (JE.d (aN (ah aB (ah (JE.d (aN (ah (JE.d (bE (ah aB aA))) aA))) aA)))) (ah (JE.d (aN (ah aB (ah (JE.d (bE (ah aB aA))) aA)))) (ah (JE.d (aN (ah aB (ah (JE.d (aN (ah (JE.d (bE aA)) (ah ak aA)))) aA)))) (ah (JE.d (aN (ah aB (ah (JE.d (bE (ah aB aA))) (ah aB (ah (JE.d (aN (ah aB aA))) aA)))))) aA))))))))
  (aF (uX PassesOwn.never rfl (nP (JE.d (bM cz (JE.d (aj 1)) (JE.d (bE (ah (JE.d (aN (ah aB (ah aB (ah (JE.d (bE (ah aB aA))) (ah (JE.d (aN (ah aB aA))) aA)))))) (ah (JE.d (aN (ah aB (ah (JE.d (bE (ah ak aA))) (ah (JE.d (aN (ah aB aA))) aA))))) (ah (JE.d (aN (ah aB (ah (JE.d (bE (ah (JE.d (aN (ah aB aA))) aA))) aA)))) aA)))))))) (mU (i:=2) jZ.nd rfl (by first | exact Or.inl rfl | exact Or.inr rfl)) (aF (cC (i:=3) jZ.nd rfl (by first | exact Or.inl rfl | exact Or.inr rfl) (aK qk hr rfl qp qo qm (aD (JE.d (aj 2)) aR)))
  (aO (cR (JW.t (iY (gg (eL (cV rfl aM rfl pS PyProof.Rows.Boot.bool (JE.d (aj 3))))) (ez (bQ (rZ hr.units) (JE.d (aj 3)) (JE.d (aK iE hr rfl iH iG iF (aD (JE.d (aj 2)) (aD (JE.d (bE aA)) (aD ak (bX (bE (ah ak (ah ak aA))) aR)))))))))) (aO (aW (JD.e ig))) cg))))
  (aF (uX PassesOwn.never rfl (xK rfl tK (ah (JE.d (bM cz ak (JE.d (lW rX rfl dO PySem.boot_len (ah (JE.d (DK (i:=0) j7 (j8 ak))) aA))))) aA)) (mU (i:=4) jZ.nd rfl (by first | exact Or.inl rfl | exact Or.inr rfl)) (aF (cC (i:=5) jZ.nd rfl (by first | exact Or.inl rfl | exact Or.inr rfl) (aK Cj hr rfl Cn Cm Ck (bX (aj 0) (aD (JE.d (aj 4)) aR))))
  (aF (cC (i:=6) jZ.nd rfl (by first | exact Or.inl rfl | exact Or.inr rfl) (aK A0 hr rfl A3 A2 A1 (bX (aj 5) (aD (JE.d (FO A4 hr rfl A7 A6 A5)) (aD (JE.d (bM cz ak (JE.d (aK bz hr rfl bC bB bA (bX (aj 5) (aD ak aR)))))) (aD (JE.d (bM cz ak (JE.d (aK bz hr rfl bC bB bA (bX (aj 5) (aD ak aR)))))) aR))))))
  (aF (cR (bQ DL (JE.d (aK qk hr rfl qp qo qm (aD (JE.d (aj 6)) aR))) ig) (aO (aW (JD.e ig))) cg)
  (aF (cC (i:=7) jZ.nd rfl (by first | exact Or.inl rfl | exact Or.inr rfl) (aK nv hr rfl nC nB nA (bX (aj 5) (aD (JE.d (aj 6)) (aD ak aR)))))
  (aF (cC (i:=1) jZ.nd rfl (by first | exact Or.inl rfl | exact Or.inr rfl) (bE (ah (JE.d (aj 7)) (ah (JE.d (aK nv hr rfl nC nB nA (bX (aj 5) (aD (JE.d (aj 7)) (aD ak aR))))) (ah (JE.d (aK o7 hr rfl pe o9 o8 (bX (aj 5) (aD (JE.d (aj 6)) aR)))) (ah (JE.d (xH vc rfl yt PyProof.Rows.Boot.list (ah (JE.d (aj 6)) aA))) (ah (JE.d (aK tw hr rfl tH tG tF (bX (aj 5) aR))) aA)))))))
  (aO (uX PassesOwn.never rfl (nP (JE.d (bM cz (JE.d (aj 1)) (JE.d (bE (ah (JE.d (aK o7 hr rfl pe o9 o8 (bX (aj 5) (aD (JE.d (aK o7 hr rfl pe o9 o8 (bX (aj 5) (aD (JE.d (aj 6)) aR)))) aR)))) aA)))))) (mU (i:=2) jZ.nd rfl (by first | exact Or.inl rfl | exact Or.inr rfl)) (aF (cC (i:=3) jZ.nd rfl (by first | exact Or.inl rfl | exact Or.inr rfl) (aK qk hr rfl qp qo qm (aD (JE.d (aj 2)) aR)))
  (aO (cR (JW.t (iY (gg (eL (cV rfl aM rfl pS PyProof.Rows.Boot.bool (JE.d (aj 3))))) (ez (bQ (rZ hr.units) (JE.d (aj 3)) (JE.d (aK iE hr rfl iH iG iF (aD (JE.d (aj 2)) (aD (JE.d (bE aA)) (aD ak (bX (bE (ah ak (ah ak aA))) aR)))))))))) (aO (aW (JD.e ig))) cg)))))))))))
  (aO (aW (JD.e ig)))))))) hf
end K05
end
set_option Elab.async false
set_option linter.all false
set_option maxRecDepth 100000
namespace K05
open PySem L2 Sw Ss
set_option maxHeartbeats 0 in
theorem all_mk {l:PySem.W.OpenLaw}{w:World}{K:PySem.W.Frag}{h:Heap}{mg:Str→Option Value}{fa f1 f2 f3 f4 f5 f6 f7 f8 f9 Bk f11 Ua Ub Uc Ud Ue Ug Uh Qw Qx Ui Uj Uk Qy Ul Qz Um Uo Up:Addr}(X:K.In h) (G:h.Ns mainGlobals mg) (Ng:mg "law" =some (.ref fa))
  {od1 an1 od2 an2 od3 an3 od4 an4 od5 an5 od6 an6 od7 an7 od8 Yh od9 Yi Uq Ur Us Ut Uu Uv Uw Ux Uy Uz UA UB UC UD UE UG UH UI UJ Om UK Oo UL UM UN UO UP UQ UR Oq US UT UU Ot UW UX UY UZ U0 Ou:Option Addr}{sl1 sl2 sl3 sl4 sl5 sl6 sl7 sl8 sl9 U1 U3 U4 U5 U6 U7 U8 U9 Va Vb Vc Vd Ve Vf Vg Vh Vi Vj Vk Vl:Array (Option Value)} {oc1 kV1 dc1 pm1 Yj ct1 oc2 kV2 dc2 pm2 Yk ct2 oc3 kV3 dc3 pm3 Yl ct3 oc4 kV4 dc4 pm4 Ym ct4 oc5 kV5 dc5 pm5 Yn ct5 oc6 kV6 dc6 pm6 Yo ct6 oc7 kV7 dc7 pm7 Yp ct7 oc8 Yq Yr Ys Vm Yt oc9 Yu Yv Yw Vn Yx Vo Vp Vq Vr Ov Vs Vt Vu Vv Vw Ow Vx Vy Vz VA VB Ox VC VD VE VF VG Oz VH VI VJ VL VM OA VN VO VP VQ VR OB VS VT VU VW VX OC VY VZ V0 V1 V2 OD V3 V4 V5 V6 V7 OE V8 V9 OF OG OH Ly OI Wa OJ OL OM Lz ON Wb Wc Wd We OO Wf Wg Wh Wi Wj OP Wk Wl Wm Wn Wo OQ Wq Wr OR OS OT LA OU Ws Wt Wu Wv OV Ww Wx OW OX OY LB OZ Wy Wz WA WB O0 WC WD WE WG WH O1 WI WJ O2 O3 O4 LC O5:Value}{lH vM jv jA nk lK lN:Tok}{pJ:Addr}{A8:List DictEntry}{GN:Nat}{gP:Addr}{tL:List Value}{Er:Nat}{Es:Option Addr}{Et:Array (Option Value)}{mJ:Addr}{yu:List DictEntry}{Eu:Nat}
  (a1:PySem.W.nsIn K mainGlobals "is_whole" =some (some (.ref f1))) (l1:K.lookup f1=some ⟨oc1,od1,.func (PySem.W.fnOf "is_whole" "is_whole" (bO jq) (bH jq) (aE jq) .none kV1 dc1 pm1 an1 Yj ct1),sl1⟩) (c1:PySem.W.codeIn K Yj "is_whole" =true) (k1:PySem.W.keepIn K (.ref f1)=true)
  (a2:PySem.W.nsIn K mainGlobals "is_tuple" =some (some (.ref f2))) (l2:K.lookup f2=some ⟨oc2,od2,.func (PySem.W.fnOf "is_tuple" "is_tuple" (bO jr) (bH jr) (aE jr) .none kV2 dc2 pm2 an2 Yk ct2),sl2⟩) (c2:PySem.W.codeIn K Yk "is_tuple" =true) (k2:PySem.W.keepIn K (.ref f2)=true)
  (a3:PySem.W.nsIn K mainGlobals "is_name" =some (some (.ref f3))) (l3:K.lookup f3=some ⟨oc3,od3,.func (PySem.W.fnOf "is_name" "is_name" (bO kq) (bH kq) (aE kq) .none kV3 dc3 pm3 an3 Yl ct3),sl3⟩) (c3:PySem.W.codeIn K Yl "is_name" =true) (k3:PySem.W.keepIn K (.ref f3)=true)
  (a4:PySem.W.nsIn K mainGlobals "is_test_among" =some (some (.ref f4))) (l4:K.lookup f4=some ⟨oc4,od4,.func (PySem.W.fnOf "is_test_among" "is_test_among" (bO ff) (bH ff) (aE ff) .none kV4 dc4 pm4 an4 Ym ct4),sl4⟩) (c4:PySem.W.codeIn K Ym "is_test_among" =true) (k4:PySem.W.keepIn K (.ref f4)=true)
  (a5:PySem.W.nsIn K mainGlobals "parts_of" =some (some (.ref f5))) (l5:K.lookup f5=some ⟨oc5,od5,.func (PySem.W.fnOf "parts_of" "parts_of" (bO jz) (bH jz) (aE jz) .none kV5 dc5 pm5 an5 Yn ct5),sl5⟩) (c5:PySem.W.codeIn K Yn "parts_of" =true) (k5:PySem.W.keepIn K (.ref f5)=true)
  (a6:PySem.W.nsIn K mainGlobals "bound_within" =some (some (.ref f6))) (l6:K.lookup f6=some ⟨oc6,od6,.func (PySem.W.fnOf "bound_within" "bound_within" (bO fT) (bH fT) (aE fT) .none kV6 dc6 pm6 an6 Yo ct6),sl6⟩) (c6:PySem.W.codeIn K Yo "bound_within" =true) (k6:PySem.W.keepIn K (.ref f6)=true)
  (a7:PySem.W.nsIn K mainGlobals "is_shaped" =some (some (.ref f7))) (l7:K.lookup f7=some ⟨oc7,od7,.func (PySem.W.fnOf "is_shaped" "is_shaped" (bO iR) (bH iR) (aE iR) .none kV7 dc7 pm7 an7 Yp ct7),sl7⟩) (c7:PySem.W.codeIn K Yp "is_shaped" =true) (k7:PySem.W.keepIn K (.ref f7)=true)
  (a8:PySem.W.nsIn K mainGlobals "is_formed" =some (some (.ref f8))) (l8:K.lookup f8=some ⟨oc8,od8,.func (PySem.W.fnOf "is_formed" "is_formed" (bO fB) (bH fB) (aE fB) .none Yq Yr Ys Yh Vm Yt),sl8⟩) (c8:PySem.W.codeIn K Vm "is_formed" =true) (k8:PySem.W.keepIn K (.ref f8)=true)
  (a9:PySem.W.nsIn K mainGlobals "all_in" =some (some (.ref f9))) (l9:K.lookup f9=some ⟨oc9,od9,.func (PySem.W.fnOf "all_in" "all_in" (bO i9) (bH i9) (aE i9) .none Yu Yv Yw Yi Vn Yx),sl9⟩) (c9:PySem.W.codeIn K Vn "all_in" =true) (k9:PySem.W.keepIn K (.ref f9)=true)
  (a10:PySem.W.nsIn K mainGlobals "binders_in" =some (some (.ref Bk))) (WK:K.lookup Bk=some ⟨Vo,Uq,.func (PySem.W.fnOf "binders_in" "binders_in" (bO gZ) (bH gZ) (aE gZ) .none Vp Vq Vr Ur Ov Vs),U1⟩) (WL:PySem.W.codeIn K Ov "binders_in" =true) (QA:PySem.W.keepIn K (.ref Bk)=true)
  (a11:PySem.W.nsIn K mainGlobals "is_saying" =some (some (.ref f11))) (WM:K.lookup f11=some ⟨Vt,Us,.func (PySem.W.fnOf "is_saying" "is_saying" (bO iS) (bH iS) (aE iS) .none Vu Vv Vw Ut Ow Vx),U3⟩) (WN:PySem.W.codeIn K Ow "is_saying" =true) (QB:PySem.W.keepIn K (.ref f11)=true)
  (a12:PySem.W.nsIn K mainGlobals "size" =some (some (.ref Ua))) (WO:K.lookup Ua=some ⟨Vy,Uu,.func (PySem.W.fnOf "size" "size" (bO sZ) (bH sZ) (aE sZ) .none Vz VA VB Uv Ox VC),U4⟩) (c12:PySem.W.codeIn K Ox "size" =true) (Kz:PySem.W.keepIn K (.ref Ua)=true)
  (a13:PySem.W.nsIn K mainGlobals "_law_tape" =some (some (.ref Ub))) (WQ:K.lookup Ub=some ⟨VD,Uw,.func (PySem.W.fnOf "_law_tape" "_law_tape" (bO iT) (bH iT) (aE iT) .none VE VF VG Ux Oz VH),U5⟩) (WR:PySem.W.codeIn K Oz "_law_tape" =true) (QC:PySem.W.keepIn K (.ref Ub)=true)
  (a14:PySem.W.nsIn K mainGlobals "_law_pick" =some (some (.ref Uc))) (WS:K.lookup Uc=some ⟨VI,Uy,.func (PySem.W.fnOf "_law_pick" "_law_pick" (bO iU) (bH iU) (aE iU) .none VJ VL VM Uz OA VN),U6⟩) (WT:PySem.W.codeIn K OA "_law_pick" =true) (G0:PySem.W.keepIn K (.ref Uc)=true)
  (a15:PySem.W.nsIn K mainGlobals "_law_is_name" =some (some (.ref Ud))) (WU:K.lookup Ud=some ⟨VO,UA,.func (PySem.W.fnOf "_law_is_name" "_law_is_name" (bO fU) (bH fU) (aE fU) .none VP VQ VR UB OB VS),U7⟩) (WV:PySem.W.codeIn K OB "_law_is_name" =true) (O6:PySem.W.keepIn K (.ref Ud)=true)
  (a16:PySem.W.nsIn K mainGlobals "_law_whole_to" =some (some (.ref Ue))) (WW:K.lookup Ue=some ⟨VT,UC,.func (PySem.W.fnOf "_law_whole_to" "_law_whole_to" (bO fh) (bH fh) (aE fh) .none VU VW VX UD OC VY),U8⟩) (GY:PySem.W.codeIn K OC "_law_whole_to" =true) (Mg:PySem.W.keepIn K (.ref Ue)=true)
  (a17:PySem.W.nsIn K mainGlobals "_law_names" =some (some (.ref Ug))) (WX:K.lookup Ug=some ⟨VZ,UE,.func (PySem.W.fnOf "_law_names" "_law_names" (bO g8) (bH g8) (aE g8) .none V0 V1 V2 UG OD V3),U9⟩) (WY:PySem.W.codeIn K OD "_law_names" =true) (QD:PySem.W.keepIn K (.ref Ug)=true)
  (a18:PySem.W.nsIn K mainGlobals "_law_test" =some (some (.ref Uh))) (WZ:K.lookup Uh=some ⟨V4,UH,.func (PySem.W.fnOf "_law_test" "_law_test" (bO iV) (bH iV) (aE iV) .none V5 V6 V7 UI OE V8),Va⟩) (W0:PySem.W.codeIn K OE "_law_test" =true) (QE:PySem.W.keepIn K (.ref Uh)=true)
  (a19:PySem.W.nsIn K mainGlobals "_law_inner" =some (some (.ref Qw))) (W2:K.lookup Qw=some ⟨V9,UJ,.func (PySem.W.fnOf "_law_inner" "_law_inner" (bO d7) (bH d7) (aE d7) .none OF OG OH Om Ly OI),Vb⟩) (W3:PySem.W.codeIn K Ly "_law_inner" =true) (QF:PySem.W.keepIn K (.ref Qw)=true)
  (a20:PySem.W.nsIn K mainGlobals "_law_saying" =some (some (.ref Qx))) (W4:K.lookup Qx=some ⟨Wa,UK,.func (PySem.W.fnOf "_law_saying" "_law_saying" (bO dG) (bH dG) (aE dG) .none OJ OL OM Oo Lz ON),Vc⟩) (W5:PySem.W.codeIn K Lz "_law_saying" =true) (Mh:PySem.W.keepIn K (.ref Qx)=true)
  (a21:PySem.W.nsIn K mainGlobals "_law_whole" =some (some (.ref Ui))) (W6:K.lookup Ui=some ⟨Wb,UL,.func (PySem.W.fnOf "_law_whole" "_law_whole" (bO g9) (bH g9) (aE g9) .none Wc Wd We UM OO Wf),Vd⟩) (W7:PySem.W.codeIn K OO "_law_whole" =true) (QG:PySem.W.keepIn K (.ref Ui)=true)
  (a22:PySem.W.nsIn K mainGlobals "_law_shape" =some (some (.ref Uj))) (W8:K.lookup Uj=some ⟨Wg,UN,.func (PySem.W.fnOf "_law_shape" "_law_shape" (bO ia) (bH ia) (aE ia) .none Wh Wi Wj UO OP Wk),Ve⟩) (W9:PySem.W.codeIn K OP "_law_shape" =true) (QH:PySem.W.keepIn K (.ref Uj)=true)
  (a23:PySem.W.nsIn K mainGlobals "_law_is_test" =some (some (.ref Uk))) (Xa:K.lookup Uk=some ⟨Wl,UP,.func (PySem.W.fnOf "_law_is_test" "_law_is_test" (bO fV) (bH fV) (aE fV) .none Wm Wn Wo UQ OQ Wq),Vf⟩) (Xb:PySem.W.codeIn K OQ "_law_is_test" =true) (QI:PySem.W.keepIn K (.ref Uk)=true)
  (a24:PySem.W.nsIn K mainGlobals "_law_is_saying" =some (some (.ref Qy))) (Xc:K.lookup Qy=some ⟨Wr,UR,.func (PySem.W.fnOf "_law_is_saying" "_law_is_saying" (bO cQ) (bH cQ) (aE cQ) .none OR OS OT Oq LA OU),Vg⟩) (Xd:PySem.W.codeIn K LA "_law_is_saying" =true) (O7:PySem.W.keepIn K (.ref Qy)=true)
  (a25:PySem.W.nsIn K mainGlobals "_law_odd" =some (some (.ref Ul))) (Xe:K.lookup Ul=some ⟨Ws,US,.func (PySem.W.fnOf "_law_odd" "_law_odd" (bO jD) (bH jD) (aE jD) .none Wt Wu Wv UT OV Ww),Vh⟩) (Xf:PySem.W.codeIn K OV "_law_odd" =true) (O8:PySem.W.keepIn K (.ref Ul)=true)
  (a26:PySem.W.nsIn K mainGlobals "_law_bent" =some (some (.ref Qz))) (Xg:K.lookup Qz=some ⟨Wx,UU,.func (PySem.W.fnOf "_law_bent" "_law_bent" (bO fE) (bH fE) (aE fE) .none OW OX OY Ot LB OZ),Vi⟩) (Xh:PySem.W.codeIn K LB "_law_bent" =true) (O9:PySem.W.keepIn K (.ref Qz)=true)
  (a27:PySem.W.nsIn K mainGlobals "_law_grown" =some (some (.ref Um))) (Xi:K.lookup Um=some ⟨Wy,UW,.func (PySem.W.fnOf "_law_grown" "_law_grown" (bO ie) (bH ie) (aE ie) .none Wz WA WB UX O0 WC),Vj⟩) (Xj:PySem.W.codeIn K O0 "_law_grown" =true) (QK:PySem.W.keepIn K (.ref Um)=true)
  (a28:PySem.W.nsIn K mainGlobals "_law_beside" =some (some (.ref Uo))) (Xk:K.lookup Uo=some ⟨WD,UY,.func (PySem.W.fnOf "_law_beside" "_law_beside" (bO gC) (bH gC) (aE gC) .none WE WG WH UZ O1 WI),Vk⟩) (Xl:PySem.W.codeIn K O1 "_law_beside" =true) (QL:PySem.W.keepIn K (.ref Uo)=true)
  (a29:PySem.W.nsIn K mainGlobals "law" =some (some (.ref Up))) (Xm:K.lookup Up=some ⟨WJ,U0,.func (PySem.W.fnOf "law" "law" (bO rH) (bH rH) (aE rH) .none O2 O3 O4 Ou LC O5),Vl⟩) (Xn:PySem.W.codeIn K LC "law" =true) (Xo:PySem.W.keepIn K (.ref Up)=true)
  (lQ:PySem.W.nsIn K mainGlobals "LONGEST_NAME" =some (some (.int 8 lH)))
  (v8:PySem.W.nsIn K mainGlobals "LETTERS" =some (some (.str "abcdefghijklmnopqrstuvwxyz" vM)))
  (jF:PySem.W.nsIn K mainGlobals "GREATEST_NUMBER" =some (some (.int 9 jv)))
  (zD:PySem.W.nsIn K mainGlobals "STARTS" =some (some (.ref pJ))) (zE:K.lookup pJ=some ⟨.type "dict",none,.dict A8.toArray GN,#[]⟩) (zF:(pJ == sysModules)=false) (zG:r9 w [("yes",1),("no",1),("now",2),("not",1),("both",1),("either",1),("next",1),("till",1),("within",2),("always",1),("some",1),("each",3),("one",3)] A8)
  (v9:PySem.W.nsIn K mainGlobals "BINDERS" =some (some (.ref gP))) (wc:K.lookup gP=some ⟨.type "tuple",Es,.seq tL.toArray Er,Et⟩) (we:tL.length≤1000) (wg:zb ["each","one"] tL)
  (wj:PySem.W.nsIn K mainGlobals "LENGTHS" =some (some (.ref mJ))) (wk:K.lookup mJ=some ⟨.type "dict",none,.dict yu.toArray Eu,#[]⟩) (wm:(mJ == sysModules)=false) (wu:r9 w [("yes",1),("no",1),("now",2),("not",2),("both",3),("either",3),("next",2),("till",3),("within",3),("always",2),("some",2),("each",4),("one",4)] yu)
  (jG:PySem.W.nsIn K mainGlobals "GREATEST_WITHIN" =some (some (.int 5 jA)))
  (nF:PySem.W.nsIn K mainGlobals "MOST_WITHIN" =some (some (.int 8 nk)))
  (lR:PySem.W.nsIn K mainGlobals "MOST_SAYINGS" =some (some (.int 16 lK)))
  (lT:PySem.W.nsIn K mainGlobals "MOST_BINDERS" =some (some (.int 3 lN)))
  (pq:PySem.W.nsIn K mainGlobals "isinstance" =some none) (LD:PySem.W.nsIn K mainGlobals "int" =some none) (GO:PySem.W.nsIn K mainGlobals "bool" =some none) (Co:PySem.W.nsIn K mainGlobals "tuple" =some none) (LF:PySem.W.nsIn K mainGlobals "len" =some none) (LG:PySem.W.nsIn K mainGlobals "str" =some none) (LH:PySem.W.nsIn K mainGlobals "all" =some none) (LI:PySem.W.nsIn K mainGlobals "max" =some none) (GP:PySem.W.nsIn K mainGlobals "list" =some none) (Cp:PySem.W.nsIn K mainGlobals "range" =some none):
  ∃fd:FuncData,(∀(s:Shared) (v:Value),BindsTo s fd ⟨[v],[]⟩ [("_law_script",v)])∧∀base:Heap,K.In base→base.Ns mainGlobals mg→bK l.prog w K mg base eG 21 fa fd ["_law_script"] (spT K 1 (BR 63)):=by
 have e:=Ng.symm.trans (PySem.W.mg_of X G a29)
 cases e
 have F1:=dj (st:=jq) l1 c1 k1
 have b1:=F1.binds (ps:=["thing","least","most"]) fun _ _ _ _ _ _ us hl=>match us,hl with | [_,_,_],_=>rfl
 have n1:=PySem.W.mg_of X G a1
 have F2:=dj (st:=jr) l2 c2 k2
 have b2:=F2.binds (ps:=["thing","least","most"]) fun _ _ _ _ _ _ us hl=>match us,hl with | [_,_,_],_=>rfl
 have n2:=PySem.W.mg_of X G a2
 have F3:=dj (st:=kq) l3 c3 k3
 have b3:=F3.binds (ps:=["thing"]) fun _ _ _ _ _ _ us hl=>match us,hl with | [_],_=>rfl
 have n3:=PySem.W.mg_of X G a3
 have F4:=dj (st:=ff) l4 c4 k4
 have b4:=F4.binds (ps:=["thing","bound"]) fun _ _ _ _ _ _ us hl=>match us,hl with | [_,_],_=>rfl
 have n4:=PySem.W.mg_of X G a4
 have F5:=dj (st:=jz) l5 c5 k5
 have b5:=F5.binds (ps:=["saying"]) fun _ _ _ _ _ _ us hl=>match us,hl with | [_],_=>rfl
 have n5:=PySem.W.mg_of X G a5
 have F6:=dj (st:=fT) l6 c6 k6
 have b6:=F6.binds (ps:=["saying","bound"]) fun _ _ _ _ _ _ us hl=>match us,hl with | [_,_],_=>rfl
 have n6:=PySem.W.mg_of X G a6
 have F7:=dj (st:=iR) l7 c7 k7
 have b7:=F7.binds (ps:=["thing","bound"]) fun _ _ _ _ _ _ us hl=>match us,hl with | [_,_],_=>rfl
 have n7:=PySem.W.mg_of X G a7
 have F8:=dj (st:=fB) l8 c8 k8
 have b8:=F8.binds (ps:=["thing","bound","room"]) fun _ _ _ _ _ _ us hl=>match us,hl with | [_,_,_],_=>rfl
 have n8:=PySem.W.mg_of X G a8
 have F9:=dj (st:=i9) l9 c9 k9
 have b9:=F9.binds (ps:=["saying"]) fun _ _ _ _ _ _ us hl=>match us,hl with | [_],_=>rfl
 have n9:=PySem.W.mg_of X G a9
 have Yy:=dj (st:=gZ) WK WL QA
 have b10:=Yy.binds (ps:=["saying"]) fun _ _ _ _ _ _ us hl=>match us,hl with | [_],_=>rfl
 have n10:=PySem.W.mg_of X G a10
 have Yz:=dj (st:=iS) WM WN QB
 have b11:=Yz.binds (ps:=["thing"]) fun _ _ _ _ _ _ us hl=>match us,hl with | [_],_=>rfl
 have n11:=PySem.W.mg_of X G a11
 have YA:=dj (st:=sZ) WO c12 Kz
 have b12:=YA.binds (ps:=["saying"]) fun _ _ _ _ _ _ us hl=>match us,hl with | [_],_=>rfl
 have n12:=PySem.W.mg_of X G a12
 have YB:=dj (st:=iT) WQ WR QC
 have b13:=YB.binds (ps:=["_law_script","_law_at"]) fun _ _ _ _ _ _ us hl=>match us,hl with | [_,_],_=>rfl
 have n13:=PySem.W.mg_of X G a13
 have YC:=dj (st:=iU) WS WT G0
 have LJ:=YC.binds (ps:=["_law_tape_here","_law_many"]) fun _ _ _ _ _ _ us hl=>match us,hl with | [_,_],_=>rfl
 have LK:=PySem.W.mg_of X G a14
 have YD:=dj (st:=fU) WU WV O6
 have YE:=YD.binds (ps:=["_law_thing"]) fun _ _ _ _ _ _ us hl=>match us,hl with | [_],_=>rfl
 have YF:=PySem.W.mg_of X G a15
 have YG:=dj (st:=fh) WW GY Mg
 have Xp:=YG.binds (ps:=["_law_thing","_law_most"]) fun _ _ _ _ _ _ us hl=>match us,hl with | [_,_],_=>rfl
 have Xq:=PySem.W.mg_of X G a16
 have YH:=dj (st:=g8) WX WY QD
 have b17:=YH.binds (ps:=[]) fun _ _ _ _ _ _ us hl=>match us,hl with | [],_=>rfl
 have n17:=PySem.W.mg_of X G a17
 have YI:=dj (st:=iV) WZ W0 QE
 have b18:=YI.binds (ps:=["_law_tape_here","_law_names_here","_law_variables"]) fun _ _ _ _ _ _ us hl=>match us,hl with | [_,_,_],_=>rfl
 have n18:=PySem.W.mg_of X G a18
 have YJ:=dj (st:=d7) W2 W3 QF
 have b19:=YJ.binds (ps:=["_law_tape_here","_law_world","_law_variables","_law_room","_law_deep"]) fun _ _ _ _ _ _ us hl=>match us,hl with | [_,_,_,_,_],_=>rfl
 have n19:=PySem.W.mg_of X G a19
 have YK:=dj (st:=dG) W4 W5 Mh
 have Xr:=YK.binds (ps:=["_law_tape_here","_law_world","_law_variables","_law_room","_law_deep"]) fun _ _ _ _ _ _ us hl=>match us,hl with | [_,_,_,_,_],_=>rfl
 have Xs:=PySem.W.mg_of X G a20
 have YL:=dj (st:=g9) W6 W7 QG
 have b21:=YL.binds (ps:=["_law_tape_here","_law_names_here","_law_room","_law_deep"]) fun _ _ _ _ _ _ us hl=>match us,hl with | [_,_,_,_],_=>rfl
 have n21:=PySem.W.mg_of X G a21
 have YM:=dj (st:=ia) W8 W9 QH
 have b22:=YM.binds (ps:=["_law_head"]) fun _ _ _ _ _ _ us hl=>match us,hl with | [_],_=>rfl
 have n22:=PySem.W.mg_of X G a22
 have YN:=dj (st:=fV) Xa Xb QI
 have b23:=YN.binds (ps:=["_law_thing","_law_variables"]) fun _ _ _ _ _ _ us hl=>match us,hl with | [_,_],_=>rfl
 have n23:=PySem.W.mg_of X G a23
 have YO:=dj (st:=cQ) Xc Xd O7
 have YQ:=YO.binds (ps:=["_law_thing","_law_variables","_law_deep","_law_counts"]) fun _ _ _ _ _ _ us hl=>match us,hl with | [_,_,_,_],_=>rfl
 have YR:=PySem.W.mg_of X G a24
 have YS:=dj (st:=jD) Xe Xf O8
 have YT:=YS.binds (ps:=["_law_tape_here"]) fun _ _ _ _ _ _ us hl=>match us,hl with | [_],_=>rfl
 have YU:=PySem.W.mg_of X G a25
 have YV:=dj (st:=fE) Xg Xh O9
 have YW:=YV.binds (ps:=["_law_tape_here","_law_thing","_law_deep"]) fun _ _ _ _ _ _ us hl=>match us,hl with | [_,_,_],_=>rfl
 have YX:=PySem.W.mg_of X G a26
 have YY:=dj (st:=ie) Xi Xj QK
 have b27:=YY.binds (ps:=["_law_tape_here","_law_saying_here"]) fun _ _ _ _ _ _ us hl=>match us,hl with | [_,_],_=>rfl
 have n27:=PySem.W.mg_of X G a27
 have YZ:=dj (st:=gC) Xk Xl QL
 have b28:=YZ.binds (ps:=["_law_last"]) fun _ _ _ _ _ _ us hl=>match us,hl with | [_],_=>rfl
 have n28:=PySem.W.mg_of X G a28
 have F29:=dj (st:=rH) Xm Xn Xo
 have aM:=PySem.W.mg_none_of X G pq
 have En:=PySem.W.mg_none_of X G LD
 have pS:=PySem.W.mg_none_of X G GO
 have ju:=PySem.W.mg_none_of X G Co
 have dO:=PySem.W.mg_none_of X G LF
 have nj:=PySem.W.mg_none_of X G LG
 have Eo:=PySem.W.mg_none_of X G LH
 have Lw:=PySem.W.mg_none_of X G LI
 have yt:=PySem.W.mg_none_of X G GP
 have tK:=PySem.W.mg_none_of X G Cp
 have lI:=PySem.W.mg_of X G lQ
 have vN:=PySem.W.mg_of X G v8
 have jw:=PySem.W.mg_of X G jF
 have zp:=PySem.W.mg_of X G zD
 have zq:=C2 (P:=l.prog) zE zF zG
 have i7:=PySem.W.mg_of X G v9
 have i8:=HZ wc we wg
 have vO:=PySem.W.mg_of X G wj
 have vP:=C2 (P:=l.prog) wk wm wu
 have jB:=PySem.W.mg_of X G jG
 have nq:=PySem.W.mg_of X G nF
 have lM:=PySem.W.mg_of X G lR
 have lO:=PySem.W.mg_of X G lT
 refine⟨PySem.W.fnOf "law" "law" (bO rH) (bH rH) (aE rH) .none O2 O3 O4 Ou LC O5,fun s v=>.of_eq rfl,fun base _ _=>?_⟩
 have yw:=AG (P:=l.prog) (w:=w) (K:=K) (mg:=mg) (base:=base) (n:=0) F1 aM En pS (fm:=nZ) whole_run
 have yx:=AI (P:=l.prog) (w:=w) (K:=K) (mg:=mg) (base:=base) (n:=0) F2 aM ju dO (fm:=oh) DQ
 have A9:=B9 (P:=l.prog) (w:=w) (K:=K) (mg:=mg) (base:=base) (n:=0) F3 aM nj dO Eo lI vN (fm:=j0) Ge
 have yy:=AK (P:=l.prog) (w:=w) (K:=K) (mg:=mg) (base:=base) (n:=0) F5 zp zq (fm:=lD) DW
 have xu:=uz (P:=l.prog) (w:=w) (K:=K) (mg:=mg) (base:=base) (n:=0) F6 i7 i8 (fm:=m9) DX
 have Cq:=zz (P:=l.prog) (w:=w) (K:=K) (mg:=mg) (base:=base) (n:=0) YB dO Lw (fm:=vn) FW
 have iN:=zA (P:=l.prog) (w:=w) (K:=K) (mg:=mg) (base:=base) (n:=0) YC (fm:=fO) pick_run
 have pX:=uB (P:=l.prog) (w:=w) (K:=K) (mg:=mg) (base:=base) (n:=0) YD aM nj dO (fm:=j0) zc
 have kP:=tu (P:=l.prog) (w:=w) (K:=K) (mg:=mg) (base:=base) (n:=0) YG aM En pS (fm:=cL) Am
 have Ba:=wY (P:=l.prog) (w:=w) (K:=K) (mg:=mg) (base:=base) (n:=0) YH (fm:=sf) DR
 have Bb:=xg (P:=l.prog) (w:=w) (K:=K) (mg:=mg) (base:=base) (n:=0) YM (fm:=oF) D6
 have zH:=vZ (P:=l.prog) (w:=w) (K:=K) (mg:=mg) (base:=base) (n:=0) YZ (fm:=pI) B5
 have wA:=sJ (P:=l.prog) (w:=w) (K:=K) (mg:=mg) (base:=base) (n:=1) F4 dO jw (yx.mono (by omega)) b2 k2 n2 (A9.mono (by omega)) b3 k3 n3 (yw.mono (by omega)) b1 k1 n1 (fm:=mD) Gg
 have Cr:=zB (P:=l.prog) (w:=w) (K:=K) (mg:=mg) (base:=base) (n:=1) YI dO (iN.mono (by omega)) LJ G0 LK (fm:=kJ) Eb
 have xw:=uD (P:=l.prog) (w:=w) (K:=K) (mg:=mg) (base:=base) (n:=1) YN aM ju dO nj (pX.mono (by omega)) YE O6 YF (kP.mono (by omega)) Xp Mg Xq (fm:=gm) D8
 have yz:=AZ (P:=l.prog) (w:=w) (K:=K) (mg:=mg) (base:=base) (n:=1) YS (iN.mono (by omega)) LJ G0 LK (fm:=qV) Ih
 have Bc:=xr (P:=l.prog) (w:=w) (K:=K) (mg:=mg) (base:=base) (n:=1) YY tK (iN.mono (by omega)) LJ G0 LK (fm:=lG) Ej
 have Cs:=zu (P:=l.prog) (w:=w) (K:=K) (mg:=mg) (base:=base) (n:=2) F7 aM nj dO vO vP jB i7 i8 (yx.mono (by omega)) b2 k2 n2 (wA.mono (by omega)) b4 k4 n4 (yw.mono (by omega)) b1 k1 n1 (A9.mono (by omega)) b3 k3 n3 (fm:=eZ) BV
 have Ct:∀j:Nat,bK l.prog w K mg base eG (j+2) Qz (PySem.W.fnOf "_law_bent" "_law_bent" (bO fE) (bH fE) (aE fE) .none OW OX OY Ot LB OZ) ["_law_tape_here","_law_thing","_law_deep"] (spT K 3 (gD j)):=by
  intro j
  induction j with
  | zero=>exact sA Ao
  | succ j ih=>exact(zC (P:=l.prog) (w:=w) (K:=K) (mg:=mg) (base:=base) (n:=j+2) YV aM ju dO yt nj (iN.mono (by omega)) LJ G0 LK ih YW O9 YX (kP.mono (by omega)) Xp Mg Xq (yz.mono (by omega)) YT O8 YU (FZ j)).mono (by omega)
 have Cu:=Ct 7
 have IP:∀j:Nat,bK l.prog w K mg base eG (j+1) f9 (PySem.W.fnOf "all_in" "all_in" (bO i9) (bH i9) (aE i9) .none Yu Yv Yw Yi Vn Yx) ["saying"] (spT K 1 (vB j)):=by
  intro j
  induction j with
  | zero=>exact sA Ek
  | succ j ih=>exact(Ep (P:=l.prog) (w:=w) (K:=K) (mg:=mg) (base:=base) (n:=j+1) F9 (yy.mono (by omega)) b5 k5 n5 ih b9 k9 n9 (Iq j)).mono (by omega)
 have Dc:=IP 9
 have Bd:=wW (P:=l.prog) (w:=w) (K:=K) (mg:=mg) (base:=base) (n:=10) Yy dO i7 i8 (Dc.mono (by omega)) b9 k9 n9 (fm:=yi) Gn
 have Pa:=IM (P:=l.prog) (w:=w) (K:=K) (mg:=mg) (base:=base) (n:=10) YA dO (Dc.mono (by omega)) b9 k9 n9 (fm:=yh) Gm
 have Cv:∀j:Nat,bK l.prog w K mg base eG (j+3) f8 (PySem.W.fnOf "is_formed" "is_formed" (bO fB) (bH fB) (aE fB) .none Yq Yr Ys Yh Vm Yt) ["thing","bound","room"] (spT K 3 (oB j)):=by
  intro j
  induction j with
  | zero=>exact sA B6
  | succ j ih=>exact(zw (P:=l.prog) (w:=w) (K:=K) (mg:=mg) (base:=base) (n:=j+3) F8 Eo (Cs.mono (by omega)) b7 k7 n7 (xu.mono (by omega)) b6 k6 n6 (yy.mono (by omega)) b5 k5 n5 ih b8 k8 n8 (Gj j)).mono (by omega)
 have Cw:=Cv 9
 have uE:∀j:Nat,bK l.prog w K mg base eG (j+2) Qy (PySem.W.fnOf "_law_is_saying" "_law_is_saying" (bO cQ) (bH cQ) (aE cQ) .none OR OS OT Oq LA OU) ["_law_thing","_law_variables","_law_deep","_law_counts"] (spT K 4 (oJ j)):=by
  intro j
  induction j with
  | zero=>exact sA B7
  | succ j ih=>exact(rG (P:=l.prog) (w:=w) (K:=K) (mg:=mg) (base:=base) (n:=j+2) YO aM ju dO nj (Bb.mono (by omega)) b22 QH n22 (xw.mono (by omega)) b23 QI n23 (kP.mono (by omega)) Xp Mg Xq (pX.mono (by omega)) YE O6 YF ih YQ O7 YR (Gs j)).mono (by omega)
 have uF:=uE 10
 have Cy:=zy (P:=l.prog) (w:=w) (K:=K) (mg:=mg) (base:=base) (n:=12) Yz nq lM lO (Cw.mono (by omega)) b8 k8 n8 (Pa.mono (by omega)) b12 Kz n12 (Bd.mono (by omega)) b10 QA n10 (fm:=lE) D5
 have rO:∀j:Nat,bK l.prog w K mg base eG (j+2) Qx (PySem.W.fnOf "_law_saying" "_law_saying" (bO dG) (bH dG) (aE dG) .none OJ OL OM Oo Lz ON) ["_law_tape_here","_law_world","_law_variables","_law_room","_law_deep"] (spT K 5 (sF j))∧bK l.prog w K mg base eG (j+2) Qw (PySem.W.fnOf "_law_inner" "_law_inner" (bO d7) (bH d7) (aE d7) .none OF OG OH Om Ly OI) ["_law_tape_here","_law_world","_law_variables","_law_room","_law_deep"] (spT K 5 (Gy j)):=by
  intro j
  induction j with
  | zero=>exact⟨sA Ed,sA Ef⟩
  | succ j ih=>exact⟨(vX (P:=l.prog) (w:=w) (K:=K) (mg:=mg) (base:=base) (n:=j+2) YK (iN.mono (by omega)) LJ G0 LK (Cr.mono (by omega)) b18 QE n18 ih.1 Xr Mh Xs ih.2 b19 QF n19 (IC j)).mono (by omega),(wZ (P:=l.prog) (w:=w) (K:=K) (mg:=mg) (base:=base) (n:=j+2) YJ dO (iN.mono (by omega)) LJ G0 LK ih.1 Xr Mh Xs (ID j)).mono (by omega)⟩
 have zI:=(rO 17).1
 have Jv:=(rO 17).2
 have Be:=w5 (P:=l.prog) (w:=w) (K:=K) (mg:=mg) (base:=base) (n:=19) YL (zI.mono (by omega)) Xr Mh Xs (fm:=vH) B4
 exact Lx (P:=l.prog) (w:=w) (K:=K) (mg:=mg) (base:=base) (n:=20) F29 aM pS dO tK yt (zH.mono (by omega)) b28 QL n28 (Cy.mono (by omega)) b11 QB n11 (uF.mono (by omega)) YQ O7 YR (Cq.mono (by omega)) b13 QC n13 (Be.mono (by omega)) b21 QG n21 (Ba.mono (by omega)) b17 QD n17 (iN.mono (by omega)) LJ G0 LK (Cu.mono (by omega)) YW O9 YX (Bc.mono (by omega)) b27 QK n27 (yz.mono (by omega)) YT O8 YU Em
theorem walk {l:PySem.W.OpenLaw}{q:Program}{loose:List Str}{XP:(Str→Option Value)→Heap→Prop}{YP:World→Heap→Prop}{d:DefRec}{K:Params→PySem.W.Frag}(hn:l.most=some 63) (hdf:d.params.defaults=[])
  (hY:∀(w:World) (h:Heap),YP w h→(K w.params).In h)
  (F:∀(w:World) (mg:Str→Option Value) (fa:Addr) (h:Heap),(K w.params).In h→h.Ns mainGlobals mg→mg d.name=some (.ref fa)→
   ∃fd:FuncData,(∀(s:Shared) (u:Value),BindsTo s fd ⟨[u],[]⟩ [("_law_script",u)])∧∀base:Heap,(K w.params).In base→base.Ns mainGlobals mg→bK l.prog w (K w.params) mg base eG 21 fa fd ["_law_script"] (spT (K w.params) 1 (BR 63))):
  PySem.W.WalkO q loose XP YP l.row.toRowW d [] (fun f vs=>PySem.call f vs):=
 L2.HA (n:=63) (k:=21) (x:="_law_script") (CX:=fun _=>eG) (sp:=fun w=>spT (K w.params) 1 (BR 63)) hn (by decide) hdf ⟨rfl,by decide,by decide,rfl⟩ hY F (fun w H a ns hl hO hS=>Lf hl hO hS) fun _ _ _ _ _ z=>z
end K05
open PySem PySem.W PyProof.Rows
noncomputable def PySem.W.Fast.tw16748287665482154484:Nat→Stmt:=K05.top
theorem PySem.W.Fast.te16748287665482154484:K05.top=PySem.W.Fast.tw16748287665482154484:=rfl
def K05.sc:Scope:=PySem.Challenge.pw_surewatch_k05_sayings.main.scope
noncomputable def PySem.W.Fast.tw1656464318924093056:Scope:=K05.sc
theorem PySem.W.Fast.te1656464318924093056:K05.sc=PySem.W.Fast.tw1656464318924093056:=rfl
def K05.pw:Program:={main:={body:=[K05.top 0,K05.top 1,K05.top 2,K05.top 3,K05.top 4,K05.top 5,K05.top 6,K05.top 7,K05.top 8,K05.top 9,K05.top 10,K05.top 11,K05.top 12,K05.top 13,K05.top 14,K05.top 15,K05.top 16,K05.top 17,K05.top 18,K05.top 19,K05.top 20,K05.top 21,K05.top 22,K05.top 23,K05.top 24,K05.top 25,K05.top 26,K05.top 27,K05.top 28,K05.top 29,K05.top 30,K05.top 31,K05.top 32,K05.top 33,K05.top 34,K05.top 35,K05.top 36,K05.top 37,K05.top 38,K05.top 39,K05.top 40,K05.top 41,K05.top 42],scope:=K05.sc,futureAnnotations:=false,file:="/claim/cut.py",more:=[]},modules:=[],parses:=[],absent:=[],harvested:=[],given:={argv:=[],stdin:=[],environ:=some [([76,67,95,65,76,76],[67,46,85,84,70,45,56])]}}
def K05.rw:OpenLaw:={prog:=K05.pw,name:=(PySem.Str.ofString "law"),about:=[(PySem.Str.ofString "is_saying")],foot:=17,most:=some 63,bound:=none,writes:=false}
noncomputable def PySem.W.Fast.tw6317980090982481808:=0
noncomputable def PySem.W.Fast.tw11422911500747374609:=0
noncomputable def PySem.W.Fast.tw10493398865717722159:=0
noncomputable def PySem.W.Fast.tw17772574698025687463:=0
noncomputable def PySem.W.Fast.tw16616042504854886039:=0
noncomputable def PySem.W.Fast.tw4901238111991586179:=0
noncomputable def PySem.W.Fast.tw7285163908145775431:=0
noncomputable def PySem.W.Fast.tw4922052753771326183:=0
noncomputable def PySem.W.Fast.tw11281623431924830663:=0
noncomputable def PySem.W.Fast.tw12859896845271512884:=0
noncomputable def PySem.W.Fast.tw14070341864089036777:=0
noncomputable def PySem.W.Fast.tw12510126490753757615:=0
noncomputable def PySem.W.Fast.tw8851679782546215550:=0
noncomputable def PySem.W.Fast.tw1888795678355637734:=0
noncomputable def PySem.W.Fast.tw8707408951650880297:=0
noncomputable def PySem.W.Fast.tw12729197504760582988:=0
noncomputable def PySem.W.Fast.tw5517535785757130131:=0
noncomputable def PySem.W.Fast.tw5906777256174210097:=0
noncomputable def PySem.W.Fast.tw2094699740188971400:=0
noncomputable def PySem.W.Fast.tw18194087351467021514:=0
noncomputable def PySem.W.Fast.tw4310703127384305324:=0
noncomputable def PySem.W.Fast.tw12645437725392708882:=0
noncomputable def PySem.W.Fast.tw17032881344150889912:=0
noncomputable def PySem.W.Fast.tw4322453593704186695:=0
noncomputable def PySem.W.Fast.tw7597159906396507533:=0
noncomputable def PySem.W.Fast.tw5132275060548967204:=0
noncomputable def PySem.W.Fast.tw10404492738258649066:=0
noncomputable def PySem.W.Fast.tw2671679497234114728:=0
noncomputable def PySem.W.Fast.tw8833541282802455012:=0
noncomputable def PySem.W.Fast.tw4610121848771521018:=0
noncomputable def PySem.W.Fast.tw12071117946082244702:=0
noncomputable def PySem.W.Fast.tw725229949336049180:=0
noncomputable def PySem.W.Fast.tw3305714920911541118:=0
noncomputable def PySem.W.Fast.tw6056118376916245692:=0
noncomputable def PySem.W.Fast.tw13980446089684381693:=0
noncomputable def PySem.W.Fast.tw15691978255819556899:=0
noncomputable def PySem.W.Fast.tw5146952033912611169:=0
noncomputable def PySem.W.Fast.tw11375079755681033932:=0
noncomputable def PySem.W.Fast.tw14765210580127563245:=0
noncomputable def PySem.W.Fast.tw16234447498951436683:=0
noncomputable def PySem.W.Fast.tw5425654572866848154:=0
noncomputable def PySem.W.Fast.tw11429914102381500707:=0
noncomputable def PySem.W.Fast.tw4627719743255317362:=0
noncomputable def PySem.W.Fast.tw10824004601513968065:=0
noncomputable def PySem.W.Fast.tw2517979258855758549:=0
noncomputable def PySem.W.Fast.tw8926909153462375494:=0
noncomputable def PySem.W.Fast.tw10630139525589391156:=0
noncomputable def PySem.W.Fast.tw13773232056270270860:=0
noncomputable def PySem.W.Fast.tw9961907527421227974:=0
noncomputable def PySem.W.Fast.tw12693430775150555250:=0
noncomputable def PySem.W.Fast.tw12795345842443447959:=0
noncomputable def PySem.W.Fast.tw14689436714657415823:=0
noncomputable def PySem.W.Fast.tw5524547685582076078:=0
noncomputable def PySem.W.Fast.tw6046079416027206523:=0
set_option maxRecDepth 100000 in
set_option maxHeartbeats 0 in
theorem K05.holds:K05.rw.Holds:=by
 w_on;o_law;k_head;(case hw=>w_witness2)
 k_fill
 refine K05.walk (l:=K05.rw) rfl rfl (fun w h Y=>PySem.W.kIn_of Y) ?F
 case F=>
  intro w mg fa h KX G hmg
  refine' K05.all_mk KX G hmg ?a1 ?l1 ?c1 ?k1 ?a2 ?l2 ?c2 ?k2 ?a3 ?l3 ?c3 ?k3 ?a4 ?l4 ?c4 ?k4 ?a5 ?l5 ?c5 ?k5 ?a6 ?l6 ?c6 ?k6 ?a7 ?l7 ?c7 ?k7 ?a8 ?l8 ?c8 ?k8 ?a9 ?l9 ?c9 ?k9 ?a10 ?WK ?WL ?QA ?a11 ?WM ?WN ?QB ?a12 ?WO ?c12 ?Kz ?a13 ?WQ ?WR ?QC ?a14 ?WS ?WT ?G0 ?a15 ?WU ?WV ?O6 ?a16 ?WW ?GY ?Mg ?a17 ?WX ?WY ?QD ?a18 ?WZ ?W0 ?QE ?a19 ?W2 ?W3 ?QF ?a20 ?W4 ?W5 ?Mh ?a21 ?W6 ?W7 ?QG ?a22 ?W8 ?W9 ?QH ?a23 ?Xa ?Xb ?QI ?a24 ?Xc ?Xd ?O7 ?a25 ?Xe ?Xf ?O8 ?a26 ?Xg ?Xh ?O9 ?a27 ?Xi ?Xj ?QK ?a28 ?Xk ?Xl ?QL ?a29 ?Xm ?Xn ?Xo ?lQ ?v8 ?jF ?zD ?zE ?zF ?zG ?v9 ?wc ?we ?wg ?wj ?wk ?wm ?wu ?jG ?nF ?lR ?lT ?pq ?LD ?GO ?Co ?LF ?LG ?LH ?LI ?GP ?Cp
  (case a1=>k_is);(case l1=>k_is);(case c1=>k_is);(case k1=>k_is)
  (case a2=>k_is);(case l2=>k_is);(case c2=>k_is);(case k2=>k_is)
  (case a3=>k_is);(case l3=>k_is);(case c3=>k_is);(case k3=>k_is)
  (case a4=>k_is);(case l4=>k_is);(case c4=>k_is);(case k4=>k_is)
  (case a5=>k_is);(case l5=>k_is);(case c5=>k_is);(case k5=>k_is)
  (case a6=>k_is);(case l6=>k_is);(case c6=>k_is);(case k6=>k_is)
  (case a7=>k_is);(case l7=>k_is);(case c7=>k_is);(case k7=>k_is)
  (case a8=>k_is);(case l8=>k_is);(case c8=>k_is);(case k8=>k_is)
  (case a9=>k_is);(case l9=>k_is);(case c9=>k_is);(case k9=>k_is)
  (case a10=>k_is);(case WK=>k_is);(case WL=>k_is);(case QA=>k_is)
  (case a11=>k_is);(case WM=>k_is);(case WN=>k_is);(case QB=>k_is)
  (case a12=>k_is);(case WO=>k_is);(case c12=>k_is);(case Kz=>k_is)
  (case a13=>k_is);(case WQ=>k_is);(case WR=>k_is);(case QC=>k_is)
  (case a14=>k_is);(case WS=>k_is);(case WT=>k_is);(case G0=>k_is)
  (case a15=>k_is);(case WU=>k_is);(case WV=>k_is);(case O6=>k_is)
  (case a16=>k_is);(case WW=>k_is);(case GY=>k_is);(case Mg=>k_is)
  (case a17=>k_is);(case WX=>k_is);(case WY=>k_is);(case QD=>k_is)
  (case a18=>k_is);(case WZ=>k_is);(case W0=>k_is);(case QE=>k_is)
  (case a19=>k_is);(case W2=>k_is);(case W3=>k_is);(case QF=>k_is)
  (case a20=>k_is);(case W4=>k_is);(case W5=>k_is);(case Mh=>k_is)
  (case a21=>k_is);(case W6=>k_is);(case W7=>k_is);(case QG=>k_is)
  (case a22=>k_is);(case W8=>k_is);(case W9=>k_is);(case QH=>k_is)
  (case a23=>k_is);(case Xa=>k_is);(case Xb=>k_is);(case QI=>k_is)
  (case a24=>k_is);(case Xc=>k_is);(case Xd=>k_is);(case O7=>k_is)
  (case a25=>k_is);(case Xe=>k_is);(case Xf=>k_is);(case O8=>k_is)
  (case a26=>k_is);(case Xg=>k_is);(case Xh=>k_is);(case O9=>k_is)
  (case a27=>k_is);(case Xi=>k_is);(case Xj=>k_is);(case QK=>k_is)
  (case a28=>k_is);(case Xk=>k_is);(case Xl=>k_is);(case QL=>k_is)
  (case a29=>k_is);(case Xm=>k_is);(case Xn=>k_is);(case Xo=>k_is)
  (case lQ=>k_is)
  (case v8=>k_is)
  (case jF=>k_is)
  (case zD=>k_is)
  (case zE=>k_is);(case zF=>decide);(case zG=>exact⟨⟨rfl,⟨_,rfl⟩,_,rfl⟩,⟨⟨rfl,⟨_,rfl⟩,_,rfl⟩,⟨⟨rfl,⟨_,rfl⟩,_,rfl⟩,⟨⟨rfl,⟨_,rfl⟩,_,rfl⟩,⟨⟨rfl,⟨_,rfl⟩,_,rfl⟩,⟨⟨rfl,⟨_,rfl⟩,_,rfl⟩,⟨⟨rfl,⟨_,rfl⟩,_,rfl⟩,⟨⟨rfl,⟨_,rfl⟩,_,rfl⟩,⟨⟨rfl,⟨_,rfl⟩,_,rfl⟩,⟨⟨rfl,⟨_,rfl⟩,_,rfl⟩,⟨⟨rfl,⟨_,rfl⟩,_,rfl⟩,⟨⟨rfl,⟨_,rfl⟩,_,rfl⟩,⟨⟨rfl,⟨_,rfl⟩,_,rfl⟩,True.intro⟩⟩⟩⟩⟩⟩⟩⟩⟩⟩⟩⟩⟩)
  (case v9=>k_is)
  (case wc=>k_is);(case we=>decide);(case wg=>exact⟨⟨_,rfl⟩,⟨⟨_,rfl⟩,True.intro⟩⟩)
  (case wj=>k_is)
  (case wk=>k_is);(case wm=>decide);(case wu=>exact⟨⟨rfl,⟨_,rfl⟩,_,rfl⟩,⟨⟨rfl,⟨_,rfl⟩,_,rfl⟩,⟨⟨rfl,⟨_,rfl⟩,_,rfl⟩,⟨⟨rfl,⟨_,rfl⟩,_,rfl⟩,⟨⟨rfl,⟨_,rfl⟩,_,rfl⟩,⟨⟨rfl,⟨_,rfl⟩,_,rfl⟩,⟨⟨rfl,⟨_,rfl⟩,_,rfl⟩,⟨⟨rfl,⟨_,rfl⟩,_,rfl⟩,⟨⟨rfl,⟨_,rfl⟩,_,rfl⟩,⟨⟨rfl,⟨_,rfl⟩,_,rfl⟩,⟨⟨rfl,⟨_,rfl⟩,_,rfl⟩,⟨⟨rfl,⟨_,rfl⟩,_,rfl⟩,⟨⟨rfl,⟨_,rfl⟩,_,rfl⟩,True.intro⟩⟩⟩⟩⟩⟩⟩⟩⟩⟩⟩⟩⟩)
  (case jG=>k_is)
  (case nF=>k_is)
  (case lR=>k_is)
  (case lT=>k_is)
  (case pq=>k_is);(case LD=>k_is);(case GO=>k_is);(case Co=>k_is);(case LF=>k_is);(case LG=>k_is);(case LH=>k_is);(case LI=>k_is);(case GP=>k_is);(case Cp=>k_is)
theorem PySem.Challenge.cw_surewatch_k05_sayings_holds : PySem.Challenge.rw_surewatch_k05_sayings.Holds :=
 K05.holds
