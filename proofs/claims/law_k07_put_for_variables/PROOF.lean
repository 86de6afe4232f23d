import PyProof.Rows.All
import Wide.All
import OpenK.AllK
import Wide.FinOn
import PyProof.EqAt
import PyProof.EqKinds
import PyProof.TupleCall
import Lean
import PySem.Challenge.RW_surewatch_k07_put_for_variables
section
set_option Elab.async false
set_option linter.all false
set_option maxRecDepth 100000
namespace L2
open PySem PySem.Spec PyProof.Rows
noncomputable abbrev Key:=Sum Int Str
noncomputable def wN:Key→Value→Bool
 | .inl k,v=>Value.isInt k v
 | .inr x,v=>Value.isStrOf x v
noncomputable def QJ (w:World):Key→Int
 | .inl k=>hashInt k
 | .inr x=>hashStr w x
theorem dI:∀{k:Key}{v:Value},wN k v=true→(∃i t,k=Sum.inl i∧v=Value.int i t)∨(∃x t,k=Sum.inr x∧v=Value.str x t)
 | .inl i,v,h=>by
  obtain⟨t,e⟩:=Value.isInt_shape (k:=i) (v:=v) h
  exact .inl ⟨i,t,rfl,e⟩
 | .inr x,v,h=>by
  obtain⟨t,e⟩:=Value.isStrOf_shape (x:=x) (v:=v) h
  exact .inr ⟨x,t,rfl,e⟩
theorem CL (i:Int) (t:Tok):wN (.inl i) (.int i t)=true:=by simp[wN,Value.isInt]
theorem CM (x:Str) (t:Tok):wN (.inr x) (.str x t)=true:=by simp[wN,Value.isStrOf]
theorem Jg (a b:Int):decide ((Sum.inl a:Key)=Sum.inl b)=(a == b):=by
 by_cases e:a=b
 ·subst e;simp
 ·have h:¬(Sum.inl a:Key)=Sum.inl b:=fun q=>e (Sum.inl.inj q)
  rw[decide_eq_false h]
  exact(beq_eq_false_iff_ne.mpr e).symm
theorem Jh (a b:Str):decide ((Sum.inr a:Key)=Sum.inr b)=decide (a=b):=by
 by_cases e:a=b
 ·subst e;simp
 ·have h:¬(Sum.inr a:Key)=Sum.inr b:=fun q=>e (Sum.inr.inj q)
  rw[decide_eq_false h,decide_eq_false e]
theorem Ji (a:Int) (b:Str):decide ((Sum.inl a:Key)=Sum.inr b)=false:=decide_eq_false (fun q=>nomatch q)
theorem Jj (a:Str) (b:Int):decide ((Sum.inr a:Key)=Sum.inl b)=false:=decide_eq_false (fun q=>nomatch q)
noncomputable def bW (prog:Program) (w:World):PySem.KeyKind prog w Key where
  is:=wN
  hash:=QJ w
  inj := fun v a b ha hb => by
    rcases dI ha with⟨i,t,rfl,rfl⟩ | ⟨x,t,rfl,rfl⟩
    · rcases dI hb with⟨j,u,rfl,e⟩ | ⟨y,u,rfl,e⟩
      · injection e with e1 _;rw[e1]
      · exact nomatch e
    · rcases dI hb with⟨j,u,rfl,e⟩ | ⟨y,u,rfl,e⟩
      · exact nomatch e
      · injection e with e1 _;rw[e1]
  byValue:=fun k v h=>by
    rcases dI h with⟨i,t,rfl,rfl⟩ | ⟨x,t,rfl,rfl⟩ <;> rfl
  pyHash:=fun hv h=>by
    rcases dI hv with⟨i,t,rfl,rfl⟩ | ⟨x,t,rfl,rfl⟩
    · exact wpAny_pyHash_int h
    · exact wpAny_pyHash_str h
  eqBool:=fun hu hv h=>by
    rcases dI hu with⟨i,t,rfl,rfl⟩ | ⟨x,t,rfl,rfl⟩
    · rcases dI hv with⟨j,u,rfl,rfl⟩ | ⟨y,u,rfl,rfl⟩
      · rw[Jg] at h;exact wpAny_eqBool_int h
      · rw[Ji] at h;exact SeqAt.EqAt.int_str i t y u _ _ _ _ h
    · rcases dI hv with⟨j,u,rfl,rfl⟩ | ⟨y,u,rfl,rfl⟩
      · rw[Jj] at h;exact SeqAt.EqAt.str_int x t j u _ _ _ _ h
      · rw[Jh] at h;exact wpAny_eqBool_str h
  «strs»:=fun k x t v h=>by
    rcases dI h with⟨i,u,rfl,e⟩ | ⟨y,u,rfl,e⟩
    · exact nomatch e
    · injection e with e1 _
      subst e1
      cases v <;> rfl
theorem zh (prog:Program) (w:World) (i:Int) (t:Tok):(bW prog w).is (.inl i) (.int i t)=true:=CL i t
theorem m5 (prog:Program) (w:World) (x:Str) (t:Tok):(bW prog w).is (.inr x) (.str x t)=true:=CM x t
end L2
namespace L2
open PySem PySem.Spec PyProof.Rows
inductive V where
 | cI | bl (b:Bool) | int (i:Int) | str (x:Str) | QK (b:Array UInt8) | flt (b:UInt64) | ref (a:Addr) | ty (n:String)
 deriving DecidableEq
noncomputable def RelV:V→Value→Prop
 | .cI,u=>u=Value.none
 | .bl b,u=>u=Value.bool b
 | .int i,u=>∃t,u=Value.int i t
 | .str x,u=>∃t,u=Value.str x t
 | .QK b,u=>∃t,u=Value.bytes b t
 | .flt b,u=>∃t,u=Value.float b t
 | .ref a,u=>u=Value.ref a
 | .ty n,u=>u=Value.type n
noncomputable abbrev Vals:List V→List Value→Prop:=Paired RelV
theorem Vals.length {xs:List V}{us:List Value}(r:Vals xs us):xs.length=us.length:=Paired.length r
theorem Vals.get:∀{xs:List V}{us:List Value}{i:Nat}{x:V},Vals xs us→xs[i]? =some x→∃u,us[i]? =some u∧RelV x u
 | _,_,_,_,.nil,e=>by simp at e
 | _,_,0,_,.cons r _,e=>by simp at e;subst e;exact⟨_,rfl,r⟩
 | _,_,i+1,x,.cons _ t,e=>by
  obtain⟨u,h1,h2⟩:=Vals.get (i:=i) (x:=x) t (by simpa using e)
  exact⟨u,by simpa using h1,h2⟩
theorem Vals.set {x:V}{u:Value}(r:RelV x u):∀{xs:List V}{us:List Value}(i:Nat),Vals xs us→Vals (xs.set i x) (us.set i u)
 | _,_,_,.nil=>.nil
 | _,_,0,.cons _ t=>.cons r t
 | _,_,i+1,.cons q t=>.cons q (Vals.set r i t)
theorem Vals.append:∀{xs ys:List V}{us ws:List Value},Vals xs us→Vals ys ws→Vals (xs++ys) (us++ws)
 | _,_,_,_,.nil,s=>s
 | _,_,_,_,.cons r t,s=>.cons r (Vals.append t s)
theorem Vals.take:∀{xs:List V}{us:List Value}(n:Nat),Vals xs us→Vals (xs.take n) (us.take n)
 | _,_,0,_=>.nil
 | _,_,_+1,.nil=>.nil
 | _,_,n+1,.cons r t=>.cons r (Vals.take n t)
theorem Vals.drop:∀{xs:List V}{us:List Value}(n:Nat),Vals xs us→Vals (xs.drop n) (us.drop n)
 | _,_,0,r=>r
 | _,_,_+1,.nil=>.nil
 | _,_,n+1,.cons _ t=>Vals.drop n t
noncomputable def tH:Option V→Option Value→Prop
 | some v,some u=>RelV v u
 | none,none=>True
 | _,_=>False
noncomputable def KV {κ:Type}:List (κ×V)→List (κ×Value)→Prop:=Paired fun(p:κ×V) (q:κ×Value)=>p.1=q.1∧RelV p.2 q.2
noncomputable def kV:Key→V
 | .inl i=>.int i
 | .inr x=>.str x
inductive HO where
 | lst (xs:List V)
 | tup (xs:List V)
 | dK (kvs:List (Key×V)) | dT (kvs:List (List Key×V))
 | set (S:Int→Bool) (n:Nat)
 | ins (C dx:Addr) (fs:List (Str×V))
 | own (x:Addr)
 | xd (fs:List (Str×V))
 | met (f x:Addr)
 | AR (lo hi:Int)
 | jE (o:Obj) (u:HO)
 | Jk (ps:Array Value)
 | ext (φ:Heap→Prop)
noncomputable abbrev Hp:=Addr→Option HO
noncomputable def upd (H:Hp) (a:Addr) (o:HO):Hp:=fun b=>if b=a then some o else H b
theorem aW {H:Hp}{a:Addr}{o:HO}:upd H a o a=some o:=by unfold upd;rw[if_pos rfl]
theorem aT {H:Hp}{a b:Addr}{o:HO}(h:b≠a):upd H a o b=H b:=by unfold upd;rw[if_neg h]
theorem Mb {H:Hp}{a b:Addr}{o u:HO}(h:H a=some o) (h':H b=some u) (d:o≠u):a≠b:=by
 intro e;subst e;rw[h] at h';exact d (Option.some.inj h')
theorem bF {H:Hp}{a b:Addr}{o:HO}(h:H a=some o) (h':H b=none):a≠b:=by
 intro e;subst e;rw[h] at h';cases h'
section
variable (P:Program) (w:World)
noncomputable def fM (H:Hp) (h:Heap) (a:Addr):HO→Prop
 | .lst xs=>xs.length≤sizeLine∧∃(its:List Value) (n:Nat),Vals xs its∧h.get? a=some {cls:=.type "list",data:=.seq its.toArray n}
 | .tup xs=>xs.length≤sizeLine∧∃its:List Value,Vals xs its∧IsTup h a its.toArray
 | .dK kvs=>kvs.length≤sizeLine∧(a == sysModules)=false∧∃vs,KV kvs vs∧h.DictOf (bW P w) a vs
 | .dT kvs=>kvs.length≤sizeLine∧(a == sysModules)=false∧∃xs:List (List Key×Addr×Value),
   Paired (fun(p:List Key×V) (q:List Key×Addr×Value)=>p.1=q.1∧H q.2.1=some (.tup (p.1.map kV))∧RelV p.2 q.2.2) kvs xs∧
   ∃o es ep,h.get? a=some o∧o.ExactDict∧o.data= .dict es ep∧es.toList=xs.map (entryOfKey (tupleKind (bW P w)))∧(xs.map (·.1)).Nodup
 | .set S n=>h.SetOf (intKind P w) a S n
 | .ins C dx fs=>H dx=some (.own a)∧fs.length≤1000∧dx≠a∧h.get? a=some (PySem.W.instObj C dx)∧
   ∃mA,h.Ns1 dx mA∧(∀f,tH (fs.lookup f) (mA f))∧PySem.Within mA (fs.map (·.1))
 | .own _=>∃o,h.get? a=some o
 | .xd fs=>∃mA,h.Ns1 a mA∧∀f,tH (fs.lookup f) (mA f)
 | .AR lo hi=>∃t u v,h.get? a=some {cls:=.type "range",data:=.fields #[.int lo t,.int hi u,.int 1 v]}
 | .jE o u=>h.get? a=some o∧fM H h a u
 | .Jk ps=>h.get? a=some {cls:=.none,data:=.fields ps}
 | .met f x=>h.get? a=some (PySem.W.methodObj (.ref f) (.ref x))
 | .ext φ=>φ h∧(∃o,h.get? a=some o)∧∀h1 h2:Heap,φ h1→(∀o,h1.get? a=some o→h2.get? a=some o)→φ h2
noncomputable def oG (H:Hp) (h:Heap):Prop:=∀a o,H a=some o→fM P w H h a o
end
section
variable {P:Program}{w:World}{H H':Hp}{h h':Heap}{a:Addr}{o:HO}
theorem fM.lt (x:fM P w H h a o):a < h.objs.size:=by
 cases o with
 | lst xs=>obtain⟨_,_,_,_,e⟩:=x;exact Heap.lt_size e
 | tup xs=>obtain⟨_,_,_,p⟩:=x;exact p.lt
 | dK kvs=>obtain⟨_,_,_,_,o,_,_,e,_⟩:=x;exact Heap.lt_size e
 | dT kvs=>obtain⟨_,_,_,_,o,_,_,e,_⟩:=x;exact Heap.lt_size e
 | set S n=>obtain⟨o,_,_,_,e,_⟩:=x;exact Heap.lt_size e
 | ins C dx fs=>obtain⟨_,_,_,e,_⟩:=x;exact Heap.lt_size e
 | own y=>obtain⟨_,e⟩:=x;exact Heap.lt_size e
 | xd fs=>obtain⟨_,⟨_,_,_,e,_⟩,_⟩:=x;exact Heap.lt_size e
 | AR lo hi=>obtain⟨_,_,_,e⟩:=x;exact Heap.lt_size e
 | jE ob u=>obtain⟨e,_⟩:=x;exact Heap.lt_size e
 | Jk ps=>exact Heap.lt_size (show h.get? a=some _ from x)
 | met f y=>exact Heap.lt_size (show h.get? a=some _ from x)
 | ext φ=>obtain⟨_,⟨_,e⟩,_⟩:=x;exact Heap.lt_size e
theorem Paired.CN {α β:Type}{F G:α→β→Prop}:∀{l₁:List α}{l₂:List β},Paired F l₁ l₂→(∀a b,F a b→G a b)→Paired G l₁ l₂
 | _,_,.nil,_=>.nil
 | _,_,.cons r t,f=>.cons (f _ _ r) (Paired.CN t f)
theorem fM.stay (x:fM P w H h a o) (k:∀b u,(b=a∨H b=some (.own a))→h.get? b=some u→h'.get? b=some u)
  (ho:∀b,H b=some (.own a)→H' b=some (.own a)) (ht:∀b xs,H b=some (.tup xs)→H' b=some (.tup xs)):fM P w H' h' a o:=by
 induction o with
 | lst xs=>obtain⟨z,its,n,r,e⟩:=x;exact⟨z,its,n,r,k _ _ (.inl rfl) e⟩
 | tup xs=>obtain⟨z,its,r,ob,e,c⟩:=x;exact⟨z,its,r,ob,k _ _ (.inl rfl) e,c⟩
 | dK kvs=>obtain⟨z,y,vs,r,ob,es,ep,e,c⟩:=x;exact⟨z,y,vs,r,ob,es,ep,k _ _ (.inl rfl) e,c⟩
 | dT kvs=>
  obtain⟨z,y,xs,r,ob,es,ep,e,c⟩:=x
  exact⟨z,y,xs,Paired.CN r fun p q z=>⟨z.1,ht _ _ z.2.1,z.2.2⟩,ob,es,ep,k _ _ (.inl rfl) e,c⟩
 | set S n=>obtain⟨ob,es,ep,t,e,c⟩:=x;exact⟨ob,es,ep,t,k _ _ (.inl rfl) e,c⟩
 | ins C dx fs=>
  obtain⟨d,z,ne,e,mA,⟨od,es,ep,e2,c⟩,r⟩:=x
  exact⟨ho _ d,z,ne,k _ _ (.inl rfl) e,mA,⟨od,es,ep,k _ _ (.inr d) e2,c⟩,r⟩
 | own y=>obtain⟨ob,e⟩:=x;exact⟨ob,k _ _ (.inl rfl) e⟩
 | xd fs=>obtain⟨mA,⟨od,es,ep,e,c⟩,r⟩:=x;exact⟨mA,⟨od,es,ep,k _ _ (.inl rfl) e,c⟩,r⟩
 | AR lo hi=>obtain⟨t,u,v,e⟩:=x;exact⟨t,u,v,k _ _ (.inl rfl) e⟩
 | jE ob u ih=>obtain⟨e,q⟩:=x;exact⟨k _ _ (.inl rfl) e,ih q⟩
 | Jk ps=>
  have e:h.get? a=some {cls:=.none,data:=.fields ps}:=x
  show h'.get? a=some {cls:=.none,data:=.fields ps}
  exact k a _ (.inl rfl) e
 | met f y=>
  have e:h.get? a=some (PySem.W.methodObj (.ref f) (.ref y)):=x
  show h'.get? a=some (PySem.W.methodObj (.ref f) (.ref y))
  exact k a _ (.inl rfl) e
 | ext φ=>obtain⟨p,⟨o,e⟩,st⟩:=x;exact⟨st _ _ p fun o q=>k _ _ (.inl rfl) q,⟨o,k _ _ (.inl rfl) e⟩,st⟩
theorem oG.lt (x:oG P w H h) (e:H a=some o):a < h.objs.size:=(x a o e).lt
theorem oG.fresh (x:oG P w H h) (e:h.objs.size≤a):H a=none:=by
 cases q:H a with
 | none=>rfl
 | some u=>exact absurd (Nat.lt_of_lt_of_le (x.lt q) e) (Nat.lt_irrefl _)
theorem oG.kept (x:oG P w H h) (k:∀b u,h.get? b=some u→h'.get? b=some u):oG P w H h':=fun a o e=>
 (x a o e).stay (fun b u _ q=>k b u q) (fun _ q=>q) fun _ _ q=>q
theorem oG.laid (x:oG P w H h) (k:∀b u,h.get? b=some u→h'.get? b=some u) (hp:h.objs.size≤a) (new:fM P w (upd H a o) h' a o):oG P w (upd H a o) h':=fun b u e=>by
 have hn:=x.fresh hp
 by_cases hb:b=a
 ·subst hb;rw[aW] at e;cases e;exact new
 ·rw[aT hb] at e
  exact(x b u e).stay (fun c v _ q=>k c v q) (fun c q=>by rw[aT (bF q hn)];exact q) fun c xs q=>by rw[aT (bF q hn)];exact q
end
noncomputable def Rd (H:Hp) (a:Addr) (u:HO):Prop:=H a=some u∨∃o,H a=some (.jE o u)
theorem Rd.of {H:Hp}{a:Addr}{u:HO}(h:H a=some u):Rd H a u:=.inl h
theorem Rd.ok {P:Program}{w:World}{H:Hp}{h:Heap}{a:Addr}{u:HO}(r:Rd H a u) (x:oG P w H h):fM P w H h a u:=by
 rcases r with r | ⟨o,r⟩
 ·exact x a u r
 ·obtain⟨_,q⟩:=x a _ r
  exact q
noncomputable def Mc:Option HO→Prop
 | some (.lst _)=>True
 | some (.dK _)=>True
 | some (.dT _)=>True
 | some (.set _ _)=>True
 | some (.ins _ _ _)=>True
 | some (.ext _)=>True
 | _=>False
section
variable {P:Program}{w:World}{H:Hp}{h h':Heap}{x e:Addr}{o':HO}
theorem oG.write (ok : oG P w H h) (mu : Mc (H x)) (he : e = x ∨ H e = some (.own x)) (k : ∀ b u, b ≠ e → h.get? b = some u → h'.get? b = some u) (LD : ∃ u, h'.get? e = some u)
    (new:fM P w (upd H x o') h' x o'):oG P w (upd H x o') h':=fun b u q=>by
  have Me:∀c y,H c=some (.own y)→c≠x:=fun c y r z=>by subst z;rw[r] at mu;exact mu
  have QL:∀c xs,H c=some (.tup xs)→c≠x:=fun c xs r z=>by subst z;rw[r] at mu;exact mu
  by_cases hb:b=x
  · subst hb;rw[aW] at q;cases q;exact new
  · rw[aT hb] at q
    by_cases Jl:b=e
    · have q':H b=some (.own x):=by
        rcases he with z | z
        · exact absurd (Jl.trans z) hb
        · rw[Jl];exact z
      rw[q] at q';cases q'
      obtain⟨v,hv⟩:=LD
      exact⟨v,by rw[Jl];exact hv⟩
    · refine(ok b u q).stay (fun c v hc r=>k c v ?_ r) (fun c r=>by rw[aT (Me c b r)];exact r) fun c xs r=>by rw[aT (QL c xs r)];exact r
      rcases hc with rfl | hc
      · exact Jl
      · rintro rfl
        rcases he with z | z
        · exact Me c b hc z
        · rw[hc] at z;cases z;exact hb rfl
end
structure Un (fs ex:List Addr) (H H':Hp) (h h':Heap):Prop where
 keep:∀b o,h.get? b=some o→H b=none→b∉fs→b∉ex→h'.get? b=some o
 slot:∀b o,h.get? b=some o→H b=none→b∈fs→b∉ex→∃sl,h'.get? b=some {o with slots:=sl}
 free:∀b o,h.get? b=some o→H b=none→b∉ex→H' b=none
 there:∀b o,h.get? b=some o→b∉ex→∃o',h'.get? b=some o'
 tups:∀b xs,H b=some (.tup xs)→H' b=some (.tup xs)
 pS:∀b o u,H b=some (.jE o u)→H' b=some (.jE o u)
 qJ:∀b ps,H b=some (.Jk ps)→∃more,H' b=some (.Jk (ps++more))
section
variable {fs fs' ex ex':List Addr}{H H1 H2:Hp}{h h1 h2 h':Heap}{a x e:Addr}{o:HO}
theorem Un.any (u:Un fs ex H H1 h h1){b:Addr}{ob:Obj}(q:h.get? b=some ob) (n:H b=none) (hx:b∉ex):∃sl,h1.get? b=some {ob with slots:=sl}:=by
 by_cases hb:b∈fs
 ·exact u.slot b ob q n hb hx
 ·exact⟨ob.slots,u.keep b ob q n hb hx⟩
theorem Un.trans (a:Un fs ex H H1 h h1) (b:Un fs ex H1 H2 h1 h2):Un fs ex H H2 h h2 where
 keep:=fun c ob q n hc hx=>b.keep c ob (a.keep c ob q n hc hx) (a.free c ob q n hx) hc hx
 slot:=fun c ob q n hc hx=>by
  obtain⟨sl,e1⟩:=a.slot c ob q n hc hx
  obtain⟨QM,e2⟩:=b.slot c _ e1 (a.free c ob q n hx) hc hx
  exact⟨QM,e2⟩
 free:=fun c ob q n hx=>by
  obtain⟨o',e1⟩:=a.there c ob q hx
  exact b.free c o' e1 (a.free c ob q n hx) hx
 there:=fun c ob q hx=>by
  obtain⟨o',e1⟩:=a.there c ob q hx
  exact b.there c o' e1 hx
 tups:=fun c xs q=>b.tups c xs (a.tups c xs q)
 pS:=fun c ob xs q=>b.pS c ob xs (a.pS c ob xs q)
 qJ:=fun c ps q=>by
  obtain⟨m1,e1⟩:=a.qJ c ps q
  obtain⟨m2,e2⟩:=b.qJ c _ e1
  exact⟨m1++m2,by rw[e2,Array.append_assoc]⟩
theorem Un.kept (k:∀b u,h.get? b=some u→h'.get? b=some u):Un fs ex H H h h':=
 ⟨fun b ob q _ _ _=>k b ob q,fun b ob q _ _ _=>⟨ob.slots,k b ob q⟩,fun _ _ _ n _=>n,fun b ob q _=>⟨ob,k b ob q⟩,fun _ _ q=>q,fun _ _ _ q=>q,fun _ ps q=>⟨#[],by rw[q];simp⟩⟩
theorem Un.refl:Un fs ex H H h h:=Un.kept fun _ _ q=>q
theorem Un.laid (k:∀b u,h.get? b=some u→h'.get? b=some u) (hp:h.objs.size≤a) (hn:H a=none):Un fs ex H (upd H a o) h h' where
 keep:=fun b u q _ _ _=>k b u q
 slot:=fun b u q _ _ _=>⟨u.slots,k b u q⟩
 free:=fun b u q n _=>by rw[aT (Nat.ne_of_lt (Nat.lt_of_lt_of_le (Heap.lt_size q) hp))];exact n
 there:=fun b u q _=>⟨u,k b u q⟩
 tups:=fun b xs q=>by rw[aT (bF q hn)];exact q
 pS:=fun b u xs q=>by rw[aT (bF q hn)];exact q
 qJ:=fun b ps q=>⟨#[],by rw[aT (bF q hn),q];simp⟩
theorem Un.write (mu:Mc (H x)) (he:e=x∨H e=some (.own x)) (k:∀b u,b≠e→h.get? b=some u→h'.get? b=some u) (LD:∃u,h'.get? e=some u):Un fs ex H (upd H x o) h h':=by
 have hx:∀b,H b=none→b≠x:=fun b n z=>by subst z;rw[n] at mu;exact mu
 have hb:∀b,H b=none→b≠e:=fun b n z=>by
  subst z
  rcases he with r | r
  ·exact hx b n r
  ·rw[n] at r;cases r
 have hm:∀b u,H b=some u→¬Mc (some u)→b≠x:=fun b u q nm z=>by subst z;rw[q] at mu;exact nm mu
 refine⟨fun b u q n _ _=>k b u (hb b n) q,fun b u q n _ _=>⟨u.slots,k b u (hb b n) q⟩,fun b u q n _=>by rw[aT (hx b n)];exact n,fun b u q _=>?_,
  fun b xs q=>by rw[aT (hm b _ q fun z=>z)];exact q,fun b u xs q=>by rw[aT (hm b _ q fun z=>z)];exact q,fun b ps q=>⟨#[],by rw[aT (hm b _ q fun z=>z),q];simp⟩⟩
 by_cases Jl:b=e
 ·subst Jl;exact LD
 ·exact⟨u,k b u Jl q⟩
theorem Un.mono (u:Un fs ex H H1 h h1) (hs:∀b∈fs,b∈fs') (hx:∀b∈ex,b∈ex'):Un fs' ex' H H1 h h1:=
 ⟨fun b ob q n hb he=>u.keep b ob q n (fun z=>hb (hs b z)) fun z=>he (hx b z),fun _ _ q n _ he=>u.any q n fun z=>he (hx _ z),fun b ob q n he=>u.free b ob q n fun z=>he (hx b z),fun b ob q he=>u.there b ob q fun z=>he (hx b z),u.tups,u.pS,u.qJ⟩
end
noncomputable def Pb (h:Heap) (H:Hp):List Addr:=(List.range h.objs.size).filter fun a=>(H a).isSome
noncomputable def xQ (h:Heap) (H:Hp):Heap:=PySem.W.hideAll h (Pb h H)
theorem CO (h:Heap) (H:Hp):(xQ h H).objs.size=h.objs.size:=PySem.W.hideAll_size _ _
theorem Eb {h:Heap}{H:Hp}{b:Addr}{o:Obj}(e:h.get? b=some o) (n:H b=none):(xQ h H).get? b=some o:=
 PySem.W.hideAll_get _ e fun hm=>by
  have q:(H b).isSome=true:=(List.mem_filter.mp hm).2
  rw[n] at q;simp at q
theorem Gx {h:Heap}{H:Hp}{b:Addr}{o:Obj}(e:(xQ h H).get? b=some o):h.get? b=some o∧H b=none:=by
 have e':h.get? b=some o:=PySem.W.of_hideAll (Pb h H) e
 refine⟨e',?_⟩
 cases q:H b with
 | none=>rfl
 | some x=>
  have hm:b∈Pb h H:=List.mem_filter.mpr ⟨List.mem_range.mpr (Heap.lt_size e'),by simp[q]⟩
  have z:(xQ h H).get? b=none:=PySem.W.hideAll_none (Pb h H) hm
  rw[z] at e;cases e
noncomputable def Gy (g h:Heap) (L:Addr):List (Addr×Obj):=(List.range h.objs.size).filterMap fun a=>if a=L∨(g.get? a).isSome=true then none else(h.get? a).map fun o=>(a,o)
noncomputable def rest (g h:Heap) (L d:Addr):List (Addr×Obj):=(Gy g h L).filter fun p=>decide (p.1≠d)
end L2
namespace L2
open PySem PySem.Spec PyProof.Rows
structure Mod (K:PySem.W.Frag) (mg:Str→Option Value) (base:Heap):Prop where
 QN:K.In base
 glob:base.Ns mainGlobals mg
 blt:∃mb,base.Ns builtinsNs mb∧∀x:Str,x≠"__name__"→mb x=bootBuiltins x
 nolimit:base.NoLimit
structure Cx where
 prog:Program
 w:World
 K:PySem.W.Frag
 mg:Str→Option Value
 base:Heap
 A:Around
 N:List Str
 s₀:Shared
 H₀:Hp
 env:Env
 outer:List Env
 stack:List Env
 ex:List Addr
 fn:Str→Bool
 calm:Bool
 pn:List (Addr×Obj)
 xe:Value→Shared→Prop
noncomputable def frs (l:List Env):List Addr:=l.filterMap (·.frame)
noncomputable abbrev Cx.fs (X:Cx):List Addr:=frs X.outer
noncomputable def Ec (sc:Scope) (x:Str):Prop:=sc.names.lookup x=some .local∨sc.names.lookup x=some .cell∨sc.names.lookup x=some .free
noncomputable def Loc (sc:Scope) (x:Str):Prop:=sc.names.lookup x=some .local∨sc.names.lookup x=some .cell
noncomputable def Look (env:Env) (h:Heap) (m:Str→Option Value) (x:Str) (u:Value):Prop:=
 (env.kindOf x=some .local∧m x=some u)∨((env.kindOf x=some .cell∨env.kindOf x=some .free)∧∃c,env.cells.lookup x=some c∧h.IsCell c (some u))
structure Cx.Ok (X:Cx):Prop where
 mod:Mod X.K X.mg X.base
 kind:X.env.scope.kind= .function
 glob:X.env.globals=mainGlobals
 blt:X.env.builtins=builtinsNs
 above:X.s₀.heap.objs.size≤X.env.locals
 inj:∀x y c,X.env.cells.lookup x=some c→X.env.cells.lookup y=some c→x=y
 has:∀x,(X.env.kindOf x=some .cell∨X.env.kindOf x=some .free)→∃c,X.env.cells.lookup x=some c
 Mf:∀x c,X.fn x=true→X.env.cells.lookup x=some c→X.s₀.heap.objs.size≤c
 hd:X.calm=true→X.A.handled=none
 frames:X.A.frames=some X.stack
 stk:X.stack=X.outer∨(X.stack=X.env :: X.outer∧X.env.frame=some X.env.locals)
 QO:∀b∈X.ex,b≠X.env.locals∧∀x c,X.env.cells.lookup x=some c→c≠b
 bs:∀b o,X.base.get? b=some o→X.s₀.heap.get? b=some o∧X.H₀ b=none
 Gz:X.base.objs.size≤X.s₀.heap.objs.size
 Ed:∀b o,X.base.get? b=some o→b∉X.ex
 Ef:∀b∈X.ex,b∉X.fs
 tK:X.s₀.heap.FunFrames X.base X.outer
 Jm:∀b∈X.fs,X.H₀ b=none
structure Inv (X:Cx) (pins:List (Addr×Obj)) (σ:List (Option V)) (H:Hp) (s:Shared):Prop where
 ok:X.Ok
 os:s.os=X.s₀.os
 bare:AllBare s.gens
 base:Un X.fs X.ex X.H₀ H X.s₀.heap s.heap
 loc:∃m,s.heap.Ns X.env.locals m∧∀(i:Nat) (x:Str) (v:V),X.N[i]? =some x→σ[i]? =some (some v)→Ec X.env.scope x→∃u,RelV v u∧Look X.env s.heap m x u
 cell:∀x c,X.env.cells.lookup x=some c→∃v,s.heap.IsCell c v
 free:H X.env.locals=none
 m6:∀x c,X.env.cells.lookup x=some c→H c=none
 pin:∀p∈X.pn++pins,s.heap.get? p.1=some p.2∧H p.1=none∧p.1≠X.env.locals∧p.1∉X.fs∧∀v,p.2.data≠.cell v
 hok:oG X.prog X.w H s.heap
 len:σ.length=X.N.length
section
variable {X:Cx}{pins:List (Addr×Obj)}{σ:List (Option V)}{H H':Hp}{s:Shared}{h':Heap}
theorem Cx.Ok.jy (ok:X.Ok){b:Addr}{o:Obj}(e:X.base.get? b=some o):b∉X.fs:=fun hb=>by
 have:=(ok.tK.mem hb).1
 rw[e] at this;cases this
theorem Inv.bs (I:Inv X pins σ H s):∀b o,X.base.get? b=some o→s.heap.get? b=some o∧H b=none:=fun b o e=>
 ⟨I.base.keep b o (I.ok.bs b o e).1 (I.ok.bs b o e).2 (I.ok.jy e) (I.ok.Ed b o e),I.base.free b o (I.ok.bs b o e).1 (I.ok.bs b o e).2 (I.ok.Ed b o e)⟩
theorem Inv.bk (I:Inv X pins σ H s):∀b o,X.base.get? b=some o→s.heap.get? b=some o:=fun b o e=>(I.bs b o e).1
theorem Inv.mod (I:Inv X pins σ H s):Mod X.K X.mg X.base:=I.ok.mod
theorem Inv.AX (I:Inv X pins σ H s):X.K.In s.heap:=I.ok.mod.QN.keeps I.bk
theorem Inv.nolimit (I:Inv X pins σ H s):s.heap.NoLimit:=I.ok.mod.nolimit.keeps I.bk
theorem Inv.lt (I:Inv X pins σ H s):X.env.locals < s.heap.objs.size:=let⟨_,hn,_⟩:=I.loc;hn.lt
theorem Inv.sz (I:Inv X pins σ H s):X.s₀.heap.objs.size≤s.heap.objs.size:=Nat.le_trans I.ok.above (Nat.le_of_lt I.lt)
theorem Inv.Mg (I:Inv X pins σ H s){a:Addr}(h:s.heap.objs.size≤a):a∉X.fs:=fun hb=>by
 obtain⟨_,o,ho,_⟩:=I.ok.tK.mem hb
 exact absurd (Nat.lt_of_lt_of_le (Heap.lt_size ho) (Nat.le_trans I.sz h)) (Nat.lt_irrefl _)
theorem Inv.Jo (I:Inv X pins σ H s):∀x c,X.env.cells.lookup x=some c→c≠X.env.locals:=fun x c e z=>by
 obtain⟨v,o,ho,hd⟩:=I.cell x c e
 obtain⟨m,⟨o',es,ep,ho',hd',_⟩,_⟩:=I.loc
 rw[z,ho'] at ho;cases ho;rw[hd'] at hd;cases hd
theorem Inv.tK (I:Inv X pins σ H s):s.heap.FunFrames X.base X.outer:=by
 have all:∀(l:List Env),(∀b∈frs l,b∈X.fs)→X.s₀.heap.FunFrames X.base l→s.heap.FunFrames X.base l:=by
  intro l
  induction l with
  | nil=>intro _ _;trivial
  | cons env r ih=>
   intro hs hl
   obtain⟨hk,⟨L,o,hf,hn,ho,hd⟩,hr⟩:=hl
   have hL:L∈X.fs:=hs L (by unfold frs;rw[List.filterMap_cons,hf];exact List.mem_cons_self)
   obtain⟨sl,e⟩:=I.base.slot L o ho (I.ok.Jm L hL) hL fun z=>I.ok.Ef L z hL
   exact⟨hk,⟨L,_,hf,hn,e,hd⟩,ih (fun b hb=>hs b (by unfold frs;rw[List.filterMap_cons,hf];exact List.mem_cons_of_mem _ hb)) hr⟩
 exact all X.outer (fun _ hb=>hb) I.ok.tK
theorem Inv.stack (I:Inv X pins σ H s):s.heap.FunFrames X.base X.stack:=by
 rcases I.ok.stk with e | ⟨e,hf⟩
 ·rw[e];exact I.tK
 ·rw[e]
  obtain⟨m,hn,_⟩:=I.loc
  refine .cons (by rw[I.ok.kind];decide) hf hn ?_ I.tK
  exact Heap.get?_none_of_le (Nat.le_trans I.ok.Gz I.ok.above)
theorem Inv.xR (I:Inv X pins σ H s):∀b∈frs X.stack,b∈X.env.locals :: X.fs:=fun b hb=>by
 rcases I.ok.stk with e | ⟨e,hf⟩
 ·rw[e] at hb;exact List.mem_cons_of_mem _ hb
 ·rw[e] at hb
  unfold frs at hb
  rw[List.filterMap_cons,hf] at hb
  exact hb
theorem Inv.B8 (I:Inv X pins σ H s):∀b∈frs X.stack,H b=none:=fun b hb=>by
 rcases List.mem_cons.mp (I.xR b hb) with e | hb
 ·rw[e];exact I.free
 ·obtain⟨_,o,ho,_⟩:=I.ok.tK.mem hb
  exact I.base.free b o ho (I.ok.Jm b hb) fun z=>I.ok.Ef b z hb
theorem Inv.step {g':Array GenState}{t':Nat}{d':Drawn}{ch:List Addr}(I:Inv X pins σ H s)
  (hch:∀b∈ch,(b∈X.ex∨X.s₀.heap.objs.size≤b)∧b≠X.env.locals∧(∀x c,X.env.cells.lookup x=some c→c≠b)∧∀p∈X.pn++pins,p.1≠b)
  (keep:∀b o,b≠X.env.locals→b∉X.fs→b∉ch→s.heap.get? b=some o→H b=none→h'.get? b=some o)
  (slot:∀b o,b≠X.env.locals→b∈X.fs→b∉ch→s.heap.get? b=some o→H b=none→∃sl,h'.get? b=some {o with slots:=sl}) (free:∀b o,b∉ch→s.heap.get? b=some o→H b=none→H' b=none)
  (there:∀b o,b∉ch→s.heap.get? b=some o→∃o',h'.get? b=some o')
  (tups:∀b xs,H b=some (.tup xs)→H' b=some (.tup xs)) (pS:∀b o u,H b=some (.jE o u)→H' b=some (.jE o u)) (qJ:∀b ps,H b=some (.Jk ps)→∃more,H' b=some (.Jk (ps++more)))
  (ns:∀m,s.heap.Ns X.env.locals m→h'.Ns X.env.locals m) (hok:oG X.prog X.w H' h') (hg:AllBare g'):
  Inv X pins σ H' {s with heap:=h',gens:=g',drawn:=d',toks:=t'}:=by
 have WY:∀b o,X.s₀.heap.get? b=some o→b≠X.env.locals:=fun b o e=>Nat.ne_of_lt (Nat.lt_of_lt_of_le (Heap.lt_size e) I.ok.above)
 have Pc:∀b o,X.s₀.heap.get? b=some o→b∉X.ex→b∉ch:=fun b o e hx hb=>by
  rcases(hch b hb).1 with z | z
  ·exact hx z
  ·exact absurd (Nat.lt_of_lt_of_le (Heap.lt_size e) z) (Nat.lt_irrefl _)
 have cellK:∀x c,X.env.cells.lookup x=some c→∀v,s.heap.IsCell c v→h'.IsCell c v:=fun x c e v ⟨o,ho,hd⟩=>by
  have Mh:c∉ch:=fun z=>(hch c z).2.2.1 x c e rfl
  by_cases hc:c∈X.fs
  ·obtain⟨sl,q⟩:=slot c o (I.Jo x c e) hc Mh ho (I.m6 x c e)
   exact⟨_,q,hd⟩
  ·exact⟨o,keep c o (I.Jo x c e) hc Mh ho (I.m6 x c e),hd⟩
 refine⟨I.ok,I.os,hg,⟨fun b o e n hb hx=>?_,fun b o e n hb hx=>?_,fun b o e n hx=>?_,fun b o e hx=>?_,fun b xs e=>tups b xs (I.base.tups b xs e),fun b o xs e=>pS b o xs (I.base.pS b o xs e),fun b ps e=>?_⟩,?_,fun x c e=>?_,?_,fun x c e=>?_,fun p hp=>?_,hok,I.len⟩
 ·exact keep b o (WY b o e) hb (Pc b o e hx) (I.base.keep b o e n hb hx) (I.base.free b o e n hx)
 ·obtain⟨sl,e1⟩:=I.base.slot b o e n hb hx
  obtain⟨QM,e2⟩:=slot b _ (WY b o e) hb (Pc b o e hx) e1 (I.base.free b o e n hx)
  exact⟨QM,e2⟩
 ·obtain⟨o',e1⟩:=I.base.there b o e hx
  exact free b o' (Pc b o e hx) e1 (I.base.free b o e n hx)
 ·obtain⟨o',e1⟩:=I.base.there b o e hx
  exact there b o' (Pc b o e hx) e1
 ·obtain⟨m1,e1⟩:=I.base.qJ b ps e
  obtain⟨m2,e2⟩:=qJ b _ e1
  exact⟨m1++m2,by rw[e2,Array.append_assoc]⟩
 ·obtain⟨m,hn,hl⟩:=I.loc
  refine⟨m,ns m hn,fun i x v e1 e2 e3=>?_⟩
  obtain⟨u,r,l⟩:=hl i x v e1 e2 e3
  refine⟨u,r,?_⟩
  rcases l with l | ⟨k,c,e,z⟩
  ·exact .inl l
  ·exact .inr ⟨k,c,e,cellK x c e _ z⟩
 ·obtain⟨v,z⟩:=I.cell x c e
  exact⟨v,cellK x c e v z⟩
 ·obtain⟨m,⟨o,_,_,ho,_⟩,_⟩:=I.loc
  exact free _ o (fun z=>(hch _ z).2.1 rfl) ho I.free
 ·obtain⟨v,o,ho,hd⟩:=I.cell x c e
  exact free c o (fun z=>(hch c z).2.2.1 x c e rfl) ho (I.m6 x c e)
 ·obtain⟨e,n,ne,nf,d⟩:=I.pin p hp
  have Mh:p.1∉ch:=fun z=>(hch p.1 z).2.2.2 p hp rfl
  exact⟨keep p.1 p.2 ne nf Mh e n,free p.1 p.2 Mh e n,ne,nf,d⟩
theorem Inv.un {t':Nat}(I:Inv X pins σ H s) (u:Un X.fs [] H H' s.heap h') (hok:oG X.prog X.w H' h'):Inv X pins σ H' {s with heap:=h',toks:=t'}:=by
 obtain⟨m,⟨o,es,ep,ho,r⟩,_⟩:=id I.loc
 obtain⟨sl,hL⟩:=u.any ho I.free (by simp)
 exact I.step (g':=s.gens) (d':=s.drawn) (ch:=[]) (fun _ z=>nomatch z) (fun b o _ hb _ e n=>u.keep b o e n hb (by simp)) (fun b o _ hb _ e n=>u.slot b o e n hb (by simp)) (fun b o _ e n=>u.free b o e n (by simp)) (fun b o _ e=>u.there b o e (by simp)) u.tups u.pS u.qJ (fun m' hm=>by
  obtain⟨o',es',QS,ho',r'⟩:=hm
  rw[ho] at ho';cases ho'
  exact⟨_,es',QS,hL,r'⟩) hok I.bare
theorem Inv.call {g':Array GenState}{t':Nat}{d':Drawn}{ch:List Addr}(I:Inv X pins σ H s) (u:Un (frs X.stack) ch H H' s.heap h') (hok:oG X.prog X.w H' h') (hg:AllBare g')
  (hch:∀b∈ch,(b∈X.ex∨X.s₀.heap.objs.size≤b)∧b≠X.env.locals∧(∀x c,X.env.cells.lookup x=some c→c≠b)∧∀p∈X.pn++pins,p.1≠b):
  Inv X pins σ H' {s with heap:=h',gens:=g',drawn:=d',toks:=t'}:=by
 obtain⟨m,⟨o,es,ep,ho,r⟩,_⟩:=id I.loc
 obtain⟨sl,hL⟩:=u.any ho I.free fun z=>(hch _ z).2.1 rfl
 exact I.step (ch:=ch) hch (fun b o hL hb hc e n=>u.keep b o e n (fun z=>(List.mem_cons.mp (I.xR b z)).elim hL hb) hc) (fun b o _ _ hc e n=>u.any e n hc) (fun b o hc e n=>u.free b o e n hc) (fun b o hc e=>u.there b o e hc) u.tups u.pS u.qJ (fun m' hm=>by
  obtain⟨o',es',QS,ho',r'⟩:=hm
  rw[ho] at ho';cases ho'
  exact⟨_,es',QS,hL,r'⟩) hok hg
theorem Inv.turned {t':Nat}{it:Addr}(I:Inv X pins σ H s) (k:∀b o,b≠it→s.heap.get? b=some o→h'.get? b=some o) (hn:H it=none) (hL:it≠X.env.locals)
  (h1:it∈X.ex∨X.s₀.heap.objs.size≤it) (h2:∀x c,X.env.cells.lookup x=some c→c≠it) (h3:∀p∈X.pn++pins,p.1≠it):Inv X pins σ H {s with heap:=h',toks:=t'}:=by
 have WZ:∀b u,H b=some u→b≠it:=fun b u e z=>by rw[z,hn] at e;cases e
 refine I.step (g':=s.gens) (d':=s.drawn) (ch:=[it]) (fun b hb=>?_) (fun b o _ _ hc e _=>k b o (fun z=>hc (by simp[z])) e) (fun b o _ _ hc e _=>⟨o.slots,k b o (fun z=>hc (by simp[z])) e⟩) (fun _ _ _ _ n=>n)
  (fun b o hc e=>⟨o,k b o (fun z=>hc (by simp[z])) e⟩) (fun _ _ e=>e) (fun _ _ _ e=>e) (fun b ps e=>⟨#[],by rw[e];simp⟩) (fun m hm=>?_) (fun b u e=>?_) I.bare
 ·have e:b=it:=by simpa using hb
  subst e
  exact⟨h1,hL,h2,h3⟩
 ·obtain⟨o,es,ep,ho,r⟩:=hm
  exact⟨o,es,ep,k _ o (Ne.symm hL) ho,r⟩
 ·refine(I.hok b u e).stay (fun c v hc q=>k c v ?_ q) (fun _ q=>q) fun _ _ q=>q
  rcases hc with z | z
  ·rw[z];exact WZ b u e
  ·exact WZ c _ z
theorem Inv.tok (I:Inv X pins σ H s) (t:Nat):Inv X pins σ H {s with toks:=t}:=I.un (h':=s.heap) (t':=t) Un.refl I.hok
theorem Inv.kept {t':Nat}(I:Inv X pins σ H s) (k:∀b u,s.heap.get? b=some u→h'.get? b=some u):Inv X pins σ H {s with heap:=h',toks:=t'}:=I.un (Un.kept k) (I.hok.kept k)
theorem Inv.laid {a:Addr}{o:HO}{t':Nat}(I:Inv X pins σ H s) (k:∀b u,s.heap.get? b=some u→h'.get? b=some u) (hp:s.heap.objs.size≤a) (new:fM X.prog X.w (upd H a o) h' a o):
  Inv X pins σ (upd H a o) {s with heap:=h',toks:=t'}:=I.un (Un.laid k hp (I.hok.fresh hp)) (I.hok.laid k hp new)
theorem Inv.write {x e:Addr}{o:HO}{t':Nat}(I:Inv X pins σ H s) (mu:Mc (H x)) (he:e=x∨H e=some (.own x)) (k:∀b u,b≠e→s.heap.get? b=some u→h'.get? b=some u) (LD:∃u,h'.get? e=some u)
  (new:fM X.prog X.w (upd H x o) h' x o):Inv X pins σ (upd H x o) {s with heap:=h',toks:=t'}:=I.un (Un.write mu he k LD) (I.hok.write mu he k LD new)
theorem Inv.weak {σ':List (Option V)}(I:Inv X pins σ H s) (hl:σ'.length=σ.length) (w:∀(i:Nat) v,σ'[i]? =some (some v)→σ[i]? =some (some v)):Inv X pins σ' H s:=
 ⟨I.ok,I.os,I.bare,I.base,let⟨m,hn,hl'⟩:=I.loc;⟨m,hn,fun i x v e1 e2 e3=>hl' i x v e1 (w i v e2) e3⟩,I.cell,I.free,I.m6,I.pin,I.hok,hl.trans I.len⟩
theorem Inv.B9 {Iw:List (Addr×Obj)}(I:Inv X pins σ H s) (h:∀p∈Iw,s.heap.get? p.1=some p.2∧H p.1=none∧p.1≠X.env.locals∧p.1∉X.fs∧∀v,p.2.data≠.cell v):Inv X Iw σ H s:=
 ⟨I.ok,I.os,I.bare,I.base,I.loc,I.cell,I.free,I.m6,fun p hp=>(List.mem_append.mp hp).elim (fun z=>I.pin p (List.mem_append_left _ z)) (h p),I.hok,I.len⟩
theorem zj {N:List Str}(hN:N.Nodup){i j:Nat}{x:Str}(a:N[i]? =some x) (b:N[j]? =some x):i=j:=by
 obtain⟨h1,e1⟩:=List.getElem?_eq_some_iff.mp a
 obtain⟨h2,e2⟩:=List.getElem?_eq_some_iff.mp b
 exact(List.getElem_inj hN).mp (e1.trans e2.symm)
theorem CP {M : Model} {A : Around} {E : Value → Shared → Prop} {i : Nat} {x : Str} {v : V} {u : Value} {Q : Unit → Shared → Prop} (I : Inv X pins σ H s) (hN : X.N.Nodup) (hi : X.N[i]? = some x) (hx : Loc X.env.scope x) (r : RelV v u)
    (h:∀s',Inv X pins (σ.set i (some v)) H s'→(∃a,Heap.SameBut a s.heap s'.heap∧(a=X.env.locals∨X.env.cells.lookup x=some a))→Q () s') (hf:X.fn x=true∨X.env.scope.names.lookup x=some .local:=by first | exact .inl rfl | exact .inr rfl | assumption):wpAny M A (storeName X.env x u) Q E s:=by
  obtain⟨m,hn,hl⟩:=id I.loc
  have hcls:(X.env.scope.kind == .class || (X.env.scope.kind == .module && X.env.locals != X.env.globals))=false:=by rw[I.ok.kind];rfl
  have Mi:i < σ.length:=by rw[I.len];exact(List.getElem?_eq_some_iff.mp hi).1
  have Jo:=I.Jo
  have tracked:∀{a:Addr}{h':Heap},(∃o,s.heap.get? a=some o∧H a=none)→Heap.SameBut a s.heap h'→oG X.prog X.w H h':=fun {a h'} ha hs b ob e=>by
    obtain⟨_,_,hfree⟩:=ha
    refine(I.hok b ob e).stay (fun c w' hc q=>(hs.2 c ?_).trans q) (fun _ q=>q) fun _ _ q=>q
    rintro rfl
    rcases hc with rfl | hc
    · rw[hfree] at e;cases e
    · rw[hfree] at hc;cases hc
  rcases hx with hk | hk
  · refine wpAny_storeName_local hk hn (fun h' hn' hs=>?_) hcls
    obtain⟨oL,_,_,Mj,_⟩:=id hn
    refine h _ ⟨I.ok,I.os,I.bare,⟨fun b o e n hb hx=>?_,fun b o e n hb hx=>?_,I.base.free,fun b o e hx=>?_,I.base.tups,I.base.pS,I.base.qJ⟩,⟨_,hn',fun j y v' e1 e2 e3=>?_⟩,fun y c e=>?_,I.free,I.m6,fun p hp=>?_,tracked ⟨oL,Mj,I.free⟩ hs,by simpa using I.len⟩ ⟨_,hs,.inl rfl⟩
    · exact(hs.2 b (Nat.ne_of_lt (Nat.lt_of_lt_of_le (Heap.lt_size e) I.ok.above))).trans (I.base.keep b o e n hb hx)
    · obtain⟨sl,e1⟩:=I.base.slot b o e n hb hx
      exact⟨sl,(hs.2 b (Nat.ne_of_lt (Nat.lt_of_lt_of_le (Heap.lt_size e) I.ok.above))).trans e1⟩
    · obtain⟨o',e1⟩:=I.base.there b o e hx
      exact⟨o',(hs.2 b (Nat.ne_of_lt (Nat.lt_of_lt_of_le (Heap.lt_size e) I.ok.above))).trans e1⟩
    · by_cases hj:j=i
      · subst hj
        rw[hi] at e1;cases e1
        rw[List.getElem?_set_self Mi] at e2
        cases e2
        exact⟨u,r,.inl ⟨hk,by simp⟩⟩
      · rw[List.getElem?_set_ne (Ne.symm hj)] at e2
        obtain⟨u',r',q⟩:=hl j y v' e1 e2 e3
        refine⟨u',r',?_⟩
        rcases q with⟨k,e⟩ | ⟨k,c,e,z⟩
        · refine .inl ⟨k,?_⟩
          have:y≠x:=fun e=>hj (zj hN e1 (e▸hi))
          simp[this,e]
        · exact .inr ⟨k,c,e,z.sameBut hs (Jo y c e)⟩
    · obtain⟨w',z⟩:=I.cell y c e
      exact⟨w',z.sameBut hs (Jo y c e)⟩
    · obtain⟨e,n,ne,nf,d⟩:=I.pin p hp
      exact⟨(hs.2 p.1 ne).trans e,n,ne,nf,d⟩
  · have hfn:X.fn x=true:=by
      rcases hf with z | z
      · exact z
      · rw[z] at hk;cases hk
    obtain⟨c,hc⟩:=I.ok.has x (.inl hk)
    obtain⟨w',z⟩:=I.cell x c hc
    refine wpAny_storeName_cell I.ok.kind hk hc z (fun h' hc' hs=>?_)
    obtain⟨oc,hoc,QT⟩:=id z
    refine h {s with heap:=h'} ⟨I.ok,I.os,I.bare,⟨fun b o e n hb hx=>?_,fun b o e n hb hx=>?_,I.base.free,fun b o e hx=>?_,I.base.tups,I.base.pS,I.base.qJ⟩,⟨m,hn.sameBut hs (Ne.symm (Jo x c hc)),fun j y v' e1 e2 e3=>?_⟩,fun y c' e=>?_,I.free,I.m6,fun p hp=>?_,tracked ⟨oc,hoc,I.m6 x c hc⟩ hs,by simpa using I.len⟩ ⟨c,hs,.inr hc⟩
    · exact(hs.2 b (Nat.ne_of_lt (Nat.lt_of_lt_of_le (Heap.lt_size e) (I.ok.Mf x c hfn hc)))).trans (I.base.keep b o e n hb hx)
    · obtain⟨sl,e1⟩:=I.base.slot b o e n hb hx
      exact⟨sl,(hs.2 b (Nat.ne_of_lt (Nat.lt_of_lt_of_le (Heap.lt_size e) (I.ok.Mf x c hfn hc)))).trans e1⟩
    · obtain⟨o',e1⟩:=I.base.there b o e hx
      exact⟨o',(hs.2 b (Nat.ne_of_lt (Nat.lt_of_lt_of_le (Heap.lt_size e) (I.ok.Mf x c hfn hc)))).trans e1⟩
    · by_cases hj:j=i
      · subst hj
        rw[hi] at e1;cases e1
        rw[List.getElem?_set_self Mi] at e2
        cases e2
        exact⟨u,r,.inr ⟨.inl hk,c,hc,hc'⟩⟩
      · rw[List.getElem?_set_ne (Ne.symm hj)] at e2
        obtain⟨u',r',q⟩:=hl j y v' e1 e2 e3
        refine⟨u',r',?_⟩
        rcases q with q | ⟨k,c',e,z'⟩
        · exact .inl q
        · refine .inr ⟨k,c',e,z'.sameBut hs ?_⟩
          rintro rfl
          exact hj (zj hN e1 (I.ok.inj _ _ _ e hc▸hi))
    · by_cases hcc:c'=c
      · subst hcc;exact⟨_,hc'⟩
      · obtain⟨w2,z2⟩:=I.cell y c' e
        exact⟨w2,z2.sameBut hs hcc⟩
    · obtain⟨e,n,ne,nf,d⟩:=I.pin p hp
      refine⟨(hs.2 p.1 ?_).trans e,n,ne,nf,d⟩
      intro q
      rw[q,hoc] at e
      have q':oc=p.2:=Option.some.inj e
      exact d w' (by rw[←q'];exact QT)
theorem zm {M:Model}{A:Around}{E:Value→Shared→Prop}{i:Nat}{x:Str}{v:V}{u:Value}{Q:Unit→Shared→Prop}(I:Inv X pins σ H s) (hN:X.N.Nodup) (hi:X.N[i]? =some x) (hx:Loc X.env.scope x) (r:RelV v u)
  (h:∀s',Inv X pins (σ.set i (some v)) H s'→Q () s') (hf:X.fn x=true∨X.env.scope.names.lookup x=some .local:=by first | exact .inl rfl | exact .inr rfl | assumption):wpAny M A (storeName X.env x u) Q E s:=
 CP I hN hi hx r (fun s' I' _=>h s' I') hf
theorem Inv.Mk {s':Shared}{ch:List Addr}(I:Inv X pins σ H s) (ho:s'.os=s.os) (u:Un (frs X.stack) ch H H' s.heap s'.heap) (hok:oG X.prog X.w H' s'.heap) (hg:AllBare s'.gens)
  (hch:∀b∈ch,(b∈X.ex∨X.s₀.heap.objs.size≤b)∧b≠X.env.locals∧(∀x c,X.env.cells.lookup x=some c→c≠b)∧∀p∈X.pn++pins,p.1≠b):Inv X pins σ H' s':=by
 obtain⟨h',g',d',t',o'⟩:=s'
 have e:o'=s.os:=ho
 subst e
 exact I.call (g':=g') (t':=t') (d':=d') u hok hg hch
end
noncomputable abbrev XK:=Value→Option Addr→Hp→Prop
noncomputable abbrev St:=List (Option V)
noncomputable abbrev VK:=V→Hp→Prop
noncomputable abbrev TE:=St→Hp→VK→Prop
noncomputable abbrev TT:=St→Hp→(Bool→Hp→Prop)→Prop
noncomputable abbrev TA:=St→Hp→(List V→Hp→Prop)→Prop
structure Ends where
 nx:St→Hp→Prop
 rt:VK
 bk:St→Hp→Prop:=fun _ _=>False
 ct:St→Hp→Prop:=fun _ _=>False
noncomputable abbrev TS:=Ends→St→Hp→Prop
noncomputable def EP (X:Cx) (pins:List (Addr×Obj)) (σ:St) (Q:VK) (u:Value) (s':Shared):Prop:=∃v H',Inv X pins σ H' s'∧RelV v u∧Q v H'
noncomputable def TP (X:Cx) (pins:List (Addr×Obj)) (σ:St) (Q:Bool→Hp→Prop) (b:Bool) (s':Shared):Prop:=∃H',Inv X pins σ H' s'∧Q b H'
noncomputable def AP (X:Cx) (pins:List (Addr×Obj)) (σ:St) (Q:List V→Hp→Prop) (us:List Value) (s':Shared):Prop:=∃vs H',Inv X pins σ H' s'∧Vals vs us∧Q vs H'
noncomputable def SP (X:Cx) (pins:List (Addr×Obj)) (D:Ends) (f:Flow) (s':Shared):Prop:=
 match f with
 | .next=>∃σ' H',Inv X pins σ' H' s'∧D.nx σ' H'
 | .brk=>∃σ' H',Inv X pins σ' H' s'∧D.bk σ' H'
 | .cont=>∃σ' H',Inv X pins σ' H' s'∧D.ct σ' H'
 | .ret u=>∃v σ' H',Inv X pins σ' H' s'∧RelV v u∧D.rt v H'
noncomputable def PE (X:Cx) (e:Expr) (t:TE):Prop:=
 ∀(pins:List (Addr×Obj)) (s:Shared) (σ:St) (H:Hp) (Q:VK),Inv X pins σ H s→t σ H Q→wpAny (model X.prog X.w) X.A (eval e X.env) (EP X pins σ Q) X.xe s
noncomputable def PT (X:Cx) (e:Expr) (t:TT):Prop:=
 ∀(pins:List (Addr×Obj)) (s:Shared) (σ:St) (H:Hp) (Q:Bool→Hp→Prop),Inv X pins σ H s→t σ H Q→wpAny (model X.prog X.w) X.A (isTrue e X.env (eval e X.env)) (TP X pins σ Q) X.xe s
noncomputable def PW (X:Cx) (e:Expr) (t:TT):Prop:=
 ∀(whole:Sem Value) (pins:List (Addr×Obj)) (s:Shared) (σ:St) (H:Hp) (Q:Bool→Hp→Prop),Inv X pins σ H s→t σ H Q→wpAny (model X.prog X.w) X.A (isTrue e X.env whole) (TP X pins σ Q) X.xe s
theorem PW.pt {X:Cx}{e:Expr}{t:TT}(h:PW X e t):PT X e t:=h _
noncomputable def PA (X:Cx) (es:List Expr) (t:TA):Prop:=
 ∀(pos:Pos) (pins:List (Addr×Obj)) (s:Shared) (σ:St) (H:Hp) (Q:List V→Hp→Prop),Inv X pins σ H s→t σ H Q→wpAny (model X.prog X.w) X.A (spliced (backTo pos (starEach es X.env))) (AP X pins σ Q) X.xe s
noncomputable def PS (X:Cx) (st:Stmt) (t:TS):Prop:=
 ∀(pins:List (Addr×Obj)) (s:Shared) (σ:St) (H:Hp) (D:Ends),Inv X pins σ H s→t D σ H→wpAny (model X.prog X.w) X.A (exec st X.env) (SP X pins D) X.xe s
noncomputable def AS (X:Cx) (st:List Stmt) (t:TS):Prop:=
 ∀(pins:List (Addr×Obj)) (s:Shared) (σ:St) (H:Hp) (D:Ends),Inv X pins σ H s→t D σ H→wpAny (model X.prog X.w) X.A (execs st X.env) (SP X pins D) X.xe s
theorem eU {α:Type}{t:Sem α}{Q Q':α→Shared→Prop}{M:Model}{A:Around}{E:Value→Shared→Prop}{s:Shared}(h:wpAny M A t Q E s) (hQ:∀a s,Q a s→Q' a s):wpAny M A t Q' E s:=wpAny_mono h hQ fun _ _ x=>x
end L2
namespace L2
open PySem PySem.Spec PyProof.Rows
section
variable {X:Cx}
theorem bin {a b:Expr}{ta tb:TE}(ha:PE X a ta) (hb:PE X b tb){pins:List (Addr×Obj)}{s:Shared}{σ:St}{H:Hp}{R:V→V→Hp→Prop}(I:Inv X pins σ H s) (h:ta σ H fun x H1=>tb σ H1 fun y H2=>R x y H2)
  {α:Type}{Q:α→Shared→Prop}{f:Value→Value→Sem α}
  (hf:∀v u s2 x y H2,Inv X pins σ H2 s2→RelV x v→RelV y u→R x y H2→wpAny (model X.prog X.w) X.A (f v u) Q X.xe s2):
  wpAny (model X.prog X.w) X.A (eval a X.env) (fun v s₁=>wpAny (model X.prog X.w) X.A (eval b X.env) (fun u s₂=>wpAny (model X.prog X.w) X.A (f v u) Q X.xe s₂) X.xe s₁) X.xe s:=by
 refine eU (ha pins s σ H _ I h) fun v s1 ⟨x,H1,I1,r1,q1⟩=>?_
 refine eU (hb pins s1 σ H1 _ I1 q1) fun u s2 ⟨y,H2,I2,r2,q2⟩=>?_
 exact hf v u s2 x y H2 I2 r1 r2 q2
noncomputable def Jp (i:Nat):TE:=fun σ H Q=>∃v,σ[i]? =some (some v)∧Q v H
noncomputable def tC (v:V):TE:=fun _ H Q=>Q v H
theorem iF {i:Nat}{x:Str}{pos:Pos}(hN:X.N[i]? =some x) (hv:Ec X.env.scope x) (hd:(x == ("__debug__":Str))=false:=by decide) (hcd:(x == ("__classdict__":Str))=false:=by decide):PE X (.Name x pos) (Jp i):=by
 intro pins s σ H Q I h
 obtain⟨v,e,h⟩:=h
 obtain⟨m,hn,hl⟩:=I.loc
 obtain⟨u,r,l⟩:=hl i x v hN e hv
 have fin:EP X pins σ Q u s:=⟨v,H,I,r,h⟩
 rcases l with⟨hk,hm⟩ | ⟨hk,c,hc,hcell⟩
 ·exact wpAny_Name (wpAny_loadName_local I.ok.kind hk hn hm fin) hd
 ·rcases hk with hk | hk
  ·exact wpAny_Name (wpAny_loadName_cell I.ok.kind hk hc hcell fin) hd
  ·exact wpAny_Name (wpAny_loadName_free I.ok.kind hk hc hcell fin hcd) hd
theorem Jq {i j pos}:PE X (.Constant (.int i) j pos) (tC (.int i)):=fun _ _ _ H _ I h=>wpAny_Constant_int ⟨.int i,H,I.tok _,⟨_,rfl⟩,h⟩
theorem Ml {b j pos}:PE X (.Constant (.bool b) j pos) (tC (.bl b)):=fun _ _ _ H _ I h=>Constant_bool ⟨.bl b,H,I,rfl,h⟩
theorem Eg {x j pos}:PE X (.Constant (.str x) j pos) (tC (.str x)):=fun _ _ _ H _ I h=>Calls.Constant_str ⟨.str x,H,I.tok _,⟨_,rfl⟩,h⟩
noncomputable def Gl (X:Cx) (x:Str):Prop:=X.env.kindOf x=some .globalImplicit
theorem xS {E:Value→Shared→Prop}{pins:List (Addr×Obj)}{s:Shared}{σ:St}{H:Hp}{x:Str}{u:Value}{pos:Pos}{Q:Value→Shared→Prop}(I:Inv X pins σ H s) (hg:Gl X x) (hm:X.mg x=some u) (h:Q u s)
  (hd:(x == ("__debug__":Str))=false:=by decide):wpAny (model X.prog X.w) X.A (eval (.Name x pos) X.env) Q E s:=
 Calls.Name_function_global I.ok.kind hg (Calls.loadGlobal_global (by rw[I.ok.glob];exact I.mod.glob.keeps I.bk) hm h) hd
theorem qK {E:Value→Shared→Prop}{pins:List (Addr×Obj)}{s:Shared}{σ:St}{H:Hp}{x:Str}{u:Value}{pos:Pos}{Q:Value→Shared→Prop}(I:Inv X pins σ H s) (hg:Gl X x) (hm:X.mg x=none) (hv:bootBuiltins x=some u) (h:Q u s)
  (hn:x≠"__name__":=by decide) (hd:(x == ("__debug__":Str))=false:=by decide):wpAny (model X.prog X.w) X.A (eval (.Name x pos) X.env) Q E s:=by
 obtain⟨mb,h1,h2⟩:=I.mod.blt
 exact Calls.Name_function_global I.ok.kind hg (Calls.loadGlobal_builtin (by rw[I.ok.glob];exact I.mod.glob.keeps I.bk) hm (by rw[I.ok.blt];exact h1.keeps I.bk) ((h2 x hn).trans hv) h) hd
theorem pT {x:Str}{v:V}{u:Value}{pos:Pos}(hg:Gl X x) (hm:X.mg x=some u) (r:RelV v u) (hd:(x == ("__debug__":Str))=false:=by decide):PE X (.Name x pos) (tC v):=
 fun _ _ _ H _ I h=>xS I hg hm ⟨v,H,I,r,h⟩ hd
theorem GC {x:Str}{v:V}{u:Value}{pos:Pos}(hg:Gl X x) (hm:X.mg x=none) (hv:bootBuiltins x=some u) (r:RelV v u) (hn:x≠"__name__":=by decide) (hd:(x == ("__debug__":Str))=false:=by decide):PE X (.Name x pos) (tC v):=
 fun _ _ _ H _ I h=>qK I hg hm hv ⟨v,H,I,r,h⟩ hn hd
variable {a b:Expr}{ta tb:TE}{pos:Pos}
noncomputable def PC (X:Cx) (op:CmpOp) (a b:Expr) (t:TE):Prop:=
 ∀(pins:List (Addr×Obj)) (s:Shared) (σ:St) (H:Hp) (Q:VK),Inv X pins σ H s→t σ H Q→
  wpAny (model X.prog X.w) X.A (eval a X.env) (fun v s₁=>wpAny (model X.prog X.w) X.A (eval b X.env) (fun u s₂=>wpAny (model X.prog X.w) X.A (compareOp op v u) (EP X pins σ Q) X.xe s₂) X.xe s₁) X.xe s
theorem Eh (b:Expr){op:CmpOp}(h:op≠.In) (h2:op≠.NotIn):behindInMarks op b=false:=by
 have e1:(op == CmpOp.In)=false:=by cases op <;> first | rfl | exact absurd rfl h
 have e2:(op == CmpOp.NotIn)=false:=by cases op <;> first | rfl | exact absurd rfl h2
 cases b <;> simp[behindInMarks,e1,e2]
noncomputable def tB (t:TE):TT:=fun σ H Q=>t σ H fun x H1=>∃c,x= .bl c∧Q c H1
theorem Jr {op:CmpOp}{t:TE}(h:PC X op a b t) (h1:behindInMarks op b=false:=by first | exact Eh _ (by decide) (by decide) | rfl):PT X (.Compare a [op] [b] pos) (tB t):=by
 intro pins s σ H Q I hw
 refine wpAny_isTrue_Compare1 (eU (h pins s σ H _ I hw) fun v s1 h1=>eU h1 fun u s2 h2=>eU h2 fun c s3 ⟨x,H1,I1,r1,q1⟩=>?_) h1
 obtain⟨d,rfl,q⟩:=q1
 cases r1
 exact wpAny_truthy_bool ⟨H1,I1,q⟩
theorem Js {e:Expr}{t:TE}(h:PE X e t) (he:∀whole,isTrue e X.env whole=(do let v ←whole;standAt e.pos;holding [v] (truthy v)):=by intro _;rfl):PT X e (tB t):=by
 intro pins s σ H Q I hw
 refine isTrue_plain (eU (h pins s σ H _ I hw) fun v s1 ⟨x,H1,I1,r1,q1⟩=>?_) (he _)
 obtain⟨d,rfl,q⟩:=q1
 cases r1
 exact wpAny_truthy_bool ⟨H1,I1,q⟩
variable {tA Pd:TT}{rest:List Expr}
noncomputable def QU (t u:TT):TT:=fun σ H Q=>t σ H fun c H1=>if c=true then u σ H1 Q else Q false H1
noncomputable def Yz (t u:TT):TT:=fun σ H Q=>t σ H fun c H1=>if c=true then Q true H1 else u σ H1 Q
noncomputable def QV (t:TT):TT:=fun σ H Q=>t σ H fun c H1=>Q (!c) H1
theorem pw_and1 (ha:PT X a tA):PW X (.BoolOp .And [a] pos) tA:=by
 intro wh pins s σ H Q I h
 refine isTrue_and (eU (ha pins s σ H Q I h) fun c s1 e=>?_)
 cases c with
 | true=>exact isTrue_and_nil e
 | false=>exact e
theorem pw_or1 (ha:PT X a tA):PW X (.BoolOp .Or [a] pos) tA:=by
 intro wh pins s σ H Q I h
 refine isTrue_or (eU (ha pins s σ H Q I h) fun c s1 e=>?_)
 cases c with
 | false=>exact isTrue_or_nil e
 | true=>exact e
theorem pw_and (ha:PT X a tA) (hb:PW X (.BoolOp .And (b :: rest) pos) Pd):PW X (.BoolOp .And (a :: b :: rest) pos) (QU tA Pd):=by
 intro wh pins s σ H Q I h
 refine isTrue_and (eU (ha pins s σ H _ I h) fun c s1 ⟨H1,I1,q1⟩=>?_)
 cases c with
 | true=>exact hb wh pins s1 σ H1 Q I1 q1
 | false=>exact⟨H1,I1,q1⟩
theorem pw_or (ha:PT X a tA) (hb:PW X (.BoolOp .Or (b :: rest) pos) Pd):PW X (.BoolOp .Or (a :: b :: rest) pos) (Yz tA Pd):=by
 intro wh pins s σ H Q I h
 refine isTrue_or (eU (ha pins s σ H _ I h) fun c s1 ⟨H1,I1,q1⟩=>?_)
 cases c with
 | true=>exact⟨H1,I1,q1⟩
 | false=>exact hb wh pins s1 σ H1 Q I1 q1
theorem Jt (ha:PT X a tA):PT X (.UnaryOp .Not a pos) (QV tA):=by
 intro pins s σ H Q I h
 exact isTrue_not (ha pins s σ H (fun c H1=>Q (!c) H1) I h)
noncomputable def Mm (ta tb:TE):TE:=fun σ H Q=>ta σ H fun x H1=>∃c,x= .bl c∧if c=true then tb σ H1 Q else Q (.bl false) H1
noncomputable def QW (ta tb:TE):TE:=fun σ H Q=>ta σ H fun x H1=>∃c,x= .bl c∧if c=true then Q (.bl true) H1 else tb σ H1 Q
theorem Ju {op}{t:TE}(h:PE X a t):PE X (.BoolOp op [a] pos) t:=fun pins s σ H Q I hw=>BoolOp_one (h pins s σ H Q I hw)
theorem Jv (ha:PE X a ta) (hb:PE X (.BoolOp .And (b :: rest) pos) tb):PE X (.BoolOp .And (a :: b :: rest) pos) (Mm ta tb):=by
 intro pins s σ H Q I h
 refine BoolOp_and (eU (ha pins s σ H _ I h) fun v s1 ⟨x,H1,I1,r1,q1⟩=>?_)
 obtain⟨c,rfl,q1⟩:=q1
 cases r1
 refine wpAny_truthy_bool ?_
 cases c with
 | true=>exact hb pins s1 σ H1 Q I1 q1
 | false=>exact⟨.bl false,H1,I1,rfl,q1⟩
theorem Mn (ha:PE X a ta) (hb:PE X (.BoolOp .Or (b :: rest) pos) tb):PE X (.BoolOp .Or (a :: b :: rest) pos) (QW ta tb):=by
 intro pins s σ H Q I h
 refine BoolOp_or (eU (ha pins s σ H _ I h) fun v s1 ⟨x,H1,I1,r1,q1⟩=>?_)
 obtain⟨c,rfl,q1⟩:=q1
 cases r1
 refine wpAny_truthy_bool ?_
 cases c with
 | false=>exact hb pins s1 σ H1 Q I1 q1
 | true=>exact⟨.bl true,H1,I1,rfl,q1⟩
end
end L2
namespace L2
open PySem PySem.Spec PyProof.Rows
noncomputable def oH (K:PySem.W.Frag) (H:Hp) (a:Addr) (xs:List V):Prop:=
 Rd H a (.lst xs)∨
  ∃(o:Obj) (its:Array Value) (n:Nat),K.lookup a=some o∧o.cls= .type "list"∧o.dict=none∧o.data= .seq its n∧its.size≤sizeLine∧Vals xs its.toList
noncomputable def xT (K:PySem.W.Frag) (H:Hp) (a:Addr) (xs:List V):Prop:=
 Rd H a (.tup xs)∨
  ∃(o:Obj) (its:Array Value) (n:Nat),K.lookup a=some o∧o.cls= .type "tuple"∧o.data= .seq its n∧its.size≤sizeLine∧Vals xs its.toList
noncomputable def QX:Value→Option V
 | .none=>some .cI
 | .bool b=>some (.bl b)
 | .int i _=>some (.int i)
 | .str x _=>some (.str x)
 | .bytes b _=>some (.QK b)
 | .float b _=>some (.flt b)
 | .ref a=>some (.ref a)
 | .type n=>some (.ty n)
 | _=>none
theorem RelV.abs {x:V}{u:Value}(r:RelV x u):QX u=some x:=by
 cases x with
 | cI=>cases r;rfl
 | bl _=>cases r;rfl
 | int _=>obtain⟨t,rfl⟩:=r;rfl
 | str _=>obtain⟨t,rfl⟩:=r;rfl
 | QK _=>obtain⟨t,rfl⟩:=r;rfl
 | flt _=>obtain⟨t,rfl⟩:=r;rfl
 | ref _=>cases r;rfl
 | ty _=>cases r;rfl
theorem RelV.inj {x y:V}{u:Value}(r:RelV x u) (q:RelV y u):x=y:=Option.some.inj (r.abs.symm.trans q.abs)
theorem Vals.inj:∀{xs ys:List V}{us:List Value},Vals xs us→Vals ys us→xs=ys
 | _,_,_,.nil,.nil=>rfl
 | _,_,_,.cons r t,.cons r' t'=>by rw[r.inj r',Vals.inj t t']
section
variable {X:Cx}{pins:List (Addr×Obj)}{σ:St}{H:Hp}{s:Shared}{a:Addr}{xs ys:List V}
theorem oH.of {K:PySem.W.Frag}(h:H a=some (.lst xs)):oH K H a xs:=.inl (.inl h)
theorem xT.of {K:PySem.W.Frag}(h:H a=some (.tup xs)):xT K H a xs:=.inl (.inl h)
theorem Inv.list (I:Inv X pins σ H s) (h:oH X.K H a xs):∃its:List Value,Vals xs its∧PlainL s.heap a its.toArray∧xs.length≤sizeLine:=by
 rcases h with h | ⟨o,its,n,hk,hc,hd,hs,hz,r⟩
 ·obtain⟨z,its,n,r,e⟩:=h.ok I.hok
  exact⟨its,r,⟨_,n,e,rfl,rfl,rfl⟩,z⟩
 ·refine⟨its.toList,r,⟨o,n,I.AX a o hk,hc,hd,by simpa using hs⟩,?_⟩
  have e:=r.length
  simp only[Array.length_toList] at e
  omega
theorem Inv.tuple (I:Inv X pins σ H s) (h:xT X.K H a xs):∃its:List Value,Vals xs its∧IsTup s.heap a its.toArray∧xs.length≤sizeLine:=by
 rcases h with h | ⟨o,its,n,hk,hc,hs,hz,r⟩
 ·obtain⟨z,its,r,p⟩:=h.ok I.hok
  exact⟨its,r,p,z⟩
 ·refine⟨its.toList,r,⟨o,I.AX a o hk,hc,n,by simpa using hs⟩,?_⟩
  have e:=r.length
  simp only[Array.length_toList] at e
  omega
theorem Inv.Ei (I:Inv X pins σ H s) (h:oH X.K H a xs) (h':oH X.K H a ys):xs=ys:=by
 obtain⟨its,r,⟨o,n,e,_,_,d⟩,_⟩:=I.list h
 obtain⟨its',r',⟨o',n',e',_,_,d'⟩,_⟩:=I.list h'
 rw[e] at e';cases e'
 rw[d] at d'
 injection d' with d1 _
 have:its=its':=by simpa using congrArg Array.toList d1
 subst this
 exact r.inj r'
theorem Inv.CQ (I:Inv X pins σ H s) (h:xT X.K H a xs) (h':xT X.K H a ys):xs=ys:=by
 obtain⟨its,r,⟨o,e,_,n,d⟩,_⟩:=I.tuple h
 obtain⟨its',r',⟨o',e',_,n',d'⟩,_⟩:=I.tuple h'
 rw[e] at e';cases e'
 rw[d] at d'
 injection d' with d1 _
 have:its=its':=by simpa using congrArg Array.toList d1
 subst this
 exact r.inj r'
end
noncomputable abbrev Cx.tL (X:Cx) (E:Value→Shared→Prop):Cx:={X with xe:=E}
noncomputable abbrev Cx.GF (X:Cx):Cx:=X.tL fun _ _=>False
theorem Cx.Ok.tL {X:Cx}(ok:X.Ok) (E:Value→Shared→Prop):(X.tL E).Ok:=
 ⟨ok.mod,ok.kind,ok.glob,ok.blt,ok.above,ok.inj,ok.has,ok.Mf,ok.hd,ok.frames,ok.stk,ok.QO,ok.bs,ok.Gz,ok.Ed,ok.Ef,ok.tK,ok.Jm⟩
theorem Cx.Ok.kB {X:Cx}{E:Value→Shared→Prop}(ok:(X.tL E).Ok):X.Ok:=
 ⟨ok.mod,ok.kind,ok.glob,ok.blt,ok.above,ok.inj,ok.has,ok.Mf,ok.hd,ok.frames,ok.stk,ok.QO,ok.bs,ok.Gz,ok.Ed,ok.Ef,ok.tK,ok.Jm⟩
section
variable {X:Cx}{pins:List (Addr×Obj)}{σ:St}{H:Hp}{s:Shared}{E:Value→Shared→Prop}
theorem Inv.tL (I:Inv X pins σ H s) (E:Value→Shared→Prop):Inv (X.tL E) pins σ H s:=⟨I.ok.tL E,I.os,I.bare,I.base,I.loc,I.cell,I.free,I.m6,I.pin,I.hok,I.len⟩
theorem Inv.kB (I:Inv (X.tL E) pins σ H s):Inv X pins σ H s:=⟨I.ok.kB,I.os,I.bare,I.base,I.loc,I.cell,I.free,I.m6,I.pin,I.hok,I.len⟩
theorem SP.kB {D:Ends}{f:Flow}{s':Shared}(h:SP (X.tL E) pins D f s'):SP X pins D f s':=by
 cases f with
 | next=>obtain⟨σ',H',I,q⟩:=h;exact⟨σ',H',I.kB,q⟩
 | brk=>obtain⟨σ',H',I,q⟩:=h;exact⟨σ',H',I.kB,q⟩
 | cont=>obtain⟨σ',H',I,q⟩:=h;exact⟨σ',H',I.kB,q⟩
 | ret u=>obtain⟨v,σ',H',I,r,q⟩:=h;exact⟨v,σ',H',I.kB,r,q⟩
theorem PE.GF {e:Expr}{t:TE}(h:PE X.GF e t):PE X e t:=fun pins s σ H Q I hw=>
 wpAny_mono (h pins s σ H Q (I.tL _) hw) (fun _ _ ⟨v,H',I',r,q⟩=>⟨v,H',I'.kB,r,q⟩) fun _ _ z=>False.elim z
theorem PT.GF {e:Expr}{t:TT}(h:PT X.GF e t):PT X e t:=fun pins s σ H Q I hw=>
 wpAny_mono (h pins s σ H Q (I.tL _) hw) (fun _ _ ⟨H',I',q⟩=>⟨H',I'.kB,q⟩) fun _ _ z=>False.elim z
theorem AS.GF {st:List Stmt}{t:TS}(h:AS X.GF st t):AS X st t:=fun pins s σ H D I hw=>
 wpAny_mono (h pins s σ H D (I.tL _) hw) (fun _ _ q=>q.kB) fun _ _ z=>False.elim z
end
section
variable {X:Cx}{st:Stmt}{rest:List Stmt}{t u:TS}{e:Expr}{te:TE}{pos:Pos}
noncomputable def Mp:TS:=fun D σ H=>D.nx σ H
noncomputable def QY (t u:TS):TS:=fun D σ H=>t {D with nx:=u D} σ H
theorem GG:AS X [] Mp:=fun _ _ σ H _ I h=>wpAny_execs_nil ⟨σ,H,I,h⟩
theorem Ej (h1:PS X st t) (h2:AS X rest u):AS X (st :: rest) (QY t u):=by
 intro pins s σ H D I h
 refine wpAny_execs_cons (eU (h1 pins s σ H {D with nx:=u D} I h) fun f s1 q=>?_)
 cases f with
 | next=>
  obtain⟨σ',H',I',q⟩:=q
  exact h2 pins s1 σ' H' D I' q
 | ret v=>exact q
 | brk=>exact q
 | cont=>exact q
theorem GH (h1:PS X st t):AS X [st] t:=by
 intro pins s σ H D I h
 refine wpAny_execs_cons (eU (h1 pins s σ H D I h) fun f s1 q=>?_)
 cases f with
 | next=>exact wpAny_execs_nil q
 | ret v=>exact q
 | brk=>exact q
 | cont=>exact q
theorem Inv.quiet {pins:List (Addr×Obj)}{σ:St}{H:Hp}{s:Shared}(I:Inv X pins σ H s):interactive X.env=false:=by simp[interactive,I.ok.kind]
noncomputable def Mq (te:TE):TS:=fun D σ H=>te σ H fun _ H1=>D.nx σ H1
theorem GJ (he:PE X e te) (hs:swapsWith e none pos.line X.env=pure false:=by rfl):PS X (.Expr e pos) (Mq te):=by
 intro pins s σ H D I h
 exact wpAny_Expr_any (eU (he pins s σ H _ I h) fun v s1 ⟨x,H1,I1,r1,q1⟩=>⟨σ,H1,I1,q1⟩) I.quiet hs
noncomputable def QZ (te:TE):TS:=fun D σ H=>te σ H D.rt
theorem Jw (he:PE X e te):PS X (.Return (some e) pos) (QZ te):=by
 intro pins s σ H D I h
 exact wpAny_Return_some (eU (he pins s σ H _ I h) fun v s1 ⟨x,H1,I1,r1,q1⟩=>⟨x,σ,H1,I1,r1,q1⟩)
noncomputable def Q0 (c:TT) (t u:TS):TS:=fun D σ H=>c σ H fun b H1=>if b=true then t D σ H1 else u D σ H1
theorem Mr {c:Expr}{a b:List Stmt}{tc:TT}(hc:PT X c tc) (ha:AS X a t) (hb:AS X b u):PS X (.If c a b pos) (Q0 tc t u):=by
 intro pins s σ H D I h
 refine wpAny_If (eU (hc pins s σ H _ I h) fun d s1 ⟨H1,I1,q1⟩=>?_)
 cases d with
 | true=>exact ha pins s1 σ H1 D I1 q1
 | false=>exact hb pins s1 σ H1 D I1 q1
end
noncomputable abbrev TG:=V→St→Hp→(St→Hp→Prop)→Prop
noncomputable abbrev W2:=List V→St→Hp→(St→Hp→Prop)→Prop
noncomputable def PG (X:Cx) (target:Expr) (t:TG):Prop:=
 ∀(pins:List (Addr×Obj)) (s:Shared) (σ:St) (H:Hp) (v:V) (u:Value) (Q:St→Hp→Prop),Inv X pins σ H s→RelV v u→t v σ H Q→
  wpAny (model X.prog X.w) X.A (assign target X.env u) (fun _ s'=>∃σ' H',Inv X pins σ' H' s'∧Q σ' H') X.xe s
noncomputable def Q2 (X:Cx) (ts:List Expr) (t:W2):Prop:=
 ∀(pins:List (Addr×Obj)) (s:Shared) (σ:St) (H:Hp) (vs:List V) (us:List Value) (Q:St→Hp→Prop),Inv X pins σ H s→Vals vs us→t vs σ H Q→
  wpAny (model X.prog X.w) X.A (assignInOrder ((assignEach ts X.env).map (·.2)) us) (fun _ s'=>∃σ' H',Inv X pins σ' H' s'∧Q σ' H') X.xe s
noncomputable abbrev Jx:=V→V→V→Hp→(Hp→Prop)→Prop
noncomputable def Ms (X:Cx) (t:Jx):Prop:=
 ∀(pins:List (Addr×Obj)) (s:Shared) (σ:St) (H:Hp) (o i v:V) (ov iv u:Value) (Q:Hp→Prop),Inv X pins σ H s→RelV o ov→RelV i iv→RelV v u→t o i v H Q→
  wpAny (model X.prog X.w) X.A (setItem ov iv u) (fun _ s'=>∃H',Inv X pins σ H' s'∧Q H') X.xe s
section
variable {X:Cx}{pos:Pos}
noncomputable def zo (i:Nat):TG:=fun v σ H Q=>Q (σ.set i (some v)) H
theorem Ca {i:Nat}{x:Str}(hN:X.N.Nodup) (hi:X.N[i]? =some x) (hx:Loc X.env.scope x) (hf:X.fn x=true∨X.env.scope.names.lookup x=some .local:=by first | exact .inl rfl | exact .inr rfl | assumption):PG X (.Name x pos) (zo i):=by
 intro pins s σ H v u Q I r h
 exact wpAny_assign_Name (zm I hN hi hx r (fun s' I'=>⟨_,H,I',h⟩) hf)
noncomputable def Q3 (to ti:TE) (t:Jx):TG:=fun v σ H Q=>to σ H fun o H1=>ti σ H1 fun i H2=>t o i v H2 fun H3=>Q σ H3
theorem Jy {o i:Expr}{to ti:TE}{t:Jx}(ho:PE X o to) (hi:PE X i ti) (hs:Ms X t)
  (ha:∀v,assign (.Subscript o i pos) X.env v=(do
   let ov ←holding [v] (eval o X.env)
   let iv ←holding [v,ov] (eval i X.env)
   standAt pos
   holding [v,ov,iv] (setItem ov iv v)
   release [v,ov,iv] []):=by intro _;rfl):PG X (.Subscript o i pos) (Q3 to ti t):=by
 intro pins s σ H v u Q I r h
 rw[ha]
 refine wpAny_bind (wpAny_holding (eU (ho pins s σ H _ I h) fun ov s1 ⟨x,H1,I1,r1,q1⟩=>?_))
 refine wpAny_bind (wpAny_holding (eU (hi pins s1 σ H1 _ I1 q1) fun iv s2 ⟨y,H2,I2,r2,q2⟩=>?_))
 refine wpAny_bind (wpAny_standAt (wpAny_bind (wpAny_holding (eU (hs pins s2 σ H2 x y v ov iv u _ I2 r1 r2 r q2) fun _ s3 ⟨H3,I3,q3⟩=>?_))))
 exact wpAny_release ⟨σ,H3,I3,q3⟩
noncomputable def Jz (te:TE) (g:TG):TS:=fun D σ H=>te σ H fun x H1=>g x σ H1 D.nx
theorem JC {tg e:Expr}{te:TE}{g:TG}(he:PE X e te) (hg:PG X tg g) (hs:swapsWithSole [tg] e pos.line X.env=pure false:=by rfl) (hw:swappedStores [tg] e X.env=pure none:=by rfl)
  (h1:(assignEach [tg] X.env).map (·.2)=[assign tg X.env]:=by rfl):PS X (.Assign [tg] e pos) (Jz te g):=by
 intro pins s σ H D I h
 refine wpAny_Assign_stores (eU (he pins s σ H _ I h) fun v s1 ⟨x,H1,I1,r1,q1⟩=>?_) hs hw
 rw[h1]
 exact eU (hg pins s1 σ H1 x v _ I1 r1 q1) fun _ s2 q=>q
theorem JF {i:Nat}{x:Str}{e:Expr}{te:TE}{pos':Pos}(hN:X.N.Nodup) (hi:X.N[i]? =some x) (hx:Loc X.env.scope x) (he:PE X e te) (hs:swapsWith e (some (.Name x pos')) pos.line X.env=pure false:=by rfl) (hf:X.fn x=true∨X.env.scope.names.lookup x=some .local:=by first | exact .inl rfl | exact .inr rfl | assumption):
  PS X (.Assign [.Name x pos'] e pos) (Jz te (zo i)):=by
 intro pins s σ H D I h
 refine wpAny_Assign_Name (eU (he pins s σ H _ I h) fun v s1 ⟨y,H1,I1,r1,q1⟩=>?_) hs
 exact zm I1 hN hi hx r1 (fun s2 I2=>⟨_,H1,I2,q1⟩) hf
end
section
variable {X:Cx}{pos:Pos}
end
structure It where
 go:Nat→Hp→Prop
 Pe:Nat→Hp→V→Hp→Prop
 stop:Nat→Hp→Prop
noncomputable def uz (X:Cx) (pins:List (Addr×Obj)) (H:Hp) (b:Addr):Prop:=
 H b=none∧b≠X.env.locals∧b∉X.fs∧(b∈X.ex∨X.s₀.heap.objs.size≤b)∧(∀x c,X.env.cells.lookup x=some c→c≠b)∧∀p∈X.pn++pins,p.1≠b
theorem Inv.Ek {X:Cx}{pins:List (Addr×Obj)}{σ:St}{H H':Hp}{s:Shared}{b:Addr}(I:Inv X pins σ H s) (hb:s.heap.objs.size≤b) (hn:H' b=none):uz X pins H' b:=by
 refine⟨hn,Nat.ne_of_gt (Nat.lt_of_lt_of_le I.lt hb),I.Mg hb,.inr (Nat.le_trans I.sz hb),fun x c e z=>?_,fun p hp z=>?_⟩
 ·obtain⟨v,q⟩:=I.cell x c e
  exact absurd (Nat.lt_of_lt_of_le q.lt (by rw[z];exact hb)) (Nat.lt_irrefl _)
 ·exact absurd (Nat.lt_of_lt_of_le (Heap.lt_size (I.pin p hp).1) (by rw[z];exact hb)) (Nat.lt_irrefl _)
structure Turn (P:Program) (w:World) (K:PySem.W.Frag) (tg:Expr) (J:It) (fp:List Addr) (it:Addr) (tn:Nat→Heap→Prop):Prop where
 mem:it∈fp
 obj:∀i h,tn i h→∀b∈fp,∃o,h.get? b=some o∧∀v,o.data≠.cell v
 keep:∀i h h',tn i h→(∀b∈fp,∀o,h.get? b=some o→h'.get? b=some o)→tn i h'
 item:∀(X:Cx),X.prog=P→X.w=w→X.K=K→X.calm=true→∀(i:Nat) (pins:List (Addr×Obj)) (s:Shared) (σ:St) (H:Hp) (E:Value→Shared→Prop),Inv X pins σ H s→(∀b∈fp,uz X pins H b)→tn i s.heap→J.go i H→
  wpAny (model P w) X.A (pyNext (.ref it)) (fun r s1=>∃u,r=some u∧
   wpAny (model P w) X.A (letOwnedTupleGo tg (.ref it) u) (fun _ s2=>∃x H',Inv X pins σ H' s2∧RelV x u∧J.Pe i H x H'∧tn (i+1) s2.heap∧∀b∈fp,H' b=none) E s1) E s
 done:∀(X:Cx),X.prog=P→X.w=w→X.K=K→X.calm=true→∀(i:Nat) (pins:List (Addr×Obj)) (s:Shared) (σ:St) (H:Hp) (E:Value→Shared→Prop),Inv X pins σ H s→(∀b∈fp,uz X pins H b)→tn i s.heap→J.stop i H→
  wpAny (model P w) X.A (pyNext (.ref it)) (fun r s1=>r=none∧Inv X pins σ H s1) E s
 self:∀(A:Around) (i:Nat) (s:Shared) (Q:Value→Shared→Prop) (E:Value→Shared→Prop),tn i s.heap→Q (.ref it) s→wpAny (model P w) A (pyIter (.ref it)) Q E s
noncomputable abbrev TI:=St→Hp→(It→Hp→Prop)→Prop
noncomputable def Q4 (X:Cx) (pins:List (Addr×Obj)) (σ:St) (tg:Expr) (R:It→Hp→Prop) (itv:Value) (s2:Shared):Prop:=
 ∃(it:Addr) (fp:List Addr) (tn:Nat→Heap→Prop) (J:It) (H':Hp),itv= .ref it∧Inv X pins σ H' s2∧Turn X.prog X.w X.K tg J fp it tn∧tn 0 s2.heap∧(∀b∈fp,uz X pins H' b)∧R J H'
noncomputable def PI (X:Cx) (tg iter:Expr) (wi:TI):Prop:=
 ∀(pins:List (Addr×Obj)) (s:Shared) (σ:St) (H:Hp) (R:It→Hp→Prop),Inv X pins σ H s→wi σ H R→
  wpAny (model X.prog X.w) X.A (eval iter X.env) (fun v s1=>wpAny (model X.prog X.w) X.A (pyIter v) (Q4 X pins σ tg R) X.xe s1) X.xe s
theorem El {M : Model} {A : Around} {E : Value → Shared → Prop} {s : Shared} {tg : Expr} {it : Addr} {u : Value} {o : Obj} {n : String} {vs : Array Value} {Q : Unit → Shared → Prop} (ho : s.heap.get? it = some o) (hc : o.cls = .type n) (hd : o.data = .fields vs)
    (hn:["enumerate","zip","dict_itemiterator","dict_reverseitemiterator","odict_iterator","itertools.zip_longest","itertools.pairwise"].contains n=false) (hQ:Q () s):wpAny M A (letOwnedTupleGo tg (.ref it) u) Q E s:=by
  unfold letOwnedTupleGo
  cases tg <;> first
    | exact wpAny_pure hQ
    | (cases u <;> first
        | exact wpAny_pure hQ
        | (refine wpAny_bind (wpAny_load ho ?_)
           rw[hc,hd]
           show wpAny M A (if(["enumerate","zip","dict_itemiterator","dict_reverseitemiterator","odict_iterator","itertools.zip_longest","itertools.pairwise"].contains n && vs[0]? == some (rawInt _))=true then _ else _) Q E s
           rw[if_neg (by intro h;rw[hn,Bool.false_and] at h;cases h)]
           exact wpAny_pure hQ))
noncomputable def Q5 (K:PySem.W.Frag) (a:Addr):It:=
 ⟨fun i H=>∃xs x,oH K H a xs∧xs[i]? =some x,fun i H x H'=>H'=H∧∀xs,oH K H a xs→xs[i]? =some x,fun i H=>∃xs,oH K H a xs∧xs.length≤i⟩
noncomputable def Q6 (K:PySem.W.Frag) (a:Addr):It:=
 ⟨fun i H=>∃xs x,xT K H a xs∧xs[i]? =some x,fun i H x H'=>H'=H∧∀xs,xT K H a xs→xs[i]? =some x,fun i H=>∃xs,xT K H a xs∧xs.length≤i⟩
noncomputable def Pf (lo:Int) (n:Nat):It:=⟨fun i _=>i < n,fun i H x H'=>H'=H∧x= .int (lo+i),fun i _=>n≤i⟩
theorem CS {P:Program}{w:World}{K:PySem.W.Frag}{tg:Expr}(a it:Addr):Turn P w K tg (Q5 K a) [it] it (fun i h=>h.IsListIter it a i) where
 mem:=by simp
 obj:=fun i h st b hb=>by
  have e:b=it:=by simpa using hb
  subst e
  obtain⟨o,e,c,d⟩:=st
  exact⟨o,e,fun v z=>by rw[d] at z;cases z⟩
 keep:=fun i h h' st k=>st.at fun o e=>k it (by simp) o e
 item:=by
  intro X hP hw hK hc i pins s σ H E I hf st hg
  subst hP hw hK
  obtain⟨xs,x,hq,hx⟩:=hg
  obtain⟨its,rv,p,hz⟩:=I.list hq
  obtain⟨u,hu,ru⟩:=rv.get hx
  obtain⟨f0,f1,f2,f3,f4,f5⟩:=hf it (by simp)
  refine wpAny_pyNext_list_item st p.isList (x:=u) (by simpa using hu) fun h' st' sb=>?_
  have I1:Inv X pins σ H {s with heap:=h'}:=I.turned (t':=s.toks) (fun b o hb e=>(sb.2 b hb).trans e) f0 f1 f3 f4 f5
  obtain⟨o,e,c,d⟩:=id st'
  exact⟨u,rfl,El (s:={s with heap:=h'}) e c d (by decide) ⟨x,H,I1,ru,⟨rfl,fun ys hy=>by rw[I.Ei hy hq];exact hx⟩,st',fun b hb=>(hf b hb).1⟩⟩
 done:=by
  intro X hP hw hK hc i pins s σ H E I hf st hg
  subst hP hw hK
  obtain⟨xs,hq,hx⟩:=hg
  obtain⟨its,rv,p,hz⟩:=I.list hq
  obtain⟨f0,f1,f2,f3,f4,f5⟩:=hf it (by simp)
  have hl:=rv.length
  exact wpAny_pyNext_list_end (I.ok.hd hc) st p.isList (by simp;omega) fun h' eb=>⟨rfl,I.turned (t':=s.toks) (fun b o hb e=>eb b o hb e) f0 f1 f3 f4 f5⟩
 self:=fun _ _ _ _ _ st h=>wpAny_pyIter_listiter st h
theorem AY {P:Program}{w:World}{K:PySem.W.Frag}{tg:Expr}(a it:Addr):Turn P w K tg (Q6 K a) [it] it (fun i h=>h.IsTupleIter it a i) where
 mem:=by simp
 obj:=fun i h st b hb=>by
  have e:b=it:=by simpa using hb
  subst e
  obtain⟨o,e,c,d⟩:=st
  exact⟨o,e,fun v z=>by rw[d] at z;cases z⟩
 keep:=fun i h h' st k=>st.at fun o e=>k it (by simp) o e
 item:=by
  intro X hP hw hK hc i pins s σ H E I hf st hg
  subst hP hw hK
  obtain⟨xs,x,hq,hx⟩:=hg
  obtain⟨its,rv,p,hz⟩:=I.tuple hq
  obtain⟨u,hu,ru⟩:=rv.get hx
  obtain⟨f0,f1,f2,f3,f4,f5⟩:=hf it (by simp)
  refine wpAny_pyNext_tuple_item st (show s.heap.IsTuple a its.toArray from p) (x:=u) (by simpa using hu) fun h' st' sb=>?_
  have I1:Inv X pins σ H {s with heap:=h'}:=I.turned (t':=s.toks) (fun b o hb e=>(sb.2 b hb).trans e) f0 f1 f3 f4 f5
  obtain⟨o,e,c,d⟩:=id st'
  exact⟨u,rfl,El (s:={s with heap:=h'}) e c d (by decide) ⟨x,H,I1,ru,⟨rfl,fun ys hy=>by rw[I.CQ hy hq];exact hx⟩,st',fun b hb=>(hf b hb).1⟩⟩
 done:=by
  intro X hP hw hK hc i pins s σ H E I hf st hg
  subst hP hw hK
  obtain⟨xs,hq,hx⟩:=hg
  obtain⟨its,rv,p,hz⟩:=I.tuple hq
  obtain⟨f0,f1,f2,f3,f4,f5⟩:=hf it (by simp)
  have hl:=rv.length
  exact wpAny_pyNext_tuple_end (I.ok.hd hc) st (show s.heap.IsTuple a its.toArray from p) (by simp;omega) fun h' eb=>⟨rfl,I.turned (t':=s.toks) (fun b o hb e=>eb b o hb e) f0 f1 f3 f4 f5⟩
 self:=fun _ _ _ _ _ st h=>wpAny_pyIter_tupleiter st h
theorem AZ {P:Program}{w:World}{K:PySem.W.Frag}{tg:Expr}(it:Addr) (lo:Int) (n:Nat):Turn P w K tg (Pf lo n) [it] it (fun i h=>IsRangeIter h it (lo+(i:Nat) * 1) ((n:Int) - (i:Nat)) 1) where
  mem:=by simp
  obj := fun i h st b hb => by
    have e:b=it:=by simpa using hb
    subst e
    exact⟨_,st,fun v z=>by
      have z':Data.fields _=Data.cell v:=z
      cases z'⟩
  keep:=fun i h h' st k=>k it (by simp) _ st
  item:=by
    intro X hP hw hK hc i pins s σ H E I hf st hg
    subst hP hw hK
    obtain⟨f0,f1,f2,f3,f4,f5⟩:=hf it (by simp)
    have W:=Walks.range (prog:=X.prog) (w:=X.w) (I.ok.hd hc) it lo 1 n
    refine W.item i s _ _ hg st fun v h' tk hv st' kk=>?_
    obtain⟨t,rfl⟩:=hv
    have I1:Inv X pins σ H {s with heap:=h',toks:=tk}:=I.turned (fun b o hb e=>kk b o (by simpa using hb) e) f0 f1 f3 f4 f5
    refine⟨_,rfl,El (s:={s with heap:=h',toks:=tk}) (n:="range_iterator") st' rfl rfl (by decide) ⟨.int (lo+i),H,I1,⟨t,?_⟩,⟨rfl,rfl⟩,st',fun b hb=>(hf b hb).1⟩⟩
    rw[Int.mul_one]
  done:=by
    intro X hP hw hK hc i pins s σ H E I hf st hg
    subst hP hw hK
    obtain⟨f0,f1,f2,f3,f4,f5⟩:=hf it (by simp)
    exact wpAny_pyNext_range_end (I.ok.hd hc) st (by have:n≤i:=hg;omega) fun h' eb=>⟨rfl,I.turned (t':=s.toks) (fun b o hb e=>eb b o hb e) f0 f1 f3 f4 f5⟩
  self:=fun _ _ _ _ _ st h=>wpAny_pyIter_rangeiter st h
end L2
namespace L2
open PySem PySem.Spec PyProof.Rows
section
variable {X:Cx}{tg:Expr}
noncomputable def Mt (K:PySem.W.Frag) (tl:TE):TI:=fun σ H R=>tl σ H fun x H1=>∃a,x= .ref a∧(∃xs,oH K H1 a xs)∧R (Q5 K a) H1
noncomputable def Q7 (K:PySem.W.Frag) (tl:TE):TI:=fun σ H R=>tl σ H fun x H1=>∃a,x= .ref a∧(∃xs,xT K H1 a xs)∧R (Q6 K a) H1
theorem GK {l:Expr}{tl:TE}(hl:PE X l tl):PI X tg l (Mt X.K tl):=by
 intro pins s σ H R I h
 refine eU (hl pins s σ H _ I h) fun v s1 ⟨x,H1,I1,r1,q1⟩=>?_
 obtain⟨a,e,⟨xs,hq⟩,q⟩:=q1
 subst e
 cases r1
 obtain⟨its,rv,p,hz⟩:=I1.list hq
 refine wpAny_pyIter_list p.isList ?_
 refine⟨s1.heap.objs.size,[s1.heap.objs.size],_,_,H1,rfl,I1.kept (t':=s1.toks) fun b o e=>Heap.get?_push_of_some _ e,CS a _,⟨_,Heap.get?_push_size _ rfl,rfl,rfl⟩,fun b hb=>?_,q⟩
 have e:b=s1.heap.objs.size:=by simpa using hb
 subst e
 exact I1.Ek (Nat.le_refl _) (I1.hok.fresh (Nat.le_refl _))
theorem JH {l:Expr}{tl:TE}(hl:PE X l tl):PI X tg l (Q7 X.K tl):=by
 intro pins s σ H R I h
 refine eU (hl pins s σ H _ I h) fun v s1 ⟨x,H1,I1,r1,q1⟩=>?_
 obtain⟨a,e,⟨xs,hq⟩,q⟩:=q1
 subst e
 cases r1
 obtain⟨its,rv,p,hz⟩:=I1.tuple hq
 refine wpAny_pyIter_tuple (show s1.heap.IsTuple a its.toArray from p) ?_
 refine⟨s1.heap.objs.size,[s1.heap.objs.size],_,_,H1,rfl,I1.kept (t':=s1.toks) fun b o e=>Heap.get?_push_of_some _ e,AY a _,⟨_,Heap.get?_push_size _ rfl,rfl,rfl⟩,fun b hb=>?_,q⟩
 have e:b=s1.heap.objs.size:=by simpa using hb
 subst e
 exact I1.Ek (Nat.le_refl _) (I1.hok.fresh (Nat.le_refl _))
theorem Em {pins:List (Addr×Obj)}{σ:St}{H:Hp}{s:Shared}{R:It→Hp→Prop}{E:Value→Shared→Prop}{lo hi:Int}{t u v:Tok}{tk:Nat}(I:Inv X pins σ H s) (h1:-(2 ^ 62)≤lo) (h2:lo < 2 ^ 62) (h3:-(2 ^ 62)≤hi) (h4:hi < 2 ^ 62)
  (q:R (Pf lo (hi - lo).toNat) H):wpAny (model X.prog X.w) X.A (pyIter (.ref s.heap.objs.size)) (Q4 X pins σ tg R) E {s with heap:=s.heap.push {cls:=.type "range",data:=.fields #[.int lo t,.int hi u,.int 1 v]},toks:=tk}:=by
 refine wpAny_pyIter_range (IsRange.new ..) (small_one h1 h2 h3 h4) ?_
 have I1:Inv X pins σ H {s with heap:=s.heap.push {cls:=.type "range",data:=.fields #[.int lo t,.int hi u,.int 1 v]},toks:=tk}:=I.kept fun b o e=>Heap.get?_push_of_some _ e
 refine⟨(s.heap.push {cls:=.type "range",data:=.fields #[.int lo t,.int hi u,.int 1 v]}).objs.size,[(s.heap.push {cls:=.type "range",data:=.fields #[.int lo t,.int hi u,.int 1 v]}).objs.size],_,_,H,rfl,
  I1.kept (t':=tk) fun b o e=>Heap.get?_push_of_some _ e,AZ _ lo (hi - lo).toNat,?_,fun b hb=>?_,q⟩
 ·have e1:lo+((0:Nat):Int) * 1=lo:=by simp
  have e2:(((hi - lo).toNat:Nat):Int) - ((0:Nat):Int)=Builtin.Range.rangeSize lo hi 1:=by rw[rangeSize_one];split <;> omega
  show IsRangeIter _ _ (lo+((0:Nat):Int) * 1) ((((hi - lo).toNat:Nat):Int) - ((0:Nat):Int)) 1
  rw[e1,e2]
  exact Heap.get?_push_size _ rfl
 ·have e:b=(s.heap.push {cls:=.type "range",data:=.fields #[.int lo t,.int hi u,.int 1 v]}).objs.size:=by simpa using hb
  subst e
  exact I1.Ek (Nat.le_refl _) (I1.hok.fresh (Nat.le_refl _))
noncomputable def Mu (ta:TA):TI:=fun σ H R=>ta σ H fun vs H1=>∃j:Int,vs=[.int j]∧-(2 ^ 62)≤j∧j < 2 ^ 62∧R (Pf 0 j.toNat) H1
theorem CT {a:Expr}{ta:TA}{p pos:Pos}(hg:Gl X "range") (hm:X.mg "range" =none) (ha:PA X [a] ta) (hs:starEach [a] X.env=[(false,eval a X.env)]:=by rfl):PI X tg (.Call (.Name "range" p) [a] [] pos) (Mu ta):=by
 intro pins s σ H R I h
 refine Call_ (qK I hg hm boot_range (PyProof.Rows.callWith_type1 (eU (ha pos pins s σ H _ I h) fun us s1 ⟨vs,H1,I1,r1,q1⟩=>?_) hs rfl))
 obtain⟨j,e,q1,q2,q⟩:=q1
 subst e
 cases r1 with
 | cons r rr=>
  cases rr
  obtain⟨t,rfl⟩:=r
  exact call_range_1 (Em I1 (by omega) (by omega) q1 q2 (by simpa using q))
noncomputable def Q8 (wi:TI) (g:TG) (tb:TS):TS:=fun D σ H=>wi σ H fun J H1=>∃W:Nat→Nat→St→Hp→Prop,(∃m,W 0 m σ H1)∧∀i m σ H,W i m σ H→
 (J.stop i H∧D.nx σ H)∨(J.go i H∧∃N:St→Hp→Prop,(∀σ' H',N σ' H'→∃m',m' < m∧W (i+1) m' σ' H')∧∀x H',J.Pe i H x H'→g x σ H' fun σ2 H2=>tb {D with nx:=N,ct:=N,bk:=D.nx} σ2 H2)
noncomputable def o7 (fp:List Addr) (h:Heap):List (Addr×Obj):=fp.filterMap fun b=>(h.get? b).map fun o=>(b,o)
theorem gG {fp:List Addr}{h:Heap}{b:Addr}{o:Obj}(hb:b∈fp) (e:h.get? b=some o):(b,o)∈o7 fp h:=List.mem_filterMap.mpr ⟨b,hb,by rw[e];rfl⟩
theorem qL {fp:List Addr}{h:Heap}{p:Addr×Obj}(hp:p∈o7 fp h):p.1∈fp∧h.get? p.1=some p.2:=by
 obtain⟨b,hb,e⟩:=List.mem_filterMap.mp hp
 cases q:h.get? b with
 | none=>rw[q] at e;cases e
 | some o=>
  rw[q] at e
  have e':(b,o)=p:=Option.some.inj e
  subst e'
  exact⟨hb,q⟩
theorem Inv.pinned {pins:List (Addr×Obj)}{σ:St}{H:Hp}{s:Shared}{fp:List Addr}(I:Inv X pins σ H s) (hf:∀b∈fp,uz X pins H b) (ho:∀b∈fp,∃o,s.heap.get? b=some o∧∀v,o.data≠.cell v):Inv X (pins++o7 fp s.heap) σ H s:=
 I.B9 fun p hp=>(List.mem_append.mp hp).elim (fun z=>I.pin p (List.mem_append_right _ z)) fun z=>by
  obtain⟨hb,e⟩:=qL z
  obtain⟨f0,f1,f2,_⟩:=hf p.1 hb
  obtain⟨o,e',d⟩:=ho p.1 hb
  rw[e] at e';cases e'
  exact⟨e,f0,f1,f2,d⟩
theorem Inv.m8 {pins pl:List (Addr×Obj)}{σ:St}{H:Hp}{s:Shared}(I:Inv X (pins++pl) σ H s):Inv X pins σ H s:=I.B9 fun p hp=>I.pin p (List.mem_append_right _ (List.mem_append_left _ hp))
theorem JJ {iter:Expr}{body:List Stmt}{wi:TI}{g:TG}{tb:TS}{pos:Pos}(hp:PassesOwn (model X.prog X.w) X.A X.env X.xe) (hc:X.calm=true) (hi:PI X tg iter wi) (hg:PG X tg g) (hb:AS X body tb)
  (hs:∀x,foldedSetIterable iter X.env x=pure x:=by intro _;rfl):PS X (.For tg iter body [] pos) (Q8 wi g tb):=by
 intro pins s σ H D I h
 refine wpAny_For (eU (hi pins s σ H _ I h) fun v s1 h1=>eU h1 fun itv s2 h2=>?_) hs
 obtain⟨it,fp,tn,J,H2,e,I2,T,st2,f2,W,⟨m0,w0⟩,turn⟩:=h2
 subst e
 have JK:∀{H':Hp},(∀b∈fp,H' b=none)→∀b∈fp,uz X pins H' b:=fun hn b hb=>⟨hn b hb,(f2 b hb).2⟩
 refine codeAny_forLoop_any (fun n s'=>∃i σ' H',Inv X pins σ' H' s'∧tn i s'.heap∧(∀b∈fp,H' b=none)∧W i n σ' H') ?_ m0 ⟨0,σ,H2,I2,st2,fun b hb=>(f2 b hb).1,w0⟩
 rintro n s3 ⟨i,σ3,H3,I3,st3,W3,w3⟩
 rcases turn i n σ3 H3 w3 with⟨stop,qn⟩ | ⟨go,N,hN,step⟩
 ·refine wpAny_passesOwn hp (eU (T.done X rfl rfl rfl hc i pins s3 σ3 H3 X.xe I3 (JK W3) st3 stop) fun r s4 ⟨hr,I4⟩=>?_)
  subst hr
  exact wpAny_execs_nil ⟨σ3,H3,I4,qn⟩
 ·refine wpAny_passesOwn hp (eU (T.item X rfl rfl rfl hc i pins s3 σ3 H3 X.xe I3 (JK W3) st3 go) fun r s4 ⟨u,hr,h4⟩=>?_)
  subst hr
  refine wpAny_passesOwn hp (eU h4 fun _ s5 ⟨x,H5,I5,r5,y5,Q9,YA⟩=>?_)
  have YB:=I5.pinned (JK YA) (T.obj _ _ Q9)
  refine wpAny_passesOwn hp (eU (hg _ s5 σ3 H5 x u _ YB r5 (step x H5 y5)) fun _ s6 ⟨YC,H6,I6,q6⟩=>?_)
  refine wpAny_passesOwn hp (eU (hb _ s6 YC H6 _ I6 q6) fun f s7 q7=>?_)
  have again:∀{En:St}{H7:Hp},Inv X (pins++o7 fp s5.heap) En H7 s7→N En H7→∃m,m < n∧∃i σ' H',Inv X pins σ' H' s7∧tn i s7.heap∧(∀b∈fp,H' b=none)∧W i m σ' H':=fun {En H7} I7 n7=>by
   obtain⟨m',hm,w7⟩:=hN En H7 n7
   refine⟨m',hm,i+1,En,H7,I7.m8,T.keep _ _ _ Q9 fun b hb o e=>(I7.pin (b,o) (List.mem_append_right _ (List.mem_append_right _ (gG hb e)))).1,fun b hb=>?_,w7⟩
   obtain⟨o,e,d⟩:=T.obj _ _ Q9 b hb
   exact(I7.pin (b,o) (List.mem_append_right _ (List.mem_append_right _ (gG hb e)))).2.1
  cases f with
  | next=>obtain⟨En,H7,I7,n7⟩:=q7;exact again I7 n7
  | cont=>obtain⟨En,H7,I7,n7⟩:=q7;exact again I7 n7
  | brk=>obtain⟨En,H7,I7,q7⟩:=q7;exact⟨En,H7,I7.m8,q7⟩
  | ret v=>obtain⟨x7,En,H7,I7,r7,q7⟩:=q7;exact⟨x7,En,H7,I7.m8,r7,q7⟩
end
end L2
namespace L2
open PySem PySem.Spec PyProof.Rows
noncomputable abbrev R2:=V→V→Hp→VK→Prop
noncomputable def tM (X:Cx) (f:Value→Value→Sem Value) (r:R2):Prop:=
 ∀(pins:List (Addr×Obj)) (s:Shared) (σ:St) (H:Hp) (x y:V) (v u:Value) (Q:VK),Inv X pins σ H s→RelV x v→RelV y u→r x y H Q→
  wpAny (model X.prog X.w) X.A (f v u) (EP X pins σ Q) X.xe s
noncomputable def Mv (X:Cx) (f:Value→Sem Value) (r:V→Hp→VK→Prop):Prop:=
 ∀(pins:List (Addr×Obj)) (s:Shared) (σ:St) (H:Hp) (x:V) (v:Value) (Q:VK),Inv X pins σ H s→RelV x v→r x H Q→
  wpAny (model X.prog X.w) X.A (f v) (EP X pins σ Q) X.xe s
noncomputable def gq (X:Cx) (f:Value) (r:List V→Hp→VK→Prop):Prop:=
 ∀(pins:List (Addr×Obj)) (s:Shared) (σ:St) (H:Hp) (xs:List V) (us:List Value) (Q:VK),Inv X pins σ H s→Vals xs us→r xs H Q→
  wpAny (model X.prog X.w) X.A (call f us) (EP X pins σ Q) X.xe s
noncomputable def LF (r:R2) (ta tb:TE):TE:=fun σ H Q=>ta σ H fun x H1=>tb σ H1 fun y H2=>r x y H2 Q
noncomputable def YD (r:V→Hp→VK→Prop) (ta:TE):TE:=fun σ H Q=>ta σ H fun x H1=>r x H1 Q
noncomputable def rI (C:Int→Int→Prop) (g:Int→Int→V):R2:=fun x y H Q=>∃i j,x= .int i∧y= .int j∧C i j∧Q (g i j) H
noncomputable def JL (g:Int→Int→V):R2:=fun x y H Q=>∃i j,x= .int i∧y= .int j∧Q (g i j) H
noncomputable def rU (g:Int→V):V→Hp→VK→Prop:=fun x H Q=>∃i,x= .int i∧Q (g i) H
section
variable {X:Cx}{a b c:Expr}{ta tb tc:TE}{pos:Pos}
theorem JM (ha:PE X a ta) (hb:PE X b tb){pins:List (Addr×Obj)}{s:Shared}{σ:St}{H:Hp}{R:V→V→Hp→Prop}(I:Inv X pins σ H s)
  (h:ta σ H fun x H1=>tb σ H1 fun y H2=>R x y H2){Q:Value→Shared→Prop}{f:Value→Value→Sem Value}
  (hf:∀v u s2 x y H2,Inv X pins σ H2 s2→RelV x v→RelV y u→R x y H2→wpAny (model X.prog X.w) X.A (f v u) Q X.xe s2):
  wpAny (model X.prog X.w) X.A (eval a X.env) (fun v s₁=>wpAny (model X.prog X.w) X.A (eval b X.env) (fun u s₂=>wpAny (model X.prog X.w) X.A (f v u) Q X.xe s₂) X.xe s₁) X.xe s:=by
 refine eU (ha pins s σ H _ I h) fun v s1 ⟨x,H1,I1,r1,q1⟩=>?_
 refine eU (hb pins s1 σ H1 _ I1 q1) fun u s2 ⟨y,H2,I2,r2,q2⟩=>?_
 exact hf v u s2 x y H2 I2 r1 r2 q2
theorem Mw {op:Operator}{r:R2}(ho:tM X (binaryOp op) r) (ha:PE X a ta) (hb:PE X b tb):PE X (.BinOp a op b pos) (LF r ta tb):=by
 intro pins s σ H Q I h
 exact wpAny_BinOp (JM ha hb I h fun v u s2 x y H2 I2 rx ry q=>ho pins s2 σ H2 x y v u Q I2 rx ry q)
theorem Mx {op:UnaryOp}{r:V→Hp→VK→Prop}(ho:Mv X (unaryOp op) r) (ha:PE X a ta):PE X (.UnaryOp op a pos) (YD r ta):=by
 intro pins s σ H Q I h
 exact UnaryOp_ (eU (ha pins s σ H _ I h) fun v s1 ⟨x,H1,I1,r1,q1⟩=>ho pins s1 σ H1 x v Q I1 r1 q1)
theorem Pg {f:Value→Value→Sem Value}{C:Int→Int→Prop}{g:Int→Int→Int}
  (rule:∀(i j:Int) (t u:Tok) (s:Shared) (Q:Value→Shared→Prop) (E:Value→Shared→Prop),C i j→Q (.int (g i j) s.toks) {s with toks:=s.toks+1}→wpAny (model X.prog X.w) X.A (f (.int i t) (.int j u)) Q E s):
  tM X f (rI C fun i j=>.int (g i j)):=by
 intro pins s σ H x y v u Q I rx ry h
 obtain⟨i,j,rfl,rfl,hc,q⟩:=h
 obtain⟨t,rfl⟩:=rx
 obtain⟨t',rfl⟩:=ry
 exact rule i j t t' s _ _ hc ⟨.int (g i j),H,I.tok _,⟨_,rfl⟩,q⟩
theorem My {f:Value→Value→Sem Value}{g:Int→Int→Int}
  (rule:∀(i j:Int) (t u:Tok) (s:Shared) (Q:Value→Shared→Prop) (E:Value→Shared→Prop),Q (.int (g i j) s.toks) {s with toks:=s.toks+1}→wpAny (model X.prog X.w) X.A (f (.int i t) (.int j u)) Q E s):
  tM X f (JL fun i j=>.int (g i j)):=by
 intro pins s σ H x y v u Q I rx ry h
 obtain⟨i,j,rfl,rfl,q⟩:=h
 obtain⟨t,rfl⟩:=rx
 obtain⟨t',rfl⟩:=ry
 exact rule i j t t' s _ _ ⟨.int (g i j),H,I.tok _,⟨_,rfl⟩,q⟩
theorem JN {f:Value→Value→Sem Value}{g:Int→Int→Bool}
  (rule:∀(i j:Int) (t u:Tok) (s:Shared) (Q:Value→Shared→Prop) (E:Value→Shared→Prop),Q (.bool (g i j)) s→wpAny (model X.prog X.w) X.A (f (.int i t) (.int j u)) Q E s):
  tM X f (JL fun i j=>.bl (g i j)):=by
 intro pins s σ H x y v u Q I rx ry h
 obtain⟨i,j,rfl,rfl,q⟩:=h
 obtain⟨t,rfl⟩:=rx
 obtain⟨t',rfl⟩:=ry
 exact rule i j t t' s _ _ ⟨.bl (g i j),H,I,rfl,q⟩
noncomputable def Mz (i j:Int):Prop:=0 < j∧j < 1073741824
noncomputable def Rb (i j:Int):Prop:=0≤j∧j≤1000000∧i.natAbs < 2 ^ 64
noncomputable def JP (i j:Int):Prop:=(-(2 ^ 64) < i∧i < 2 ^ 64)∨(-(2 ^ 64) < j∧j < 2 ^ 64)
theorem JP.ok {i j:Int}(h:JP i j):IntMulOk i j:=by
 rcases h with⟨h1,h2⟩ | ⟨h1,h2⟩
 ·exact .of_left (intBits_le_64 h1 h2)
 ·exact .of_right (intBits_le_64 h1 h2)
theorem JQ:tM X (binaryOp .Add) (JL fun i j=>.int (i+j)):=My fun _ _ _ _ _ _ _ q=>add_int q
theorem JR:tM X (binaryOp .Sub) (JL fun i j=>.int (i - j)):=My fun _ _ _ _ _ _ _ q=>sub_int q
theorem JV:tM X (binaryOp .Mult) (rI JP fun i j=>.int (i * j)):=Pg fun _ _ _ _ _ _ _ hc q=>mul_int q hc.ok
theorem GL:tM X (binaryOp .FloorDiv) (rI Mz fun i j=>.int (i / j)):=Pg fun i j _ _ _ _ _ hc q=>by
 have h1:(0:Int) < j:=hc.1
 have h2:j < 1073741824:=hc.2
 exact floordiv_int (by omega) (by rw[Int.fdiv_eq_ediv_of_nonneg i (by omega)];exact q) (.inl (PyProof.noPylong_small (by omega)))
theorem JX:tM X (binaryOp .Mod) (rI (fun _ j=>0 < j) fun i j=>.int (i % j)):=Pg fun i j _ _ _ _ _ hc q=>by
 have h1:(0:Int) < j:=hc
 exact mod_int' (by omega) (by rw[Int.fmod_eq_emod_of_nonneg i (by omega)];exact q)
theorem JY:tM X (binaryOp .Pow) (rI Rb fun i j=>.int (i ^ j.toNat)):=Pg fun _ _ _ _ _ _ _ hc q=>pow_int_small hc.1 hc.2.1 hc.2.2 q
theorem YE {f:Value→Sem Value}{g:Int→Int}
  (rule:∀(i:Int) (t:Tok) (s:Shared) (Q:Value→Shared→Prop) (E:Value→Shared→Prop),Q (.int (g i) s.toks) {s with toks:=s.toks+1}→wpAny (model X.prog X.w) X.A (f (.int i t)) Q E s):
  Mv X f (rU fun i=>.int (g i)):=by
 intro pins s σ H x v Q I rx h
 obtain⟨i,rfl,q⟩:=h
 obtain⟨t,rfl⟩:=rx
 exact rule i t s _ _ ⟨.int (g i),H,I.tok _,⟨_,rfl⟩,q⟩
theorem JZ:Mv X (unaryOp .USub) (rU fun i=>.int (-i)):=YE fun _ _ _ _ _ q=>neg_int q
end
section
variable {X:Cx}{a b c:Expr}{ta tb tc:TE}{pos:Pos}
theorem Eo {pins:List (Addr×Obj)}{σ:St}{H:Hp}{s:Shared}{Q:VK}{k k':Bool}(I:Inv X pins σ H s) (q:Q (.bl k) H) (e:k=k'):EP X pins σ Q (.bool k') s:=by
 subst e
 exact⟨.bl k,H,I,rfl,q⟩
theorem MA:tM X (compareOp .Lt) (JL fun i j=>.bl (decide (i < j))):=JN fun _ _ _ _ _ _ _ q=>lt_int q
theorem MB:tM X (compareOp .LtE) (JL fun i j=>.bl (decide (i≤j))):=JN fun _ _ _ _ _ _ _ q=>le_int q
theorem MC:tM X (compareOp .Gt) (JL fun i j=>.bl (decide (j < i))):=JN fun _ _ _ _ _ _ _ q=>gt_int q
theorem CU:tM X (compareOp .In) (fun x y H Q=>∃i j,x= .str i∧y= .str j∧Q (.bl (!(Builtin.Str.occurrences j i 0 j.length 1).isEmpty)) H):=by
 intro pins s σ H x y v u Q I rx ry h
 obtain⟨i,j,rfl,rfl,q⟩:=h
 obtain⟨t,rfl⟩:=rx
 obtain⟨t',rfl⟩:=ry
 exact in_str (Eo I q rfl)
theorem xU:tM X (compareOp .NotIn) (fun x y H Q=>∃i j,x= .str i∧y= .str j∧Q (.bl (!(!(Builtin.Str.occurrences j i 0 j.length 1).isEmpty))) H):=by
 intro pins s σ H x y v u Q I rx ry h
 obtain⟨i,j,rfl,rfl,q⟩:=h
 obtain⟨t,rfl⟩:=rx
 obtain⟨t',rfl⟩:=ry
 exact notIn_str (Eo I q rfl)
theorem tM.or {f:Value→Value→Sem Value}{r r':R2}(h:tM X f r) (h':tM X f r'):tM X f (fun x y H Q=>r x y H Q∨r' x y H Q):=by
 intro pins s σ H x y v u Q I rx ry q
 rcases q with q | q
 ·exact h pins s σ H x y v u Q I rx ry q
 ·exact h' pins s σ H x y v u Q I rx ry q
theorem Ep (b:Expr){op:CmpOp}(h:op≠.In:=by decide) (h2:op≠.NotIn:=by decide):behindInMarks op b=false:=by
 have e1:(op == CmpOp.In)=false:=by cases op <;> first | rfl | exact absurd rfl h
 have e2:(op == CmpOp.NotIn)=false:=by cases op <;> first | rfl | exact absurd rfl h2
 cases b <;> simp[behindInMarks,e1,e2]
theorem GN {op:CmpOp}{r:R2}(ho:tM X (compareOp op) r) (ha:PE X a ta) (hb:PE X b tb) (hm:behindInMarks op b=false):PE X (.Compare a [op] [b] pos) (LF r ta tb):=by
 intro pins s σ H Q I h
 exact wpAny_Compare1 (JM ha hb I h fun v u s2 x y H2 I2 rx ry q=>ho pins s2 σ H2 x y v u Q I2 rx ry q) hm
noncomputable def MD (t:TE):TT:=fun σ H Q=>t σ H fun x H'=>∃k,x= .bl k∧Q k H'
theorem GO {op:CmpOp}{r:R2}(ho:tM X (compareOp op) r) (ha:PE X a ta) (hb:PE X b tb) (hm:behindInMarks op b=false):PT X (.Compare a [op] [b] pos) (MD (LF r ta tb)):=by
 intro pins s σ H Q I h
 refine wpAny_isTrue_Compare1 (eU (ha pins s σ H _ I h) fun v s1 ⟨x,H1,I1,r1,q1⟩=>eU (hb pins s1 σ H1 _ I1 q1) fun u s2 ⟨y,H2,I2,r2,q2⟩=>
  eU (ho pins s2 σ H2 x y v u _ I2 r1 r2 q2) fun c s3 ⟨z,H3,I3,r3,k,e,q3⟩=>?_) hm
 subst e
 cases r3
 exact wpAny_truthy_bool ⟨H3,I3,q3⟩
theorem qM:(sizeLine:Nat) < 2 ^ 63:=by rw[sizeLine_eq];decide
theorem A0:tM X (binaryOp .Add) (fun x y H Q=>∃i j,x= .str i∧y= .str j∧i.length+j.length≤sizeLine∧Q (.str (i++j)) H):=by
 intro pins s σ H x y v u Q I rx ry h
 obtain⟨i,j,rfl,rfl,hz,q⟩:=h
 obtain⟨t,rfl⟩:=rx
 obtain⟨t',rfl⟩:=ry
 exact add_str (fun t' tk=>⟨.str (i++j),H,I.tok _,⟨_,rfl⟩,q⟩) hz
theorem vals1 {x:V}{us:List Value}(r:Vals [x] us):∃u,us=[u]∧RelV x u:=by
 cases r with
 | cons r1 r2=>cases r2;exact⟨_,rfl,r1⟩
theorem vals2 {x y:V}{us:List Value}(r:Vals [x,y] us):∃u w',us=[u,w']∧RelV x u∧RelV y w':=by
 cases r with
 | cons r1 r2=>
  cases r2 with
  | cons r3 r4=>cases r4;exact⟨_,_,rfl,r1,r3⟩
theorem CV (hc:X.calm=true):gq X (.builtin "max") (fun xs H Q=>∃i j,xs=[.int i,.int j]∧Q (.int (if j > i then j else i)) H):=by
 intro pins s σ H xs us Q I r h
 obtain⟨i,j,rfl,q⟩:=h
 obtain⟨u,w',rfl,⟨t,rfl⟩,⟨t',rfl⟩⟩:=vals2 r
 refine max_two_ints (I.ok.hd hc) fun h' tk k=>⟨_,H,I.kept k,?_,q⟩
 by_cases hj:j > i
 ·rw[if_pos hj,if_pos hj];exact⟨_,rfl⟩
 ·rw[if_neg hj,if_neg hj];exact⟨_,rfl⟩
end
end L2
namespace L2
open PySem PySem.Spec PyProof.Rows
section
variable {prog:Program}{w:World}{A:Around}{E:Value→Shared→Prop}{s:Shared}{K:PySem.W.Frag}{x dx C f:Addr}{mA:Str→Option Value}{name:Str}{v:Value}
end
noncomputable def pU (f:Str) (v:V):List (Str×V)→List (Str×V)
 | []=>[(f,v)]
 | (g,x) :: r=>if g=f then(g,v) :: r else(g,x) :: pU f v r
theorem tH.some_of {v:V}{o:Option Value}(r:tH (some v) o):∃u,o=some u∧RelV v u:=by
 cases o with
 | none=>exact(show False from r).elim
 | some u=>exact⟨u,rfl,r⟩
section
variable {P:Program}{w:World}{H H':Hp}{h h':Heap}{a C dx:Addr}{fs fs':List (Str×V)}
end
structure Rc (K:PySem.W.Frag) (C:Addr):Prop where
 pg:PySem.W.plainGet K C Str.empty=true
 hd:PySem.W.hasDictIn K C=true
 po:PySem.W.plainOver K C=true
 sa:PySem.W.findIn K (.ref C) "__setattr__" =some (some (.builtin "object.__setattr__"))
theorem Rc.get {K:PySem.W.Frag}{C:Addr}(c:Rc K C) (f:Str):PySem.W.plainGet K C f=true:=c.pg
section
variable {X:Cx}{pins:List (Addr×Obj)}{σ:St}{H:Hp}{s:Shared}{a C dx:Addr}{fs:List (Str×V)}{f:Str}{v:V}{A:Around}{E:Value→Shared→Prop}
theorem Inv.made (I:Inv X pins σ H s):Inv X pins σ (upd (upd H s.heap.objs.size (.own (s.heap.objs.size+1))) (s.heap.objs.size+1) (.ins C s.heap.objs.size []))
  {s with heap:=(s.heap.push PySem.W.emptyDict).push (PySem.W.instObj C s.heap.objs.size)}:=by
 have e1:(s.heap.push PySem.W.emptyDict).get? s.heap.objs.size=some PySem.W.emptyDict:=Heap.get?_push_size s.heap rfl
 have e2:((s.heap.push PySem.W.emptyDict).push (PySem.W.instObj C s.heap.objs.size)).get? (s.heap.objs.size+1)=some (PySem.W.instObj C s.heap.objs.size):=by
  have:=Heap.get?_push_size (s.heap.push PySem.W.emptyDict) (o:=PySem.W.instObj C s.heap.objs.size) rfl
  rwa [Heap.size_push] at this
 have e3:(s.heap.push PySem.W.emptyDict).Ns s.heap.objs.size (fun _=>none):=⟨PySem.W.emptyDict,#[],_,e1,rfl,(fun e he=>absurd he (by simp)),fun _=>rfl⟩
 have I1:=I.laid (a:=s.heap.objs.size) (o:=.own (s.heap.objs.size+1)) (h':=s.heap.push PySem.W.emptyDict) (t':=s.toks) (fun b u q=>Heap.get?_push_of_some _ q) (Nat.le_refl _) ⟨_,e1⟩
 refine I1.laid (a:=s.heap.objs.size+1) (o:=.ins C s.heap.objs.size []) (t':=s.toks) (fun b u q=>Heap.get?_push_of_some _ q) (Nat.le_of_eq (Heap.size_push _ _)) ?_
 have ne:s.heap.objs.size≠s.heap.objs.size+1:=Nat.ne_of_lt (Nat.lt_succ_self _)
 refine⟨by rw[aT ne,aW],Nat.zero_le _,ne,e2,fun _=>none,(Heap.Ns1.of_empty e3).at fun o q=>Heap.get?_push_of_some _ q,fun _=>True.intro,fun y hy=>absurd rfl hy⟩
end
section
variable {X:Cx}{o e value:Expr}{f:Str}{pos pos' tpos:Pos}{ta tv:TE}
end
section
variable {X:Cx}{pins:List (Addr×Obj)}{σ:St}{H:Hp}{s:Shared}{A:Around}{E:Value→Shared→Prop}{Q:Value→Shared→Prop}{c:Value}{b:Bool}
inductive tN (K:PySem.W.Frag) (H:Hp):V→Value→Prop where
 | cI:tN K H .cI (.type "NoneType")
 | bl (x:Bool):tN K H (.bl x) (.type "bool")
 | int (i:Int):tN K H (.int i) (.type "int")
 | str (x:Str):tN K H (.str x) (.type "str")
 | flt (x:UInt64):tN K H (.flt x) (.type "float")
 | lst {a:Addr}{xs:List V}(e:H a=some (.lst xs)):tN K H (.ref a) (.type "list")
 | jE {a:Addr}{o:Obj}{xs:List V}(e:H a=some (.jE o (.lst xs))):tN K H (.ref a) (.type "list")
 | tup {a:Addr}{xs:List V}(e:H a=some (.tup xs)):tN K H (.ref a) (.type "tuple")
 | dK {a:Addr}{kvs:List (Key×V)}(e:H a=some (.dK kvs)):tN K H (.ref a) (.type "dict")
 | dT {a:Addr}{kvs:List (List Key×V)}(e:H a=some (.dT kvs)):tN K H (.ref a) (.type "dict")
 | ins {a C dx:Addr}{fs:List (Str×V)}(e:H a=some (.ins C dx fs)) (cl:Rc K C) (ha:PySem.W.findIn K (.ref C) "__class__" =some (some (.builtin "object.__class__")))
   (hn:PySem.W.specialIn K (.builtin "object.__class__") "__get__" =some (some (.builtin "getset_descriptor.__get__"))) (htk:PySem.W.takesIn K (.builtin "object.__class__")=some true)
   (hm:PySem.W.mroIn K C (.type "object")=some true):tN K H (.ref a) (.ref C)
end
end L2
namespace L2
open PySem PySem.Spec PyProof.Rows
structure jz (k:Nat) (A:Around):Prop where
 hd:A.handled=none
 dp:A.depth+3 * k+5 < recursionLimit
 un:A.units+16 * k+200 < cLine
 gd:A.guards=some []
theorem jz.mono {j k:Nat}{A:Around}(r:jz k A) (h:j≤k):jz j A:=⟨r.hd,by have:=r.dp;omega,by have:=r.un;omega,r.gd⟩
theorem jz.deeper {k:Nat}{A:Around}(r:jz (k+1) A) (env:Env):jz k (A.deeper env):=
 ⟨r.hd,by have:=r.dp;show A.depth+1+3 * k+5 < _;omega,by have:=r.un;show A.units+3+16 * k+200 < _;omega,r.gd⟩
theorem jz.in1 {k:Nat}{A:Around}(r:jz (k+1) A):jz k A.in1:=
 ⟨r.hd,by have:=r.dp;show A.depth+3 * k+5 < _;omega,by have:=r.un;show A.units+1+16 * k+200 < _;omega,r.gd⟩
theorem jz.depth {k:Nat}{A:Around}(r:jz k A):A.depth < recursionLimit:=by have:=r.dp;omega
theorem jz.units {k:Nat}{A:Around}(r:jz k A):A.units+64 < cLine:=by have:=r.un;omega
noncomputable def J0:TA:=fun _ H Q=>Q [] H
noncomputable def Iz (ta:TE) (tr:TA):TA:=fun σ H Q=>ta σ H fun x H1=>tr σ H1 fun xs H2=>Q (x :: xs) H2
section
variable {X:Cx}{e:Expr}{es:List Expr}{te:TE}{t:TA}{pos:Pos}
theorem uA:PA X [] J0:=fun _ _ _ _ H Q I h=>Calls.spliced_nil ⟨[],H,I,.nil,h⟩
theorem lY (ha:PE X e te) (hr:PA X es t) (hs:starEach (e :: es) X.env=(false,eval e X.env) :: starEach es X.env:=by rfl):PA X (e :: es) (Iz te t):=by
 intro pos pins s σ H Q I h
 rw[hs]
 show wpAny _ _ (spliced ((false,eval e X.env) :: backTo pos (starEach es X.env))) _ _ s
 refine Calls.spliced_cons (eU (ha pins s σ H _ I h) fun u s1 ⟨x,H1,I1,r1,q1⟩=>?_)
 exact eU (hr pos pins s1 σ H1 _ I1 q1) fun us s2 ⟨xs,H2,I2,r2,q2⟩=>⟨x :: xs,H2,I2,.cons r1 r2,q2⟩
noncomputable def Rf (t:TA):TE:=fun σ H Q=>t σ H fun xs H1=>xs.length≤sizeLine∧∀p,H1 p=none→Q (.ref p) (upd H1 p (.tup xs))
noncomputable def Rg (t:TA):TE:=fun σ H Q=>t σ H fun xs H1=>xs.length≤sizeLine∧∀p,H1 p=none→Q (.ref p) (upd H1 p (.lst xs))
theorem J1 {x1}(h:PA X es t):PE X (.Tuple es x1 pos) (Rf t):=by
 intro pins s σ H Q I hq
 refine wpAny_Tuple_spliced (eU (h pos pins s σ H _ I hq) fun us s1 ⟨xs,H1,I1,r,z,q⟩=>⟨by rw[←r.length];exact z,?_⟩)
 have hf:H1 s1.heap.objs.size=none:=I1.hok.fresh (Nat.le_refl _)
 refine⟨.ref s1.heap.objs.size,upd H1 s1.heap.objs.size (.tup xs),I1.laid (t':=s1.toks) (fun b u e=>Heap.get?_push_of_some _ e) (Nat.le_refl _) ?_,rfl,q _ hf⟩
 exact⟨z,us,r,⟨_,Heap.get?_push_size _ rfl,rfl,_,rfl⟩⟩
theorem J2 (h:PA X es t):PE X (.List es pos) (Rg t):=by
 intro pins s σ H Q I hq
 refine wpAny_List_spliced (eU (h pos pins s σ H _ I hq) fun us s1 ⟨xs,H1,I1,r,z,q⟩=>⟨by rw[←r.length];exact z,?_⟩)
 have hf:H1 s1.heap.objs.size=none:=I1.hok.fresh (Nat.le_refl _)
 refine⟨.ref s1.heap.objs.size,upd H1 s1.heap.objs.size (.lst xs),I1.laid (t':=s1.toks) (fun b u e=>Heap.get?_push_of_some _ e) (Nat.le_refl _) ?_,rfl,q _ hf⟩
 exact⟨z,us,0,r,Heap.get?_push_size _ rfl⟩
end
noncomputable abbrev Sp:=List V→Hp→VK→XK→Prop
noncomputable abbrev CW:=List Env→Hp→Shared→XK→Value→Shared→Prop
structure A1 (P:Program) (w:World) (K:PySem.W.Frag) (mg:Str→Option Value) (base:Heap) (A:Around) (outer:List Env) (s:Shared) (H:Hp):Prop where
 frames:A.frames=some outer
 mod:Mod K mg base
 bs:∀b o,base.get? b=some o→s.heap.get? b=some o∧H b=none
 Gz:base.objs.size≤s.heap.objs.size
 tK:s.heap.FunFrames base outer
 Jm:∀b∈frs outer,H b=none
 hok:oG P w H s.heap
 bare:AllBare s.gens
noncomputable def CE (outer:List Env) (P:Program) (w:World) (H:Hp) (s:Shared) (Q:VK) (u:Value) (s':Shared):Prop:=
 ∃v H',s'.os=s.os∧AllBare s'.gens∧Un (frs outer) [] H H' s.heap s'.heap∧oG P w H' s'.heap∧RelV v u∧Q v H'
noncomputable def CR (CX:CW) (outer:List Env) (P:Program) (w:World) (H:Hp) (s:Shared) (Q:VK) (E:XK) (r:Result) (s':Shared):Prop:=
 match r with
 | .ok (.ret u)=>CE outer P w H s Q u s'
 | .ok _=>False
 | .error e=>CX outer H s E e s'
structure br (P:Program) (w:World) (K:PySem.W.Frag) (mg:Str→Option Value) (base:Heap) (CX:CW) (k:Nat) (f:Addr) (fd:FuncData) (ps:List Str) (sp:Sp):Prop where
 len:∀vs H Q E,sp vs H Q E→vs.length=ps.length
 run:∀(A:Around) (outer:List Env) (s:Shared) (H:Hp) (args:Args) (us:List Value) (vs:List V) (Q:VK) (E:XK),jz k A→A1 P w K mg base A outer s H→BindsTo s fd args (ps.zip us)→Vals vs us→sp vs H Q E→
  codeAny (model P w) A (.call (.ref f) args) (CR CX outer P w H s Q E) s
theorem br.mono {P:Program}{w:World}{K:PySem.W.Frag}{mg:Str→Option Value}{base:Heap}{CX:CW}{j k:Nat}{f:Addr}{fd:FuncData}{ps:List Str}{sp:Sp}(F:br P w K mg base CX j f fd ps sp) (h:j≤k):
  br P w K mg base CX k f fd ps sp:=⟨F.len,fun A outer s H args us vs Q E hr=>F.run A outer s H args us vs Q E (hr.mono h)⟩
theorem br.imp {P:Program}{w:World}{K:PySem.W.Frag}{mg:Str→Option Value}{base:Heap}{CX:CW}{k:Nat}{f:Addr}{fd:FuncData}{ps:List Str}{sp W4:Sp}(F:br P w K mg base CX k f fd ps sp)
  (h:∀vs H Q E,W4 vs H Q E→sp vs H Q E):br P w K mg base CX k f fd ps W4:=
 ⟨fun vs H Q E q=>F.len vs H Q E (h _ _ _ _ q),fun A outer s H args us vs Q E hr he hb hv hs=>F.run A outer s H args us vs Q E hr he hb hv (h _ _ _ _ hs)⟩
theorem A1.in1 {P:Program}{w:World}{K:PySem.W.Frag}{mg:Str→Option Value}{base:Heap}{A:Around}{outer:List Env}{s:Shared}{H:Hp}(e:A1 P w K mg base A outer s H):
  A1 P w K mg base A.in1 outer s H:=⟨e.frames,e.mod,e.bs,e.Gz,e.tK,e.Jm,e.hok,e.bare⟩
section
variable {X:Cx}{pins:List (Addr×Obj)}{σ:St}{H:Hp}{s s':Shared}
theorem Inv.Rh (I:Inv X pins σ H s):A1 X.prog X.w X.K X.mg X.base X.A X.stack s H:=
 ⟨I.ok.frames,I.ok.mod,I.bs,Nat.le_trans I.ok.Gz I.sz,I.stack,I.B8,I.hok,I.bare⟩
theorem Inv.after {Q:VK}{u:Value}(I:Inv X pins σ H s) (h:CE X.stack X.prog X.w H s Q u s'):EP X pins σ Q u s':=by
 obtain⟨v,H',os,bare,un,hok,r,q⟩:=h
 obtain⟨hh,g,d,t,os'⟩:=s'
 obtain rfl:os'=s.os:=os
 exact⟨v,H',I.call (h':=hh) (g':=g) (d':=d) (t':=t) (ch:=[]) un hok bare (fun b z=>absurd z (by simp)),r,q⟩
end
noncomputable def IA (sp:Sp) (Gs:List V) (E:XK) (t:TA):TE:=fun σ H Q=>t σ H fun vs H1=>sp (vs++Gs) H1 Q E
noncomputable def Binds (K:PySem.W.Frag) (fd:FuncData) (ps:List Str) (ds:List Value):Prop:=
 ∀(s:Shared) (us:List Value),K.In s.heap→(us++ds).length=ps.length→BindsTo s fd ⟨us,[]⟩ (ps.zip (us++ds))
theorem Binds.all {K:PySem.W.Frag}{fd:FuncData}{ps:List Str}(h:∀us:List Value,us.length=ps.length→bindArgs fd ⟨us,[]⟩=pure (ps.zip us)):Binds K fd ps []:=fun s us _ hl=>by
 rw[List.append_nil] at hl ⊢
 exact .of_eq (h us hl)
noncomputable def Passes (CX:CW) (X:Cx) (E:XK):Prop:=∀(pins:List (Addr×Obj)) (σ:St) (H:Hp) (s:Shared) (e:Value) (s':Shared),Inv X pins σ H s→CX X.stack H s E e s'→X.xe e s'
section
variable {X:Cx}{CX:CW}{k:Nat}{f C:Addr}{fd:FuncData}{ps:List Str}{sp:Sp}{Gs:List V}{ds:List Value}{E:XK}{x m:Str}{p pos apos:Pos}{e o:Expr}{es:List Expr}{ta:TE}{t:TA}
theorem Er {pins:List (Addr×Obj)}{σ:St}{H:Hp}{s:Shared}{Q:VK}{us:List Value}{vs:List V}(F:br X.prog X.w X.K X.mg X.base CX k f fd ps sp) (hr:jz k X.A) (hb:Binds X.K fd ps ds) (hd:Vals Gs ds) (hx:Passes CX X E)
  (I:Inv X pins σ H s) (r:Vals vs us) (h:sp (vs++Gs) H Q E):wpAny (model X.prog X.w) X.A (call (.ref f) us) (EP X pins σ Q) X.xe s:=by
 have r2:Vals (vs++Gs) (us++ds):=r.append hd
 have hl:(us++ds).length=ps.length:=by rw[←r2.length];exact F.len _ _ _ _ h
 refine wpAny_call (codeAny_mono (F.run X.A X.stack s H ⟨us,[]⟩ (us++ds) (vs++Gs) Q E hr I.Rh (hb s us I.AX hl) r2 h) fun r s' hq=>?_)
 cases r with
 | error e=>exact hx pins σ H s e s' I hq
 | ok fl=>
  cases fl with
  | ret u=>exact I.after hq
  | next=>exact False.elim hq
  | brk=>exact False.elim hq
  | cont=>exact False.elim hq
theorem GP (F:br X.prog X.w X.K X.mg X.base CX k f fd ps sp) (hr:jz k X.A) (hg:Gl X x) (hm:X.mg x=some (.ref f)) (hk:PySem.W.keepIn X.K (.ref f)=true) (hb:Binds X.K fd ps ds) (hd:Vals Gs ds) (hx:Passes CX X E)
  (ha:PA X (e :: es) t) (hdb:(x == ("__debug__":Str))=false:=by decide) (he:starEach (e :: es) X.env=(false,eval e X.env) :: starEach es X.env:=by rfl) (hpl:(backTo pos (starEach es X.env)).any (·.1)=false:=by rfl):
  PE X (.Call (.Name x p) (e :: es) [] pos) (IA sp Gs E t):=by
 intro pins s σ H Q I h
 refine wpAny_Call_Name_kw (xS I hg hm ?_ hdb)
 refine PySem.W.callWith_K (h₀:=X.base) I.ok.mod.QN hk (eU (ha pos pins s σ H _ I h) fun us s1 ⟨vs,H1,I1,r,q⟩=>⟨I1.AX,?_⟩) he hpl
 exact Er F hr hb hd hx I1 r q
theorem Es (F:br X.prog X.w X.K X.mg X.base CX k f fd ps sp) (hr:jz k X.A) (hg:Gl X x) (hm:X.mg x=some (.ref f)) (hk:PySem.W.keepIn X.K (.ref f)=true) (hb:Binds X.K fd ps ds) (hd:Vals Gs ds) (hx:Passes CX X E)
  (hdb:(x == ("__debug__":Str))=false:=by decide):PE X (.Call (.Name x p) [] [] pos) (IA sp Gs E J0):=by
 intro pins s σ H Q I h
 refine wpAny_Call_Name_kw (xS I hg hm ?_ hdb)
 exact PySem.W.callWith_K0 I.AX hk (Er (us:=[]) F hr hb hd hx I .nil h)
end
section
variable {X:Cx}{CX:CW}{k:Nat}{f C:Addr}{fd:FuncData}{ps ks:List Str}{sp:Sp}{E:XK}{x m:Str}{p pos apos kpos:Pos}{e o:Expr}{es:List Expr}{kws:List Keyword}{te ta:TE}{t tk:TA}{nm:Option Str}
variable {g:List Value→List Value→List Value}{gV:List V→List V→List V}
end
structure bS (N P:List Str) (sc:Scope):Prop where
 kind:sc.kind= .function
 co:sc.isCoroutine=false
 gen:sc.isGenerator=false
 nd:N.Nodup
 pre:N.take P.length=P
 par:∀x∈P,sc.names.lookup x=some .local∨sc.names.lookup x=some .cell
 J3:∀y∈sc.names,y.2≠.free
theorem wO {kindOf:Str→Option NameKind}{x:Str}:∀{binds:List (Str×Value)}{m:Str→Option Value},(∀v,(x,v)∉binds)→bindL kindOf binds m x=m x
 | [],_,_=>rfl
 | (n,v) :: r,m,h=>by
  unfold bindL
  rw[wO fun w hw=>h w (List.mem_cons_of_mem _ hw)]
  split
  ·have:x≠n:=by rintro rfl;exact h v List.mem_cons_self
   simp[this]
  ·rfl
theorem wQ {kindOf:Str→Option NameKind}{x:Str}:∀{binds:List (Str×Value)}{m:Str→Option Value},(∀v,(x,v)∉binds)→bindC kindOf binds m x=m x
 | [],_,_=>rfl
 | (n,v) :: r,m,h=>by
  unfold bindC
  rw[wQ fun w hw=>h w (List.mem_cons_of_mem _ hw)]
  split
  ·rfl
  ·have:x≠n:=by rintro rfl;exact h v List.mem_cons_self
   simp[this]
theorem wR {kindOf:Str→Option NameKind}{x:Str}{v:Value}:∀{P:List Str}{vs:List Value}{i:Nat}{m:Str→Option Value},P.Nodup→P[i]? =some x→vs[i]? =some v→kindOf x=some .local→
  bindL kindOf (P.zip vs) m x=some v
 | [],_,_,_,_,h,_,_=>by simp at h
 | _ :: _,[],_,_,_,_,h,_=>by simp at h
 | p :: P,w :: vs,0,m,nd,h1,h2,hk=>by
  simp at h1 h2;subst h1;subst h2
  show bindL kindOf ((p,w) :: P.zip vs) m p=_
  unfold bindL
  rw[wO fun v hv=>(List.nodup_cons.mp nd).1 (List.of_mem_zip hv).1,if_pos hk]
  simp
 | p :: P,w :: vs,i+1,m,nd,h1,h2,hk=>by
  show bindL kindOf ((p,w) :: P.zip vs) m x=_
  unfold bindL
  exact wR (i:=i) (List.nodup_cons.mp nd).2 (by simpa using h1) (by simpa using h2) hk
theorem wU {kindOf:Str→Option NameKind}{x:Str}{v:Value}:∀{P:List Str}{vs:List Value}{i:Nat}{m:Str→Option Value},P.Nodup→P[i]? =some x→vs[i]? =some v→kindOf x≠some .local→
  bindC kindOf (P.zip vs) m x=some v
 | [],_,_,_,_,h,_,_=>by simp at h
 | _ :: _,[],_,_,_,_,h,_=>by simp at h
 | p :: P,w :: vs,0,m,nd,h1,h2,hk=>by
  simp at h1 h2;subst h1;subst h2
  show bindC kindOf ((p,w) :: P.zip vs) m p=_
  unfold bindC
  rw[wQ fun v hv=>(List.nodup_cons.mp nd).1 (List.of_mem_zip hv).1,if_neg hk]
  simp
 | p :: P,w :: vs,i+1,m,nd,h1,h2,hk=>by
  show bindC kindOf ((p,w) :: P.zip vs) m x=_
  unfold bindC
  exact wU (i:=i) (List.nodup_cons.mp nd).2 (by simpa using h1) (by simpa using h2) hk
noncomputable def start (N:List Str) (vs:List V):St:=vs.map some++List.replicate (N.length - vs.length) none
noncomputable def A2 (CX:CW) (P:Program) (w:World) (K:PySem.W.Frag) (mg:Str→Option Value) (base:Heap) (N:List Str) (qual:Str) (scope:Scope) (f:Addr) (cd:Value) (A:Around) (outer:List Env) (s:Shared) (H:Hp) (E:XK):Cx where
 prog:=P
 w:=w
 K:=K
 mg:=mg
 base:=base
 A:=A.deeper (envOfC qual scope s.heap.objs.size f cd)
 N:=N
 s₀:=s
 H₀:=H
 env:=envOfC qual scope s.heap.objs.size f cd
 outer:=outer
 stack:=envOfC qual scope s.heap.objs.size f cd :: outer
 ex:=[]
 calm:=true
 fn:=fun _=>true
 pn:=[]
 xe:=fun e s'=>wpAny (model P w) (A.deeper (envOfC qual scope s.heap.objs.size f cd)) (leaving (envOfC qual scope s.heap.objs.size f cd) e) (fun _ s''=>CX outer H s E e s'') (fun e' s''=>CX outer H s E e' s'') s'
theorem zp {sc:Scope}{n:Nat}{x:Str}(h:sc.names.lookup x=some .cell):∃c,(cellsFrom n sc.names []).lookup x=some c:=by
 have q:=PySem.W.cellsFrom_some sc.names n [] (.inl h)
 exact Option.isSome_iff_exists.mp q
theorem CY {CX : CW} {P : Program} {w : World} {K : PySem.W.Frag} {mg : Str → Option Value} {base : Heap} {N ps : List Str} {qual : Str} {scope : Scope} {f : Addr} {cd : Value} {A : Around} {outer : List Env} {s s1 : Shared} {H : Hp} {E : XK} {us : List Value} {vs : List V}
    (S:bS N ps scope) (hd:A.handled=none) (e0:A1 P w K mg base A outer s H) (hl:vs.length=ps.length) (r:Vals vs us)
    (x:InCallC s s.heap.objs.size (bindL (envOfC qual scope s.heap.objs.size f cd).kindOf (ps.zip us) fun _=>none) (cellsFrom (s.heap.objs.size+1) scope.names []) (bindC (envOfC qual scope s.heap.objs.size f cd).kindOf (ps.zip us) fun _=>none) s1):
    Inv (A2 CX P w K mg base N qual scope f cd A outer s H E) [] (start N vs) H s1:=by
  have hpl:ps.length≤N.length:=by have:=congrArg List.length S.pre;rw[List.length_take] at this;omega
  obtain⟨h1,tk,rfl,hk⟩:=x.done
  have ME:∀b:Addr,b∉(A2 CX P w K mg base N qual scope f cd A outer s H E).ex:=fun b z=>absurd (show b∈([]:List Addr) from z) (by simp)
  refine⟨⟨e0.mod,S.kind,rfl,rfl,Nat.le_refl _,fun y z c h1 h2=>?_,fun y hy=>?_,fun y c _ h=>?_,fun _=>hd,Around.frames_deeper e0.frames,.inr ⟨rfl,rfl⟩,fun b z=>absurd z (ME b),e0.bs,e0.Gz,fun b _ _=>ME b,fun b z=>absurd z (ME b),e0.tK,e0.Jm⟩,
    rfl,e0.bare,Un.kept hk,⟨_,x.toInCall.ns,fun i y v h1 h2 h3=>?_⟩,fun y c h=>⟨_,x.cell y c h⟩,e0.hok.fresh (Nat.le_refl _),fun y c h=>?_,fun p hp=>absurd (show p∈([]:List (Addr×Obj)) from hp) (by simp),e0.hok.kept hk,?_⟩
  · exact name_of_addr x.apart (PySem.mem_of_lookup h1) (PySem.mem_of_lookup h2)
  · have hy:scope.names.lookup y=some .cell∨scope.names.lookup y=some .free:=hy
    rcases hy with hy | hy
    · exact zp hy
    · exact absurd rfl (S.J3 _ (PySem.mem_of_lookup hy))
  · exact Nat.le_of_lt (x.above y c (PySem.mem_of_lookup h))
  · have hi:i < vs.length:=by
      unfold start at h2
      by_cases hi:i < vs.length
      · exact hi
      · rw[List.getElem?_append_right (by simpa using hi)] at h2
        rw[List.getElem?_replicate] at h2
        split at h2 <;> cases h2
    have ha:vs[i]? =some v:=by
      unfold start at h2
      rw[List.getElem?_append_left (by simpa using hi),List.getElem?_map] at h2
      cases e:vs[i]? with
      | none=>rw[e] at h2;cases h2
      | some a=>rw[e] at h2;cases h2;rfl
    obtain⟨u,hu,rv⟩:=r.get ha
    have hp:ps[i]? =some y:=by
      rw[←S.pre,List.getElem?_take_of_lt (by omega)];exact h1
    have W5:ps.Nodup:=by rw[←S.pre];exact S.nd.sublist (List.take_sublist _ _)
    refine⟨u,rv,?_⟩
    rcases S.par y (List.mem_of_getElem? hp) with k | k
    · exact .inl ⟨k,wR W5 hp hu k⟩
    · obtain⟨c,e⟩:=zp (n:=s.heap.objs.size+1) k
      refine .inr ⟨.inl k,c,e,?_⟩
      have q:=x.cell y c e
      rw[wU W5 hp hu (by show scope.names.lookup y≠_;rw[k];decide)] at q
      exact q
  · exact e0.hok.fresh (Nat.le_of_lt (x.above y c (PySem.mem_of_lookup h)))
  · unfold start
    show _=N.length
    rw[List.length_append,List.length_map,List.length_replicate]
    omega
theorem MF {CX:CW}{P:Program}{w:World}{K:PySem.W.Frag}{mg:Str→Option Value}{base:Heap}{k:Nat}{f:Addr}{name qual:Str}{params:Arguments}{body:List Stmt}{scope:Scope}{dV kV doc pm cdv ct oc:Value}{an od:Option Addr}
  {osl:Array (Option Value)}{N ps:List Str}{sp:Sp}(lk:K.lookup f=some ⟨oc,od,.func (PySem.W.fnOf name qual params body scope dV kV doc pm an cdv ct),osl⟩) (hcd:PySem.W.codeIn K cdv qual=true) (S:bS N ps scope)
  (len:∀vs H Q E,sp vs H Q E→vs.length=ps.length)
  (hbody:∀(A:Around) (outer:List Env) (s:Shared) (H:Hp) (vs:List V) (Q:VK) (E:XK),jz k (A.deeper (envOfC qual scope s.heap.objs.size f cdv))→sp vs H Q E→
   ∃t,AS (A2 CX P w K mg base N qual scope f cdv A outer s H E) body t∧t {nx:=fun _ H'=>Q .cI H',rt:=Q} (start N vs) H):
  br P w K mg base CX (k+1) f (PySem.W.fnOf name qual params body scope dV kV doc pm an cdv ct) ps sp:=by
 refine⟨len,fun A outer s H args us vs Q E hr e0 hb r IB=>?_⟩
 have hl:=len _ _ _ _ IB
 have KX:K.In s.heap:=e0.mod.QN.keeps fun b o e=>(e0.bs b o e).1
 have lim:s.heap.NoLimit:=e0.mod.nolimit.keeps fun b o e=>(e0.bs b o e).1
 have hkind:∀y∈ps.zip us,scope.names.lookup y.1=some .local∨(scope.names.lookup y.1=some .cell∧((cellsFrom (s.heap.objs.size+1) scope.names []).lookup y.1).isSome=true):=fun⟨n,v⟩ hy=>by
  rcases S.par n (List.of_mem_zip hy).1 with q | q
  ·exact .inl q
  ·exact .inr ⟨q,PySem.W.cellsFrom_some _ _ _ (.inl q)⟩
 refine codeAny_call_function hr.depth (KX _ _ lk) rfl S.co S.gen rfl (PySem.W.codeRec_of KX hcd) (hb _ _ _ _ ?_)
 refine wpAny_newFunctionEnv_cells S.kind hkind fun env he s1 x=>?_
 subst he
 refine⟨lim.keeps x.toInCall.keep,codeAny_func ?_⟩
 obtain⟨t,ht,hq⟩:=hbody A outer s H vs Q E (hr.deeper _) IB
 have I:Inv (A2 CX P w K mg base N qual scope f cdv A outer s H E) [] (start N vs) H s1:=CY S hr.hd e0 hl r x
 refine wpAny_mono (ht [] s1 (start N vs) H _ I hq) (fun fl s' hs=>?_) fun e s' hs=>hs
 have fin:∀{σ':St}{H':Hp}{v:V}{u:Value},Inv (A2 CX P w K mg base N qual scope f cdv A outer s H E) [] σ' H' s'→RelV v u→Q v H'→CE outer P w H s Q u s':=
  fun {σ' H' v u} J rv q=>⟨v,H',J.os,J.bare,J.base,J.hok,rv,q⟩
 cases fl with
 | ret u=>
  obtain⟨v,σ',H',J,rv,q⟩:=hs
  exact fin J rv q
 | next=>
  obtain⟨σ',H',J,q⟩:=hs
  exact fin (v:=V.cI) (u:=Value.none) J rfl q
 | brk=>
  obtain⟨_,_,_,q⟩:=hs
  exact False.elim q
 | cont=>
  obtain⟨_,_,_,q⟩:=hs
  exact False.elim q
end L2
namespace L2
open PySem PySem.Spec PyProof.Rows
section
variable {X:Cx}{x:Str}{p pos:Pos}{e:Expr}{es:List Expr}{t:TA}{id T:String}{r:List V→Hp→VK→Prop}
noncomputable def W6 (r:List V→Hp→VK→Prop) (t:TA):TE:=fun σ H Q=>t σ H fun vs H1=>r vs H1 Q
theorem m9 (hc:gq X (.builtin id) r) (hg:Gl X x) (hm:X.mg x=none) (hv:bootBuiltins x=some (.builtin id)) (ha:PA X (e :: es) t) (hn:x≠"__name__":=by decide) (hdb:(x == ("__debug__":Str))=false:=by decide)
  (he:starEach (e :: es) X.env=(false,eval e X.env) :: starEach es X.env:=by rfl) (hpl:(backTo pos (starEach es X.env)).any (·.1)=false:=by rfl):PE X (.Call (.Name x p) (e :: es) [] pos) (W6 r t):=by
 intro pins s σ H Q I h
 refine wpAny_Call_Name_kw (qK I hg hm hv ?_ hn hdb)
 exact PyProof.Rows.callWith_builtin1 (eU (ha pos pins s σ H _ I h) fun us s1 ⟨vs,H1,I1,r1,q1⟩=>hc pins s1 σ H1 vs us Q I1 r1 q1) he hpl
theorem CZ (hc:gq X (.type T) r) (hg:Gl X x) (hm:X.mg x=none) (hv:bootBuiltins x=some (.type T)) (ha:PA X (e :: es) t) (hn:x≠"__name__":=by decide) (hdb:(x == ("__debug__":Str))=false:=by decide)
  (he:starEach (e :: es) X.env=(false,eval e X.env) :: starEach es X.env:=by rfl) (hpl:(backTo pos (starEach es X.env)).any (·.1)=false:=by rfl):PE X (.Call (.Name x p) (e :: es) [] pos) (W6 r t):=by
 intro pins s σ H Q I h
 refine wpAny_Call_Name_kw (qK I hg hm hv ?_ hn hdb)
 exact PyProof.Rows.callWith_type1 (eU (ha pos pins s σ H _ I h) fun us s1 ⟨vs,H1,I1,r1,q1⟩=>hc pins s1 σ H1 vs us Q I1 r1 q1) he hpl
end
end L2
namespace L2
open PySem PySem.Spec PyProof.Rows
section
variable {κ:Type} [DecidableEq κ]
noncomputable def o8 (kvs:List (κ×V)) (k:κ):Option V:=(kvs.find? fun kv=>decide (kv.1=k)).map (·.2)
noncomputable def putK (kvs:List (κ×V)) (k:κ) (v:V):List (κ×V):=
 if(kvs.any fun kv=>decide (kv.1=k))=true then kvs.map (fun kv=>if kv.1=k then(kv.1,v) else kv) else kvs++[(k,v)]
noncomputable def IC (kvs:List (κ×V)) (k:κ):List (κ×V):=kvs.filter fun kv=>decide (kv.1≠k)
theorem pW {p:κ×V}{r:List (κ×V)}{k:κ}(e:p.1=k):o8 (p :: r) k=some p.2:=by simp[o8,List.find?_cons,e]
theorem ng {p:κ×V}{r:List (κ×V)}{k:κ}(e:¬p.1=k):o8 (p :: r) k=o8 r k:=by simp[o8,List.find?_cons,e]
theorem zq (k:κ):∀kvs:List (κ×V),(kvs.any fun kv=>decide (kv.1=k))=(o8 kvs k).isSome
 | []=>rfl
 | p :: r=>by
  rw[List.any_cons]
  by_cases e:p.1=k
  ·simp only[pW e,decide_eq_true e,Bool.true_or,Option.isSome_some]
  ·rw[ng e,decide_eq_false e,Bool.false_or];exact zq k r
theorem nh (kvs:List (κ×V)) (k:κ) (v:V):(putK kvs k v).length≤kvs.length+1:=by
 unfold putK
 split
 ·rw[List.length_map];omega
 ·rw[List.length_append,List.length_cons,List.length_nil];omega
theorem tH.C0 {o:Option V}{u:Option Value}(r:tH o u):o.isSome=u.isSome:=by
 cases o with
 | none=>cases u with
  | none=>rfl
  | some _=>exact(show False from r).elim
 | some _=>cases u with
  | none=>exact(show False from r).elim
  | some _=>rfl
theorem tH.getD {o:Option V}{u:Option Value}{d:V}{d':Value}(r:tH o u) (rd:RelV d d'):RelV (o.getD d) (u.getD d'):=by
 cases o with
 | none=>cases u with
  | none=>exact rd
  | some _=>exact(show False from r).elim
 | some _=>cases u with
  | none=>exact(show False from r).elim
  | some _=>exact r
theorem KV.val {kvs:List (κ×V)}{vs:List (κ×Value)}(r:KV kvs vs) (k:κ):tH (o8 kvs k) (valueAt vs k):=by
 unfold KV at r
 induction r with
 | nil=>exact True.intro
 | @cons p q ps qs h t ih=>
  obtain⟨h1,h2⟩:=h
  by_cases e:p.1=k
  ·have e':q.1=k:=h1.symm.trans e
   have b:valueAt (q :: qs) k=some q.2:=by simp[valueAt,List.find?_cons,e']
   rw[pW e,b];exact h2
  ·have e':¬q.1=k:=fun z=>e (h1.trans z)
   have b:valueAt (q :: qs) k=valueAt qs k:=by simp[valueAt,List.find?_cons,e']
   rw[ng e,b];exact ih
theorem KV.any {kvs:List (κ×V)}{vs:List (κ×Value)}(r:KV kvs vs) (k:κ):(kvs.any fun kv=>decide (kv.1=k))=vs.any fun kv=>decide (kv.1=k):=by
 unfold KV at r
 induction r with
 | nil=>rfl
 | cons h t ih=>rw[List.any_cons,List.any_cons,ih,h.1]
theorem KV.repl {kvs:List (κ×V)}{vs:List (κ×Value)}(r:KV kvs vs) (k:κ){y:V}{u:Value}(ry:RelV y u):
  KV (kvs.map fun kv=>if kv.1=k then(kv.1,y) else kv) (vs.map fun kv=>if kv.1=k then(kv.1,u) else kv):=by
 unfold KV at r ⊢
 induction r with
 | nil=>exact .nil
 | @cons p q ps qs h t ih=>
  rw[List.map_cons,List.map_cons]
  refine .cons ?_ ih
  obtain⟨h1,h2⟩:=h
  by_cases e:p.1=k
  ·rw[if_pos e,if_pos (h1.symm.trans e)];exact⟨h1,ry⟩
  ·rw[if_neg e,if_neg (fun z=>e (h1.trans z))];exact⟨h1,h2⟩
theorem KV.put {kvs:List (κ×V)}{vs:List (κ×Value)}(r:KV kvs vs) (k:κ){y:V}{u:Value}(ry:RelV y u):KV (putK kvs k y) (stored vs k u):=by
 unfold putK stored
 rw[r.any k]
 by_cases e:(vs.any fun kv=>decide (kv.1=k))=true
 ·rw[if_pos e,if_pos e];exact r.repl k ry
 ·rw[if_neg e,if_neg e];exact Paired.snoc r ⟨rfl,ry⟩
theorem KV.drop {kvs:List (κ×V)}{vs:List (κ×Value)}(r:KV kvs vs) (k:κ):KV (IC kvs k) (without vs k):=by
 unfold KV at r ⊢
 unfold IC without
 induction r with
 | nil=>exact .nil
 | @cons p q ps qs h t ih=>
  obtain⟨h1,h2⟩:=h
  rw[List.filter_cons,List.filter_cons]
  by_cases e:p.1=k
  ·have a:¬decide (p.1≠k)=true:=by simp[e]
   have b:¬decide (q.1≠k)=true:=by simp[h1.symm.trans e]
   rw[if_neg a,if_neg b];exact ih
  ·have e':¬q.1=k:=fun z=>e (h1.trans z)
   have a:decide (p.1≠k)=true:=by simp[e]
   have b:decide (q.1≠k)=true:=by simp[e']
   rw[if_pos a,if_pos b];exact .cons ⟨h1,h2⟩ ih
theorem KV.length {kvs:List (κ×V)}{vs:List (κ×Value)}(r:KV kvs vs):kvs.length=vs.length:=Paired.length r
end
theorem uB {P:Program}{w:World}{k:Key}{u:Value}(r:RelV (kV k) u):(bW P w).is k u=true:=by
 cases k with
 | inl i=>obtain⟨t,e⟩:=(show ∃t,u=Value.int i t from r);subst e;exact zh P w i t
 | inr x=>obtain⟨t,e⟩:=(show ∃t,u=Value.str x t from r);subst e;exact m5 P w x t
theorem wV {P:Program}{w:World}:∀{ks:List Key}{us:List Value},Vals (ks.map kV) us→ItemsAre (bW P w) ks us
 | [],_,r=>by rw[List.map_nil] at r;cases r;exact .nil
 | k :: ks,_,r=>by
  rw[List.map_cons] at r
  cases r with
  | cons h t=>exact .cons (uB h) (wV t)
noncomputable abbrev KT (H:Hp):List (List Key×V)→List (List Key×Addr×Value)→Prop:=Paired fun p q=>p.1=q.1∧H q.2.1=some (.tup (p.1.map kV))∧RelV p.2 q.2.2
theorem KT.val {H:Hp}{kvs:List (List Key×V)}{xs:List (List Key×Addr×Value)}(r:KT H kvs xs) (k:List Key):tH (o8 kvs k) ((atKey xs k).map (·.2)):=by
 induction r with
 | nil=>exact True.intro
 | @cons p q ps qs h t ih=>
  obtain⟨h1,_,h2⟩:=h
  by_cases e:p.1=k
  ·have e':q.1=k:=h1.symm.trans e
   have b:atKey (q :: qs) k=some q.2:=by simp[atKey,List.find?_cons,e']
   rw[pW e,b];exact h2
  ·have e':¬q.1=k:=fun z=>e (h1.trans z)
   have b:atKey (q :: qs) k=atKey qs k:=by simp[atKey,List.find?_cons,e']
   rw[ng e,b];exact ih
theorem KT.repl {H:Hp}{kvs:List (List Key×V)}{xs:List (List Key×Addr×Value)}(r:KT H kvs xs) (k:List Key){y:V}{u:Value}(ry:RelV y u):
  KT H (kvs.map fun kv=>if kv.1=k then(kv.1,y) else kv) (xs.map (putAt k u)):=by
 induction r with
 | nil=>exact .nil
 | @cons p q ps qs h t ih=>
  rw[List.map_cons,List.map_cons]
  refine .cons ?_ ih
  obtain⟨h1,h2,h3⟩:=h
  unfold putAt
  by_cases e:p.1=k
  ·rw[if_pos e,if_pos (h1.symm.trans e)];exact⟨h1,h2,ry⟩
  ·rw[if_neg e,if_neg (fun z=>e (h1.trans z))];exact⟨h1,h2,h3⟩
theorem KT.put {H:Hp}{kvs:List (List Key×V)}{xs:List (List Key×Addr×Value)}(r:KT H kvs xs) (k:List Key){b:Addr}{y:V}{u:Value}(hb:H b=some (.tup (k.map kV))) (ry:RelV y u):
  KT H (putK kvs k y) (storedH xs k b u):=by
 have e:(kvs.any fun kv=>decide (kv.1=k))=(atKey xs k).isSome:=by
  rw[zq,(r.val k).C0,Option.isSome_map]
 unfold putK storedH
 rw[e]
 by_cases q:(atKey xs k).isSome=true
 ·rw[if_pos q,if_pos q];exact r.repl k ry
 ·rw[if_neg q,if_neg q];exact Paired.snoc r ⟨rfl,hb,ry⟩
theorem KT.keeps {H H':Hp}{kvs:List (List Key×V)}{xs:List (List Key×Addr×Value)}(r:KT H kvs xs) (ht:∀b ys,H b=some (.tup ys)→H' b=some (.tup ys)):KT H' kvs xs:=
 Paired.CN r fun _ _ z=>⟨z.1,ht _ _ z.2.1,z.2.2⟩
section
variable {P:Program}{w:World}{H:Hp}{h:Heap}{a:Addr}
theorem ID {u:HO}(ok:oG P w H h) (e:Rd H a u):fM P w H h a u:=e.ok ok
theorem wW {kvs:List (Key×V)}(ok:oG P w H h) (e:Rd H a (.dK kvs)):kvs.length≤sizeLine∧(a == sysModules)=false∧∃vs,KV kvs vs∧h.DictOf (bW P w) a vs:=
 show fM P w H h a (.dK kvs) from ID ok e
theorem Cb {kvs:List (Key×V)}(ok:oG P w H h) (e:H a=some (.dK kvs)):kvs.length≤sizeLine∧(a == sysModules)=false∧∃vs,KV kvs vs∧h.DictOf (bW P w) a vs:=wW ok (.inl e)
theorem xV {ks:List Key}(ok:oG P w H h) (e:H a=some (.tup (ks.map kV))):(tupleKind (bW P w)).is h ks a:=by
 obtain⟨_,its,r,o,h1,h2,n,h3⟩:=(show fM P w H h a (.tup (ks.map kV)) from ok a _ e)
 exact⟨o,its.toArray,n,h1,h2,h3,by simpa using wV r⟩
theorem zu {kvs : List (List Key × V)} (ok : oG P w H h) (e : Rd H a (.dT kvs)) : kvs.length ≤ sizeLine ∧ (a == sysModules) = false ∧
    ∃xs,KT H kvs xs∧h.DictOfH (tupleKind (bW P w)) a xs:=by
  obtain⟨z,y,xs,r,o,es,ep,h1,h2,h3,h4,h5⟩:=(show fM P w H h a (.dT kvs) from ID ok e)
  refine⟨z,y,xs,r,o,es,ep,h1,h2,h3,h4,fun x hx=>?_,h5⟩
  have all:∀{l:List (List Key×V)}{m:List (List Key×Addr×Value)},KT H l m→∀x∈m,(tupleKind (bW P w)).is h x.1 x.2.1:=by
    intro l m q
    induction q with
    | nil=>intro x hx;exact nomatch hx
    | @cons p q ps qs hq t ih=>
      intro x hx
      rcases List.mem_cons.mp hx with e | hx
      · subst e
        exact xV ok (by rw[←hq.1];exact hq.2.1)
      · exact ih x hx
  exact all r x hx
theorem MG {kvs:List (List Key×V)}(ok:oG P w H h) (e:H a=some (.dT kvs)):kvs.length≤sizeLine∧(a == sysModules)=false∧
  ∃xs,KT H kvs xs∧h.DictOfH (tupleKind (bW P w)) a xs:=zu ok (.inl e)
end
noncomputable def oJ (H:Hp) (a:Addr) (y:V) (r:Option V):Prop:=
 (∃kvs k,Rd H a (.dK kvs)∧y=kV k∧r=o8 kvs k)∨∃kvs k b,Rd H a (.dT kvs)∧y= .ref b∧H b=some (.tup (k.map kV))∧r=o8 kvs k
noncomputable def zw (H:Hp) (a:Addr) (y v:V) (H':Hp):Prop:=
 (∃kvs k,H a=some (.dK kvs)∧y=kV k∧kvs.length < sizeLine∧H'=upd H a (.dK (putK kvs k v)))∨
 ∃kvs k b,H a=some (.dT kvs)∧y= .ref b∧H b=some (.tup (k.map kV))∧kvs.length < sizeLine∧H'=upd H a (.dT (putK kvs k v))
theorem oJ.k {H:Hp}{a:Addr}{kvs:List (Key×V)}{k:Key}(e:H a=some (.dK kvs)):oJ H a (kV k) (o8 kvs k):=.inl ⟨kvs,k,.inl e,rfl,rfl⟩
theorem oJ.t {H:Hp}{a b:Addr}{kvs:List (List Key×V)}{k:List Key}(e:H a=some (.dT kvs)) (eb:H b=some (.tup (k.map kV))):oJ H a (.ref b) (o8 kvs k):=.inr ⟨kvs,k,b,.inl e,rfl,eb,rfl⟩
theorem zw.k {H:Hp}{a:Addr}{kvs:List (Key×V)}{k:Key}{v:V}(e:H a=some (.dK kvs)) (hl:kvs.length < sizeLine):zw H a (kV k) v (upd H a (.dK (putK kvs k v))):=.inl ⟨kvs,k,e,rfl,hl,rfl⟩
theorem zw.t {H:Hp}{a b:Addr}{kvs:List (List Key×V)}{k:List Key}{v:V}(e:H a=some (.dT kvs)) (eb:H b=some (.tup (k.map kV))) (hl:kvs.length < sizeLine):
  zw H a (.ref b) v (upd H a (.dT (putK kvs k v))):=.inr ⟨kvs,k,b,e,rfl,eb,hl,rfl⟩
section
variable {X:Cx}{pins:List (Addr×Obj)}{σ:St}{H:Hp}{s:Shared}{a:Addr}{y v:V}{u r:Value}{o:Option V}{A:Around}{E:Value→Shared→Prop}
theorem Inv.big (I:Inv X pins σ H s):sysModules < s.heap.objs.size:=by
 have h:mainGlobals < s.heap.objs.size:=(I.mod.glob.keeps I.bk).lt
 exact Nat.lt_trans (by decide) h
theorem C1 {Q:Value→Shared→Prop}(hu:A.units+1 < cLine) (I:Inv X pins σ H s) (g:oJ H a y (some v)) (ry:RelV y u) (h:∀w' s',Inv X pins σ H s'→RelV v w'→Q w' s'):
  wpAny (model X.prog X.w) A (getItem (.ref a) u) Q E s:=by
 rcases g with⟨kvs,k,e,ey,l⟩ | ⟨kvs,k,b,e,ey,eb,l⟩
 ·subst ey
  obtain⟨z,hd,vs,rel,dd⟩:=wW I.hok e
  obtain⟨w',hw,rw'⟩:=tH.some_of (v:=v) (o:=valueAt vs k) (by rw[l];exact rel.val k)
  exact wpAny_getItem_of (uB ry) dd.mapOf hw (h w' _ (I.tok _) rw')
 ·subst ey
  cases(show u=Value.ref b from ry)
  obtain⟨z,hd,xs,rel,dd⟩:=zu I.hok e
  obtain⟨w',hw,rw'⟩:=tH.some_of (v:=v) (o:=(atKey xs k).map (·.2)) (by rw[l];exact rel.val k)
  obtain⟨p,hp,hp2⟩:=Option.map_eq_some_iff.mp hw
  refine wpAny_getItem_heap (tupleKind_room_in1 hu) (xV I.hok eb) dd hp ?_
  rw[hp2]
  exact h w' _ (I.tok _) rw'
theorem uh {h':Heap}{t':Nat}{ob:HO}(I:Inv X pins σ H s) (mu:Mc (H a)) (hs:Heap.SameBut a s.heap h') (he:∃q,h'.get? a=some q) (new:fM X.prog X.w (upd H a ob) h' a ob):
  Inv X pins σ (upd H a ob) {s with heap:=h',toks:=t'}:=
 I.write (x:=a) (e:=a) mu (.inl rfl) (fun b q hb z=>(hs.2 b hb).trans z) he new
theorem A3 {P:Program}{w:World}{H':Hp}{h':Heap}{kvs:List (Key×V)}{vs:List (Key×Value)}(z:kvs.length≤sizeLine) (hd:(a == sysModules)=false) (rel:KV kvs vs) (dd:h'.DictOf (bW P w) a vs):
  fM P w H' h' a (.dK kvs):=⟨z,hd,vs,rel,dd⟩
theorem C2 {H':Hp}{Q:Unit→Shared→Prop}(hu:A.units+1 < cLine) (I:Inv X pins σ H s) (g:zw H a y v H') (ry:RelV y u) (rv:RelV v r) (h:∀s',Inv X pins σ H' s'→Q () s'):
  wpAny (model X.prog X.w) A (setItem (.ref a) u r) Q E s:=by
 rcases g with⟨kvs,k,e,ey,l,eH⟩ | ⟨kvs,k,b,e,ey,eb,l,eH⟩
 ·subst ey eH
  obtain⟨z,hd,vs,rel,dd⟩:=Cb I.hok e
  have hz:vs.length≤sizeLine:=by rw[←rel.length];exact z
  have hl:(putK kvs k v).length≤sizeLine:=by have:=nh kvs k v;omega
  refine wpAny_setItem_pairs (hsz:=hz) (uB ry) dd fun h' Gu hs=>h _ ?_
  have he:∃q,h'.get? a=some q:=let⟨q,_,_,hq,_⟩:=Gu;⟨q,hq⟩
  exact uh I (by rw[e];exact True.intro) hs he (A3 hl hd (rel.put k rv) Gu)
 ·subst ey eH
  cases(show u=Value.ref b from ry)
  obtain⟨z,hd,xs,rel,dd⟩:=MG I.hok e
  have hz:xs.length≤sizeLine:=by rw[←Paired.length rel];exact z
  have hl:(putK kvs k v).length≤sizeLine:=by have:=nh kvs k v;omega
  refine wpAny_setItem_heap (hsz:=hz) (tupleKind_room_in1 hu) (xV I.hok eb) dd fun h' Gu hs=>h _ ?_
  obtain⟨q,es,ep,hq,h2,h3,h4,_,h5⟩:=Gu
  refine uh I (by rw[e];exact True.intro) hs ⟨q,hq⟩ ⟨hl,hd,_,(rel.put k eb rv).keeps fun c ys ec=>?_,q,es,ep,hq,h2,h3,h4,h5⟩
  rw[aT (Mb ec e (fun z=>nomatch z))]
  exact ec
end
section
variable {X:Cx}{pins:List (Addr×Obj)}{σ:St}{H:Hp}{s:Shared}{a:Addr}{kvs:List (Key×V)}{k:Key}{u:Value}{A:Around}{E:Value→Shared→Prop}
theorem MH {Q:Value→Shared→Prop}(I:Inv X pins σ H s) (e:Rd H a (.dK kvs)) (h:∀t s',Inv X pins σ H s'→Q (.int kvs.length t) s'):wpAny (model X.prog X.w) A (call (.builtin "len") [.ref a]) Q E s:=by
 obtain⟨z,hd,vs,rel,dd⟩:=wW I.hok e
 refine call_len_dict hd dd (by rw[←rel.length];rw[sizeLine_eq] at z;omega) ?_
 rw[←rel.length]
 exact h _ _ (I.tok _)
end
noncomputable def GQ (i:Expr):Prop:=∀ov iv,subscripted i false ov iv=operate [ov,iv] (getItem ov iv)
theorem Cc {prog:Program}{w:World}{A:Around}{E:Value→Shared→Prop}{s:Shared}{env:Env}{value slice:Expr}{pos:Pos}{T id:String}{Q:Value→Shared→Prop}
  (hl:typeLookup (.type T) "__getitem__" =pure (some (.builtin id))) (hs:GQ slice)
  (h:wpAny (model prog w) A (eval value env) (fun o s₁=>wpAny (model prog w) A (eval slice env) (fun i s₂=>s₂.TypeIs o T∧wpAny (model prog w) A (getItem o i) Q E s₂) E s₁) E s):
  wpAny (model prog w) A (eval (.Subscript value slice pos) env) Q E s:=by
 refine Subscript_ (wpAny_mono h (fun o s₁ h₁=>wpAny_mono h₁ (fun i s₂ h₂=>?_) fun _ _ x=>x) fun _ _ x=>x)
 obtain⟨hT,h₂⟩:=h₂
 unfold subscriptTail
 refine wpAny_bind ?_
 rw[getitemInPython_of_ne hT.not_modules]
 refine wpAny_bind (wpAny_specialOf hT hl ?_)
 have fin:wpAny (model prog w) A (subscripted slice false o i) (fun r s₃=>wpAny (model prog w) A (letTemporaryGo value o r >>= fun _=>pure r) Q E s₃) E s₂:=by
  rw[hs o i]
  exact wpAny_operating (wpAny_mono h₂ (fun r s₃ h₃=>wpAny_bind (wpAny_letTemporaryGo (wpAny_pure h₃))) fun _ _ x=>x)
 first
  | exact wpAny_pure (wpAny_bind fin)
  | exact wpAny_bind (wpAny_pure (wpAny_bind fin))
  | exact wpAny_bind fin
theorem zx {X:Cx}{pins:List (Addr×Obj)}{σ:St}{H:Hp}{s:Shared}{a:Addr}{y:V}{o:Option V}(I:Inv X pins σ H s) (g:oJ H a y o):s.TypeIs (.ref a) "dict":=by
 rcases g with⟨kvs,k,e,_,_⟩ | ⟨kvs,k,b,e,_,_,_⟩
 ·obtain⟨_,_,vs,_,dd⟩:=wW I.hok e
  exact dd.typeIs
 ·obtain⟨_,_,xs,_,dd⟩:=zu I.hok e
  exact dd.typeIs
noncomputable def MI (td ty:TE):TE:=fun σ H Q=>td σ H fun x H1=>ty σ H1 fun y H2=>∃a v,x= .ref a∧oJ H2 a y (some v)∧Q v H2
noncomputable def MJ (td ty tv:TE):TS:=fun D σ H=>tv σ H fun v H1=>td σ H1 fun x H2=>ty σ H2 fun y H3=>∃a H4,x= .ref a∧zw H3 a y v H4∧D.nx σ H4
section
variable {X:Cx}{o i e value:Expr}{pos pos' tpos:Pos}{td ty tv:TE}
theorem Cd (hu:X.A.units+1 < cLine) (ho:PE X o td) (hi:PE X i ty) (hs:GQ i):PE X (.Subscript o i pos) (MI td ty):=by
 intro pins s σ H Q I h
 refine Cc PySem.F.slot_dict_getitem.lookup hs (eU (ho pins s σ H _ I h) fun u s1 ⟨x,H1,I1,rx,q1⟩=>eU (hi pins s1 σ H1 _ I1 q1) fun iv s2 ⟨y,H2,I2,ry,a,v,ex,g,q2⟩=>?_)
 subst ex
 obtain rfl:u=Value.ref a:=rx
 exact⟨zx I2 g,C1 hu I2 g ry fun w' s3 I3 rw'=>⟨v,H2,I3,rw',q2⟩⟩
theorem Ce (hu:X.A.units+1 < cLine) (ho:PE X o td) (hi:PE X i ty) (hv:PE X value tv) (hs:swapsWith value (some (.Subscript o i pos')) pos.line X.env=pure false):
  PS X (.Assign [.Subscript o i pos'] value pos) (MJ td ty tv):=by
 intro pins s σ H D I h
 refine wpAny_Assign_Subscript (eU (hv pins s σ H _ I h) fun r s1 ⟨v,H1,I1,rv,q1⟩=>eU (ho pins s1 σ H1 _ I1 q1) fun u s2 ⟨x,H2,I2,rx,q2⟩=>eU (hi pins s2 σ H2 _ I2 q2) fun iv s3 ⟨y,H3,I3,ry,a,H4,ex,g,q3⟩=>?_) hs
 subst ex
 obtain rfl:u=Value.ref a:=rx
 exact C2 hu I3 g ry rv fun s4 I4=>⟨σ,H4,I4,q3⟩
end
theorem Et {P:Program}{w:World}{H:Hp}(h:Heap) (hb:sysModules < h.objs.size):fM P w H (h.push {cls:=.type "dict",data:=.dict #[]}) h.objs.size (.dK []):=
 ⟨Nat.zero_le _,beq_eq_false_iff_ne.mpr (Ne.symm (Nat.ne_of_lt hb)),[],.nil,Heap.DictOf.new h⟩
section
variable {X:Cx}{pos:Pos}
end
noncomputable def uC:List (TE×TE)→St→Hp→(List (V×V)→Hp→Prop)→Prop
 | [],_,H,Q=>Q [] H
 | (tk,tv) :: r,σ,H,Q=>tk σ H fun x H1=>tv σ H1 fun y H2=>uC r σ H2 fun ps H3=>Q ((x,y) :: ps) H3
noncomputable abbrev VV:List (V×V)→List (Value×Value)→Prop:=Paired fun p q=>RelV p.1 q.1∧RelV p.2 q.2
noncomputable def MK (X:Cx) (pos:Pos) (keys:List (Option Expr)) (values:List Expr) (GR:List (TE×TE)):Prop:=
 ∀(pins:List (Addr×Obj)) (s:Shared) (σ:St) (H:Hp) (Q:List (V×V)→Hp→Prop),Inv X pins σ H s→uC GR σ H Q→
  wpAny (model X.prog X.w) X.A (evalPairs (pairTrees keys values X.env pos)) (fun vs s'=>∃ps H',Inv X pins σ H' s'∧VV ps vs∧Q ps H') X.xe s
theorem GV {X:Cx}{pos:Pos}:MK X pos [] [] []:=fun pins s σ H Q I h=>pairTrees_nil_walk ⟨[],H,I,.nil,h⟩
theorem Eu {X:Cx}{pos:Pos}{k v:Expr}{ks:List (Option Expr)}{vs:List Expr}{tk tv:TE}{GR:List (TE×TE)}(hk:PE X k tk) (hv:PE X v tv) (hr:MK X pos ks vs GR):
  MK X pos (some k :: ks) (v :: vs) ((tk,tv) :: GR):=fun pins s σ H Q I h=>
 pairTrees_cons_walk (eU (hk pins s σ H _ I h) fun u s1 ⟨x,H1,I1,rx,q1⟩=>eU (hv pins s1 σ H1 _ I1 q1) fun w2 s2 ⟨y,H2,I2,ry,q2⟩=>
  eU (hr pins s2 σ H2 _ I2 q2) fun ws s3 ⟨ps,H3,I3,rel,q3⟩=>⟨(x,y) :: ps,H3,I3,.cons ⟨rx,ry⟩ rel,q3⟩)
noncomputable def jP (kvs more:List (Key×V)):List (Key×V):=more.foldl (fun acc kv=>putK acc kv.1 kv.2) kvs
theorem KV.merge:∀{more:List (Key×V)}{rs:List (Key×Value)}{kvs:List (Key×V)}{vs:List (Key×Value)},KV more rs→KV kvs vs→KV (jP kvs more) (merged vs rs):=by
 intro more rs kvs vs r
 unfold KV at r
 induction r generalizing kvs vs with
 | nil=>intro q;exact q
 | @cons p q ps qs h t ih=>
  intro r0
  have e:KV (putK kvs p.1 p.2) (stored vs q.1 q.2):=by
   have:=r0.put p.1 h.2
   rw[←h.1];exact this
  exact ih e
theorem kC:∀(more kvs:List (Key×V)),(jP kvs more).length≤kvs.length+more.length
 | [],kvs=>by show kvs.length≤kvs.length+0;omega
 | p :: r,kvs=>by
  have h1:=kC r (putK kvs p.1 p.2)
  have h2:=nh kvs p.1 p.2
  show(jP (putK kvs p.1 p.2) r).length≤_
  rw[List.length_cons];omega
theorem uD {P:Program}{w:World}:∀{kvs:List (Key×V)}{ws:List (Value×Value)},VV (kvs.map fun kv=>(kV kv.1,kv.2)) ws→∃rs,Carries (bW P w) ws rs∧KV kvs rs
  | [],_,r=>by rw[List.map_nil] at r;cases r;exact⟨[],True.intro,.nil⟩
  | p :: kvs, _, r => by
    rw[List.map_cons] at r
    cases r with
    | @cons a b as bs h t=>
      obtain⟨rs,c,q⟩:=uD (P:=P) (w:=w) t
      obtain⟨b1,b2⟩:=b
      exact⟨(p.1,b2) :: rs,⟨uB h.1,rfl,c⟩,.cons ⟨rfl,h.2⟩ q⟩
noncomputable def ML (GR:List (TE×TE)):TE:=fun σ H Q=>∀p,H p=none→uC GR σ (upd H p (.dK [])) fun ps H2=>H2 p=some (.dK [])∧∃kvs:List (Key×V),ps=kvs.map (fun kv=>(kV kv.1,kv.2))∧kvs.length≤15∧Q (.ref p) (upd H2 p (.dK (jP [] kvs)))
theorem GW {X:Cx}{pos:Pos}{keys:List (Option Expr)}{values:List Expr}{GR:List (TE×TE)}(h:MK X pos keys values GR) (hall:keys.all (·.isSome)=true) (hl:keys.length=values.length) (h0:keys≠[])
  (Ri:keys.length≤15):PE X (.Dict keys values pos) (ML GR):=by
 intro pins s σ H Q I q
 have hn:=I.hok.fresh (Nat.le_refl s.heap.objs.size)
 have I1:=I.laid (a:=s.heap.objs.size) (o:=.dK []) (h':=s.heap.push {cls:=.type "dict",data:=.dict #[]}) (t':=s.toks) (fun _ _ q=>Heap.get?_push_of_some _ q) (Nat.le_refl _) (Et s.heap I.big)
 refine wpAny_Dict_walk (knd:=bW X.prog X.w) hall hl h0 Ri (eU (h pins _ σ _ _ I1 (q _ hn)) fun ws s2 ⟨ps,H2,I2,rel,e,kvs,ep,lk,q2⟩=>?_)
 subst ep
 obtain⟨rs,c,rk⟩:=uD (P:=X.prog) (w:=X.w) rel
 obtain⟨z,hd,W7,r0,dd⟩:=Cb I2.hok e
 cases r0
 refine⟨rs,c,dd,fun h' Gu hs=>⟨.ref s.heap.objs.size,_,?_,rfl,q2⟩⟩
 have hz:(jP [] kvs).length≤sizeLine:=by
  have h1:=kC kvs []
  rw[List.length_nil] at h1
  rw[sizeLine_eq];omega
 have he:∃q,h'.get? s.heap.objs.size=some q:=let⟨q,_,_,hq,_⟩:=Gu;⟨q,hq⟩
 exact uh I2 (by rw[e];exact True.intro) hs he (A3 hz hd (rk.merge .nil) Gu)
structure M1 (X:Cx) (o:Expr) (m:Str) (apos:Pos) (e:Expr) (cpos:Pos):Prop where
 base:attributeBase o m X.env (eval o X.env)=eval o X.env
 few:((backTo cpos (starEach [e] X.env)).all (fun x=>!x.1) && (backToKw cpos (keywordEach [] X.env)).all (fun x=>x.1.isSome)
  && decide (([e]:List Expr).length+([]:List Keyword).length+(if([]:List Keyword).isEmpty then 0 else 1) < 30))=true
 line:(apos.endLine == cpos.line)=true
 trees:backTo cpos (starEach [e] X.env)=[(false,eval e X.env)]
structure M2 (X:Cx) (o:Expr) (m:Str) (apos:Pos) (e f:Expr) (cpos:Pos):Prop where
 base:attributeBase o m X.env (eval o X.env)=eval o X.env
 few:((backTo cpos (starEach [e,f] X.env)).all (fun x=>!x.1) && (backToKw cpos (keywordEach [] X.env)).all (fun x=>x.1.isSome)
  && decide (([e,f]:List Expr).length+([]:List Keyword).length+(if([]:List Keyword).isEmpty then 0 else 1) < 30))=true
 line:(apos.endLine == cpos.line)=true
 trees:backTo cpos (starEach [e,f] X.env)=[(false,eval e X.env),(false,eval f X.env)]
noncomputable def Ph (H:Hp) (a:Addr):Prop:=(∃kvs,Rd H a (.dK kvs))∨∃kvs,Rd H a (.dT kvs)
theorem Ew {X:Cx}{pins:List (Addr×Obj)}{σ:St}{H:Hp}{s:Shared}{a:Addr}(I:Inv X pins σ H s) (d:Ph H a):
  s.TypeIs (.ref a) "dict"∧(∀b,Value.ref a= .ref b→∃ob,s.heap.get? b=some ob∧ob.dict=none)∧(a == sysModules)=false:=by
 rcases d with⟨kvs,e⟩ | ⟨kvs,e⟩
 ·obtain⟨_,hd,vs,_,dd⟩:=wW I.hok e
  refine⟨dd.typeIs,fun b q=>?_,hd⟩
  cases q
  obtain⟨ob,_,_,h1,h2,_⟩:=dd
  exact⟨ob,h1,h2.2.1⟩
 ·obtain⟨_,hd,xs,_,dd⟩:=zu I.hok e
  refine⟨dd.typeIs,fun b q=>?_,hd⟩
  cases q
  obtain⟨ob,_,_,h1,h2,_⟩:=dd
  exact⟨ob,h1,h2.2.1⟩
section
variable {X:Cx}{pins:List (Addr×Obj)}{σ:St}{H:Hp}{s:Shared}{a:Addr}{y d:V}{u r:Value}{o:Option V}{A:Around}{E:Value→Shared→Prop}
theorem J4 {Q:Value→Shared→Prop}(hu:A.units+1 < cLine) (I:Inv X pins σ H s) (g:oJ H a y o) (ry:RelV y u) (rd:RelV d r) (h:∀w' s',Inv X pins σ H s'→RelV (o.getD d) w'→Q w' s'):
  wpAny (model X.prog X.w) A (call (.builtin "dict.get") [.ref a,u,r]) Q E s:=by
 rcases g with⟨kvs,k,e,ey,l⟩ | ⟨kvs,k,b,e,ey,eb,l⟩
 ·subst ey
  obtain⟨z,hd,vs,rel,dd⟩:=wW I.hok e
  refine call_meetsIn PySem.F.slot_dict_get dd.typeIs PySem.F.entry_dict_get (PySem.F.args_dict_get_3 _ _ _) (meets_dict_get_default (bW X.prog X.w) a (uB ry) hd r) ⟨_,dd.mapOf,h _ _ (I.tok _) ?_⟩
  rw[l]
  exact(rel.val k).getD rd
 ·subst ey
  cases(show u=Value.ref b from ry)
  obtain⟨z,hd,xs,rel,dd⟩:=zu I.hok e
  refine call_meetsIn PySem.F.slot_dict_get dd.typeIs PySem.F.entry_dict_get (PySem.F.args_dict_get_3 _ _ _) (meetsH_dict_get_default (tupleKind (bW X.prog X.w)) a b hd r) ⟨tupleKind_room_in1 hu,k,xs,xV I.hok eb,dd,h _ _ (I.tok _) ?_⟩
  rw[l]
  exact(rel.val k).getD rd
end
noncomputable def J5 (td ty tx:TE):TE:=fun σ H Q=>td σ H fun x H1=>∃a,x= .ref a∧Ph H1 a∧ty σ H1 fun y H2=>tx σ H2 fun z H3=>∃o,oJ H3 a y o∧Q (o.getD z) H3
section
variable {X:Cx}{o e f:Expr}{apos cpos:Pos}{td ty tx:TE}
theorem Ex (hu:X.A.units+1 < cLine) (ho:PE X o td) (he:PE X e ty) (hf:PE X f tx) (m:M2 X o "get" apos e f cpos):PE X (.Call (.Attribute o "get" apos) [e,f] [] cpos) (J5 td ty tx):=by
 intro pins s σ H Q I h
 refine wpAny_Call_method m.base m.few m.line PySem.F.plainAttrs_dict PySem.F.slot_dict_get PySem.F.type_dict_get (eU (ho pins s σ H _ I h) fun u s1 ⟨x,H1,I1,rx,a,ex,d,q1⟩=>?_)
 subst ex
 obtain rfl:u=Value.ref a:=rx
 obtain⟨t1,t2,_⟩:=Ew I1 d
 refine⟨t1,t2,?_⟩
 rw[m.trees]
 refine Calls.callWith_builtin rfl (Calls.evalArgs_plain (Calls.spliced_cons (eU (he pins s1 σ H1 _ I1 q1) fun iv s2 ⟨y,H2,I2,ry,q2⟩=>
  Calls.spliced_cons (eU (hf pins s2 σ H2 _ I2 q2) fun fv s3 ⟨z,H3,I3,rz,ov,g,q3⟩=>Calls.spliced_nil ?_))))
 exact J4 hu I3 g ry rz fun w' s4 I4 rw'=>⟨_,H3,I4,rw',q3⟩
end
section
variable {X:Cx}{pins:List (Addr×Obj)}{σ:St}{H:Hp}{s:Shared}{a:Addr}{kvs:List (Key×V)}{A:Around}{E:Value→Shared→Prop}
end
section
variable {X:Cx}{pins:List (Addr×Obj)}{σ:St}{H:Hp}{s:Shared}{a:Addr}{y:V}{u:Value}{A:Around}{E:Value→Shared→Prop}
end
end L2
namespace HT
open PySem PyProof.Rows
section
open PySem.SeqAt
open PySem.AutoSeq1 (wpAny_loadPart')
open PySem.MeetsSeq PySem.MeetsSeq2 PySem.MeetsSeq3
end
section
variable {prog:Program}{w:World}{A:Around}{E:Value→Shared→Prop}{s:Shared}
theorem GX {t b:Addr}{vs ws:List Value}{Q:Value→Shared→Prop}(ht:IsTup s.heap t vs.toArray) (hb:IsTup s.heap b ws.toArray) (hv:vs≠[])
  (h1:ws=[]→Q (.ref t) s) (h2:ws≠[]→Q (.ref s.heap.objs.size) {s with heap:=s.heap.push {cls:=.type "tuple",data:=.seq (vs++ws).toArray}})
  (hsz:vs.length+ws.length≤sizeLine):wpAny (model prog w) A (binaryOp .Add (.ref t) (.ref b)) Q E s:=by
 obtain⟨⟨cls,dd,data,sl⟩,ho,hc,n,hd⟩:=id ht
 obtain⟨⟨Rj,dd2,data2,sl2⟩,ho2,hc2,n2,hd2⟩:=id hb
 simp only at hc hd hc2 hd2
 subst hc hd hc2 hd2
 have e:vs.toArray++ws.toArray=(vs++ws).toArray:=by simp
 by_cases hw:ws=[]
 ·exact concat_meets ⟨_,ho,rfl⟩ ⟨_,ho2,rfl⟩ noFill_tuple_add seq_tuple_add PySem.F.slot_tuple_add PySem.F.entry_tuple_add (PySem.F.args_tuple_add_2 _ _)
   (tuple_addW1 t b vs.toArray ws.toArray n n2 dd dd2 sl sl2 (by simpa using hv) (by simp[hw])) ⟨ho,ho2,h1 hw⟩
 ·refine concat_meets ⟨_,ho,rfl⟩ ⟨_,ho2,rfl⟩ noFill_tuple_add seq_tuple_add PySem.F.slot_tuple_add PySem.F.entry_tuple_add (PySem.F.args_tuple_add_2 _ _)
   (tuple_addW2 t b vs.toArray ws.toArray n n2 dd dd2 sl sl2 (by simpa using hv) (by simpa using hw) (by rw[List.size_toArray,List.size_toArray];exact hsz)) ⟨ho,ho2,?_⟩
  rw[e]
  exact h2 hw
noncomputable def fP (n d:Nat):Option Int→Nat
 | none=>d
 | some v=>if v < 0 then(v+(n:Int)).toNat else min v.toNat n
theorem zy (n d:Nat):fP n d none=d:=rfl
theorem xW (n d k:Nat):fP n d (some (k:Int))=min k n:=by
 show(if(k:Int) < 0 then((k:Int)+(n:Int)).toNat else min (k:Int).toNat n)=min k n
 rw[if_neg (by omega),Int.toNat_natCast]
theorem J6 (n d:Nat) (hd:d≤n) (o:Option Int):fP n d o≤n:=by
 cases o with
 | none=>exact hd
 | some v=>
  show(if v < 0 then(v+(n:Int)).toNat else min v.toNat n)≤n
  by_cases hv:v < 0
  ·rw[if_pos hv];omega
  ·rw[if_neg hv];exact Nat.min_le_right _ _
theorem Cf (v:Int) (n d:Nat):(if v < 0 then max (v+(n:Int)) 0 else min v (n:Int))=((fP n d (some v):Nat):Int):=by
 show(if v < 0 then max (v+(n:Int)) 0 else min v (n:Int))=(((if v < 0 then(v+(n:Int)).toNat else min v.toNat n):Nat):Int)
 by_cases hv:v < 0
 ·simp only[if_pos hv];omega
 ·simp only[if_neg hv];omega
theorem A4 (lo hi:Option Int) (n:Nat):Builtin.Slice.sliceAdjust lo hi 1 (n:Int)=(((fP n 0 lo:Nat):Int),((fP n n hi:Nat):Int)):=by
 have h1:¬((1:Int) < 0):=by omega
 unfold Builtin.Slice.sliceAdjust
 simp only[h1,if_false]
 refine Prod.ext ?_ ?_
 ·cases lo with
  | none=>rfl
  | some v=>exact Cf v n 0
 ·cases hi with
  | none=>rfl
  | some v=>exact Cf v n n
theorem A5 (i j:Nat):Builtin.Slice.slicePlaces (i:Int) (j:Int) 1=j - i:=by
 unfold Builtin.Slice.slicePlaces
 have h1:(1:Int) > 0:=by omega
 simp only[h1,if_true,Int.ediv_one]
 split <;> omega
theorem o9 {v:Value}{o:Option Int}{Q:Option Int→Shared→Prop}(p:IsPart v o) (h:Q o s):wpAny (model prog w) A (Builtin.Slice.slicePartIndex v) Q E s:=by
 cases p with
 | none=>exact slicePart_none h
 | int i t=>exact slicePart_int h
theorem lq {sl:Addr}{vl vu:Value}{lo hi:Option Int}{n:Nat}{Q:Int×Int×Nat→Shared→Prop}(hs:s.heap.IsSliceOf sl vl vu .none) (pl:IsPart vl lo) (pu:IsPart vu hi)
  (h:Q (((fP n 0 lo:Nat):Int),1,fP n n hi - fP n 0 lo) s):wpAny (model prog w) A (Builtin.Slice.sliceApplied (.ref sl) (pure (n:Int))) Q E s:=by
 obtain⟨os,hos,hcs,hds⟩:=id hs
 unfold Builtin.Slice.sliceApplied Builtin.Slice.sliceFields
 refine wpAny_bind (wpAny_bind (wpAny_field hos hds (x:=vl) rfl (wpAny_bind (wpAny_field hos hds (x:=vu) rfl (wpAny_bind (wpAny_field hos hds (x:=.none) rfl (wpAny_pure ?_)))))))
 refine wpAny_bind (slicePart_none ?_)
 show wpAny _ _ (if((1:Int) == 0)=true then _ else _) _ _ s
 rw[if_neg (by decide)]
 refine wpAny_bind (o9 pl (wpAny_bind (o9 pu (wpAny_bind (wpAny_pure ?_)))))
 show wpAny _ _ (match Builtin.Slice.sliceAdjust lo hi 1 (n:Int) with | (lo,hi)=>pure (lo,(1:Int),Builtin.Slice.slicePlaces lo hi 1)) _ _ s
 rw[A4 lo hi n]
 show wpAny _ _ (pure (((fP n 0 lo:Nat):Int),(1:Int),Builtin.Slice.slicePlaces ((fP n 0 lo:Nat):Int) ((fP n n hi:Nat):Int) 1)) _ _ s
 rw[A5]
 exact wpAny_pure h
theorem Ey (xs:Array Value) (i k:Nat):((List.range k).filterMap fun(m:Nat)=>xs[((i:Int)+(m:Int) * 1).toNat]?).toArray=((xs.toList.drop i).take k).toArray:=by
 have e:(fun(m:Nat)=>xs[((i:Int)+(m:Int) * 1).toNat]?)=fun m=>xs[i+m]?:=by
  funext m
  have:((i:Int)+(m:Int) * 1).toNat=i+m:=by omega
  rw[this]
 rw[e]
 have:=pick_run xs i k
 rw[List.filterMap_map] at this
 have e2:((fun x=>xs[x]?) ∘ fun x=>i+x)=fun m=>xs[i+m]?:=rfl
 rw[e2] at this
 rw[this]
theorem pX {t sl:Addr}{items:Array Value}{vl vu:Value}{lo hi:Option Int}{Q:Value→Shared→Prop}(ht:IsTup s.heap t items) (hs:s.heap.IsSliceOf sl vl vu .none) (pl:IsPart vl lo) (pu:IsPart vu hi)
  (hw:¬(fP items.size 0 lo=0∧fP items.size items.size hi=items.size))
  (h:Q (.ref s.heap.objs.size) {s with heap:=s.heap.push {cls:=.type "tuple",data:=.seq ((items.toList.drop (fP items.size 0 lo)).take (fP items.size items.size hi - fP items.size 0 lo)).toArray}})
  (hsz:items.size≤sizeLine):wpAny (model prog w) A (getItem (.ref t) (.ref sl)) Q E s:=by
 have pY:sizeOk (.seq ((items.toList.drop (fP items.size 0 lo)).take (fP items.size items.size hi - fP items.size 0 lo)).toArray):=by
  show((items.toList.drop (fP items.size 0 lo)).take (fP items.size items.size hi - fP items.size 0 lo)).toArray.size≤sizeLine
  rw[List.size_toArray,List.length_take,List.length_drop,Array.length_toList]
  omega
 have hj:fP items.size items.size hi≤items.size:=J6 _ _ (Nat.le_refl _) hi
 obtain⟨os,hos,hcs,hds⟩:=id hs
 have MM:s.TypeIs (.ref sl) "slice":=⟨os,hos,hcs⟩
 unfold getItem
 try with_reducible refine wpAny_holding ?_
 first | refine wpAny_bind (wpAny_pure ?_) | skip
 refine wpAny_bind (wpAny_sequenceKey ht.typeIs (by decide) ?_)
 refine wpAny_bind (wpAny_callSpecial?_slot (name:=Str.ofString "__getitem__") ht.typeIs PyProof.Rows.slot_tuple_getitem
  (wpAny_call_entry PyProof.Rows.slot_tuple_getitem ht.typeIs entry_tuple_getitem ?_ (args_tuple_getitem _ _)))
 show wpAny _ _ (Builtin.Tuple.tupleItemsOf (.ref t) >>= _) _ _ s
 refine wpAny_bind (tupleItemsOf_ ht ?_)
 refine wpAny_bind (wpAny_typeOf MM ?_)
 rw[if_pos (by decide)]
 refine wpAny_bind (lq hs pl pu ?_)
 have hno:¬((((fP items.size 0 lo:Nat):Int) == 0 && (1:Int) == 1 && (fP items.size items.size hi - fP items.size 0 lo) == items.size)=true):=by
  intro q
  rw[Bool.and_eq_true,Bool.and_eq_true] at q
  have q1:((fP items.size 0 lo:Nat):Int)=0:=eq_of_beq q.1.1
  have q2:fP items.size items.size hi - fP items.size 0 lo=items.size:=eq_of_beq q.2
  exact hw ⟨by omega,by omega⟩
 show wpAny _ _ (if(((fP items.size 0 lo:Nat):Int) == 0 && (1:Int) == 1 && (fP items.size items.size hi - fP items.size 0 lo) == items.size)=true then _ else _) _ _ s
 rw[if_neg hno,Ey]
 first
  | exact wpAny_bind (m:=Builtin.Tuple.tupleExact _) (wpAny_newObj_type (wpAny_pure ⟨_,rfl,wpAny_pure h⟩) pY)
  | exact wpAny_bind (m:=Builtin.Tuple.tupleExact _) (wpAny_newObj_type (wpAny_bind (wpAny_pure (wpAny_pure ⟨_,rfl,wpAny_pure h⟩))) pY)
  | exact wpAny_bind (wpAny_bind (m:=Builtin.Tuple.tupleExact _) (wpAny_newObj_type (wpAny_pure (wpAny_pure ⟨_,rfl,wpAny_pure h⟩)) pY))
  | exact wpAny_bind (wpAny_bind (m:=Builtin.Tuple.tupleExact _) (wpAny_newObj_type (wpAny_pure ⟨_,rfl,wpAny_pure h⟩) pY))
end
end HT
namespace L2
open PySem PySem.Spec PyProof.Rows
noncomputable abbrev TO:=St→Hp→(Option Int→Hp→Prop)→Prop
noncomputable def PO (X:Cx) (e:Option Expr) (t:TO):Prop:=
 ∀(pins:List (Addr×Obj)) (s:Shared) (σ:St) (H:Hp) (Q:Option Int→Hp→Prop),Inv X pins σ H s→t σ H Q→
  wpAny (model X.prog X.w) X.A (evalPart e X.env) (fun u s'=>∃o H',Inv X pins σ H' s'∧IsPart u o∧Q o H') X.xe s
noncomputable def GY:TO:=fun _ H Q=>Q none H
noncomputable def IE (t:TE):TO:=fun σ H Q=>t σ H fun x H1=>∃i,x= .int i∧Q (some i) H1
section
variable {X:Cx}{e:Expr}{te:TE}{lo hi:Option Expr}{tl th:TO}{pos p2:Pos}
theorem GZ:PO X none GY:=by
 intro pins s σ H Q I h
 rw[evalPart_none]
 exact wpAny_pure ⟨none,H,I,.none,h⟩
theorem Cg (h:PE X e te):PO X (some e) (IE te):=by
 intro pins s σ H Q I hw
 rw[evalPart_some]
 refine eU (h pins s σ H _ I hw) fun u s1 ⟨x,H1,I1,r1,q1⟩=>?_
 obtain⟨i,rfl,q⟩:=q1
 obtain⟨t,rfl⟩:=r1
 exact⟨some i,H1,I1,.int i t,q⟩
noncomputable def G0 (X:Cx) (r:V→Option Int→Option Int→Hp→VK→Prop):Prop:=
 ∀(pins:List (Addr×Obj)) (s:Shared) (σ:St) (H:Hp) (x:V) (v vl vu:Value) (lo hi:Option Int) (sl:Addr) (Q:VK),Inv X pins σ H s→RelV x v→s.heap.IsSliceOf sl vl vu .none→IsPart vl lo→IsPart vu hi→r x lo hi H Q→
  ∃T id,typeLookup (.type T) "__getitem__" =pure (some (.builtin id))∧s.TypeIs v T∧wpAny (model X.prog X.w) X.A (getItem v (.ref sl)) (EP X pins σ Q) X.xe s
theorem G0.or {r r':V→Option Int→Option Int→Hp→VK→Prop}(h:G0 X r) (h':G0 X r'):G0 X (fun x lo hi H Q=>r x lo hi H Q∨r' x lo hi H Q):=by
 intro pins s σ H x v vl vu lo hi sl Q I rx hs pl pu q
 rcases q with q | q
 ·exact h pins s σ H x v vl vu lo hi sl Q I rx hs pl pu q
 ·exact h' pins s σ H x v vl vu lo hi sl Q I rx hs pl pu q
noncomputable def YF (r:V→Option Int→Option Int→Hp→VK→Prop) (te:TE) (tl th:TO):TE:=fun σ H Q=>te σ H fun x H1=>tl σ H1 fun l H2=>th σ H2 fun u H3=>r x l u H3 Q
theorem zz {r:V→Option Int→Option Int→Hp→VK→Prop}(hr:G0 X r) (he:PE X e te) (hl:PO X lo tl) (hu:PO X hi th):PE X (.Subscript e (.Slice lo hi none p2) pos) (YF r te tl th):=by
 intro pins s σ H Q I h
 refine Subscript_ (eU (he pins s σ H _ I h) fun v s1 ⟨x,H1,I1,r1,q1⟩=>?_)
 refine wpAny_Slice (eU (hl pins s1 σ H1 _ I1 q1) fun vl s2 ⟨l,H2,I2,pl,q2⟩=>eU (hu pins s2 σ H2 _ I2 q2) fun vu s3 ⟨u,H3,I3,pu,q3⟩=>?_)
 rw[evalPart_none]
 refine wpAny_pure ?_
 have I4:Inv X pins σ H3 {s3 with heap:=s3.heap.push {cls:=.type "slice",data:=.fields #[vl,vu,.none]}}:=I3.kept (t':=s3.toks) fun b ob q=>Heap.get?_push_of_some _ q
 obtain⟨T,id,hT,ht,hg⟩:=hr pins {s3 with heap:=s3.heap.push {cls:=.type "slice",data:=.fields #[vl,vu,.none]}} σ H3 x v vl vu l u s3.heap.objs.size Q I4 r1 (Heap.IsSliceOf.new ..) pl pu q3
 show wpAny (model X.prog X.w) X.A (subscriptTail e (.Slice lo hi none p2) v (.ref s3.heap.objs.size)) (EP X pins σ Q) X.xe {s3 with heap:=s3.heap.push {cls:=.type "slice",data:=.fields #[vl,vu,.none]}}
 exact tail_any (ops:=[.ref s3.heap.objs.size,v]) ht hT hg (by with_unfolding_all rfl)
noncomputable def v8 (xs:List V) (lo hi:Option Int):List V:=(xs.drop (HT.fP xs.length 0 lo)).take (HT.fP xs.length xs.length hi - HT.fP xs.length 0 lo)
theorem sG (xs:List V) (lo hi:Option Int):(v8 xs lo hi).length≤xs.length:=by
 unfold v8
 rw[List.length_take,List.length_drop]
 omega
noncomputable def Rk (K:PySem.W.Frag):V→Option Int→Option Int→Hp→VK→Prop:=fun x lo hi H Q=>∃a xs,x= .ref a∧xT K H a xs∧
 ¬(HT.fP xs.length 0 lo=0∧HT.fP xs.length xs.length hi=xs.length)∧∀p,H p=none→Q (.ref p) (upd H p (.tup (v8 xs lo hi)))
theorem J7:G0 X (Rk X.K):=by
 intro pins s σ H x v vl vu lo hi sl Q I rx hs pl pu h
 obtain⟨a,xs,rfl,hx,hw,q⟩:=h
 cases rx
 obtain⟨its,r,ht,hz⟩:=I.tuple hx
 have hlen:its.toArray.size=xs.length:=by rw[List.size_toArray];exact r.length.symm
 refine⟨"tuple",_,PyProof.Rows.slot_tuple_getitem.lookup,ht.typeIs,?_⟩
 refine HT.pX ht hs pl pu (by rw[hlen];exact hw) ?_ (by rw[hlen];exact hz)
 rw[hlen]
 refine⟨.ref s.heap.objs.size,_,I.laid (t':=s.toks) (o:=.tup (v8 xs lo hi)) (fun b ob q=>Heap.get?_push_of_some _ q) (Nat.le_refl _) ?_,rfl,q _ (I.hok.fresh (Nat.le_refl _))⟩
 exact⟨Nat.le_trans (sG xs lo hi) hz,_,(r.drop (HT.fP xs.length 0 lo)).take (HT.fP xs.length xs.length hi - HT.fP xs.length 0 lo),IsTup.new _ _⟩
noncomputable def MN (K:PySem.W.Frag):R2:=fun x y H Q=>∃a b xs ys,x= .ref a∧y= .ref b∧xT K H a xs∧xT K H b ys∧xs≠[]∧xs.length+ys.length≤sizeLine∧
 (ys=[]→Q (.ref a) H)∧(ys≠[]→∀p,H p=none→Q (.ref p) (upd H p (.tup (xs++ys))))
theorem Vals.xX {xs:List V}{us:List Value}(r:Vals xs us):us=[]↔xs=[]:=by
 cases r with
 | nil=>simp
 | cons _ _=>simp
theorem G1:tM X (binaryOp .Add) (MN X.K):=by
 intro pins s σ H x y v u Q I rx ry h
 obtain⟨a,b,xs,ys,rfl,rfl,ha,hb,hx,hz,q1,q2⟩:=h
 cases rx
 cases ry
 obtain⟨its,r1,p1,_⟩:=I.tuple ha
 obtain⟨its2,r2,p2,_⟩:=I.tuple hb
 refine HT.GX p1 p2 (fun z=>hx (r1.xX.mp z)) (fun z=>⟨.ref a,H,I,rfl,q1 (r2.xX.mp z)⟩) (fun z=>?_) (by rw[←r1.length,←r2.length];exact hz)
 refine⟨.ref s.heap.objs.size,_,I.laid (t':=s.toks) (o:=.tup (xs++ys)) (fun b ob q=>Heap.get?_push_of_some _ q) (Nat.le_refl _) ?_,rfl,q2 (fun w=>z (r2.xX.mpr w)) _ (I.hok.fresh (Nat.le_refl _))⟩
 exact⟨by rw[List.length_append];exact hz,_,r1.append r2,IsTup.new _ _⟩
end
end L2
namespace L2
open PySem PySem.Spec PyProof.Rows
noncomputable def ze (n:Nat) (i:Int):Option Nat:=if 0≤i then(if i < n then some i.toNat else none) else if -(n:Int)≤i then some (i+n).toNat else none
noncomputable def iD {α:Type}(xs:List α) (i:Int):Option α:=(ze xs.length i).bind fun j=>xs[j]?
theorem Ci {n:Nat}{i:Int}{j:Nat}(h:ze n i=some j):seqIndex? i n=some j∧j < n∧-(n:Int)≤i∧i < n:=by
 unfold ze at h
 by_cases h0:0≤i
 ·rw[if_pos h0] at h
  by_cases h1:i < n
  ·rw[if_pos h1] at h
   have e:i.toNat=j:=Option.some.inj h
   exact⟨by rw[seqIndex_of h0 h1,e],by omega,by omega,h1⟩
  ·rw[if_neg h1] at h;cases h
 ·rw[if_neg h0] at h
  by_cases h1:-(n:Int)≤i
  ·rw[if_pos h1] at h
   have e:(i+n).toNat=j:=Option.some.inj h
   exact⟨by rw[seqIndex_neg (by omega) h1,e],by omega,h1,by omega⟩
  ·rw[if_neg h1] at h;cases h
theorem xY {α:Type}{xs:List α}{i:Int}{v:α}(h:iD xs i=some v):∃j,seqIndex? i xs.length=some j∧xs[j]? =some v∧j < xs.length∧-(xs.length:Int)≤i∧i < xs.length:=by
 unfold iD at h
 cases e:ze xs.length i with
 | none=>rw[e] at h;cases h
 | some j=>
  rw[e] at h
  obtain⟨h1,h2,h3,h4⟩:=Ci e
  exact⟨j,h1,h,h2,h3,h4⟩
noncomputable def xZ (b:Expr):Prop:=∀o i,subscripted b false o i=operate [o,i] (getItem o i)
noncomputable def Ez (X:Cx) (r:R2):Prop:=
 ∀(value slice:Expr) (pins:List (Addr×Obj)) (s:Shared) (σ:St) (H:Hp) (x y:V) (v u:Value) (Q:VK),Inv X pins σ H s→RelV x v→RelV y u→r x y H Q→
  subscripted slice false v u=operate [v,u] (getItem v u)→wpAny (model X.prog X.w) X.A (subscriptTail value slice v u) (EP X pins σ Q) X.xe s
noncomputable def J8 (X:Cx) (id:String) (r:V→List V→Hp→VK→Prop):Prop:=
 ∀(pins:List (Addr×Obj)) (s:Shared) (σ:St) (H:Hp) (x:V) (xs:List V) (v:Value) (us:List Value) (Q:VK),Inv X pins σ H s→RelV x v→Vals xs us→r x xs H Q→
  wpAny (model X.prog X.w) X.A (call (.builtin id) (v :: us)) (EP X pins σ Q) X.xe s
section
variable {X:Cx}{a b:Expr}{ta tb:TE}{pos:Pos}
theorem Ez.or {r r':R2}(h:Ez X r) (h':Ez X r'):Ez X (fun x y H Q=>r x y H Q∨r' x y H Q):=by
 intro value slice pins s σ H x y v u Q I rx ry q hs
 rcases q with q | q
 ·exact h value slice pins s σ H x y v u Q I rx ry q hs
 ·exact h' value slice pins s σ H x y v u Q I rx ry q hs
theorem J8.or {id:String}{r r':V→List V→Hp→VK→Prop}(h:J8 X id r) (h':J8 X id r'):J8 X id (fun x xs H Q=>r x xs H Q∨r' x xs H Q):=by
 intro pins s σ H x xs v us Q I rx rs q
 rcases q with q | q
 ·exact h pins s σ H x xs v us Q I rx rs q
 ·exact h' pins s σ H x xs v us Q I rx rs q
theorem EA {r:R2}(hr:Ez X r) (ha:PE X a ta) (hb:PE X b tb) (hs:xZ b):PE X (.Subscript a b pos) (LF r ta tb):=by
 intro pins s σ H Q I h
 exact Subscript_ (JM ha hb I h fun v u s2 x y H2 I2 rx ry q=>hr a b pins s2 σ H2 x y v u Q I2 rx ry q (hs _ _))
noncomputable def MP (K:PySem.W.Frag):R2:=fun x y H Q=>∃p xs i v,x= .ref p∧y= .int i∧oH K H p xs∧iD xs i=some v∧Q v H
noncomputable def MQ (K:PySem.W.Frag):R2:=fun x y H Q=>∃p xs i v,x= .ref p∧y= .int i∧xT K H p xs∧iD xs i=some v∧Q v H
noncomputable def MR:R2:=fun x y H Q=>∃z i c,x= .str z∧y= .int i∧z.length≤sizeLine∧iD z.cps.toList i=some c∧Q (.str ⟨#[c]⟩) H
theorem Cj:Ez X (MP X.K):=by
 intro value slice pins s σ H x y v u Q I rx ry h hs
 obtain⟨p,xs,i,z,rfl,rfl,hq,he,q⟩:=h
 cases rx
 obtain⟨t,rfl⟩:=ry
 obtain⟨its,r,pl,hz⟩:=I.list hq
 obtain⟨j,h1,h2,h3,h4,h5⟩:=xY he
 obtain⟨w,ew,rw'⟩:=r.get h2
 have hl:=r.length
 have hn:=qM
 have fin:EP X pins σ Q w s:=⟨z,H,I,rw',q⟩
 by_cases h0:0≤i
 ·have hj:i.toNat=j:=by
   rw[seqIndex_of h0 h5] at h1
   exact Option.some.inj h1
  exact item_listR pl.isList h0 (by omega) (by rw[hj];simpa using ew) fin hs
 ·have hj:(i+(its.toArray.size:Int)).toNat=j:=by
   rw[seqIndex_neg (by omega) h4] at h1
   rw[List.size_toArray,←hl]
   exact Option.some.inj h1
  exact subscriptTail_builtinR (x:=w) pl.isList.typeIs slot_list_getitem.lookup
   (wpAny_getItem_list_neg (Q:=fun r s'=>r=w∧EP X pins σ Q r s') pl.isList (by omega) (by rw[List.size_toArray] <;> omega) (by omega) (by rw[hj];simpa using ew) ⟨rfl,fin⟩) hs
theorem EB:Ez X (MQ X.K):=by
 intro value slice pins s σ H x y v u Q I rx ry h hs
 obtain⟨p,xs,i,z,rfl,rfl,hq,he,q⟩:=h
 cases rx
 obtain⟨t,rfl⟩:=ry
 obtain⟨its,r,pl,hz⟩:=I.tuple hq
 obtain⟨j,h1,h2,h3,h4,h5⟩:=xY he
 obtain⟨w,ew,rw'⟩:=r.get h2
 have hl:=r.length
 have hn:=qM
 have fin:EP X pins σ Q w s:=⟨z,H,I,rw',q⟩
 exact subscriptTail_builtinR (x:=w) pl.typeIs slot_tuple_getitem.lookup
  (getItem_tuple (j:=j) (Q:=fun r s'=>r=w∧EP X pins σ Q r s') pl (by omega) (by omega) (by rw[List.size_toArray,←hl];exact h1) (by simpa using ew) ⟨rfl,fin⟩) hs
theorem EC:Ez X MR:=by
 intro value slice pins s σ H x y v u Q I rx ry h hs
 obtain⟨z,i,c,rfl,rfl,hz,he,q⟩:=h
 obtain⟨t,rfl⟩:=rx
 obtain⟨t',rfl⟩:=ry
 obtain⟨j,h1,h2,h3,h4,h5⟩:=xY he
 have hl:z.cps.toList.length=z.length:=by simp[Str.length]
 rw[hl] at h1 h4 h5
 have hn:=qM
 exact tail_any (typeIs_str s z t) slot_str_getitem.lookup (getItem_str (c:=c) (by
  have e1:decide (i < -(2 ^ 63:Int))=false:=decide_eq_false (by omega)
  have e2:decide (i≥2 ^ 63)=false:=decide_eq_false (by omega)
  rw[e1,e2,Bool.or_false]) (by rw[h1];simpa using h2) ⟨.str ⟨#[c]⟩,H,I.tok _,⟨_,rfl⟩,q⟩) hs
noncomputable def YG (K:PySem.W.Frag):R2:=fun x y H Q=>MP K x y H Q∨MQ K x y H Q∨MR x y H Q
theorem ED:Ez X (YG X.K):=Cj.or (EB.or EC)
theorem A6 (its:List Value) (n j:Nat) (u:Value):Obj.mapSeq (·.setIfInBounds j u) {cls:=.type "list",data:=.seq its.toArray n}={cls:=.type "list",data:=.seq (its.set j u).toArray n}:=by
 simp[Obj.mapSeq]
theorem Inv.lst {pins:List (Addr×Obj)}{σ:St}{H:Hp}{s:Shared}{p:Addr}{xs:List V}(I:Inv X pins σ H s) (h:H p=some (.lst xs)):
  ∃(its:List Value) (n:Nat),Vals xs its∧s.heap.get? p=some {cls:=.type "list",data:=.seq its.toArray n}∧xs.length≤sizeLine:=by
 obtain⟨z,its,n,r,e⟩:=I.hok p _ h
 exact⟨its,n,r,e,z⟩
theorem Inv.J9 {pins:List (Addr×Obj)}{σ:St}{H:Hp}{s:Shared}{p:Addr}{xs ys:List V}{its its':List Value}{n n':Nat}{f:Obj→Obj}(I:Inv X pins σ H s) (h:H p=some (.lst xs))
  (ho:s.heap.get? p=some {cls:=.type "list",data:=.seq its.toArray n}) (hf:f {cls:=.type "list",data:=.seq its.toArray n}={cls:=.type "list",data:=.seq its'.toArray n'}) (r:Vals ys its') (hz:ys.length≤sizeLine) (t:Nat):
  Inv X pins σ (upd H p (.lst ys)) {s with heap:=s.heap.update p f,toks:=t}:=by
 have e:(s.heap.update p f).get? p=some {cls:=.type "list",data:=.seq its'.toArray n'}:=by
  rw[Heap.get?_update_self f ho (by rw[hf] <;> rfl),hf]
 refine I.write (x:=p) (e:=p) (by rw[h];trivial) (.inl rfl) (fun b u hb q=>(Heap.get?_update_other _ _ (Ne.symm hb)).trans q) ⟨_,e⟩ ?_
 exact⟨hz,its',n',r,e⟩
noncomputable def MS:V→V→V→Hp→(Hp→Prop)→Prop:=fun o i v H Q=>∃p xs k j,o= .ref p∧i= .int k∧H p=some (.lst xs)∧ze xs.length k=some j∧Q (upd H p (.lst (xs.set j v)))
theorem set_list:Ms X MS:=by
 intro pins s σ H o i v ov iv u Q I ro ri rv h
 obtain⟨p,xs,k,j,rfl,rfl,hp,hj,q⟩:=h
 cases ro
 obtain⟨t,rfl⟩:=ri
 obtain⟨its,n,r,ho,hz⟩:=I.lst hp
 obtain⟨h1,h2,h3,h4⟩:=Ci hj
 have hl:=r.length
 have hn:=qM
 have I':Inv X pins σ (upd H p (.lst (xs.set j v))) {s with heap:=s.heap.update p (Obj.mapSeq (·.setIfInBounds j u))}:=
  I.J9 hp ho (A6 its n j u) (r.set rv j) (by rw[List.length_set];exact hz) s.toks
 by_cases h0:0≤k
 ·have hk:k.toNat=j:=by
   rw[seqIndex_of h0 h4] at h1
   exact Option.some.inj h1
  exact PySem.W.ki_setAt ho h0 (by omega) (by rw[List.size_toArray,←hl];exact h4) (by rw[hk];exact⟨_,I',q⟩)
 ·have hk:(k+(its.toArray.size:Int)).toNat=j:=by
   rw[seqIndex_neg (by omega) h3] at h1
   rw[List.size_toArray,←hl]
   exact Option.some.inj h1
  exact PySem.W.ki_setBack ho (by omega) (by rw[List.size_toArray,←hl];exact h3) (by omega) (by rw[hk];exact⟨_,I',q⟩)
theorem ya (lo hi:Option Int) (n:Nat):(sliceBounds lo hi none n).1=((HT.fP n 0 lo:Nat):Int)∧(sliceBounds lo hi none n).2.1=((HT.fP n n hi:Nat):Int)∧(sliceBounds lo hi none n).2.2=1:=by
 refine⟨?_,?_,rfl⟩
 ·cases lo with
  | none=>simp[sliceBounds,HT.fP]
  | some i=>
   simp only[sliceBounds,HT.fP,Option.getD_none,show(1:Int) > 0 by decide,if_true]
   by_cases h:i < 0
   ·simp only[h,if_true] <;> omega
   ·simp only[h,if_false] <;> omega
 ·cases hi with
  | none=>simp[sliceBounds,HT.fP]
  | some i=>
   simp only[sliceBounds,HT.fP,Option.getD_none,show(1:Int) > 0 by decide,if_true]
   by_cases h:i < 0
   ·simp only[h,if_true] <;> omega
   ·simp only[h,if_false] <;> omega
theorem v9 (its:List Value) (lo hi:Option Int):slicePick its.toArray lo hi none=((its.drop (HT.fP its.length 0 lo)).take (HT.fP its.length its.length hi - HT.fP its.length 0 lo)).toArray:=by
 obtain⟨h1,h2,h3⟩:=ya lo hi its.toArray.size
 unfold slicePick
 rw[h1,h2,h3]
 simp only[sliceRange_one,pick_run,List.size_toArray] <;> rfl
noncomputable def Rl (K:PySem.W.Frag):V→Option Int→Option Int→Hp→VK→Prop:=fun x lo hi H Q=>∃a xs,x= .ref a∧oH K H a xs∧∀p,H p=none→Q (.ref p) (upd H p (.lst (v8 xs lo hi)))
theorem Ck:G0 X (Rl X.K):=by
 intro pins s σ H x v vl vu lo hi sl Q I rx hs pl pu h
 obtain⟨a,xs,rfl,hx,q⟩:=h
 cases rx
 obtain⟨its,r,ht,hz⟩:=I.list hx
 have hlen:=r.length
 refine⟨"list",_,slot_list_getitem.lookup,ht.isList.typeIs,?_⟩
 refine wpAny_getItem_list_slice ht.isList hs pl pu .none (by simp) ?_ (by rw[List.size_toArray] <;> omega)
 rw[v9,←hlen]
 refine⟨.ref s.heap.objs.size,_,I.laid (t':=s.toks) (o:=.lst (v8 xs lo hi)) (fun b ob q=>Heap.get?_push_of_some _ q) (Nat.le_refl _) ?_,rfl,q _ (I.hok.fresh (Nat.le_refl _))⟩
 exact⟨Nat.le_trans (sG xs lo hi) hz,_,0,(r.drop (HT.fP xs.length 0 lo)).take (HT.fP xs.length xs.length hi - HT.fP xs.length 0 lo),Heap.get?_push_size _ rfl⟩
theorem lZ:gq X (.builtin "len") (fun xs H Q=>∃p ys,xs=[.ref p]∧(oH X.K H p ys∨xT X.K H p ys)∧Q (.int ys.length) H):=by
 intro pins s σ H xs us Q I r h
 obtain⟨p,ys,rfl,hq,q⟩:=h
 obtain⟨u,rfl,rx⟩:=vals1 r
 cases rx
 have hn:=qM
 rcases hq with hq | hq
 ·obtain⟨its,r',pl,hz⟩:=I.list hq
  have hlen:=r'.length
  exact Calls.call_len_list pl.isList (by simp only[List.size_toArray] <;> omega) ⟨.int ys.length,H,I.tok _,⟨s.toks+1,by rw[List.size_toArray,hlen]⟩,q⟩
 ·obtain⟨its,r',pl,hz⟩:=I.tuple hq
  have hlen:=r'.length
  exact len_tuple pl (by simp only[List.size_toArray] <;> omega) ⟨.int ys.length,H,I.tok _,⟨s.toks+1,by rw[List.size_toArray,hlen]⟩,q⟩
theorem pZ:gq X (.builtin "len") (fun xs H Q=>∃z,xs=[.str z]∧z.length≤sizeLine∧Q (.int z.length) H):=by
 intro pins s σ H xs us Q I r h
 obtain⟨z,rfl,hz,q⟩:=h
 obtain⟨u,rfl,t,rfl⟩:=vals1 r
 have hn:=qM
 exact len_str (by omega) ⟨.int z.length,H,I.tok _,⟨_,rfl⟩,q⟩
theorem gq.or {f:Value}{r r':List V→Hp→VK→Prop}(h:gq X f r) (h':gq X f r'):gq X f (fun xs H Q=>r xs H Q∨r' xs H Q):=by
 intro pins s σ H xs us Q I rs q
 rcases q with q | q
 ·exact h pins s σ H xs us Q I rs q
 ·exact h' pins s σ H xs us Q I rs q
theorem p5:gq X (.type "list") (fun xs H Q=>∃p ys,xs=[.ref p]∧(oH X.K H p ys∨xT X.K H p ys)∧∀l,H l=none→Q (.ref l) (upd H l (.lst ys))):=by
 intro pins s σ H xs us Q I r h
 obtain⟨p,ys,rfl,hq,q⟩:=h
 obtain⟨u,rfl,rx⟩:=vals1 r
 cases rx
 have fin:∀(its:List Value),Vals ys its→ys.length≤sizeLine→∀(h':Heap) (c':Nat),(∀b o',s.heap.get? b=some o'→h'.get? b=some o')→
   h'.get? s.heap.objs.size=some {cls:=.type "list",dict:=none,data:=.seq its.toArray c',slots:=#[]}→EP X pins σ Q (.ref s.heap.objs.size) {s with heap:=h'}:=fun its r' hz h' c' kp e=>
  ⟨.ref s.heap.objs.size,_,I.laid (t':=s.toks) kp (Nat.le_refl _) (show fM X.prog X.w _ h' _ (.lst ys) from⟨hz,its,c',r',e⟩),rfl,q _ (I.hok.fresh (Nat.le_refl _))⟩
 rcases hq with hq | hq
 ·obtain⟨its,r',pl,hz⟩:=I.list hq
  have hlen:=r'.length
  obtain⟨o,ho,hc,n,hd⟩:=pl.isList
  exact call_list_seq p (.inl rfl) ho hc hd (fun h' c' kp e=>fin its r' hz h' c' kp e) (by simp only[List.size_toArray] <;> omega)
 ·obtain⟨its,r',pl,hz⟩:=I.tuple hq
  have hlen:=r'.length
  obtain⟨o,ho,hc,n,hd⟩:=pl
  exact call_list_seq p (.inr rfl) ho hc hd (fun h' c' kp e=>fin its r' hz h' c' kp e) (by simp only[List.size_toArray] <;> omega)
theorem oR:gq X (.type "tuple") (fun xs H Q=>∃p ys,xs=[.ref p]∧((oH X.K H p ys∧∀l,H l=none→Q (.ref l) (upd H l (.tup ys)))∨(xT X.K H p ys∧Q (.ref p) H))):=by
 intro pins s σ H xs us Q I r h
 obtain⟨p,ys,rfl,h⟩:=h
 obtain⟨u,rfl,rx⟩:=vals1 r
 cases rx
 rcases h with⟨hq,q⟩ | ⟨hq,q⟩
 ·obtain⟨its,r',pl,hz⟩:=I.list hq
  have hlen:=r'.length
  refine call_tuple_list pl.isList (fun h' kp=>?_) (by simp only[List.size_toArray] <;> omega)
  have I1:Inv X pins σ H {s with heap:=h'}:=I.kept (t':=s.toks) kp
  have I2:Inv X pins σ (upd H h'.objs.size (.tup ys)) {s with heap:=h'.push {cls:=.type "tuple",data:=.seq its.toArray}}:=
   I1.laid (t':=s.toks) (fun b o e=>Heap.get?_push_of_some _ e) (Nat.le_refl _) (show fM X.prog X.w _ _ _ (.tup ys) from⟨hz,its,r',IsTup.new _ _⟩)
  exact⟨.ref h'.objs.size,_,I2,rfl,q _ (I1.hok.fresh (Nat.le_refl _))⟩
 ·obtain⟨its,r',pl,hz⟩:=I.tuple hq
  exact call_tuple_same pl ⟨.ref p,H,I,rfl,q⟩
noncomputable def W8 (K:PySem.W.Frag) (T:String) (x:V) (H:Hp):Prop:=match x with
 | .str _=>T="str"
 | .int _=>T="int"
 | .ref p=>(T="list"∧∃xs,oH K H p xs)∨(T="tuple"∧∃o,K.lookup p=some o∧o.cls= .type "tuple"∧o.dict=none)∨
   (T="dict"∧((∃kvs,H p=some (.dK kvs))∨∃kvs,H p=some (.dT kvs)))∨(T="set"∧∃S n,H p=some (.set S n))
 | _=>False
theorem Ka {pins : List (Addr × Obj)} {σ : St} {H : Hp} {s : Shared} {T : String} {x : V} {v : Value} (I : Inv X pins σ H s) (r : RelV x v) (ty : W8 X.K T x H) :
    s.TypeIs v T∧∀a,v= .ref a→∃ob,s.heap.get? a=some ob∧ob.dict=none:=by
  cases x with
  | str z=>
    obtain⟨t,rfl⟩:=r
    cases(show T="str" from ty)
    exact⟨typeIs_str s z t,fun _ e=>nomatch e⟩
  | int i=>
    obtain⟨t,rfl⟩:=r
    cases(show T="int" from ty)
    exact⟨typeIs_int s i t,fun _ e=>nomatch e⟩
  | ref p =>
    cases r
    rcases ty with⟨rfl,xs,hq⟩ | ⟨rfl,o,hk,hc,hd⟩ | ⟨rfl,hk⟩ | ⟨rfl,S,n,hk⟩
    · obtain⟨its,_,pl,_⟩:=I.list hq
      refine⟨pl.isList.typeIs,fun a e=>?_⟩
      cases e
      obtain⟨o,n,e,c,hd,_⟩:=pl
      exact⟨o,e,hd⟩
    · refine⟨⟨o,I.AX p o hk,hc⟩,fun a e=>?_⟩
      cases e
      exact⟨o,I.AX _ o hk,hd⟩
    · have z:∃o,s.heap.get? p=some o∧o.ExactDict:=by
        rcases hk with⟨kvs,hk⟩ | ⟨kvs,hk⟩
        · obtain⟨_,_,_,_,o,_,_,e,ex,_⟩:=I.hok p _ hk
          exact⟨o,e,ex⟩
        · obtain⟨_,_,_,_,o,_,_,e,ex,_⟩:=I.hok p _ hk
          exact⟨o,e,ex⟩
      obtain⟨o,e,ex⟩:=z
      refine⟨⟨o,e,ex.1⟩,fun a e2=>?_⟩
      cases e2
      exact⟨o,e,ex.2.1⟩
    · obtain⟨o,_,_,_,e,ex,_⟩:=I.hok p _ hk
      refine⟨⟨o,e,ex.1⟩,fun a e2=>?_⟩
      cases e2
      exact⟨o,e,ex.2.1⟩
  | _=>exact False.elim ty
noncomputable def YH (K:PySem.W.Frag) (T:String) (r:V→List V→Hp→VK→Prop) (to:TE) (t:TA):TE:=fun σ H Q=>to σ H fun x H1=>W8 K T x H1∧t σ H1 fun xs H2=>r x xs H2 Q
variable {o e:Expr}{es:List Expr}{to:TE}{t:TA}{name:Str}{apos cpos:Pos}{T id:String}{r:V→List V→Hp→VK→Prop}
theorem MT (pa:PlainAttrs T) (slot:Slot T name id) (hty:typeOf (.builtin id)=pure (.type "method_descriptor")) (hm:J8 X id r) (ho:PE X o to) (ha:PA X (e :: es) t)
  (hbase:attributeBase o name X.env (eval o X.env)=eval o X.env:=by rfl)
  (hfew:((backTo cpos (starEach (e :: es) X.env)).all (fun x=>!x.1) && (backToKw cpos (keywordEach [] X.env)).all (fun x=>x.1.isSome)
   && decide ((e :: es).length+([]:List Keyword).length+(if([]:List Keyword).isEmpty then 0 else 1) < 30))=true:=by rfl)
  (hline:(apos.endLine == cpos.line)=true:=by rfl) (hs:starEach (e :: es) X.env=(false,eval e X.env) :: starEach es X.env:=by rfl) (hplain:(backTo cpos (starEach es X.env)).any (·.1)=false:=by rfl):
  PE X (.Call (.Attribute o name apos) (e :: es) [] cpos) (YH X.K T r to t):=by
 intro pins s σ H Q I h
 refine wpAny_Call_method_late hbase hfew hline rfl (eU (ho pins s σ H _ I h) fun v s1 ⟨x,H1,I1,r1,ty,q1⟩=>?_)
 obtain⟨h1,h2⟩:=Ka I1 r1 ty
 refine⟨T,id,pa,slot,hty,h1,h2,?_⟩
 have hA:=ha cpos pins s1 σ H1 _ I1 q1
 rw[hs] at hA ⊢
 refine Calls.callWith_builtin (by show(false || (backTo cpos (starEach es X.env)).any (·.1))=false;rw[hplain] <;> rfl) (Calls.evalArgs_plain ?_)
 exact eU hA fun us s2 ⟨vs,H2,I2,r2,q2⟩=>hm pins s2 σ H2 x vs v us Q I2 r1 r2 q2
end
end L2
namespace L2
open PySem PySem.Spec PyProof.Rows
theorem Vals.one:∀{x:V}{us:List Value},Vals [x] us→∃u,us=[u]∧RelV x u
 | _,_,.cons r .nil=>⟨_,rfl,r⟩
theorem Vals.two:∀{x y:V}{us:List Value},Vals [x,y] us→∃u v,us=[u,v]∧RelV x u∧RelV y v
 | _,_,_,.cons r (.cons q .nil)=>⟨_,_,rfl,r,q⟩
theorem Vals.reverse {xs:List V}{us:List Value}(h:Vals xs us):Vals xs.reverse us.reverse:=by
 induction h with
 | nil=>exact .nil
 | cons r t ih=>rw[List.reverse_cons,List.reverse_cons];exact Vals.append ih (.cons r .nil)
theorem Vals.rep {xs:List V}{us:List Value}(h:Vals xs us):∀k:Nat,Vals (List.replicate k xs).flatten (List.replicate k us).flatten
 | 0=>.nil
 | k+1=>by
  rw[List.replicate_succ,List.replicate_succ,List.flatten_cons,List.flatten_cons]
  exact Vals.append h (Vals.rep h k)
section
variable {X:Cx}{pins:List (Addr×Obj)}{σ:St}{H:Hp}{s:Shared}{l b:Addr}{xs ys zs:List V}
theorem Inv.Rm {its its':List Value}{n:Nat}{f:Array Value→Array Value}{t':Nat}(I:Inv X pins σ H s) (hH:H l=some (.lst xs))
  (e:s.heap.get? l=some {cls:=.type "list",data:=.seq its.toArray n}) (hf:f its.toArray=its'.toArray) (hv:Vals ys its') (hz:ys.length≤sizeLine):
  Inv X pins σ (upd H l (.lst ys)) {s with heap:=s.heap.update l (Obj.mapSeq f),toks:=t'}:=by
 have q:=PySem.IsL.update e f
 rw[hf] at q
 refine I.write (x:=l) (e:=l) (by rw[hH];exact trivial) (.inl rfl) (fun b' u hb hu=>(Heap.get?_update_other s.heap (Obj.mapSeq f) (Ne.symm hb)).trans hu) ⟨_,q⟩ ?_
 exact⟨hz,its',_,hv,q⟩
theorem Inv.Rn {its:List Value}{t':Nat}(I:Inv X pins σ H s) (hv:Vals ys its) (hz:ys.length≤sizeLine):
  Inv X pins σ (upd H s.heap.objs.size (.lst ys)) {s with heap:=s.heap.push {cls:=.type "list",data:=.seq its.toArray},toks:=t'}:=
 I.laid (fun _ _ q=>Heap.get?_push_of_some _ q) (Nat.le_refl _) ⟨hz,its,0,hv,Heap.get?_push_size _ rfl⟩
theorem Inv.fresh (I:Inv X pins σ H s):H s.heap.objs.size=none:=I.hok.fresh (Nat.le_refl _)
theorem Inv.EE (I:Inv X pins σ H s) (hH:H l=some (.lst xs)):xs.length≤sizeLine∧∃(its:List Value) (n:Nat),Vals xs its∧xs.length=its.length∧s.heap.get? l=some {cls:=.type "list",data:=.seq its.toArray n}:=by
 obtain⟨z,its,n,r,e⟩:=I.hok l _ hH
 exact⟨z,its,n,r,r.length,e⟩
theorem EF {n:Nat}(h:n≤sizeLine):Builtin.List.listTooLong n=false:=by
 unfold Builtin.List.listTooLong
 exact decide_eq_false (by omega)
end
section
variable {X:Cx}
end
section
variable {prog:Program}{w:World}{A:Around}{E:Value→Shared→Prop}{s:Shared}
end
section
variable {X:Cx}
end
end L2
namespace W9
open PySem PySem.W PySem.Calls PyProof.Rows
theorem tR {P:Params}{h:Heap}:∀(ns:List Int) (vs:List Value),WellAll P h vs (ns.map WData.int)→IntsAre vs ns:=by
 intro ns
 induction ns with
 | nil=>
  intro vs w
  rw[List.map_nil] at w
  cases w
  exact .nil
 | cons n ns ih=>
  intro vs w
  rw[List.map_cons] at w
  cases w with
  | cons a b=>
   cases a
   exact .cons _ _ (ih _ b)
theorem C3 {l:OpenLaw}{n:Nat}(hn:l.most=some n){P:Params}{h:Heap}{args:List WData}{vals:List Value}
  (hpre:l.row.toRowW.claim.pre args=true) (hwl:WellAll P h vals args):
  ∃a vs ns,vals=[Value.ref a]∧args=[WData.list (ns.map WData.int)]∧h.get? a=some {cls:=.type "list",data:=.seq vs.toArray}∧IntsAre vs ns∧ns.length≤n:=by
 have hsh:WShape.hasAll [] args [.list .int]=true:=(pre_splitW hpre).1
 have hc:l.pre.holds [] {args:=args}=true:=(pre_splitW hpre).2
 obtain⟨d,r,rfl,h1,h2⟩:=hasAllW_cons hsh
 obtain rfl:=hasAllW_nil h2
 obtain⟨xs,rfl,h3⟩:=hasW_list h1
 obtain⟨ns,rfl⟩:=items_int h3
 have hlen:ns.length≤n:=by
  unfold OpenLaw.pre at hc
  have h4:(WTm.not (.lt (.lit (.int (n:Int))) (.len (.arg 0)))).holds [] {args:=[.list (ns.map .int)]}=true:=by
   have h4:=(holds_andW hc).1
   rw[hn] at h4
   exact h4
  have h5:=condW_of h4 (w_not (w_lt w_lit (w_len_list (w_arg rfl))))
  rw[List.length_map] at h5
  refine Nat.le_of_not_lt fun q=>?_
  have q':(n:Int) < ((ns.length:Nat):Int):=by omega
  first
   | (rw[decide_eq_true q'] at h5;exact absurd h5 (by decide))
   | (simp at h5;omega)
 cases hwl with
 | cons w1 w2=>
  cases w2
  cases w1 with
  | list ho hall=>exact⟨_,_,ns,rfl,rfl,ho,tR ns _ hall,hlen⟩
theorem C4 (l:OpenLaw) (args:List WData):l.row.toRowW.claim.post args (.bool true) args=true:=
 postW_of (r:=l.row.toRowW) (X:=(true == true))
  (show WShape.has [] (.bool true) .bool=true by first | rfl | decide | simp[WShape.has,WShape.arms,WShape.armsAll])
  (show(WTm.eq .res (.lit (.bool true))).value [] {args:=args,res:=some (.bool true),after:=args}=some (.bool (true == true)) from w_eq_bool (w_res rfl) w_lit) rfl
theorem zA {l:OpenLaw}{n:Nat}{q:Program}{loose:List Str}{XP:(Str→Option Value)→Heap→Prop}{YP:World→Heap→Prop}{d:DefRec}
  (hn:l.most=some n) (hdf:d.params.defaults=[])
  (call:∀(w:World) (s₀ s₁:Shared) (mg mb:Str→Option Value) (fa:Addr) (o:Obj) (pm cd doc:Value) (a:Addr) (vs:List Value) (ns:List Int),
   Ground q loose [] XP w s₀ mg mb s₁.heap→YP w s₁.heap→
   s₁.heap.get? fa=some o→o.data= .func (docDef d.name d.params d.body d.scope pm cd doc)→s₁.heap.CodeRec cd d.name→mg d.name=some (.ref fa)→
   s₁.heap.get? a=some {cls:=.type "list",data:=.seq vs.toArray}→IntsAre vs ns→ns.length≤n→s₁.gens=#[]→
   codeAny (model l.prog w) callerA (.call (.ref fa) ⟨[.ref a],[]⟩) (fun r s'=>r= .ok (.ret (.bool true))∧OldK s₁.heap s'.heap∧s'.os=s₁.os∧AllBare s'.gens) s₁):
  WalkO q loose XP YP l.row.toRowW d [] (fun f vs=>PySem.call f vs):=by
 intro w s₀ s₁ mg mb G Y fa o pm cd doc dV kV ho hd hcd hD hmg hg args vals as hpre hlay hrd hwl hlo
 obtain rfl:dV= .none:=Dflts.none hD hdf
 obtain rfl:kV= .none:=Dflts.noKw hD
 obtain⟨a,vs,ns,rfl,rfl,hobj,hints,hlen⟩:=C3 hn hpre hwl
 refine enter_call (codeAny_mono (call w s₀ s₁ mg mb fa o pm cd doc a vs ns G Y ho (fd_plain hd) hcd hmg hobj hints hlen hg) fun r s' hq=>?_)
 obtain⟨rfl,h2,h3,h4⟩:=hq
 exact⟨.inl ⟨.bool true,.bool true,[],rfl,fun _=>rfl,.bool true,C4 l _,fun _=>⟨List.Pairwise.nil,fun _ hm=>(nomatch hm)⟩⟩,h2,h3,h4⟩
section
variable {prog:Program}{w:World}{A:Around}{E:Value→Shared→Prop}{s:Shared}{K:Frag}
end
end W9
namespace L2
open PySem PySem.Spec PyProof.Rows
theorem wX:∀{vs:List Value}{ns:List Int},IntsAre vs ns→Vals (ns.map V.int) vs
 | _,_,.nil=>.nil
 | _,_,.cons n t h=>.cons ⟨t,rfl⟩ (wX h)
noncomputable def G2 (H:Hp):Prop:=∀b,H b=none∨∃o xs,H b=some (.jE o (.lst xs))
theorem EG {P : Program} {w : World} {K : PySem.W.Frag} {mg mb : Str → Option Value} {CX : CW} {k : Nat} {fa a : Addr} {fd : FuncData} {x : Str} {sp : Sp} {s₁ : Shared} {vs : List Value} {ns : List Int}
    (KX:K.In s₁.heap) (hns:s₁.heap.Ns mainGlobals mg) (hb:s₁.heap.Ns builtinsNs mb) (YI:∀x:Str,x≠"__name__"→mb x=bootBuiltins x) (hlim:s₁.heap.NoLimit) (hg:s₁.gens=#[])
    (ha:s₁.heap.get? a=some {cls:=.type "list",data:=.seq vs.toArray}) (hi:IntsAre vs ns) (hl:ns.length≤sizeLine) (hr:jz k callerA)
    (F:∀base:Heap,K.In base→base.Ns mainGlobals mg→br P w K mg base CX k fa fd [x] sp) (hbind:∀(s:Shared) (u:Value),BindsTo s fd ⟨[u],[]⟩ [(x,u)])
    (IB:∀H:Hp,G2 H→oH K H a (ns.map V.int)→sp [.ref a] H (fun v _=>v= .bl true) fun _ _ _=>False)
    (Ro:∀H e s',CX [] H s₁ (fun _ _ _=>False) e s'→False):
    codeAny (model P w) callerA (.call (.ref fa) ⟨[.ref a],[]⟩) (fun r s'=>r= .ok (.ret (.bool true))∧OldK s₁.heap s'.heap∧s'.os=s₁.os∧AllBare s'.gens) s₁:=by
  have rv:=wX hi
  have lenV:=hi.length
  have core : ∀ H : Hp, G2 H → oH K H a (ns.map V.int) → oG P w H s₁.heap → (∀ b, H b ≠ none → b = a) → (H a ≠ none → K.lookup a = none) →
      codeAny (model P w) callerA (.call (.ref fa) ⟨[.ref a],[]⟩) (fun r s'=>r= .ok (.ret (.bool true))∧OldK s₁.heap s'.heap∧s'.os=s₁.os∧AllBare s'.gens) s₁:=by
    intro H hO hS hok hA hK
    have Cm:∀{b:Addr}{o:Obj},s₁.heap.get? b=some o→H b=none→(xQ s₁.heap H).get? b=some o:=fun e n=>Eb e n
    have ME:∀{b:Addr}{o:Obj}{es:Array DictEntry}{ep:Nat},s₁.heap.get? b=some o→o.data= .dict es ep→H b=none:=fun {b o es ep} e d=>by
      cases q:H b with
      | none=>rfl
      | some u=>
        have e':b=a:=hA b (by rw[q];simp)
        subst e'
        rw[ha] at e;cases e
        have d':Data.seq vs.toArray _=Data.dict es ep:=d
        cases d'
    have Pj:∀{b:Addr}{m:Str→Option Value},s₁.heap.Ns b m→(xQ s₁.heap H).Ns b m:=fun {b m} ⟨o,es,ep,e,d,r⟩=>⟨o,es,ep,Cm e (ME e d),d,r⟩
    have Xa:K.In (xQ s₁.heap H):=fun b o e=>Cm (KX b o e) (by
      cases q:H b with
      | none=>rfl
      | some u=>
        have e':b=a:=hA b (by rw[q];simp)
        subst e'
        rw[hK (by rw[q];simp)] at e;cases e)
    have hM:Mod K mg (xQ s₁.heap H):=⟨Xa,Pj hns,⟨mb,Pj hb,YI⟩,let⟨mc,h1,h2⟩:=hlim;⟨mc,Pj h1,h2⟩⟩
    have e0:A1 P w K mg (xQ s₁.heap H) callerA [] s₁ H:=⟨rfl,hM,fun b o e=>Gx e,Nat.le_of_eq (CO _ _),trivial,fun b hb=>absurd (show b∈([]:List Addr) from hb) (by simp),hok,.of_eq hg⟩
    refine codeAny_mono ((F _ Xa (Pj hns)).run callerA [] s₁ H ⟨[.ref a],[]⟩ [.ref a] [.ref a] _ _ hr e0 (hbind s₁ (.ref a)) (.cons rfl .nil) (IB H hO hS)) fun r s' h=>?_
    cases r with
    | error e=>exact(Ro H e s' h).elim
    | ok fl =>
      cases fl with
      | next=>exact False.elim h
      | brk=>exact False.elim h
      | cont=>exact False.elim h
      | ret u =>
        obtain⟨v,H',os,bare,un,Rp,r',q⟩:=h
        have q':v= .bl true:=q
        subst q'
        obtain rfl:u=Value.bool true:=r'
        refine⟨rfl,OldK.of_keep fun b o e=>?_,os,bare⟩
        cases q:H b with
        | none=>exact un.keep b o e q (by intro z;exact absurd (show b∈([]:List Addr) from z) (by simp)) (by simp)
        | some u=>
          rcases hO b with z | ⟨ob,xs,z⟩
          · rw[q] at z;cases z
          · have z2:=un.pS b ob _ z
            obtain⟨e1,_⟩:=hok b _ z
            obtain⟨e2,_⟩:=Rp b _ z2
            rw[e] at e1;cases e1
            exact e2
  cases hk:K.lookup a with
  | some o=>
    have e:=KX a o hk
    rw[ha] at e
    cases e
    refine core (fun _=>none) (fun _=>.inl rfl) (.inr ⟨_,vs.toArray,_,hk,rfl,rfl,rfl,by rw[List.size_toArray,lenV];exact hl,by simpa using rv⟩) (fun b u z=>by have z':(none:Option HO)=some u:=z;cases z') (fun b z=>absurd rfl z) fun z=>absurd rfl z
  | none=>
    refine core (fun b=>if b=a then some (.jE {cls:=.type "list",data:=.seq vs.toArray} (.lst (ns.map V.int))) else none) (fun b=>?_) (.inl (.inr ⟨{cls:=.type "list",data:=.seq vs.toArray},if_pos rfl⟩)) (fun b u z=>?_) (fun b z=>?_) fun _=>hk
    · by_cases hb:b=a
      · exact .inr ⟨_,_,if_pos hb⟩
      · exact .inl (if_neg hb)
    · by_cases hb:b=a
      · have z':=(if_pos hb).symm.trans z
        cases z'
        subst hb
        exact⟨ha,by rw[List.length_map];exact hl,vs,_,rv,ha⟩
      · have z':=(if_neg hb).symm.trans z
        cases z'
    · by_cases hb:b=a
      · exact hb
      · exact absurd (if_neg hb) z
end L2
namespace L2
open PySem PySem.Spec PyProof.Rows
noncomputable abbrev KOf {K:PySem.W.Frag}{h:Heap}(_:K.In h):PySem.W.Frag:=K
theorem G3 {l : PySem.W.OpenLaw} {n k : Nat} {q : Program} {loose : List Str} {XP : (Str → Option Value) → Heap → Prop} {YP : World → Heap → Prop} {d : DefRec} {K : Params → PySem.W.Frag} {CX : World → CW} {sp : World → Sp} {x : Str}
    (hn:l.most=some n) (hn2:n≤sizeLine) (hdf:d.params.defaults=[]) (hr:jz k callerA)
    (hY:∀(w:World) (h:Heap),YP w h→(K w.params).In h)
    (F:∀(w:World) (mg:Str→Option Value) (fa:Addr) (h:Heap),(K w.params).In h→h.Ns mainGlobals mg→mg d.name=some (.ref fa)→
      ∃fd:FuncData,(∀(s:Shared) (u:Value),BindsTo s fd ⟨[u],[]⟩ [(x,u)])∧
        ∀base:Heap,(K w.params).In base→base.Ns mainGlobals mg→br l.prog w (K w.params) mg base (CX w) k fa fd [x] (sp w))
    (IB:∀(w:World) (H:Hp) (a:Addr) (ns:List Int),ns.length≤n→G2 H→oH (K w.params) H a (ns.map V.int)→sp w [.ref a] H (fun v _=>v= .bl true) fun _ _ _=>False)
    (Ro:∀(w:World) (H:Hp) (s:Shared) (e:Value) (s':Shared),CX w [] H s (fun _ _ _=>False) e s'→False):
    PySem.W.WalkO q loose XP YP l.row.toRowW d [] (fun f vs=>PySem.call f vs):=by
  refine W9.zA hn hdf fun w s₀ s₁ mg mb fa o pm cd doc a vs ns G Y ho hd hcd hmg hobj hints hlen hg=>?_
  have KX:=hY w _ Y
  obtain⟨fd,hb,hF⟩:=F w mg fa _ KX G.T.g hmg
  exact EG KX G.T.g G.T.b G.T.builtins G.T.nolimit hg hobj hints (Nat.le_trans hlen hn2) hr hF hb (fun H hO hS=>IB w H a ns hlen hO hS) fun H e s'=>Ro w H s₁ e s'
end L2
namespace L2
open PySem PySem.Spec PyProof.Rows
noncomputable def bu (s:Stmt):Arguments:=match s with
 | .FunctionDef _ a _ _ _ _ _ _ _ _=>a
 | _=>{posonlyargs:=[],args:=[],vararg:=none,kwonlyargs:=[],kw_defaults:=[],kwarg:=none,defaults:=[]}
noncomputable def aZ (s:Stmt):List Stmt:=match s with
 | .FunctionDef _ _ b _ _ _ _ _ _ _=>b
 | _=>[]
noncomputable def aE (s:Stmt):Scope:=match s with
 | .FunctionDef _ _ _ _ _ _ sc _ _ _=>sc
 | _=>{kind:=.function,names:=[],isGenerator:=false,isCoroutine:=false}
noncomputable abbrev dW:CW:=fun _ _ _ _ _ _=>False
noncomputable abbrev E0:XK:=fun _ _ _=>False
theorem IF {X:Cx}:Passes dW X E0:=fun _ _ _ _ _ _ _ h=>h.elim
structure pe (K:PySem.W.Frag) (x qual:Str) (st:Stmt) (f:Addr) (fd:FuncData):Prop where
 ex:∃(oc:Value) (od:Option Addr) (kV doc pm:Value) (an:Option Addr) (cdv ct:Value) (osl:Array (Option Value)),
  fd=PySem.W.fnOf x qual (bu st) (aZ st) (aE st) .none kV doc pm an cdv ct∧K.lookup f=some ⟨oc,od,.func fd,osl⟩∧PySem.W.codeIn K cdv qual=true
 kp:PySem.W.keepIn K (.ref f)=true
section
variable {P:Program}{w:World}{K:PySem.W.Frag}{mg:Str→Option Value}{base:Heap}
theorem pe.ok {x qual:Str}{st:Stmt}{f:Addr}{fd:FuncData}{N ps:List Str}{k:Nat}{sp:Sp}(F:pe K x qual st f fd) (S:bS N ps (aE st)) (len:∀vs H Q E,sp vs H Q E→vs.length=ps.length)
  (hbody:∀(cdv:Value) (A:Around) (outer:List Env) (s:Shared) (H:Hp) (vs:List V) (Q:VK) (E:XK),jz k (A.deeper (envOfC qual (aE st) s.heap.objs.size f cdv))→sp vs H Q E→
   ∃t,AS (A2 dW P w K mg base N qual (aE st) f cdv A outer s H E).GF (aZ st) t∧t {nx:=fun _ H'=>Q .cI H',rt:=Q} (start N vs) H):br P w K mg base dW (k+1) f fd ps sp:=by
 obtain⟨oc,od,kV,doc,pm,an,cdv,ct,osl,rfl,lk,hcd⟩:=F.ex
 refine MF lk hcd S len fun A outer s H vs Q E hr IB=>?_
 obtain⟨t,h,q⟩:=hbody cdv A outer s H vs Q E hr IB
 exact⟨t,h.GF,q⟩
theorem pe.binds {x qual:Str}{st:Stmt}{f:Addr}{fd:FuncData}{ps:List Str}(F:pe K x qual st f fd)
  (h:∀(kV doc pm:Value) (an:Option Addr) (cdv ct:Value) (us:List Value),us.length=ps.length→bindArgs (PySem.W.fnOf x qual (bu st) (aZ st) (aE st) .none kV doc pm an cdv ct) ⟨us,[]⟩=pure (ps.zip us)):Binds K fd ps []:=by
 obtain⟨oc,od,kV,doc,pm,an,cdv,ct,osl,rfl,lk,hcd⟩:=F.ex
 exact .all (h kV doc pm an cdv ct)
theorem cS {x qual:Str}{st:Stmt}{f:Addr}{oc:Value}{od an:Option Addr}{osl:Array (Option Value)}{kV doc pm cdv ct:Value}(l:K.lookup f=some ⟨oc,od,.func (PySem.W.fnOf x qual (bu st) (aZ st) (aE st) .none kV doc pm an cdv ct),osl⟩)
  (c:PySem.W.codeIn K cdv qual=true) (k:PySem.W.keepIn K (.ref f)=true):pe K x qual st f (PySem.W.fnOf x qual (bu st) (aZ st) (aE st) .none kV doc pm an cdv ct):=⟨⟨oc,od,kV,doc,pm,an,cdv,ct,osl,rfl,l,c⟩,k⟩
end
theorem bB {A:Around}{k:Nat}(hr:jz k A):A.units+1 < cLine:=Nat.lt_of_le_of_lt (Nat.add_le_add_left (by decide:1≤64) _) hr.units
section
variable {X:Cx}
theorem C5:gq X (.builtin "len") (fun xs H Q=>∃a kvs,xs=[V.ref a]∧H a=some (.dK kvs)∧Q (.int kvs.length) H):=by
 intro pins s σ H xs us Q I r h
 obtain⟨a,kvs,rfl,ha,q⟩:=h
 obtain⟨u,rfl,ru⟩:=vals1 r
 cases ru
 exact MH I (.inl ha) fun t s' I'=>⟨.int kvs.length,H,I',⟨t,rfl⟩,q⟩
end
theorem C6 {A B:Prop}(h:B):if false=true then A else B:=by
 rw[if_neg Bool.false_ne_true]
 exact h
theorem C7 {A B:Prop}(h:A):if true=true then A else B:=by
 rw[if_pos rfl]
 exact h
noncomputable def uE (H H':Hp):Prop:=∀b o,H b=some o→H' b=some o
theorem uE.refl (H:Hp):uE H H:=fun _ _ h=>h
theorem uE.trans {H H1 H2:Hp}(a:uE H H1) (b:uE H1 H2):uE H H2:=fun c o h=>b c o (a c o h)
theorem uE.free {H H':Hp}(e:uE H H'){l:Addr}(h:H' l=Option.none):H l=Option.none:=by
 cases q:H l with
 | none=>rfl
 | some o=>
  rw[e l o q] at h
  cases h
theorem uE.seq {K:PySem.W.Frag}{H H':Hp}{a:Addr}{xs:List V}(e:uE H H') (h:oH K H a xs):oH K H' a xs:=by
 rcases h with(h | ⟨o,h⟩) | h
 ·exact .inl (.inl (e _ _ h))
 ·exact .inl (.inr ⟨o,e _ _ h⟩)
 ·exact .inr h
section
variable {κ:Type} [DecidableEq κ]
end
end L2
end
section
set_option Elab.async false
set_option linter.all false
set_option maxRecDepth 100000
namespace L2
open PySem PySem.Spec PyProof.Rows
theorem oG.MU {P:Program}{w:World}{H:Hp}{h:Heap}{a:Addr}{o:HO}(x:oG P w H h) (hn:H a=none) (new:fM P w (upd H a o) h a o):oG P w (upd H a o) h:=fun b u e=>by
 by_cases hb:b=a
 ·subst hb;rw[aW] at e;cases e;exact new
 ·rw[aT hb] at e
  exact(x b u e).stay (fun c v _ q=>q) (fun c q=>by rw[aT (bF q hn)];exact q) fun c xs q=>by rw[aT (bF q hn)];exact q
noncomputable def kD (X:Cx) (N':List Str) (scope:Scope) (cl:List (Str×Addr)) (C:Addr) (s:Shared) (H:Hp) (fp:List Addr):Cx:=
 {X with N:=N',s₀:=s,H₀:=H,env:=compEnvC scope cl C X.env,outer:=X.stack,stack:=X.stack,ex:=fp,fn:=fun _=>false,pn:=[],xe:=fun _ _=>False}
noncomputable def fQ (cap:List Nat) (σ:St):St:=cap.map fun i=>(σ[i]?).join
structure nZ (X:Cx) (x:Str) (d8:List Str) (cap:List Nat) (scope:Scope) (cl:List (Str×Addr)):Prop where
 clos:closureFor scope X.env=pure cl
 yc:∀y∈scope.names,y.2≠.cell
 kind:scope.kind= .function
 names:∀y∈scope.names,y.2= .local→scope.names.lookup y.1=some .local
 loc:scope.names.lookup x=some .local
 cells:∀n c,cl.lookup n=some c→X.env.cells.lookup n=some c
 has:∀n,((relabel scope X.env).names.lookup n=some .cell∨(relabel scope X.env).names.lookup n=some .free)→∃c,cl.lookup n=some c
 nd:(x :: d8).Nodup
 len:cap.length=d8.length
 slot:∀(j:Nat) n,d8[j]? =some n→∃i:Nat,cap[j]? =some i∧X.N[i]? =some n∧Ec X.env.scope n
 vis:∀n,n∈d8→((relabel scope X.env).names.lookup n=some .cell∨(relabel scope X.env).names.lookup n=some .free)∧(∃c,cl.lookup n=some c)∧X.env.scope.names.lookup n≠some .local
noncomputable def Rq (wi:TI) (cap:List Nat) (tc:TT) (te:TE):TE:=fun σ H Q=>wi σ H fun J H1=>∃W:Nat→Nat→List V→Hp→Prop,(∃m,W 0 m [] H1)∧∀i m ys H,W i m ys H→ys.length < sizeLine∧
  ((J.stop i H∧∀p,H p=none→Q (.ref p) (upd H p (.lst ys)))∨
   (J.go i H∧∀x H',J.Pe i H x H'→tc (some x :: fQ cap σ) H' fun b H2=>if b=true then te (some x :: fQ cap σ) H2 fun y H3=>∃m',m' < m∧W (i+1) m' (ys++[y]) H3 else ∃m',m' < m∧W (i+1) m' ys H2))
noncomputable def Rr:TT:=fun _ H Q=>Q true H
noncomputable def LG (X:Cx) (ifs:List Expr) (tc:TT):Prop:=
 ∀(pins:List (Addr×Obj)) (s:Shared) (σ:St) (H:Hp) (Q:Bool→Hp→Prop),Inv X pins σ H s→tc σ H Q→
  wpAny (model X.prog X.w) X.A (forIn ifs true fun c r=>if r=true then do let ok ←isTrue c X.env (eval c X.env);pure (ForInStep.yield ok) else pure (ForInStep.yield r)) (TP X pins σ Q) X.xe s
theorem G4 {X:Cx}:LG X [] Rr:=fun pins s σ H Q I h=>wpAny_tests_nil ⟨H,I,h⟩
theorem G5 {X:Cx}{c:Expr}{tc:TT}(h:PT X c tc):LG X [c] tc:=fun pins s σ H Q I q=>wpAny_tests_one (h pins s σ H Q I q)
theorem Kc (ys:List Value) (y:Value):({cls:=.type "list",data:=.seq (ys.toArray.push y) (ys.length+1)}:Obj)={cls:=.type "list",data:=.seq (ys++[y]).toArray (ys++[y]).length}:=by
 rw[List.length_append,List.length_singleton,List.push_toArray]
theorem EH {X : Cx} {pins : List (Addr × Obj)} {σ : St} {H : Hp} {s s4 : Shared} {x : Str} {d8 : List Str} {cap : List Nat} {scope : Scope} {cl : List (Str × Addr)} {C : Addr} {fp : List Addr} {m' : Str → Option Value}
    (I:Inv X pins σ H s) (T:nZ X x d8 cap scope cl) (hfp:∀b∈fp,uz X pins H b) (hfo:∀b∈fp,∃o,s.heap.get? b=some o)
    (hC:s.heap.objs.size≤C) (hns:s4.heap.Ns C m') (hos:s4.os=s.os) (hg:s4.gens=s.gens)
    (kept:∀b o,s.heap.get? b=some o→s4.heap.get? b=some o):
    Inv (kD X (x :: d8) scope cl C s H fp) [] (none :: fQ cap σ) H s4:=by
  have fr:∀b,s.heap.objs.size≤b→H b=none:=fun b hb=>I.hok.fresh hb
  refine⟨⟨I.ok.mod,T.kind,I.ok.glob,I.ok.blt,hC,fun y z c h1 h2=>I.ok.inj y z c (T.cells _ _ h1) (T.cells _ _ h2),fun y hy=>T.has y hy,fun y c h=>(by cases h),I.ok.hd,I.ok.frames,.inl rfl,fun b hb=>⟨?_,fun y c e z=>?_⟩,I.bs,Nat.le_trans I.ok.Gz I.sz,fun b o e hb=>?_,fun b hb z=>?_,I.stack,I.B8⟩,
    hos,by rw[hg];exact I.bare,Un.kept kept,⟨m',hns,fun i y v h1 h2 h3=>?_⟩,fun y c h=>?_,fr C hC,fun y c h=>I.m6 y c (T.cells _ _ h),fun p hp=>?_,I.hok.kept kept,?_⟩
  · obtain⟨o,e⟩:=hfo b hb
    exact Nat.ne_of_lt (Nat.lt_of_lt_of_le (Heap.lt_size e) hC)
  · exact(hfp b hb).2.2.2.2.1 y c (T.cells _ _ e) z
  · rcases(hfp b hb).2.2.2.1 with z | z
    · exact I.ok.Ed b o e z
    · exact absurd (Nat.lt_of_lt_of_le (Heap.lt_size e) (Nat.le_trans I.ok.Gz z)) (Nat.lt_irrefl _)
  · rcases List.mem_cons.mp (I.xR b z) with q | q
    · exact(hfp b hb).2.1 q
    · exact(hfp b hb).2.2.1 q
  · cases i with
    | zero=>cases h2
    | succ j=>
      have h1:d8[j]? =some y:=by simpa[kD] using h1
      have h2:(fQ cap σ)[j]? =some (some v):=by simpa using h2
      obtain⟨i,e1,e2,e3⟩:=T.slot j y h1
      have e4:σ[i]? =some (some v):=by
        unfold fQ at h2
        rw[List.getElem?_map,e1] at h2
        have h2:some ((σ[i]?).join)=some (some v):=h2
        have h2:=Option.some.inj h2
        cases q:σ[i]? with
        | none=>rw[q] at h2;cases h2
        | some o=>rw[q] at h2;cases h2;rfl
      obtain⟨m,hn,hl⟩:=I.loc
      obtain⟨u,r,l⟩:=hl i y v e2 e4 e3
      obtain⟨k1,⟨c,hc⟩,k3⟩:=T.vis y (List.mem_of_getElem? h1)
      refine⟨u,r,.inr ⟨k1,c,hc,?_⟩⟩
      rcases l with⟨hk,_⟩ | ⟨hk,c',hc',z⟩
      · exact absurd hk k3
      · rw[T.cells _ _ hc] at hc'
        cases hc'
        obtain⟨o,ho,hd⟩:=z
        exact⟨o,kept _ _ ho,hd⟩
  · obtain⟨v,o,ho,hd⟩:=I.cell y c (T.cells _ _ h)
    exact⟨v,o,kept _ _ ho,hd⟩
  · exact absurd (show p∈([]:List (Addr×Obj)) from hp) (by simp)
  · show(none :: fQ cap σ).length=(x :: d8).length
    simp[fQ,T.len]
end L2
end
section
set_option Elab.async false
set_option linter.all false
set_option maxRecDepth 100000
namespace L2
open PySem PySem.Spec PyProof.Rows
theorem EI {α:Type}{M:Model}{A:Around}{E E':Value→Shared→Prop}{s:Shared}{t:Sem α}{Q:Unit→Shared→Prop}{Q':α→Shared→Prop}(h:wpAny M A (pure ():Sem Unit) Q E s) (k:Q () s→wpAny M A t Q' E' s):wpAny M A t Q' E' s:=
 fun Γ p hΓ=>k (h Γ p hΓ) Γ p hΓ
theorem A7 {X:Cx}{elt iter:Expr}{ifs:List Expr}{x:Str}{px pos:Pos}{scope:Scope}{cl:List (Str×Addr)}{d8:List Str}{cap:List Nat}{wi:TI}{tc:TT}{te:TE}{pins:List (Addr×Obj)}{s:Shared}{σ:St}{H:Hp}{Q:VK}{use:Option (Value→Sem Unit)}{Qf:Value→Shared→Prop}{pos2:Pos}
    (T:nZ X x d8 cap scope cl) (hc:X.calm=true) (hi:PI X (.Name x px) iter wi)
    (ht:∀C s H fp,LG (kD X (x :: d8) scope cl C s H fp) ifs tc) (he:∀C s H fp,PE (kD X (x :: d8) scope cl C s H fp) elt te)
    (hs:∀x,foldedSetIterable iter X.env x=pure x) (I:Inv X pins σ H s) (h:Rq wi cap tc te σ H Q)
    (hend:∀(D C:Addr) (s7:Shared) (H6:Hp) (ys:List V),Inv X pins σ (upd H6 D (.lst ys)) s7→(∃m,s7.heap.Ns C m)→uz X pins (upd H6 D (.lst ys)) C→Q (.ref D) (upd H6 D (.lst ys))→compPost (model X.prog X.w) X.A X.xe use Qf (.ref D) C (.ok .next) s7):
    wpAny (model X.prog X.w) X.A (comprehension (.ListComp elt [⟨.Name x px,iter,ifs,0⟩] scope pos) scope X.env pos2 (newList []) false (eval iter X.env) use) Qf X.xe s:=by
  refine wpAny_comprehension_free (use:=use) rfl hs T.clos T.kind T.names (eU (hi pins s σ H _ I h) fun v s1 h1=>eU h1 fun itv s2 h2=>?_)
  obtain⟨it,fp,tn,J,H2,rfl,I2,Gv,st2,f2,W,⟨m0,w0⟩,turn⟩:=h2
  refine wpAny_newObj_type (wpAny_newFunctionEnv T.yc (by intro y hy;simp at hy) (fun h4 G6 EJ=>?_) T.kind)
  dsimp only at G6 EJ ⊢
  generalize Rt:s2.heap.push {cls:=.type "list",dict:=none,data:=.seq ([]:List Value).toArray}=H3 at G6 EJ ⊢
  have eC:H3.objs.size=s2.heap.objs.size+1:=by rw[←Rt,Heap.size_push]
  generalize eC':H3.objs.size=C at eC G6 EJ ⊢
  generalize eD:s2.heap.objs.size=D at eC ⊢
  have MV:C=D+1:=eC
  have hDC:D≠C:=by rw[MV];exact Nat.ne_of_lt (Nat.lt_succ_self D)
  have hC:s2.heap.objs.size≤C:=by rw[eD,MV];exact Nat.le_succ D
  have hD:s2.heap.objs.size≤D:=by rw[eD];exact Nat.le_refl D
  have kept:∀b o,s2.heap.get? b=some o→h4.get? b=some o:=fun b o e=>EJ.extBut b o (Nat.ne_of_lt (Nat.lt_of_lt_of_le (Heap.lt_size e) hC)) (Heap.get?_push_of_some _ (Rt▸Heap.get?_push_of_some _ e))
  have hacc:h4.get? D=some {cls:=.type "list",data:=.seq ([]:List Value).toArray ([]:List Value).length}:=EJ.extBut _ _ hDC (Heap.get?_push_of_some _ (Rt▸eD▸Heap.get?_push_size _ rfl))
  have Xb:∀b∈fp,∃o,s2.heap.get? b=some o:=fun b hb=>let⟨o,e,_⟩:=Gv.obj _ _ st2 b hb;⟨o,e⟩
  have hDf:D∉fp:=fun hb=>by
    obtain⟨o,e⟩:=Xb D hb
    exact absurd (Nat.lt_of_lt_of_le (Heap.lt_size e) hD) (Nat.lt_irrefl _)
  have Xc:tn 0 h4:=Gv.keep _ _ _ st2 fun b _ o e=>kept b o e
  have key : ∀ s5 : Shared, s5 = { s2 with heap := h4, toks := s2.toks + ([] : List (Str × Value)).length } →
      codeAny (model X.prog X.w) X.A (.compLoop (.ListComp elt [⟨.Name x px,iter,ifs,0⟩] scope pos) 0 (.ref it) (.ref D) (compEnvC scope cl C X.env)) (compPost (model X.prog X.w) X.A X.xe use Qf (.ref D) C) s5:=by
    rintro s5 rfl
    have I4:Inv (kD X (x :: d8) scope cl C s2 H2 fp) [] (none :: fQ cap σ) H2 {s2 with heap:=h4,toks:=s2.toks+([]:List (Str×Value)).length}:=
      EH (s4:={s2 with heap:=h4,toks:=s2.toks+([]:List (Str×Value)).length}) I2 T f2 Xb hC G6 rfl rfl kept
    generalize hY:kD X (x :: d8) scope cl C s2 H2 fp=Y at I4
    have fD:∀{H':Hp},H' D=none→uz Y [] H' D:=fun {H'} hn=>by
      subst hY
      refine⟨hn,hDC,fun z=>(List.mem_cons.mp (I2.xR D z)).elim (fun q=>absurd (Nat.lt_of_lt_of_le (q▸I2.lt) hD) (Nat.lt_irrefl _)) fun q=>I2.Mg hD q,.inr hD,fun y c e z=>?_,fun p hp=>absurd (show p∈([]:List (Addr×Obj)) from hp) (by simp)⟩
      obtain⟨v,q⟩:=I2.cell y c (T.cells _ _ e)
      exact absurd (Nat.lt_of_lt_of_le q.lt (by rw[z];exact hD)) (Nat.lt_irrefl _)
    have fF:∀{H':Hp},(∀b∈fp,H' b=none)→∀b∈fp,uz Y [] H' b:=fun {H'} hn b hb=>by
      have q:=I4.ok.QO b (by subst hY;exact hb)
      exact⟨hn b hb,fun z=>q.1 z,I4.ok.Ef b (by subst hY;exact hb),.inl (by subst hY;exact hb),fun y c e z=>q.2 y c e z,fun p hp=>absurd (show p∈([]:List (Addr×Obj)) from(by subst hY;exact hp)) (by simp)⟩
    have eA:Y.A=X.A:=by subst hY;rfl
    have eP:Y.prog=X.prog:=by subst hY;rfl
    have eW:Y.w=X.w:=by subst hY;rfl
    have eK:Y.K=X.K:=by subst hY;rfl
    have eE:Y.env=compEnvC scope cl C X.env:=by subst hY;rfl
    have eX:Y.xe=fun _ _=>False:=by subst hY;rfl
    have eN:Y.N=x :: d8:=by subst hY;rfl
    have Ru:Y.calm=true:=by subst hY;exact hc
    have YJ:LG Y ifs tc:=by subst hY;exact ht _ _ _ _
    have YK:PE Y elt te:=by subst hY;exact he _ _ _ _
    have YL:PG Y (.Name x px) (zo 0):=Ca (by rw[eN];exact T.nd) (by rw[eN];rfl) (by rw[eE];exact .inl (lookup_relabel_local T.loc)) (.inr (by rw[eE];exact lookup_relabel_local T.loc))
    have A8:∀(E':Value→Shared→Prop) (e:Value) (s':Shared),Y.xe e s'→E' e s':=fun E' e s' z=>by rw[eX] at z;exact z.elim
    refine codeAny_compLoop_tests (fun n s'=>∃i ys us H' o,Inv Y [] (o :: fQ cap σ) H' s'∧tn i s'.heap∧(∀b∈fp,H' b=none)∧H' D=none∧s'.heap.get? D=some {cls:=.type "list",data:=.seq us.toArray us.length}∧Vals ys us∧W i n ys H') ?_ m0
      ⟨0,[],[],H2,none,I4,Xc,fun b hb=>(f2 b hb).1,I2.hok.fresh hD,hacc,.nil,w0⟩
    rintro n s6 ⟨i,ys,us,H6,o6,I6,Rv,Rw,d6,a6,v6,w6⟩
    have YM:us.length=ys.length:=v6.length.symm
    obtain⟨hz,MW⟩:=turn i n ys H6 w6
    rcases MW with⟨stop,qn⟩ | ⟨go,step⟩
    · have q := Gv.done Y eP eW eK Ru i [] s6 (o6 :: fQ cap σ) H6 (notedBy (model X.prog X.w) X.A (compEnvC scope cl C X.env) fun e s' => compPost (model X.prog X.w) X.A X.xe use Qf (.ref D) C (.error e) s') I6 (fF Rw) Rv stop
      rw[eA] at q
      have Rx:=I6.pinned (fp:=[D]) (fun b hb=>by rw[List.mem_singleton.mp hb];exact fD d6) (fun b hb=>by rw[List.mem_singleton.mp hb];exact⟨_,a6,fun v z=>by cases z⟩)
      have q:=Gv.done Y eP eW eK Ru i _ s6 (o6 :: fQ cap σ) H6 (notedBy (model X.prog X.w) X.A (compEnvC scope cl C X.env) fun e s'=>compPost (model X.prog X.w) X.A X.xe use Qf (.ref D) C (.error e) s') Rx (fun b hb=>?_) Rv stop
      · rw [eA] at q
        refine eU q fun r s7 ⟨hr,I7⟩=>?_
        subst hr
        have a7:s7.heap.get? D=_:=(I7.pin (D,{cls:=.type "list",data:=.seq us.toArray us.length}) (List.mem_append_right _ (List.mem_append_right _ (gG (List.mem_singleton.mpr rfl) a6)))).1
        obtain⟨m7,Pk,_⟩:=I7.loc
        rw[eE] at Pk
        have MX:H6 D=none:=d6
        have YN:H6 C=none:=by have:=I7.free;rw[eE] at this;exact this
        have Ry:oG X.prog X.w H6 s7.heap:=by have q:=I7.hok;rw[eP,eW] at q;exact q
        have new:fM X.prog X.w (upd H6 D (.lst ys)) s7.heap D (.lst ys):=⟨Nat.le_of_lt hz,us,us.length,v6,a7⟩
        have u7:Un (frs X.stack) fp H2 H6 s2.heap s7.heap:=by have:=I7.base;subst hY;exact this
        have YO:∀b o,s2.heap.get? b=some o→b≠D:=fun b o e=>Nat.ne_of_lt (Nat.lt_of_lt_of_le (Heap.lt_size e) hD)
        have u8:Un (frs X.stack) fp H2 (upd H6 D (.lst ys)) s2.heap s7.heap:=
          ⟨u7.keep,u7.slot,fun b o e n hx=>by rw[aT (YO b o e)];exact u7.free b o e n hx,u7.there,
           fun b xs e=>by have z:=u7.tups b xs e;rw[aT (bF z MX)];exact z,fun b o u e=>by have z:=u7.pS b o u e;rw[aT (bF z MX)];exact z,
           fun b ps e=>by obtain⟨more,z⟩:=u7.qJ b ps e;exact⟨more,by rw[aT (bF z MX)];exact z⟩⟩
        have YQ:s7.os=s2.os:=by have:=I7.os;subst hY;exact this
        have I9:Inv X pins σ (upd H6 D (.lst ys)) s7:=I2.Mk (ch:=fp) YQ u8 (Ry.MU MX new) I7.bare fun b hb=>⟨(f2 b hb).2.2.2.1,(f2 b hb).2.1,(f2 b hb).2.2.2.2.1,(f2 b hb).2.2.2.2.2⟩
        exact hend D C s7 H6 ys I9 ⟨m7,Pk⟩ (I2.Ek hC (by rw[aT (Ne.symm hDC)];exact YN)) (qn D MX)
      · obtain⟨f0,f1,Rz,f3,f4,f5⟩:=fF Rw b hb
        refine⟨f0,f1,Rz,f3,f4,fun p hp z=>?_⟩
        rcases List.mem_append.mp hp with q' | q'
        · exact f5 p (List.mem_append_left _ q') z
        · rcases List.mem_append.mp q' with q' | q'
          · exact absurd q' (by simp)
          · have:=(qL q').1
            rw[List.mem_singleton.mp this] at z
            exact hDf (z▸hb)
    · have Rx:=I6.pinned (fp:=[D]) (fun b hb=>by rw[List.mem_singleton.mp hb];exact fD d6) (fun b hb=>by rw[List.mem_singleton.mp hb];exact⟨_,a6,fun v z=>by cases z⟩)
      have Xd:∀{H':Hp},(∀b∈fp,H' b=none)→∀b∈fp,uz Y ([]++o7 [D] s6.heap) H' b:=fun {H'} hn b hb=>by
        obtain⟨f0,f1,Rz,f3,f4,f5⟩:=fF hn b hb
        refine⟨f0,f1,Rz,f3,f4,fun p hp z=>?_⟩
        rcases List.mem_append.mp hp with q' | q'
        · exact f5 p (List.mem_append_left _ q') z
        · rcases List.mem_append.mp q' with q' | q'
          · exact absurd q' (by simp)
          · have:=(qL q').1
            rw[List.mem_singleton.mp this] at z
            exact hDf (z▸hb)
      have q:=Gv.item Y eP eW eK Ru i _ s6 (o6 :: fQ cap σ) H6 (notedBy (model X.prog X.w) X.A (compEnvC scope cl C X.env) fun e s'=>compPost (model X.prog X.w) X.A X.xe use Qf (.ref D) C (.error e) s') Rx (Xd Rw) Rv go
      rw[eA] at q
      refine eU q fun r s7 ⟨u,hr,h7⟩=>?_
      subst hr
      refine EI h7 fun⟨xv,H8,I8,r8,y8,RA,YR⟩=>?_
      have YS:=I8.pinned (Xd YR) (Gv.obj _ _ RA)
      have qa:=YL _ s7 (o6 :: fQ cap σ) H8 xv u _ YS r8 (show zo 0 xv (o6 :: fQ cap σ) H8 (fun σ' H'=>σ'=some xv :: fQ cap σ∧H'=H8) from⟨rfl,rfl⟩)
      rw[eP,eW,eA,eE] at qa
      refine wpAny_mono qa (fun _ s9 h9=>?_) (A8 _)
      obtain⟨σ9,H9,I9,e9,YT⟩:=h9
      subst e9 YT
      have qt:=YJ _ s9 _ _ _ I9 (step xv _ y8)
      rw[eP,eW,eA,eE] at qt
      refine wpAny_mono qt (fun ok RB h10=>?_) (A8 _)
      obtain⟨YU,Xe,IG⟩:=h10
      have back:∀{s':Shared}{H':Hp},Inv Y (([]++o7 [D] s6.heap)++o7 fp s7.heap) (some xv :: fQ cap σ) H' s'→Inv Y [] (some xv :: fQ cap σ) H' s'∧tn (i+1) s'.heap∧(∀b∈fp,H' b=none)∧H' D=none∧s'.heap.get? D=some {cls:=.type "list",data:=.seq us.toArray us.length}:=fun {s' H'} J=>by
        refine⟨J.m8.m8,Gv.keep _ _ _ RA fun b hb o e=>(J.pin (b,o) (List.mem_append_right _ (List.mem_append_right _ (gG hb e)))).1,fun b hb=>?_,?_,?_⟩
        · obtain⟨o,e,d⟩:=Gv.obj _ _ RA b hb
          exact(J.pin (b,o) (List.mem_append_right _ (List.mem_append_right _ (gG hb e)))).2.1
        · exact(J.pin (D,_) (List.mem_append_right _ (List.mem_append_left _ (List.mem_append_right _ (gG (List.mem_singleton.mpr rfl) a6))))).2.1
        · exact(J.pin (D,_) (List.mem_append_right _ (List.mem_append_left _ (List.mem_append_right _ (gG (List.mem_singleton.mpr rfl) a6))))).1
      cases ok with
      | false=>
        rw[if_neg (by decide)] at IG ⊢
        obtain⟨m',hm,YV⟩:=IG
        obtain⟨b1,b2,b3,b4,b5⟩:=back Xe
        exact⟨m',hm,i+1,ys,us,YU,some xv,b1,b2,b3,b4,b5,v6,YV⟩
      | true=>
        rw[if_pos rfl] at IG ⊢
        have qe:=YK _ RB _ _ _ Xe IG
        rw[eP,eW,eA,eE] at qe
        refine wpAny_mono qe (fun y RC h11=>?_) (A8 _)
        obtain⟨yv,Xf,YW,Pn,m',hm,YX⟩:=h11
        obtain⟨b1,b2,b3,b4,b5⟩:=back YW
        refine append_at (hsz:=by rw[List.size_toArray,YM];exact Nat.le_of_lt hz) b5 fun h12 RD RE=>?_
        have Kd:∀b o,b≠D→RC.heap.get? b=some o→h12.get? b=some o:=fun b o hb e=>RD.extBut b o hb e
        obtain⟨g0,g1,g2,g3,g4,g5⟩:=fD b4
        have YY:Inv Y [] (some xv :: fQ cap σ) Xf {RC with heap:=h12}:=b1.turned (t':=RC.toks) Kd g0 g1 g3 g4 g5
        refine⟨m',hm,i+1,ys++[yv],us++[y],Xf,some xv,YY,Gv.keep _ _ _ b2 fun b hb o e=>Kd b o (fun z=>hDf (z▸hb)) e,b3,b4,RE.trans (congrArg some (Kc us y)),v6.append (.cons Pn .nil),YX⟩
  exact codeAny_compStart_list (key _ rfl) (Gv.self _ 0 _ _ _ Xc (key _ rfl))
theorem EK {X:Cx}{elt iter:Expr}{ifs:List Expr}{x:Str}{px pos:Pos}{scope:Scope}{cl:List (Str×Addr)}{d8:List Str}{cap:List Nat}{wi:TI}{tc:TT}{te:TE}
  (T:nZ X x d8 cap scope cl) (hc:X.calm=true) (hi:PI X (.Name x px) iter wi)
  (ht:∀C s H fp,LG (kD X (x :: d8) scope cl C s H fp) ifs tc) (he:∀C s H fp,PE (kD X (x :: d8) scope cl C s H fp) elt te)
  (hs:∀x,foldedSetIterable iter X.env x=pure x:=by intro _;rfl):
  PE X (.ListComp elt [⟨.Name x px,iter,ifs,0⟩] scope pos) (Rq wi cap tc te):=by
 intro pins s σ H Q I h
 rw[eval_ListComp]
 refine A7 T hc hi ht he hs I h ?_
 rintro p C s7 H6 ys I9 ⟨m7,Pk⟩ ⟨g0,g1,g2,g3,g4,g5⟩ q
 exact⟨m7,Pk,fun h' hs'=>⟨.ref p,_,I9.turned (t':=s7.toks) (fun b o hb e=>hs'.extBut b o hb e) g0 g1 g3 g4 g5,rfl,q⟩⟩
end L2
end
section
set_option Elab.async false
set_option linter.all false
set_option maxRecDepth 100000
namespace L2
open PySem PySem.Spec PyProof.Rows
noncomputable def RG (z:Str):It:=⟨fun i _=>i < z.cps.size,fun i H x H'=>H'=H∧∃c,z.cps[i]? =some c∧x= .str ⟨#[c]⟩,fun i _=>z.cps.size≤i⟩
theorem EL {P:Program}{w:World}{K:PySem.W.Frag}{x:Str}{px:Pos}(z:Str) (it:Addr) (t:Tok) (ty:String) (hW:∀A':Around,A'.handled=none→Walks P w A' it [it] [it] z.cps.size (SignAt z) fun i h=>h.IsStrIter it ty z t i)
  (hself:∀(A:Around) (i:Nat) (s:Shared) (Q:Value→Shared→Prop) (E:Value→Shared→Prop),s.heap.IsStrIter it ty z t i→Q (.ref it) s→wpAny (model P w) A (pyIter (.ref it)) Q E s):
  Turn P w K (.Name x px) (RG z) [it] it (fun i h=>i≤z.cps.size∧h.IsStrIter it ty z t i) where
 mem:=by simp
 obj:=fun i h st b hb=>by
  obtain rfl:b=it:=by simpa using hb
  obtain⟨o,e,c,d⟩:=st.2
  exact⟨o,e,fun v q=>by rw[d] at q;cases q⟩
 keep:=fun i h h' st k=>by
  obtain⟨o,e,r⟩:=st.2
  exact⟨st.1,o,k it (by simp) o e,r⟩
 item:=by
  intro X hP hw hK hc i pins s σ H E I hf st hg
  subst hP hw hK
  obtain⟨f0,f1,f2,f3,f4,f5⟩:=hf it (by simp)
  refine(hW X.A (I.ok.hd hc)).item i s _ _ hg st.2 fun v h' tk hv st' kk=>?_
  obtain⟨c,u,hc',rfl⟩:=hv
  exact⟨_,rfl,wpAny_pure ⟨.str ⟨#[c]⟩,H,I.turned (fun b o hb e=>kk b o (by simpa using hb) e) f0 f1 f3 f4 f5,⟨u,rfl⟩,⟨rfl,c,hc',rfl⟩,⟨hg,st'⟩,fun b hb=>(hf b hb).1⟩⟩
 done:=by
  intro X hP hw hK hc i pins s σ H E I hf st hg
  subst hP hw hK
  obtain⟨f0,f1,f2,f3,f4,f5⟩:=hf it (by simp)
  obtain⟨s1,s2⟩:=st
  have e:i=z.cps.size:=Nat.le_antisymm s1 hg
  subst e
  exact(hW X.A (I.ok.hd hc)).done s _ _ s2 fun h' tk kk=>⟨rfl,I.turned (fun b o hb e=>kk b o (by simpa using hb) e) f0 f1 f3 f4 f5⟩
 self:=fun A i s Q E st h=>hself A i s Q E st.2 h
noncomputable def RH (tl:TE):TI:=fun σ H R=>tl σ H fun x H1=>∃z,x= .str z∧R (RG z) H1
theorem Ke {X:Cx}{x:Str}{px:Pos}{l:Expr}{tl:TE}(hl:PE X l tl):PI X (.Name x px) l (RH tl):=by
 intro pins s σ H R I h
 refine eU (hl pins s σ H _ I h) fun v s1 ⟨y,H1,I1,r1,q1⟩=>?_
 obtain⟨z,rfl,q⟩:=q1
 obtain⟨t,rfl⟩:=r1
 refine wpAny_pyIter_strU ?_
 have hst:∀ty,strIterType z=ty→(s1.heap.push {cls:=.type (strIterType z),data:=.fields #[.str z t,.int 0 0]}).IsStrIter s1.heap.objs.size ty z t 0:=fun ty e=>⟨_,Heap.get?_push_size _ rfl,by rw[←e],rfl⟩
 have go:∀ty,strIterType z=ty→(∀A':Around,A'.handled=none→Walks X.prog X.w A' s1.heap.objs.size [s1.heap.objs.size] [s1.heap.objs.size] z.cps.size (SignAt z) fun i h=>h.IsStrIter s1.heap.objs.size ty z t i)→
   (∀(A:Around) (i:Nat) (s:Shared) (Q:Value→Shared→Prop) (E:Value→Shared→Prop),s.heap.IsStrIter s1.heap.objs.size ty z t i→Q (.ref s1.heap.objs.size) s→wpAny (model X.prog X.w) A (pyIter (.ref s1.heap.objs.size)) Q E s)→
   Q4 X pins σ (.Name x px) R (.ref s1.heap.objs.size) {s1 with heap:=s1.heap.push {cls:=.type (strIterType z),data:=.fields #[.str z t,.int 0 0]}}:=fun ty e hW hself=>by
  refine⟨s1.heap.objs.size,[s1.heap.objs.size],_,_,H1,rfl,I1.kept (t':=s1.toks) fun b o e=>Heap.get?_push_of_some _ e,EL z _ t ty hW hself,⟨Nat.zero_le _,hst ty e⟩,fun b hb=>?_,q⟩
  obtain rfl:b=s1.heap.objs.size:=by simpa using hb
  exact I1.Ek (Nat.le_refl _) (I1.hok.fresh (Nat.le_refl _))
 cases ha:z.cps.all (· < 128)
 ·exact go "str_iterator" (by simp[strIterType,ha]) (fun A' hA=>Walks.strWide hA _ z t) fun A i s Q E st h=>wpAny_pyIter_striter_wide st h
 ·exact go "str_ascii_iterator" (by simp[strIterType,ha]) (fun A' hA=>Walks.strAscii hA _ z t) fun A i s Q E st h=>wpAny_pyIter_striter_ascii st h
theorem EM {bs:List Bool}:∀{us:List Value},Vals (bs.map V.bl) us→us=bs.map Value.bool:=by
 induction bs with
 | nil=>intro us r;cases r;rfl
 | cons b bs ih=>
  intro us r
  cases r with
  | cons r1 r2=>
   cases r1
   rw[ih r2]
   rfl
theorem A9 (bs:List Bool):((List.range bs.length).all fun i=>(bs[i]?).getD true)=bs.all id:=by
 rw[Bool.eq_iff_iff,List.all_eq_true,List.all_eq_true]
 constructor
 ·intro h b hb
  obtain⟨i,hi,rfl⟩:=List.mem_iff_getElem.mp hb
  have:=h i (List.mem_range.mpr hi)
  simpa[hi] using this
 ·intro h i hi
  have hi:=List.mem_range.mp hi
  simp only[List.getElem?_eq_getElem hi,Option.getD_some]
  exact h _ (List.getElem_mem hi)
theorem C8 {X:Cx}(hc:X.calm=true):gq X (.builtin "all") (fun xs H Q=>∃(p:Addr) (bs:List Bool),xs=[.ref p]∧oH X.K H p (bs.map V.bl)∧Q (.bl (bs.all id)) H):=by
 intro pins s σ H xs us Q I r h
 obtain⟨p,bs,rfl,hp,q⟩:=h
 obtain⟨u,rfl,ru⟩:=vals1 r
 cases ru
 obtain⟨its,rv,pl,hz⟩:=I.list hp
 obtain rfl:=EM rv
 have hlt:p < s.heap.objs.size:=by obtain⟨_,e,_⟩:=pl.isList;exact Heap.lt_size e
 refine call_all_walk (wpAny_pyIter_list pl.isList ?_)
 refine⟨s.heap.objs.size,[s.heap.objs.size,p],[s.heap.objs.size],_,_,_,fun i=>(bs[i]?).getD true,rfl,Walks.list (A:=X.A.in1) (I.ok.hd hc) _ p (Nat.ne_of_lt hlt) _,
  ⟨⟨_,Heap.get?_push_size _ rfl,rfl,rfl⟩,pl.isList.push _⟩,fun i v s' Q' E' hP hQ=>?_,fun h' tk hk=>?_⟩
 ·have hP:(bs.map Value.bool)[i]? =some v:=by simpa using hP
  rw[List.getElem?_map] at hP
  cases e:bs[i]? with
  | none=>rw[e] at hP;cases hP
  | some b=>
   rw[e] at hP
   cases hP
   simp only[e,Option.getD_some] at hQ
   exact wpAny_truthy_bool hQ
 ·have e:((List.range (bs.map Value.bool).toArray.size).all fun i=>(bs[i]?).getD true)=bs.all id:=by
   rw[List.size_toArray,List.length_map];exact A9 bs
  rw[e]
  exact⟨.bl (bs.all id),H,I.kept (t':=tk) fun b o e=>hk b o (fun hm=>by rw[List.mem_singleton.mp hm] at e;exact Nat.lt_irrefl _ (Heap.lt_size e)) (Heap.get?_push_of_some _ e),rfl,q⟩
noncomputable def RI:V→Option Int→Option Int→Hp→VK→Prop:=fun x lo hi H Q=>∃z,x= .str z∧z.length≤sizeLine∧((Txt.slice z lo hi).length≤z.length→Q (.str (Txt.slice z lo hi)) H)
theorem Kf {X:Cx}:G0 X RI:=by
 intro pins s σ H x v vl vu lo hi sl Q I rx hs pl pu h
 obtain⟨z,rfl,hz,q⟩:=h
 obtain⟨t,rfl⟩:=rx
 have q:=q (Txt.slice_le z _ _)
 refine⟨"str",_,F.slot_str_getitem.lookup,typeIs_str _ _ _,?_⟩
 cases pl with
 | none=>
  cases pu with
  | none=>exact wpAny_getItem_str_slice (l:=none) (u:=none) (st:=none) hs rfl (post_val_or_str ⟨Nat.le_trans (Txt.slice_le z _ _) hz,fun t' k=>⟨V.str (Txt.slice z none none),H,I.tok k,⟨t',rfl⟩,q⟩⟩)
  | int j u=>exact wpAny_getItem_str_slice (l:=none) (u:=some (j,u)) (st:=none) hs rfl (post_val_or_str ⟨Nat.le_trans (Txt.slice_le z _ _) hz,fun t' k=>⟨V.str (Txt.slice z none (some j)),H,I.tok k,⟨t',rfl⟩,q⟩⟩)
 | int i u'=>
  cases pu with
  | none=>exact wpAny_getItem_str_slice (l:=some (i,u')) (u:=none) (st:=none) hs rfl (post_val_or_str ⟨Nat.le_trans (Txt.slice_le z _ _) hz,fun t' k=>⟨V.str (Txt.slice z (some i) none),H,I.tok k,⟨t',rfl⟩,q⟩⟩)
  | int j u=>exact wpAny_getItem_str_slice (l:=some (i,u')) (u:=some (j,u)) (st:=none) hs rfl (post_val_or_str ⟨Nat.le_trans (Txt.slice_le z _ _) hz,fun t' k=>⟨V.str (Txt.slice z (some i) (some j)),H,I.tok k,⟨t',rfl⟩,q⟩⟩)
end L2
end
section
set_option Elab.async false
set_option linter.all false
set_option maxRecDepth 100000
namespace L2
open PySem PySem.Spec PyProof.Rows
inductive D where
 | cI | bl (b:Bool) | int (i:Int) | str (z:Str) | tup (ds:List D) | lst (ds:List D)
mutual
inductive Rep (H:Hp):V→D→Prop
 | cI:Rep H .cI .cI
 | bl (b:Bool):Rep H (.bl b) (.bl b)
 | int (i:Int):Rep H (.int i) (.int i)
 | str (z:Str):Rep H (.str z) (.str z)
 | tup {a:Addr}{vs:List V}{ds:List D}(e:H a=some (.tup vs)) (r:bw H vs ds):Rep H (.ref a) (.tup ds)
 | lst {a:Addr}{vs:List V}{ds:List D}(e:H a=some (.lst vs)) (r:bw H vs ds):Rep H (.ref a) (.lst ds)
inductive bw (H:Hp):List V→List D→Prop
 | nil:bw H [] []
 | cons {v:V}{d:D}{vs:List V}{ds:List D}(r:Rep H v d) (rs:bw H vs ds):bw H (v :: vs) (d :: ds)
end
noncomputable def RJ:HO→Bool
 | .lst _=>true
 | .tup _=>true
 | .jE _ _=>true
 | _=>false
noncomputable def wc (H H':Hp):Prop:=∀b o,RJ o=true→H b=some o→H' b=some o
theorem wc.refl (H:Hp):wc H H:=fun _ _ _ h=>h
theorem wc.trans {H H1 H2:Hp}(x:wc H H1) (y:wc H1 H2):wc H H2:=fun b o s h=>y b o s (x b o s h)
theorem wc.seq {K:PySem.W.Frag}{H H':Hp}{a:Addr}{xs:List V}(e:wc H H') (h:oH K H a xs):oH K H' a xs:=by
 rcases h with(h | ⟨o,h⟩) | h
 ·exact .inl (.inl (e _ _ rfl h))
 ·exact .inl (.inr ⟨o,e _ _ rfl h⟩)
 ·exact .inr h
theorem wc.of {H H':Hp}(x:uE H H'):wc H H':=fun b o _ h=>x b o h
theorem bw.length {H:Hp}:∀{vs:List V}{ds:List D},bw H vs ds→vs.length=ds.length
 | _,_,.nil=>rfl
 | _,_,.cons _ rs=>congrArg Nat.succ (bw.length rs)
theorem bw.get {H:Hp}:∀{vs:List V}{ds:List D}{i:Nat}{d:D},bw H vs ds→ds[i]? =some d→∃v,vs[i]? =some v∧Rep H v d
 | _,_,_,_,.nil,e=>by simp at e
 | _,_,0,_,.cons r _,e=>by simp at e;subst e;exact⟨_,rfl,r⟩
 | _,_,i+1,_,.cons _ rs,e=>by
  obtain⟨v,h1,h2⟩:=bw.get (i:=i) rs (by simpa using e)
  exact⟨v,by simpa using h1,h2⟩
theorem bw.append {H:Hp}:∀{vs ws:List V}{ds es:List D},bw H vs ds→bw H ws es→bw H (vs++ws) (ds++es)
 | _,_,_,_,.nil,s=>s
 | _,_,_,_,.cons r rs,s=>.cons r (bw.append rs s)
theorem bw.take {H:Hp}:∀{vs:List V}{ds:List D}(n:Nat),bw H vs ds→bw H (vs.take n) (ds.take n)
 | _,_,0,_=>.nil
 | _,_,_+1,.nil=>.nil
 | _,_,n+1,.cons r rs=>.cons r (bw.take n rs)
theorem bw.drop {H:Hp}:∀{vs:List V}{ds:List D}(n:Nat),bw H vs ds→bw H (vs.drop n) (ds.drop n)
 | _,_,0,rs=>rs
 | _,_,_+1,.nil=>.nil
 | _,_,n+1,.cons _ rs=>bw.drop n rs
noncomputable def II:D→String
 | .cI=>"NoneType" | .bl _=>"bool" | .int _=>"int" | .str _=>"str" | .tup _=>"tuple" | .lst _=>"list"
open PySem.W in
noncomputable def gZ (T U:String):Option Bool:=if(Value.type T == Value.type U)=true then some true else if kitMeta U=true then(fastBuiltinMro T).map (·.contains (Value.type U)) else none
theorem Rep.ty {K:PySem.W.Frag}{H:Hp}{v:V}{d:D}(r:Rep H v d):tN K H v (.type (II d)):=by
 cases r with
 | cI=>exact .cI
 | bl b=>exact .bl b
 | int i=>exact .int i
 | str z=>exact .str z
 | tup e _=>exact .tup e
 | lst e _=>exact .lst e
noncomputable def Ba:D→Bool
 | .tup _=>true
 | _=>false
noncomputable def EN:D→Bool
 | .lst _=>true
 | _=>false
noncomputable def iG:D→Bool
 | .str _=>true
 | _=>false
noncomputable def EO:D→Bool
 | .bl _=>true
 | _=>false
noncomputable def Bb:D→Bool
 | .int _=>true
 | .bl _=>true
 | _=>false
theorem G7 {K:PySem.W.Frag}(d:D):PySem.W.kitOne K (.type (II d)) (.type "tuple")=some (Ba d):=by
 cases d with
 | cI=>exact(show gZ "NoneType" "tuple" =some false by decide +kernel)
 | bl b=>exact(show gZ "bool" "tuple" =some false by decide +kernel)
 | int i=>exact(show gZ "int" "tuple" =some false by decide +kernel)
 | str z=>exact(show gZ "str" "tuple" =some false by decide +kernel)
 | tup ds=>exact(show gZ "tuple" "tuple" =some true by decide +kernel)
 | lst ds=>exact(show gZ "list" "tuple" =some false by decide +kernel)
theorem G8 {K:PySem.W.Frag}(d:D):PySem.W.kitOne K (.type (II d)) (.type "list")=some (EN d):=by
 cases d with
 | cI=>exact(show gZ "NoneType" "list" =some false by decide +kernel)
 | bl b=>exact(show gZ "bool" "list" =some false by decide +kernel)
 | int i=>exact(show gZ "int" "list" =some false by decide +kernel)
 | str z=>exact(show gZ "str" "list" =some false by decide +kernel)
 | tup ds=>exact(show gZ "tuple" "list" =some false by decide +kernel)
 | lst ds=>exact(show gZ "list" "list" =some true by decide +kernel)
theorem ER {K:PySem.W.Frag}(d:D):PySem.W.kitOne K (.type (II d)) (.type "str")=some (iG d):=by
 cases d with
 | cI=>exact(show gZ "NoneType" "str" =some false by decide +kernel)
 | bl b=>exact(show gZ "bool" "str" =some false by decide +kernel)
 | int i=>exact(show gZ "int" "str" =some false by decide +kernel)
 | str z=>exact(show gZ "str" "str" =some true by decide +kernel)
 | tup ds=>exact(show gZ "tuple" "str" =some false by decide +kernel)
 | lst ds=>exact(show gZ "list" "str" =some false by decide +kernel)
theorem Kg {K:PySem.W.Frag}(d:D):PySem.W.kitOne K (.type (II d)) (.type "bool")=some (EO d):=by
 cases d with
 | cI=>exact(show gZ "NoneType" "bool" =some false by decide +kernel)
 | bl b=>exact(show gZ "bool" "bool" =some true by decide +kernel)
 | int i=>exact(show gZ "int" "bool" =some false by decide +kernel)
 | str z=>exact(show gZ "str" "bool" =some false by decide +kernel)
 | tup ds=>exact(show gZ "tuple" "bool" =some false by decide +kernel)
 | lst ds=>exact(show gZ "list" "bool" =some false by decide +kernel)
theorem G9 {K:PySem.W.Frag}(d:D):PySem.W.kitOne K (.type (II d)) (.type "int")=some (Bb d):=by
 cases d with
 | cI=>exact(show gZ "NoneType" "int" =some false by decide +kernel)
 | bl b=>exact(show gZ "bool" "int" =some true by decide +kernel)
 | int i=>exact(show gZ "int" "int" =some true by decide +kernel)
 | str z=>exact(show gZ "str" "int" =some false by decide +kernel)
 | tup ds=>exact(show gZ "tuple" "int" =some false by decide +kernel)
 | lst ds=>exact(show gZ "list" "int" =some false by decide +kernel)
end L2
end
section
set_option Elab.async false
set_option linter.all false
set_option maxRecDepth 100000
namespace HT
open PySem PySem.Spec PyProof.Rows
section
variable {prog:Program}{w:World}{A:Around}{E:Value→Shared→Prop}{s:Shared}
theorem C9 {t sl:Addr}{items:Array Value}{vl vu:Value}{lo hi:Option Int}{Q:Value→Shared→Prop}(ht:IsTup s.heap t items) (hs:s.heap.IsSliceOf sl vl vu .none) (pl:IsPart vl lo) (pu:IsPart vu hi)
  (hw:fP items.size 0 lo=0∧fP items.size items.size hi=items.size) (h:Q (.ref t) s):wpAny (model prog w) A (getItem (.ref t) (.ref sl)) Q E s:=by
 obtain⟨os,hos,hcs,hds⟩:=id hs
 have MM:s.TypeIs (.ref sl) "slice":=⟨os,hos,hcs⟩
 unfold getItem
 try with_reducible refine wpAny_holding ?_
 first | refine wpAny_bind (wpAny_pure ?_) | skip
 refine wpAny_bind (wpAny_sequenceKey ht.typeIs (by decide) ?_)
 refine wpAny_bind (wpAny_callSpecial?_slot (name:=Str.ofString "__getitem__") ht.typeIs PyProof.Rows.slot_tuple_getitem
  (wpAny_call_entry PyProof.Rows.slot_tuple_getitem ht.typeIs entry_tuple_getitem ?_ (args_tuple_getitem _ _)))
 show wpAny _ _ (Builtin.Tuple.tupleItemsOf (.ref t) >>= _) _ _ s
 refine wpAny_bind (tupleItemsOf_ ht ?_)
 refine wpAny_bind (wpAny_typeOf MM ?_)
 rw[if_pos (by decide)]
 refine wpAny_bind (lq hs pl pu ?_)
 have hyes:(((fP items.size 0 lo:Nat):Int) == 0 && (1:Int) == 1 && (fP items.size items.size hi - fP items.size 0 lo) == items.size)=true:=by
  rw[hw.1,hw.2];simp
 show wpAny _ _ (if(((fP items.size 0 lo:Nat):Int) == 0 && (1:Int) == 1 && (fP items.size items.size hi - fP items.size 0 lo) == items.size)=true then _ else _) _ _ s
 rw[if_pos hyes]
 have hex:∀{α:Type}{k:Bool→Sem α}{Q':α→Shared→Prop}{E':Value→Shared→Prop}{A':Around},wpAny (model prog w) A' (k true) Q' E' s→wpAny (model prog w) A' (Builtin.Tuple.tupleIsExact (.ref t) >>= k) Q' E' s:=fun {α k Q' E' A'} hk=>by
  refine wpAny_bind ?_
  unfold Builtin.Tuple.tupleIsExact
  exact wpAny_bind (wpAny_typeOf ht.typeIs (wpAny_pure hk))
 first
  | (refine hex ?_;exact wpAny_rule (wpAny_pure ⟨_,rfl,wpAny_pure h⟩))
  | (refine hex ?_;refine wpAny_bind (wpAny_rule ?_);exact wpAny_pure ⟨_,rfl,wpAny_pure h⟩)
end
end HT
end
section
set_option Elab.async false
set_option linter.all false
set_option maxRecDepth 100000
namespace L2
open PySem PySem.Spec PyProof.Rows
section
variable {X:Cx}
theorem Rep.kh {H:Hp}{v:V}{ds:List D}(r:Rep H v (.tup ds)):∃a vs,v= .ref a∧H a=some (.tup vs)∧bw H vs ds:=by
 cases r with
 | tup e rs=>exact⟨_,_,rfl,e,rs⟩
theorem Rep.jl {H:Hp}{v:V}{ds:List D}(r:Rep H v (.lst ds)):∃a vs,v= .ref a∧H a=some (.lst vs)∧bw H vs ds:=by
 cases r with
 | lst e rs=>exact⟨_,_,rfl,e,rs⟩
noncomputable def cutD (ds:List D) (lo hi:Option Int):List D:=(ds.drop (HT.fP ds.length 0 lo)).take (HT.fP ds.length ds.length hi - HT.fP ds.length 0 lo)
theorem bw.iD {H:Hp}{vs:List V}{ds:List D}{i:Int}{d:D}(r:bw H vs ds) (h:L2.iD ds i=some d):∃v,L2.iD vs i=some v∧Rep H v d:=by
 have hl:=r.length
 unfold L2.iD at h ⊢
 rw[hl]
 cases e:ze ds.length i with
 | none=>rw[e] at h;cases h
 | some j=>
  rw[e] at h
  exact r.get h
end
end L2
end
section
set_option Elab.async false
set_option linter.all false
set_option maxRecDepth 100000
namespace L2
open PySem PySem.Spec PyProof.Rows
theorem zB {scope:Scope}{env:Env}{n:Str}{k:NameKind}(h:(relabel scope env).names.lookup n=some k):(n,k)∈(relabel scope env).names:=PySem.mem_of_lookup h
theorem uF {X:Cx}{x:Str}{scope:Scope}(h1:∀y∈scope.names,y.2≠.free) (h2:∀y∈scope.names,y.2≠.cell) (h3:scope.kind= .function) (h4:∀y∈scope.names,y.2= .local→scope.names.lookup y.1=some .local) (h5:scope.names.lookup x=some .local):
  nZ X x [] [] scope []:=by
 refine⟨closureFor_none h1,h2,h3,h4,h5,fun n c h=>(by cases h),fun n h=>?_,by simp,rfl,fun j n h=>(by simp at h),fun n h=>(by simp at h)⟩
 have no:∀k,(k=NameKind.cell∨k=NameKind.free)→(relabel scope X.env).names.lookup n≠some k:=fun k hk e=>by
  have m:=zB e
  unfold relabel at m
  obtain⟨⟨n',k'⟩,hm,q⟩:=List.mem_map.mp m
  have z:(k' == NameKind.free)=false:=by simpa using h1 _ hm
  simp only[z,Bool.false_and,if_false] at q
  have q2:k'=k:=by
   have:=congrArg Prod.snd q
   simpa using this
  rcases hk with rfl | rfl
  ·exact h2 _ hm q2
  ·exact h1 _ hm q2
 rcases h with h | h
 ·exact absurd h (no _ (.inl rfl))
 ·exact absurd h (no _ (.inr rfl))
mutual
noncomputable def v7 (n:Nat):D→Prop
 | .str z=>z.length≤n
 | .tup ds=>ds.length≤n∧Fits n ds
 | .lst ds=>ds.length≤n∧Fits n ds
 | .cI=>True
 | .bl _=>True
 | .int _=>True
noncomputable def Fits (n:Nat):List D→Prop
 | []=>True
 | d :: ds=>v7 n d∧Fits n ds
end
mutual
theorem v7.mono {n m:Nat}(l:n≤m):∀{d:D},v7 n d→v7 m d
 | .str _,h=>Nat.le_trans h l
 | .tup _,h=>⟨Nat.le_trans h.1 l,Fits.mono l h.2⟩
 | .lst _,h=>⟨Nat.le_trans h.1 l,Fits.mono l h.2⟩
 | .cI,_=>True.intro
 | .bl _,_=>True.intro
 | .int _,_=>True.intro
theorem Fits.mono {n m:Nat}(l:n≤m):∀{ds:List D},Fits n ds→Fits m ds
 | [],_=>True.intro
 | _ :: _,h=>⟨v7.mono l h.1,Fits.mono l h.2⟩
end
theorem Fits.append {n:Nat}:∀{ds es:List D},Fits n ds→Fits n es→Fits n (ds++es)
 | [],_,_,h=>h
 | _ :: _,_,h,k=>⟨h.1,Fits.append h.2 k⟩
theorem Fits.take {n:Nat}:∀{ds:List D}(k:Nat),Fits n ds→Fits n (ds.take k)
 | _,0,_=>True.intro
 | [],_+1,_=>True.intro
 | _ :: _,k+1,h=>⟨h.1,Fits.take k h.2⟩
theorem Fits.drop {n:Nat}:∀{ds:List D}(k:Nat),Fits n ds→Fits n (ds.drop k)
 | _,0,h=>h
 | [],_+1,_=>True.intro
 | _ :: _,k+1,h=>Fits.drop k h.2
theorem Fits.get {n:Nat}:∀{ds:List D}{i:Nat}{d:D},Fits n ds→ds[i]? =some d→v7 n d
 | [],_,_,_,e=>by simp at e
 | _ :: _,0,_,h,e=>by simp at e;subst e;exact h.1
 | _ :: _,i+1,_,h,e=>Fits.get (i:=i) h.2 (by simpa using e)
theorem Fits.cut {n:Nat}{ds:List D}(h:Fits n ds) (lo hi:Option Int):Fits n (cutD ds lo hi):=(h.drop _).take _
noncomputable def fR (d:D) (l m:Int):Bool:=match d with
 | .int i=>decide (l≤i) && decide (i≤m)
 | _=>false
noncomputable def eZ (d:D) (l m:Int):Bool:=match d with
 | .tup ds=>decide (l≤(ds.length:Int)) && decide ((ds.length:Int)≤m)
 | _=>false
end L2
end
section
set_option Elab.async false
set_option linter.all false
set_option maxRecDepth 100000
namespace L2
open PySem PySem.Spec PyProof.Rows
theorem lookup_some {α : Type} : ∀ {l : List (Str × α)} {n : Str}, n ∈ l.map (·.1) → ∃ c, l.lookup n = some c
  | [],_,h=>by simp at h
  | (m, c) :: l, n, h => by
    rw[List.lookup_cons]
    cases e:n == m with
    | true=>exact⟨c,rfl⟩
    | false=>
      rcases List.mem_cons.mp h with h | h
      · have h:n=m:=h
        rw[h,beq_self_eq_true] at e
        cases e
      · exact lookup_some h
end L2
end
section
set_option Elab.async false
set_option linter.all false
set_option maxRecDepth 100000
namespace L2
open PySem PySem.Spec PyProof.Rows
end L2
end
section
set_option Elab.async false
set_option linter.all false
set_option maxRecDepth 100000
namespace L2
open PySem PySem.Spec PyProof.Rows
mutual
noncomputable def toPy:D→PyData
 | .cI=>.none
 | .bl b=>.bool b
 | .int i=>.int i
 | .str z=>.str z
 | .tup ds=>.tuple (gr ds)
 | .lst ds=>.list (gr ds)
noncomputable def gr:List D→List PyData
 | []=>[]
 | d :: ds=>toPy d :: gr ds
end
section
variable {X:Cx}{pins:List (Addr×Obj)}{σ:St}{H:Hp}{s:Shared}
end
mutual
theorem sH:∀d:D,(toPy d).hasDict=false
 | .cI=>rfl
 | .bl _=>rfl
 | .int _=>rfl
 | .str _=>rfl
 | .tup ds=>mh ds
 | .lst ds=>mh ds
theorem mh:∀ds:List D,PyData.hasDictAll (gr ds)=false
 | []=>rfl
 | d :: ds=>by
  show((toPy d).hasDict || PyData.hasDictAll (gr ds))=false
  rw[sH d,mh ds]
  rfl
end
end L2
end
section
set_option Elab.async false
set_option linter.all false
set_option maxRecDepth 100000
namespace L2
open PySem PySem.Spec PyProof.Rows
inductive MO where
 | lst (ds:List D)
 | dct (kvs:List (Key×D))
 | yf (kvs:List (List Key×D))
inductive U where
 | t (d:D) | m (o:MO) | b (o:MO) | v (i:Nat) | s (ns:List Int)
noncomputable abbrev SS:=List (Option U)
noncomputable def Sub (F H:Hp):Prop:=∀a o,F a=some o→H a=some o
noncomputable def gK {κ:Type}(F:Hp) (p:κ×V) (q:κ×D):Prop:=p.1=q.1∧Rep F p.2 q.2
noncomputable def At (F H:Hp) (a:Addr):MO→Prop
 | .lst ds=>∃vs,H a=some (.lst vs)∧bw F vs ds
 | .dct kvs=>∃ws,H a=some (.dK ws)∧Paired (gK F) ws kvs
 | .yf kvs=>∃ws,H a=some (.dT ws)∧Paired (gK F) ws kvs
noncomputable def fS:U→Bool
 | .m _=>true
 | .b _=>true
 | _=>false
noncomputable def dc (S:SS) (σ:St) (a:Addr):Prop:=∃(i:Nat) (u:U),S[i]? =some (some u)∧fS u=true∧σ[i]? =some (some (.ref a))
noncomputable def Hf (K:PySem.W.Frag) (H:Hp) (a:Addr) (ns:List Int):Prop:=
 (∃o,H a=some (.jE o (.lst (ns.map V.int))))∨∃(o:Obj) (its:Array Value) (n:Nat),K.lookup a=some o∧o.cls= .type "list"∧o.dict=none∧o.data= .seq its n∧its.size≤sizeLine∧Vals (ns.map V.int) its.toList
theorem Hf.sq {K:PySem.W.Frag}{H:Hp}{a:Addr}{ns:List Int}:Hf K H a ns→oH K H a (ns.map V.int)
 | .inl h=>.inl (.inr h)
 | .inr h=>.inr h
noncomputable def we (K:PySem.W.Frag) (F H:Hp) (v:V):U→Prop
 | .t d=>Rep F v d
 | .m o=>∃a,v= .ref a∧F a=none∧At F H a o
 | .b o=>∃a,v= .ref a∧F a=none∧At F H a o
 | .v _=>False
 | .s ns=>∃a,v= .ref a∧Hf K H a ns
structure Ext (M:Addr→Prop) (F H F' H':Hp):Prop where
 le:∀b o,F b=some o→F' b=some o
 keep:∀b o,H b=some o→¬M b→H' b=some o
 jy:∀b o,H b=some o→¬M b→F b=none→F' b=none
 there:∀b o,H b=some o→∃o',H' b=some o'
 jE:∀b o u,H b=some (.jE o u)→H' b=some (.jE o u)
structure Base where
 P:List (Option Addr)
 F:Hp
 H:Hp
noncomputable def Base.M (B:Base) (a:Addr):Prop:=some a∈B.P
structure Rel (K:PySem.W.Frag) (B:Base) (S:SS) (σ:St) (F H:Hp):Prop where
 sub:Sub F H
 len:S.length=σ.length
 rep:∀(i:Nat) u,S[i]? =some (some u)→∃v,σ[i]? =some (some v)∧we K F H v u
 Cn:∀(i j:Nat) u w a,S[i]? =some (some u)→fS u=true→S[j]? =some (some w)→fS w=true→σ[i]? =some (some (.ref a))→σ[j]? =some (some (.ref a))→i=j
 own:∀(i:Nat) o a,S[i]? =some (some (.m o))→σ[i]? =some (some (.ref a))→B.H a=none
 bor:∀(i:Nat) o a,S[i]? =some (some (.b o))→σ[i]? =some (some (.ref a))→B.M a
 par:∀(i:Nat) a,B.P[i]? =some (some a)→σ[i]? =some (some (.ref a))∧∃o,S[i]? =some (some (.b o))
 ext:Ext B.M B.F B.H F H
structure Step (S S':SS) (σ:St) (F H F' H':Hp):Prop where
 ext:Ext (dc S σ) F H F' H'
 mu:∀a,dc S' σ a→dc S σ a
 slots:∀(i:Nat) u,S[i]? =some (some u)→∃u',S'[i]? =some (some u')
theorem Ext.refl (M:Addr→Prop) (F H:Hp):Ext M F H F H:=⟨fun _ _ h=>h,fun _ _ h _=>h,fun _ _ _ _ h=>h,fun _ o h=>⟨o,h⟩,fun _ _ _ h=>h⟩
theorem Ext.trans {M M':Addr→Prop}{F H F1 H1 F2 H2:Hp}(x:Ext M F H F1 H1) (y:Ext M' F1 H1 F2 H2) (s:∀b,M' b→M b∨H b=none):Ext M F H F2 H2 where
 le:=fun b o h=>y.le b o (x.le b o h)
 keep:=fun b o h n=>y.keep b o (x.keep b o h n) fun q=>(s b q).elim n fun z=>by rw[h] at z;cases z
 jy:=fun b o h n f=>y.jy b o (x.keep b o h n) (fun q=>(s b q).elim n fun z=>by rw[h] at z;cases z) (x.jy b o h n f)
 there:=fun b o h=>let⟨o',h'⟩:=x.there b o h;y.there b o' h'
 jE:=fun b o u h=>y.jE b o u (x.jE b o u h)
theorem Step.refl (S:SS) (σ:St) (F H:Hp):Step S S σ F H F H:=⟨Ext.refl _ _ _,fun _ h=>h,fun _ u h=>⟨u,h⟩⟩
theorem Step.trans {S S1 S2:SS}{σ:St}{F H F1 H1 F2 H2:Hp}(x:Step S S1 σ F H F1 H1) (y:Step S1 S2 σ F1 H1 F2 H2):Step S S2 σ F H F2 H2:=
 ⟨x.ext.trans y.ext fun b q=>.inl (x.mu b q),fun a q=>x.mu a (y.mu a q),fun i u h=>let⟨u',h'⟩:=x.slots i u h;y.slots i u' h'⟩
mutual
theorem Rep.le {F F':Hp}(g:∀b o,F b=some o→F' b=some o):∀{v:V}{d:D},Rep F v d→Rep F' v d
 | _,_,.cI=>.cI
 | _,_,.bl b=>.bl b
 | _,_,.int i=>.int i
 | _,_,.str z=>.str z
 | _,_,.tup e r=>.tup (g _ _ e) (bw.le g r)
 | _,_,.lst e r=>.lst (g _ _ e) (bw.le g r)
theorem bw.le {F F':Hp}(g:∀b o,F b=some o→F' b=some o):∀{vs:List V}{ds:List D},bw F vs ds→bw F' vs ds
 | _,_,.nil=>.nil
 | _,_,.cons r rs=>.cons (Rep.le g r) (bw.le g rs)
end
theorem zC {κ:Type}{F F':Hp}(g:∀b o,F b=some o→F' b=some o){ws:List (κ×V)}{kvs:List (κ×D)}(r:Paired (gK F) ws kvs):Paired (gK F') ws kvs:=
 Paired.CN r fun _ _ z=>⟨z.1,z.2.le g⟩
theorem At.le {F F' H H':Hp}{a:Addr}(g:∀b o,F b=some o→F' b=some o) (k:∀o,H a=some o→H' a=some o):∀{o:MO},At F H a o→At F' H' a o
 | .lst _,⟨vs,e,r⟩=>⟨vs,k _ e,r.le g⟩
 | .dct _,⟨ws,e,r⟩=>⟨ws,k _ e,zC g r⟩
 | .yf _,⟨ws,e,r⟩=>⟨ws,k _ e,zC g r⟩
theorem At.has {F H:Hp}{a:Addr}:∀{o:MO},At F H a o→∃u,H a=some u
 | .lst _,⟨_,e,_⟩=>⟨_,e⟩
 | .dct _,⟨_,e,_⟩=>⟨_,e⟩
 | .yf _,⟨_,e,_⟩=>⟨_,e⟩
noncomputable def kg (K:PySem.W.Frag) (B:Base) (S:SS) (σ:St) (H0 F H:Hp) (v:V):U→Prop
 | .t d=>Rep F v d
 | .m o=>∃a,v= .ref a∧H0 a=none∧F a=none∧At F H a o∧¬dc S σ a∧B.H a=none
 | .v i=>σ[i]? =some (some v)∧∃u,S[i]? =some (some u)
 | .b _=>False
 | .s ns=>∃a,v= .ref a∧Hf K H a ns
theorem PE.imp {X:Cx}{e:Expr}{t t':TE}(h:PE X e t) (k:∀σ H Q,t' σ H Q→t σ H Q):PE X e t':=fun pins s σ H Q I q=>h pins s σ H Q I (k σ H Q q)
theorem PT.imp {X:Cx}{e:Expr}{t t':TT}(h:PT X e t) (k:∀σ H Q,t' σ H Q→t σ H Q):PT X e t':=fun pins s σ H Q I q=>h pins s σ H Q I (k σ H Q q)
theorem PW.imp {X:Cx}{e:Expr}{t t':TT}(h:PW X e t) (k:∀σ H Q,t' σ H Q→t σ H Q):PW X e t':=fun w pins s σ H Q I q=>h w pins s σ H Q I (k σ H Q q)
theorem PA.imp {X:Cx}{e:List Expr}{t t':TA}(h:PA X e t) (k:∀σ H Q,t' σ H Q→t σ H Q):PA X e t':=fun p pins s σ H Q I q=>h p pins s σ H Q I (k σ H Q q)
theorem PS.imp {X:Cx}{e:Stmt}{t t':TS}(h:PS X e t) (k:∀D σ H,t' D σ H→t D σ H):PS X e t':=fun pins s σ H Q I q=>h pins s σ H Q I (k Q σ H q)
theorem AS.imp {X:Cx}{e:List Stmt}{t t':TS}(h:AS X e t) (k:∀D σ H,t' D σ H→t D σ H):AS X e t':=fun pins s σ H Q I q=>h pins s σ H Q I (k Q σ H q)
theorem PE.orelse {X:Cx}{e:Expr}{t:TE}(h:∀σ H Q,t σ H Q→∃t',PE X e t'∧t' σ H Q):PE X e t:=fun pins s σ H Q I q=>let⟨_,h1,h2⟩:=h σ H Q q;h1 pins s σ H Q I h2
theorem PS.orelse {X:Cx}{e:Stmt}{t:TS}(h:∀D σ H,t D σ H→∃t',PS X e t'∧t' D σ H):PS X e t:=fun pins s σ H Q I q=>let⟨_,h1,h2⟩:=h Q σ H q;h1 pins s σ H Q I h2
noncomputable abbrev GE:=SS→Option (U×SS)
noncomputable abbrev GD:=SS→Option (D×SS)
noncomputable abbrev GT:=SS→Option (Bool×SS)
noncomputable abbrev GA:=SS→Option (List D×SS)
inductive Out where
 | nx (S:SS) | rt (u:U) (S:SS) | bk (S:SS) | ct (S:SS)
noncomputable abbrev GS:=SS→Option Out
noncomputable def tE (K:PySem.W.Frag) (B:Base) (g:GE):TE:=fun σ H Q=>∃S F u S',Rel K B S σ F H∧g S=some (u,S')∧∀v F' H',Rel K B S' σ F' H'→Step S S' σ F H F' H'→kg K B S' σ H F' H' v u→Q v H'
noncomputable def tD (K:PySem.W.Frag) (B:Base) (g:GD):TE:=fun σ H Q=>∃S F d S',Rel K B S σ F H∧g S=some (d,S')∧∀v F' H',Rel K B S' σ F' H'→Step S S' σ F H F' H'→Rep F' v d→Q v H'
noncomputable def tQ (K:PySem.W.Frag) (B:Base) (g:GT):TT:=fun σ H Q=>∃S F b S',Rel K B S σ F H∧g S=some (b,S')∧∀F' H',Rel K B S' σ F' H'→Step S S' σ F H F' H'→Q b H'
noncomputable def Xg (K:PySem.W.Frag) (B:Base) (g:GA):TA:=fun σ H Q=>∃S F ds S',Rel K B S σ F H∧g S=some (ds,S')∧∀vs F' H',Rel K B S' σ F' H'→Step S S' σ F H F' H'→bw F' vs ds→Q vs H'
noncomputable def Co (K:PySem.W.Frag) (B:Base) (F:Hp) (D:Ends):Out→Prop
 | .nx S=>∀σ' F' H',Rel K B S σ' F' H'→(∀b o,F b=some o→F' b=some o)→D.nx σ' H'
 | .bk S=>∀σ' F' H',Rel K B S σ' F' H'→(∀b o,F b=some o→F' b=some o)→D.bk σ' H'
 | .ct S=>∀σ' F' H',Rel K B S σ' F' H'→(∀b o,F b=some o→F' b=some o)→D.ct σ' H'
 | .rt u S=>∀v σ' F' H',Rel K B S σ' F' H'→(∀b o,F b=some o→F' b=some o)→kg K B S σ' B.H F' H' v u→D.rt v H'
noncomputable def tO (K:PySem.W.Frag) (B:Base) (g:GS):TS:=fun D σ H=>∃S F o,Rel K B S σ F H∧g S=some o∧Co K B F D o
structure JE (X:Cx) (e:Expr) (g:GE):Prop where
 h:∀B,PE X e (tE X.K B g)
structure JD (X:Cx) (e:Expr) (g:GD):Prop where
 h:∀B,PE X e (tD X.K B g)
structure JT (X:Cx) (e:Expr) (g:GT):Prop where
 h:∀B,PT X e (tQ X.K B g)
structure JW (X:Cx) (e:Expr) (g:GT):Prop where
 h:∀B,PW X e (tQ X.K B g)
structure JA (X:Cx) (es:List Expr) (g:GA):Prop where
 h:∀B,PA X es (Xg X.K B g)
structure JS (X:Cx) (st:Stmt) (g:GS):Prop where
 h:∀B,PS X st (tO X.K B g)
structure JB (X:Cx) (st:List Stmt) (g:GS):Prop where
 h:∀B,AS X st (tO X.K B g)
noncomputable def fz:U→SS→Option (D×SS)
 | .t d,S=>some (d,S)
 | .m (.lst ds),S=>some (.lst ds,S)
 | .v i,S=>match S[i]? with
  | some (some (.t d))=>some (d,S)
  | some (some (.m (.lst ds)))=>some (.lst ds,S.set i (some (.t (.lst ds))))
  | _=>none
 | _,_=>none
theorem get_set {α:Type}{l:List α}{i j:Nat}{x y:α}(h:(l.set i x)[j]? =some y):(i=j∧x=y∧i < l.length)∨(i≠j∧l[j]? =some y):=by
 by_cases e:i=j
 ·subst e
  by_cases hl:i < l.length
  ·rw[List.getElem?_set_self hl] at h;exact .inl ⟨rfl,Option.some.inj h,hl⟩
  ·rw[List.getElem?_eq_none (by simpa using hl)] at h;cases h
 ·rw[List.getElem?_set_ne e] at h;exact .inr ⟨e,h⟩
theorem Sub.jE {F H:Hp}{a:Addr}{o:HO}(s:Sub F H) (h:H a=some o):Sub (upd F a o) H:=fun b u e=>by
 by_cases hb:b=a
 ·subst hb;rw[aW] at e;cases e;exact h
 ·rw[aT hb] at e;exact s b u e
theorem Sub.fresh {F H:Hp}{p:Addr}(s:Sub F H) (h:H p=Option.none):F p=Option.none:=by
 cases e:F p with
 | none=>rfl
 | some o=>have q:=s p o e;rw[h] at q;cases q
theorem ni {F:Hp}{a:Addr}{o:HO}(h:F a=none):∀b u,F b=some u→upd F a o b=some u:=fun b u e=>by rw[aT (bF e h)];exact e
theorem Hf.le {K:PySem.W.Frag}{H H':Hp}{a:Addr}{ns:List Int}(k:∀b o u,H b=some (.jE o u)→H' b=some (.jE o u)):Hf K H a ns→Hf K H' a ns
 | .inl ⟨o,h⟩=>.inl ⟨o,k _ _ _ h⟩
 | .inr h=>.inr h
theorem we.le {K:PySem.W.Frag}{F F' H H':Hp}{v:V}(g:∀b o,F b=some o→F' b=some o) (kf:∀b o u,H b=some (.jE o u)→H' b=some (.jE o u)):∀{u:U},we K F H v u→(∀a,fS u=true→v= .ref a→(∀o,H a=some o→H' a=some o)∧F' a=none)→we K F' H' v u
 | .t _,h,_=>Rep.le g h
 | .m _,⟨a,e,_,h⟩,k=>let⟨k1,k2⟩:=k a rfl e;⟨a,e,k2,h.le g k1⟩
 | .b _,⟨a,e,_,h⟩,k=>let⟨k1,k2⟩:=k a rfl e;⟨a,e,k2,h.le g k1⟩
 | .v _,h,_=>h
 | .s _,⟨a,e,h⟩,_=>⟨a,e,h.le kf⟩
theorem ES {K : PySem.W.Frag} {B : Base} {S S' : SS} {σ : St} {H0 F0 F H : Hp} {v : V} {u : U} {d : D} {S0 : SS} (R : Rel K B S σ F H) (st : Step S0 S σ F0 H0 F H) (r : kg K B S σ H0 F H v u) (e : fz u S = some (d, S')) :
    ∃F',Rel K B S' σ F' H∧Step S0 S' σ F0 H0 F' H∧Rep F' v d:=by
  cases u with
  | t d'=>cases e;exact⟨F,R,st,r⟩
  | b o=>cases r
  | s o=>cases e
  | m o =>
    cases o with
    | dct kvs=>cases e
    | yf kvs=>cases e
    | lst ds=>
      cases e
      obtain⟨a,rfl,h0,hf,⟨vs,ha,rs⟩,nm,hB⟩:=r
      have g:=ni (o:=.lst vs) hf
      refine⟨upd F a (.lst vs),⟨R.sub.jE ha,R.len,fun i u h=>?_,R.Cn,R.own,R.bor,R.par,?_⟩,⟨⟨fun b o h=>g b o (st.ext.le b o h),st.ext.keep,fun b o h n f=>?_,st.ext.there,st.ext.jE⟩,st.mu,st.slots⟩,.lst aW (rs.le g)⟩
      · obtain⟨w,h1,h2⟩:=R.rep i u h
        refine⟨w,h1,h2.le g (fun _ _ _ z=>z) fun c hm hc=>⟨fun o q=>q,?_⟩⟩
        have hca:c≠a:=fun z=>nm ⟨i,u,h,hm,by rw[h1,hc,z]⟩
        rw[aT hca]
        cases u with
        | m o=>obtain⟨c',e',f',_⟩:=h2;rw[hc] at e';cases e';exact f'
        | b o=>obtain⟨c',e',f',_⟩:=h2;rw[hc] at e';cases e';exact f'
        | t d=>cases hm
        | v j=>cases hm
        | s j=>cases hm
      · exact⟨fun b o h=>g b o (R.ext.le b o h),R.ext.keep,fun b o h n f=>by rw[aT (fun z=>by rw[z,hB] at h;cases h)];exact R.ext.jy b o h n f,R.ext.there,R.ext.jE⟩
      · rw[aT (fun z=>by rw[z,h0] at h;cases h)]
        exact st.ext.jy b o h n f
  | v i =>
    obtain⟨hv,u,hu⟩:=r
    unfold fz at e
    simp only[hu] at e
    cases u with
    | t d'=>
      cases e
      obtain⟨w,h1,h2⟩:=R.rep i _ hu
      rw[hv] at h1
      cases h1
      exact⟨F,R,st,h2⟩
    | b o=>cases e
    | v j=>cases e
    | s j=>cases e
    | m o =>
      cases o with
      | dct kvs=>cases e
      | yf kvs=>cases e
      | lst ds =>
        cases e
        obtain⟨w,h1,a,rfl,hf,⟨vs,ha,rs⟩⟩:=R.rep i _ hu
        have hiv:σ[i]? =some (some (.ref a)):=h1
        rw[hv] at h1
        cases h1
        have hB:=R.own i _ a hu hiv
        have g:=ni (o:=.lst vs) hf
        have back:∀j w,(S.set i (some (.t (.lst ds))))[j]? =some (some w)→fS w=true→i≠j∧S[j]? =some (some w):=fun j w h hm=>by
          rcases get_set h with⟨_,q,_⟩ | q
          · cases q;cases hm
          · exact q
        have mu:∀c,dc (S.set i (some (.t (.lst ds)))) σ c→dc S σ c:=fun c ⟨j,w,h,hm,z⟩=>⟨j,w,(back j w h hm).2,hm,z⟩
        refine⟨upd F a (.lst vs),⟨R.sub.jE ha,by rw[List.length_set];exact R.len,fun j u h=>?_,fun j k u w c h1 m1 h2 m2=>R.Cn j k u w c (back j u h1 m1).2 m1 (back k w h2 m2).2 m2,fun j o c h=>R.own j o c (back j _ h rfl).2,fun j o c h=>R.bor j o c (back j _ h rfl).2,fun j c h=>?_,?_⟩,
          ⟨⟨fun b o h=>g b o (st.ext.le b o h),st.ext.keep,fun b o h n f=>?_,st.ext.there,st.ext.jE⟩,fun c q=>st.mu c (mu c q),fun j u h=>?_⟩,.lst aW (rs.le g)⟩
        · rcases get_set h with⟨rfl,q,_⟩ | ⟨ne,q⟩
          · cases q
            exact⟨.ref a,hiv,.lst aW (rs.le g)⟩
          · obtain⟨w,h1,h2⟩:=R.rep j u q
            refine⟨w,h1,h2.le g (fun _ _ _ z=>z) fun c hm hc=>⟨fun o q=>q,?_⟩⟩
            have hca:c≠a:=fun z=>ne (R.Cn i j _ u a hu rfl q hm hiv (by rw[h1,hc,z]))
            rw[aT hca]
            cases u with
            | m o=>obtain⟨c',e',f',_⟩:=h2;rw[hc] at e';cases e';exact f'
            | b o=>obtain⟨c',e',f',_⟩:=h2;rw[hc] at e';cases e';exact f'
            | t d=>cases hm
            | v j=>cases hm
            | s j=>cases hm
        · obtain⟨h1,o,h2⟩:=R.par j c h
          refine⟨h1,o,?_⟩
          have ne:i≠j:=fun z=>by subst z;rw[hu] at h2;cases h2
          rw[List.getElem?_set_ne ne]
          exact h2
        · exact⟨fun b o h=>g b o (R.ext.le b o h),R.ext.keep,fun b o h n f=>by rw[aT (fun z=>by rw[z,hB] at h;cases h)];exact R.ext.jy b o h n f,R.ext.there,R.ext.jE⟩
        · have hb:b≠a:=fun z=>n (st.mu b ⟨i,_,hu,rfl,by rw[z];exact hiv⟩)
          rw[aT hb]
          exact st.ext.jy b o h n f
        · obtain⟨u',h'⟩:=st.slots j u h
          by_cases hj:i=j
          · subst hj
            exact⟨.t (.lst ds),List.getElem?_set_self (List.getElem?_eq_some_iff.mp h').1⟩
          · exact⟨u',by rw[List.getElem?_set_ne hj];exact h'⟩
noncomputable def eF (g:GE):GD:=fun S=>(g S).bind fun p=>fz p.1 p.2
theorem JE.d {X:Cx}{e:Expr}{g:GE}(h:JE X e g):JD X e (eF g):=⟨fun B=>(h.h B).imp fun σ H Q ⟨S,F,d,S',R,hg,q⟩=>by
 unfold eF at hg
 cases e1:g S with
 | none=>rw[e1] at hg;cases hg
 | some p=>
  obtain⟨u,S1⟩:=p
  rw[e1] at hg
  refine⟨S,F,u,S1,R,e1,fun v F1 H1 R1 st1 r1=>?_⟩
  obtain⟨F2,R2,st2,r2⟩:=ES R1 st1 r1 hg
  exact q v F2 H1 R2 st2 r2⟩
noncomputable def eT (g:GD):GE:=fun S=>(g S).map fun p=>(.t p.1,p.2)
theorem JD.e {X:Cx}{e:Expr}{g:GD}(h:JD X e g):JE X e (eT g):=⟨fun B=>(h.h B).imp fun σ H Q ⟨S,F,u,S',R,hg,q⟩=>by
 unfold eT at hg
 cases e1:g S with
 | none=>rw[e1] at hg;cases hg
 | some p=>
  obtain⟨d,S1⟩:=p
  rw[e1] at hg
  cases hg
  exact⟨S,F,d,S1,R,e1,fun v F1 H1 R1 st1 r1=>q v F1 H1 R1 st1 r1⟩⟩
end L2
end
section
set_option Elab.async false
set_option linter.all false
set_option maxRecDepth 100000
namespace L2
open PySem PySem.Spec PyProof.Rows
structure gD (F H F' H':Hp):Prop where
 le:∀b o,F b=some o→F' b=some o
 same:∀b o,H b=some o→H' b=some o
 jy:∀b o,H b=some o→F b=none→F' b=none
theorem gD.refl (F H:Hp):gD F H F H:=⟨fun _ _ h=>h,fun _ _ h=>h,fun _ _ _ h=>h⟩
theorem gD.trans {F H F1 H1 F2 H2:Hp}(x:gD F H F1 H1) (y:gD F1 H1 F2 H2):gD F H F2 H2:=
 ⟨fun b o h=>y.le b o (x.le b o h),fun b o h=>y.same b o (x.same b o h),fun b o h f=>y.jy b o (x.same b o h) (x.jy b o h f)⟩
theorem gD.step {S:SS}{σ:St}{F H F' H':Hp}(n:gD F H F' H'):Step S S σ F H F' H':=
 ⟨⟨n.le,fun b o h _=>n.same b o h,fun b o h _ f=>n.jy b o h f,fun b o h=>⟨o,n.same b o h⟩,fun b o u h=>n.same b _ h⟩,fun _ h=>h,fun _ u h=>⟨u,h⟩⟩
theorem gD.obj {F H:Hp}{p:Addr}(h:H p=none) (o:HO):gD F H F (upd H p o):=
 ⟨fun _ _ q=>q,fun b u q=>by rw[aT (bF q h)];exact q,fun _ _ _ q=>q⟩
theorem Rd.same {H H':Hp}{a:Addr}{u:HO}(k:∀b o,H b=some o→H' b=some o):Rd H a u→Rd H' a u
 | .inl h=>.inl (k _ _ h)
 | .inr ⟨o,h⟩=>.inr ⟨o,k _ _ h⟩
theorem Sub.same {F H H':Hp}(s:Sub F H) (k:∀b o,H b=some o→H' b=some o):Sub F H':=fun a o e=>k a o (s a o e)
theorem Sub.uG {F H:Hp}{p:Addr}{o:HO}(s:Sub F H) (h:H p=none):Sub (upd F p o) (upd H p o):=fun b u e=>by
 by_cases hb:b=p
 ·subst hb;rw[aW] at e;cases e;exact aW
 ·rw[aT hb] at e;have q:=s b u e;rw[aT (bF q h)];exact q
theorem gD.root {F H:Hp}{p:Addr}(s:Sub F H) (h:H p=none) (o:HO):gD F H (upd F p o) (upd H p o):=
 ⟨ni (s.fresh h),fun b u q=>by rw[aT (bF q h)];exact q,fun b u q f=>by rw[aT (bF q h)];exact f⟩
theorem Rel.has {K:PySem.W.Frag}{B:Base}{S:SS}{σ:St}{F H:Hp}(R:Rel K B S σ F H){a:Addr}(m:dc S σ a):∃o,H a=some o:=by
 obtain⟨i,u,h,hm,hv⟩:=m
 obtain⟨v,h1,h2⟩:=R.rep i u h
 rw[hv] at h1
 cases h1
 cases u with
 | t d=>cases hm
 | v j=>cases hm
 | s j=>cases hm
 | m o=>obtain⟨b,e,_,h⟩:=h2;cases e;exact h.has
 | b o=>obtain⟨b,e,_,h⟩:=h2;cases e;exact h.has
theorem Rel.new {K:PySem.W.Frag}{B:Base}{S:SS}{σ:St}{F H F' H':Hp}(R:Rel K B S σ F H) (n:gD F H F' H') (s:Sub F' H'):Rel K B S σ F' H' where
 sub:=s
 len:=R.len
 rep:=fun i u h=>by
  obtain⟨v,h1,h2⟩:=R.rep i u h
  refine⟨v,h1,h2.le n.le (fun b o u z=>n.same b _ z) fun a hm ha=>⟨fun o q=>n.same a o q,?_⟩⟩
  obtain⟨o,ho⟩:=R.has ⟨i,u,h,hm,by rw[h1,ha]⟩
  refine n.jy a o ho ?_
  cases u with
  | t d=>cases hm
  | v j=>cases hm
  | s j=>cases hm
  | m o=>obtain⟨b,e,f,_⟩:=h2;rw[ha] at e;cases e;exact f
  | b o=>obtain⟨b,e,f,_⟩:=h2;rw[ha] at e;cases e;exact f
 Cn:=R.Cn
 own:=R.own
 bor:=R.bor
 par:=R.par
 ext:=⟨fun b o h=>n.le b o (R.ext.le b o h),fun b o h m=>n.same b o (R.ext.keep b o h m),fun b o h m f=>n.jy b o (R.ext.keep b o h m) (R.ext.jy b o h m f),fun b o h=>let⟨o',h'⟩:=R.ext.there b o h;⟨o',n.same b o' h'⟩,fun b o u h=>n.same b _ (R.ext.jE b o u h)⟩
noncomputable def zD (H0 F H:Hp) (v:V):U→Prop
 | .t d=>Rep F v d
 | .m o=>∃a,v= .ref a∧H0 a=none∧F a=none∧At F H a o
 | _=>False
theorem none_of {H H':Hp}{a:Addr}(t:∀b o,H b=some o→∃o',H' b=some o') (h:H' a=none):H a=none:=by
 cases e:H a with
 | none=>rfl
 | some o=>obtain⟨o',h'⟩:=t a o e;rw[h] at h';cases h'
theorem zD.Bc {K:PySem.W.Frag}{B:Base}{S S0:SS}{σ:St}{H0 F0 F1 H1 F H:Hp}{v:V}{u:U}(R:Rel K B S σ F1 H1) (st:Step S0 S σ F0 H0 F1 H1) (r:zD H1 F H v u):kg K B S σ H0 F H v u:=by
 cases u with
 | t d=>exact r
 | b o=>cases r
 | v i=>cases r
 | s i=>cases r
 | m o=>
  obtain⟨a,e,h0,f,h⟩:=r
  refine⟨a,e,none_of st.ext.there h0,f,h,fun m=>?_,none_of R.ext.there h0⟩
  obtain⟨o,ho⟩:=R.has m
  rw[h0] at ho
  cases ho
noncomputable def rP (f:List D→Option U):List V→Hp→VK→Prop:=fun xs H Q=>∃F ds u,Sub F H∧bw F xs ds∧f ds=some u∧∀v F' H',gD F H F' H'→Sub F' H'→zD H F' H' v u→Q v H'
noncomputable def sI:D→Bool
 | .tup _=>false
 | .lst _=>false
 | _=>true
noncomputable def toV:D→V
 | .bl b=>.bl b
 | .int i=>.int i
 | .str z=>.str z
 | _=>.cI
theorem zE {F:Hp}:∀{d:D},sI d=true→Rep F (toV d) d
 | .cI,_=>.cI
 | .bl b,_=>.bl b
 | .int i,_=>.int i
 | .str z,_=>.str z
 | .tup _,h=>by cases h
 | .lst _,h=>by cases h
noncomputable def aC (i:Nat):GE:=fun S=>match S[i]? with
 | some (some (.t d))=>some (.t d,S)
 | some (some (.s d))=>some (.s d,S)
 | some (some _)=>some (.v i,S)
 | _=>none
noncomputable def eC (d:D):GD:=fun S=>some (d,S)
noncomputable def au:GA:=fun S=>some ([],S)
noncomputable def aa (g:GD) (ga:GA):GA:=fun S=>(g S).bind fun p=>(ga p.2).map fun q=>(p.1 :: q.1,q.2)
noncomputable def eP (f:List D→Option U) (ga:GA):GE:=fun S=>(ga S).bind fun p=>(f p.1).map fun u=>(u,p.2)
section
variable {X:Cx}{a b c e:Expr}{es:List Expr}{pos p p2:Pos}{x:Str}{g ga gb gc:GD}{gA:GA}{f f':List D→Option U}
theorem ah (i:Nat) (hN:X.N[i]? =some x:=by rfl) (hv:Ec X.env.scope x:=by first | exact Or.inl rfl | exact Or.inr (Or.inl rfl) | exact Or.inr (Or.inr rfl)) (hd:(x == ("__debug__":Str))=false:=by decide)
  (hcd:(x == ("__classdict__":Str))=false:=by decide):JE X (.Name x pos) (aC i):=⟨fun B=>(iF hN hv hd hcd).imp fun σ H Q ⟨S,F,u,S',R,hg,q⟩=>by
 unfold aC at hg
 cases hs:S[i]? with
 | none=>rw[hs] at hg;cases hg
 | some o=>
  cases o with
  | none=>rw[hs] at hg;cases hg
  | some w=>
   rw[hs] at hg
   obtain⟨v,h1,h2⟩:=R.rep i w hs
   refine⟨v,h1,?_⟩
   cases w with
   | t d=>cases hg;exact q v F H R (Step.refl ..) h2
   | m o=>cases hg;exact q v F H R (Step.refl ..) ⟨h1,_,hs⟩
   | b o=>cases hg;exact q v F H R (Step.refl ..) ⟨h1,_,hs⟩
   | s j=>cases hg;exact q v F H R (Step.refl ..) h2
   | v j=>cases hg;exact q v F H R (Step.refl ..) ⟨h1,_,hs⟩⟩
theorem ET {d:D}(hf:sI d=true) (h:PE X e (tC (toV d))):JD X e (eC d):=⟨fun B=>h.imp fun σ H Q ⟨S,F,u,S',R,hg,q⟩=>by
 cases hg
 exact q _ F H R (Step.refl ..) (zE hf)⟩
theorem ao {i j}:JD X (.Constant (.int i) j pos) (eC (.int i)):=ET rfl Jq
theorem lu {i j}:JD X (.Constant (.bool i) j pos) (eC (.bl i)):=ET rfl Ml
theorem aK {i j}:JD X (.Constant (.str i) j pos) (eC (.str i)):=ET rfl Eg
theorem aH:JA X [] au:=⟨fun B=>uA.imp fun σ H Q ⟨S,F,u,S',R,hg,q⟩=>by
 cases hg
 exact q [] F H R (Step.refl ..) .nil⟩
theorem ak {α β:Type}{o:Option α}{f:α→Option β}{y:β}(h:o.bind f=some y):∃z,o=some z∧f z=some y:=by
 cases o with
 | none=>cases h
 | some z=>exact⟨z,rfl,h⟩
theorem aB {α β:Type}{o:Option α}{f:α→β}{y:β}(h:o.map f=some y):∃z,o=some z∧f z=y:=by
 cases o with
 | none=>cases h
 | some z=>exact⟨z,rfl,Option.some.inj h⟩
theorem aj (h:JD X e g) (hr:JA X es gA) (hs:starEach (e :: es) X.env=(false,eval e X.env) :: starEach es X.env:=by rfl):JA X (e :: es) (aa g gA):=
 ⟨fun B=>(lY (h.h B) (hr.h B) hs).imp fun σ H Q ⟨S,F,u,S',R,hg,q⟩=>by
 obtain⟨⟨d,S1⟩,h1,hg⟩:=ak hg
 obtain⟨⟨ds,S2⟩,h2,hg⟩:=aB hg
 cases hg
 exact⟨S,F,d,S1,R,h1,fun v F1 H1 R1 st1 r1=>⟨S1,F1,ds,S2,R1,h2,fun vs F2 H2 R2 st2 r2=>q _ F2 H2 R2 (st1.trans st2) (.cons (r1.le st2.ext.le) r2)⟩⟩⟩
theorem mj {K:PySem.W.Frag}{B:Base}{σ:St}{H:Hp}{Q:VK}{r:List V→Hp→VK→Prop}(hr:∀vs H1 Q1,rP f vs H1 Q1→r vs H1 Q1) (h:tE K B (eP f gA) σ H Q):Xg K B gA σ H fun vs H1=>r vs H1 Q:=by
 obtain⟨S,F,u,S',R,hg,q⟩:=h
 obtain⟨⟨ds,S1⟩,h1,hg⟩:=ak hg
 obtain⟨u',h2,hg⟩:=aB hg
 cases hg
 exact⟨S,F,ds,S1,R,h1,fun vs F1 H1 R1 st1 r1=>hr _ _ _ ⟨F1,ds,_,R1.sub,r1,h2,fun v F2 H2 n s2 r2=>q v F2 H2 (R1.new n s2) (st1.trans n.step) (r2.Bc R1 st1)⟩⟩
theorem fy {id:String}(hc:gq X (.builtin id) (rP f)) (hg:Gl X x) (hm:X.mg x=none) (hv:bootBuiltins x=some (.builtin id)) (ha:JA X (e :: es) gA) (hn:x≠"__name__":=by decide) (hdb:(x == ("__debug__":Str))=false:=by decide)
  (he:starEach (e :: es) X.env=(false,eval e X.env) :: starEach es X.env:=by rfl) (hpl:(backTo pos (starEach es X.env)).any (·.1)=false:=by rfl):JE X (.Call (.Name x p) (e :: es) [] pos) (eP f gA):=
 ⟨fun B=>(m9 hc hg hm hv (ha.h B) hn hdb he hpl).imp fun σ H Q h=>mj (fun _ _ _ z=>z) h⟩
theorem oh {T:String}(hc:gq X (.type T) (rP f)) (hg:Gl X x) (hm:X.mg x=none) (hv:bootBuiltins x=some (.type T)) (ha:JA X (e :: es) gA) (hn:x≠"__name__":=by decide) (hdb:(x == ("__debug__":Str))=false:=by decide)
  (he:starEach (e :: es) X.env=(false,eval e X.env) :: starEach es X.env:=by rfl) (hpl:(backTo pos (starEach es X.env)).any (·.1)=false:=by rfl):JE X (.Call (.Name x p) (e :: es) [] pos) (eP f gA):=
 ⟨fun B=>(CZ hc hg hm hv (ha.h B) hn hdb he hpl).imp fun σ H Q h=>mj (fun _ _ _ z=>z) h⟩
noncomputable abbrev zf (X:Cx) (o:Value→Value→Sem Value) (f:List D→Option U):Prop:=tM X o (fun x y H Q=>rP f [x,y] H Q)
theorem p6 {K:PySem.W.Frag}{B:Base}{σ:St}{H:Hp}{Q:VK}(h:tE K B (eP f (aa ga (aa gb au))) σ H Q):LF (fun x y H Q=>rP f [x,y] H Q) (tD K B ga) (tD K B gb) σ H Q:=by
 obtain⟨S,F,u,S',R,hg,q⟩:=h
 obtain⟨⟨ds,S1⟩,h1,hg⟩:=ak hg
 obtain⟨u',h2,hg⟩:=aB hg
 cases hg
 obtain⟨⟨d1,T1⟩,k1,h1⟩:=ak h1
 obtain⟨⟨YZ,T2⟩,k2,h1⟩:=aB h1
 cases h1
 obtain⟨⟨d2,T3⟩,k3,k2⟩:=ak k2
 obtain⟨⟨ds3,T4⟩,k4,k2⟩:=aB k2
 cases k2
 cases k4
 exact⟨S,F,d1,T1,R,k1,fun v1 F1 H1 R1 st1 r1=>⟨T1,F1,d2,_,R1,k3,fun v2 F2 H2 R2 st2 r2=>⟨F2,_,_,R2.sub,.cons (r1.le st2.ext.le) (.cons r2 .nil),h2,fun v F3 H3 n s3 r3=>q v F3 H3 (R2.new n s3) ((st1.trans st2).trans n.step) (r3.Bc R2 (st1.trans st2))⟩⟩⟩
theorem bT {op:Operator}(ho:zf X (binaryOp op) f) (ha:JD X a ga) (hb:JD X b gb):JE X (.BinOp a op b pos) (eP f (aa ga (aa gb au))):=
 ⟨fun B=>(Mw ho (ha.h B) (hb.h B)).imp fun σ H Q h=>p6 h⟩
theorem jA {op:CmpOp}(ho:zf X (compareOp op) f) (ha:JD X a ga) (hb:JD X b gb) (hm:behindInMarks op b=false:=by first | exact Ep _ | rfl):JE X (.Compare a [op] [b] pos) (eP f (aa ga (aa gb au))):=
 ⟨fun B=>(GN ho (ha.h B) (hb.h B) hm).imp fun σ H Q h=>p6 h⟩
theorem MY {op:UnaryOp}(ho:Mv X (unaryOp op) (fun x H Q=>rP f [x] H Q)) (ha:JD X a ga):JE X (.UnaryOp op a pos) (eP f (aa ga au)):=
 ⟨fun B=>(Mx ho (ha.h B)).imp fun σ H Q h=>by
 obtain⟨S,F,u,S',R,hg,q⟩:=h
 obtain⟨⟨ds,S1⟩,h1,hg⟩:=ak hg
 obtain⟨u',h2,hg⟩:=aB hg
 cases hg
 obtain⟨⟨d1,T1⟩,k1,h1⟩:=ak h1
 obtain⟨⟨YZ,T2⟩,k2,h1⟩:=aB h1
 cases h1
 cases k2
 exact⟨S,F,d1,_,R,k1,fun v1 F1 H1 R1 st1 r1=>⟨F1,_,_,R1.sub,.cons r1 .nil,h2,fun v F3 H3 n s3 r3=>q v F3 H3 (R1.new n s3) (st1.trans n.step) (r3.Bc R1 st1)⟩⟩⟩
theorem lz (hr:Ez X (fun x y H Q=>rP f [x,y] H Q)) (ha:JD X a ga) (hb:JD X b gb) (hs:xZ b):JE X (.Subscript a b pos) (eP f (aa ga (aa gb au))):=
 ⟨fun B=>(EA hr (ha.h B) (hb.h B) hs).imp fun σ H Q h=>p6 h⟩
noncomputable def dh:List D→Option U:=fun ds=>if ds.length≤100000 then some (.t (.tup ds)) else none
noncomputable def gw:List D→Option U:=fun ds=>if ds.length≤100000 then some (.m (.lst ds)) else none
theorem jF {n:Nat}(h:n≤100000):n≤sizeLine:=Nat.le_trans h (by decide)
end
end L2
end
section
set_option Elab.async false
set_option linter.all false
set_option maxRecDepth 100000
namespace L2
open PySem PySem.Spec PyProof.Rows
section
variable {X:Cx}{a b c e:Expr}{es:List Expr}{pos p p2:Pos}{x:Str}{g ga gb gc:GD}{gA:GA}{f f':List D→Option U}
theorem bD {x1}(h:JA X es gA):JE X (.Tuple es x1 pos) (eP dh gA):=
 ⟨fun B=>(J1 (h.h B)).imp fun σ H Q z=>mj (r:=fun xs H1 Q=>xs.length≤sizeLine∧∀p,H1 p=none→Q (.ref p) (upd H1 p (.tup xs))) (fun vs H1 Q1 ⟨F,ds,u,sb,rs,hf,q⟩=>by
 unfold dh at hf
 split at hf
 ·rename_i hl
  cases hf
  refine⟨by rw[rs.length];exact jF hl,fun p hp=>?_⟩
  exact q _ _ _ (gD.root sb hp _) (sb.uG hp) (.tup aW (rs.le (ni (sb.fresh hp))))
 ·cases hf) z⟩
theorem cL (h:JA X es gA):JE X (.List es pos) (eP gw gA):=
 ⟨fun B=>(J2 (h.h B)).imp fun σ H Q z=>mj (r:=fun xs H1 Q=>xs.length≤sizeLine∧∀p,H1 p=none→Q (.ref p) (upd H1 p (.lst xs))) (fun vs H1 Q1 ⟨F,ds,u,sb,rs,hf,q⟩=>by
 unfold gw at hf
 split at hf
 ·rename_i hl
  cases hf
  refine⟨by rw[rs.length];exact jF hl,fun p hp=>?_⟩
  exact q _ F _ (gD.obj hp _) (sb.same (gD.obj (F:=F) hp _).same) ⟨p,rfl,hp,sb.fresh hp,vs,aW,rs⟩
 ·cases hf) z⟩
noncomputable def qB (g:GD):GT:=fun S=>(g S).bind fun p=>match p.1 with
 | .bl k=>some (k,p.2)
 | _=>none
noncomputable def yg (g:GT):GT:=fun S=>(g S).map fun p=>(!p.1,p.2)
noncomputable def kE (g h:GT):GT:=fun S=>(g S).bind fun p=>if p.1 then h p.2 else some (false,p.2)
noncomputable def AU (g h:GT):GT:=fun S=>(g S).bind fun p=>if p.1 then some (true,p.2) else h p.2
noncomputable def eQ (g:GT):GD:=fun S=>(g S).map fun p=>(.bl p.1,p.2)
theorem oq {S:SS}{k:Bool}{S':SS}(h:qB g S=some (k,S')):g S=some (.bl k,S'):=by
 obtain⟨⟨d,S1⟩,h1,h⟩:=ak h
 cases d <;> cases h
 exact h1
theorem mq {F:Hp}{v:V}{k:Bool}(r:Rep F v (.bl k)):v= .bl k:=by cases r;rfl
theorem ki {F:Hp}{v:V}{i:Int}(r:Rep F v (.int i)):v= .int i:=by cases r;rfl
theorem Cp {F:Hp}{v:V}{i:Str}(r:Rep F v (.str i)):v= .str i:=by cases r;rfl
theorem jQ (h:JD X e g) (he:∀whole,isTrue e X.env whole=(do let v ←whole;standAt e.pos;holding [v] (truthy v)):=by intro _;rfl):JT X e (qB g):=
 ⟨fun B=>(Js (h.h B) he).imp fun σ H Q ⟨S,F,k,S',R,hg,q⟩=>⟨S,F,.bl k,S',R,oq hg,fun v F' H' R' st r=>⟨k,mq r,q F' H' R' st⟩⟩⟩
theorem MZ {K:PySem.W.Frag}{B:Base}{gE:GE}{σ:St}{H:Hp}{Q:VK}(h:tD K B (eF gE) σ H Q):tE K B gE σ H Q:=by
 obtain⟨S,F,d,S',R,hg,q⟩:=h
 obtain⟨⟨u,S1⟩,h1,hg⟩:=ak hg
 refine⟨S,F,u,S1,R,h1,fun v F1 H1 R1 st1 r1=>?_⟩
 obtain⟨F2,R2,st2,r2⟩:=ES R1 st1 r1 hg
 exact q v F2 H1 R2 st2 r2
theorem bG {op:CmpOp}(ho:zf X (compareOp op) f) (ha:JD X a ga) (hb:JD X b gb) (hm:behindInMarks op b=false:=by first | exact Ep _ | rfl):JT X (.Compare a [op] [b] pos) (qB (eF (eP f (aa ga (aa gb au))))):=
 ⟨fun B=>(GO ho (ha.h B) (hb.h B) hm).imp fun σ H Q ⟨S,F,k,S',R,hg,q⟩=>p6 (MZ ⟨S,F,.bl k,S',R,oq hg,fun v F' H' R' st r=>⟨k,mq r,q F' H' R' st⟩⟩)⟩
theorem pq {q1:GT}(h:JT X a q1):JT X (.UnaryOp .Not a pos) (yg q1):=
 ⟨fun B=>(Jt (h.h B)).imp fun σ H Q ⟨S,F,k,S',R,hg,q⟩=>by
 obtain⟨⟨d,S1⟩,h1,hg⟩:=aB hg
 cases hg
 exact⟨S,F,d,_,R,h1,fun F' H' R' st=>q F' H' R' st⟩⟩
theorem fT {q1:GT}(h:JT X a q1):JW X (.BoolOp .And [a] pos) q1:=⟨fun B=>pw_and1 (h.h B)⟩
theorem iH {q1:GT}(h:JT X a q1):JW X (.BoolOp .Or [a] pos) q1:=⟨fun B=>pw_or1 (h.h B)⟩
theorem kF {r:List Expr}{q1 q2:GT}(h:JT X a q1) (hr:JW X (.BoolOp .And (b :: r) pos) q2):JW X (.BoolOp .And (a :: b :: r) pos) (kE q1 q2):=
 ⟨fun B=>(pw_and (h.h B) (hr.h B)).imp fun σ H Q ⟨S,F,k,S',R,hg,q⟩=>by
 obtain⟨⟨d,S1⟩,h1,hg⟩:=ak hg
 refine⟨S,F,d,S1,R,h1,fun F1 H1 R1 st1=>?_⟩
 cases d with
 | true=>exact C7 ⟨S1,F1,k,S',R1,hg,fun F2 H2 R2 st2=>q F2 H2 R2 (st1.trans st2)⟩
 | false=>cases hg;exact C6 (q F1 H1 R1 st1)⟩
theorem oU {r:List Expr}{q1 q2:GT}(h:JT X a q1) (hr:JW X (.BoolOp .Or (b :: r) pos) q2):JW X (.BoolOp .Or (a :: b :: r) pos) (AU q1 q2):=
 ⟨fun B=>(pw_or (h.h B) (hr.h B)).imp fun σ H Q ⟨S,F,k,S',R,hg,q⟩=>by
 obtain⟨⟨d,S1⟩,h1,hg⟩:=ak hg
 refine⟨S,F,d,S1,R,h1,fun F1 H1 R1 st1=>?_⟩
 cases d with
 | false=>exact C6 ⟨S1,F1,k,S',R1,hg,fun F2 H2 R2 st2=>q F2 H2 R2 (st1.trans st2)⟩
 | true=>cases hg;exact C7 (q F1 H1 R1 st1)⟩
theorem JW.t {q1:GT}(h:JW X e q1):JT X e q1:=⟨fun B=>(h.h B).pt⟩
theorem pA {op}(h:JD X a g):JD X (.BoolOp op [a] pos) (eQ (qB g)):=⟨fun B=>(Ju (h.h B)).imp fun σ H Q ⟨S,F,k,S',R,hg,q⟩=>by
 obtain⟨⟨d,S1⟩,h1,hg⟩:=aB hg
 cases hg
 exact⟨S,F,.bl d,_,R,oq h1,q⟩⟩
theorem nj {r:List Expr}{q2:GT}(h:JD X a g) (hr:JD X (.BoolOp .And (b :: r) pos) (eQ q2)):JD X (.BoolOp .And (a :: b :: r) pos) (eQ (kE (qB g) q2)):=
 ⟨fun B=>(Jv (h.h B) (hr.h B)).imp fun σ H Q ⟨S,F,k,S',R,hg,q⟩=>by
 obtain⟨⟨d,S1⟩,h1,hg⟩:=aB hg
 cases hg
 obtain⟨⟨d1,S2⟩,h1,h2⟩:=ak h1
 refine⟨S,F,.bl d1,S2,R,oq h1,fun v F1 H1 R1 st1 r1=>⟨d1,mq r1,?_⟩⟩
 cases d1 with
 | true=>
  have h2:q2 S2=some (d,S1):=h2
  exact C7 ⟨S2,F1,.bl d,S1,R1,by show(q2 S2).map _=_;rw[h2];rfl,fun v F2 H2 R2 st2 r2=>q v F2 H2 R2 (st1.trans st2) r2⟩
 | false=>cases h2;exact C6 (q _ F1 H1 R1 st1 (.bl false))⟩
theorem M0 {r:List Expr}{q2:GT}(h:JD X a g) (hr:JD X (.BoolOp .Or (b :: r) pos) (eQ q2)):JD X (.BoolOp .Or (a :: b :: r) pos) (eQ (AU (qB g) q2)):=
 ⟨fun B=>(Mn (h.h B) (hr.h B)).imp fun σ H Q ⟨S,F,k,S',R,hg,q⟩=>by
 obtain⟨⟨d,S1⟩,h1,hg⟩:=aB hg
 cases hg
 obtain⟨⟨d1,S2⟩,h1,h2⟩:=ak h1
 refine⟨S,F,.bl d1,S2,R,oq h1,fun v F1 H1 R1 st1 r1=>⟨d1,mq r1,?_⟩⟩
 cases d1 with
 | false=>
  have h2:q2 S2=some (d,S1):=h2
  exact C6 ⟨S2,F1,.bl d,S1,R1,by show(q2 S2).map _=_;rw[h2];rfl,fun v F2 H2 R2 st2 r2=>q v F2 H2 R2 (st1.trans st2) r2⟩
 | true=>cases h2;exact C7 (q _ F1 H1 R1 st1 (.bl true))⟩
noncomputable def Y0 (q:GT) (g h:GE):GE:=fun S=>(q S).bind fun p=>if p.1 then g p.2 else h p.2
theorem kg.weak {K:PySem.W.Frag}{B:Base}{S:SS}{σ:St}{H0 H1 F H:Hp}{v:V}(t:∀b o,H0 b=some o→∃o',H1 b=some o'):∀{u:U},kg K B S σ H1 F H v u→kg K B S σ H0 F H v u
 | .t _,h=>h
 | .s _,h=>h
 | .m _,⟨a,e,h0,h⟩=>⟨a,e,none_of t h0,h⟩
 | .v _,h=>h
 | .b _,h=>h
noncomputable def Y3 (f f':List D→Option U) (ga gb gc:GD):GD:=fun S=>(ga S).bind fun p=>(gb p.2).bind fun q=>match f [p.1,q.1] with
 | some (.t (.bl k))=>if k then(gc q.2).bind fun r=>match f' [q.1,r.1] with
   | some (.t (.bl k'))=>some (.bl k',r.2)
   | _=>none
  else some (.bl false,q.2)
 | _=>none
end
end L2
end
section
set_option Elab.async false
set_option linter.all false
set_option maxRecDepth 100000
namespace L2
open PySem PySem.Spec PyProof.Rows
theorem bX {α:Type}{c:Prop}{i:Decidable c}{x w:α}(h:(@ite _ c i (some x) none)=some w):c∧x=w:=by
 by_cases hc:c
 ·rw[if_pos hc] at h;exact⟨hc,Option.some.inj h⟩
 ·rw[if_neg hc] at h;cases h
theorem qN {α:Type}{c:Prop}{i:Decidable c}{x:Option α}{w:α}(h:(@ite _ c i x none)=some w):c∧x=some w:=by
 by_cases hc:c
 ·rw[if_pos hc] at h;exact⟨hc,h⟩
 ·rw[if_neg hc] at h;cases h
theorem EU {F:Hp}{x:V}{ds:List D}(r:bw F [x] ds):∃d,ds=[d]∧Rep F x d:=by
 cases r with
 | cons r rs=>cases rs;exact⟨_,rfl,r⟩
theorem sJ {F:Hp}{x y:V}{ds:List D}(r:bw F [x,y] ds):∃d e,ds=[d,e]∧Rep F x d∧Rep F y e:=by
 cases r with
 | cons r rs=>obtain⟨e,rfl,r2⟩:=EU rs;exact⟨_,e,rfl,r,r2⟩
noncomputable def EV (C:Int→Int→Bool) (h:Int→Int→D):List D→Option U
 | [.int i,.int j]=>if C i j then some (.t (h i j)) else none
 | _=>none
section
variable {X:Cx}
theorem sL {o:Value→Value→Sem Value}{C:Int→Int→Bool}{h:Int→Int→D}{r:R2}(hr:tM X o r) (k:∀i j H Q,C i j=true→Q (toV (h i j)) H→r (.int i) (.int j) H Q) (hf:∀i j,sI (h i j)=true):zf X o (EV C h):=by
 intro pins s σ H x y v u Q I rx ry ⟨F,ds,w,sb,rs,hw,q⟩
 obtain⟨d,e,rfl,r1,r2⟩:=sJ rs
 cases r1 <;> cases r2 <;> try (simp[EV] at hw;done)
 rename_i i j
 obtain⟨hc,rfl⟩:=bX hw
 exact hr pins s σ H _ _ v u Q I rx ry (k i j H Q hc (q _ F H (gD.refl ..) sb (zE (hf i j))))
noncomputable abbrev oK:=EV (fun _ _=>true) fun i j=>.int (i - j)
noncomputable abbrev Kh:=EV (fun _ _=>true) fun i j=>.bl (decide (i < j))
noncomputable abbrev Kl:=EV (fun _ _=>true) fun i j=>.bl (decide (i≤j))
noncomputable abbrev LH:=EV (fun _ _=>true) fun i j=>.bl (decide (j < i))
noncomputable abbrev Hg:=EV (fun _ j=>decide (0 < j) && decide (j < 1073741824)) fun i j=>.int (i / j)
noncomputable abbrev wg:=EV (fun _ j=>decide (0 < j)) fun i j=>.int (i % j)
noncomputable abbrev M3:=EV (fun i j=>decide (0≤j) && (decide (j≤1000) && decide (i.natAbs < 2 ^ 64))) fun i j=>.int (i ^ j.toNat)
theorem fY:zf X (binaryOp .Sub) oK:=sL JR (fun i j H Q _ q=>⟨i,j,rfl,rfl,q⟩) fun _ _=>rfl
theorem qO:zf X (compareOp .Lt) Kh:=sL MA (fun i j H Q _ q=>⟨i,j,rfl,rfl,q⟩) fun _ _=>rfl
theorem qP:zf X (compareOp .LtE) Kl:=sL MB (fun i j H Q _ q=>⟨i,j,rfl,rfl,q⟩) fun _ _=>rfl
theorem uH:zf X (compareOp .Gt) LH:=sL MC (fun i j H Q _ q=>⟨i,j,rfl,rfl,q⟩) fun _ _=>rfl
theorem yh:zf X (binaryOp .FloorDiv) Hg:=sL GL (fun i j H Q c q=>⟨i,j,rfl,rfl,by simpa[Mz] using c,q⟩) fun _ _=>rfl
theorem jG:zf X (binaryOp .Mod) wg:=sL JX (fun i j H Q c q=>⟨i,j,rfl,rfl,by simpa using c,q⟩) fun _ _=>rfl
theorem Hh:zf X (binaryOp .Pow) M3:=sL JY (fun i j H Q c q=>⟨i,j,rfl,rfl,by
 simp only[Bool.and_eq_true,decide_eq_true_eq] at c
 exact⟨c.1,Int.le_trans c.2.1 (by decide),c.2.2⟩,q⟩) fun _ _=>rfl
theorem Sub.kh {F H:Hp}{v:V}{ds:List D}(s:Sub F H) (r:Rep F v (.tup ds)):∃a vs,v= .ref a∧F a=some (.tup vs)∧Rd H a (.tup vs)∧bw F vs ds:=by
 cases r with
 | tup e rs=>exact⟨_,_,rfl,e,Rd.of (s _ _ e),rs⟩
theorem Sub.jl {F H:Hp}{v:V}{ds:List D}(s:Sub F H) (r:Rep F v (.lst ds)):∃a vs,v= .ref a∧F a=some (.lst vs)∧Rd H a (.lst vs)∧bw F vs ds:=by
 cases r with
 | lst e rs=>exact⟨_,_,rfl,e,Rd.of (s _ _ e),rs⟩
theorem _root_.L2.Rd.EE {pins:List (Addr×Obj)}{σ:St}{H:Hp}{s:Shared}(I:Inv X pins σ H s){l:Addr}{xs:List V}(h:Rd H l (.lst xs)):
  xs.length≤sizeLine∧∃its n,Vals xs its∧xs.length=its.length∧s.heap.get? l=some {cls:=.type "list",data:=.seq its.toArray n}:=by
 obtain⟨z,its,n,r,e⟩:=(h.ok I.hok:fM X.prog X.w H s.heap l (.lst xs))
 exact⟨z,its,n,r,r.length,e⟩
noncomputable def iI:List D→Option U
 | [.int i,.int j]=>some (.t (.int (i+j)))
 | [.str i,.str j]=>if i.length+j.length≤100000 then some (.t (.str (i++j))) else none
 | [.tup i,.tup j]=>if i.length+j.length≤100000 then some (.t (.tup (i++j))) else none
 | [.lst i,.lst j]=>if i.length+j.length≤100000 then some (.m (.lst (i++j))) else none
 | _=>none
theorem dY : zf X (binaryOp .Add) iI := by
  intro pins s σ H x y v u Q I rx ry ⟨F,ds,w,sb,rs,hw,q⟩
  obtain⟨d,e,rfl,r1,r2⟩:=sJ rs
  cases d <;> cases e <;> try (simp[iI] at hw;done)
  · rename_i i j
    cases hw
    cases r1
    cases r2
    exact JQ pins s σ H _ _ v u Q I rx ry ⟨i,j,rfl,rfl,q _ F H (gD.refl ..) sb (.int _)⟩
  · rename_i i j
    obtain⟨hl,rfl⟩:=bX hw
    cases r1
    cases r2
    exact A0 pins s σ H _ _ v u Q I rx ry ⟨i,j,rfl,rfl,jF hl,q _ F H (gD.refl ..) sb (.str _)⟩
  · rename_i i j
    obtain⟨hl,rfl⟩:=bX hw
    have Y4:=r2
    have Y5:=r1
    obtain⟨a,xs,rfl,fa,ha,tT⟩:=sb.kh r1
    obtain⟨b,ys,rfl,fb,hb,Hi⟩:=sb.kh r2
    by_cases hx:xs=[]
    · subst hx
      cases tT
      cases rx
      cases ry
      obtain⟨its,r1',p1,_⟩:=I.tuple (.inl ha)
      obtain⟨its2,r2',p2,_⟩:=I.tuple (.inl hb)
      cases r1'
      obtain⟨⟨cls,dd,data,sl⟩,ho,hc,n,hd⟩:=id p1
      obtain⟨⟨Rj,dd2,data2,sl2⟩,ho2,hc2,n2,hd2⟩:=id p2
      simp only at hc hd hc2 hd2
      subst hc hd hc2 hd2
      exact concat_meets ⟨_,ho,rfl⟩ ⟨_,ho2,rfl⟩ noFill_tuple_add seq_tuple_add PySem.F.slot_tuple_add PySem.F.entry_tuple_add (PySem.F.args_tuple_add_2 _ _)
        (tuple_addW0 a b _ _ n n2 dd dd2 sl sl2 (by simp)) ⟨ho,ho2,⟨.ref b,H,I,rfl,q _ F H (gD.refl ..) sb Y4⟩⟩
    · refine G1 pins s σ H (.ref a) (.ref b) v u Q I rx ry ⟨a,b,xs,ys,rfl,rfl,.inl ha,.inl hb,hx,?_,fun hy=>?_,fun hy p hp=>?_⟩
      · rw[tT.length,Hi.length];exact jF hl
      · subst hy
        cases Hi
        exact q _ F H (gD.refl ..) sb (by show Rep F (.ref a) (.tup (i++[]));rw[List.append_nil];exact Y5)
      · exact q _ _ _ (gD.root sb hp _) (sb.uG hp) (.tup aW ((tT.append Hi).le (ni (sb.fresh hp))))
  · rename_i i j
    obtain⟨hl,rfl⟩:=bX hw
    obtain⟨a,xs,rfl,fa,ha,tT⟩:=sb.jl r1
    obtain⟨b,ys,rfl,fb,hb,Hi⟩:=sb.jl r2
    cases rx
    cases ry
    obtain⟨z,its,n,r,hl1,e⟩:=Rd.EE I ha
    obtain⟨z2,its2,n2,r2,hl2,e2⟩:=Rd.EE I hb
    have hlen:xs.length+ys.length≤sizeLine:=by rw[tT.length,Hi.length];exact jF hl
    refine PySem.P.add_list e e2 ?_ (by rw[List.size_toArray,List.size_toArray];omega)
    have ea:its.toArray++its2.toArray=(its++its2).toArray:=by simp
    rw[ea]
    have hp:H s.heap.objs.size=none:=I.fresh
    refine⟨.ref _,_,I.Rn (t':=s.toks) (r.append r2) (by rw[List.length_append];omega),rfl,?_⟩
    exact q _ F _ (gD.obj hp _) (sb.same (gD.obj (F:=F) hp _).same) ⟨_,rfl,hp,sb.fresh hp,_,aW,tT.append Hi⟩
noncomputable def Bd:List D→Option U:=EV (fun i j=>(decide (-(2 ^ 64) < i) && decide (i < 2 ^ 64)) || (decide (-(2 ^ 64) < j) && decide (j < 2 ^ 64))) fun i j=>.int (i * j)
theorem p7:zf X (binaryOp .Mult) Bd:=sL JV (fun i j H Q c q=>⟨i,j,rfl,rfl,by
 simp only[Bool.or_eq_true,Bool.and_eq_true,decide_eq_true_eq] at c
 exact c,q⟩) fun _ _=>rfl
noncomputable def EW:List D→Option U
 | [.int i]=>some (.t (.int (-i)))
 | _=>none
theorem Hj:Mv X (unaryOp .USub) (fun x H Q=>rP EW [x] H Q):=by
 intro pins s σ H x v Q I rx ⟨F,ds,w,sb,rs,hw,q⟩
 obtain⟨d,rfl,r1⟩:=EU rs
 cases r1 <;> try (simp[EW] at hw;done)
 rename_i i
 cases hw
 exact JZ pins s σ H _ v Q I rx ⟨i,rfl,q _ F H (gD.refl ..) sb (.int _)⟩
noncomputable def zg:List D→Option U
 | [.tup ds,.int i]=>(iD ds i).map .t
 | [.lst ds,.int i]=>(iD ds i).map .t
 | [.str z,.int i]=>if z.length≤100000 then(iD z.cps.toList i).map fun c=>.t (.str ⟨#[c]⟩) else none
 | _=>none
theorem qQ:Ez X (fun x y H Q=>rP zg [x,y] H Q):=by
 intro value slice pins s σ H x y v u Q I rx ry ⟨F,ds,w,sb,rs,hw,q⟩ hsb
 obtain⟨d,e,rfl,r1,r2⟩:=sJ rs
 cases d <;> cases e <;> try (simp[zg] at hw;done)
 ·rename_i z i
  obtain⟨hl,hw⟩:=qN hw
  obtain⟨c,hc,hw⟩:=aB hw
  subst hw
  cases r1
  cases r2
  exact EC value slice pins s σ H _ _ v u Q I rx ry ⟨z,i,c,rfl,rfl,jF hl,hc,q _ F H (gD.refl ..) sb (.str _)⟩ hsb
 ·rename_i ds i
  obtain⟨c,hc,hw⟩:=aB (show(iD ds i).map U.t=some w from hw)
  subst hw
  obtain⟨a,xs,rfl,fa,ha,tT⟩:=sb.kh r1
  cases r2
  obtain⟨w',h1,h2⟩:=tT.iD hc
  exact EB value slice pins s σ H _ _ v u Q I rx ry ⟨a,xs,i,w',rfl,rfl,.inl ha,h1,q _ F H (gD.refl ..) sb h2⟩ hsb
 ·rename_i ds i
  obtain⟨c,hc,hw⟩:=aB (show(iD ds i).map U.t=some w from hw)
  subst hw
  obtain⟨a,xs,rfl,fa,ha,tT⟩:=sb.jl r1
  cases r2
  obtain⟨w',h1,h2⟩:=tT.iD hc
  exact Cj value slice pins s σ H _ _ v u Q I rx ry ⟨a,xs,i,w',rfl,rfl,.inl ha,h1,q _ F H (gD.refl ..) sb h2⟩ hsb
noncomputable def uI:List D→Option U
 | [.tup ds]=>some (.t (.int ds.length))
 | [.lst ds]=>some (.t (.int ds.length))
 | [.str z]=>if z.length≤100000 then some (.t (.int z.length)) else none
 | _=>none
theorem qR:gq X (.builtin "len") (rP uI):=by
 intro pins s σ H xs us Q I r ⟨F,ds,w,sb,rs,hw,q⟩
 match xs,ds,rs with
 | [],[],_=>exact absurd hw (by simp[uI])
 | [x],_,rs=>
  obtain⟨d,rfl,r1⟩:=EU rs
  cases d <;> try (simp[uI] at hw;done)
  ·rename_i z
   obtain⟨hl,rfl⟩:=bX hw
   cases r1
   exact pZ pins s σ H _ us Q I r ⟨z,rfl,jF hl,q _ F H (gD.refl ..) sb (.int _)⟩
  ·cases hw
   obtain⟨a,xs,rfl,fa,ha,tT⟩:=sb.kh r1
   exact lZ pins s σ H _ us Q I r ⟨a,xs,rfl,.inr (.inl ha),by rw[tT.length];exact q _ F H (gD.refl ..) sb (.int _)⟩
  ·cases hw
   obtain⟨a,xs,rfl,fa,ha,tT⟩:=sb.jl r1
   exact lZ pins s σ H _ us Q I r ⟨a,xs,rfl,.inl (.inl ha),by rw[tT.length];exact q _ F H (gD.refl ..) sb (.int _)⟩
 | _ :: _ :: _,[],rs=>cases rs
 | _ :: _ :: _,[_],rs=>cases rs with | cons _ rs=>cases rs
 | _ :: _ :: _,_ :: _ :: _,_=>exact absurd hw (by simp[uI])
end
end L2
end
section
set_option Elab.async false
set_option linter.all false
set_option maxRecDepth 100000
namespace L2
open PySem PySem.Spec PyProof.Rows
noncomputable def oM (i:Nat) (u:U) (S:SS):Option SS:=match S[i]? with
 | some (some (.b _))=>none
 | some _=>some (S.set i (some u))
 | none=>none
theorem Dc {i:Nat}{u:U}{S S':SS}(h:oM i u S=some S'):S'=S.set i (some u)∧i < S.length∧∀o,S[i]?≠some (some (.b o)):=by
 unfold oM at h
 cases e:S[i]? with
 | none=>rw[e] at h;cases h
 | some w=>
  have hl:i < S.length:=(List.getElem?_eq_some_iff.mp e).1
  rw[e] at h
  cases w with
  | none=>cases h;exact⟨rfl,hl,fun o z=>by cases z⟩
  | some w=>
   cases w with
   | b o=>cases h
   | t d=>cases h;exact⟨rfl,hl,fun o z=>by cases z⟩
   | m d=>cases h;exact⟨rfl,hl,fun o z=>by cases z⟩
   | v d=>cases h;exact⟨rfl,hl,fun o z=>by cases z⟩
   | s d=>cases h;exact⟨rfl,hl,fun o z=>by cases z⟩
noncomputable def IJ (B:Base) (S:SS) (σ:St) (F H:Hp) (v:V):U→Prop
 | .t d=>Rep F v d
 | .m o=>∃a,v= .ref a∧F a=none∧At F H a o∧¬dc S σ a∧B.H a=none
 | _=>False
theorem Rel.put {K : PySem.W.Frag} {B : Base} {S S' : SS} {σ : St} {F H : Hp} {i : Nat} {u : U} {v : V} (R : Rel K B S σ F H) (h : oM i u S = some S') (p : IJ B S σ F H v u) : Rel K B S' (σ.set i (some v)) F H := by
  obtain⟨rfl,hl,nb⟩:=Dc h
  have hl':i < σ.length:=by rw[←R.len];exact hl
  have out:∀{j:Nat},i≠j→(σ.set i (some v))[j]? =σ[j]?:=fun ne=>List.getElem?_set_ne ne
  have Dd:(σ.set i (some v))[i]? =some (some v):=List.getElem?_set_self hl'
  have IK:∀j w a,i≠j→S[j]? =some (some w)→fS w=true→fS u=true→σ[j]? =some (some (.ref a))→v≠.ref a:=fun j w a ne hj hm hu hv z=>by
    cases u with
    | t d=>cases hu
    | v k=>cases hu
    | s k=>cases hu
    | b o=>exact p
    | m o=>
      obtain⟨c,e,_,_,nm,_⟩:=p
      rw[z] at e
      cases e
      exact nm ⟨j,w,hj,hm,hv⟩
  refine⟨R.sub,by rw[List.length_set,List.length_set];exact R.len,fun j w hj=>?_,fun j k w1 w2 a h1 m1 h2 m2 v1 v2=>?_,fun j o a hj hv=>?_,fun j o a hj hv=>?_,fun j a hj=>?_,R.ext⟩
  · rcases get_set hj with⟨rfl,q,_⟩ | ⟨ne,q⟩
    · cases q
      refine⟨v,Dd,?_⟩
      cases u with
      | t d=>exact p
      | m o=>obtain⟨a,e,f,h,_⟩:=p;exact⟨a,e,f,h⟩
      | b o=>cases p
      | v k=>cases p
      | s k=>cases p
    · rw[out ne];exact R.rep j w q
  · rcases get_set h1 with⟨rfl,q1,_⟩ | ⟨ne1,q1⟩
    · rcases get_set h2 with⟨rfl,q2,_⟩ | ⟨ne2,q2⟩
      · rfl
      · cases q1
        rw[Dd] at v1
        rw[out ne2] at v2
        cases v1
        exact absurd rfl (IK k w2 a ne2 q2 m2 m1 v2)
    · rcases get_set h2 with⟨rfl,q2,_⟩ | ⟨ne2,q2⟩
      · cases q2
        rw[Dd] at v2
        rw[out ne1] at v1
        cases v2
        exact absurd rfl (IK j w1 a ne1 q1 m1 m2 v1)
      · rw[out ne1] at v1
        rw[out ne2] at v2
        exact R.Cn j k w1 w2 a q1 m1 q2 m2 v1 v2
  · rcases get_set hj with⟨rfl,q,_⟩ | ⟨ne,q⟩
    · cases q
      rw[Dd] at hv
      cases hv
      obtain⟨c,e,_,_,_,hB⟩:=p
      cases e
      exact hB
    · rw[out ne] at hv;exact R.own j o a q hv
  · rcases get_set hj with⟨rfl,q,_⟩ | ⟨ne,q⟩
    · cases q;cases p
    · rw[out ne] at hv;exact R.bor j o a q hv
  · obtain⟨h1,o,h2⟩:=R.par j a hj
    have ne:i≠j:=fun z=>by subst z;exact nb o h2
    exact⟨by rw[out ne];exact h1,o,by rw[List.getElem?_set_ne ne];exact h2⟩
noncomputable def fL:GS:=fun S=>some (.nx S)
noncomputable def bA (a b:GS):GS:=fun S=>(a S).bind fun o=>match o with
 | .nx S1=>b S1
 | o=>some o
noncomputable def dj (i:Nat) (g:GE):GS:=fun S=>(g S).bind fun p=>match p.1 with
 | .m o=>(oM i (.m o) p.2).map .nx
 | u=>(fz u p.2).bind fun q=>(oM i (.t q.1) q.2).map .nx
noncomputable def wY (g:GE):GS:=fun S=>(g S).map fun p=>.nx p.2
noncomputable def cC (g:GE):GS:=fun S=>(g S).bind fun p=>match p.1 with
 | .v i=>match p.2[i]? with
  | some (some (.t d))=>some (.rt (.t d) p.2)
  | some (some (.m o))=>some (.rt (.m o) (p.2.set i none))
  | _=>none
 | .s _=>none
 | u=>some (.rt u p.2)
noncomputable def M4:GS:=fun S=>some (.rt (.t .cI) S)
noncomputable def mZ (q:GT) (a b:GS):GS:=fun S=>(q S).bind fun p=>if p.1 then a p.2 else b p.2
theorem Co.mono {K:PySem.W.Frag}{B:Base}{F F1:Hp}{D:Ends}(g:∀b o,F b=some o→F1 b=some o):∀{o:Out},Co K B F D o→Co K B F1 D o
 | .nx _,h=>fun σ' F' H' R le=>h σ' F' H' R fun b o z=>le b o (g b o z)
 | .bk _,h=>fun σ' F' H' R le=>h σ' F' H' R fun b o z=>le b o (g b o z)
 | .ct _,h=>fun σ' F' H' R le=>h σ' F' H' R fun b o z=>le b o (g b o z)
 | .rt _ _,h=>fun v σ' F' H' R le=>h v σ' F' H' R fun b o z=>le b o (g b o z)
section
variable {X:Cx}{a b c e:Expr}{pos p p2:Pos}{x:Str}{st:Stmt}{rest b1 b2 body:List Stmt}{g:GE}{s1 s2:GS}{q1:GT}
theorem bY:JB X [] fL:=⟨fun B=>GG.imp fun D σ H ⟨S,F,o,R,h,k⟩=>by cases h;exact k σ F H R fun _ _ z=>z⟩
theorem aF (h1:JS X st s1) (h2:JB X rest s2):JB X (st :: rest) (bA s1 s2):=⟨fun B=>(Ej (h1.h B) (h2.h B)).imp fun D σ H ⟨S,F,o,R,h,k⟩=>by
 obtain⟨o1,e1,h⟩:=ak h
 refine⟨S,F,o1,R,e1,?_⟩
 cases o1 with
 | nx S1=>exact fun σ' F' H' R' le=>⟨S1,F',o,R',h,k.mono le⟩
 | rt u S1=>cases h;exact k
 | bk S1=>cases h;exact k
 | ct S1=>cases h;exact k⟩
theorem aO (h1:JS X st s1):JB X [st] s1:=⟨fun B=>GH (h1.h B)⟩
theorem kg.put {K:PySem.W.Frag}{B:Base}{S:SS}{σ:St}{H0 F H:Hp}{v:V}{o:MO}(r:kg K B S σ H0 F H v (.m o)):IJ B S σ F H v (.m o):=by
 obtain⟨a,e,_,f,h,n,hB⟩:=r
 exact⟨a,e,f,h,n,hB⟩
theorem Hl {i:Nat}{K:PySem.W.Frag}{B:Base}{D:Ends}{σ:St}{H:Hp}(h:tO K B (dj i g) D σ H):Jz (tE K B g) (zo i) D σ H:=by
 obtain⟨S,F,o,R,h,k⟩:=h
 obtain⟨⟨u,S1⟩,h1,h⟩:=ak h
 refine⟨S,F,u,S1,R,h1,fun v F1 H1 R1 st1 r1=>?_⟩
 have go:(∀o',u≠.m o')→(fz u S1).bind (fun q=>(oM i (.t q.1) q.2).map Out.nx)=some o→D.nx (σ.set i (some v)) H1:=fun _ h=>by
  obtain⟨⟨d,S2⟩,h2,h⟩:=ak h
  obtain⟨S3,h3,h⟩:=aB h
  subst h
  obtain⟨F2,R2,st2,r2⟩:=ES R1 st1 r1 h2
  exact k _ F2 H1 (R2.put h3 r2) st2.ext.le
 cases u with
 | m o'=>
  obtain⟨S3,h3,h⟩:=aB (show(oM i (.m o') S1).map Out.nx=some o from h)
  subst h
  exact k _ F1 H1 (R1.put h3 r1.put) st1.ext.le
 | t d=>exact go (fun _ z=>by cases z) h
 | b d=>exact go (fun _ z=>by cases z) h
 | s d=>exact go (fun _ z=>by cases z) h
 | v d=>exact go (fun _ z=>by cases z) h
theorem bR {i:Nat}{pos':Pos}(hN:X.N.Nodup) (hi:X.N[i]? =some x) (hx:Loc X.env.scope x) (he:JE X e g) (hs:swapsWith e (some (.Name x pos')) pos.line X.env=pure false:=by rfl)
  (hf:X.fn x=true∨X.env.scope.names.lookup x=some .local:=by first | exact .inl rfl | exact .inr rfl | assumption):JS X (.Assign [.Name x pos'] e pos) (dj i g):=
 ⟨fun B=>(JF hN hi hx (he.h B) hs hf).imp fun D σ H h=>Hl h⟩
theorem um (he:JE X e g) (hs:swapsWith e none pos.line X.env=pure false:=by rfl):JS X (.Expr e pos) (wY g):=⟨fun B=>(GJ (he.h B) hs).imp fun D σ H ⟨S,F,o,R,h,k⟩=>by
 obtain⟨⟨u,S1⟩,h1,h⟩:=aB h
 subst h
 exact⟨S,F,u,S1,R,h1,fun v F1 H1 R1 st1 r1=>k σ F1 H1 R1 st1.ext.le⟩⟩
theorem Rel.drop {K:PySem.W.Frag}{B:Base}{S:SS}{σ:St}{F H:Hp}{i:Nat}{o:MO}(R:Rel K B S σ F H) (h:S[i]? =some (some (.m o))):Rel K B (S.set i none) σ F H:=by
 have back:∀{j w},(S.set i none)[j]? =some (some w)→i≠j∧S[j]? =some (some w):=fun {j w} z=>by
  rcases get_set z with⟨_,q,_⟩ | q
  ·cases q
  ·exact q
 refine⟨R.sub,by rw[List.length_set];exact R.len,fun j w z=>R.rep j w (back z).2,fun j k w1 w2 a h1 m1 h2 m2=>R.Cn j k w1 w2 a (back h1).2 m1 (back h2).2 m2,fun j o a z=>R.own j o a (back z).2,fun j o a z=>R.bor j o a (back z).2,fun j a z=>?_,R.ext⟩
 obtain⟨k1,o',k2⟩:=R.par j a z
 have ne:i≠j:=fun z=>by subst z;rw[h] at k2;cases k2
 exact⟨k1,o',by rw[List.getElem?_set_ne ne];exact k2⟩
theorem aV (he:JE X e g):JS X (.Return (some e) pos) (cC g):=⟨fun B=>(Jw (he.h B)).imp fun D σ H ⟨S,F,o,R,h,k⟩=>by
  obtain⟨⟨u,S1⟩,h1,h⟩:=ak h
  refine⟨S,F,u,S1,R,h1,fun v F1 H1 R1 st1 r1=>?_⟩
  cases u with
  | t d=>cases h;exact k v σ F1 H1 R1 st1.ext.le r1
  | b d=>cases h;cases r1
  | s d=>cases h
  | m o'=>cases h;exact k v σ F1 H1 R1 st1.ext.le (by obtain⟨a,e,h0,f,h,n,hB⟩:=r1;exact⟨a,e,hB,f,h,n,hB⟩)
  | v i =>
    obtain⟨hv,w,hw⟩:=r1
    dsimp only at h
    rw[hw] at h
    obtain⟨v',z1,z2⟩:=R1.rep i w hw
    rw[hv] at z1
    cases z1
    cases w with
    | t d=>cases h;exact k v σ F1 H1 R1 st1.ext.le z2
    | b d=>cases h
    | v d=>cases h
    | s d=>cases h
    | m o'=>
      cases h
      obtain⟨a,rfl,f,ha⟩:=z2
      have hB:=R1.own i o' a hw hv
      refine k _ σ F1 H1 (R1.drop hw) st1.ext.le ⟨a,rfl,hB,f,ha,fun⟨j,w,z,hm,hj⟩=>?_,hB⟩
      rcases get_set z with⟨_,q,_⟩ | ⟨ne,q⟩
      · cases q
      · exact ne (R1.Cn i j _ w a hw rfl q hm hv hj)⟩
theorem cT (hc:JT X c q1) (ha:JB X b1 s1) (hb:JB X b2 s2):JS X (.If c b1 b2 pos) (mZ q1 s1 s2):=⟨fun B=>(Mr (hc.h B) (ha.h B) (hb.h B)).imp fun D σ H ⟨S,F,o,R,h,k⟩=>by
 obtain⟨⟨d,S1⟩,h1,h⟩:=ak h
 refine⟨S,F,d,S1,R,h1,fun F1 H1 R1 st1=>?_⟩
 cases d with
 | true=>exact C7 ⟨S1,F1,o,R1,h,k.mono st1.ext.le⟩
 | false=>exact C6 ⟨S1,F1,o,R1,h,k.mono st1.ext.le⟩⟩
noncomputable abbrev GB:=D→SS→Option SS
noncomputable def Y6 (K:PySem.W.Frag) (B:Base) (bd:GB):TG:=fun v σ H Q=>∃S F d S',Rel K B S σ F H∧Rep F v d∧bd d S=some S'∧∀σ',Rel K B S' σ' F H→Q σ' H
structure JG (X:Cx) (tg:Expr) (bd:GB):Prop where
 h:∀B,PG X tg (Y6 X.K B bd)
noncomputable abbrev IL:=List D→SS→Option SS
theorem PG.imp {tg:Expr}{t t':TG}(h:PG X tg t) (k:∀v σ H Q,t' v σ H Q→t v σ H Q):PG X tg t':=fun pins s σ H v u Q I r q=>h pins s σ H v u Q I r (k v σ H Q q)
theorem Q2.imp {tg:List Expr}{t t':W2}(h:Q2 X tg t) (k:∀v σ H Q,t' v σ H Q→t v σ H Q):Q2 X tg t':=fun pins s σ H v u Q I r q=>h pins s σ H v u Q I r (k v σ H Q q)
noncomputable def bName (i:Nat):GB:=fun d S=>oM i (.t d) S
theorem ou {i:Nat}(hN:X.N.Nodup) (hi:X.N[i]? =some x) (hx:Loc X.env.scope x) (hf:X.fn x=true∨X.env.scope.names.lookup x=some .local:=by first | exact .inl rfl | exact .inr rfl | assumption):JG X (.Name x pos) (bName i):=
 ⟨fun B=>(Ca hN hi hx hf).imp fun v σ H Q ⟨S,F,d,S',R,r,h,k⟩=>k _ (R.put h r)⟩
noncomputable def RK:IL:=fun ds S=>match ds with
 | []=>some S
 | _=>none
noncomputable def M5 (b:GB) (bs:IL):IL:=fun ds S=>match ds with
 | d :: r=>(b d S).bind fun S1=>bs r S1
 | []=>none
noncomputable def RL (n:Nat) (bs:IL):GB:=fun d S=>match d with
 | .tup ds=>if ds.length=n then bs ds S else none
 | _=>none
noncomputable def RM (bd:GB) (g:GD):GS:=fun S=>(g S).bind fun p=>(bd p.1 p.2).map .nx
noncomputable def Walk (J:It) (F:Hp) (ds:List D):Prop:=∀F' H',(∀b o,F b=some o→F' b=some o)→Sub F' H'→∀i,(∀d,ds[i]? =some d→J.go i H'∧∀x H2,J.Pe i H' x H2→H2=H'∧Rep F' x d)∧(ds.length≤i→J.stop i H')
noncomputable abbrev GI:=SS→Option (List D×SS)
noncomputable def Xh (K:PySem.W.Frag) (B:Base) (gi:GI):TI:=fun σ H R=>∃S F ds S',Rel K B S σ F H∧gi S=some (ds,S')∧∀J F' H',Rel K B S' σ F' H'→Step S S' σ F H F' H'→Walk J F' ds→R J H'
structure JI (X:Cx) (tg e:Expr) (gi:GI):Prop where
 h:∀B,PI X tg e (Xh X.K B gi)
theorem PI.orelse {tg:Expr}{wi:TI}(h:∀σ H R,wi σ H R→∃wi',PI X tg e wi'∧wi' σ H R):PI X tg e wi:=fun pins s σ H R I q=>let⟨_,h1,h2⟩:=h σ H R q;h1 pins s σ H R I h2
noncomputable def RN (g:GD):GI:=fun S=>(g S).bind fun p=>match p.1 with
 | .tup ds=>some (ds,p.2)
 | .lst ds=>some (ds,p.2)
 | _=>none
noncomputable def p8 (g:GD):GI:=fun S=>(g S).bind fun p=>match p.1 with
 | .tup ds=>some (ds,p.2)
 | .lst ds=>some (ds,p.2)
 | .str z=>some (z.cps.toList.map fun c=>.str ⟨#[c]⟩,p.2)
 | _=>none
theorem De {K:PySem.W.Frag}{F:Hp}{a:Addr}{vs:List V}{ds:List D}(fa:F a=some (.lst vs)) (rs:bw F vs ds):Walk (Q5 K a) F ds:=fun F' H' le sb i=>by
 have ha:oH K H' a vs:=.inl (Rd.of (sb a _ (le _ _ fa)))
 refine⟨fun d hd=>?_,fun hl=>⟨vs,ha,by rw[rs.length];exact hl⟩⟩
 obtain⟨v,h1,h2⟩:=rs.get hd
 refine⟨⟨vs,v,ha,h1⟩,fun x H2 y=>⟨y.1,?_⟩⟩
 have:=y.2 vs ha
 rw[h1] at this
 cases this
 exact h2.le le
theorem EX {K:PySem.W.Frag}{F:Hp}{a:Addr}{vs:List V}{ds:List D}(fa:F a=some (.tup vs)) (rs:bw F vs ds):Walk (Q6 K a) F ds:=fun F' H' le sb i=>by
 have ha:xT K H' a vs:=.inl (Rd.of (sb a _ (le _ _ fa)))
 refine⟨fun d hd=>?_,fun hl=>⟨vs,ha,by rw[rs.length];exact hl⟩⟩
 obtain⟨v,h1,h2⟩:=rs.get hd
 refine⟨⟨vs,v,ha,h1⟩,fun x H2 y=>⟨y.1,?_⟩⟩
 have:=y.2 vs ha
 rw[h1] at this
 cases this
 exact h2.le le
theorem EY {F:Hp}{z:Str}:Walk (RG z) F (z.cps.toList.map fun c=>.str ⟨#[c]⟩):=fun F' H' le sb i=>by
 refine⟨fun d hd=>?_,fun hl=>(show z.cps.size≤i by simpa using hl)⟩
 rw[List.getElem?_map] at hd
 obtain⟨c,hc,rfl⟩:=aB hd
 have hc':z.cps[i]? =some c:=by rw[←Array.getElem?_toList];exact hc
 refine⟨(Array.getElem?_eq_some_iff.mp hc').1,fun x H2 y=>⟨y.1,?_⟩⟩
 obtain⟨c2,k1,rfl⟩:=y.2
 rw[hc'] at k1
 cases k1
 exact .str _
theorem mw {gd:GD}(h:JD X e gd):JI X (.Name x pos) e (p8 gd):=⟨fun B=>PI.orelse fun σ H R0 ⟨S,F,ds,S',R,hg,k⟩=>by
 obtain⟨⟨d,S1⟩,h1,hg⟩:=ak hg
 cases d <;> try (cases hg)
 ·refine⟨_,Ke (h.h B),S,F,_,_,R,h1,fun v F1 H1 R1 st1 r1=>?_⟩
  exact⟨_,Cp r1,k _ F1 H1 R1 st1 EY⟩
 ·refine⟨_,JH (h.h B),S,F,_,_,R,h1,fun v F1 H1 R1 st1 r1=>?_⟩
  obtain⟨a,vs,rfl,fa,ha,rs⟩:=R1.sub.kh r1
  exact⟨a,rfl,⟨vs,.inl ha⟩,k _ F1 H1 R1 st1 (EX fa rs)⟩
 ·refine⟨_,GK (h.h B),S,F,_,_,R,h1,fun v F1 H1 R1 st1 r1=>?_⟩
  obtain⟨a,vs,rfl,fa,ha,rs⟩:=R1.sub.jl r1
  exact⟨a,rfl,⟨vs,.inl ha⟩,k _ F1 H1 R1 st1 (De fa rs)⟩⟩
noncomputable def AR (lo:Int) (n:Nat):List D:=(List.range n).map fun(k:Nat)=>D.int (lo+(k:Int))
noncomputable def uJ (gA:GA):GI:=fun S=>(gA S).bind fun p=>match p.1 with
 | [.int j]=>if j < 1000000∧-1000000 < j then some (AR 0 j.toNat,p.2) else none
 | _=>none
noncomputable def M6 (gA:GA):GI:=fun S=>(gA S).bind fun p=>match p.1 with
 | [.int i,.int j]=>if i < 1000000∧-1000000 < i∧j < 1000000∧-1000000 < j then some (AR i (j - i).toNat,p.2) else none
 | _=>none
theorem EZ {F:Hp}{lo:Int}{n:Nat}:Walk (Pf lo n) F (AR lo n):=fun F' H' le sb i=>by
 refine⟨fun d hd=>?_,fun hl=>(show n≤i by simpa[AR] using hl)⟩
 unfold AR at hd
 rw[List.getElem?_map] at hd
 obtain⟨c,hc,rfl⟩:=aB hd
 obtain⟨hl,e⟩:=List.getElem?_eq_some_iff.mp hc
 rw[List.getElem_range] at e
 subst e
 refine⟨show i < n by simpa using hl,fun x H2 y=>⟨y.1,?_⟩⟩
 rw[y.2]
 exact .int _
theorem Df {tg : Expr} {gA : GA} (hg : Gl X "range") (hm : X.mg "range" = none) (ha : JA X [a] gA) (hs : starEach [a] X.env = [(false, eval a X.env)] := by rfl) : JI X tg (.Call (.Name "range" p) [a] [] pos) (uJ gA) :=
  ⟨fun B=>PI.orelse fun σ H R0 ⟨S,F,ds,S',R,hg',k⟩=>by
  obtain⟨⟨d,S1⟩,h1,hg'⟩:=ak hg'
  refine⟨_,CT hg hm (ha.h B) hs,S,F,d,S1,R,h1,fun vs F1 H1 R1 st1 r1=>?_⟩
  dsimp only at hg'
  split at hg'
  · split at hg'
    · rename_i j hj
      cases hg'
      cases r1 with
      | cons r rs=>
        cases rs
        exact⟨j,by rw[ki r],by omega,by omega,k _ F1 H1 R1 st1 EZ⟩
    · cases hg'
  · cases hg'⟩
noncomputable def loop (bd:GB) (body:GS):List D→SS→Option Out
 | [],S=>some (.nx S)
 | d :: ds,S=>(bd d S).bind fun S1=>(body S1).bind fun o=>match o with
  | .nx S2=>loop bd body ds S2
  | .ct S2=>loop bd body ds S2
  | .bk S2=>some (.nx S2)
  | .rt u S2=>some (.rt u S2)
noncomputable def tU (bd:GB) (gi:GI) (body:GS):GS:=fun S=>(gi S).bind fun p=>loop bd body p.1 p.2
theorem qT {tg iter:Expr}{bd:GB}{gi:GI}(hp:PassesOwn (model X.prog X.w) X.A X.env X.xe) (hc:X.calm=true) (hi:JI X tg iter gi) (hg:JG X tg bd) (hb:JB X body s1) (hs:∀x,foldedSetIterable iter X.env x=pure x:=by intro _;rfl):
  JS X (.For tg iter body [] pos) (tU bd gi s1):=⟨fun B=>(JJ hp hc (hi.h B) (hg.h B) (hb.h B) hs).imp fun D σ H ⟨S,F,o,R,h,k⟩=>by
 obtain⟨⟨ds,S1⟩,h1,h⟩:=ak h
 refine⟨S,F,ds,S1,R,h1,fun J F1 H1 R1 st1 w=>?_⟩
 refine⟨fun i m σ' H'=>∃S' F',Rel X.K B S' σ' F' H'∧(∀b o,F1 b=some o→F' b=some o)∧i≤ds.length∧m=ds.length - i∧loop bd s1 (ds.drop i) S'=some o,⟨_,S1,F1,R1,fun _ _ z=>z,Nat.zero_le _,rfl,h⟩,?_⟩
 rintro i m σ' H' ⟨S',F',R',le,hl,rfl,nk⟩
 have w':=w F' H' le R'.sub i
 by_cases hlt:i < ds.length
 ·have hd:ds[i]? =some ds[i]:=List.getElem?_eq_getElem hlt
  obtain⟨go,yl⟩:=w'.1 _ hd
  rw[List.drop_eq_getElem_cons hlt] at nk
  obtain⟨S2,e2,nk⟩:=ak nk
  obtain⟨o2,e3,nk⟩:=ak nk
  refine .inr ⟨go,_,fun σ2 H2 n=>⟨ds.length - (i+1),by omega,n⟩,fun x H2 y=>?_⟩
  obtain⟨rfl,rx⟩:=yl x H2 y
  refine⟨S',F',_,S2,R',rx,e2,fun σ3 R3=>⟨S2,F',o2,R3,e3,?_⟩⟩
  cases o2 with
  | nx S3=>exact fun M7 F4 H4 R4 Km=>⟨S3,F4,R4,fun b o z=>Km b o (le b o z),hlt,rfl,nk⟩
  | ct S3=>exact fun M7 F4 H4 R4 Km=>⟨S3,F4,R4,fun b o z=>Km b o (le b o z),hlt,rfl,nk⟩
  | bk S3=>cases nk;exact fun M7 F4 H4 R4 Km=>k M7 F4 H4 R4 fun b o z=>Km b o (le b o (st1.ext.le b o z))
  | rt u S3=>cases nk;exact fun v M7 F4 H4 R4 Km=>k v M7 F4 H4 R4 fun b o z=>Km b o (le b o (st1.ext.le b o z))
 ·have e:i=ds.length:=by omega
  subst e
  rw[List.drop_length] at nk
  cases nk
  exact .inl ⟨w'.2 (Nat.le_refl _),k σ' F' H' R' fun b o z=>le b o (st1.ext.le b o z)⟩⟩
end
end L2
end
section
set_option Elab.async false
set_option linter.all false
set_option maxRecDepth 100000
namespace L2
open PySem PySem.Spec PyProof.Rows
noncomputable def LI:U→MO→Option U
 | .m _,o=>some (.m o)
 | .b _,o=>some (.b o)
 | _,_=>none
noncomputable def LJ:U→Option MO
 | .m o=>some o
 | .b o=>some o
 | _=>none
noncomputable def yi (S:SS) (i:Nat) (f:MO→Option (D×MO)):Option (D×SS):=match S[i]? with
 | some (some (.m o))=>(f o).map fun r=>(r.1,S.set i (some (.m r.2)))
 | some (some (.b o))=>(f o).map fun r=>(r.1,S.set i (some (.b r.2)))
 | _=>none
theorem At.M8 {F H:Hp}{a:Addr}{o:MO}{ob:Obj}{u:HO}(h:At F H a o):H a≠some (.jE ob u):=fun z=>by
 cases o with
 | lst ds=>obtain⟨vs,e,_⟩:=h;rw[z] at e;cases e
 | dct ds=>obtain⟨vs,e,_⟩:=h;rw[z] at e;cases e
 | yf ds=>obtain⟨vs,e,_⟩:=h;rw[z] at e;cases e
theorem we.dc {K:PySem.W.Frag}{F H:Hp}{v:V}{u:U}(r:we K F H v u) (hm:fS u=true):∃a o,v= .ref a∧F a=none∧LJ u=some o∧At F H a o:=by
 cases u with
 | t d=>cases hm
 | v d=>cases hm
 | s d=>cases hm
 | m o=>obtain⟨a,e,f,h⟩:=r;exact⟨a,o,e,f,rfl,h⟩
 | b o=>obtain⟨a,e,f,h⟩:=r;exact⟨a,o,e,f,rfl,h⟩
theorem Rel.write {K : PySem.W.Frag} {B : Base} {S : SS} {σ : St} {F H : Hp} {i : Nat} {u u' : U} {a : Addr} {ho : HO} {o : MO} (R : Rel K B S σ F H) (hS : S[i]? = some (some u)) (hu : LI u o = some u') (hv : σ[i]? = some (some (.ref a))) (ha : At F (upd H a ho) a o) :
    Rel K B (S.set i (some u')) σ F (upd H a ho)∧Step S (S.set i (some u')) σ F H F (upd H a ho):=by
  have hm:fS u=true∧fS u'=true:=by cases u <;> cases hu <;> exact⟨rfl,rfl⟩
  have M9:F a=none∧∀b ob w,H b=some (.jE ob w)→b≠a:=by
    obtain⟨v,h1,h2⟩:=R.rep i u hS
    rw[hv] at h1
    cases h1
    obtain⟨b,_,e,f,_,k⟩:=h2.dc hm.1
    cases e
    exact⟨f,fun b ob w z e=>k.M8 (by rw[e] at z;exact z)⟩
  have Na:=M9.1
  have LK:∀b ob w,H b=some (.jE ob w)→upd H a ho b=some (.jE ob w):=fun b ob w z=>by rw[aT (M9.2 b ob w z)];exact z
  have Y7:L2.dc S σ a:=⟨i,u,hS,hm.1,hv⟩
  have hl:i < S.length:=(List.getElem?_eq_some_iff.mp hS).1
  have kb:∀{j w},(S.set i (some u'))[j]? =some (some w)→(i=j∧u'=w)∨(i≠j∧S[j]? =some (some w)):=fun {j w} z=>by
    rcases get_set z with⟨e,q,_⟩ | q
    · exact .inl ⟨e,Option.some.inj q⟩
    · exact .inr q
  have orig:∀{j w},(S.set i (some u'))[j]? =some (some w)→fS w=true→∃w0,S[j]? =some (some w0)∧fS w0=true:=fun {j w} z hw=>by
    rcases kb z with⟨rfl,rfl⟩ | ⟨_,q⟩
    · exact⟨u,hS,hm.1⟩
    · exact⟨w,q,hw⟩
  have keepR:∀b o,b≠a→Rd H b o→Rd (upd H a ho) b o:=fun b o ne r=>by
    rcases r with r | ⟨ob,r⟩
    · exact .inl (by rw[aT ne];exact r)
    · exact .inr ⟨ob,by rw[aT ne];exact r⟩
  refine⟨⟨fun b o z=>by rw[aT (fun e=>by rw[e,Na] at z;cases z)];exact R.sub b o z,by rw[List.length_set];exact R.len,fun j w z=>?_,fun j k w1 w2 c z1 m1 z2 m2=>?_,fun j o' c z hc=>?_,fun j o' c z hc=>?_,fun j c z=>?_,?_⟩,⟨?_,fun c ⟨j,w,z,hw,hc⟩=>?_,fun j w z=>?_⟩⟩
  · rcases kb z with⟨rfl,rfl⟩ | ⟨ne,q⟩
    · refine⟨.ref a,hv,?_⟩
      cases u <;> cases hu
      · exact⟨a,rfl,Na,ha⟩
      · exact⟨a,rfl,Na,ha⟩
    · obtain⟨v,h1,h2⟩:=R.rep j w q
      refine⟨v,h1,?_⟩
      by_cases hw:fS w=true
      · obtain⟨c,o',rfl,f,e,h⟩:=h2.dc hw
        have hca:c≠a:=fun z=>ne (R.Cn i j u w a hS hm.1 q hw hv (by rw[h1,z]))
        have h':At F (upd H a ho) c o':=h.le (fun _ _ z=>z) fun o z=>by rw[aT hca];exact z
        cases w <;> cases hw <;> cases e
        · exact⟨c,rfl,f,h'⟩
        · exact⟨c,rfl,f,h'⟩
      · cases w with
        | t d=>exact h2
        | v d=>exact h2
        | s d=>obtain⟨c,e,h⟩:=h2;exact⟨c,e,h.le LK⟩
        | m o=>exact absurd rfl hw
        | b o=>exact absurd rfl hw
  · obtain⟨RO,q1,n1⟩:=orig z1 m1
    obtain⟨RP,q2,n2⟩:=orig z2 m2
    exact R.Cn j k RO RP c q1 n1 q2 n2
  · rcases kb z with⟨rfl,rfl⟩ | ⟨_,q⟩
    · cases u <;> cases hu
      exact R.own _ _ c hS hc
    · exact R.own j o' c q hc
  · rcases kb z with⟨rfl,rfl⟩ | ⟨_,q⟩
    · cases u <;> cases hu
      exact R.bor _ _ c hS hc
    · exact R.bor j o' c q hc
  · obtain⟨k1,o',k2⟩:=R.par j c z
    refine⟨k1,?_⟩
    by_cases e:i=j
    · subst e
      rw[hS] at k2
      cases k2
      cases hu
      exact⟨o,List.getElem?_set_self hl⟩
    · exact⟨o',by rw[List.getElem?_set_ne e];exact k2⟩
  · refine⟨R.ext.le,fun b o z n=>?_,R.ext.jy,fun b o z=>?_,fun b o w z=>LK b o w (R.ext.jE b o w z)⟩
    · have hb:b≠a:=fun e=>by
        subst e
        cases u with
        | m o'=>rw[R.own i o' b hS hv] at z;cases z
        | b o'=>exact n (R.bor i o' b hS hv)
        | t d=>cases hu
        | v d=>cases hu
        | s d=>cases hu
      rw[aT hb]
      exact R.ext.keep b o z n
    · by_cases hb:b=a
      · exact⟨ho,by rw[hb,aW]⟩
      · rw[aT hb];exact R.ext.there b o z
  · refine⟨fun _ _ z=>z,fun b o z n=>?_,fun _ _ _ _ z=>z,fun b o z=>?_,LK⟩
    · rw[aT (fun e=>n (by rw[e];exact Y7))];exact z
    · by_cases hb:b=a
      · exact⟨ho,by rw[hb,aW]⟩
      · exact⟨o,by rw[aT hb];exact z⟩
  · obtain⟨w0,q,n⟩:=orig z hw
    exact⟨j,w0,q,n,hc⟩
  · by_cases e:i=j
    · subst e;exact⟨u',List.getElem?_set_self hl⟩
    · exact⟨w,by rw[List.getElem?_set_ne e];exact z⟩
theorem qU {S S':SS}{i:Nat}{f:MO→Option (D×MO)}{d:D}(h:yi S i f=some (d,S')):∃u u' o o',S[i]? =some (some u)∧fS u=true∧LJ u=some o∧f o=some (d,o')∧LI u o'=some u'∧S'=S.set i (some u'):=by
 unfold yi at h
 split at h
 ·rename_i o e
  obtain⟨⟨d',o'⟩,h1,h⟩:=aB h
  cases h
  exact⟨_,_,o,o',e,rfl,rfl,h1,rfl,rfl⟩
 ·rename_i o e
  obtain⟨⟨d',o'⟩,h1,h⟩:=aB h
  cases h
  exact⟨_,_,o,o',e,rfl,rfl,h1,rfl,rfl⟩
 ·cases h
noncomputable def Xi (r:V→List V→Hp→VK→Prop) (h:List D→MO→Option (D×MO)):Prop:=
 ∀F H a vs xs ds args res o',Sub F H→H a=some (.lst vs)→F a=none→bw F vs ds→bw F xs args→h args (.lst ds)=some (res,o')→
  ∀Q:VK,(∀rv ho,Rep F rv res→At F (upd H a ho) a o'→Q rv (upd H a ho))→r (.ref a) xs H Q
noncomputable def dX:MO→Bool
 | .lst _=>true
 | _=>false
noncomputable def Nb (S:SS) (i:Nat):Bool:=match S[i]? with
 | some (some (.m (.lst _)))=>true
 | some (some (.b (.lst _)))=>true
 | _=>false
theorem Kn {K:PySem.W.Frag}{B:Base}{S:SS}{σ:St}{F H:Hp}{i:Nat}(R:Rel K B S σ F H) (h:Nb S i=true):∃u a vs ds,S[i]? =some (some u)∧fS u=true∧LJ u=some (.lst ds)∧σ[i]? =some (some (.ref a))∧F a=none∧H a=some (.lst vs)∧bw F vs ds:=by
 unfold Nb at h
 split at h
 ·rename_i ds e
  obtain⟨v,k1,a,rfl,f,vs,k2,k3⟩:=R.rep i _ e
  exact⟨_,a,vs,ds,e,rfl,rfl,k1,f,k2,k3⟩
 ·rename_i ds e
  obtain⟨v,k1,a,rfl,f,vs,k2,k3⟩:=R.rep i _ e
  exact⟨_,a,vs,ds,e,rfl,rfl,k1,f,k2,k3⟩
 ·cases h
noncomputable def eM (i:Nat) (h:List D→MO→Option (D×MO)) (gA:GA):GD:=fun S=>if Nb S i then(gA S).bind fun p=>yi p.2 i (h p.1) else none
theorem E1 {K:PySem.W.Frag}{B:Base}{S:SS}{σ:St}{F H:Hp}{i:Nat}{a:Addr}{u:U}{ds:List D}(R:Rel K B S σ F H) (hS:S[i]? =some (some u)) (hm:fS u=true) (hi:LJ u=some (.lst ds)) (hv:σ[i]? =some (some (.ref a))):F a=none∧∃vs,H a=some (.lst vs)∧bw F vs ds:=by
 obtain⟨v,k1,k2⟩:=R.rep i u hS
 rw[hv] at k1
 cases k1
 obtain⟨b,o2,e1,f,e2,k⟩:=k2.dc hm
 cases e1
 rw[hi] at e2
 cases e2
 exact⟨f,k⟩
section
variable {X:Cx}{a b c e:Expr}{es:List Expr}{pos p p2 apos cpos px:Pos}{x name:Str}{g ga gb gc:GD}{gA:GA}{id:String}
theorem Cq {i:Nat}{r:V→List V→Hp→VK→Prop}{h:List D→MO→Option (D×MO)}(slot:Slot "list" name id) (hty:typeOf (.builtin id)=pure (.type "method_descriptor")) (hm:J8 X id r) (hh:Xi r h) (hl:∀args o,dX o=false→h args o=none) (ha:JA X (e :: es) gA)
  (hN:X.N[i]? =some x:=by rfl) (hv:Ec X.env.scope x:=by first | exact Or.inl rfl | exact Or.inr (Or.inl rfl) | exact Or.inr (Or.inr rfl))
  (hbase:attributeBase (.Name x px) name X.env (eval (.Name x px) X.env)=eval (.Name x px) X.env:=by rfl)
  (hfew:((backTo cpos (starEach (e :: es) X.env)).all (fun x=>!x.1) && (backToKw cpos (keywordEach [] X.env)).all (fun x=>x.1.isSome)
   && decide ((e :: es).length+([]:List Keyword).length+(if([]:List Keyword).isEmpty then 0 else 1) < 30))=true:=by rfl)
  (hline:(apos.endLine == cpos.line)=true:=by rfl) (hs:starEach (e :: es) X.env=(false,eval e X.env) :: starEach es X.env:=by rfl) (hplain:(backTo cpos (starEach es X.env)).any (·.1)=false:=by rfl)
  (hd:(x == ("__debug__":Str))=false:=by decide) (hcd:(x == ("__classdict__":Str))=false:=by decide):
  JD X (.Call (.Attribute (.Name x px) name apos) (e :: es) [] cpos) (eM i h gA):=
 ⟨fun B=>(MT PySem.F.plainAttrs_list slot hty hm (iF hN hv hd hcd) (ha.h B) hbase hfew hline hs hplain).imp fun σ H Q ⟨S,F,d,S',R,hg,q⟩=>by
 unfold eM at hg
 split at hg
 ·rename_i hL
  obtain⟨⟨args,S1⟩,h1,hg⟩:=ak hg
  obtain⟨u,u',o,o',hS,IM,hio,hf,Ko,rfl⟩:=qU hg
  obtain⟨u0,a,W7,ds0,_,_,_,hv0,_,hH,_⟩:=Kn R hL
  cases o with
  | dct kvs=>rw[hl _ _ rfl] at hf;cases hf
  | yf kvs=>rw[hl _ _ rfl] at hf;cases hf
  | lst ds=>
   refine⟨.ref a,hv0,.inl ⟨rfl,W7,oH.of hH⟩,S,F,args,S1,R,h1,fun xs F1 H1 R1 st1 r1=>?_⟩
   obtain⟨hf1,vs,Y8,rs⟩:=E1 R1 hS IM hio hv0
   refine hh F1 H1 a vs xs ds args d o' R1.sub Y8 hf1 rs r1 hf Q fun rv ho rr ha=>?_
   obtain⟨R2,st2⟩:=R1.write hS Ko hv0 ha
   exact q rv F1 _ R2 (st1.trans st2) rr
 ·cases hg⟩
noncomputable def hAppend:List D→MO→Option (D×MO)
 | [d],.lst ds=>if ds.length < 100000 then some (.cI,.lst (ds++[d])) else none
 | _,_=>none
noncomputable def zF:List D→MO→Option (D×MO)
 | [],.lst ds=>some (.cI,.lst ds.reverse)
 | _,_=>none
theorem bw.reverse {F:Hp}:∀{vs:List V}{ds:List D},bw F vs ds→bw F vs.reverse ds.reverse
 | _,_,.nil=>.nil
 | _,_,.cons r rs=>by rw[List.reverse_cons,List.reverse_cons];exact(bw.reverse rs).append (.cons r .nil)
end
end L2
end
section
set_option Elab.async false
set_option linter.all false
set_option maxRecDepth 100000
namespace L2
open PySem PySem.Spec PyProof.Rows
theorem kg.step {K:PySem.W.Frag}{B:Base}{S S':SS}{σ:St}{H0 F H F' H':Hp}{v:V}{u:U}(r:kg K B S σ H0 F H v u) (st:Step S S' σ F H F' H'):kg K B S' σ H0 F' H' v u:=by
 cases u with
 | t d=>exact r.le st.ext.le
 | b o=>exact r
 | v i=>obtain⟨h1,u,h2⟩:=r;exact⟨h1,st.slots i u h2⟩
 | s i=>obtain⟨a,e,h⟩:=r;exact⟨a,e,h.le st.ext.jE⟩
 | m o=>
  obtain⟨a,e,h0,f,h,n,hB⟩:=r
  obtain⟨ho,hh⟩:=h.has
  exact⟨a,e,h0,st.ext.jy a ho hh n f,h.le st.ext.le fun o z=>st.ext.keep a o z n,fun m=>n (st.mu a m),hB⟩
noncomputable abbrev GU:=SS→Option (List U×SS)
noncomputable def Y9 (K:PySem.W.Frag) (B:Base) (gu:GU):TA:=fun σ H Q=>∃S F us S',Rel K B S σ F H∧gu S=some (us,S')∧∀vs F' H',Rel K B S' σ F' H'→Step S S' σ F H F' H'→Paired (fun v u=>kg K B S' σ H F' H' v u) vs us→Q vs H'
structure JU (X:Cx) (es:List Expr) (gu:GU):Prop where
 h:∀B,PA X es (Y9 X.K B gu)
 len:∀S us S',gu S=some (us,S')→us.length=es.length
noncomputable def bM:GU:=fun S=>some ([],S)
noncomputable def aP (g:GD) (gu:GU):GU:=fun S=>(g S).bind fun p=>(gu p.2).map fun q=>(.t p.1 :: q.1,q.2)
noncomputable def fB (g:GE) (gu:GU):GU:=fun S=>(g S).bind fun p=>(gu p.2).map fun q=>(p.1 :: q.1,q.2)
section
variable {X:Cx}{e:Expr}{es:List Expr}{g:GD}{ge:GE}{gu:GU}
theorem aR:JU X [] bM:=⟨fun B=>uA.imp fun σ H Q ⟨S,F,us,S',R,hg,q⟩=>by
 cases hg
 exact q [] F H R (Step.refl ..) .nil,fun S us S' h=>by cases h;rfl⟩
theorem aD (h:JD X e g) (hr:JU X es gu) (hs:starEach (e :: es) X.env=(false,eval e X.env) :: starEach es X.env:=by rfl):JU X (e :: es) (aP g gu):=
 ⟨fun B=>(lY (h.h B) (hr.h B) hs).imp fun σ H Q ⟨S,F,us,S',R,hg,q⟩=>by
 obtain⟨⟨d,S1⟩,h1,hg⟩:=ak hg
 obtain⟨⟨Kp,S2⟩,h2,hg⟩:=aB hg
 cases hg
 exact⟨S,F,d,S1,R,h1,fun v F1 H1 R1 st1 r1=>⟨S1,F1,Kp,S2,R1,h2,fun vs F2 H2 R2 st2 r2=>q _ F2 H2 R2 (st1.trans st2) (.cons (r1.le st2.ext.le) (Paired.CN r2 fun _ _ z=>z.weak st1.ext.there))⟩⟩,
 fun S us S' hg=>by
  obtain⟨⟨d,S1⟩,h1,hg⟩:=ak hg
  obtain⟨⟨Kp,S2⟩,h2,hg⟩:=aB hg
  cases hg
  show Kp.length+1=es.length+1
  rw[hr.len _ _ _ h2]⟩
theorem cA (h:JE X e ge) (hr:JU X es gu) (hs:starEach (e :: es) X.env=(false,eval e X.env) :: starEach es X.env:=by rfl):JU X (e :: es) (fB ge gu):=
 ⟨fun B=>(lY (h.h B) (hr.h B) hs).imp fun σ H Q ⟨S,F,us,S',R,hg,q⟩=>by
 obtain⟨⟨d,S1⟩,h1,hg⟩:=ak hg
 obtain⟨⟨Kp,S2⟩,h2,hg⟩:=aB hg
 cases hg
 exact⟨S,F,d,S1,R,h1,fun v F1 H1 R1 st1 r1=>⟨S1,F1,Kp,S2,R1,h2,fun vs F2 H2 R2 st2 r2=>q _ F2 H2 R2 (st1.trans st2) (.cons (r1.step st2) (Paired.CN r2 fun _ _ z=>z.weak st1.ext.there))⟩⟩,
 fun S us S' hg=>by
  obtain⟨⟨d,S1⟩,h1,hg⟩:=ak hg
  obtain⟨⟨Kp,S2⟩,h2,hg⟩:=aB hg
  cases hg
  show Kp.length+1=es.length+1
  rw[hr.len _ _ _ h2]⟩
end
noncomputable def resolve (S:SS):U→Option U
 | .t d=>some (.t d)
 | .v i=>match S[i]? with
  | some (some (.m o))=>some (.b o)
  | some (some (.b o))=>some (.b o)
  | _=>none
 | .m o=>some (.b o)
 | .b _=>none
 | .s ns=>some (.s ns)
noncomputable def cU (S:SS):List U→Option (List U)
 | []=>some []
 | u :: us=>(resolve S u).bind fun w=>(cU S us).map fun ws=>w :: ws
noncomputable def slotsOf:List U→List Nat
 | []=>[]
 | .v i :: us=>i :: slotsOf us
 | _ :: us=>slotsOf us
noncomputable def cV:List U→Nat
 | []=>0
 | .m _ :: us=>cV us+1
 | _ :: us=>cV us
noncomputable def wb:List U→List MO→SS→Option SS
 | [],[],S=>some S
 | .v i :: us,o :: outs,S=>match S[i]? with
  | some (some (.m _))=>wb us outs (S.set i (some (.m o)))
  | some (some (.b _))=>wb us outs (S.set i (some (.b o)))
  | _=>none
 | .m _ :: us,_ :: outs,S=>wb us outs S
 | .t _ :: us,outs,S=>wb us outs S
 | .s _ :: us,outs,S=>wb us outs S
 | _,_,_=>none
noncomputable abbrev FM:=List U→Option (U×List MO)
noncomputable def aU (f:FM) (gu:GU):GE:=fun S=>(gu S).bind fun p=>
 if(slotsOf p.1).Nodup∧cV p.1≤1 then(cU p.2 p.1).bind fun us=>(f us).bind fun r=>(wb p.1 r.2 p.2).map fun S2=>(r.1,S2) else none
noncomputable def E2 (K:PySem.W.Frag) (F H:Hp) (v:V):U→Prop
 | .s ns=>∃a,v= .ref a∧Hf K H a ns
 | .t d=>Rep F v d
 | .b o=>∃a,v= .ref a∧F a=none∧At F H a o
 | _=>False
noncomputable def addrs:List V→List U→List Addr
 | .ref a :: vs,.b _ :: us=>a :: addrs vs us
 | _ :: vs,_ :: us=>addrs vs us
 | _,_=>[]
structure Post (F H F' H':Hp) (as:List Addr) (outs:List MO):Prop where
 sub:Sub F' H'
 ext:Ext (fun a=>a∈as) F H F' H'
 out:Paired (fun a o=>F' a=none∧At F' H' a o) as outs
noncomputable def spT (K:PySem.W.Frag) (n:Nat) (f:FM):Sp:=fun vs H Q _=>vs.length=n∧∃F us r outs,Sub F H∧Paired (E2 K F H) vs us∧(addrs vs us).Nodup∧f us=some (r,outs)∧∀v F' H',Post F H F' H' (addrs vs us) outs→zD H F' H' v r→Q v H'
section
variable {K:PySem.W.Frag}{B:Base}{S S1 S2:SS}{σ:St}{H0 F H F' H':Hp}
theorem ow {i:Nat}{w:U}(h:resolve S (.v i)=some w):∃u o,S[i]? =some (some u)∧fS u=true∧LJ u=some o∧w= .b o:=by
 unfold resolve at h
 dsimp only at h
 split at h
 ·rename_i o e;cases h;exact⟨_,o,e,rfl,rfl,rfl⟩
 ·rename_i o e;cases h;exact⟨_,o,e,rfl,rfl,rfl⟩
 ·cases h
theorem yj (R:Rel K B S σ F H):∀{vs:List V}{us ws:List U},Paired (fun v u=>kg K B S σ H0 F H v u) vs us→cU S us=some ws→Paired (E2 K F H) vs ws
 | _,_,_,.nil,h=>by cases h;exact .nil
 | _,_,_,@Paired.cons _ _ _ v u vs us r rs,h=>by
  obtain⟨w,h1,h⟩:=ak h
  obtain⟨ws,h2,h⟩:=aB h
  subst h
  refine .cons ?_ (yj R rs h2)
  cases u with
  | t d=>cases h1;exact r
  | s d=>cases h1;exact r
  | b o=>cases h1
  | m o=>cases h1;obtain⟨a,e,_,f,k,_⟩:=r;exact⟨a,e,f,k⟩
  | v i=>
   obtain⟨u,o,hu,hm,hi,rfl⟩:=ow h1
   obtain⟨hv,_⟩:=r
   obtain⟨v',k1,k2⟩:=R.rep i u hu
   rw[hv] at k1
   cases k1
   obtain⟨a,o2,e,f,e2,k⟩:=k2.dc hm
   rw[hi] at e2
   cases e2
   exact⟨a,e,f,k⟩
theorem p9 (R : Rel K B S σ F H) : ∀ {vs : List V} {us ws : List U}, Paired (fun v u => kg K B S σ H0 F H v u) vs us → cU S us = some ws → ∀ a ∈ addrs vs ws,
    (∃i u,i∈slotsOf us∧S[i]? =some (some u)∧fS u=true∧σ[i]? =some (some (.ref a)))∨(0 < cV us∧H0 a=none∧B.H a=none∧¬dc S σ a)
  | _,_,_,.nil,h,a,ha=>by cases h;cases ha
  | _,_,_,@Paired.cons _ _ _ v u vs us r rs,h,a,ha=>by
    obtain⟨w,h1,h⟩:=ak h
    obtain⟨ws,h2,h⟩:=aB h
    subst h
    have ih:=p9 R rs h2
    cases u with
    | t d=>
      cases h1
      have ha:a∈addrs vs ws:=by cases v <;> exact ha
      exact ih a ha
    | s d=>
      cases h1
      have ha:a∈addrs vs ws:=by cases v <;> exact ha
      exact ih a ha
    | b o=>cases h1
    | m o =>
      cases h1
      obtain⟨c,rfl,k0,f,k,n,hB⟩:=r
      rcases List.mem_cons.mp (show a∈c :: addrs vs ws from ha) with rfl | ha
      · exact .inr ⟨Nat.succ_pos _,k0,hB,n⟩
      · rcases ih a ha with z | ⟨_,z⟩
        · exact .inl z
        · exact .inr ⟨Nat.succ_pos _,z⟩
    | v i =>
      obtain⟨u,o,hu,hm,hi,rfl⟩:=ow h1
      obtain⟨hv,_⟩:=r
      obtain⟨v',k1,k2⟩:=R.rep i u hu
      rw[hv] at k1
      cases k1
      obtain⟨c,o2,rfl,f,e2,k⟩:=k2.dc hm
      rcases List.mem_cons.mp (show a∈c :: addrs vs ws from ha) with rfl | ha
      · exact .inl ⟨i,u,List.mem_cons_self,hu,hm,hv⟩
      · rcases ih a ha with⟨j,w,z,z2⟩ | z
        · exact .inl ⟨j,w,List.mem_cons_of_mem _ z,z2⟩
        · exact .inr z
theorem gM (R : Rel K B S σ F H) : ∀ {vs : List V} {us ws : List U}, Paired (fun v u => kg K B S σ H0 F H v u) vs us → cU S us = some ws → (slotsOf us).Nodup → cV us ≤ 1 → (addrs vs ws).Nodup
  | _,_,_,.nil,h,_,_=>by cases h;exact List.nodup_nil
  | _,_,_,@Paired.cons _ _ _ v u vs us r rs,h,nd,fr=>by
    obtain⟨w,h1,h⟩:=ak h
    obtain⟨ws,h2,h⟩:=aB h
    subst h
    cases u with
    | t d=>
      cases h1
      have:=gM R rs h2 nd fr
      cases v <;> exact this
    | s d=>
      cases h1
      have:=gM R rs h2 nd fr
      cases v <;> exact this
    | b o=>cases h1
    | m o=>
      cases h1
      have fr0:cV us=0:=by have:cV us+1≤1:=fr;omega
      obtain⟨c,rfl,k0,f,k,n,hB⟩:=r
      refine List.nodup_cons.mpr ⟨fun hc=>?_,gM R rs h2 nd (by omega)⟩
      rcases p9 R rs h2 c hc with⟨j,w,_,z1,z2,z3⟩ | ⟨z,_⟩
      · exact n ⟨j,w,z1,z2,z3⟩
      · omega
    | v i =>
      obtain⟨u,o,hu,hm,hi,rfl⟩:=ow h1
      obtain⟨hv,_⟩:=r
      obtain⟨v',k1,k2⟩:=R.rep i u hu
      rw[hv] at k1
      cases k1
      obtain⟨c,o2,rfl,f,e2,k⟩:=k2.dc hm
      obtain⟨RQ,RS⟩:=List.nodup_cons.mp (show(i :: slotsOf us).Nodup from nd)
      refine List.nodup_cons.mpr ⟨fun hc=>?_,gM R rs h2 RS fr⟩
      rcases p9 R rs h2 c hc with⟨j,w,z0,z1,z2,z3⟩ | ⟨_,_,_,z⟩
      · have:=R.Cn i j u w c hu hm z1 z2 hv z3
        subst this
        exact RQ z0
      · exact z ⟨i,u,hu,hm,hv⟩
theorem qb (R : Rel K B S σ F H) (P : Addr → MO → Prop) : ∀ {vs : List V} {us ws : List U} {outs : List MO} {S1 S2 : SS}, Paired (fun v u => kg K B S σ H0 F H v u) vs us → cU S us = some ws → wb us outs S1 = some S2 → (slotsOf us).Nodup → Paired P (addrs vs ws) outs →
    S2.length=S1.length∧(∀j,j∉slotsOf us→S2[j]? =S1[j]?)∧∀j∈slotsOf us,∃u u' o a,S1[j]? =some (some u)∧LI u o=some u'∧S2[j]? =some (some u')∧σ[j]? =some (some (.ref a))∧P a o
  | _,_,_,_,_,_,.nil,h,hw,_,hp=>by
    cases h
    cases hp
    cases hw
    exact⟨rfl,fun _ _=>rfl,fun j hj=>by cases hj⟩
  | _, _, _, outs, S1, S2, @Paired.cons _ _ _ v u vs us r rs, h, hw, nd, hp => by
    obtain⟨w,h1,h⟩:=ak h
    obtain⟨ws,h2,h⟩:=aB h
    subst h
    cases u with
    | t d =>
      cases h1
      have hp:Paired P (addrs vs ws) outs:=by cases v <;> exact hp
      have hw:wb us outs S1=some S2:=by
        cases outs <;> exact hw
      have ih:=qb R P rs h2 hw nd hp
      exact ih
    | s d =>
      cases h1
      have hp:Paired P (addrs vs ws) outs:=by cases v <;> exact hp
      have hw:wb us outs S1=some S2:=by
        cases outs <;> exact hw
      have ih:=qb R P rs h2 hw nd hp
      exact ih
    | b o=>cases h1
    | m o =>
      cases h1
      obtain⟨c,rfl,k0,f,k,n,hB⟩:=r
      cases hp with
      | cons p1 p2=>
        have ih:=qb R P rs h2 (show wb us _ S1=some S2 from hw) nd p2
        exact ih
    | v i =>
      obtain⟨u0,o0,hu,hm,hi,rfl⟩:=ow h1
      obtain⟨hv,_⟩:=r
      obtain⟨v',k1,k2⟩:=R.rep i u0 hu
      rw[hv] at k1
      cases k1
      obtain⟨c,o2,rfl,f,e2,k⟩:=k2.dc hm
      obtain⟨RQ,RS⟩:=List.nodup_cons.mp (show(i :: slotsOf us).Nodup from nd)
      cases hp with
      | @cons _ o _ outs p1 p2 =>
        have go : ∀ u u', S1[i]? = some (some u) → LI u o = some u' → wb us outs (S1.set i (some u')) = some S2 → S2.length = S1.length ∧ (∀ j, j ∉ i :: slotsOf us → S2[j]? = S1[j]?) ∧ ∀ j ∈ i :: slotsOf us, ∃ u u' o a, S1[j]? = some (some u) ∧ LI u o = some u' ∧ S2[j]? = some (some u') ∧ σ[j]? = some (some (.ref a)) ∧ P a o := fun u u' e1 e2 hw => by
          obtain⟨l,out,Dd⟩:=qb R P rs h2 hw RS p2
          refine⟨by rw[l,List.length_set],fun j hj=>?_,fun j hj=>?_⟩
          · rw[out j fun z=>hj (List.mem_cons_of_mem _ z),List.getElem?_set_ne fun z=>hj (by rw[z];exact List.mem_cons_self)]
          · by_cases e:i=j
            · subst e
              exact⟨u,u',o,c,e1,e2,by rw[out i RQ];exact List.getElem?_set_self (List.getElem?_eq_some_iff.mp e1).1,hv,p1⟩
            · rcases List.mem_cons.mp hj with z | z
              · exact absurd z.symm e
              · obtain⟨w,w',o',a',q1,q2,q3,q4,q5⟩:=Dd j z
                rw[List.getElem?_set_ne e] at q1
                exact⟨w,w',o',a',q1,q2,q3,q4,q5⟩
        unfold wb at hw
        split at hw
        · rename_i o' e;exact go _ _ e rfl hw
        · rename_i o' e;exact go _ _ e rfl hw
        · cases hw
end
theorem pB {K : PySem.W.Frag} {B : Base} {S0 S S2 : SS} {σ : St} {F0 H0 F H F' H' : Hp} {vs : List V} {us ws : List U} {outs : List MO} (R : Rel K B S σ F H) (st : Step S0 S σ F0 H0 F H) (rr : Paired (fun v u => kg K B S σ H0 F H v u) vs us) (hr : cU S us = some ws) (hw : wb us outs S = some S2) (nd : (slotsOf us).Nodup) (p : Post F H F' H' (addrs vs ws) outs) :
    Rel K B S2 σ F' H'∧Step S0 S2 σ F0 H0 F' H'∧∀a,dc S2 σ a→dc S σ a:=by
  obtain⟨hl,out,Dd⟩:=qb R (fun a o=>F' a=none∧At F' H' a o) rr hr hw nd p.out
  have Za:∀{u:U}{o:MO}{u':U},LI u o=some u'→fS u=true∧fS u'=true∧LJ u'=some o:=fun {u o u'} h=>by cases u <;> cases h <;> exact⟨rfl,rfl,rfl⟩
  have orig:∀{j w},S2[j]? =some (some w)→fS w=true→∃w0,S[j]? =some (some w0)∧fS w0=true:=fun {j w} z hm=>by
    by_cases hj:j∈slotsOf us
    · obtain⟨u,u',o,a,q1,q2,q3,q4,q5⟩:=Dd j hj
      exact⟨u,q1,(Za q2).1⟩
    · rw[out j hj] at z;exact⟨w,z,hm⟩
  have mu:∀a,dc S2 σ a→dc S σ a:=fun a ⟨j,w,z,hm,hv⟩=>let⟨w0,q,n⟩:=orig z hm;⟨j,w0,q,n,hv⟩
  have Cr:=p9 R rr hr
  refine⟨⟨p.sub,by rw[hl];exact R.len,fun j w z=>?_,fun j k w1 w2 c z1 m1 z2 m2=>?_,fun j o a z hv=>?_,fun j o a z hv=>?_,fun j a z=>?_,?_⟩,⟨⟨?_,?_,?_,?_,fun b o u z=>p.ext.jE b o u (st.ext.jE b o u z)⟩,fun a m=>st.mu a (mu a m),fun j u z=>?_⟩,mu⟩
  · by_cases hj:j∈slotsOf us
    · obtain⟨u,u',o,a,q1,q2,q3,q4,q5,q6⟩:=Dd j hj
      rw[q3] at z
      cases z
      refine⟨.ref a,q4,?_⟩
      cases u <;> cases q2
      · exact⟨a,rfl,q5,q6⟩
      · exact⟨a,rfl,q5,q6⟩
    · rw[out j hj] at z
      obtain⟨v,h1,h2⟩:=R.rep j w z
      refine⟨v,h1,h2.le p.ext.le p.ext.jE fun a hm ha=>?_⟩
      have hna:a∉addrs vs ws:=fun hc=>by
        rcases Cr a hc with⟨i,u,q0,q1,q2,q3⟩ | ⟨_,_,_,q⟩
        · have:=R.Cn i j u w a q1 q2 z hm q3 (by rw[h1,ha])
          subst this
          exact hj q0
        · exact q ⟨j,w,z,hm,by rw[h1,ha]⟩
      obtain⟨c,o,e,f,_,k⟩:=h2.dc hm
      rw[ha] at e
      cases e
      obtain⟨ho,hh⟩:=k.has
      exact⟨fun o q=>p.ext.keep a o q hna,p.ext.jy a ho hh hna f⟩
  · obtain⟨RO,q1,n1⟩:=orig z1 m1
    obtain⟨RP,q2,n2⟩:=orig z2 m2
    exact R.Cn j k RO RP c q1 n1 q2 n2
  · by_cases hj:j∈slotsOf us
    · obtain⟨u,u',o',a',q1,q2,q3,q4,q5⟩:=Dd j hj
      rw[q3] at z
      cases z
      cases u <;> cases q2
      exact R.own j _ a q1 hv
    · rw[out j hj] at z;exact R.own j o a z hv
  · by_cases hj:j∈slotsOf us
    · obtain⟨u,u',o',a',q1,q2,q3,q4,q5⟩:=Dd j hj
      rw[q3] at z
      cases z
      cases u <;> cases q2
      exact R.bor j _ a q1 hv
    · rw[out j hj] at z;exact R.bor j o a z hv
  · obtain⟨k1,o,k2⟩:=R.par j a z
    refine⟨k1,?_⟩
    by_cases hj:j∈slotsOf us
    · obtain⟨u,u',o',a',q1,q2,q3,q4,q5⟩:=Dd j hj
      rw[k2] at q1
      cases q1
      cases q2
      exact⟨_,q3⟩
    · exact⟨o,by rw[out j hj];exact k2⟩
  · refine R.ext.trans p.ext fun b hb=>?_
    rcases Cr b hb with⟨i,u,q0,q1,q2,q3⟩ | ⟨_,_,q,_⟩
    · cases u with
      | t d=>cases q2
      | v d=>cases q2
      | s d=>cases q2
      | m o=>exact .inr (R.own i o b q1 q3)
      | b o=>exact .inl (R.bor i o b q1 q3)
    · exact .inr q
  · exact fun b o h=>p.ext.le b o (st.ext.le b o h)
  · intro b o h n
    refine p.ext.keep b o (st.ext.keep b o h n) fun hb=>?_
    rcases Cr b hb with⟨i,u,q0,q1,q2,q3⟩ | ⟨_,q,_⟩
    · exact n (st.mu b ⟨i,u,q1,q2,q3⟩)
    · rw[h] at q;cases q
  · intro b o h n f
    refine p.ext.jy b o (st.ext.keep b o h n) (fun hb=>?_) (st.ext.jy b o h n f)
    rcases Cr b hb with⟨i,u,q0,q1,q2,q3⟩ | ⟨_,q,_⟩
    · exact n (st.mu b ⟨i,u,q1,q2,q3⟩)
    · rw[h] at q;cases q
  · intro b o h
    obtain⟨o',h'⟩:=st.ext.there b o h
    exact p.ext.there b o' h'
  · obtain⟨u',h'⟩:=st.slots j u z
    by_cases hj:j∈slotsOf us
    · obtain⟨_,u2,_,_,_,_,q3,_⟩:=Dd j hj
      exact⟨u2,q3⟩
    · exact⟨u',by rw[out j hj];exact h'⟩
section
variable {X:Cx}{e:Expr}{es:List Expr}{gu:GU}{x:Str}{p pos:Pos}{f:FM}{fa:Addr}{fd:FuncData}{ps:List Str}{k n:Nat}
theorem aI (F:br X.prog X.w X.K X.mg X.base dW k fa fd ps (spT X.K n f)) (hr:jz k X.A) (hg:Gl X x) (hm:X.mg x=some (.ref fa)) (hk:PySem.W.keepIn X.K (.ref fa)=true) (hb:Binds X.K fd ps []) (ha:JU X (e :: es) gu) (hn:(e :: es).length=n:=by rfl)
  (hdb:(x == ("__debug__":Str))=false:=by decide) (he:starEach (e :: es) X.env=(false,eval e X.env) :: starEach es X.env:=by rfl) (hpl:(backTo pos (starEach es X.env)).any (·.1)=false:=by rfl):
  JE X (.Call (.Name x p) (e :: es) [] pos) (aU f gu):=⟨fun B=>(GP F hr hg hm hk hb .nil IF (ha.h B) hdb he hpl).imp fun σ H Q ⟨S,F0,u,S',R,hg,q⟩=>by
 obtain⟨⟨us,S1⟩,h1,hg⟩:=ak hg
 dsimp only at hg
 split at hg
 ·rename_i hc
  obtain⟨ws,h2,hg⟩:=ak hg
  obtain⟨⟨r,outs⟩,h3,hg⟩:=ak hg
  obtain⟨S2,h4,hg⟩:=aB hg
  cases hg
  refine⟨S,F0,us,S1,R,h1,fun vs F1 H1 R1 st1 rr=>?_⟩
  show spT X.K n f (vs++[]) H1 Q E0
  rw[List.append_nil]
  have hlen:vs.length=n:=by rw[rr.length,ha.len _ _ _ h1];exact hn
  refine⟨hlen,F1,ws,r,outs,R1.sub,yj R1 rr h2,gM R1 rr h2 hc.1 hc.2,h3,fun v F2 H2 po rn=>?_⟩
  obtain⟨R2,st2,mu⟩:=pB R1 st1 rr h2 h4 hc.1 po
  refine q v F2 H2 R2 st2 ?_
  cases r with
  | t d=>exact rn
  | b o=>cases rn
  | v i=>cases rn
  | s i=>cases rn
  | m o=>
   obtain⟨a,e,h0,f,h⟩:=rn
   refine⟨a,e,none_of st1.ext.there h0,f,h,fun m=>?_,none_of R1.ext.there h0⟩
   obtain⟨o',ho⟩:=R1.has (mu a m)
   rw[h0] at ho
   cases ho
 ·cases hg⟩
end
end L2
end
section
set_option Elab.async false
set_option linter.all false
set_option maxRecDepth 100000
namespace L2
open PySem PySem.Spec PyProof.Rows
noncomputable def aA:List U→SS→Option (List MO)
 | [],_=>some []
 | .b _ :: us,some (.b o) :: S=>(aA us S).map fun os=>o :: os
 | .b _ :: _,_=>none
 | _ :: us,_ :: S=>aA us S
 | _ :: _,[]=>none
noncomputable def aG (n:Nat) (g:GS):FM:=fun us=>(g (us.map some++List.replicate (n - us.length) none)).bind fun o=>match o with
 | .rt (.t d) S=>(aA us S).map fun os=>(.t d,os)
 | .rt (.m o) S=>(aA us S).map fun os=>(.m o,os)
 | .nx S=>(aA us S).map fun os=>(.t .cI,os)
 | _=>none
noncomputable def lent:List V→List U→List (Option Addr)
 | .ref a :: vs,.b _ :: us=>some a :: lent vs us
 | _ :: vs,_ :: us=>none :: lent vs us
 | _,_=>[]
theorem nq:∀(vs:List V) (us:List U) (a:Addr),some a∈lent vs us↔a∈addrs vs us
 | [],us,a=>by cases us <;> simp[lent,addrs]
 | v :: vs,[],a=>by cases v <;> simp[lent,addrs]
 | v :: vs,u :: us,a=>by
  have ih:=nq vs us a
  cases v <;> cases u <;> simp[lent,addrs,ih]
theorem zG:∀{vs:List V}{us:List U}{i:Nat}{a:Addr},(lent vs us)[i]? =some (some a)→vs[i]? =some (.ref a)∧∃o,us[i]? =some (.b o)
 | [],us,i,a,h=>by cases us <;> simp[lent] at h
 | v :: vs,[],i,a,h=>by cases v <;> simp[lent] at h
 | v :: vs,u :: us,0,a,h=>by
  cases v <;> cases u <;> simp[lent] at h
  subst h
  exact⟨rfl,_,rfl⟩
 | v :: vs,u :: us,i+1,a,h=>by
  have h':(lent vs us)[i]? =some (some a):=by cases v <;> cases u <;> simpa[lent] using h
  simpa using zG h'
theorem ym {K:PySem.W.Frag}:∀{F H:Hp}{vs:List V}{us:List U}{i:Nat}{o:MO},Paired (E2 K F H) vs us→us[i]? =some (.b o)→∃a,vs[i]? =some (.ref a)∧(lent vs us)[i]? =some (some a)∧F a=none∧At F H a o
 | _,_,_,_,_,_,.nil,h=>by simp at h
 | _,_,_,_,0,o,@Paired.cons _ _ _ v u vs us r rs,h=>by
  simp at h
  subst h
  obtain⟨a,rfl,f,k⟩:=r
  exact⟨a,rfl,rfl,f,k⟩
 | _,_,_,_,i+1,o,@Paired.cons _ _ _ v u vs us r rs,h=>by
  obtain⟨a,h1,h2,h3⟩:=ym (i:=i) rs (by simpa using h)
  refine⟨a,by simpa using h1,?_,h3⟩
  cases v <;> cases u <;> simpa[lent] using h2
theorem wZ : ∀ {vs : List V} {us : List U} {i j : Nat} {a : Addr}, (addrs vs us).Nodup → (lent vs us)[i]? = some (some a) → (lent vs us)[j]? = some (some a) → i = j
  | [],us,i,j,a,_,h,_=>by cases us <;> simp[lent] at h
  | v :: vs,[],i,j,a,_,h,_=>by cases v <;> simp[lent] at h
  | v :: vs, u :: us, i, j, a, nd, h1, h2 => by
    have ih:∀{i j},(addrs vs us).Nodup→(lent vs us)[i]? =some (some a)→(lent vs us)[j]? =some (some a)→i=j:=fun {i j}=>wZ (i:=i) (j:=j)
    by_cases RU:∃c o,v= .ref c∧u= .b o
    · obtain⟨c,o,rfl,rfl⟩:=RU
      obtain⟨n1,n2⟩:=List.nodup_cons.mp (show(c :: addrs vs us).Nodup from nd)
      cases i with
      | zero=>
        cases j with
        | zero=>rfl
        | succ j=>
          have e1:c=a:=by simpa[lent] using h1
          have e2:(lent vs us)[j]? =some (some a):=by simpa[lent] using h2
          subst e1
          exact absurd ((nq vs us c).mp (List.mem_of_getElem? e2)) n1
      | succ i=>
        have e1:(lent vs us)[i]? =some (some a):=by simpa[lent] using h1
        cases j with
        | zero=>
          have e2:c=a:=by simpa[lent] using h2
          subst e2
          exact absurd ((nq vs us c).mp (List.mem_of_getElem? e1)) n1
        | succ j=>exact congrArg Nat.succ (ih n2 e1 (by simpa[lent] using h2))
    · have e1:lent (v :: vs) (u :: us)=none :: lent vs us:=by cases v <;> cases u <;> first | rfl | exact absurd ⟨_,_,rfl,rfl⟩ RU
      have e2:addrs (v :: vs) (u :: us)=addrs vs us:=by cases v <;> cases u <;> first | rfl | exact absurd ⟨_,_,rfl,rfl⟩ RU
      rw[e1] at h1 h2
      rw[e2] at nd
      cases i with
      | zero=>simp at h1
      | succ i=>
        cases j with
        | zero=>simp at h2
        | succ j=>exact congrArg Nat.succ (ih nd (by simpa using h1) (by simpa using h2))
theorem pC {α β:Type}{P:α→β→Prop}:∀{l:List α}{r:List β}{i:Nat}{y:β},Paired P l r→r[i]? =some y→∃x,l[i]? =some x∧P x y
 | _,_,_,_,.nil,h=>by simp at h
 | _,_,0,_,.cons p _,h=>by simp at h;subst h;exact⟨_,rfl,p⟩
 | _,_,i+1,_,.cons _ ps,h=>by
  obtain⟨x,h1,h2⟩:=pC (i:=i) ps (by simpa using h)
  exact⟨x,by simpa using h1,h2⟩
theorem w4 {K:PySem.W.Frag}{F H:Hp}{vs:List V}{us:List U}{n:Nat}(sb:Sub F H) (ar:Paired (E2 K F H) vs us) (nd:(addrs vs us).Nodup) (N:List Str) (hN:N.length=n):
  Rel K ⟨lent vs us,F,H⟩ (us.map some++List.replicate (n - us.length) none) (start N vs) F H:=by
 have hl:vs.length=us.length:=ar.length
 have gS:∀{i:Nat}{u:U},(us.map some++List.replicate (n - us.length) none)[i]? =some (some u)→us[i]? =some u:=fun {i u} h=>by
  rw[List.getElem?_append] at h
  split at h
  ·rw[List.getElem?_map] at h
   obtain⟨w,h1,h2⟩:=aB h
   cases h2
   exact h1
  ·rw[List.getElem?_replicate] at h
   split at h <;> cases h
 have RV:∀{i:Nat}{v:V},vs[i]? =some v→(start N vs)[i]? =some (some v):=fun {i v} h=>by
  unfold start
  have hi:=(List.getElem?_eq_some_iff.mp h).1
  rw[List.getElem?_append_left (by simpa using hi),List.getElem?_map,h]
  rfl
 have vb:∀{i:Nat}{v w:V},vs[i]? =some v→(start N vs)[i]? =some (some w)→v=w:=fun {i v w} h k=>by
  rw[RV h] at k
  cases k
  rfl
 have Ho:∀{i:Nat}{u:U},us[i]? =some u→fS u=true→∃o a,u= .b o∧vs[i]? =some (.ref a)∧(lent vs us)[i]? =some (some a)∧F a=none∧At F H a o:=fun {i u} h hm=>by
  obtain⟨v,h1,h2⟩:=pC ar h
  cases u with
  | t d=>cases hm
  | v d=>cases hm
  | s d=>cases hm
  | m o=>cases h2
  | b o=>obtain⟨a,k1,k2,k3,k4⟩:=ym ar h;exact⟨o,a,rfl,k1,k2,k3,k4⟩
 refine⟨sb,?_,fun i u h=>?_,fun i j u w a h1 m1 h2 m2 v1 v2=>?_,fun i o a h hv=>?_,fun i o a h hv=>?_,fun i a h=>?_,Ext.refl ..⟩
 ·unfold start;simp[hl,hN]
 ·obtain⟨v,h1,h2⟩:=pC ar (gS h)
  refine⟨v,RV h1,?_⟩
  cases u with
  | t d=>exact h2
  | s d=>exact h2
  | v d=>cases h2
  | m o=>cases h2
  | b o=>exact h2
 ·obtain⟨_,a1,_,k1,k2,_⟩:=Ho (gS h1) m1
  obtain⟨_,a2,_,l1,l2,_⟩:=Ho (gS h2) m2
  have e1:=vb k1 v1
  have e2:=vb l1 v2
  cases e1
  cases e2
  exact wZ nd k2 l2
 ·obtain⟨_,_,e,_⟩:=Ho (gS h) rfl
  cases e
 ·obtain⟨_,a1,_,k1,k2,_⟩:=Ho (gS h) rfl
  have e1:=vb k1 hv
  cases e1
  exact List.mem_of_getElem? k2
 ·obtain⟨k1,o,k2⟩:=zG h
  refine⟨RV k1,o,?_⟩
  have hi:=(List.getElem?_eq_some_iff.mp k2).1
  rw[List.getElem?_append_left (by simpa using hi),List.getElem?_map,k2]
  rfl
theorem yp {F' H' : Hp} : ∀ {vs : List V} {us : List U} {S : SS} {os : List MO}, aA us S = some os → vs.length = us.length → (∀ (i : Nat) (o : MO) (a : Addr), (lent vs us)[i]? = some (some a) → S[i]? = some (some (.b o)) → F' a = none ∧ At F' H' a o) → (∀ (i : Nat) (o : MO), us[i]? = some (.b o) → ∃ a, vs[i]? = some (.ref a)) →
    Paired (fun a o=>F' a=none∧At F' H' a o) (addrs vs us) os
  | [],[],S,os,h,_,_,_=>by cases S <;> (simp[aA] at h;subst h;exact .nil)
  | [],_ :: _,_,_,_,l,_,_=>by cases l
  | _ :: _,[],_,_,_,l,_,_=>by cases l
  | v :: vs, u :: us, S, os, h, l, k, kb => by
    have l':vs.length=us.length:=by simpa using l
    have kb':∀(i:Nat) (o:MO),us[i]? =some (.b o)→∃a,vs[i]? =some (.ref a):=fun i o z=>by simpa using kb (i+1) o (by simpa using z)
    by_cases hu:∃o,u= .b o
    · obtain⟨o,rfl⟩:=hu
      obtain⟨a,ha⟩:=kb 0 o rfl
      have ha:v= .ref a:=by simpa using ha
      subst ha
      cases S with
      | nil=>simp[aA] at h
      | cons s S=>
        cases s with
        | none=>simp[aA] at h
        | some s=>
          cases s with
          | b o'=>
            obtain⟨os',h1,h2⟩:=aB (show(aA us S).map (fun os=>o' :: os)=some os from h)
            subst h2
            exact .cons (k 0 o' a rfl rfl) (yp h1 l' (fun i o a z1 z2=>k (i+1) o a (by simpa[lent] using z1) (by simpa using z2)) kb')
          | t d=>simp[aA] at h
          | m d=>simp[aA] at h
          | v d=>simp[aA] at h
          | s d=>simp[aA] at h
    · cases S with
      | nil=>cases u <;> first | (simp[aA] at h;done) | exact absurd ⟨_,rfl⟩ hu
      | cons s S=>
        have h':aA us S=some os:=by cases u <;> first | exact absurd ⟨_,rfl⟩ hu | simpa[aA] using h
        have e2:addrs (v :: vs) (u :: us)=addrs vs us:=by cases v <;> cases u <;> first | rfl | exact absurd ⟨_,rfl⟩ hu
        have e1:lent (v :: vs) (u :: us)=none :: lent vs us:=by cases v <;> cases u <;> first | rfl | exact absurd ⟨_,rfl⟩ hu
        rw[e2]
        exact yp h' l' (fun i o a z1 z2=>k (i+1) o a (by rw[e1];simpa using z1) (by simpa using z2)) kb'
theorem post_of {K:PySem.W.Frag}{F0 H:Hp}{vs:List V}{us:List U}(ar:Paired (E2 K F0 H) vs us) (S':SS) (σ':St) (F' H':Hp) (os:List MO) (R':Rel K ⟨lent vs us,F0,H⟩ S' σ' F' H') (ho':aA us S'=some os):Post F0 H F' H' (addrs vs us) os:=by
 refine⟨R'.sub,⟨R'.ext.le,fun b o z n=>R'.ext.keep b o z fun m=>n ((nq vs us b).mp m),fun b o z n=>R'.ext.jy b o z fun m=>n ((nq vs us b).mp m),R'.ext.there,R'.ext.jE⟩,yp ho' ar.length (fun i o a z1 z2=>?_) fun i o z=>?_⟩
 ·obtain⟨k1,o2,k2⟩:=R'.par i a z1
  obtain⟨v,j1,j2⟩:=R'.rep i _ z2
  rw[k1] at j1
  cases j1
  obtain⟨c,e,f,k⟩:=j2
  cases e
  exact⟨f,k⟩
 ·obtain⟨a,h1,_⟩:=ym ar z
  exact⟨a,h1⟩
section
variable {P:Program}{w:World}{K:PySem.W.Frag}{mg:Str→Option Value}{base:Heap}
theorem tV {x qual:Str}{st:Stmt}{f:Addr}{fd:FuncData}{N ps:List Str}{k:Nat}{fm:FM}{g:GS}(F:pe K x qual st f fd) (Sc:bS N ps (aE st))
  (hb:∀(cdv:Value) (A:Around) (outer:List Env) (s:Shared) (H:Hp) (E:XK),jz k (A.deeper (envOfC qual (aE st) s.heap.objs.size f cdv))→JB (A2 dW P w K mg base N qual (aE st) f cdv A outer s H E).GF (aZ st) g)
  (hf:∀us r,fm us=some r→aG N.length g us=some r):br P w K mg base dW (k+1) f fd ps (spT K ps.length fm):=by
 refine F.ok Sc (fun vs H Q E h=>h.1) fun cdv A outer s H vs Q E hr h=>?_
 obtain⟨hlen,F0,us,r,outs,sb,ar,nd,hfm,q⟩:=h
 have hrun:=hf us (r,outs) hfm
 have J:=hb cdv A outer s H E hr
 refine⟨_,J.h ⟨lent vs us,F0,H⟩,?_⟩
 have R0:=w4 sb ar nd N rfl
 obtain⟨o,ho,hrun⟩:=ak hrun
 refine⟨_,F0,o,R0,ho,?_⟩
 have post:=post_of ar
 cases o with
 | bk S'=>cases hrun
 | ct S'=>cases hrun
 | nx S'=>
  obtain⟨os,h1,h2⟩:=aB (show(aA us S').map _=some (r,outs) from hrun)
  cases h2
  exact fun σ' F' H' R' le=>q .cI F' H' (post S' σ' F' H' outs R' h1) .cI
 | rt u S'=>
  cases u with
  | b o=>cases hrun
  | v i=>cases hrun
  | s i=>cases hrun
  | t d=>
   obtain⟨os,h1,h2⟩:=aB (show(aA us S').map _=some (r,outs) from hrun)
   cases h2
   exact fun v σ' F' H' R' le rr=>q v F' H' (post S' σ' F' H' outs R' h1) rr
  | m o=>
   obtain⟨os,h1,h2⟩:=aB (show(aA us S').map _=some (r,outs) from hrun)
   cases h2
   exact fun v σ' F' H' R' le rr=>q v F' H' (post S' σ' F' H' outs R' h1) (by obtain⟨a,e,h0,f,h,n,hB⟩:=rr;exact⟨a,e,hB,f,h⟩)
end
end L2
end
section
set_option Elab.async false
set_option linter.all false
set_option maxRecDepth 100000
namespace L2
open PySem PySem.Spec PyProof.Rows
noncomputable def E3 (S:SS) (i:Nat):Option U:=match S[i]? with
 | some (some (.t d))=>some (.t d)
 | some (some (.s d))=>some (.s d)
 | some (some (.m _))=>some (.v i)
 | some (some (.b _))=>some (.v i)
 | _=>none
noncomputable def qc (S:SS):List Nat→Option (List U)
 | []=>some []
 | i :: cap=>(E3 S i).bind fun u=>(qc S cap).map fun us=>u :: us
noncomputable def uK:GT:=fun S=>some (true,S)
noncomputable def oV (cap:List Nat) (q:GT) (g:GD):List D→SS→List D→Option (List D×SS)
  | [],S,acc=>some (acc,S)
  | d :: ds, S, acc => (qc S cap).bind fun us =>
    if(slotsOf us).Nodup∧cV us≤1 then(cU S us).bind fun ws=>(q (some (.t d) :: ws.map some)).bind fun p=>
      if p.1 then(g p.2).bind fun r=>(aA (.t d :: ws) r.2).bind fun outs=>(wb us outs S).bind fun S'=>oV cap q g ds S' (acc++[r.1])
      else(aA (.t d :: ws) p.2).bind fun outs=>(wb us outs S).bind fun S'=>oV cap q g ds S' acc
    else none
noncomputable def uL (cap:List Nat) (gi:GI) (q:GT) (g:GD):GE:=fun S=>(gi S).bind fun p=>if p.1.length≤100000 then(oV cap q g p.1 p.2 []).map fun r=>(.m (.lst r.1),r.2) else none
structure RW (X:Cx) (es:List Expr) (q:GT):Prop where
 h:∀B,LG X es (tQ X.K B q)
theorem yq {X:Cx}:RW X [] uK:=⟨fun B pins s σ H Q I ⟨S,F,b,S',R,hg,q⟩=>by cases hg;exact G4 pins s σ H Q I (q F H R (Step.refl ..))⟩
theorem Hq {X:Cx}{c:Expr}{q:GT}(h:JT X c q):RW X [c] q:=⟨fun B=>G5 (h.h B)⟩
theorem E4 {K:PySem.W.Frag}{B:Base}{S:SS}{σ:St}{F H:Hp}(R:Rel K B S σ F H):∀{cap:List Nat}{us:List U},qc S cap=some us→∃vs:List V,fQ cap σ=vs.map some∧Paired (fun v u=>kg K B S σ H F H v u) vs us
  | [],us,h=>by cases h;exact⟨[],rfl,.nil⟩
  | i :: cap, us, h => by
    obtain⟨u,h1,h⟩:=ak h
    obtain⟨us',h2,h⟩:=aB h
    subst h
    obtain⟨vs,k1,k2⟩:=E4 R h2
    have one:∀w,S[i]? =some (some w)→∃v,σ[i]? =some (some v)∧we K F H v w:=R.rep i
    unfold E3 at h1
    have fin:∀v,σ[i]? =some (some v)→kg K B S σ H F H v u→∃vs:List V,fQ (i :: cap) σ=vs.map some∧Paired (fun v u=>kg K B S σ H F H v u) vs (u :: us'):=fun v e r=>
      ⟨v :: vs,by show(σ[i]?).join :: fQ cap σ=_;rw[e,k1];rfl,.cons r k2⟩
    split at h1
    · rename_i d e
      cases h1
      obtain⟨v,e1,r⟩:=one _ e
      exact fin v e1 r
    · rename_i d e
      cases h1
      obtain⟨v,e1,r⟩:=one _ e
      exact fin v e1 r
    · rename_i o e
      cases h1
      obtain⟨v,e1,r⟩:=one _ e
      exact fin v e1 ⟨e1,_,e⟩
    · rename_i o e
      cases h1
      obtain⟨v,e1,r⟩:=one _ e
      exact fin v e1 ⟨e1,_,e⟩
    · cases h1
theorem E5 {K:PySem.W.Frag}{B:Base}{S:SS}{σ:St}{F H:Hp}(R:Rel K B S σ F H) (d:D){us ws:List U}(h:cU S us=some ws):cU S (.t d :: us)=some (.t d :: ws):=by
 show(some (U.t d)).bind _=_
 show(cU S us).map _=_
 rw[h]
 rfl
theorem E6 {K : PySem.W.Frag} {B : Base} {cap : List Nat} {gi : GI} {q : GT} {g : GD} {σ : St} {H : Hp} {Q : VK} (h : tE K B (uL cap gi q g) σ H Q) : Rq (Xh K B gi) cap (fun σ H Q => ∃ B, tQ K B q σ H Q) (fun σ H Q => ∃ B, tD K B g σ H Q) σ H Q := by
  obtain⟨x,_⟩:∃x:Str,True:=⟨"",trivial⟩
  obtain⟨S,F,u,S',R,hg,k⟩:=h
  obtain⟨⟨ds,S1⟩,h1,hg⟩:=ak hg
  dsimp only at hg
  split at hg
  · rename_i hlen
    obtain⟨⟨res,Sf⟩,h2,hg⟩:=aB hg
    cases hg
    refine⟨S,F,ds,S1,R,h1,fun J F1 H1 R1 st1 w=>?_⟩
    refine⟨fun i m ys H'=>∃S2 F2 acc,Rel K B S2 σ F2 H'∧Step S S2 σ F H F2 H'∧(∀b o,F1 b=some o→F2 b=some o)∧bw F2 ys acc∧acc.length≤i∧i≤ds.length∧m=ds.length - i∧oV cap q g (ds.drop i) S2 acc=some (res,Sf),
      ⟨_,S1,F1,[],R1,st1,fun _ _ z=>z,.nil,Nat.le_refl _,Nat.zero_le _,rfl,h2⟩,?_⟩
    rintro i m ys H' ⟨S2,F2,acc,R2,st2,le,ry,ha,hl,rfl,nk⟩
    refine⟨by rw[ry.length];exact Nat.lt_of_le_of_lt (Nat.le_trans ha (Nat.le_trans hl hlen)) (by decide),?_⟩
    have w':=w F2 H' le R2.sub i
    by_cases hlt:i < ds.length
    · have hd:ds[i]? =some ds[i]:=List.getElem?_eq_getElem hlt
      obtain⟨go,yl⟩:=w'.1 _ hd
      rw[List.drop_eq_getElem_cons hlt] at nk
      refine .inr ⟨go,fun xv H3 y=>?_⟩
      obtain⟨rfl,rx⟩:=yl xv H3 y
      obtain⟨us,e1,nk⟩:=ak nk
      skip
      split at nk
      · rename_i hnd
        obtain⟨ws,e2,nk⟩:=ak nk
        obtain⟨⟨bk,T1⟩,e3,nk⟩:=ak nk
        obtain⟨vs,k1,k2⟩:=E4 R2 e1
        have rr:Paired (fun v u=>kg K B S2 σ H3 F2 H3 v u) (xv :: vs) (.t ds[i] :: us):=.cons rx k2
        have er:=E5 R2 ds[i] e2
        have ar:=yj R2 rr er
        have nd:=gM R2 rr er hnd.1 hnd.2
        have R3:=w4 (n:=ws.length+1) R2.sub ar nd (List.replicate (ws.length+1) x) (by simp)
        have hvl:vs.length=ws.length:=by have:=ar.length;simpa using this
        have es:start (List.replicate (ws.length+1) x) (xv :: vs)=some xv :: fQ cap σ:=by
          unfold start;rw[k1];simp[hvl]
        have eS:(U.t ds[i] :: ws).map some++List.replicate (ws.length+1 - (U.t ds[i] :: ws).length) none=some (U.t ds[i]) :: ws.map some:=by simp
        rw[es,eS] at R3
        have back:∀(T2:SS) (F3 H4:Hp) (outs:List MO) (S3:SS),Rel K ⟨lent (xv :: vs) (U.t ds[i] :: ws),F2,H3⟩ T2 (some xv :: fQ cap σ) F3 H4→aA (U.t ds[i] :: ws) T2=some outs→wb us outs S2=some S3→Rel K B S3 σ F3 H4∧Step S S3 σ F H F3 H4∧(∀b o,F2 b=some o→F3 b=some o):=fun T2 F3 H4 outs S3 RT ho hw=>by
          have po:=post_of ar T2 _ F3 H4 outs RT ho
          obtain⟨Ra,Hr,_⟩:=pB (S0:=S2) (F0:=F2) (H0:=H3) R2 (Step.refl ..) rr er (show wb (U.t ds[i] :: us) outs S2=some S3 by cases outs <;> exact hw) hnd.1 po
          exact⟨Ra,st2.trans Hr,Hr.ext.le⟩
        refine⟨_,_,F2,bk,T1,R3,e3,fun F3 H4 Xj Zb=>?_⟩
        cases bk with
        | true=>
          obtain⟨⟨yd,T2⟩,e4,nk⟩:=ak (show(g T1).bind _=_ from nk)
          obtain⟨outs,e5,nk⟩:=ak nk
          obtain⟨S3,e6,nk⟩:=ak nk
          refine C7 ⟨_,T1,F3,yd,T2,Xj,e4,fun yv F4 H5 Zc Zd RX=>?_⟩
          obtain⟨Ra,Hr,Nc⟩:=back T2 F4 H5 outs S3 Zc e5 e6
          refine⟨ds.length - (i+1),by omega,S3,F4,acc++[yd],Ra,Hr,fun b o z=>Nc b o (le b o z),(ry.le Nc).append (.cons RX .nil),by simp;omega,hlt,rfl,nk⟩
        | false=>
          obtain⟨outs,e5,nk⟩:=ak (show(aA (U.t ds[i] :: ws) T1).bind _=_ from nk)
          obtain⟨S3,e6,nk⟩:=ak nk
          obtain⟨Ra,Hr,Nc⟩:=back T1 F3 H4 outs S3 Xj e5 e6
          exact C6 ⟨ds.length - (i+1),by omega,S3,F3,acc,Ra,Hr,fun b o z=>Nc b o (le b o z),ry.le Nc,by omega,hlt,rfl,nk⟩
      · cases nk
    · have e:i=ds.length:=by omega
      subst e
      rw[List.drop_length] at nk
      cases nk
      refine .inl ⟨w'.2 (Nat.le_refl _),fun p hp=>?_⟩
      have n:=gD.obj (F:=F2) hp (.lst ys)
      refine k (.ref p) F2 _ (R2.new n (R2.sub.same n.same)) (st2.trans n.step) ⟨p,rfl,none_of st2.ext.there hp,R2.sub.fresh hp,⟨ys,aW,ry⟩,fun m=>?_,none_of R2.ext.there hp⟩
      obtain⟨o,ho⟩:=R2.has m
      rw[hp] at ho
      cases ho
  · cases hg
theorem uo {X:Cx}{elt iter:Expr}{ifs:List Expr}{x:Str}{px pos:Pos}{scope:Scope}{cl:List (Str×Addr)}{d8:List Str}{cap:List Nat}{gi:GI}{q:GT}{g:GD}(T:nZ X x d8 cap scope cl) (hc:X.calm=true) (hi:JI X (.Name x px) iter gi)
  (ht:∀C s H fp,RW (kD X (x :: d8) scope cl C s H fp) ifs q) (he:∀C s H fp,JD (kD X (x :: d8) scope cl C s H fp) elt g)
  (hs:∀x,foldedSetIterable iter X.env x=pure x:=by intro _;rfl):JE X (.ListComp elt [⟨.Name x px,iter,ifs,0⟩] scope pos) (uL cap gi q g):=⟨fun B=>by
 exact(EK (tc:=fun σ H Q=>∃B,tQ X.K B q σ H Q) (te:=fun σ H Q=>∃B,tD X.K B g σ H Q) T hc (hi.h B) (fun C s H fp pins s' σ H' Q I ⟨B',z⟩=>(ht C s H fp).h B' pins s' σ H' Q I z) (fun C s H fp pins s' σ H' Q I ⟨B',z⟩=>(he C s H fp).h B' pins s' σ H' Q I z) hs).imp fun σ H Q h=>E6 h⟩
end L2
end
section
set_option Elab.async false
set_option linter.all false
set_option maxRecDepth 100000
namespace L2
open PySem PySem.Spec PyProof.Rows
mutual
noncomputable def mz:D→D→Bool
 | .cI,.cI=>true
 | .bl a,.bl b=>a == b
 | .int a,.int b=>a == b
 | .bl a,.int b=>(if a then 1 else 0) == b
 | .int a,.bl b=>a == (if b then 1 else 0)
 | .str a,.str b=>a == b
 | .tup a,.tup b=>pD a b
 | .lst a,.lst b=>pD a b
 | _,_=>false
noncomputable def pD:List D→List D→Bool
 | [],[]=>true
 | a :: as,b :: bs=>mz a b && pD as bs
 | _,_=>false
end
mutual
noncomputable def cG:D→Nat
 | .tup ds=>bU ds+1
 | .lst ds=>bU ds+1
 | _=>0
noncomputable def bU:List D→Nat
 | []=>0
 | d :: ds=>max (cG d) (bU ds)
end
mutual
theorem lA:∀d:D,mz d d=true
 | .cI=>rfl
 | .bl a=>by simp[mz]
 | .int a=>by simp[mz]
 | .str a=>by simp[mz]
 | .tup a=>by unfold mz;exact lB a
 | .lst a=>by unfold mz;exact lB a
theorem lB:∀ds:List D,pD ds ds=true
 | []=>rfl
 | d :: ds=>by unfold pD;rw[lA d,lB ds];rfl
end
noncomputable def nu (as bs:List D) (j:Nat):Bool:=match as[j]?,bs[j]? with
 | some a,some b=>mz a b
 | _,_=>true
theorem uM (n:Nat) (e:Nat→Bool):(List.range (n+1)).all e=(e 0 && (List.range n).all fun j=>e (j+1)):=by
 rw[List.range_succ_eq_map,List.all_cons,List.all_map]
 rfl
theorem nv:∀{as bs:List D},as.length≠bs.length→pD as bs=false
 | [],[],h=>absurd rfl h
 | [],_ :: _,_=>rfl
 | _ :: _,[],_=>rfl
 | a :: as,b :: bs,h=>by
  unfold pD
  rw[nv (as:=as) (bs:=bs) (fun z=>h (by simp[z])),Bool.and_false]
theorem jR:∀{as bs:List D},as.length=bs.length→(List.range as.length).all (nu as bs)=pD as bs
 | [],[],_=>rfl
 | [],_ :: _,h=>by cases h
 | _ :: _,[],h=>by cases h
 | a :: as,b :: bs,h=>by
  have h':as.length=bs.length:=by simpa using h
  show(List.range (as.length+1)).all _=_
  rw[uM]
  unfold pD
  have ih:=jR h'
  have e:(fun j=>nu (a :: as) (b :: bs) (j+1))=nu as bs:=by funext j;simp[nu]
  rw[e,ih]
  rfl
mutual
theorem Rep.uniq {F:Hp}:∀{v:V}{d e:D},Rep F v d→Rep F v e→d=e
 | _,_,_,.cI,r=>by cases r;rfl
 | _,_,_,.bl b,r=>by cases r;rfl
 | _,_,_,.int b,r=>by cases r;rfl
 | _,_,_,.str b,r=>by cases r;rfl
 | _,_,_,.tup e1 r1,r=>by
  cases r with
  | tup e2 r2=>rw[e1] at e2;cases e2;rw[bw.uniq r1 r2]
  | lst e2 r2=>rw[e1] at e2;cases e2
 | _,_,_,.lst e1 r1,r=>by
  cases r with
  | tup e2 r2=>rw[e1] at e2;cases e2
  | lst e2 r2=>rw[e1] at e2;cases e2;rw[bw.uniq r1 r2]
theorem bw.uniq {F:Hp}:∀{vs:List V}{ds es:List D},bw F vs ds→bw F vs es→ds=es
 | _,_,_,.nil,r=>by cases r;rfl
 | _,_,_,.cons r1 s1,r=>by
  cases r with
  | cons r2 s2=>rw[Rep.uniq r1 r2,bw.uniq s1 s2]
end
section
variable {X:Cx}{pins:List (Addr×Obj)}{σ:St}{F H:Hp}{s:Shared}
theorem Sub.isTup (I:Inv X pins σ H s) (sb:Sub F H){a:Addr}{vs:List V}(h:F a=some (.tup vs)):∃its:List Value,Vals vs its∧s.heap.IsTuple a its.toArray:=by
 obtain⟨its,rv,p,_⟩:=I.tuple (.inl (Rd.of (sb a _ h)))
 exact⟨its,rv,p⟩
theorem Sub.dX (I:Inv X pins σ H s) (sb:Sub F H){a:Addr}{vs:List V}(h:F a=some (.lst vs)):∃its:List Value,Vals vs its∧s.heap.IsList a its.toArray:=by
 obtain⟨its,rv,p,_⟩:=I.list (.inl (Rd.of (sb a _ h)))
 exact⟨its,rv,p.isList⟩
noncomputable def je (A:Around) (s:Shared) (its cj:List Value) (ds es:List D):Prop:=∀j (h1:j < its.toArray.size) (h2:j < cj.toArray.size),SeqAt.EqAt A.in1 s its.toArray[j] cj.toArray[j] (nu ds es j)
theorem Cs {n m:Nat}(h:n=m) (e:Nat→Bool):((List.range (min n m)).all e && n == m)=(List.range n).all e:=by
 subst h;simp
theorem qd {A:Around}{ca cb:Addr}{gm cj:List Value}{ds es:List D}(hu:A.units < cLine) (pa:s.heap.IsTuple ca gm.toArray) (pb:s.heap.IsTuple cb cj.toArray) (la:gm.length=ds.length) (lb:cj.length=es.length) (h:je A s gm cj ds es):
  SeqAt.RcAt A s (.ref ca) (.ref cb) (pD ds es):=by
 have q:=SeqAt.RcAt.tuples (e:=nu ds es) pa pb hu h
 rw[List.size_toArray,List.size_toArray,la,lb] at q
 by_cases hl:ds.length=es.length
 ·rw[Cs hl,jR hl] at q;exact q
 ·rw[nv hl]
  have:(ds.length == es.length)=false:=by simpa using hl
  rw[this,Bool.and_false] at q
  exact q
theorem uN {A:Around}{ca cb:Addr}{gm cj:List Value}{ds es:List D}(hu:A.units < cLine) (pa:s.heap.IsTuple ca gm.toArray) (pb:s.heap.IsTuple cb cj.toArray) (la:gm.length=ds.length) (lb:cj.length=es.length) (h:je A s gm cj ds es):
  SeqAt.RcNeAt A s (.ref ca) (.ref cb) (!pD ds es):=by
 have q:=SeqAt.RcNeAt.tuples (e:=nu ds es) pa pb hu h
 rw[List.size_toArray,List.size_toArray,la,lb] at q
 by_cases hl:ds.length=es.length
 ·rw[Cs hl,jR hl] at q;exact q
 ·rw[nv hl]
  have:(ds.length == es.length)=false:=by simpa using hl
  rw[this,Bool.and_false] at q
  exact q
theorem sM {A:Around}{ca cb:Addr}{gm cj:List Value}{ds es:List D}(hu:A.units < cLine) (pa:s.heap.IsList ca gm.toArray) (pb:s.heap.IsList cb cj.toArray) (la:gm.length=ds.length) (lb:cj.length=es.length) (h:je A s gm cj ds es):
  SeqAt.RcAt A s (.ref ca) (.ref cb) (pD ds es):=by
 by_cases hl:ds.length=es.length
 ·have q:=SeqAt.RcAt.lists (e:=nu ds es) pa pb (by rw[List.size_toArray,List.size_toArray,la,lb];exact hl) hu h
  rw[List.size_toArray,la,jR hl] at q;exact q
 ·rw[nv hl]
  exact SeqAt.RcAt.lists_lengths pa pb (by rw[List.size_toArray,List.size_toArray,la,lb];simpa using hl) hu
theorem wj {A:Around}{ca cb:Addr}{gm cj:List Value}{ds es:List D}(hu:A.units < cLine) (pa:s.heap.IsList ca gm.toArray) (pb:s.heap.IsList cb cj.toArray) (la:gm.length=ds.length) (lb:cj.length=es.length) (h:je A s gm cj ds es):
  SeqAt.RcNeAt A s (.ref ca) (.ref cb) (!pD ds es):=by
 by_cases hl:ds.length=es.length
 ·have q:=SeqAt.RcNeAt.lists (e:=nu ds es) pa pb (by rw[List.size_toArray,List.size_toArray,la,lb];exact hl) hu h
  rw[List.size_toArray,la,jR hl] at q;exact q
 ·rw[nv hl]
  exact SeqAt.RcNeAt.lists_lengths pa pb (by rw[List.size_toArray,List.size_toArray,la,lb];simpa using hl) hu
theorem dG {α:Type}(l:List α) (j:Nat) (h:j < l.toArray.size):l[j]? =some l.toArray[j]:=by
 have z:j < l.length:=by simpa using h
 simp[z]
mutual
theorem IP (I : Inv X pins σ H s) (sb : Sub F H) : ∀ (d : D) {e : D} {A : Around} {x y : V} {u w' : Value}, Rep F x d → Rep F y e → RelV x u → RelV y w' → A.units + cG d < cLine → SeqAt.EqAt A s u w' (mz d e) := fun d {e A x y u w'} r1 r2 rx ry hu => by
  cases r1 with
  | cI=>
    cases rx
    cases r2 with
    | cI=>cases ry;exact SeqAt.EqAt.same _
    | bl b=>cases ry;exact SeqAt.EqAt.none_bool b
    | int b=>obtain⟨tb,rfl⟩:=ry;exact SeqAt.EqAt.none_int b tb
    | str b=>obtain⟨tb,rfl⟩:=ry;exact SeqAt.EqAt.none_str b tb
    | @tup cb nA lC eb rb=>cases ry;obtain⟨cj,jS,pb⟩:=sb.isTup I eb;exact SeqAt.EqAt.none_tuple pb (by omega)
    | @lst cb nA lC eb rb=>cases ry;obtain⟨cj,jS,pb⟩:=sb.dX I eb;exact SeqAt.EqAt.none_list pb (by omega)
  | bl a=>
    cases rx
    cases r2 with
    | cI=>cases ry;exact SeqAt.EqAt.bool_none a
    | bl b=>cases ry;exact SeqAt.EqAt.bool_bool a b
    | int b=>obtain⟨tb,rfl⟩:=ry;exact SeqAt.EqAt.bool_int a b tb
    | str b=>obtain⟨tb,rfl⟩:=ry;exact SeqAt.EqAt.bool_str a b tb
    | @tup cb nA lC eb rb=>cases ry;obtain⟨cj,jS,pb⟩:=sb.isTup I eb;exact SeqAt.EqAt.bool_tuple a pb (by omega)
    | @lst cb nA lC eb rb=>cases ry;obtain⟨cj,jS,pb⟩:=sb.dX I eb;exact SeqAt.EqAt.bool_list a pb (by omega)
  | int a=>
    obtain⟨ta,rfl⟩:=rx
    cases r2 with
    | cI=>cases ry;exact SeqAt.EqAt.int_none a ta
    | bl b=>cases ry;exact SeqAt.EqAt.int_bool a ta b
    | int b=>obtain⟨tb,rfl⟩:=ry;exact SeqAt.EqAt.int_int a ta b tb
    | str b=>obtain⟨tb,rfl⟩:=ry;exact SeqAt.EqAt.int_str a ta b tb
    | @tup cb nA lC eb rb=>cases ry;obtain⟨cj,jS,pb⟩:=sb.isTup I eb;exact SeqAt.EqAt.int_tuple a ta pb (by omega)
    | @lst cb nA lC eb rb=>cases ry;obtain⟨cj,jS,pb⟩:=sb.dX I eb;exact SeqAt.EqAt.int_list a ta pb (by omega)
  | str a=>
    obtain⟨ta,rfl⟩:=rx
    cases r2 with
    | cI=>cases ry;exact SeqAt.EqAt.str_none a ta
    | bl b=>cases ry;exact SeqAt.EqAt.str_bool a ta b
    | int b=>obtain⟨tb,rfl⟩:=ry;exact SeqAt.EqAt.str_int a ta b tb
    | str b=>obtain⟨tb,rfl⟩:=ry;exact SeqAt.EqAt.str_str a ta b tb
    | @tup cb nA lC eb rb=>cases ry;obtain⟨cj,jS,pb⟩:=sb.isTup I eb;exact SeqAt.EqAt.str_tuple a ta pb (by omega)
    | @lst cb nA lC eb rb=>cases ry;obtain⟨cj,jS,pb⟩:=sb.dX I eb;exact SeqAt.EqAt.str_list a ta pb (by omega)
  | @tup ca Nd oN ea ra=>
    cases rx;obtain⟨gm,zH,pa⟩:=sb.isTup I ea
    cases r2 with
    | cI=>cases ry;exact SeqAt.EqAt.tuple_none pa (by omega)
    | bl b=>cases ry;exact SeqAt.EqAt.tuple_bool b pa (by omega)
    | int b=>obtain⟨tb,rfl⟩:=ry;exact SeqAt.EqAt.tuple_int b tb pa (by omega)
    | str b=>obtain⟨tb,rfl⟩:=ry;exact SeqAt.EqAt.tuple_str b tb pa (by omega)
    | @tup cb nA lC eb rb=>cases ry;obtain⟨cj,jS,pb⟩:=sb.isTup I eb;exact(by
      have hd:A.units+(bU oN+1) < cLine:=hu
      have items:je A s gm cj oN lC:=fun j h1 h2=>jT I sb oN (A:=A.in1) ra rb zH jS (by show A.units+1+bU oN < cLine;omega) (dG gm j h1) (dG cj j h2)
      by_cases hc:ca=cb
      · subst hc
        rw[ea] at eb
        cases eb
        obtain rfl:=bw.uniq ra rb
        show SeqAt.EqAt A s _ _ (pD oN oN)
        rw[lB]
        exact SeqAt.EqAt.same _
      · exact SeqAt.EqAt.of_refs hc (qd (by omega) pa pb (zH.length.symm.trans ra.length) (jS.length.symm.trans rb.length) items))
    | @lst cb nA lC eb rb=>cases ry;obtain⟨cj,jS,pb⟩:=sb.dX I eb;exact SeqAt.EqAt.tuple_list pa pb (by omega)
  | @lst ca Nd oN ea ra=>
    cases rx;obtain⟨gm,zH,pa⟩:=sb.dX I ea
    cases r2 with
    | cI=>cases ry;exact SeqAt.EqAt.list_none pa (by omega)
    | bl b=>cases ry;exact SeqAt.EqAt.list_bool b pa (by omega)
    | int b=>obtain⟨tb,rfl⟩:=ry;exact SeqAt.EqAt.list_int b tb pa (by omega)
    | str b=>obtain⟨tb,rfl⟩:=ry;exact SeqAt.EqAt.list_str b tb pa (by omega)
    | @tup cb nA lC eb rb=>cases ry;obtain⟨cj,jS,pb⟩:=sb.isTup I eb;exact SeqAt.EqAt.list_tuple pa pb (by omega)
    | @lst cb nA lC eb rb=>cases ry;obtain⟨cj,jS,pb⟩:=sb.dX I eb;exact(by
      have hd:A.units+(bU oN+1) < cLine:=hu
      have items:je A s gm cj oN lC:=fun j h1 h2=>jT I sb oN (A:=A.in1) ra rb zH jS (by show A.units+1+bU oN < cLine;omega) (dG gm j h1) (dG cj j h2)
      by_cases hc:ca=cb
      · subst hc
        rw[ea] at eb
        cases eb
        obtain rfl:=bw.uniq ra rb
        show SeqAt.EqAt A s _ _ (pD oN oN)
        rw[lB]
        exact SeqAt.EqAt.same _
      · exact SeqAt.EqAt.of_refs hc (sM (by omega) pa pb (zH.length.symm.trans ra.length) (jS.length.symm.trans rb.length) items))
theorem jT (I : Inv X pins σ H s) (sb : Sub F H) : ∀ (ds : List D) {es : List D} {A : Around} {vs ws : List V} {us us' : List Value} {j : Nat} {u w' : Value}, bw F vs ds → bw F ws es → Vals vs us → Vals ws us' → A.units + bU ds < cLine → us[j]? = some u → us'[j]? = some w' → SeqAt.EqAt A s u w' (nu ds es j) := fun ds {es A vs ws us us' j u w'} r1 r2 v1 v2 hu h1 h2 => by
  cases r1 with
  | nil=>cases v1;simp at h1
  | @cons v d vs ds r rs =>
    cases v1 with
    | cons q qs=>
      cases r2 with
      | nil=>cases v2;simp at h2
      | @cons w e ws es r' rs'=>
        cases v2 with
        | cons q' Ze=>
          have hd:A.units+max (cG d) (bU ds) < cLine:=hu
          cases j with
          | zero=>
            simp at h1 h2
            subst h1 h2
            exact IP I sb d r r' q q' (by omega)
          | succ j=>
            simp at h1 h2
            have:=jT I sb ds (A:=A) rs rs' qs Ze (j:=j) (by omega) h1 h2
            simpa[nu] using this
end
end
end L2
end
section
set_option Elab.async false
set_option linter.all false
set_option maxRecDepth 100000
namespace L2
open PySem PySem.Spec PyProof.Rows
section
variable {X:Cx}{pins:List (Addr×Obj)}{σ:St}{F H:Hp}{s:Shared}
theorem Nf (I:Inv X pins σ H s) (sb:Sub F H){d e:D}{A:Around}{x y:V}{u w':Value}(r1:Rep F x d) (r2:Rep F y e) (rx:RelV x u) (ry:RelV y w') (hu:A.units+cG d < cLine):SeqAt.RcAt A s u w' (mz d e):=by
 cases r1 with
 | cI=>
  cases rx
  cases r2 with
  | cI=>cases ry;exact SeqAt.RcAt.none_none
  | bl b=>cases ry;exact SeqAt.RcAt.none_bool b
  | int b=>obtain⟨tb,rfl⟩:=ry;exact SeqAt.RcAt.none_int b tb
  | str b=>obtain⟨tb,rfl⟩:=ry;exact SeqAt.RcAt.none_str b tb
  | @tup cb nA lC eb rb=>cases ry;obtain⟨cj,jS,pb⟩:=sb.isTup I eb;exact SeqAt.RcAt.none_tuple pb (by omega)
  | @lst cb nA lC eb rb=>cases ry;obtain⟨cj,jS,pb⟩:=sb.dX I eb;exact SeqAt.RcAt.none_list pb (by omega)
 | bl a=>
  cases rx
  cases r2 with
  | cI=>cases ry;exact SeqAt.RcAt.bool_none a
  | bl b=>cases ry;exact SeqAt.RcAt.bool_bool a b
  | int b=>obtain⟨tb,rfl⟩:=ry;exact SeqAt.RcAt.bool_int a b tb
  | str b=>obtain⟨tb,rfl⟩:=ry;exact SeqAt.RcAt.bool_str a b tb
  | @tup cb nA lC eb rb=>cases ry;obtain⟨cj,jS,pb⟩:=sb.isTup I eb;exact SeqAt.RcAt.bool_tuple a pb (by omega)
  | @lst cb nA lC eb rb=>cases ry;obtain⟨cj,jS,pb⟩:=sb.dX I eb;exact SeqAt.RcAt.bool_list a pb (by omega)
 | int a=>
  obtain⟨ta,rfl⟩:=rx
  cases r2 with
  | cI=>cases ry;exact SeqAt.RcAt.int_none a ta
  | bl b=>cases ry;exact SeqAt.RcAt.int_bool a ta b
  | int b=>obtain⟨tb,rfl⟩:=ry;exact SeqAt.RcAt.int_int a ta b tb
  | str b=>obtain⟨tb,rfl⟩:=ry;exact SeqAt.RcAt.int_str a ta b tb
  | @tup cb nA lC eb rb=>cases ry;obtain⟨cj,jS,pb⟩:=sb.isTup I eb;exact SeqAt.RcAt.int_tuple a ta pb (by omega)
  | @lst cb nA lC eb rb=>cases ry;obtain⟨cj,jS,pb⟩:=sb.dX I eb;exact SeqAt.RcAt.int_list a ta pb (by omega)
 | str a=>
  obtain⟨ta,rfl⟩:=rx
  cases r2 with
  | cI=>cases ry;exact SeqAt.RcAt.str_none a ta
  | bl b=>cases ry;exact SeqAt.RcAt.str_bool a ta b
  | int b=>obtain⟨tb,rfl⟩:=ry;exact SeqAt.RcAt.str_int a ta b tb
  | str b=>obtain⟨tb,rfl⟩:=ry;exact SeqAt.RcAt.str_str a ta b tb
  | @tup cb nA lC eb rb=>cases ry;obtain⟨cj,jS,pb⟩:=sb.isTup I eb;exact SeqAt.RcAt.str_tuple a ta pb (by omega)
  | @lst cb nA lC eb rb=>cases ry;obtain⟨cj,jS,pb⟩:=sb.dX I eb;exact SeqAt.RcAt.str_list a ta pb (by omega)
 | @tup ca Nd oN ea ra=>
  cases rx;obtain⟨gm,zH,pa⟩:=sb.isTup I ea
  cases r2 with
  | cI=>cases ry;exact SeqAt.RcAt.tuple_none pa (by omega)
  | bl b=>cases ry;exact SeqAt.RcAt.tuple_bool b pa (by omega)
  | int b=>obtain⟨tb,rfl⟩:=ry;exact SeqAt.RcAt.tuple_int b tb pa (by omega)
  | str b=>obtain⟨tb,rfl⟩:=ry;exact SeqAt.RcAt.tuple_str b tb pa (by omega)
  | @tup cb nA lC eb rb=>cases ry;obtain⟨cj,jS,pb⟩:=sb.isTup I eb;exact(by
   have hd:A.units+(bU oN+1) < cLine:=hu
   have items:je A s gm cj oN lC:=fun j h1 h2=>jT I sb oN (A:=A.in1) ra rb zH jS (by show A.units+1+bU oN < cLine;omega) (dG gm j h1) (dG cj j h2)
   exact qd (by omega) pa pb (zH.length.symm.trans ra.length) (jS.length.symm.trans rb.length) items)
  | @lst cb nA lC eb rb=>cases ry;obtain⟨cj,jS,pb⟩:=sb.dX I eb;exact SeqAt.RcAt.tuple_list pa pb (by omega)
 | @lst ca Nd oN ea ra=>
  cases rx;obtain⟨gm,zH,pa⟩:=sb.dX I ea
  cases r2 with
  | cI=>cases ry;exact SeqAt.RcAt.list_none pa (by omega)
  | bl b=>cases ry;exact SeqAt.RcAt.list_bool b pa (by omega)
  | int b=>obtain⟨tb,rfl⟩:=ry;exact SeqAt.RcAt.list_int b tb pa (by omega)
  | str b=>obtain⟨tb,rfl⟩:=ry;exact SeqAt.RcAt.list_str b tb pa (by omega)
  | @tup cb nA lC eb rb=>cases ry;obtain⟨cj,jS,pb⟩:=sb.isTup I eb;exact SeqAt.RcAt.list_tuple pa pb (by omega)
  | @lst cb nA lC eb rb=>cases ry;obtain⟨cj,jS,pb⟩:=sb.dX I eb;exact(by
   have hd:A.units+(bU oN+1) < cLine:=hu
   have items:je A s gm cj oN lC:=fun j h1 h2=>jT I sb oN (A:=A.in1) ra rb zH jS (by show A.units+1+bU oN < cLine;omega) (dG gm j h1) (dG cj j h2)
   exact sM (by omega) pa pb (zH.length.symm.trans ra.length) (jS.length.symm.trans rb.length) items)
theorem Hs (I:Inv X pins σ H s) (sb:Sub F H){d e:D}{A:Around}{x y:V}{u w':Value}(r1:Rep F x d) (r2:Rep F y e) (rx:RelV x u) (ry:RelV y w') (hu:A.units+cG d < cLine):SeqAt.RcNeAt A s u w' (!mz d e):=by
 cases r1 with
 | cI=>
  cases rx
  cases r2 with
  | cI=>cases ry;exact SeqAt.RcNeAt.none_none
  | bl b=>cases ry;exact SeqAt.RcNeAt.none_bool b
  | int b=>obtain⟨tb,rfl⟩:=ry;exact SeqAt.RcNeAt.none_int b tb
  | str b=>obtain⟨tb,rfl⟩:=ry;exact SeqAt.RcNeAt.none_str b tb
  | @tup cb nA lC eb rb=>cases ry;obtain⟨cj,jS,pb⟩:=sb.isTup I eb;exact SeqAt.RcNeAt.none_tuple pb (by omega)
  | @lst cb nA lC eb rb=>cases ry;obtain⟨cj,jS,pb⟩:=sb.dX I eb;exact SeqAt.RcNeAt.none_list pb (by omega)
 | bl a=>
  cases rx
  cases r2 with
  | cI=>cases ry;exact SeqAt.RcNeAt.bool_none a
  | bl b=>cases ry;exact SeqAt.RcNeAt.bool_bool a b
  | int b=>obtain⟨tb,rfl⟩:=ry;exact SeqAt.RcNeAt.bool_int a b tb
  | str b=>obtain⟨tb,rfl⟩:=ry;exact SeqAt.RcNeAt.bool_str a b tb
  | @tup cb nA lC eb rb=>cases ry;obtain⟨cj,jS,pb⟩:=sb.isTup I eb;exact SeqAt.RcNeAt.bool_tuple a pb (by omega)
  | @lst cb nA lC eb rb=>cases ry;obtain⟨cj,jS,pb⟩:=sb.dX I eb;exact SeqAt.RcNeAt.bool_list a pb (by omega)
 | int a=>
  obtain⟨ta,rfl⟩:=rx
  cases r2 with
  | cI=>cases ry;exact SeqAt.RcNeAt.int_none a ta
  | bl b=>cases ry;exact SeqAt.RcNeAt.int_bool a ta b
  | int b=>obtain⟨tb,rfl⟩:=ry;exact SeqAt.RcNeAt.int_int a ta b tb
  | str b=>obtain⟨tb,rfl⟩:=ry;exact SeqAt.RcNeAt.int_str a ta b tb
  | @tup cb nA lC eb rb=>cases ry;obtain⟨cj,jS,pb⟩:=sb.isTup I eb;exact SeqAt.RcNeAt.int_tuple a ta pb (by omega)
  | @lst cb nA lC eb rb=>cases ry;obtain⟨cj,jS,pb⟩:=sb.dX I eb;exact SeqAt.RcNeAt.int_list a ta pb (by omega)
 | str a=>
  obtain⟨ta,rfl⟩:=rx
  cases r2 with
  | cI=>cases ry;exact SeqAt.RcNeAt.str_none a ta
  | bl b=>cases ry;exact SeqAt.RcNeAt.str_bool a ta b
  | int b=>obtain⟨tb,rfl⟩:=ry;exact SeqAt.RcNeAt.str_int a ta b tb
  | str b=>obtain⟨tb,rfl⟩:=ry;exact SeqAt.RcNeAt.str_str a ta b tb
  | @tup cb nA lC eb rb=>cases ry;obtain⟨cj,jS,pb⟩:=sb.isTup I eb;exact SeqAt.RcNeAt.str_tuple a ta pb (by omega)
  | @lst cb nA lC eb rb=>cases ry;obtain⟨cj,jS,pb⟩:=sb.dX I eb;exact SeqAt.RcNeAt.str_list a ta pb (by omega)
 | @tup ca Nd oN ea ra=>
  cases rx;obtain⟨gm,zH,pa⟩:=sb.isTup I ea
  cases r2 with
  | cI=>cases ry;exact SeqAt.RcNeAt.tuple_none pa (by omega)
  | bl b=>cases ry;exact SeqAt.RcNeAt.tuple_bool b pa (by omega)
  | int b=>obtain⟨tb,rfl⟩:=ry;exact SeqAt.RcNeAt.tuple_int b tb pa (by omega)
  | str b=>obtain⟨tb,rfl⟩:=ry;exact SeqAt.RcNeAt.tuple_str b tb pa (by omega)
  | @tup cb nA lC eb rb=>cases ry;obtain⟨cj,jS,pb⟩:=sb.isTup I eb;exact(by
   have hd:A.units+(bU oN+1) < cLine:=hu
   have items:je A s gm cj oN lC:=fun j h1 h2=>jT I sb oN (A:=A.in1) ra rb zH jS (by show A.units+1+bU oN < cLine;omega) (dG gm j h1) (dG cj j h2)
   exact uN (by omega) pa pb (zH.length.symm.trans ra.length) (jS.length.symm.trans rb.length) items)
  | @lst cb nA lC eb rb=>cases ry;obtain⟨cj,jS,pb⟩:=sb.dX I eb;exact SeqAt.RcNeAt.tuple_list pa pb (by omega)
 | @lst ca Nd oN ea ra=>
  cases rx;obtain⟨gm,zH,pa⟩:=sb.dX I ea
  cases r2 with
  | cI=>cases ry;exact SeqAt.RcNeAt.list_none pa (by omega)
  | bl b=>cases ry;exact SeqAt.RcNeAt.list_bool b pa (by omega)
  | int b=>obtain⟨tb,rfl⟩:=ry;exact SeqAt.RcNeAt.list_int b tb pa (by omega)
  | str b=>obtain⟨tb,rfl⟩:=ry;exact SeqAt.RcNeAt.list_str b tb pa (by omega)
  | @tup cb nA lC eb rb=>cases ry;obtain⟨cj,jS,pb⟩:=sb.isTup I eb;exact SeqAt.RcNeAt.list_tuple pa pb (by omega)
  | @lst cb nA lC eb rb=>cases ry;obtain⟨cj,jS,pb⟩:=sb.dX I eb;exact(by
   have hd:A.units+(bU oN+1) < cLine:=hu
   have items:je A s gm cj oN lC:=fun j h1 h2=>jT I sb oN (A:=A.in1) ra rb zH jS (by show A.units+1+bU oN < cLine;omega) (dG gm j h1) (dG cj j h2)
   exact wj (by omega) pa pb (zH.length.symm.trans ra.length) (jS.length.symm.trans rb.length) items)
noncomputable def wk:List D→Option U
 | [a,b]=>if cG a≤40 then some (.t (.bl (mz a b))) else none
 | _=>none
noncomputable def Dg:List D→Option U
 | [a,b]=>if cG a≤40 then some (.t (.bl (!mz a b))) else none
 | _=>none
theorem e8 (hu:X.A.units+64 < cLine):zf X (compareOp .Eq) wk:=by
 intro pins s σ H x y v u Q I rx ry ⟨F,ds,w,sb,rs,hw,q⟩
 obtain⟨d,e,rfl,r1,r2⟩:=sJ rs
 obtain⟨hd,rfl⟩:=bX (show(if cG d≤40 then some (U.t (.bl (mz d e))) else none)=some w from hw)
 exact Nf I sb r1 r2 rx ry (by omega) _ _ _ _ ⟨.bl _,H,I,rfl,q _ F H (gD.refl ..) sb (.bl _)⟩
theorem nB (hu:X.A.units+64 < cLine):zf X (compareOp .NotEq) Dg:=by
 intro pins s σ H x y v u Q I rx ry ⟨F,ds,w,sb,rs,hw,q⟩
 obtain⟨d,e,rfl,r1,r2⟩:=sJ rs
 obtain⟨hd,rfl⟩:=bX (show(if cG d≤40 then some (U.t (.bl (!mz d e))) else none)=some w from hw)
 exact Hs I sb r1 r2 rx ry (by omega) _ _ _ _ ⟨.bl _,H,I,rfl,q _ F H (gD.refl ..) sb (.bl _)⟩
noncomputable def inD (x:D) (ds:List D):Bool:=ds.any fun y=>mz y x
noncomputable def zI:List D→Option U
 | [x,.tup ds]=>if bU ds≤40 then some (.t (.bl (inD x ds))) else none
 | [x,.lst ds]=>if bU ds≤40 then some (.t (.bl (inD x ds))) else none
 | [.str i,.str j]=>some (.t (.bl (!(Builtin.Str.occurrences j i 0 j.length 1).isEmpty)))
 | _=>none
noncomputable def mC:List D→Option U
 | [x,.tup ds]=>if bU ds≤40 then some (.t (.bl (!inD x ds))) else none
 | [x,.lst ds]=>if bU ds≤40 then some (.t (.bl (!inD x ds))) else none
 | [.str i,.str j]=>some (.t (.bl (!(!(Builtin.Str.occurrences j i 0 j.length 1).isEmpty))))
 | _=>none
theorem w5:∀{ds:List D}{d:D},d∈ds→cG d≤bU ds
 | d :: ds,e,h=>by
  show cG e≤max (cG d) (bU ds)
  rcases List.mem_cons.mp h with rfl | h
  ·exact Nat.le_max_left _ _
  ·exact Nat.le_trans (w5 h) (Nat.le_max_right _ _)
theorem RelV.uniq {v w':V}{u:Value}(a:RelV v u) (b:RelV w' u):v=w':=by
 cases v <;> cases w' <;> simp only[RelV] at a b <;> first
  | rfl
  | (subst a;cases b;done)
  | (subst a;cases b;rfl)
  | (obtain⟨t,rfl⟩:=a;obtain⟨t',e⟩:=b;cases e;done)
  | (obtain⟨t,rfl⟩:=a;obtain⟨t',e⟩:=b;cases e;rfl)
  | (obtain⟨t,rfl⟩:=a;cases b;done)
  | (obtain⟨t,rfl⟩:=b;cases a;done)
open Classical in
noncomputable def wm (F:Hp) (d:D) (y:Value):Bool:=if h:∃(v:V) (dd:D),RelV v y∧Rep F v dd then mz (Classical.choose (Classical.choose_spec h)) d else false
theorem E7 {v:V}{dd d:D}{y:Value}(a:RelV v y) (r:Rep F v dd):wm F d y=mz dd d:=by
 unfold wm
 have h:∃(v:V) (dd:D),RelV v y∧Rep F v dd:=⟨v,dd,a,r⟩
 rw[dif_pos h]
 have k:=Classical.choose_spec (Classical.choose_spec h)
 have e1:=RelV.uniq k.1 a
 have r':Rep F (Classical.choose h) dd:=by rw[e1];exact r
 rw[Rep.uniq k.2 r']
theorem lD (I:Inv X pins σ H s) (sb:Sub F H){A:Around}{x:V}{u:Value}{d:D}(r:Rep F x d) (rx:RelV x u):∀{vs:List V}{ds:List D}{its:List Value},bw F vs ds→Vals vs its→A.units+bU ds < cLine→
  (∀y∈its,SeqAt.EqAt A s y u (wm F d y))∧its.any (wm F d)=inD d ds
 | _,_,_,.nil,.nil,_=>⟨(fun y hy=>absurd hy (by simp)),rfl⟩
 | _,_,_,@bw.cons _ v dd vs ds r1 rs,.cons q qs,hu=>by
  have hd:A.units+max (cG dd) (bU ds) < cLine:=hu
  obtain⟨h1,h2⟩:=lD I sb (A:=A) r rx rs qs (by omega)
  refine⟨fun y hy=>?_,?_⟩
  ·rcases List.mem_cons.mp hy with rfl | hy
   ·rw[E7 q r1];exact IP I sb dd r1 r q rx (by omega)
   ·exact h1 y hy
  ·rw[List.any_cons,h2,E7 q r1]
   rfl
theorem uO (hu:X.A.units+64 < cLine):zf X (compareOp .In) zI:=by
 intro pins s σ H x y v u Q I rx ry ⟨F,ds,w,sb,rs,hw,q⟩
 obtain⟨d,e,rfl,r1,r2⟩:=sJ rs
 cases e with
 | tup ds=>
  obtain⟨hd,rfl⟩:=bX (show(if bU ds≤40 then some (U.t (.bl (inD d ds))) else none)=some w by cases d <;> exact hw)
  obtain⟨a,vs,rfl,fa,ha,rs⟩:=sb.kh r2
  cases ry
  obtain⟨its,rv,p⟩:=sb.isTup I fa
  obtain⟨h1,h2⟩:=lD I sb (A:=X.A.in1) r1 rx rs rv (by show X.A.units+1+bU ds < cLine;omega)
  refine SeqAt.in_tupleAt (wm F d) p (fun y hy=>h1 y (by simpa using hy)) ⟨.bl _,H,I,rfl,?_⟩
  rw[show its.toArray.any (wm F d)=its.any (wm F d) by simp,h2]
  exact q _ F H (gD.refl ..) sb (.bl _)
 | lst ds=>
  obtain⟨hd,rfl⟩:=bX (show(if bU ds≤40 then some (U.t (.bl (inD d ds))) else none)=some w by cases d <;> exact hw)
  obtain⟨a,vs,rfl,fa,ha,rs⟩:=sb.jl r2
  cases ry
  obtain⟨its,rv,p⟩:=sb.dX I fa
  obtain⟨h1,h2⟩:=lD I sb (A:=X.A.in1) r1 rx rs rv (by show X.A.units+1+bU ds < cLine;omega)
  refine SeqAt.in_listAt (wm F d) p (fun y hy=>h1 y (by simpa using hy)) ⟨.bl _,H,I,rfl,?_⟩
  rw[show its.toArray.any (wm F d)=its.any (wm F d) by simp,h2]
  exact q _ F H (gD.refl ..) sb (.bl _)
 | str j=>
  cases d <;> try (simp[zI] at hw;done)
  rename_i i
  cases hw
  cases r1
  cases r2
  exact CU pins s σ H _ _ v u Q I rx ry ⟨i,j,rfl,rfl,q _ F H (gD.refl ..) sb (.bl _)⟩
 | cI=>cases d <;> (simp[zI] at hw;done)
 | bl b=>cases d <;> (simp[zI] at hw;done)
 | int b=>cases d <;> (simp[zI] at hw;done)
theorem Dh (hu:X.A.units+64 < cLine):zf X (compareOp .NotIn) mC:=by
 intro pins s σ H x y v u Q I rx ry ⟨F,ds,w,sb,rs,hw,q⟩
 obtain⟨d,e,rfl,r1,r2⟩:=sJ rs
 cases e with
 | tup ds=>
  obtain⟨hd,rfl⟩:=bX (show(if bU ds≤40 then some (U.t (.bl (!inD d ds))) else none)=some w by cases d <;> exact hw)
  obtain⟨a,vs,rfl,fa,ha,rs⟩:=sb.kh r2
  cases ry
  obtain⟨its,rv,p⟩:=sb.isTup I fa
  obtain⟨h1,h2⟩:=lD I sb (A:=X.A.in1) r1 rx rs rv (by show X.A.units+1+bU ds < cLine;omega)
  refine SeqAt.notIn_tupleAt (wm F d) p (fun y hy=>h1 y (by simpa using hy)) ⟨.bl _,H,I,rfl,?_⟩
  rw[show its.toArray.any (wm F d)=its.any (wm F d) by simp,h2]
  exact q _ F H (gD.refl ..) sb (.bl _)
 | lst ds=>
  obtain⟨hd,rfl⟩:=bX (show(if bU ds≤40 then some (U.t (.bl (!inD d ds))) else none)=some w by cases d <;> exact hw)
  obtain⟨a,vs,rfl,fa,ha,rs⟩:=sb.jl r2
  cases ry
  obtain⟨its,rv,p⟩:=sb.dX I fa
  obtain⟨h1,h2⟩:=lD I sb (A:=X.A.in1) r1 rx rs rv (by show X.A.units+1+bU ds < cLine;omega)
  refine SeqAt.notIn_listAt (wm F d) p (fun y hy=>h1 y (by simpa using hy)) ⟨.bl _,H,I,rfl,?_⟩
  rw[show its.toArray.any (wm F d)=its.any (wm F d) by simp,h2]
  exact q _ F H (gD.refl ..) sb (.bl _)
 | str j=>
  cases d <;> try (simp[mC] at hw;done)
  rename_i i
  cases hw
  cases r1
  cases r2
  exact xU pins s σ H _ _ v u Q I rx ry ⟨i,j,rfl,rfl,q _ F H (gD.refl ..) sb (.bl _)⟩
 | cI=>cases d <;> (simp[mC] at hw;done)
 | bl b=>cases d <;> (simp[mC] at hw;done)
 | int b=>cases d <;> (simp[mC] at hw;done)
end
end L2
end
section
set_option Elab.async false
set_option linter.all false
set_option maxRecDepth 100000
namespace L2
open PySem PySem.Spec PyProof.Rows
noncomputable def jB (T:String) (d:D):Option Bool:=match T with
 | "tuple"=>some (Ba d)
 | "list"=>some (EN d)
 | "str"=>some (iG d)
 | "bool"=>some (EO d)
 | "int"=>some (Bb d)
 | _=>none
theorem E8 {K:PySem.W.Frag}{T:String}{d:D}{b:Bool}(h:jB T d=some b):PySem.W.kitOne K (.type (II d)) (.type T)=some b:=by
 unfold jB at h
 split at h
 ·cases h;exact G7 d
 ·cases h;exact G8 d
 ·cases h;exact ER d
 ·cases h;exact Kg d
 ·cases h;exact G9 d
 ·cases h
noncomputable def eV:List String→D→Option Bool
 | [],_=>some false
 | T :: Ts,d=>match jB T d with
  | some true=>some true
  | some false=>eV Ts d
  | none=>none
section
variable {X:Cx}{pins:List (Addr×Obj)}{σ:St}{F H:Hp}{s:Shared}
theorem Ht (I:Inv X pins σ H s) (sb:Sub F H){A:Around}{E:Value→Shared→Prop}{Q:Value→Shared→Prop}{x:V}{u:Value}{d:D}{c:Value}{b:Bool}(r:Rep F x d) (rx:RelV x u) (e:PySem.W.kitOne X.K (.type (II d)) c=some b) (h:∀tk,Q (.bool b) {s with toks:=tk}):
  wpAny (model X.prog X.w) A (call (.builtin "isinstance") [u,c]) Q E s:=by
 cases r with
 | cI=>cases rx;exact PySem.W.kia_one PySem.W.kitx_none I.AX True.intro e (fun z=>nomatch z) h
 | bl y=>cases rx;exact PySem.W.kia_one PySem.W.kitx_bool I.AX True.intro e (fun z=>nomatch z) h
 | int i=>obtain⟨t,rfl⟩:=rx;exact PySem.W.kia_one PySem.W.kitx_int I.AX True.intro e (fun z=>nomatch z) h
 | str y=>obtain⟨t,rfl⟩:=rx;exact PySem.W.kia_one PySem.W.kitx_str I.AX True.intro e (fun z=>nomatch z) h
 | tup ea _=>
  cases rx
  obtain⟨its,_,o,h1,h2,_⟩:=sb.isTup I ea
  exact PySem.W.kia_one PySem.W.kitx_tuple I.AX ⟨o,h1,h2⟩ e (fun z=>nomatch z) h
 | lst ea _=>
  cases rx
  obtain⟨its,_,o,h1,h2,_⟩:=sb.dX I ea
  exact PySem.W.kia_one PySem.W.kitx_list I.AX ⟨o,h1,h2⟩ e (fun z=>nomatch z) h
end
noncomputable def Hu (Ts:List String) (g:GD):GD:=fun S=>(g S).bind fun p=>(eV Ts p.1).map fun b=>(.bl b,p.2)
section
variable {X:Cx}{a b c e:Expr}{es:List Expr}{pos p p2 px:Pos}{x y:Str}{g ga gb gc:GD}{gA:GA}
theorem Di {T:String}{d:D}{b:Bool}(h:eV [T] d=some b):jB T d=some b:=by
 unfold eV at h
 cases e:jB T d with
 | none=>rw[e] at h;cases h
 | some k=>rw[e] at h;cases k <;> exact h
theorem iJ {T:String}(hg:Gl X "isinstance") (hm:X.mg "isinstance" =none) (LL:Gl X y) (hm2:X.mg y=none) (hv2:bootBuiltins y=some (.type T)) (ha:JD X a ga) (hn2:y≠"__name__":=by decide) (hd2:(y == ("__debug__":Str))=false:=by decide)
    (hs:starEach [a,.Name y px] X.env=(false,eval a X.env) :: starEach [.Name y px] X.env:=by rfl) (hs2:starEach [.Name y px] X.env=(false,eval (.Name y px) X.env) :: starEach [] X.env:=by rfl) (hpl:(backTo pos (starEach [.Name y px] X.env)).any (·.1)=false:=by rfl):
    JD X (.Call (.Name "isinstance" p) [a,.Name y px] [] pos) (Hu [T] ga):=⟨fun B=>
  (m9 (r := fun xs H Q => ∃ x F d b, xs = [x, .ty T] ∧ Sub F H ∧ Rep F x d ∧ jB T d = some b ∧ Q (.bl b) H) (fun pins s σ H xs us Q I r ⟨x, F, d, b, e1, sb, rd, hk, q⟩ => by
      subst e1
      obtain⟨u,w',rfl,ru,rw'⟩:=vals2 r
      cases rw'
      exact Ht I sb rd ru (E8 hk) fun tk=>⟨.bl b,H,I.tok tk,rfl,q⟩) hg hm PyProof.Rows.Boot.isinstance (lY (ha.h B) (lY (GC (v:=.ty T) LL hm2 hv2 rfl hn2 hd2) uA hs2) hs) (by decide) (by decide) hs hpl).imp fun σ H Q ⟨S,F,d,S',R,hg,q⟩=>by
  obtain⟨⟨d1,S1⟩,h1,hg⟩:=ak hg
  obtain⟨k,h2,hg⟩:=aB hg
  cases hg
  exact⟨S,F,d1,_,R,h1,fun v F1 H1 R1 st1 r1=>⟨v,F1,d1,k,rfl,R1.sub,r1,Di h2,q _ F1 H1 R1 st1 (.bl k)⟩⟩⟩
noncomputable def jC:List D→Option (List Bool)
 | []=>some []
 | .bl b :: ds=>(jC ds).map fun bs=>b :: bs
 | _=>none
theorem sN {F:Hp}:∀{vs:List V}{ds:List D}{bs:List Bool},bw F vs ds→jC ds=some bs→vs=bs.map V.bl
 | _,_,_,.nil,h=>by cases h;rfl
 | _,_,_,@bw.cons _ v d vs ds r rs,h=>by
  cases d <;> try (simp[jC] at h;done)
  obtain⟨bs,h1,h2⟩:=aB (show(jC ds).map _=_ from h)
  subst h2
  rw[mq r,sN rs h1]
  rfl
noncomputable def E9:List D→Option U
 | [.lst ds]=>(jC ds).map fun bs=>.t (.bl (bs.all id))
 | _=>none
noncomputable def RY:List D→Option U
 | [.lst ds]=>(jC ds).map fun bs=>.t (.bl (bs.any id))
 | _=>none
theorem uq {P:D→Prop}{F:Hp}{xs:List V}{ds:List D}{f:List D→Option U}{w':U}(rs:bw F xs ds) (h:f ds=some w') (hn:f []=none) (h2:∀a b r,f (a :: b :: r)=none):∃x d,xs=[x]∧ds=[d]∧Rep F x d:=by
 cases rs with
 | nil=>rw[hn] at h;cases h
 | cons r rs=>
  cases rs with
  | nil=>exact⟨_,_,rfl,rfl,r⟩
  | cons _ _=>rw[h2] at h;cases h
theorem xg (hc:X.calm=true):gq X (.builtin "all") (rP E9):=by
 intro pins s σ H xs us Q I r ⟨F,ds,w,sb,rs,hw,q⟩
 obtain⟨x,d,rfl,rfl,r1⟩:=uq (P:=fun _=>True) rs hw rfl (fun d _ _=>by cases d <;> rfl)
 cases d <;> try (simp[E9] at hw;done)
 rename_i ds
 obtain⟨bs,h1,rfl⟩:=aB (show(jC ds).map _=some w from hw)
 obtain⟨a,vs,rfl,fa,ha,tT⟩:=sb.jl r1
 obtain rfl:=sN tT h1
 exact C8 hc pins s σ H _ us Q I r ⟨a,bs,rfl,.inl ha,q _ F H (gD.refl ..) sb (.bl _)⟩
noncomputable def Ng:List D→Option U
 | [.int i,.int j,.int k]=>some (.t (.int (if j < i then(if k < j then k else j) else if k < i then k else i)))
 | _=>none
noncomputable def Nh:List D→Option U
 | [.int i,.int j]=>some (.t (.int (if j < i then j else i)))
 | _=>none
noncomputable def Ct:List D→Option U
 | [.int i,.int j]=>some (.t (.int (if j > i then j else i)))
 | _=>none
theorem Be (hc : X.calm = true) : gq X (.builtin "max") (rP Ct) := by
  intro pins s σ H xs us Q I r ⟨F,ds,w,sb,rs,hw,q⟩
  unfold Ct at hw
  split at hw
  · rename_i i j
    cases hw
    cases rs with
    | cons r1 rs=>cases rs with
      | cons r2 rs=>
        cases rs
        rw[ki r1,ki r2] at r
        exact CV hc pins s σ H _ us Q I r ⟨i,j,rfl,q _ F H (gD.refl ..) sb (.int _)⟩
  · cases hw
noncomputable def uP:List D→Option U
 | [.tup ds]=>some (.m (.lst ds))
 | [.lst ds]=>some (.m (.lst ds))
 | _=>none
noncomputable def qV:List D→Option U
 | [.tup ds]=>some (.t (.tup ds))
 | [.lst ds]=>some (.t (.tup ds))
 | _=>none
theorem uQ:gq X (.type "list") (rP uP):=by
 intro pins s σ H xs us Q I r ⟨F,ds,w,sb,rs,hw,q⟩
 obtain⟨x,d,rfl,rfl,r1⟩:=uq (P:=fun _=>True) rs hw rfl (fun d _ _=>by cases d <;> rfl)
 cases d <;> try (simp[uP] at hw;done)
 ·cases hw
  obtain⟨a,vs,rfl,fa,ha,tT⟩:=sb.kh r1
  exact p5 pins s σ H _ us Q I r ⟨a,vs,rfl,.inr (.inl ha),fun p hp=>q _ F _ (gD.obj hp _) (sb.same (gD.obj (F:=F) hp _).same) ⟨p,rfl,hp,sb.fresh hp,vs,aW,tT⟩⟩
 ·cases hw
  obtain⟨a,vs,rfl,fa,ha,tT⟩:=sb.jl r1
  exact p5 pins s σ H _ us Q I r ⟨a,vs,rfl,.inl (.inl ha),fun p hp=>q _ F _ (gD.obj hp _) (sb.same (gD.obj (F:=F) hp _).same) ⟨p,rfl,hp,sb.fresh hp,vs,aW,tT⟩⟩
theorem sO:gq X (.type "tuple") (rP qV):=by
 intro pins s σ H xs us Q I r ⟨F,ds,w,sb,rs,hw,q⟩
 obtain⟨x,d,rfl,rfl,r1⟩:=uq (P:=fun _=>True) rs hw rfl (fun d _ _=>by cases d <;> rfl)
 cases d <;> try (simp[qV] at hw;done)
 ·cases hw
  have r0:=r1
  obtain⟨a,vs,rfl,fa,ha,tT⟩:=sb.kh r1
  exact oR pins s σ H _ us Q I r ⟨a,vs,rfl,.inr ⟨.inl ha,q _ F H (gD.refl ..) sb r0⟩⟩
 ·cases hw
  obtain⟨a,vs,rfl,fa,ha,tT⟩:=sb.jl r1
  exact oR pins s σ H _ us Q I r ⟨a,vs,rfl,.inl ⟨.inl ha,fun p hp=>q _ _ _ (gD.root sb hp _) (sb.uG hp) (.tup aW (tT.le (ni (sb.fresh hp))))⟩⟩
end
end L2
end
section
set_option Elab.async false
set_option linter.all false
set_option maxRecDepth 100000
namespace L2
open PySem PySem.Spec PyProof.Rows
noncomputable def keyOf:D→Option Key
 | .int i=>some (.inl i)
 | .str z=>some (.inr z)
 | _=>none
theorem lE {F:Hp}{v:V}{d:D}{k:Key}(r:Rep F v d) (h:keyOf d=some k):v=kV k:=by
 cases r <;> cases h <;> rfl
noncomputable def cD {κ:Type} [DecidableEq κ] (kvs:List (κ×D)) (k:κ):Option D:=(kvs.find? fun kv=>decide (kv.1=k)).map (·.2)
noncomputable def putD {κ:Type} [DecidableEq κ] (kvs:List (κ×D)) (k:κ) (d:D):List (κ×D):=
 if(kvs.any fun kv=>decide (kv.1=k))=true then kvs.map (fun kv=>if kv.1=k then(kv.1,d) else kv) else kvs++[(k,d)]
theorem oz {κ:Type} [DecidableEq κ] {F:Hp}{k:κ}{d:D}:∀{ws:List (κ×V)}{kvs:List (κ×D)},Paired (gK F) ws kvs→cD kvs k=some d→∃v,o8 ws k=some v∧Rep F v d
 | _,_,.nil,h=>by cases h
 | _,_,@Paired.cons _ _ _ p q ws kvs r rs,h=>by
  by_cases e:q.1=k
  ·have e':p.1=k:=r.1.trans e
   refine⟨p.2,pW e',?_⟩
   have:cD (q :: kvs) k=some q.2:=by simp[cD,List.find?_cons,e]
   rw[this] at h
   cases h
   exact r.2
  ·have e':¬p.1=k:=fun z=>e (r.1.symm.trans z)
   have:cD (q :: kvs) k=cD kvs k:=by simp[cD,List.find?_cons,e]
   rw[this] at h
   obtain⟨v,h1,h2⟩:=oz rs h
   exact⟨v,by rw[ng e'];exact h1,h2⟩
theorem xh {κ:Type} [DecidableEq κ] {F:Hp}{k:κ}:∀{ws:List (κ×V)}{kvs:List (κ×D)},Paired (gK F) ws kvs→cD kvs k=none→o8 ws k=none
 | _,_,.nil,h=>rfl
 | _,_,@Paired.cons _ _ _ p q ws kvs r rs,h=>by
  by_cases e:q.1=k
  ·have:cD (q :: kvs) k=some q.2:=by simp[cD,List.find?_cons,e]
   rw[this] at h
   cases h
  ·have e':¬p.1=k:=fun z=>e (r.1.symm.trans z)
   have:cD (q :: kvs) k=cD kvs k:=by simp[cD,List.find?_cons,e]
   rw[this] at h
   rw[ng e']
   exact xh rs h
theorem zJ {κ:Type} [DecidableEq κ] {F:Hp}{k:κ}:∀{ws:List (κ×V)}{kvs:List (κ×D)},Paired (gK F) ws kvs→(ws.any fun kv=>decide (kv.1=k))=(kvs.any fun kv=>decide (kv.1=k))
 | _,_,.nil=>rfl
 | _,_,.cons r rs=>by rw[List.any_cons,List.any_cons,zJ rs,r.1]
theorem zK {κ:Type} [DecidableEq κ] {F:Hp}{k:κ}{v:V}{d:D}(r:Rep F v d):∀{ws:List (κ×V)}{kvs:List (κ×D)},Paired (gK F) ws kvs→Paired (gK F) (ws.map fun kv=>if kv.1=k then(kv.1,v) else kv) (kvs.map fun kv=>if kv.1=k then(kv.1,d) else kv)
 | _,_,.nil=>.nil
 | _,_,@Paired.cons _ _ _ p q ws kvs h hs=>by
  refine .cons ?_ (zK r hs)
  show gK F (if p.1=k then(p.1,v) else p) (if q.1=k then(q.1,d) else q)
  rw[h.1]
  by_cases e:q.1=k
  ·rw[if_pos e,if_pos e];exact⟨rfl,r⟩
  ·rw[if_neg e,if_neg e];exact h
theorem sP {α β:Type}{P:α→β→Prop}{x:α}{y:β}(p:P x y):∀{l:List α}{r:List β},Paired P l r→Paired P (l++[x]) (r++[y])
 | _,_,.nil=>.cons p .nil
 | _,_,.cons q qs=>.cons q (sP p qs)
theorem uR {κ:Type} [DecidableEq κ] {F:Hp}{k:κ}{v:V}{d:D}{ws:List (κ×V)}{kvs:List (κ×D)}(h:Paired (gK F) ws kvs) (r:Rep F v d):Paired (gK F) (putK ws k v) (putD kvs k d):=by
 unfold putK putD
 rw[zJ h]
 by_cases e:(kvs.any fun kv=>decide (kv.1=k))=true
 ·rw[if_pos e,if_pos e];exact zK r h
 ·rw[if_neg e,if_neg e];exact sP ⟨rfl,r⟩ h
noncomputable def keysOf:List D→Option (List Key)
 | []=>some []
 | d :: ds=>(keyOf d).bind fun k=>(keysOf ds).map fun ks=>k :: ks
noncomputable def Bf:D→Option (List Key)
 | .tup ds=>keysOf ds
 | _=>none
theorem sQ {F:Hp}:∀{vs:List V}{ds:List D}{ks:List Key},bw F vs ds→keysOf ds=some ks→vs=ks.map kV
 | _,_,_,.nil,h=>by cases h;rfl
 | _,_,_,.cons r rs,h=>by
  obtain⟨k,h1,h⟩:=ak h
  obtain⟨ks,h2,rfl⟩:=aB h
  rw[lE r h1,sQ rs h2]
  rfl
theorem qg {F H:Hp}{v:V}{d:D}{ks:List Key}(sb:Sub F H) (r:Rep F v d) (h:Bf d=some ks):∃b,v= .ref b∧H b=some (.tup (ks.map kV)):=by
 cases r with
 | tup e rs=>exact⟨_,rfl,by rw[←sQ rs h];exact sb _ _ e⟩
 | cI=>cases h
 | bl _=>cases h
 | int _=>cases h
 | str _=>cases h
 | lst _ _=>cases h
noncomputable def qh:U→D→Option D
 | .t (.tup ds),.int i=>iD ds i
 | .t (.lst ds),.int i=>iD ds i
 | .m (.lst ds),.int i=>iD ds i
 | .b (.lst ds),.int i=>iD ds i
 | .s ns,.int i=>(iD ns i).map D.int
 | .m (.dct kvs),k=>(keyOf k).bind (cD kvs)
 | .b (.dct kvs),k=>(keyOf k).bind (cD kvs)
 | .m (.yf kvs),k=>(Bf k).bind (cD kvs)
 | .b (.yf kvs),k=>(Bf k).bind (cD kvs)
 | _,_=>none
noncomputable def cJ (i:Nat) (gb:GD):GD:=fun S=>match S[i]? with
 | some (some _)=>(gb S).bind fun p=>match p.2[i]? with
  | some (some u)=>(qh u p.1).map fun d=>(d,p.2)
  | _=>none
 | _=>none
theorem Hv {α β:Type}(f:α→β){l:List α}{i:Int}{x:α}(h:iD l i=some x):iD (l.map f) i=some (f x):=by
 unfold iD at h ⊢
 rw[List.length_map]
 obtain⟨j,h1,h2⟩:=ak h
 rw[h1]
 show(l.map f)[j]? =_
 rw[List.getElem?_map,h2]
 rfl
section
variable {X:Cx}{a b c e value:Expr}{es:List Expr}{pos p p2 px pos':Pos}{x y:Str}{g ga gb gc gk gv:GD}{gA:GA}
theorem aX {i : Nat} (hu : X.A.units + 1 < cLine) (hb : JD X b gb) (hs : xZ b := by first | (intro _ _; rfl)) (hN : X.N[i]? = some x := by rfl) (hv : Ec X.env.scope x := by first | exact Or.inl rfl | exact Or.inr (Or.inl rfl) | exact Or.inr (Or.inr rfl))
    (hd:(x == ("__debug__":Str))=false:=by decide) (hcd:(x == ("__classdict__":Str))=false:=by decide):JD X (.Subscript (.Name x px) b pos) (cJ i gb):=⟨fun B=>PE.orelse fun σ H Q ⟨S,F,d,S',R,hg,q⟩=>by
  unfold cJ at hg
  split at hg
  · rename_i u0 Ni
    obtain⟨v0,hv0,_⟩:=R.rep i u0 Ni
    obtain⟨⟨k,S1⟩,h1,hg⟩:=ak hg
    dsimp only at hg
    split at hg
    · rename_i u hS
      obtain⟨d',hr,hg⟩:=aB hg
      cases hg
      have Cr:∀F1 H1,Rel X.K B S' σ F1 H1→we X.K F1 H1 v0 u:=fun F1 H1 R1=>by
        obtain⟨v,k1,k2⟩:=R1.rep i u hS
        rw[hv0] at k1
        cases k1
        exact k2
      have seq:∀(Y:V→V→Hp→VK→Prop),PE X (.Subscript (.Name x px) b pos) (LF Y (Jp i) (tD X.K B gb))→(∀v F1 H1,Rel X.K B S' σ F1 H1→Step S S' σ F H F1 H1→Rep F1 v k→Y v0 v H1 Q)→∃t',PE X (.Subscript (.Name x px) b pos) t'∧t' σ H Q:=fun Y hY h=>
        ⟨_,hY,v0,hv0,S,F,k,S',R,h1,fun v F1 H1 R1 st1 r1=>h v F1 H1 R1 st1 r1⟩
      have dict:∀kvs,(∀F1 H1,Rel X.K B S' σ F1 H1→∃a ws,v0= .ref a∧H1 a=some (.dK ws)∧Paired (gK F1) ws kvs)→(keyOf k).bind (cD kvs)=some d→∃t',PE X (.Subscript (.Name x px) b pos) t'∧t' σ H Q:=fun kvs hat hr=>by
        obtain⟨kk,e1,e2⟩:=ak hr
        refine⟨_,Cd hu (iF hN hv hd hcd) (hb.h B) hs,v0,hv0,S,F,k,S',R,h1,fun v F1 H1 R1 st1 r1=>?_⟩
        obtain⟨a,ws,rfl,ha,pr⟩:=hat F1 H1 R1
        obtain⟨w',z1,z2⟩:=oz pr e2
        rw[lE r1 e1]
        exact⟨a,w',rfl,by rw[←z1];exact oJ.k ha,q w' F1 H1 R1 st1 z2⟩
      have IQ:∀kvs,(∀F1 H1,Rel X.K B S' σ F1 H1→∃a ws,v0= .ref a∧H1 a=some (.dT ws)∧Paired (gK F1) ws kvs)→(Bf k).bind (cD kvs)=some d→∃t',PE X (.Subscript (.Name x px) b pos) t'∧t' σ H Q:=fun kvs hat hr=>by
        obtain⟨kk,e1,e2⟩:=ak hr
        refine⟨_,Cd hu (iF hN hv hd hcd) (hb.h B) hs,v0,hv0,S,F,k,S',R,h1,fun v F1 H1 R1 st1 r1=>?_⟩
        obtain⟨a,ws,rfl,ha,pr⟩:=hat F1 H1 R1
        obtain⟨w',z1,z2⟩:=oz pr e2
        obtain⟨b',rfl,hb'⟩:=qg R1.sub r1 e1
        exact⟨a,w',rfl,by rw[←z1];exact oJ.t ha hb',q w' F1 H1 R1 st1 z2⟩
      have list:∀ds ii,k= .int ii→iD ds ii=some d→(∀F1 H1,Rel X.K B S' σ F1 H1→∃a vs,v0= .ref a∧(oH X.K H1 a vs∨xT X.K H1 a vs)∧bw F1 vs ds)→∃t',PE X (.Subscript (.Name x px) b pos) t'∧t' σ H Q:=fun ds ii ek hrr hat=>by
        subst ek
        refine seq _ (EA ED (iF hN hv hd hcd) (hb.h B) hs) fun v F1 H1 R1 st1 r1=>?_
        obtain⟨a,vs,rfl,ha,rs⟩:=hat F1 H1 R1
        obtain⟨w',z1,z2⟩:=rs.iD hrr
        rw[ki r1]
        rcases ha with ha | ha
        · exact .inl ⟨a,vs,ii,w',rfl,rfl,ha,z1,q w' F1 H1 R1 st1 z2⟩
        · exact .inr (.inl ⟨a,vs,ii,w',rfl,rfl,ha,z1,q w' F1 H1 R1 st1 z2⟩)
      unfold qh at hr
      split at hr
      · rename_i ds ii
        exact list ds ii rfl hr fun F1 H1 R1=>let⟨a,vs,e1,fa,ha,rs⟩:=R1.sub.kh (Cr F1 H1 R1);⟨a,vs,e1,.inr (.inl ha),rs⟩
      · rename_i ds ii
        exact list ds ii rfl hr fun F1 H1 R1=>let⟨a,vs,e1,fa,ha,rs⟩:=R1.sub.jl (Cr F1 H1 R1);⟨a,vs,e1,.inl (.inl ha),rs⟩
      · rename_i ds ii
        exact list ds ii rfl hr fun F1 H1 R1=>let⟨a,e1,fa,vs,ha,rs⟩:=Cr F1 H1 R1;⟨a,vs,e1,.inl (oH.of ha),rs⟩
      · rename_i ds ii
        exact list ds ii rfl hr fun F1 H1 R1=>let⟨a,e1,fa,vs,ha,rs⟩:=Cr F1 H1 R1;⟨a,vs,e1,.inl (oH.of ha),rs⟩
      · rename_i ns ii
        obtain⟨n,z1,z2⟩:=aB hr
        subst z2
        refine seq _ (EA ED (iF hN hv hd hcd) (hb.h B) hs) fun v F1 H1 R1 st1 r1=>?_
        obtain⟨a,e1,ha⟩:=Cr F1 H1 R1
        rw[ki r1]
        exact .inl ⟨a,ns.map V.int,ii,.int n,e1,rfl,ha.sq,Hv V.int z1,q _ F1 H1 R1 st1 (.int n)⟩
      · rename_i kvs
        exact dict kvs (fun F1 H1 R1=>let⟨a,e1,fa,ws,ha,pr⟩:=Cr F1 H1 R1;⟨a,ws,e1,ha,pr⟩) hr
      · rename_i kvs
        exact dict kvs (fun F1 H1 R1=>let⟨a,e1,fa,ws,ha,pr⟩:=Cr F1 H1 R1;⟨a,ws,e1,ha,pr⟩) hr
      · rename_i kvs
        exact IQ kvs (fun F1 H1 R1=>let⟨a,e1,fa,ws,ha,pr⟩:=Cr F1 H1 R1;⟨a,ws,e1,ha,pr⟩) hr
      · rename_i kvs
        exact IQ kvs (fun F1 H1 R1=>let⟨a,e1,fa,ws,ha,pr⟩:=Cr F1 H1 R1;⟨a,ws,e1,ha,pr⟩) hr
      · cases hr
    · cases hg
  · cases hg⟩
noncomputable def yr:U→Option Nat
 | .t (.tup ds)=>some ds.length
 | .t (.lst ds)=>some ds.length
 | .t (.str z)=>if z.length≤100000 then some z.length else none
 | .m (.lst ds)=>some ds.length
 | .b (.lst ds)=>some ds.length
 | .m (.dct ds)=>some ds.length
 | .b (.dct ds)=>some ds.length
 | .s ns=>some ns.length
 | _=>none
noncomputable def oO (i:Nat):GD:=fun S=>match S[i]? with
 | some (some u)=>(yr u).map fun n=>(.int (n:Nat),S)
 | _=>none
theorem dg {α β:Type}{P:α→β→Prop}:∀{l:List α}{r:List β},Paired P l r→l.length=r.length
 | _,_,.nil=>rfl
 | _,_,.cons _ ps=>congrArg Nat.succ (dg ps)
theorem iK {i:Nat}(hg:Gl X "len") (hm:X.mg "len" =none) (hN:X.N[i]? =some x:=by rfl) (hv:Ec X.env.scope x:=by first | exact Or.inl rfl | exact Or.inr (Or.inl rfl) | exact Or.inr (Or.inr rfl))
  (hd:(x == ("__debug__":Str))=false:=by decide) (hcd:(x == ("__classdict__":Str))=false:=by decide) (he:starEach [.Name x px] X.env=(false,eval (.Name x px) X.env) :: starEach [] X.env:=by rfl) (hpl:(backTo pos (starEach [] X.env)).any (·.1)=false:=by rfl):
  JD X (.Call (.Name "len" p) [.Name x px] [] pos) (oO i):=⟨fun B=>PE.orelse fun σ H Q ⟨S,F,d,S',R,hg',q⟩=>by
 unfold oO at hg'
 split at hg'
 ·rename_i u hS
  obtain⟨n,hn,hg'⟩:=aB hg'
  cases hg'
  obtain⟨v0,hv0,r0⟩:=R.rep i u hS
  have fin:=q (.int n) F H R (Step.refl ..) (.int _)
  have arg:PA X [.Name x px] (Iz (Jp i) J0):=lY (iF hN hv hd hcd) uA he
  have list:∀a vs,v0= .ref a→(oH X.K H a vs∨xT X.K H a vs)→vs.length=n→∃t',PE X (.Call (.Name "len" p) [.Name x px] [] pos) t'∧t' σ H Q:=fun a vs e1 ha hl=>
   ⟨_,m9 lZ hg hm PySem.boot_len arg (by decide) (by decide) he hpl,v0,hv0,a,vs,by rw[e1],ha,by rw[hl];exact fin⟩
  have dict:∀a ws,v0= .ref a→H a=some (.dK ws)→ws.length=n→∃t',PE X (.Call (.Name "len" p) [.Name x px] [] pos) t'∧t' σ H Q:=fun a vs e1 ha hl=>
   ⟨_,m9 C5 hg hm PySem.boot_len arg (by decide) (by decide) he hpl,v0,hv0,a,vs,by rw[e1],ha,by rw[hl];exact fin⟩
  unfold yr at hn
  split at hn
  ·cases hn;obtain⟨a,vs,e1,fa,ha,rs⟩:=R.sub.kh r0;exact list a vs e1 (.inr (.inl ha)) rs.length
  ·cases hn;obtain⟨a,vs,e1,fa,ha,rs⟩:=R.sub.jl r0;exact list a vs e1 (.inl (.inl ha)) rs.length
  ·rename_i z
   obtain⟨hl,rfl⟩:=bX hn
   exact⟨_,m9 pZ hg hm PySem.boot_len arg (by decide) (by decide) he hpl,v0,hv0,z,by rw[Cp r0],jF hl,fin⟩
  ·cases hn;obtain⟨a,e1,fa,vs,ha,rs⟩:=r0;exact list a vs e1 (.inl (oH.of ha)) rs.length
  ·cases hn;obtain⟨a,e1,fa,vs,ha,rs⟩:=r0;exact list a vs e1 (.inl (oH.of ha)) rs.length
  ·cases hn;obtain⟨a,e1,fa,ws,ha,pr⟩:=r0;exact dict a ws e1 ha (dg pr)
  ·cases hn;obtain⟨a,e1,fa,ws,ha,pr⟩:=r0;exact dict a ws e1 ha (dg pr)
  ·cases hn;obtain⟨a,e1,ha⟩:=r0;exact list a _ e1 (.inl ha.sq) (by simp)
  ·cases hn
 ·cases hg'⟩
end
end L2
end
section
set_option Elab.async false
set_option linter.all false
set_option maxRecDepth 100000
namespace L2
open PySem PySem.Spec PyProof.Rows
noncomputable def uS (o:MO) (k d:D):Option MO:=match o with
 | .dct kvs=>(keyOf k).bind fun kk=>if kvs.length < 100000 then some (.dct (putD kvs kk d)) else none
 | .yf kvs=>(Bf k).bind fun kk=>if kvs.length < 100000 then some (.yf (putD kvs kk d)) else none
 | .lst ds=>match k with
  | .int i=>(ze ds.length i).map fun j=>.lst (ds.set j d)
  | _=>none
noncomputable def Dj (i:Nat) (gk gv:GD):GS:=fun S=>(gv S).bind fun p=>match p.2[i]? with
 | some (some _)=>(gk p.2).bind fun r=>(yi r.2 i fun o=>(uS o r.1 p.1).map fun o'=>(.cI,o')).map fun z=>.nx z.2
 | _=>none
theorem bw.set {F:Hp}{v:V}{d:D}(r:Rep F v d):∀{vs:List V}{ds:List D}(j:Nat),bw F vs ds→bw F (vs.set j v) (ds.set j d)
 | _,_,_,.nil=>.nil
 | _,_,0,.cons _ rs=>.cons r rs
 | _,_,j+1,.cons q rs=>.cons q (bw.set r j rs)
section
variable {X:Cx}{a b c e value k:Expr}{es:List Expr}{pos p p2 px pos':Pos}{x y:Str}{g ga gb gc gk gv:GD}{gA:GA}
theorem yt {i:Nat}(hu:X.A.units+1 < cLine) (hk:JD X k gk) (hval:JD X value gv) (hN:X.N[i]? =some x:=by rfl) (hv:Ec X.env.scope x:=by first | exact Or.inl rfl | exact Or.inr (Or.inl rfl) | exact Or.inr (Or.inr rfl))
  (hd:(x == ("__debug__":Str))=false:=by decide) (hcd:(x == ("__classdict__":Str))=false:=by decide)
  (hs:swapsWith value (some (.Subscript (.Name x px) k pos')) pos.line X.env=pure false:=by rfl)
  (hs1:swapsWithSole [.Subscript (.Name x px) k pos'] value pos.line X.env=pure false:=by rfl) (hs2:swappedStores [.Subscript (.Name x px) k pos'] value X.env=pure none:=by rfl)
  (Zf:(assignEach [.Subscript (.Name x px) k pos'] X.env).map (·.2)=[assign (.Subscript (.Name x px) k pos') X.env]:=by rfl)
  (Zg:∀v,assign (.Subscript (.Name x px) k pos') X.env v=(do
   let ov ←holding [v] (eval (.Name x px) X.env)
   let iv ←holding [v,ov] (eval k X.env)
   standAt pos'
   holding [v,ov,iv] (setItem ov iv v)
   release [v,ov,iv] []):=by intro _;rfl):
  JS X (.Assign [.Subscript (.Name x px) k pos'] value pos) (Dj i gk gv):=⟨fun B=>PS.orelse fun D σ H ⟨S,F,o,R,hg,q⟩=>by
 obtain⟨⟨d,S1⟩,h1,hg⟩:=ak hg
 dsimp only at hg
 split at hg
 ·rename_i u0 Ni
  obtain⟨⟨kd,S2⟩,h2,hg⟩:=ak hg
  obtain⟨⟨nd,S3⟩,h3,hg⟩:=aB hg
  subst hg
  obtain⟨u,u',mo,mo',hS,IM,hio,hf,Ko,rfl⟩:=qU h3
  obtain⟨mo2,hw,hf2⟩:=aB hf
  cases hf2
  have hv0:∀F1 H1,Rel X.K B S1 σ F1 H1→∃v,σ[i]? =some (some v):=fun F1 H1 R1=>let⟨v,k1,_⟩:=R1.rep i u0 Ni;⟨v,k1⟩
  cases mo with
  | dct kvs=>
   obtain⟨kk,e1,hw⟩:=ak hw
   obtain⟨hl,rfl⟩:=bX hw
   refine⟨_,Ce hu (iF hN hv hd hcd) (hk.h B) (hval.h B) hs,S,F,d,S1,R,h1,fun v F1 H1 R1 st1 r1=>?_⟩
   obtain⟨v0,hv0⟩:=hv0 F1 H1 R1
   refine⟨v0,hv0,S1,F1,kd,S2,R1,h2,fun y F2 H2 R2 st2 r2=>?_⟩
   obtain⟨v',k1,k2⟩:=R2.rep i u hS
   rw[hv0] at k1
   cases k1
   obtain⟨a,o2,rfl,fa,eo,k3⟩:=k2.dc IM
   rw[hio] at eo
   cases eo
   obtain⟨ws,ha,pr⟩:=k3
   rw[lE r2 e1]
   refine⟨a,_,rfl,zw.k ha (by rw[dg pr];exact Nat.lt_of_lt_of_le hl (by decide)),?_⟩
   obtain⟨R3,st3⟩:=R2.write (ho:=.dK (putK ws kk v)) hS Ko hv0 ⟨_,aW,uR pr (r1.le st2.ext.le)⟩
   exact q σ F2 _ R3 fun b o z=>st2.ext.le b o (st1.ext.le b o z)
  | yf kvs=>
   obtain⟨kk,e1,hw⟩:=ak hw
   obtain⟨hl,rfl⟩:=bX hw
   refine⟨_,Ce hu (iF hN hv hd hcd) (hk.h B) (hval.h B) hs,S,F,d,S1,R,h1,fun v F1 H1 R1 st1 r1=>?_⟩
   obtain⟨v0,hv0⟩:=hv0 F1 H1 R1
   refine⟨v0,hv0,S1,F1,kd,S2,R1,h2,fun y F2 H2 R2 st2 r2=>?_⟩
   obtain⟨v',k1,k2⟩:=R2.rep i u hS
   rw[hv0] at k1
   cases k1
   obtain⟨a,o2,rfl,fa,eo,k3⟩:=k2.dc IM
   rw[hio] at eo
   cases eo
   obtain⟨ws,ha,pr⟩:=k3
   obtain⟨b',rfl,hb'⟩:=qg R2.sub r2 e1
   refine⟨a,_,rfl,zw.t ha hb' (by rw[dg pr];exact Nat.lt_of_lt_of_le hl (by decide)),?_⟩
   obtain⟨R3,st3⟩:=R2.write (ho:=.dT (putK ws kk v)) hS Ko hv0 ⟨_,aW,uR pr (r1.le st2.ext.le)⟩
   exact q σ F2 _ R3 fun b o z=>st2.ext.le b o (st1.ext.le b o z)
  | lst ds=>
   unfold uS at hw
   dsimp only at hw
   split at hw
   ·rename_i ii
    obtain⟨j,e1,rfl⟩:=aB hw
    refine⟨_,JC (hval.h B) (Jy (iF hN hv hd hcd) (hk.h B) set_list Zg) hs1 hs2 Zf,S,F,d,S1,R,h1,fun v F1 H1 R1 st1 r1=>?_⟩
    obtain⟨v0,hv0⟩:=hv0 F1 H1 R1
    refine⟨v0,hv0,S1,F1,_,S2,R1,h2,fun y F2 H2 R2 st2 r2=>?_⟩
    obtain⟨v',k1,k2⟩:=R2.rep i u hS
    rw[hv0] at k1
    cases k1
    obtain⟨a,o2,rfl,fa,eo,k3⟩:=k2.dc IM
    rw[hio] at eo
    cases eo
    obtain⟨vs,ha,rs⟩:=k3
    rw[ki r2]
    refine⟨a,vs,_,j,rfl,rfl,ha,by rw[rs.length];exact e1,?_⟩
    obtain⟨R3,st3⟩:=R2.write (ho:=.lst (vs.set j v)) hS Ko hv0 ⟨_,aW,rs.set (r1.le st2.ext.le) j⟩
    exact q σ F2 _ R3 fun b o z=>st2.ext.le b o (st1.ext.le b o z)
   ·cases hw
 ·cases hg⟩
theorem Rel.RZ {K:PySem.W.Frag}{B:Base}{S:SS}{σ:St}{F H:Hp}{a:Addr}{o o':HO}(R:Rel K B S σ F H) (hn:¬dc S σ a) (hf:F a=none) (hB:B.H a=none) (hh:H a=some o) (hz:∀ob u,o≠.jE ob u):Rel K B S σ F (upd H a o'):=by
 have LK:∀b ob w,H b=some (.jE ob w)→upd H a o' b=some (.jE ob w):=fun b ob w z=>by
  rw[aT (fun e=>by rw[e,hh] at z;cases z;exact hz _ _ rfl)];exact z
 refine⟨fun b u z=>?_,R.len,fun j w z=>?_,R.Cn,R.own,R.bor,R.par,⟨R.ext.le,fun b u z n=>?_,R.ext.jy,fun b u z=>?_,fun b ob w z=>LK b ob w (R.ext.jE b ob w z)⟩⟩
 ·have hb:b≠a:=fun e=>by rw[e,hf] at z;cases z
  rw[aT hb];exact R.sub b u z
 ·obtain⟨v,h1,h2⟩:=R.rep j w z
  refine⟨v,h1,h2.le (fun _ _ z=>z) LK fun c hm hc=>?_⟩
  have hca:c≠a:=fun e=>hn ⟨j,w,z,hm,by rw[h1,hc,e]⟩
  obtain⟨c',_,e,f,_⟩:=h2.dc hm
  rw[hc] at e
  cases e
  exact⟨fun o z=>by rw[aT hca];exact z,f⟩
 ·rw[aT (fun e=>by rw[e,hB] at z;cases z)];exact R.ext.keep b u z n
 ·by_cases hb:b=a
  ·exact⟨o',by rw[hb,aW]⟩
  ·rw[aT hb];exact R.ext.there b u z
noncomputable def mD:List (Str×GD)→SS→Option (List (Key×D)×SS)
 | [],S=>some ([],S)
 | (z,g) :: r,S=>(g S).bind fun p=>(mD r p.2).map fun q=>((.inr z,p.1) :: q.1,q.2)
noncomputable def cM (kvs more:List (Key×D)):List (Key×D):=more.foldl (fun acc kv=>putD acc kv.1 kv.2) kvs
theorem pF {F:Hp}:∀{more:List (Key×V)}{IS:List (Key×D)}{ws:List (Key×V)}{kvs:List (Key×D)},Paired (gK F) more IS→Paired (gK F) ws kvs→Paired (gK F) (jP ws more) (cM kvs IS)
 | _,_,_,_,.nil,h=>h
 | _,_,ws,kvs,@Paired.cons _ _ _ p q _ _ r rs,h=>by
  have e:=uR (k:=q.1) h r.2
  show Paired (gK F) (jP (putK ws p.1 p.2) _) (cM (putD kvs q.1 q.2) _)
  rw[r.1]
  exact pF rs e
noncomputable def oW (wu:List (Str×GD)):GE:=fun S=>(mD wu S).map fun p=>(.m (.dct (cM [] p.1)),p.2)
structure Po (X:Cx) (pos:Pos) (keys:List (Option Expr)) (values:List Expr) (wu:List (Str×GD)):Prop where
 h:∀B,MK X pos keys values (wu.map fun p=>(tC (.str p.1),tD X.K B p.2))
theorem qi:Po X pos [] [] []:=⟨fun B=>GV⟩
theorem cK {z:Str}{j:Nat}{pk:Pos}{v:Expr}{ks:List (Option Expr)}{vs:List Expr}{wu:List (Str×GD)}(hv:JD X v g) (hr:Po X pos ks vs wu):Po X pos (some (.Constant (.str z) j pk) :: ks) (v :: vs) ((z,g) :: wu):=⟨fun B=>Eu Eg (hv.h B) (hr.h B)⟩
theorem zL {B:Base}{σ:St}:∀{wu:List (Str×GD)}{S0 S:SS}{F0 H0 F H:Hp}{kvs:List (Key×D)}{S':SS}{Q:List (V×V)→Hp→Prop},Rel X.K B S σ F H→Step S0 S σ F0 H0 F H→mD wu S=some (kvs,S')→
  (∀(ws:List (Key×V)) (F' H':Hp),Rel X.K B S' σ F' H'→Step S0 S' σ F0 H0 F' H'→Paired (gK F') ws kvs→Q (ws.map fun kv=>(kV kv.1,kv.2)) H')→uC (wu.map fun p=>(tC (.str p.1),tD X.K B p.2)) σ H Q
 | [],S0,S,F0,H0,F,H,kvs,S',Q,R,st,h,q=>by cases h;exact q [] F H R st .nil
 | (z,g) :: r,S0,S,F0,H0,F,H,kvs,S',Q,R,st,h,q=>by
  obtain⟨⟨d,S1⟩,h1,h⟩:=ak h
  obtain⟨⟨Zh,S2⟩,h2,h⟩:=aB h
  cases h
  show tC (.str z) σ H fun x H1=>tD X.K B g σ H1 fun y H2=>uC _ σ H2 fun ps H3=>Q ((x,y) :: ps) H3
  refine⟨S,F,d,S1,R,h1,fun v F1 H1 R1 st1 r1=>?_⟩
  refine zL (S0:=S1) (F0:=F1) (H0:=H1) R1 (Step.refl ..) h2 fun ws F2 H2 R2 st2 pr=>?_
  exact q ((.inr z,v) :: ws) F2 H2 R2 ((st.trans st1).trans st2) (.cons ⟨rfl,r1.le st2.ext.le⟩ pr)
theorem qj {keys : List (Option Expr)} {values : List Expr} {wu : List (Str × GD)} (h : Po X pos keys values wu) (hall : keys.all (·.isSome) = true := by rfl) (hl : keys.length = values.length := by rfl) (h0 : keys ≠ [] := by decide) (Ri : keys.length ≤ 15 := by decide) (hk : wu.length ≤ 15 := by decide) :
    JE X (.Dict keys values pos) (oW wu):=⟨fun B=>(GW (h.h B) hall hl h0 Ri).imp fun σ H Q ⟨S,F,u,S',R,hg,q⟩=>by
  obtain⟨⟨kvs,S1⟩,h1,hg⟩:=aB hg
  cases hg
  intro p hp
  have n:=gD.obj (F:=F) hp (.dK [])
  have hn:¬dc S σ p:=fun m=>by obtain⟨o,ho⟩:=R.has m;rw[hp] at ho;cases ho
  refine zL (S0:=S) (F0:=F) (H0:=upd H p (.dK [])) (R.new n (R.sub.same n.same)) (Step.refl ..) h1 fun ws F1 H1 R1 st1 pr=>?_
  have hp1:H1 p=some (.dK []):=st1.ext.keep p _ aW hn
  have hf1:F1 p=none:=st1.ext.jy p _ aW hn (R.sub.fresh hp)
  have hn1:¬dc S1 σ p:=fun m=>hn (st1.mu p m)
  have hB:B.H p=none:=none_of R.ext.there hp
  have len:ws.length≤15:=by
    rw[dg pr]
    have:∀{wu:List (Str×GD)}{S:SS}{kvs:List (Key×D)}{S':SS},mD wu S=some (kvs,S')→kvs.length=wu.length:=fun {wu}=>by
      induction wu with
      | nil=>intro S kvs S' h;cases h;rfl
      | cons p r ih=>
        intro S kvs S' h
        obtain⟨⟨d,T1⟩,k1,h⟩:=ak (show(p.2 S).bind _=_ from h)
        obtain⟨⟨Zi,T2⟩,k2,h⟩:=aB h
        cases h
        show Zi.length+1=r.length+1
        rw[ih k2]
    rw[this h1]
    exact hk
  refine⟨hp1,ws,rfl,len,?_⟩
  have R2:=R1.RZ (o':=.dK (jP [] ws)) hn1 hf1 hB hp1 (fun _ _ z=>by cases z)
  refine q (.ref p) F1 _ R2 ⟨⟨st1.ext.le,fun b o z m=>?_,fun b o z m f=>?_,fun b o z=>?_,fun b ob w z=>?_⟩,st1.mu,st1.slots⟩ ⟨p,rfl,hp,hf1,⟨_,aW,pF pr .nil⟩,hn1,hB⟩
  · have hb:b≠p:=bF z hp
    rw[aT hb]
    exact st1.ext.keep b o (by rw[aT hb];exact z) m
  · have hb:b≠p:=bF z hp
    exact st1.ext.jy b o (by rw[aT hb];exact z) m f
  · have hb:b≠p:=bF z hp
    rw[aT hb]
    exact st1.ext.there b o (by rw[aT hb];exact z)
  · have hb:b≠p:=bF z hp
    rw[aT hb]
    exact st1.ext.jE b ob w (by rw[aT hb];exact z)⟩
end
end L2
end
section
set_option Elab.async false
set_option linter.all false
set_option maxRecDepth 100000
namespace L2
open PySem PySem.Spec PyProof.Rows
noncomputable def lF (g:Option GD) (S:SS):Option (Option Int×SS):=match g with
 | none=>some (none,S)
 | some g=>(g S).bind fun p=>match p.1 with
  | .int i=>some (some i,p.2)
  | _=>none
noncomputable def Zj (K:PySem.W.Frag) (B:Base) (g:Option GD):TO:=fun σ H Q=>∃S F o S',Rel K B S σ F H∧lF g S=some (o,S')∧∀F' H',Rel K B S' σ F' H'→Step S S' σ F H F' H'→Q o H'
structure JO (X:Cx) (e:Option Expr) (g:Option GD):Prop where
 h:∀B,PO X e (Zj X.K B g)
theorem PO.imp {X:Cx}{e:Option Expr}{t t':TO}(h:PO X e t) (k:∀σ H Q,t' σ H Q→t σ H Q):PO X e t':=fun pins s σ H Q I q=>h pins s σ H Q I (k σ H Q q)
theorem yu {X:Cx}:JO X none none:=⟨fun B=>GZ.imp fun σ H Q ⟨S,F,o,S',R,h,q⟩=>by cases h;exact q F H R (Step.refl ..)⟩
theorem yw {X:Cx}{e:Expr}{g:GD}(h:JD X e g):JO X (some e) (some g):=⟨fun B=>(Cg (h.h B)).imp fun σ H Q ⟨S,F,o,S',R,h,q⟩=>by
 obtain⟨⟨d,S1⟩,h1,h⟩:=ak (show(g S).bind _=_ from h)
 cases d <;> try (cases h)
 exact⟨S,F,_,_,R,h1,fun v F1 H1 R1 st1 r1=>⟨_,ki r1,q F1 H1 R1 st1⟩⟩⟩
noncomputable def Hw (d:D) (lo hi:Option Int):Option U:=match d with
 | .tup ds=>some (.t (.tup (cutD ds lo hi)))
 | .lst ds=>some (.m (.lst (cutD ds lo hi)))
 | .str z=>if z.length≤100000 then some (.t (.str (Txt.slice z lo hi))) else none
 | _=>none
theorem bw.cut {F:Hp}{vs:List V}{ds:List D}(rs:bw F vs ds) (lo hi:Option Int):bw F (v8 vs lo hi) (cutD ds lo hi):=by
 unfold v8 cutD
 rw[rs.length]
 exact(rs.drop _).take _
noncomputable def R5:V→Option Int→Option Int→Hp→VK→Prop:=fun x lo hi H Q=>∃F d u,Sub F H∧Rep F x d∧Hw d lo hi=some u∧∀v F' H',gD F H F' H'→Sub F' H'→zD H F' H' v u→Q v H'
theorem R6 {X : Cx} : G0 X R5 := by
  intro pins s σ H x v vl vu lo hi sl Q I rx hs pl pu ⟨F,d,u,sb,r,hf,q⟩
  cases d with
  | tup ds =>
    cases hf
    have r0:=r
    obtain⟨a,xs,rfl,fa,ha,rs⟩:=sb.kh r
    have hl:=rs.length
    by_cases hw:HT.fP xs.length 0 lo=0∧HT.fP xs.length xs.length hi=xs.length
    · cases rx
      obtain⟨its,rv,ht,hz⟩:=I.tuple (.inl ha)
      have hlen:its.toArray.size=xs.length:=by rw[List.size_toArray];exact rv.length.symm
      refine⟨"tuple",_,PyProof.Rows.slot_tuple_getitem.lookup,ht.typeIs,?_⟩
      refine HT.C9 ht hs pl pu (by rw[hlen];exact hw) ⟨.ref a,H,I,rfl,q _ F H (gD.refl ..) sb ?_⟩
      have e:cutD ds lo hi=ds:=by
        unfold cutD
        rw[←hl,hw.1,hw.2,List.drop_zero,Nat.sub_zero,List.take_of_length_le (by rw[hl];exact Nat.le_refl _)]
      show Rep F _ (.tup (cutD ds lo hi))
      rw[e]
      exact r0
    · exact J7 pins s σ H (.ref a) v vl vu lo hi sl Q I rx hs pl pu ⟨a,xs,rfl,.inl ha,hw,fun p hp=>q _ _ _ (gD.root sb hp _) (sb.uG hp) (.tup aW ((rs.cut lo hi).le (ni (sb.fresh hp))))⟩
  | lst ds=>
    cases hf
    obtain⟨a,xs,rfl,fa,ha,rs⟩:=sb.jl r
    exact Ck pins s σ H (.ref a) v vl vu lo hi sl Q I rx hs pl pu ⟨a,xs,rfl,.inl ha,fun p hp=>q _ F _ (gD.obj hp _) (sb.same (gD.obj (F:=F) hp _).same) ⟨p,rfl,hp,sb.fresh hp,_,aW,rs.cut lo hi⟩⟩
  | str z=>
    obtain⟨hl,rfl⟩:=bX hf
    cases r
    exact Kf pins s σ H _ v vl vu lo hi sl Q I rx hs pl pu ⟨z,rfl,jF hl,fun _=>q _ F H (gD.refl ..) sb (.str _)⟩
  | cI=>cases hf
  | bl b=>cases hf
  | int b=>cases hf
noncomputable def Nj (g:GD) (lo hi:Option GD):GE:=fun S=>(g S).bind fun p=>(lF lo p.2).bind fun l=>(lF hi l.2).bind fun h=>(Hw p.1 l.1 h.1).map fun u=>(u,h.2)
section
variable {X:Cx}{a b c e:Expr}{lo hi:Option Expr}{pos p p2 px:Pos}{x y:Str}{g ga:GD}{gA:GA}{gl gh:Option GD}
theorem zM (he:JD X e g) (hl:JO X lo gl) (hh:JO X hi gh):JE X (.Subscript e (.Slice lo hi none p2) pos) (Nj g gl gh):=⟨fun B=>(zz R6 (he.h B) (hl.h B) (hh.h B)).imp fun σ H Q ⟨S,F,u,S',R,hg,q⟩=>by
 obtain⟨⟨d,S1⟩,h1,hg⟩:=ak hg
 obtain⟨⟨l,S2⟩,h2,hg⟩:=ak hg
 obtain⟨⟨h,S3⟩,h3,hg⟩:=ak hg
 obtain⟨u',h4,hg⟩:=aB hg
 cases hg
 exact⟨S,F,d,S1,R,h1,fun v F1 H1 R1 st1 r1=>⟨S1,F1,l,S2,R1,h2,fun F2 H2 R2 st2=>⟨S2,F2,h,_,R2,h3,fun F3 H3 R3 st3=>⟨F3,d,_,R3.sub,r1.le (fun b o z=>st3.ext.le b o (st2.ext.le b o z)),h4,fun v F4 H4 n s4 r4=>q v F4 H4 (R3.new n s4) (((st1.trans st2).trans st3).trans n.step) (r4.Bc R3 ((st1.trans st2).trans st3))⟩⟩⟩⟩⟩
noncomputable def uT (ns:List Int) (lo hi:Option Int):List Int:=(ns.drop (HT.fP ns.length 0 lo)).take (HT.fP ns.length ns.length hi - HT.fP ns.length 0 lo)
noncomputable def Dk (i:Nat) (lo hi:Option GD):GE:=fun S=>match S[i]? with
 | some (some (.s ns))=>(lF lo S).bind fun l=>(lF hi l.2).map fun h=>(.m (.lst ((uT ns l.1 h.1).map D.int)),h.2)
 | _=>none
theorem xj {F:Hp}:∀ns:List Int,bw F (ns.map V.int) (ns.map D.int)
 | []=>.nil
 | n :: ns=>.cons (.int n) (xj ns)
theorem Dl (ns:List Int) (lo hi:Option Int):v8 (ns.map V.int) lo hi=(uT ns lo hi).map V.int:=by
 unfold v8 uT
 rw[List.length_map,List.map_take,List.map_drop]
theorem Dm {i:Nat}(hl:JO X lo gl) (hh:JO X hi gh) (hN:X.N[i]? =some x:=by rfl) (hv:Ec X.env.scope x:=by first | exact Or.inl rfl | exact Or.inr (Or.inl rfl) | exact Or.inr (Or.inr rfl))
  (hd:(x == ("__debug__":Str))=false:=by decide) (hcd:(x == ("__classdict__":Str))=false:=by decide):JE X (.Subscript (.Name x px) (.Slice lo hi none p2) pos) (Dk i gl gh):=⟨fun B=>(zz Ck (iF hN hv hd hcd) (hl.h B) (hh.h B)).imp fun σ H Q ⟨S,F,u,S',R,hg,q⟩=>by
 unfold Dk at hg
 split at hg
 ·rename_i ns hS
  obtain⟨⟨l,S1⟩,h1,hg⟩:=ak hg
  obtain⟨⟨h,S2⟩,h2,hg⟩:=aB hg
  cases hg
  obtain⟨v0,hv0,a,rfl,sc⟩:=R.rep i _ hS
  refine⟨_,hv0,S,F,l,S1,R,h1,fun F1 H1 R1 st1=>⟨S1,F1,h,_,R1,h2,fun F2 H2 R2 st2=>?_⟩⟩
  have Zk:=(sc.le st1.ext.jE).le st2.ext.jE
  refine⟨a,_,rfl,Zk.sq,fun p hp=>?_⟩
  rw[Dl]
  have n:=gD.obj (F:=F2) hp (.lst ((uT ns l h).map V.int))
  have st:=st1.trans st2
  exact q _ F2 _ (R2.new n (R2.sub.same n.same)) (st.trans n.step) (zD.Bc (u:=.m (.lst ((uT ns l h).map D.int))) R2 st ⟨p,rfl,hp,R2.sub.fresh hp,_,aW,xj _⟩)
 ·cases hg⟩
noncomputable def AV (d:D):Prop:=(toPy d).showable=true∧(toPy d).depth≤20∧(toPy d).shown.length≤sizeLine
noncomputable instance (d:D):Decidable (AV d):=by unfold AV;infer_instance
noncomputable def mX:List D→Option U
 | [d]=>if AV d then some (.t (.str (toPy d).shown)) else none
 | _=>none
mutual
theorem Rep.qW {pins:List (Addr×Obj)}{σ:St}{F H:Hp}{s:Shared}(I:Inv X pins σ H s) (sb:Sub F H):∀{v:V}{d:D}{u:Value},Rep F v d→RelV v u→∃as,Reads s.heap u (toPy d) as
 | _,_,_,.cI,r=>by cases r;exact⟨[],.none⟩
 | _,_,_,.bl b,r=>by cases r;exact⟨[],.bool b⟩
 | _,_,_,.int i,r=>by obtain⟨t,rfl⟩:=r;exact⟨[],.int i t⟩
 | _,_,_,.str z,r=>by obtain⟨t,rfl⟩:=r;exact⟨[],.str z t⟩
 | _,_,_,.tup e rs,r=>by
  cases r
  obtain⟨its,rv,p⟩:=sb.isTup I e
  obtain⟨as,h⟩:=bw.qW I sb rs rv
  obtain⟨o,ho,hc,n,hd⟩:=p
  exact⟨as,.tuple ho hc hd (by simpa using h)⟩
 | _,_,_,.lst e rs,r=>by
  cases r
  obtain⟨its,rv,p⟩:=sb.dX I e
  obtain⟨as,h⟩:=bw.qW I sb rs rv
  obtain⟨o,ho,hc,n,hd⟩:=p
  exact⟨_ :: as,.list ho hc hd (by simpa using h)⟩
theorem bw.qW {pins:List (Addr×Obj)}{σ:St}{F H:Hp}{s:Shared}(I:Inv X pins σ H s) (sb:Sub F H):∀{vs:List V}{ds:List D}{us:List Value},bw F vs ds→Vals vs us→∃as,ReadsAll s.heap us (gr ds) as
 | _,_,_,.nil,r=>by cases r;exact⟨[],.nil⟩
 | _,_,_,.cons q qs,r=>by
  cases r with
  | cons r rs=>
   obtain⟨as,h⟩:=Rep.qW I sb q r
   obtain⟨bs,k⟩:=bw.qW I sb qs rs
   exact⟨as++bs,.cons h k⟩
end
theorem iL (hg:X.A.guards=some []) (hu:X.A.units+64 < cLine):gq X (.builtin "repr") (rP mX):=by
 intro pins s σ H xs us Q I r ⟨F,ds,w,sb,rs,hw,q⟩
 obtain⟨x,d,rfl,rfl,r1⟩:=uq (P:=fun _=>True) rs hw rfl (fun d _ _=>rfl)
 obtain⟨hok,rfl⟩:=bX (show(if AV d then some (U.t (.str (toPy d).shown)) else none)=some w from hw)
 have fin:=q (.str (toPy d).shown) F H (gD.refl ..) sb (.str _)
 obtain⟨u,rfl,ru⟩:=vals1 r
 obtain⟨h1,h2,h3⟩:=hok
 have seq:∀a,x= .ref a→wpAny (model X.prog X.w) X.A (call (.builtin "repr") [u]) (EP X pins σ Q) X.xe s:=fun a e1=>by
  subst e1
  cases ru
  obtain⟨as,hr⟩:=Rep.qW I sb r1 (u:=.ref a) rfl
  exact repr_of_reads' hr h1 (fun z=>by rw[sH] at z;cases z) hg (by omega) (fun _ _ e=>e) (fun h' u tk hk=>⟨.str _,H,I.kept (t':=tk) hk,⟨u,rfl⟩,fin⟩) h3
 cases r1 with
 | cI=>cases ru;exact PySem.P.repr_of_none ⟨.str _,H,I.tok _,⟨_,rfl⟩,fin⟩
 | bl b=>cases ru;exact PySem.P.repr_of_bool ⟨.str _,H,I.tok _,⟨_,rfl⟩,fin⟩
 | int i=>obtain⟨t,rfl⟩:=ru;exact PySem.P.repr_of_int (by simpa[toPy,PyData.showable] using h1) ⟨.str _,H,I.tok _,⟨_,rfl⟩,fin⟩
 | str z=>obtain⟨t,rfl⟩:=ru;exact PySem.P.repr_of_str ⟨.str _,H,I.tok _,⟨_,rfl⟩,fin⟩ h3
 | tup e rs=>exact seq _ rfl
 | lst e rs=>exact seq _ rfl
theorem Hx {z:Str}{t:Tok}(hg:Gl X x) (hm:X.mg x=some (.str z t)) (hd:(x == ("__debug__":Str))=false:=by decide):JD X (.Name x pos) (eC (.str z)):=ET rfl (pT (v:=.str z) hg hm ⟨t,rfl⟩ hd)
theorem oA {i:Int}{t:Tok}(hg:Gl X x) (hm:X.mg x=some (.int i t)) (hd:(x == ("__debug__":Str))=false:=by decide):JD X (.Name x pos) (eC (.int i)):=ET rfl (pT (v:=.int i) hg hm ⟨t,rfl⟩ hd)
end
end L2
end
section
set_option Elab.async false
set_option linter.all false
set_option maxRecDepth 100000
namespace L2
open PySem PySem.Spec PyProof.Rows
end L2
end
section
set_option Elab.async false
set_option linter.all false
set_option maxRecDepth 100000
namespace L2
open PySem PySem.Spec PyProof.Rows
section
variable {X:Cx}{a b c e:Expr}{es:List Expr}{pos p p2 px:Pos}{x y:Str}{f:FM}{fa:Addr}{fd:FuncData}{ps:List Str}{k n:Nat}
theorem Fb (F:br X.prog X.w X.K X.mg X.base dW k fa fd ps (spT X.K 0 f)) (hr:jz k X.A) (hg:Gl X x) (hm:X.mg x=some (.ref fa)) (hk:PySem.W.keepIn X.K (.ref fa)=true) (hb:Binds X.K fd ps [])
  (hdb:(x == ("__debug__":Str))=false:=by decide):JE X (.Call (.Name x p) [] [] pos) (aU f bM):=⟨fun B=>(Es F hr hg hm hk hb .nil IF hdb).imp fun σ H Q ⟨S,F0,u,S',R,hg,q⟩=>by
 obtain⟨⟨us,S1⟩,h1,hg⟩:=ak hg
 cases h1
 have hg:=(qN hg).2
 obtain⟨ws,h2,hg⟩:=ak hg
 cases h2
 obtain⟨⟨r,outs⟩,h3,hg⟩:=ak hg
 obtain⟨S2,h4,hg⟩:=aB hg
 cases hg
 have Zl:Step S S σ F0 H F0 H:=Step.refl ..
 refine⟨rfl,F0,[],r,outs,R.sub,.nil,List.nodup_nil,h3,fun v F2 H2 po rn=>?_⟩
 obtain⟨R2,st2,mu⟩:=pB (vs:=[]) (us:=[]) (ws:=[]) R Zl .nil rfl h4 List.nodup_nil po
 refine q v F2 H2 R2 st2 ?_
 cases r with
 | t d=>exact rn
 | b o=>cases rn
 | v i=>cases rn
 | s i=>cases rn
 | m o=>
  obtain⟨a,e,h0,f,h⟩:=rn
  refine⟨a,e,h0,f,h,fun m=>?_,none_of R.ext.there h0⟩
  obtain⟨o',ho⟩:=R.has (mu a m)
  rw[h0] at ho
  cases ho⟩
noncomputable def Zm:List D→Option U
 | [.bl a,.bl b]=>some (.t (.bl (a == b)))
 | _=>none
noncomputable def qk:List D→Option U
 | [.bl a,.bl b]=>some (.t (.bl (a != b)))
 | _=>none
theorem Dn:zf X (compareOp .IsNot) qk:=by
 intro pins s σ H x y v u Q I rx ry ⟨F,ds,w,sb,rs,hw,q⟩
 obtain⟨d,e,rfl,r1,r2⟩:=sJ rs
 cases d <;> cases e <;> try (simp[qk] at hw;done)
 cases hw
 rw[mq r1] at rx
 rw[mq r2] at ry
 cases rx
 cases ry
 exact isnot_bool ⟨.bl _,H,I,rfl,q _ F H (gD.refl ..) sb (.bl _)⟩
end
end L2
end
section
set_option Elab.async false
set_option linter.all false
set_option maxRecDepth 100000
namespace L2
open PySem PySem.Spec PyProof.Rows
noncomputable def zN:List D→Option (List Int)
 | []=>some []
 | .int b :: ds=>(zN ds).map fun bs=>b :: bs
 | _=>none
section
variable {X:Cx}
end
end L2
end
section
set_option Elab.async false
set_option linter.all false
set_option maxRecDepth 100000
namespace L2
open PySem PySem.Spec PyProof.Rows
noncomputable def lG (val:Nat→Str) (i:Nat):List Str:=((List.range i).map val).foldl step_dedup []
theorem xm (val:Nat→Str) (i:Nat):lG val (i+1)=step_dedup (lG val i) (val i):=by
 unfold lG;rw[List.range_succ,List.map_append,List.foldl_append];rfl
theorem Hy (val:Nat→Str) (i:Nat):(lG val i).length≤i:=by
 have:=foldl_step_dedup_nil_length_le ((List.range i).map val)
 simpa[lG] using this
theorem Kq (l:List Str) (v k:Str):(step_dedup l v).any (· == k)=(l.any (· == k) || decide (k=v)):=by
 unfold step_dedup
 split
 ·rename_i h
  by_cases e:k=v
  ·subst e;simp[h]
  ·simp[e]
 ·rw[List.any_append]
  have:(List.any [v] fun x=>x == k)=decide (k=v):=by
   by_cases e:k=v
   ·subst e;simp
   ·simp[e];exact fun z=>e z.symm
  rw[this]
theorem Kr (l:List Str) (v:Str):(step_dedup l v).length=if l.any (· == v) then l.length else l.length+1:=by
 unfold step_dedup;split <;> simp
section
variable {prog:Program}{w:World}{A:Around}{R:Result→Shared→Prop}{I:Addr}{fp wr:List Addr}{G:Array GenState→Array GenState→Prop}{n:Nat}{P:Nat→Value→Prop}{St:Nat→Shared→Prop}
theorem Dp (W:WalksS prog w A.in1 I fp wr G n P St) (S:Addr) (hSf:S∉fp) (val:Nat→Str) (hval:∀i v,P i v→∃t,v= .str (val i) t) (hb:n+1 < scanBound):
  ∀(k i:Nat) (s:Shared),n - i=k→i≤n→St i s→s.heap.SetOf (strKind prog w) S (fun z=>(lG val i).any (· == z)) (lG val i).length→
   (∀s',Moved (S :: wr) G s s'→s'.heap.SetOf (strKind prog w) S (fun z=>(lG val n).any (· == z)) (lG val n).length→R (.ok (.ret .none)) s')→
   codeAny (model prog w) A (.builtin "set.update.loop" ⟨[.ref S,.ref I],[]⟩) R s:=by
 have Zn:S∉wr:=fun h=>hSf (W.sub _ h)
 have hsub:∀b∈wr,b∈S :: wr:=fun b hb=>List.mem_cons_of_mem _ hb
 have keep:∀{i:Nat}{s s':Shared},Moved wr G s s'→s.heap.SetOf (strKind prog w) S (fun z=>(lG val i).any (· == z)) (lG val i).length→s'.heap.SetOf (strKind prog w) S (fun z=>(lG val i).any (· == z)) (lG val i).length:=
  fun hm ⟨o,es,ep,t,ho,rest⟩=>⟨o,es,ep,t,hm.heap S _ Zn ho,rest⟩
 intro k
 induction k with
 | zero=>
  intro i s hk hi hst hS hR
  obtain rfl:i=n:=by omega
  refine codeAny_builtin F.entry_set_update_loop ?_
  rw[Around.under_plainId F.plain_set_update_loop _]
  show wpAny _ A.in1 (pyNext (.ref I) >>= _) _ _ s
  refine wpAny_bind (W.done s _ _ hst fun s' hm=>?_)
  show wpAny _ A.in1 (ret Value.none) _ _ s'
  exact wpAny_pure (hR s' (hm.mono hsub) (keep hm hS))
 | succ k ih=>
  intro i s hk hi hst hS hR
  have hlt:i < n:=by omega
  refine codeAny_builtin F.entry_set_update_loop ?_
  rw[Around.under_plainId F.plain_set_update_loop _]
  show wpAny _ A.in1 (pyNext (.ref I) >>= _) _ _ s
  refine wpAny_bind (W.item i s _ _ hlt hst fun v s' hP R7 hm=>?_)
  obtain⟨t,rfl⟩:=hval i v hP
  have hS':=keep hm hS
  show wpAny _ A.in1 (holding [Value.str (val i) t] (setAdd S (.str (val i) t)) >>= _) _ _ s'
  refine wpAny_bind (wpAny_holding ?_)
  unfold setAdd
  refine wpAny_holding ?_
  have his:(strKind prog w).is (val i) (.str (val i) t)=true:=by show Value.isStrOf (val i) (.str (val i) t)=true;simp[Value.isStrOf]
  refine wpAny_bind ((strKind prog w).pyHash (k:=val i) his ?_)
  have hroom:(lG val i).length+1 < scanBound:=by have:=Hy val i;omega
  refine wpAny_setAddHashed_of (knd:=strKind prog w) his rfl hS' hroom fun h' hsb Ks=>?_
  have Zo:h'.SetOf (strKind prog w) S (fun z=>(lG val (i+1)).any (· == z)) (lG val (i+1)).length:=
   SetOf_congr Ks (fun z=>by rw[xm,Kq]) (by rw[xm,Kr])
  refine wpAny_pure ⟨plainId_quiet F.plain_set_update_loop _,ih (i+1) _ (by omega) hlt (W.frame _ s' _ _ R7 (Nat.le_succ _) fun b hb o e=>?_) Zo fun s'' R8 R9=>?_⟩
  ·rw[hsb.2 b (fun h:b=S=>hSf (by rw[←h];exact hb))];exact e
  ·refine hR s'' (Moved.trans W.gtrans ((hm.mono hsub).then_heap (Nat.le_succ _) fun b o hb e=>?_) R8) R9
   rw[hsb.2 b (fun h:b=S=>hb (by rw[h];exact List.mem_cons_self))];exact e
end
section
variable {prog:Program}{w:World}{A:Around}{E:Value→Shared→Prop}{s:Shared}
noncomputable def fC (led:Bool):Obj:={cls:=.type "set",dict:=none,data:=.set #[] 0 (.fresh 0 0 led)}
theorem wz (a:Value){Q₁:Value→Shared→Prop}(h:∀led:Bool,Q₁ (.ref s.heap.objs.size) {s with heap:=s.heap.push (fC led)}):
  codeAny (model prog w) A (.call (.builtin "set.__new__") ⟨[.type "set",a],[]⟩) (wants Q₁ E) s:=code_set_new_1 a h
set_option maxHeartbeats 3200000 in
theorem uU {l : Addr} {its : List Value} {zs : List Str} {Q : Value → Shared → Prop} (hh : A.handled = none) (hl : s.heap.IsList l its.toArray) (hi : ∀ (i : Nat) (v : Value), its[i]? = some v → ∃ t, v = Value.str (zs.getD i ⟨#[]⟩) t) (hb : its.length + 1 < scanBound)
    (h:∀(h':Heap) (tk:Nat),h'.SetOf (strKind prog w) s.heap.objs.size (fun z=>(lG (fun i=>zs.getD i ⟨#[]⟩) its.length).any (· == z)) (lG (fun i=>zs.getD i ⟨#[]⟩) its.length).length→
      (∀b o,b < s.heap.objs.size→s.heap.get? b=some o→h'.get? b=some o)→Q (.ref s.heap.objs.size) {s with heap:=h',toks:=tk}):
    wpAny (model prog w) A (call (.type "set") [.ref l]) Q E s:=by
  obtain⟨c,tl,Zp⟩:=F.called_set.mro
  have hmade:=F.called_set.made
  have hsub:=F.called_set.sub
  refine wpAny_call (codeAny_of_tree ?_)
  show wpAny _ _ (callAny (.type "set") _) _ _ _
  refine wpAny_pure ⟨Code.quiet_builtin _ (by decide +kernel),codeAny_builtin F.entry_type_call ?_⟩
  rw[Around.under_plain (weight_type_call_type "set" [.ref l] []) rfl]
  have h1:=F.called_set.notType
  have h2:=F.called_set.canCreate
  have hct:=F.typeCall_set_1 (.ref l)
  repeat (any_goals (first | assumption | wp_step))
  refine codeAny_mono (wz (.ref l) (E:=E) (Q₁:=fun obj s₁=>∃led:Bool,obj= .ref s.heap.objs.size∧s₁={s with heap:=s.heap.push (fC led)}) fun led=>⟨led,rfl,rfl⟩) fun r s₁ hr=>?_
  cases r with
  | error e=>exact hr
  | ok fl =>
    cases fl with
    | ret obj =>
      obtain⟨led,rfl,rfl⟩:=hr
      have hS:(s.heap.push (fC led)).get? s.heap.objs.size=some (fC led):=Heap.get?_push_size _ rfl
      have hT:Shared.TypeIs {s with heap:=s.heap.push (fC led)} (.ref s.heap.objs.size) "set":=⟨_,hS,rfl⟩
      have hli:=F.called_set.init.lookup
      have hbi:=F.called_set.init.bind (.ref s.heap.objs.size)
      repeat (any_goals (first | assumption | wp_step))
      refine codeAny_mono (codeAny_call_builtin (R:=wants (fun r s₂=>r= .none∧∃h' tk,s₂={s with heap:=h',toks:=tk}∧
          h'.SetOf (strKind prog w) s.heap.objs.size (fun z=>(lG (fun i=>zs.getD i ⟨#[]⟩) its.length).any (· == z)) (lG (fun i=>zs.getD i ⟨#[]⟩) its.length).length∧
          (∀b o,b < s.heap.objs.size→s.heap.get? b=some o→h'.get? b=some o)) E) F.called_set.init.plain F.entry_set_init (check_set_init_1 hT ?_)) fun r₂ s₂ Fc=>?_
      · obtain⟨ol,Xk,hcl,nl,hdl⟩:=hl
        obtain⟨Zq,Nk,Xl,Ku⟩:=ol
        simp only at hcl hdl
        subst hcl;subst hdl
        have Sa:(s.heap.push (fC led)).get? l=some {cls:=.type "list",dict:=Nk,data:=.seq its.toArray nl,slots:=Ku}:=Heap.get?_push_of_some _ Xk
        have Zr:=F.sub_list_set
        have Zs:=F.sub_list_frozenset
        have hne:(Value.type "list" == Value.type "dict")=false:=by decide
        have hl1:(s.heap.push (fC led)).IsList l its.toArray:=⟨_,Sa,rfl,nl,rfl⟩
        unfold Builtin.«set.__init__» noKeywords Builtin.Frozenset.updateFrom
        generalize Zt:pyIter=PI
        wp_walk
        subst Zt
        refine wpAny_pyIter_list hl1 ?_
        refine wpAny_bind (wpAny_runValue ?_)
        have hlS:l < s.heap.objs.size:=Heap.lt_size Xk
        have Zu:A.in1.in1.in1.handled=none:=by simp[hh]
        have Sd:l≠(s.heap.push (fC led)).objs.size:=by
          rw[Heap.size_push];exact Nat.ne_of_lt (Nat.lt_succ_of_lt hlS)
        have hSf:s.heap.objs.size∉[(s.heap.push (fC led)).objs.size,l]:=by
          rw[Heap.size_push];simp only[List.mem_cons,List.mem_singleton,List.not_mem_nil,or_false,not_or]
          exact⟨Nat.ne_of_lt (Nat.lt_succ_self _),Nat.ne_of_gt hlS⟩
        have hb':its.toArray.size+1 < scanBound:=by rw[List.size_toArray];exact hb
        have hval:∀(i:Nat) (v:Value),its.toArray[i]? =some v→∃t,v= .str ((fun i=>zs.getD i ⟨#[]⟩) i) t:=fun i v hv=>hi i v (by simpa using hv)
        refine Dp ((Walks.list Zu _ l Sd its.toArray).toS) s.heap.objs.size
          hSf (fun i=>zs.getD i ⟨#[]⟩) hval hb' (its.toArray.size - 0) 0 _ (by omega) (Nat.zero_le _)
          ⟨⟨_,Heap.get?_push_size _ rfl,rfl,rfl⟩,(hl1.push _)⟩ ?Ni ?hR
        case Ni=>
          have hget:((s.heap.push (fC led)).push {cls:=.type "list_iterator",data:=.fields #[.ref l,.int 0 0]}).get? s.heap.objs.size=some (fC led):=Heap.get?_push_of_some _ hS
          exact SetOf_congr ((setObjOf_fresh (knd:=strKind prog w) led).setOf hget (by unfold scanBound;omega)) (fun _=>rfl) rfl
        case hR=>
          intro s' hm hS'
          rw[List.size_toArray] at hS'
          obtain⟨h',g',d',tk',os'⟩:=s'
          have eg:g'=s.gens:=hm.gens
          have ed:d'=s.drawn:=hm.drawn
          have eo:os'=s.os:=hm.os
          subst eg;subst ed;subst eo
          show wpAny _ _ _ _ _ _
          refine wpAny_pure ?_
          show wpAny _ _ (ret Value.none) _ _ _
          refine wpAny_pure ⟨rfl,h',tk',rfl,hS',fun b o hb e=>?_⟩
          have hb1:b≠s.heap.objs.size:=Nat.ne_of_lt hb
          have hb2:b≠(s.heap.push (fC led)).objs.size:=by
            rw[Heap.size_push];exact Nat.ne_of_lt (Nat.lt_succ_of_lt hb)
          exact hm.heap b o (by simp only[List.mem_cons,List.mem_singleton,List.not_mem_nil,or_false,not_or];exact⟨hb1,hb2⟩) (Heap.get?_push_of_some _ (Heap.get?_push_of_some _ e))
      · cases r₂ with
        | error e=>exact Fc
        | ok Nl=>
          cases Nl with
          | ret r=>
            obtain⟨rfl,h',tk,rfl,hS',hk'⟩:=Fc
            repeat (any_goals (first | assumption | wp_step))
            exact h _ _ hS' hk'
          | _=>exact Fc.elim
    | _=>exact hr.elim
end
end L2
end
section
set_option Elab.async false
set_option linter.all false
set_option maxRecDepth 100000
namespace L2
open PySem PySem.Spec PyProof.Rows
section
variable {X:Cx}{a:Expr}{pos p p1 p2:Pos}{ga:GD}
end
end L2
end
section
set_option Elab.async false
set_option linter.all false
set_option maxRecDepth 100000
namespace L2
open PySem PySem.Spec PyProof.Rows
noncomputable def zO:U→Option (List D)
 | .t (.lst ds)=>some ds
 | .m (.lst ds)=>some ds
 | .b (.lst ds)=>some ds
 | _=>none
noncomputable def Se (n:Bool) (i:Nat) (g:GD):GD:=fun S=>(g S).bind fun p=>match p.2[i]? with
 | some (some u)=>(zO u).bind fun ds=>if bU ds≤40 then some (.bl (n != inD p.1 ds),p.2) else none
 | _=>none
section
variable {X:Cx}{a:Expr}{x:Str}{px pos:Pos}{ga:GD}
end
end L2
end
section
set_option Elab.async false
set_option linter.all false
set_option maxRecDepth 100000
namespace L2
open PySem PySem.Spec PyProof.Rows
noncomputable def look:U→Option D
 | .t d=>some d
 | .m (.lst ds)=>some (.lst ds)
 | .b (.lst ds)=>some (.lst ds)
 | _=>none
noncomputable def Nm (f:List D→Option U) (i:Nat):GD:=fun S=>match S[i]? with
 | some (some u)=>(look u).bind fun d=>match f [d] with
  | some (.t e)=>if sI e=true then some (e,S) else none
  | _=>none
 | _=>none
noncomputable def Sg (Ts:List String) (i:Nat):GD:=fun S=>match S[i]? with
 | some (some u)=>(look u).bind fun d=>(eV Ts d).map fun b=>(.bl b,S)
 | _=>none
section
variable {X:Cx}{x y:Str}{p px py pos:Pos}{f:List D→Option U}
end
section
variable (S:SS) (i:Nat) (g:GD)
@[simp] theorem Pp (f:List D→Option U):Nm f i S=match S[i]? with
 | some (some u)=>(look u).bind fun d=>match f [d] with
  | some (.t e)=>if sI e=true then some (e,S) else none
  | _=>none
 | _=>none:=rfl
@[simp] theorem Sh (Ts:List String):Sg Ts i S=match S[i]? with | some (some u)=>(look u).bind fun d=>(eV Ts d).map fun b=>(.bl b,S) | _=>none:=rfl
@[simp] theorem Si (n:Bool):Se n i g S=(g S).bind fun p=>match p.2[i]? with | some (some u)=>(zO u).bind fun ds=>if bU ds≤40 then some (.bl (n != inD p.1 ds),p.2) else none | _=>none:=rfl
@[simp] theorem Nn (d:D):look (.t d)=some d:=rfl
@[simp] theorem Np (ds:List D):look (.m (.lst ds))=some (.lst ds):=rfl
@[simp] theorem Nq (ds:List D):look (.b (.lst ds))=some (.lst ds):=rfl
@[simp] theorem LM (ds:List D):zO (.t (.lst ds))=some ds:=rfl
@[simp] theorem LN (ds:List D):zO (.m (.lst ds))=some ds:=rfl
@[simp] theorem LO (ds:List D):zO (.b (.lst ds))=some ds:=rfl
@[simp] theorem LP (ds:List D):zF [] (.lst ds)=some (.cI,.lst ds.reverse):=rfl
end
end L2
end
section
set_option Elab.async false
set_option linter.all false
set_option maxRecDepth 100000
namespace L2
open PySem PySem.Spec PyProof.Rows
section
variable {X:Cx}{a b c e:Expr}{es:List Expr}{pos p p2 px:Pos}{x y:Str}
theorem bw.rep {F:Hp}{vs:List V}{ds:List D}(r:bw F vs ds):∀k:Nat,bw F (List.replicate k vs).flatten (List.replicate k ds).flatten
 | 0=>.nil
 | k+1=>by rw[List.replicate_succ,List.replicate_succ,List.flatten_cons,List.flatten_cons];exact r.append (bw.rep r k)
noncomputable def Sj:List D→Option U
 | [.lst ds,.int k]=>if 0≤k∧k.toNat≤100000∧ds.length * k.toNat≤100000 then some (.m (.lst (List.replicate k.toNat ds).flatten)) else none
 | _=>none
noncomputable def Sk:List D→Option U
 | [.int i]=>some (.t (.int i))
 | [.bl k]=>some (.t (.int (if k then 1 else 0)))
 | _=>none
noncomputable def zP:V→List V→Hp→VK→Prop:=fun x vs H Q=>∃l b xs zs,x= .ref l∧vs=[.ref b]∧H l=some (.lst xs)∧Rd H b (.lst zs)∧xs.length+zs.length≤sizeLine∧Q .cI (upd H l (.lst (xs++zs)))
theorem uV:J8 X "list.extend" zP:=by
 intro pins s σ H x vs v us Q I rx rv h
 obtain⟨l,b,xs,zs,rfl,rfl,hH,hB,hz,q⟩:=h
 cases rx
 obtain⟨u,rfl,ru⟩:=rv.one
 cases ru
 obtain⟨z,its,n,r,hl,e⟩:=I.EE hH
 obtain⟨z2,its2,n2,r2,hl2,e2⟩:=hB.EE I
 have hsz:its.toArray.size+its2.toArray.size≤sizeLine:=by rw[List.size_toArray,List.size_toArray];omega
 have Fd:¬(!its.toArray.isEmpty && Builtin.List.listTooLong (its.toArray.size+its2.toArray.size))=true:=by
  rw[EF hsz,Bool.and_false]
  exact Bool.false_ne_true
 refine call_meets F.slot_list_extend ⟨_,e,rfl⟩ F.entry_list_extend (F.args_list_extend_2 _ _)
  (AutoSeq1.list_extend_list_list_0 l its.toArray n b its2.toArray n2 Fd (by rw[List.size_toArray];omega) (by omega)) ⟨e,e2,?_⟩
 refine⟨.cI,_,I.Rm (its':=its++its2) hH e (by simp) (r.append r2) ?_,rfl,q⟩
 rw[List.length_append]
 omega
noncomputable def kj:List D→MO→Option (D×MO)
 | [.lst es],.lst ds=>if ds.length+es.length≤100000 then some (.cI,.lst (ds++es)) else none
 | _,_=>none
theorem xq:Xi zP kj:=by
 intro F H a vs xs ds args res o' sb hH fa rs rx hw Q q
 unfold kj at hw
 split at hw
 ·rename_i es ds' e2
  cases e2
  obtain⟨hl,hw⟩:=bX hw
  cases hw
  cases rx with
  | cons r rr=>
   cases rr
   obtain⟨b,zs,rfl,fb,hb,Hi⟩:=sb.jl r
   exact⟨a,b,vs,zs,rfl,rfl,hH,hb,by rw[rs.length,Hi.length];exact Nat.le_trans hl (by decide),q .cI _ .cI ⟨_,aW,rs.append Hi⟩⟩
 ·cases hw
theorem xr (a:List D) (o:MO) (h:dX o=false):kj a o=none:=by
 cases o with
 | lst ds=>cases h
 | dct k=>unfold kj;split <;> first | rfl | (rename_i e;cases e)
 | yf k=>unfold kj;split <;> first | rfl | (rename_i e;cases e)
noncomputable def IT:D→Bool
 | .cI=>true
 | _=>false
noncomputable def Sl:List D→Option U
 | [d,.cI]=>some (.t (.bl (IT d)))
 | _=>none
noncomputable def So (f:Int→Int→Int) (i:Nat) (g:GD):GS:=fun S=>match S[i]? with
 | some (some (.t (.int n)))=>(g S).bind fun p=>match p.1 with
  | .int m=>(oM i (.t (.int (f n m))) p.2).map .nx
  | _=>none
 | _=>none
theorem uW {x : Str} {d8 : List Str} {cap : List Nat} {scope : Scope} {cl : List (Str × Addr)} (clos : closureFor scope X.env = pure cl) (yc : ∀ z ∈ scope.names, z.2 ≠ .cell) (kind : scope.kind = .function) (names : ∀ z ∈ scope.names, z.2 = .local → scope.names.lookup z.1 = some .local)
    (loc:scope.names.lookup x=some .local) (hc:cl.map (fun p=>X.env.cells.lookup p.1)=cl.map (fun p=>some p.2)) (only:∀z∈scope.names,z.2= .free→z.1∈d8) (hcl:cl.map (·.1)=d8.reverse∨cl.map (·.1)=d8) (nd:(x :: d8).Nodup)
    (slot:cap.map (fun i=>X.N[i]?)=d8.map some) (vis:d8.map (fun n=>X.env.scope.names.lookup n)=d8.map fun _=>some .cell) (rel:d8.map (fun n=>(relabel scope X.env).names.lookup n)=d8.map fun _=>some .cell):
    nZ X x d8 cap scope cl:=by
  have all:∀{α β:Type}{f g:α→β}{l:List α},l.map f=l.map g→∀a∈l,f a=g a:=fun {α β f g l} h=>by
    induction l with
    | nil=>intro a m;cases m
    | cons b r ih=>
      intro a m
      rw[List.map_cons,List.map_cons] at h
      injection h with h1 h2
      rcases List.mem_cons.mp m with z | z
      · rw[z];exact h1
      · exact ih h2 a z
  have Nr:∀n,n∈d8→∃c,cl.lookup n=some c:=fun n hn=>lookup_some (hcl.elim (fun z=>by rw[z];exact List.mem_reverse.mpr hn) fun z=>by rw[z];exact hn)
  have len:cap.length=d8.length:=by have:=congrArg List.length slot;simpa using this
  refine⟨clos,yc,kind,names,loc,fun n c h=>all hc (n,c) (PySem.mem_of_lookup h),fun n h=>?_,nd,len,fun j n h=>?_,fun n h=>⟨.inl (all rel n h),Nr n h,by rw[all vis n h];decide⟩⟩
  · refine Nr n ?_
    have go:∀k,(k=NameKind.cell∨k=NameKind.free)→(relabel scope X.env).names.lookup n=some k→n∈d8:=fun k hk e=>by
      have m:=PySem.mem_of_lookup e
      unfold relabel at m
      obtain⟨⟨n',k'⟩,hm,q⟩:=List.mem_map.mp m
      by_cases hf:k'= .free
      · have h0:n'∈d8:=only _ hm hf
        have e1:n'=n:=by
          have h1:=congrArg Prod.fst q
          dsimp only at h1
          split at h1 <;> exact h1
        rw[←e1]
        exact h0
      · have z:(k' == NameKind.free)=false:=by simpa using hf
        simp only[z,Bool.false_and] at q
        have q2:k'=k:=by
          have:=congrArg Prod.snd q
          simpa using this
        rcases hk with rfl | rfl
        · exact absurd q2 (yc _ hm)
        · exact absurd q2 hf
    rcases h with h | h
    · exact go _ (.inl rfl) h
    · exact go _ (.inr rfl) h
  · have e:=congrArg (fun l=>l[j]?) slot
    simp only[List.getElem?_map,h,Option.map_some] at e
    cases q:cap[j]? with
    | none=>rw[q] at e;cases e
    | some i=>
      rw[q] at e
      exact⟨i,rfl,Option.some.inj e,.inr (.inl (all vis n (List.mem_of_getElem? h)))⟩
end
end L2
end
section
set_option Elab.async false
set_option linter.all false
set_option maxRecDepth 100000
namespace L2
open PySem PySem.Spec PyProof.Rows
open AutoSeq1 (wpAny_loadPart')
noncomputable def Nt (k:Bool) (h:Heap) (a:Addr) (its:Array Value):Prop:=match k with
 | true=>h.IsList a its
 | false=>h.IsTuple a its
noncomputable def Kv (k:Bool) (h:Heap) (it a:Addr) (i:Nat):Prop:=match k with
 | true=>h.IsListIter it a i
 | false=>h.IsTupleIter it a i
noncomputable def Zv:Bool→String
 | true=>"list_iterator"
 | false=>"tuple_iterator"
noncomputable def Zw (k:Bool) (a:Addr):Obj:={cls:=.type (Zv k),data:=.fields #[.ref a,.int 0 0]}
theorem Nt.at {k:Bool}{h h':Heap}{a:Addr}{its:Array Value}(x:Nt k h a its) (g:∀o,h.get? a=some o→h'.get? a=some o):Nt k h' a its:=by
 cases k <;> exact let⟨o,ho,r⟩:=x;⟨o,g o ho,r⟩
theorem Kv.at {k:Bool}{h h':Heap}{it a:Addr}{i:Nat}(x:Kv k h it a i) (g:∀o,h.get? it=some o→h'.get? it=some o):Kv k h' it a i:=by
 cases k <;> exact let⟨o,ho,r⟩:=x;⟨o,g o ho,r⟩
theorem Kv.obj {k:Bool}{h:Heap}{it a:Addr}{i:Nat}(x:Kv k h it a i):∃o,h.get? it=some o∧∀v,o.data≠.cell v:=by
 cases k <;> exact let⟨o,ho,_,r⟩:=x;⟨o,ho,fun v z=>by rw[r] at z;cases z⟩
theorem Kv.new (k:Bool) (h:Heap) (a:Addr):Kv k (h.push (Zw k a)) h.objs.size a 0:=by
 cases k <;> exact⟨_,Heap.get?_push_size _ rfl,rfl,rfl⟩
section
variable {prog:Program}{w:World}{A:Around}{E:Value→Shared→Prop}{s:Shared}
end
end L2
end
section
set_option Elab.async false
set_option linter.all false
set_option maxRecDepth 100000
namespace L2
open PySem PySem.Spec PyProof.Rows
section
variable {prog:Program}{w:World}{A:Around}{E:Value→Shared→Prop}{s:Shared}
end
section
variable {X:Cx}{pins:List (Addr×Obj)}{σ:St}{H:Hp}{s:Shared}
end
end L2
end
section
set_option Elab.async false
set_option linter.all false
set_option maxRecDepth 100000
namespace L2
open PySem PySem.Spec PyProof.Rows
section
variable {prog:Program}{w:World}{A:Around}{E:Value→Shared→Prop}{s:Shared}
end
end L2
end
section
set_option Elab.async false
set_option linter.all false
set_option maxRecDepth 100000
namespace L2
open PySem PySem.Spec PyProof.Rows
section
variable {X:Cx}{a b c e:Expr}{body elts:List Expr}{pos p tpos:Pos}{jt:Nat}
theorem Nt.lt {k:Bool}{h:Heap}{a:Addr}{its:Array Value}(x:Nt k h a its):a < h.objs.size:=by
 cases k <;> exact let⟨o,ho,_⟩:=x;Heap.lt_size ho
noncomputable def zQ:D→Option (Bool×List D)
 | .lst ds=>some (true,ds)
 | .tup ds=>some (false,ds)
 | _=>none
noncomputable def IU (ds:List D):List D:=ds.mapIdx fun i d=>.tup [.int i,d]
noncomputable def Nu (gA:GA):GI:=fun S=>(gA S).bind fun p=>match p.1 with
 | [d]=>(zQ d).map fun q=>(IU q.2,p.2)
 | _=>none
noncomputable def Nv (gA:GA):GI:=fun S=>(gA S).bind fun p=>match p.1 with
 | [d,e]=>(zQ d).bind fun q=>(zQ e).map fun r=>(List.zipWith (fun a b=>.tup [a,b]) q.2 r.2,p.2)
 | _=>none
end
end L2
end
section
set_option Elab.async false
set_option linter.all false
set_option maxRecDepth 100000
namespace L2
open PySem PySem.Spec PyProof.Rows
section
variable {X:Cx}{a b c e:Expr}{x y:Str}{p px py pos pos' tpos:Pos}{f:List D→Option U}{gb:GD}
theorem Vals.repl {v:V}{u:Value}(r:RelV v u):∀m:Nat,Vals (List.replicate m v) (List.replicate m u)
 | 0=>.nil
 | m+1=>.cons r (Vals.repl r m)
theorem bw.repl {F:Hp}{v:V}{d:D}(r:Rep F v d):∀m:Nat,bw F (List.replicate m v) (List.replicate m d)
 | 0=>.nil
 | m+1=>.cons r (bw.repl r m)
end
end L2
end
section
set_option Elab.async false
set_option linter.all false
set_option maxRecDepth 100000
namespace L2
open PySem PySem.Spec PyProof.Rows
noncomputable def Nx:GE:=fun S=>some (.m (.yf []),S)
noncomputable def Ny:GE:=fun S=>some (.m (.dct []),S)
section
variable {X:Cx}{a b c e k:Expr}{x y:Str}{p px py pos pos' tpos apos cpos:Pos}{gk:GD}
noncomputable def Kw (d:D):List D→Option Nat
 | []=>none
 | e :: ds=>if mz e d then some 0 else(Kw d ds).map (· +1)
noncomputable def Ky:List D→MO→Option (D×MO)
 | [d],.lst ds=>if bU ds≤40∧ds.length < 100000 then(Kw d ds).map fun j=>(.int (j:Nat),.lst ds) else none
 | _,_=>none
end
end L2
end
section
set_option Elab.async false
set_option linter.all false
set_option maxRecDepth 100000
namespace L2
open PySem PySem.Spec PyProof.Rows
section
variable {X:Cx}{k v:Expr}{pos:Pos}{tk tv:TE}{gk gv:GD}
end
end L2
end
section
set_option Elab.async false
set_option linter.all false
set_option maxRecDepth 100000
namespace L2
open PySem PySem.Spec PyProof.Rows
noncomputable def iE (kvs:List (Str×Int)) (z:Str):Option Int:=(kvs.find? fun p=>decide (p.1=z)).map (·.2)
noncomputable def Kz:Option Int→Option Value→Prop
 | some i,u=>∃t,u=some (.int i t)
 | none,u=>u=none
noncomputable def KTab (P:Program) (w:World) (K:PySem.W.Frag) (a:Addr) (kvs:List (Str×Int)):Prop:=
 (a == sysModules)=false∧∃o es ep,K.lookup a=some o∧o.ExactDict∧o.data= .dict es ep∧KeysOf (bW P w) es∧∀z,Kz (iE kvs z) (findBy (bW P w).is es (.inr z))
noncomputable def qX (w:World):List (Str×Int)→List DictEntry→Prop
 | [],[]=>True
 | (z,i) :: r,e :: es=>(e.hash=hashStr w z∧(∃t,e.key= .str z t)∧∃t,e.val= .int i t)∧qX w r es
 | _,_=>False
theorem xu {P:Program}{w:World}:∀{kvs:List (Str×Int)}{es:List DictEntry},qX w kvs es→∀e∈es,∃k,(bW P w).is k e.key=true∧e.hash=(bW P w).hash k
 | [],[],_,e,he=>by cases he
 | (z,i) :: r,e :: es,h,e',he=>by
  obtain⟨⟨h1,⟨t,h2⟩,_⟩,h3⟩:=h
  rcases List.mem_cons.mp he with rfl | q
  ·exact⟨.inr z,by rw[h2];exact m5 P w z t,h1⟩
  ·exact xu h3 e' q
 | [],_ :: _,h,_,_=>h.elim
 | _ :: _,[],h,_,_=>h.elim
theorem xw {P:Program}{w:World}(z:Str):∀{kvs:List (Str×Int)}{es:List DictEntry},qX w kvs es→Kz (iE kvs z) ((es.find? fun e=>(bW P w).is (.inr z) e.key).map (·.val))
 | [],[],_=>rfl
 | (y,i) :: r,e :: es,h=>by
  obtain⟨⟨h1,⟨t,h2⟩,u,h4⟩,h3⟩:=h
  have k:(bW P w).is (.inr z) e.key=decide ((.inr z:Key)= .inr y):=KeyKind.is_eq_decide (knd:=bW P w) (k:=.inr y) (by rw[h2];exact m5 P w y t) (.inr z)
  unfold iE
  by_cases q:y=z
  ·subst q
   rw[List.find?_cons_of_pos (by simp),List.find?_cons_of_pos (by rw[k];simp)]
   exact⟨u,by rw[Option.map_some,h4]⟩
  ·rw[List.find?_cons_of_neg (by simpa using q),List.find?_cons_of_neg (by rw[k];simp only[decide_eq_true_eq,Sum.inr.injEq];exact fun e=>q e.symm)]
   exact xw z h3
 | [],_ :: _,h=>h.elim
 | _ :: _,[],h=>h.elim
theorem Cu {P:Program}{w:World}{K:PySem.W.Frag}{a:Addr}{kvs:List (Str×Int)}{es:List DictEntry}{ep:Nat}(h:K.lookup a=some ⟨.type "dict",none,.dict es.toArray ep,#[]⟩) (hs:(a == sysModules)=false) (he:qX w kvs es):KTab P w K a kvs:=by
 refine⟨hs,_,es.toArray,ep,h,⟨rfl,rfl,rfl⟩,rfl,fun e q=>xu he e (by simpa using q),fun z=>?_⟩
 have:=xw (P:=P) z he
 unfold findBy
 rw[List.find?_toArray]
 exact this
section
variable {X:Cx}{pins:List (Addr×Obj)}{σ:St}{H:Hp}{s:Shared}{a:Addr}{kvs:List (Str×Int)}
theorem KTab.map (I:Inv X pins σ H s) (h:KTab X.prog X.w X.K a kvs):∃f:Key→Option Value,s.heap.MapOf (bW X.prog X.w) a f∧∀z,Kz (iE kvs z) (f (.inr z)):=by
 obtain⟨_,o,es,ep,h1,h2,h3,h4,h5⟩:=h
 exact⟨_,⟨o,es,ep,I.AX a o h1,h2,h3,h4,fun _=>rfl⟩,h5⟩
end
noncomputable def Hz (kvs:List (Str×Int)) (g:GD):GD:=fun S=>(g S).bind fun p=>match p.1 with
 | .str z=>(iE kvs z).map fun i=>(.int i,p.2)
 | _=>none
noncomputable def yx (kvs:List (Str×Int)) (g gd:GD):GD:=fun S=>(g S).bind fun p=>(gd p.2).bind fun q=>match p.1,q.1 with
 | .str z,.int j=>some (.int ((iE kvs z).getD j),q.2)
 | _,_=>none
section
variable {X:Cx}{e f:Expr}{x:Str}{px pos apos cpos:Pos}{ty tx:TE}{g gd:GD}{a:Addr}{kvs:List (Str×Int)}
theorem KA (hg:Gl X x) (hm:X.mg x=some (.ref a)) (hk:KTab X.prog X.w X.K a kvs) (he:PE X e ty) (hs:GQ e) (hd:(x == ("__debug__":Str))=false):
  PE X (.Subscript (.Name x px) e pos) (fun σ H Q=>ty σ H fun y H1=>∃z i,y= .str z∧iE kvs z=some i∧Q (.int i) H1):=by
 intro pins s σ H Q I h
 refine Cc PySem.F.slot_dict_getitem.lookup hs (eU (pT (v:=.ref a) hg hm rfl hd pins s σ H (fun v H1=>v= .ref a∧H1=H) I ⟨rfl,rfl⟩) fun u s1 ⟨x',H1,I1,rx,ex,eH⟩=>?_)
 subst ex eH
 obtain rfl:u=Value.ref a:=rx
 refine eU (he pins s1 σ _ _ I1 h) fun iv s2 ⟨y,H2,I2,ry,z,i,ey,el,q⟩=>?_
 subst ey
 obtain⟨fm,m1,m2⟩:=hk.map I2
 have r:=m2 z
 rw[el] at r
 obtain⟨t,r⟩:=r
 exact⟨m1.typeIs,wpAny_getItem_of (k:=.inr z) (uB (k:=.inr z) ry) m1 r ⟨.int i,H2,I2.tok _,⟨t,rfl⟩,q⟩⟩
theorem Dq (hg:Gl X x) (hm:X.mg x=some (.ref a)) (hk:KTab X.prog X.w X.K a kvs) (he:PE X e ty) (hf:PE X f tx) (m:M2 X (.Name x px) "get" apos e f cpos) (hd:(x == ("__debug__":Str))=false):
  PE X (.Call (.Attribute (.Name x px) "get" apos) [e,f] [] cpos) (fun σ H Q=>ty σ H fun y H1=>tx σ H1 fun y2 H2=>∃z j,y= .str z∧y2= .int j∧Q (.int ((iE kvs z).getD j)) H2):=by
 intro pins s σ H Q I h
 refine wpAny_Call_method m.base m.few m.line PySem.F.plainAttrs_dict PySem.F.slot_dict_get PySem.F.type_dict_get (eU (pT (v:=.ref a) hg hm rfl hd pins s σ H (fun v H1=>v= .ref a∧H1=H) I ⟨rfl,rfl⟩) fun u s1 ⟨x',H1,I1,rx,ex,eH⟩=>?_)
 subst ex eH
 obtain rfl:u=Value.ref a:=rx
 obtain⟨fm,m1,m2⟩:=hk.map I1
 refine⟨m1.typeIs,fun b hb=>?_,?_⟩
 ·cases hb
  obtain⟨ob,_,_,h1,h2,_⟩:=m1
  exact⟨ob,h1,h2.2.1⟩
 rw[m.trees]
 refine Calls.callWith_builtin rfl (Calls.evalArgs_plain (Calls.spliced_cons (eU (he pins s1 σ _ _ I1 h) fun iv s2 ⟨y,H2,I2,ry,q2⟩=>
  Calls.spliced_cons (eU (hf pins s2 σ H2 _ I2 q2) fun fv s3 ⟨y2,H3,I3,RX,z,j,ey,Zx,q3⟩=>Calls.spliced_nil ?_))))
 subst ey Zx
 obtain⟨Xm,k1,k2⟩:=hk.map I3
 refine call_meetsIn PySem.F.slot_dict_get k1.typeIs PySem.F.entry_dict_get (PySem.F.args_dict_get_3 _ _ _) (meets_dict_get_default (k:=.inr z) (bW X.prog X.w) a (uB (k:=.inr z) ry) hk.1 fv) ⟨Xm,k1,.int ((iE kvs z).getD j),H3,I3.tok _,?_,q3⟩
 have r:=k2 z
 cases el:iE kvs z with
 | none=>rw[el] at r;rw[show Xm (.inr z)=none from r];exact RX
 | some i=>rw[el] at r;obtain⟨t,r⟩:=r;rw[r];exact⟨t,rfl⟩
theorem Fe (hg:Gl X x) (hm:X.mg x=some (.ref a)) (hk:KTab X.prog X.w X.K a kvs) (he:JD X e g) (hs:GQ e:=by intro _ _;rfl) (hd:(x == ("__debug__":Str))=false:=by decide):JD X (.Subscript (.Name x px) e pos) (Hz kvs g):=
 ⟨fun B=>(KA hg hm hk (he.h B) hs hd).imp fun σ H Q ⟨S,F,d,S',R,hg',q⟩=>by
  obtain⟨⟨d1,S1⟩,h1,hg'⟩:=ak hg'
  cases d1 <;> try (cases hg')
  rename_i z
  obtain⟨i,h2,hg'⟩:=aB hg'
  cases hg'
  exact⟨S,F,.str z,_,R,h1,fun v F1 H1 R1 st1 r1=>by cases r1;exact⟨z,i,rfl,h2,q (.int i) F1 H1 R1 st1 (.int i)⟩⟩⟩
theorem Ds (hg:Gl X x) (hm:X.mg x=some (.ref a)) (hk:KTab X.prog X.w X.K a kvs) (he:JD X e g) (hf:JD X f gd) (hb:attributeBase (.Name x px) "get" X.env (eval (.Name x px) X.env)=eval (.Name x px) X.env:=by rfl)
  (hfew:((backTo cpos (starEach [e,f] X.env)).all (fun x=>!x.1) && (backToKw cpos (keywordEach [] X.env)).all (fun x=>x.1.isSome) && decide (([e,f]:List Expr).length+([]:List Keyword).length+(if([]:List Keyword).isEmpty then 0 else 1) < 30))=true:=by rfl)
  (hline:(apos.endLine == cpos.line)=true:=by rfl) (htr:backTo cpos (starEach [e,f] X.env)=[(false,eval e X.env),(false,eval f X.env)]:=by rfl) (hd:(x == ("__debug__":Str))=false:=by decide):
  JD X (.Call (.Attribute (.Name x px) "get" apos) [e,f] [] cpos) (yx kvs g gd):=
 ⟨fun B=>(Dq hg hm hk (he.h B) (hf.h B) ⟨hb,hfew,hline,htr⟩ hd).imp fun σ H Q ⟨S,F,d,S',R,hg',q⟩=>by
  obtain⟨⟨d1,S1⟩,h1,hg'⟩:=ak hg'
  obtain⟨⟨d2,S2⟩,h2,LL⟩:=ak hg'
  clear hg'
  cases d1 <;> try (cases LL)
  rename_i z
  cases d2 <;> try (cases LL)
  rename_i j
  exact⟨S,F,.str z,_,R,h1,fun v F1 H1 R1 st1 r1=>by cases r1;exact⟨_,F1,.int j,_,R1,h2,fun v2 F2 H2 R2 st2 r2=>by cases r2;exact⟨z,j,rfl,rfl,q (.int _) F2 H2 R2 (st1.trans st2) (.int _)⟩⟩⟩⟩
end
noncomputable def zR (K:PySem.W.Frag) (a:Addr) (zs:List Str):Prop:=∃(o:Obj) (its:List Value) (n:Nat),K.lookup a=some o∧o.cls= .type "tuple"∧o.data= .seq its.toArray n∧its.length≤1000∧Vals (zs.map V.str) its
noncomputable def yy:List Str→List Value→Prop
 | [],[]=>True
 | z :: r,v :: vs=>(∃t,v= .str z t)∧yy r vs
 | _,_=>False
theorem xx:∀{zs:List Str}{vs:List Value},yy zs vs→Vals (zs.map V.str) vs
 | [],[],_=>.nil
 | z :: r,v :: vs,h=>.cons h.1 (xx h.2)
 | [],_ :: _,h=>h.elim
 | _ :: _,[],h=>h.elim
theorem HA {K:PySem.W.Frag}{a:Addr}{zs:List Str}{its:List Value}{n:Nat}{od:Option Addr}{sl:Array (Option Value)}(h:K.lookup a=some ⟨.type "tuple",od,.seq its.toArray n,sl⟩) (hl:its.length≤1000) (hs:yy zs its):zR K a zs:=
 ⟨_,its,n,h,rfl,rfl,hl,xx hs⟩
theorem xy {F:Hp}:∀zs:List Str,bw F (zs.map V.str) (zs.map D.str)
 | []=>.nil
 | z :: zs=>.cons (.str z) (xy zs)
theorem nC:∀zs:List Str,bU (zs.map D.str)=0
 | []=>rfl
 | z :: zs=>by show max (cG (.str z)) (bU (zs.map D.str))=0;rw[nC zs];rfl
noncomputable def zS (n:Bool) (zs:List Str) (g:GD):GD:=fun S=>(g S).map fun p=>(.bl (n != inD p.1 (zs.map D.str)),p.2)
section
variable {X:Cx}{e:Expr}{x:Str}{px pos:Pos}{g:GD}{a:Addr}{zs:List Str}
theorem KC (I:Inv X pins σ H s) (hk:zR X.K a zs) (hu:X.A.units+64 < cLine){F:Hp}{d:D}{v:V}{u:Value}(sb:Sub F H) (r:Rep F v d) (rv:RelV v u):∃its:List Value,IsTup s.heap a its.toArray∧(∀y∈its,SeqAt.EqAt X.A.in1 s y u (wm F d y))∧its.any (wm F d)=inD d (zs.map D.str):=by
 obtain⟨o,its,n,h1,h2,h3,h4,h5⟩:=hk
 obtain⟨k1,k2⟩:=lD I sb (A:=X.A.in1) r rv (xy zs) h5 (by rw[nC];show X.A.units+1+0 < cLine;omega)
 exact⟨its,⟨o,I.AX a o h1,h2,n,h3⟩,k1,k2⟩
theorem KD (hu:X.A.units+64 < cLine) (hg:Gl X x) (hm:X.mg x=some (.ref a)) (hk:zR X.K a zs){B:Base}(he:PE X e (tD X.K B g)) (hd:(x == ("__debug__":Str))=false):
  PC X .In e (.Name x px) (tD X.K B (zS false zs g)):=by
 intro pins s σ H Q I h
 obtain⟨S,F,d,S',R,hg',q⟩:=h
 obtain⟨⟨d1,S1⟩,h1,hg'⟩:=aB hg'
 cases hg'
 refine eU (he pins s σ H (fun y H1=>∃F',Sub F' H1∧Rep F' y d1∧Q (.bl (false != inD d1 (zs.map D.str))) H1) I ⟨S,F,d1,_,R,h1,fun v F1 H1 R1 st1 r1=>⟨F1,R1.sub,r1,q (.bl _) F1 H1 R1 st1 (.bl _)⟩⟩) fun iv s1 ⟨y,H1,I1,ry,F',sb,r',q'⟩=>?_
 refine eU (pT (v:=.ref a) hg hm rfl hd pins s1 σ H1 (fun v H2=>v= .ref a∧H2=H1) I1 ⟨rfl,rfl⟩) fun u s2 ⟨x',H2,I2,rx,ex,eH⟩=>?_
 subst ex eH
 obtain rfl:u=Value.ref a:=rx
 obtain⟨its,p,k1,k2⟩:=KC I2 hk hu sb r' ry
 refine SeqAt.in_tupleAt (wm F' d1) p (fun y hy=>k1 y (by simpa using hy)) ⟨.bl _,_,I2,rfl,?_⟩
 rw[show its.toArray.any (wm F' d1)=its.any (wm F' d1) by simp,k2]
 simpa using q'
theorem Nz {B:Base}{g:GD}{σ:St}{H:Hp}{Q:Bool→Hp→Prop}(h:tQ X.K B (qB g) σ H Q):tB (tD X.K B g) σ H Q:=by
 obtain⟨S,F,kk,S',R,hg',q⟩:=h
 exact⟨S,F,.bl kk,S',R,oq hg',fun v F' H' R' st r=>⟨kk,mq r,q F' H' R' st⟩⟩
theorem yz (hu:X.A.units+64 < cLine) (hg:Gl X x) (hm:X.mg x=some (.ref a)) (hk:zR X.K a zs) (he:JD X e g) (hd:(x == ("__debug__":Str))=false:=by decide) (hi:behindInMarks .In (.Name x px)=false:=by with_unfolding_all rfl):JT X (.Compare e [.In] [.Name x px] pos) (qB (zS false zs g)):=
 ⟨fun B=>(Jr (KD hu hg hm hk (he.h B) hd) hi).imp fun σ H Q h=>Nz h⟩
end
end L2
end
section
set_option Elab.async false
set_option linter.all false
set_option maxRecDepth 100000
namespace L2
open PySem PySem.Spec PyProof.Rows
noncomputable def Ff:U→D→Option (Option D)
 | .m (.dct kvs),k=>(keyOf k).map (cD kvs)
 | .b (.dct kvs),k=>(keyOf k).map (cD kvs)
 | .m (.yf kvs),k=>(Bf k).map (cD kvs)
 | .b (.yf kvs),k=>(Bf k).map (cD kvs)
 | _,_=>none
noncomputable def uX:U→Bool
 | .m (.dct _)=>true
 | .b (.dct _)=>true
 | .m (.yf _)=>true
 | .b (.yf _)=>true
 | _=>false
noncomputable def Cv (i:Nat) (gk gd:GD):GD:=fun S=>match S[i]? with
 | some (some u)=>if uX u then(gk S).bind fun p=>(gd p.2).bind fun q=>match q.2[i]? with
  | some (some u2)=>(Ff u2 p.1).map fun o=>(o.getD q.1,q.2)
  | _=>none
  else none
 | _=>none
noncomputable def NB (F:Hp):Option V→Option D→Prop
 | some v,some d=>Rep F v d
 | none,none=>True
 | _,_=>False
theorem qm {κ:Type} [DecidableEq κ] {F:Hp}{ws:List (κ×V)}{kvs:List (κ×D)}(pr:Paired (gK F) ws kvs) (k:κ):NB F (o8 ws k) (cD kvs k):=by
 cases e:cD kvs k with
 | none=>rw[xh pr e];exact True.intro
 | some d=>obtain⟨v,h,r⟩:=oz pr e;rw[h];exact r
theorem HB {K:PySem.W.Frag}{F H:Hp}{v w:V}{u:U}{d:D}{h:Option D}(sb:Sub F H) (r:we K F H v u) (rk:Rep F w d) (e:Ff u d=some h):∃a o,v= .ref a∧oJ H a w o∧NB F o h:=by
 unfold Ff at e
 split at e
 ·obtain⟨kk,e1,rfl⟩:=aB e
  obtain⟨a,rfl,fa,ws,ha,pr⟩:=r
  rw[lE rk e1]
  exact⟨a,_,rfl,oJ.k ha,qm pr kk⟩
 ·obtain⟨kk,e1,rfl⟩:=aB e
  obtain⟨a,rfl,fa,ws,ha,pr⟩:=r
  rw[lE rk e1]
  exact⟨a,_,rfl,oJ.k ha,qm pr kk⟩
 ·obtain⟨kk,e1,rfl⟩:=aB e
  obtain⟨a,rfl,fa,ws,ha,pr⟩:=r
  obtain⟨b,rfl,hb⟩:=qg sb rk e1
  exact⟨a,_,rfl,oJ.t ha hb,qm pr kk⟩
 ·obtain⟨kk,e1,rfl⟩:=aB e
  obtain⟨a,rfl,fa,ws,ha,pr⟩:=r
  obtain⟨b,rfl,hb⟩:=qg sb rk e1
  exact⟨a,_,rfl,oJ.t ha hb,qm pr kk⟩
 ·cases e
theorem zT {K:PySem.W.Frag}{F H:Hp}{v:V}{u:U}(r:we K F H v u) (h:uX u=true):∃a,v= .ref a∧Ph H a:=by
 unfold uX at h
 split at h
 ·obtain⟨a,rfl,fa,ws,ha,pr⟩:=r;exact⟨a,rfl,.inl ⟨ws,.inl ha⟩⟩
 ·obtain⟨a,rfl,fa,ws,ha,pr⟩:=r;exact⟨a,rfl,.inl ⟨ws,.inl ha⟩⟩
 ·obtain⟨a,rfl,fa,ws,ha,pr⟩:=r;exact⟨a,rfl,.inr ⟨ws,.inl ha⟩⟩
 ·obtain⟨a,rfl,fa,ws,ha,pr⟩:=r;exact⟨a,rfl,.inr ⟨ws,.inl ha⟩⟩
 ·cases h
section
variable {X:Cx}{e f:Expr}{x:Str}{px pos apos cpos:Pos}{gk gd:GD}{ge:GE}
theorem HC {i : Nat} (hu : X.A.units + 1 < cLine) (he : JD X e gk) (hf : JD X f gd) (hN : X.N[i]? = some x := by rfl) (hv : Ec X.env.scope x := by first | exact Or.inl rfl | exact Or.inr (Or.inl rfl) | exact Or.inr (Or.inr rfl))
    (hb:attributeBase (.Name x px) "get" X.env (eval (.Name x px) X.env)=eval (.Name x px) X.env:=by rfl)
    (hfew:((backTo cpos (starEach [e,f] X.env)).all (fun x=>!x.1) && (backToKw cpos (keywordEach [] X.env)).all (fun x=>x.1.isSome) && decide (([e,f]:List Expr).length+([]:List Keyword).length+(if([]:List Keyword).isEmpty then 0 else 1) < 30))=true:=by rfl)
    (hline:(apos.endLine == cpos.line)=true:=by rfl) (htr:backTo cpos (starEach [e,f] X.env)=[(false,eval e X.env),(false,eval f X.env)]:=by rfl) (hd:(x == ("__debug__":Str))=false:=by decide) (hcd:(x == ("__classdict__":Str))=false:=by decide):
    JD X (.Call (.Attribute (.Name x px) "get" apos) [e,f] [] cpos) (Cv i gk gd):=
  ⟨fun B => (Ex hu (iF hN hv hd hcd) (he.h B) (hf.h B) ⟨hb, hfew, hline, htr⟩).imp fun σ H Q ⟨S, F, d, S', R, hg, q⟩ => by
    unfold Cv at hg
    split at hg
    · rename_i u hS
      split at hg
      · rename_i hD
        obtain⟨⟨d1,S1⟩,h1,hg⟩:=ak hg
        obtain⟨⟨d2,S2⟩,h2,hg⟩:=ak hg
        dsimp only at hg
        split at hg
        · rename_i u2 Ks
          obtain⟨o,h3,hg⟩:=aB hg
          cases hg
          obtain⟨v0,hv0,r0⟩:=R.rep i u hS
          obtain⟨a,rfl,ha⟩:=zT r0 hD
          refine⟨.ref a,hv0,a,rfl,ha,S,F,d1,S1,R,h1,fun v1 F1 H1 R1 st1 r1=>⟨S1,F1,d2,_,R1,h2,fun v2 F2 H2 R2 st2 r2=>?_⟩⟩
          obtain⟨v3,NC,r3⟩:=R2.rep i u2 Ks
          rw[hv0] at NC
          cases NC
          obtain⟨a',ov,e1,g1,rl⟩:=HB R2.sub r3 (r1.le st2.ext.le) h3
          cases e1
          refine⟨ov,g1,q _ F2 H2 R2 (st1.trans st2) ?_⟩
          cases o with
          | none=>cases ov with
            | none=>exact r2
            | some _=>exact(show False from rl).elim
          | some d=>cases ov with
            | none=>exact(show False from rl).elim
            | some v=>exact rl
        · cases hg
      · cases hg
    · cases hg⟩
noncomputable def ND (td te:TE):TE:=fun σ H Q=>td σ H fun x H1=>∃a,x= .ref a∧Ph H1 a∧te σ H1 fun y H2=>∃p kvs more,y= .ref p∧H2 a=some (.dK kvs)∧H2 p=some (.dK more)∧a≠p∧kvs.length+more.length≤sizeLine∧Q .cI (upd H2 a (.dK (jP kvs more)))
theorem HD {o:Expr}{td te:TE}(ho:PE X o td) (he:PE X e te) (m:M1 X o "update" apos e cpos):PE X (.Call (.Attribute o "update" apos) [e] [] cpos) (ND td te):=by
 intro pins s σ H Q I h
 refine wpAny_Call_method m.base m.few m.line PySem.F.plainAttrs_dict PySem.F.slot_dict_update PySem.F.type_dict_update (eU (ho pins s σ H _ I h) fun u s1 ⟨x,H1,I1,rx,a,ex,d,q1⟩=>?_)
 subst ex
 obtain rfl:u=Value.ref a:=rx
 obtain⟨t1,t2,_⟩:=Ew I1 d
 refine⟨t1,t2,?_⟩
 rw[m.trees]
 refine Calls.callWith_builtin rfl (Calls.evalArgs_plain (Calls.spliced_cons (eU (he pins s1 σ H1 _ I1 q1) fun iv s2 ⟨y,H2,I2,ry,p,kvs,more,ey,ha,hp,ne,hl,q2⟩=>Calls.spliced_nil ?_)))
 subst ey
 obtain rfl:iv=Value.ref p:=ry
 obtain⟨z1,d1,vs1,r1,Xn⟩:=Cb I2.hok ha
 obtain⟨z2,d2,vs2,r2,dd2⟩:=Cb I2.hok hp
 refine call_meetsIn PySem.F.slot_dict_update Xn.typeIs PySem.F.entry_dict_update (PySem.F.args_dict_update_2 _ _) (meets_dict_update (bW X.prog X.w) a p ne d2) ⟨vs1,vs2,Xn,dd2,(by rw[←r1.length,←r2.length];exact hl),fun h' Gu _ hs=>⟨.cI,_,?_,rfl,q2⟩⟩
 have hz:(jP kvs more).length≤sizeLine:=Nat.le_trans (kC more kvs) hl
 have hee:∃q,h'.get? a=some q:=let⟨q,_,_,hq,_⟩:=Gu;⟨q,hq⟩
 exact uh I2 (by rw[ha];exact True.intro) hs hee (A3 hz d1 (r2.merge r1) Gu)
noncomputable def zU (i:Nat) (ge:GE):GD:=fun S=>match S[i]? with
 | some (some u)=>if uX u then(ge S).bind fun p=>match p.1 with
  | .m (.dct more)=>yi p.2 i fun o=>match o with
   | .dct kvs=>if kvs.length+more.length≤100000 then some (.cI,.dct (cM kvs more)) else none
   | _=>none
  | _=>none
  else none
 | _=>none
theorem Cw {i : Nat} (he : JE X e ge) (hN : X.N[i]? = some x := by rfl) (hv : Ec X.env.scope x := by first | exact Or.inl rfl | exact Or.inr (Or.inl rfl) | exact Or.inr (Or.inr rfl))
    (hb:attributeBase (.Name x px) "update" X.env (eval (.Name x px) X.env)=eval (.Name x px) X.env:=by rfl)
    (hfew:((backTo cpos (starEach [e] X.env)).all (fun x=>!x.1) && (backToKw cpos (keywordEach [] X.env)).all (fun x=>x.1.isSome) && decide (([e]:List Expr).length+([]:List Keyword).length+(if([]:List Keyword).isEmpty then 0 else 1) < 30))=true:=by rfl)
    (hline:(apos.endLine == cpos.line)=true:=by rfl) (htr:backTo cpos (starEach [e] X.env)=[(false,eval e X.env)]:=by rfl) (hd:(x == ("__debug__":Str))=false:=by decide) (hcd:(x == ("__classdict__":Str))=false:=by decide):
    JD X (.Call (.Attribute (.Name x px) "update" apos) [e] [] cpos) (zU i ge):=
  ⟨fun B => (HD (iF hN hv hd hcd) (he.h B) ⟨hb, hfew, hline, htr⟩).imp fun σ H Q ⟨S, F, d, S', R, hg, q⟩ => by
    unfold zU at hg
    split at hg
    · rename_i u hS
      split at hg
      · rename_i hD
        obtain⟨⟨u1,S1⟩,h1,hg⟩:=ak hg
        dsimp only at hg
        split at hg
        · rename_i more
          obtain⟨u2,u',o,o',Ks,IM,hio,hf,Ko,rfl⟩:=qU hg
          split at hf
          · rename_i kvs
            obtain⟨hl,hf⟩:=qN hf
            cases hf
            obtain⟨v0,hv0,r0⟩:=R.rep i u hS
            obtain⟨a,rfl,ha⟩:=zT r0 hD
            refine⟨.ref a,hv0,a,rfl,ha,S,F,_,S1,R,h1,fun v1 F1 H1 R1 st1 r1=>?_⟩
            obtain⟨p,rfl,hp0,fp,⟨Ea,hp,Xo⟩,hn,hB⟩:=r1
            obtain⟨v3,NC,r3⟩:=R1.rep i u2 Ks
            rw[hv0] at NC
            cases NC
            have mA:dc S1 σ a:=⟨i,u2,Ks,IM,hv0⟩
            have ne:a≠p:=fun z=>hn (z▸mA)
            obtain⟨b,o2,e1,fa,e2,k⟩:=r3.dc IM
            cases e1
            rw[hio] at e2
            cases e2
            obtain⟨Fg,ha1,Xp⟩:=k
            refine⟨p,Fg,Ea,rfl,ha1,hp,ne,?_,?_⟩
            · rw[dg Xp,dg Xo,sizeLine_eq];omega
            · obtain⟨R2,st2⟩:=R1.write (ho:=.dK (jP Fg Ea)) Ks Ko hv0 ⟨_,aW,pF Xo Xp⟩
              exact q .cI F1 _ R2 (st1.trans st2) .cI
          · cases hf
        · cases hg
      · cases hg
    · cases hg⟩
end
noncomputable def IV (i:Nat) (S:SS):SS:=match S[i]? with
 | some (some (.m (.lst ds)))=>S.set i (some (.t (.lst ds)))
 | _=>S
noncomputable def Su (i:Nat) (g:GE):GE:=fun S=>g (IV i S)
end L2
end
section
set_option Elab.async false
set_option linter.all false
set_option maxRecDepth 100000
namespace HT
open PySem PySem.Spec PyProof.Rows
section
variable {prog:Program}{w:World}{A:Around}{E:Value→Shared→Prop}{s:Shared}
theorem qY {sl:Addr}{vs:Value}{n:Nat}{Q:Int×Int×Nat→Shared→Prop}(hs:s.heap.IsSliceOf sl .none .none vs) (ps:IsPart vs (some (-1)))
  (h:Q ((n:Int) - 1,-1,n) s):wpAny (model prog w) A (Builtin.Slice.sliceApplied (.ref sl) (pure (n:Int))) Q E s:=by
 obtain⟨os,hos,hcs,hds⟩:=id hs
 unfold Builtin.Slice.sliceApplied Builtin.Slice.sliceFields
 refine wpAny_bind (wpAny_bind (wpAny_field hos hds (x:=.none) rfl (wpAny_bind (wpAny_field hos hds (x:=.none) rfl (wpAny_bind (wpAny_field hos hds (x:=vs) rfl (wpAny_pure ?_)))))))
 refine wpAny_bind (o9 ps ?_)
 show wpAny _ _ (if((-1:Int) == 0)=true then _ else _) _ _ s
 rw[if_neg (by decide)]
 refine wpAny_bind (slicePart_none (wpAny_bind (slicePart_none (wpAny_bind (wpAny_pure ?_)))))
 show wpAny _ _ (match Builtin.Slice.sliceAdjust none none (-1) (n:Int) with | (lo,hi)=>pure (lo,(-1:Int),Builtin.Slice.slicePlaces lo hi (-1))) _ _ s
 have e:Builtin.Slice.sliceAdjust none none (-1) (n:Int)=((n:Int) - 1,-1):=rfl
 rw[e]
 show wpAny _ _ (pure ((n:Int) - 1,(-1:Int),Builtin.Slice.slicePlaces ((n:Int) - 1) (-1) (-1))) _ _ s
 have e2:Builtin.Slice.slicePlaces ((n:Int) - 1) (-1) (-1)=n:=by
  unfold Builtin.Slice.slicePlaces
  rw[if_neg (by decide)]
  split
  ·rw[show(- -1:Int)=1 from rfl,Int.ediv_one];omega
  ·omega
 rw[e2]
 exact wpAny_pure h
theorem Fi (xs:Array Value):((List.range xs.size).filterMap fun(m:Nat)=>xs[((xs.size:Int) - 1+(m:Int) * -1).toNat]?).toArray=xs.toList.reverse.toArray:=by
 have h1:(List.range xs.size).filterMap (fun(m:Nat)=>xs[((xs.size:Int) - 1+(m:Int) * -1).toNat]?)=((List.range xs.size).map fun k=>xs.size - 1 - k).filterMap (xs[·]?):=by
  rw[List.filterMap_map]
  congr 1
  funext m
  show xs[((xs.size:Int) - 1+(m:Int) * -1).toNat]? =xs[xs.size - 1 - m]?
  have:((xs.size:Int) - 1+(m:Int) * -1).toNat=xs.size - 1 - m:=by omega
  rw[this]
 rw[h1,PySem.W.krv_range,List.filterMap_reverse,PySem.W.krv_all]
theorem qo {t sl:Addr}{items:Array Value}{vs:Value}{Q:Value→Shared→Prop}(ht:IsTup s.heap t items) (hs:s.heap.IsSliceOf sl .none .none vs) (ps:IsPart vs (some (-1)))
  (h:Q (.ref s.heap.objs.size) {s with heap:=s.heap.push {cls:=.type "tuple",data:=.seq items.toList.reverse.toArray}})
  (hsz:items.size≤sizeLine):wpAny (model prog w) A (getItem (.ref t) (.ref sl)) Q E s:=by
 have pY:sizeOk (.seq items.toList.reverse.toArray):=by
  show items.toList.reverse.toArray.size≤sizeLine
  rw[List.size_toArray,List.length_reverse,Array.length_toList]
  exact hsz
 obtain⟨os,hos,hcs,hds⟩:=id hs
 have MM:s.TypeIs (.ref sl) "slice":=⟨os,hos,hcs⟩
 unfold getItem
 try with_reducible refine wpAny_holding ?_
 first | refine wpAny_bind (wpAny_pure ?_) | skip
 refine wpAny_bind (wpAny_sequenceKey ht.typeIs (by decide) ?_)
 refine wpAny_bind (wpAny_callSpecial?_slot (name:=Str.ofString "__getitem__") ht.typeIs PyProof.Rows.slot_tuple_getitem
  (wpAny_call_entry PyProof.Rows.slot_tuple_getitem ht.typeIs entry_tuple_getitem ?_ (args_tuple_getitem _ _)))
 show wpAny _ _ (Builtin.Tuple.tupleItemsOf (.ref t) >>= _) _ _ s
 refine wpAny_bind (tupleItemsOf_ ht ?_)
 refine wpAny_bind (wpAny_typeOf MM ?_)
 rw[if_pos (by decide)]
 refine wpAny_bind (qY hs ps ?_)
 have hno:¬((((items.size:Int) - 1) == 0 && (-1:Int) == 1 && items.size == items.size)=true):=by
  intro q
  rw[Bool.and_eq_true,Bool.and_eq_true] at q
  exact absurd q.1.2 (by decide)
 show wpAny _ _ (if(((items.size:Int) - 1) == 0 && (-1:Int) == 1 && items.size == items.size)=true then _ else _) _ _ s
 rw[if_neg hno,Fi]
 first
  | exact wpAny_bind (m:=Builtin.Tuple.tupleExact _) (wpAny_newObj_type (wpAny_pure ⟨_,rfl,wpAny_pure h⟩) pY)
  | exact wpAny_bind (m:=Builtin.Tuple.tupleExact _) (wpAny_newObj_type (wpAny_bind (wpAny_pure (wpAny_pure ⟨_,rfl,wpAny_pure h⟩))) pY)
  | exact wpAny_bind (wpAny_bind (m:=Builtin.Tuple.tupleExact _) (wpAny_newObj_type (wpAny_pure (wpAny_pure ⟨_,rfl,wpAny_pure h⟩)) pY))
  | exact wpAny_bind (wpAny_bind (m:=Builtin.Tuple.tupleExact _) (wpAny_newObj_type (wpAny_pure ⟨_,rfl,wpAny_pure h⟩) pY))
end
end HT
namespace L2
open PySem PySem.Spec PyProof.Rows
section
variable {X:Cx}{e st:Expr}{te ts:TE}{pos p2:Pos}
noncomputable def Xq (X:Cx) (r:V→Hp→VK→Prop):Prop:=
 ∀(pins:List (Addr×Obj)) (s:Shared) (σ:St) (H:Hp) (x:V) (v vs:Value) (sl:Addr) (Q:VK),Inv X pins σ H s→RelV x v→s.heap.IsSliceOf sl .none .none vs→IsPart vs (some (-1))→r x H Q→
  ∃T id,typeLookup (.type T) "__getitem__" =pure (some (.builtin id))∧s.TypeIs v T∧wpAny (model X.prog X.w) X.A (getItem v (.ref sl)) (EP X pins σ Q) X.xe s
noncomputable def Sv (r:V→Hp→VK→Prop) (te:TE) (ts:TO):TE:=fun σ H Q=>te σ H fun x H1=>ts σ H1 fun u H3=>u=some (-1)∧r x H3 Q
theorem Dt {r:V→Hp→VK→Prop}(hr:Xq X r) (he:PE X e te) (hs:PE X st ts):PE X (.Subscript e (.Slice none none (some st) p2) pos) (Sv r te (IE ts)):=by
 intro pins s σ H Q I h
 refine Subscript_ (eU (he pins s σ H _ I h) fun v s1 ⟨x,H1,I1,r1,q1⟩=>?_)
 refine wpAny_Slice ?_
 rw[evalPart_none]
 refine wpAny_pure ?_
 refine wpAny_pure ?_
 refine eU (Cg hs pins s1 σ H1 _ I1 q1) fun vu s3 ⟨u,H3,I3,pu,q3⟩=>?_
 obtain⟨rfl,q3⟩:=q3
 have I4:Inv X pins σ H3 {s3 with heap:=s3.heap.push {cls:=.type "slice",data:=.fields #[.none,.none,vu]}}:=I3.kept (t':=s3.toks) fun b ob q=>Heap.get?_push_of_some _ q
 obtain⟨T,id,hT,ht,hg⟩:=hr pins {s3 with heap:=s3.heap.push {cls:=.type "slice",data:=.fields #[.none,.none,vu]}} σ H3 x v vu s3.heap.objs.size Q I4 r1 (Heap.IsSliceOf.new ..) pu q3
 show wpAny (model X.prog X.w) X.A (subscriptTail e (.Slice none none (some st) p2) v (.ref s3.heap.objs.size)) (EP X pins σ Q) X.xe {s3 with heap:=s3.heap.push {cls:=.type "slice",data:=.fields #[.none,.none,vu]}}
 exact tail_any (ops:=[v,.ref s3.heap.objs.size]) ht hT hg (by with_unfolding_all rfl)
noncomputable def yC (d:D):Option U:=match d with
 | .tup ds=>some (.t (.tup ds.reverse))
 | .lst ds=>some (.m (.lst ds.reverse))
 | _=>none
theorem bw.rev {F:Hp}:∀{vs:List V}{ds:List D},bw F vs ds→bw F vs.reverse ds.reverse
 | _,_,.nil=>.nil
 | _,_,.cons r rs=>by rw[List.reverse_cons,List.reverse_cons];exact(bw.rev rs).append (.cons r .nil)
theorem Vals.rev {xs:List V}{us:List Value}(r:Vals xs us):Vals xs.reverse us.reverse:=by
 induction r with
 | nil=>exact .nil
 | cons r _ ih=>rw[List.reverse_cons,List.reverse_cons];exact ih.append (.cons r .nil)
noncomputable def NF:V→Hp→VK→Prop:=fun x H Q=>∃F d u,Sub F H∧Rep F x d∧yC d=some u∧∀v F' H',gD F H F' H'→Sub F' H'→zD H F' H' v u→Q v H'
theorem NG:Xq X NF:=by
 intro pins s σ H x v vs sl Q I rx hs ps ⟨F,d,u,sb,r,hf,q⟩
 cases d with
 | tup ds=>
  cases hf
  obtain⟨a,xs,rfl,fa,ha,rs⟩:=sb.kh r
  cases rx
  obtain⟨its,rv,ht,hz⟩:=I.tuple (.inl ha)
  have hlen:its.toArray.size=xs.length:=by rw[List.size_toArray];exact rv.length.symm
  refine⟨"tuple",_,PyProof.Rows.slot_tuple_getitem.lookup,ht.typeIs,?_⟩
  refine HT.qo ht hs ps ?_ (by rw[hlen];exact hz)
  refine⟨.ref s.heap.objs.size,_,I.laid (t':=s.toks) (o:=.tup xs.reverse) (fun b ob q=>Heap.get?_push_of_some _ q) (Nat.le_refl _) ?_,rfl,?_⟩
  ·exact⟨by rw[List.length_reverse];exact hz,_,rv.rev,IsTup.new _ _⟩
  ·have hp:=I.hok.fresh (Nat.le_refl _)
   exact q _ _ _ (gD.root sb hp _) (sb.uG hp) (.tup aW (rs.rev.le (ni (sb.fresh hp))))
 | lst ds=>
  cases hf
  obtain⟨a,xs,rfl,fa,ha,rs⟩:=sb.jl r
  cases rx
  obtain⟨its,rv,ht,hz⟩:=I.list (.inl ha)
  have hlen:=rv.length
  refine⟨"list",_,slot_list_getitem.lookup,ht.isList.typeIs,?_⟩
  refine wpAny_getItem_list_slice ht.isList hs .none .none ps (by simp) ?_ (by rw[List.size_toArray] <;> omega)
  rw[PySem.W.krv_pick]
  have hp:=I.hok.fresh (Nat.le_refl _)
  refine⟨.ref s.heap.objs.size,_,I.laid (t':=s.toks) (o:=.lst xs.reverse) (fun b ob q=>Heap.get?_push_of_some _ q) (Nat.le_refl _) ?_,rfl,?_⟩
  ·exact⟨by rw[List.length_reverse];exact hz,_,0,rv.rev,Heap.get?_push_size _ rfl⟩
  ·exact q _ F _ (gD.obj hp _) (sb.same (gD.obj (F:=F) hp _).same) ⟨_,rfl,hp,sb.fresh hp,_,aW,rs.rev⟩
 | str z=>cases hf
 | cI=>cases hf
 | bl b=>cases hf
 | int b=>cases hf
noncomputable def HE (g:GD) (gs:GD):GE:=fun S=>(g S).bind fun p=>(gs p.2).bind fun l=>match l.1 with
 | .int i=>if i=-1 then(yC p.1).map fun u=>(u,l.2) else none
 | _=>none
theorem KG {g gs:GD}(he:JD X e g) (hs:JD X st gs):JE X (.Subscript e (.Slice none none (some st) p2) pos) (HE g gs):=⟨fun B=>(Dt NG (he.h B) (hs.h B)).imp fun σ H Q ⟨S,F,u,S',R,hg,q⟩=>by
 obtain⟨⟨d,S1⟩,h1,hg⟩:=ak hg
 obtain⟨⟨l,S2⟩,h2,hg⟩:=ak hg
 cases l <;> try (cases hg)
 rename_i i
 dsimp only at hg
 by_cases hi:i=-1
 ·rw[if_pos hi] at hg
  subst hi
  obtain⟨u',h4,hg⟩:=aB hg
  cases hg
  exact⟨S,F,d,S1,R,h1,fun v F1 H1 R1 st1 r1=>⟨S1,F1,_,_,R1,h2,fun v2 F2 H2 R2 st2 r2=>⟨_,ki r2,rfl,F2,d,_,R2.sub,r1.le st2.ext.le,h4,fun v F4 H4 n s4 r4=>q v F4 H4 (R2.new n s4) ((st1.trans st2).trans n.step) (r4.Bc R2 (st1.trans st2))⟩⟩⟩
 ·rw[if_neg hi] at hg;cases hg⟩
@[simp] theorem Sx (g gs:GD) (S:SS):HE g gs S=(g S).bind fun p=>(gs p.2).bind fun l=>match l.1 with
 | .int i=>if i=-1 then(yC p.1).map fun u=>(u,l.2) else none
 | _=>none:=rfl
end
noncomputable def KH:List Int→Int
 | []=>0
 | [a]=>a
 | a :: b :: r=>max a (KH (b :: r))
noncomputable def KI:List Int→Int
 | []=>0
 | [a]=>a
 | a :: b :: r=>min a (KI (b :: r))
noncomputable def NH:List D→Option U
 | [.lst ds]=>(zN ds).bind fun bs=>if bs=[] then none else some (.t (.int (KH bs)))
 | _=>none
noncomputable def NI:List D→Option U
 | [.lst ds]=>(zN ds).bind fun bs=>if bs=[] then none else some (.t (.int (KI bs)))
 | _=>none
section
variable {X:Cx}
end
@[simp] theorem Pq (ds:List D):NH [.lst ds]=(zN ds).bind fun bs=>if bs=[] then none else some (.t (.int (KH bs))):=rfl
@[simp] theorem Pr (ds:List D):NI [.lst ds]=(zN ds).bind fun bs=>if bs=[] then none else some (.t (.int (KI bs))):=rfl
end L2
namespace HT
open PySem PySem.Spec PyProof.Rows
section
variable {prog:Program}{w:World}{A:Around}{E:Value→Shared→Prop}{s:Shared}
end
end HT
namespace L2
open PySem PySem.Spec PyProof.Rows
section
variable {X:Cx}{pos:Pos}
noncomputable def Sz (n:Nat) (bs:IL):GB:=fun d S=>match d with
 | .lst ds=>if ds.length=n then bs ds S else none
 | _=>none
end
@[simp] theorem SA (n:Nat) (bs:IL) (ds:List D) (S:SS):Sz n bs (.lst ds) S=if ds.length=n then bs ds S else none:=rfl
noncomputable def NJ:List D→Option U
 | [.bl a,.bl b]=>some (.t (.bl (a == b)))
 | _=>none
@[simp] theorem Pu (a b:Bool):NJ [.bl a,.bl b]=some (.t (.bl (a == b))):=rfl
end L2
end
section
set_option Elab.async false
set_option linter.all false
set_option maxRecDepth 100000
namespace L2
open PySem PySem.Spec PyProof.Rows PySem.Calls
theorem gF:Slot "set_iterator" "__next__" "set_iterator.__next__":=
 .of (owner:="set_iterator") (n:="__next__") (by rw[typeLookup_type,builtinLookup_eq_fast];kernel_rfl) (by decide +kernel) (by decide +kernel) (by decide +kernel)
  (by first | exact .inl (by decide +kernel) | exact .inr (by decide +kernel)) (by rw[isSubtype_type];kernel_rfl)
theorem qZ:entryFor table "set_iterator.__next__" =some Builtin.«set_iterator.__next__»:=entryFor_of_tree (by kernel_rfl)
theorem yD:entryFor table "set.__iter__" =some Builtin.«frozenset.__iter__»:=entryFor_alias (id':="frozenset.__iter__") (by kernel_rfl) rfl (by decide +kernel) (by kernel_rfl)
theorem sR:Manifest.owners.lookup (String.ofList ['r','o','t','a','r','e','t','i','_','t','e','s'].reverse)=some Manifest.sig_set_iterator:=by kernel_rfl
theorem tW (a:Value):argsOk "set_iterator.__next__" ⟨[a],[]⟩:=by
 unfold argsOk;rw[signature?_of (id:="set_iterator.__next__") (n:=['_','_','t','x','e','n','_','_']) (o:=['r','o','t','a','r','e','t','i','_','t','e','s']) (by kernel_rfl) sR];kernel_rfl
noncomputable def sS (h:Heap) (a:Addr) (ep:Nat) (t:SetTable):Prop:=∃o,h.get? a=some o∧o.ExactSet∧o.data= .set #[] ep t∧t.fits 0=true
theorem sS.typeIs {s:Shared}{a:Addr}{ep:Nat}{t:SetTable}(h:sS s.heap a ep t):s.TypeIs (.ref a) "set":=let⟨o,h1,h2,_⟩:=h;⟨o,h1,h2.1⟩
section
variable {prog:Program}{w:World}{A:Around}{E:Value→Shared→Prop}{s:Shared}{a I:Addr}{ep:Nat}{t:SetTable}
theorem Bg {Q:Bool→Shared→Prop}(hm:sS s.heap a ep t) (h:Q false s):wpAny (model prog w) A (Builtin.List.listLengthHint (.ref a)) Q E s:=by
 unfold Builtin.List.listLengthHint
 refine wpAny_bind (wpAny_specialOf hm.typeIs PySem.F.slot_set_len.lookup ?_)
 generalize hid:("set.__len__":String)=Zy
 wp_delta
 rw[show splitId Zy=some ("set","__len__") from by subst hid;decide +kernel]
 subst hid
 refine wpAny_bind (wpAny_isInstance (T:="set") (b:=true) hm.typeIs (by rw[isSubtype_type];kernel_rfl) ?_)
 refine wpAny_ite_split (fun hab=>absurd hab (by decide)) (fun _=>?_)
 refine wpAny_ite_split (fun _=>?_) (fun hab=>absurd (by decide +kernel) hab)
 refine wpAny_bind (wpAny_typeOf hm.typeIs ?_)
 exact wpAny_pure h
theorem mY:Slot "set_iterator" "__iter__" "set_iterator.__iter__":=
 .of (owner:="set_iterator") (n:="__iter__") (by rw[typeLookup_type,builtinLookup_eq_fast];kernel_rfl) (by decide +kernel) (by decide +kernel) (by decide +kernel)
  (by first | exact .inl (by decide +kernel) | exact .inr (by decide +kernel)) (by rw[isSubtype_type];kernel_rfl)
theorem q8:entryFor table "set_iterator.__iter__" =some Builtin.«dict_keyiterator.__iter__»:=entryFor_alias (id':="dict_keyiterator.__iter__") (by kernel_rfl) rfl (by decide +kernel) (by kernel_rfl)
theorem tX (a:Value):argsOk "set_iterator.__iter__" ⟨[a],[]⟩:=by
 unfold argsOk;rw[signature?_of (id:="set_iterator.__iter__") (n:=['_','_','r','e','t','i','_','_']) (o:=['r','o','t','a','r','e','t','i','_','t','e','s']) (by kernel_rfl) sR];kernel_rfl
noncomputable def zV (a:Addr) (ep:Nat):Obj:={cls:=.type "set_iterator",data:=.fields #[.int 0 0,.int 0 0,.ref a,.int 0 0,.int ep 0]}
theorem Bh {Q:Value→Shared→Prop}(hm:sS s.heap a ep t) (hQ:Q (.ref s.heap.objs.size) {s with heap:=s.heap.push (zV a ep)}):wpAny (model prog w) A (pyIter (.ref a)) Q E s:=by
 obtain⟨o,ho,hx,hd,hf⟩:=id hm
 refine wpAny_pyIter_slot hm.typeIs PySem.F.slot_set_iter (wpAny_call_entry PySem.F.slot_set_iter hm.typeIs yD ?_ (PySem.F.args_set_iter_1 _))
 unfold Builtin.«frozenset.__iter__»
 refine wpAny_bind (wpAny_pure ?_)
 refine wpAny_bind ?_
 unfold Builtin.Frozenset.sizeOf
 refine wpAny_bind (wpAny_setEntries_of ho hd hf (wpAny_pure ?_))
 refine wpAny_bind ?_
 unfold setDrawn
 refine wpAny_bind (wpAny_setState_of ho hd hf ?_)
 unfold setsByText
 refine wpAny_bind (wpAny_bind (wpAny_askSetting (wpAny_pure (wpAny_pure ?_))))
 refine wpAny_ite_split (fun h=>?_) fun _=>?_
 ·exact absurd (show(!t.plain && decide (0 > 1))=true from(Bool.and_eq_true_iff.mp h).2) (by cases t.plain <;> decide)
 refine wpAny_bind (wpAny_pure ?_)
 refine wpAny_bind (wpAny_setEpoch_of ho hd hf ?_)
 refine wpAny_bind (wpAny_newObj_type (wpAny_pure ⟨_,rfl,"set_iterator",_,⟨_,Heap.get?_push_size _ rfl,rfl⟩,gF.lookup,hQ⟩))
noncomputable def yE (h:Heap) (I a:Addr) (ep:Nat):Prop:=∃o,h.get? I=some o∧o.cls= .type "set_iterator"∧o.data= .fields #[.int 0 0,.int 0 0,.ref a,.int 0 0,.int ep 0]
theorem yE.typeIs (h:yE s.heap I a ep):s.TypeIs (.ref I) "set_iterator":=let⟨o,h1,h2,_⟩:=h;⟨o,h1,h2⟩
theorem Bj {Q:Option Value→Shared→Prop}(hh:A.handled=none) (hit:yE s.heap I a ep) (hm:sS s.heap a ep t)
  (hQ:∀h',Heap.ExtBut I s.heap h'→Q none {s with heap:=h'}):wpAny (model prog w) A (pyNext (.ref I)) Q E s:=by
 obtain⟨oi,Xr,hci,hdi⟩:=id hit
 obtain⟨o,ho,hx,hd,hf⟩:=id hm
 unfold pyNext
 refine wpAny_bind (wpAny_attempt (wpAny_callSpecial?_slot (name:=Str.ofString "__next__") hit.typeIs gF
  (wpAny_call_entry gF hit.typeIs qZ ?_ (tW _))))
 unfold Builtin.«set_iterator.__next__»
 refine wpAny_bind (wpAny_pure ?_)
 refine wpAny_bind (wpAny_fieldsOf Xr hdi ?_)
 refine wpAny_bind (wpAny_setEntries_of ho hd hf ?_)
 refine wpAny_ite_split (fun h=>absurd h (by decide)) fun _=>?_
 refine wpAny_bind ?_
 unfold setNext
 refine wpAny_bind (wpAny_setState_of ho hd hf ?_)
 unfold setsByText
 refine wpAny_bind (wpAny_bind (wpAny_askSetting (wpAny_pure ?_)))
 have stop:wpAny (model prog w) A.in1 (do
     setField (Value.ref I,([]:List Value)).fst 2 Value.none
     let e ←newExc (Value.type "StopIteration") []
     (raiseNew e:Sem Fin)) (fun fin s'=>∃v,fin=Fin.done (Flow.ret v)∧wpAny (model prog w) A (pure (some v)) Q E s') (fun e s'=>wpAny (model prog w) A (do
         let b ←isInstance e (Value.type "StopIteration")
         if b=true then pure none else throw e) Q E s') s:=by
  refine wpAny_bind (wpAny_setField Xr hdi (by simp) ?_)
  refine wpAny_bind ?_
  simp only[newExc,newTuple]
  refine wpAny_bind (wpAny_newObj_type ?_ (by size_fits))
  refine wpAny_bind (m:=firstArgMember _ _) (wpAny_of_eq (a:=Value.none) (by first | rfl | (simp only[firstArgMember];rfl)) ?_)
  refine wpAny_newObj_type ?_ (by size_fits)
  simp only[raiseNew]
  refine wpAny_bind (wpAny_handled ?_)
  rw[show A.in1.handled=none from hh]
  refine wpAny_bind (wpAny_pure (wpAny_throw ?_))
  refine wpAny_bind (wpAny_isInstance (T:="StopIteration") (b:=true) ⟨_,Heap.get?_push_size _ rfl,rfl⟩ isSubtype_stop ?_)
  exact wpAny_pure (hQ _ (((Heap.SameBut.update ..).extBut.push _).push _))
 refine wpAny_ite_split (fun hb=>?_) fun hb=>?_
 ·refine wpAny_ite_split (fun h=>absurd h (by simp)) fun _=>?_
  refine wpAny_bind ?_
  unfold setWalk
  refine wpAny_bind (wpAny_setState_of ho hd hf ?_)
  unfold setsByText
  refine wpAny_bind (wpAny_bind (wpAny_askSetting (wpAny_pure ?_)))
  refine wpAny_ite_split (fun _=>?_) fun h=>absurd hb h
  refine wpAny_bind (wpAny_askSetting (wpAny_pure ?_))
  exact wpAny_pure stop
 ·refine wpAny_ite_split (fun h=>?_) fun _=>?_
  ·exact absurd (show(!t.plain && decide (0 > 1))=true from h) (by cases t.plain <;> decide)
  refine wpAny_bind ?_
  refine wpAny_mono (Q:=fun _ s'=>s'=s) (E:=fun _ _=>False) ?_ (fun _ s' e=>?_) fun _ _ h=>h.elim
  ·show wpAny _ _ (if(!t.led && !(#[]:Array (Int×Value)).isEmpty)=true then _ else _) _ _ _
   refine wpAny_ite_split (fun h=>?_) fun _=>wpAny_pure rfl
   exact absurd (show(!t.led && false)=true from h) (by cases t.led <;> decide)
  ·subst e
   exact wpAny_pure stop
theorem Du:PySem.W.KdlSrc prog w "set" a a 0 (fun _ _=>False) (fun h=>sS h a ep t) where
 type:=fun _ hm=>hm.typeIs
 there:=fun _ ⟨_,h,_⟩=>⟨Heap.lt_size h,Heap.lt_size h⟩
 keep:=fun _ _ ⟨o,h,r⟩ hk=>⟨o,hk a (.inl rfl) o h,r⟩
 notList:=by decide
 notTuple:=by decide
 hint:=fun _ _ _ _ hm hq=>Bg hm hq
 iter:=fun _ s hh hm=>⟨zV a ep,fun _ h=>yE h s.heap.objs.size a ep∧sS h a ep t,(fun _ _ hq=>Bh hm hq),{
  sub:=fun b hb=>by simp at hb;simp[hb]
  frame:=fun _ _ _ st hk=>⟨let⟨o,h,r⟩:=st.1;⟨o,hk _ (by simp) o h,r⟩,let⟨o,h,r⟩:=st.2;⟨o,hk _ (by simp) o h,r⟩⟩
  item:=fun i s Q E hi=>absurd hi (Nat.not_lt_zero _)
  done:=fun s Q E st hQ=>Bj hh st.1 st.2 fun h' he=>hQ h' s.toks fun b o hb e=>he b o (fun h=>hb (by simp[h])) e
  self:=fun _ s Q E st hQ=>by
   refine wpAny_pyIter_slot st.1.typeIs mY (wpAny_call_entry mY st.1.typeIs q8 ?_ (tX _))
   show wpAny _ _ (ret (.ref _)) _ _ s
   exact wpAny_pure ⟨_,rfl,"set_iterator",_,st.1.typeIs,gF.lookup,hQ⟩},⟨⟨_,Heap.get?_push_size _ rfl,rfl,rfl⟩,let⟨o,h,r⟩:=hm;⟨o,Heap.get?_push_of_some _ h,r⟩⟩⟩
theorem yF {Q:Value→Shared→Prop}(hh:A.handled=none) (hm:sS s.heap a ep t)
  (h:∀(h1 h':Heap) (tk n:Nat),(∀b o,s.heap.get? b=some o→h1.get? b=some o)→(∀b o,h1.get? b=some o→h'.get? b=some o)→h'.get? h1.objs.size=some (seqObj "list" #[] n)→Q (.ref h1.objs.size) {s with heap:=h',toks:=tk}):
  wpAny (model prog w) A (call (.builtin "sorted") [.ref a]) Q E s:=by
 refine call_function_entry kind_sorted plain_sorted entry_sorted (args_sorted1 _) ?_
 unfold Builtin.«sorted»
 refine wpAny_bind (m:=checkCount "sorted" 1 1 _) (wpAny_pure ?_)
 refine wpAny_bind (PySem.W.kdu_collect (A:=A.in1) (Du (ep:=ep) (t:=t)) hh hm (Nat.zero_le _) fun h' tk acc hk hacc=>?_)
 obtain rfl:acc=#[]:=Array.eq_empty_of_size_eq_zero hacc.1
 refine wpAny_bind (wpAny_newList ?_ (Nat.zero_le _))
 have Mj:(h'.push (seqObj "list" ([]:List Value).toArray 0)).get? h'.objs.size=some (seqObj "list" ([]:List Value).toArray 0):=Heap.get?_push_size _ rfl
 show wpAny _ _ _ _ _ {s with heap:=h'.push (seqObj "list" ([]:List Value).toArray 0),toks:=tk}
 refine wpAny_bind (wpAny_holding (wpAny_call_entry slot_list_sort ⟨_,Mj,rfl⟩ entry_list_sort (list_sort_tree (ns:=[]) Mj (by constructor) (by decide) fun out ns' a1 a2 a3=>⟨_,rfl,?_⟩) (args_list_sort _)))
 refine wpAny_pure ⟨_,rfl,?_⟩
 obtain rfl:out=#[]:=by
  have:=a2.eq_nil
  subst this
  have e:out.toList=[]:=by cases hh:out.toList with | nil=>rfl | cons x r=>rw[hh] at a1;cases a1
  simpa using e
 obtain⟨e,he⟩:=sortedHeap_at (out:=#[]) Mj
 exact h _ _ tk e hk (fun b o hb=>by
  have:=Heap.lt_size hb
  rw[sortedHeap_old (Nat.ne_of_lt this) (by rw[size_push'];exact Nat.lt_succ_of_lt this)]
  exact Heap.get?_push_of_some _ hb) he
end
noncomputable def ur:List D→Option U
 | [.lst []]=>some (.m (.lst []))
 | _=>none
theorem Bk {d:D}{u:U}(h:ur [d]=some u):d= .lst []∧u= .m (.lst []):=by
 cases d with
 | lst ds=>
  cases ds with
  | nil=>cases h;exact⟨rfl,rfl⟩
  | cons=>cases h
 | _=>cases h
section
variable {X:Cx}{a:Expr}{pos p p1 p2:Pos}{ga:GD}
theorem Bl (hc:X.calm=true) (Zz:Gl X "sorted") (hm1:X.mg "sorted" =none) (LL:Gl X "set") (hm2:X.mg "set" =none) (ha:JD X a ga)
  (hs1:starEach [.Call (.Name "set" p1) [a] [] p2] X.env=(false,eval (.Call (.Name "set" p1) [a] [] p2) X.env) :: starEach [] X.env:=by rfl)
  (hs2:starEach [a] X.env=(false,eval a X.env) :: starEach [] X.env:=by rfl):
  JE X (.Call (.Name "sorted" p) [.Call (.Name "set" p1) [a] [] p2] [] pos) (eP ur (aa ga au)):=⟨fun B=>by
 rintro pins s σ H Q I ⟨S,F,u,S',R,hg,q⟩
 obtain⟨⟨dl,S1⟩,h1,hg⟩:=ak hg
 obtain⟨w',h2,hg⟩:=aB hg
 cases hg
 obtain⟨⟨d,S2⟩,h3,h1⟩:=ak h1
 obtain⟨⟨dr,S3⟩,h4,h1⟩:=aB h1
 cases h4
 cases h1
 obtain⟨rfl,rfl⟩:=Bk h2
 refine wpAny_Call_Name_kw (qK I Zz hm1 PyProof.Rows.Boot.sorted ?_ (by decide) (by decide))
 refine PyProof.Rows.callWith_builtin1 ?_ hs1 rfl
 rw[hs1]
 show wpAny _ _ (spliced ((false,eval (.Call (.Name "set" p1) [a] [] p2) X.env) :: backTo pos (starEach [] X.env))) _ _ s
 refine Calls.spliced_cons ?_
 refine wpAny_Call_Name_kw (qK I LL hm2 PyProof.Rows.Boot.set ?_ (by decide) (by decide))
 refine PyProof.Rows.callWith_type1 (eU (lY (ha.h B) uA hs2 p2 pins s σ H (fun vs H1=>∃v F1,vs=[v]∧Rel X.K B S2 σ F1 H1∧Step S S2 σ F H F1 H1∧Rep F1 v (.lst [])) I ⟨S,F,_,S2,R,h3,fun v F1 H1 R1 st1 r1=>⟨v,F1,rfl,R1,st1,r1⟩⟩) ?_) hs2 rfl
 rintro us s1 ⟨vs,H1,I1,r1,v,F1,rfl,R1,st1,rd⟩
 obtain⟨a',vs',rfl,fa,hla,tT⟩:=R1.sub.jl rd
 cases tT
 obtain⟨u',rfl,ru⟩:=vals1 r1
 cases ru
 obtain⟨its,rv,pl,hz⟩:=I1.list (.inl hla)
 cases rv
 refine uU (zs:=[]) (I1.ok.hd hc) pl.isList (fun i v hv=>by cases hv) (by unfold scanBound;decide) fun h' tk hS hk=>?_
 refine Calls.spliced_nil ?_
 obtain⟨o,es,ep,t,ho,hex,hd,hel,hmem,hbd,hf,hn⟩:=hS
 obtain rfl:es=#[]:=Array.eq_empty_of_size_eq_zero hn
 refine yF (I1.ok.hd hc) ⟨o,ho,hex,hd,hf⟩ fun g1 g2 Xs n k1 k2 k3=>?_
 have J:=I1.kept (h':=g1) (t':=Xs) fun b o e=>k1 b o (hk b o (Heap.lt_size e) e)
 have hp:=J.hok.fresh (Nat.le_refl _)
 have n1:=gD.obj (F:=F1) hp (.lst [])
 have s4:=R1.sub.same n1.same
 exact⟨.ref g1.objs.size,_,J.laid (a:=g1.objs.size) (o:=.lst []) (h':=g2) (t':=Xs) k2 (Nat.le_refl _) ⟨Nat.zero_le _,[],n,.nil,k3⟩,rfl,
  q _ F1 _ (R1.new n1 s4) (st1.trans n1.step) (zD.Bc (u:=.m (.lst [])) R1 st1 ⟨_,rfl,hp,R1.sub.fresh hp,[],aW,.nil⟩)⟩⟩
end
end L2
end
section
set_option Elab.async false
set_option linter.all false
set_option maxRecDepth 100000
namespace L2
open PySem PySem.Spec PyProof.Rows
section
variable (S:SS) (d e:D) (o:MO) (i j:Nat) (g ga gb gc:GD) (ge:GE) (q q1 q2:GT) (gA:GA) (gu:GU) (a b:GS) (f f':List D→Option U) (fm:FM) (bd:GB) (gi:GI)
@[simp] theorem SD:aC i S=match S[i]? with | some (some (.t d))=>some (.t d,S) | some (some (.s d))=>some (.s d,S) | some (some _)=>some (.v i,S) | _=>none:=rfl
@[simp] theorem ZA:eC d S=some (d,S):=rfl
@[simp] theorem SE:au S=some ([],S):=rfl
@[simp] theorem Pw:aa g gA S=(g S).bind fun p=>(gA p.2).map fun q=>(p.1 :: q.1,q.2):=rfl
@[simp] theorem ZC:eP f gA S=(gA S).bind fun p=>(f p.1).map fun u=>(u,p.2):=rfl
@[simp] theorem ZD:eF ge S=(ge S).bind fun p=>fz p.1 p.2:=rfl
@[simp] theorem ZE:eT g S=(g S).map fun p=>(.t p.1,p.2):=rfl
@[simp] theorem SG:fz (.t d) S=some (d,S):=rfl
@[simp] theorem SH (ds:List D):fz (.m (.lst ds)) S=some (.lst ds,S):=rfl
@[simp] theorem SI:fz (.v i) S=match S[i]? with | some (some (.t d))=>some (d,S) | some (some (.m (.lst ds)))=>some (.lst ds,S.set i (some (.t (.lst ds)))) | _=>none:=rfl
@[simp] theorem ZF:qB g S=(g S).bind fun p=>match p.1 with | .bl k=>some (k,p.2) | _=>none:=rfl
@[simp] theorem SJ:yg q S=(q S).map fun p=>(!p.1,p.2):=rfl
@[simp] theorem SK:kE q1 q2 S=(q1 S).bind fun p=>if p.1 then q2 p.2 else some (false,p.2):=rfl
@[simp] theorem Xu:AU q1 q2 S=(q1 S).bind fun p=>if p.1 then some (true,p.2) else q2 p.2:=rfl
@[simp] theorem ZG:eQ q S=(q S).map fun p=>(.bl p.1,p.2):=rfl
@[simp] theorem Px:uK S=some (true,S):=rfl
@[simp] theorem Xv:Y3 f f' ga gb gc S=(ga S).bind fun p=>(gb p.2).bind fun q=>match f [p.1,q.1] with
 | some (.t (.bl k))=>if k then(gc q.2).bind fun r=>match f' [q.1,r.1] with
   | some (.t (.bl k'))=>some (.bl k',r.2)
   | _=>none
  else some (.bl false,q.2)
 | _=>none:=rfl
@[simp] theorem Xw (g1 g2:GE):Y0 q g1 g2 S=(q S).bind fun p=>if p.1 then g1 p.2 else g2 p.2:=rfl
@[simp] theorem SM:fL S=some (.nx S):=rfl
@[simp] theorem jU:bA a b S=(a S).bind fun o=>match o with | .nx S1=>b S1 | o=>some o:=rfl
@[simp] theorem SN:dj i ge S=(ge S).bind fun p=>match p.1 with | .m o=>(oM i (.m o) p.2).map .nx | u=>(fz u p.2).bind fun q=>(oM i (.t q.1) q.2).map .nx:=rfl
@[simp] theorem ig (u:U):oM i u S=match S[i]? with | some (some (.b _))=>none | some _=>some (S.set i (some u)) | none=>none:=rfl
@[simp] theorem Py:wY ge S=(ge S).map fun p=>.nx p.2:=rfl
@[simp] theorem SO:cC ge S=(ge S).bind fun p=>match p.1 with
 | .v i=>match p.2[i]? with
  | some (some (.t d))=>some (.rt (.t d) p.2)
  | some (some (.m o))=>some (.rt (.m o) (p.2.set i none))
  | _=>none
 | .s _=>none
 | u=>some (.rt u p.2):=rfl
@[simp] theorem Pz:M4 S=some (.rt (.t .cI) S):=rfl
@[simp] theorem Xx:mZ q a b S=(q S).bind fun p=>if p.1 then a p.2 else b p.2:=rfl
@[simp] theorem SQ:RM bd g S=(g S).bind fun p=>(bd p.1 p.2).map .nx:=rfl
@[simp] theorem PB:bName i d S=oM i (.t d) S:=rfl
@[simp] theorem KJ:tU bd gi a S=(gi S).bind fun p=>loop bd a p.1 p.2:=rfl
@[simp] theorem SR:RN g S=(g S).bind fun p=>match p.1 with | .tup ds=>some (ds,p.2) | .lst ds=>some (ds,p.2) | _=>none:=rfl
@[simp] theorem PD:uJ gA S=(gA S).bind fun p=>match p.1 with | [.int j]=>if j < 1000000∧-1000000 < j then some (AR 0 j.toNat,p.2) else none | _=>none:=rfl
@[simp] theorem PF:M6 gA S=(gA S).bind fun p=>match p.1 with | [.int i,.int j]=>if i < 1000000∧-1000000 < i∧j < 1000000∧-1000000 < j then some (AR i (j - i).toNat,p.2) else none | _=>none:=rfl
@[simp] theorem KL:loop bd a [] S=some (.nx S):=rfl
@[simp] theorem SV:bM S=some ([],S):=rfl
@[simp] theorem SW:aP g gu S=(g S).bind fun p=>(gu p.2).map fun q=>(.t p.1 :: q.1,q.2):=rfl
@[simp] theorem SX:fB ge gu S=(ge S).bind fun p=>(gu p.2).map fun q=>(p.1 :: q.1,q.2):=rfl
@[simp] theorem PJ:aU fm gu S=(gu S).bind fun p=>if(slotsOf p.1).Nodup∧cV p.1≤1 then(cU p.2 p.1).bind fun us=>(fm us).bind fun r=>(wb p.1 r.2 p.2).map fun S2=>(r.1,S2) else none:=rfl
@[simp] theorem LQ:cU S []=some []:=rfl
@[simp] theorem KN (u:U) (us:List U):cU S (u :: us)=(resolve S u).bind fun w=>(cU S us).map fun ws=>w :: ws:=rfl
@[simp] theorem PK:resolve S (.t d)=some (.t d):=rfl
@[simp] theorem PL:resolve S (.m o)=some (.b o):=rfl
@[simp] theorem PM (ns:List Int):resolve S (.s ns)=some (.s ns):=rfl
@[simp] theorem PN:resolve S (.v i)=match S[i]? with | some (some (.m o))=>some (.b o) | some (some (.b o))=>some (.b o) | _=>none:=rfl
@[simp] theorem NK:slotsOf []=[]:=rfl
@[simp] theorem SY (us:List U):slotsOf (.t d :: us)=slotsOf us:=rfl
@[simp] theorem S4 (us:List U):slotsOf (.m o :: us)=slotsOf us:=rfl
@[simp] theorem S5 (ns:List Int) (us:List U):slotsOf (.s ns :: us)=slotsOf us:=rfl
@[simp] theorem S6 (us:List U):slotsOf (.v i :: us)=i :: slotsOf us:=rfl
@[simp] theorem NL:cV []=0:=rfl
@[simp] theorem S7 (us:List U):cV (.t d :: us)=cV us:=rfl
@[simp] theorem S8 (us:List U):cV (.m o :: us)=cV us+1:=rfl
@[simp] theorem S9 (ns:List Int) (us:List U):cV (.s ns :: us)=cV us:=rfl
@[simp] theorem Tc (us:List U):cV (.v i :: us)=cV us:=rfl
@[simp] theorem NN:wb [] [] S=some S:=rfl
@[simp] theorem Td (us:List U) (os:List MO):wb (.t d :: us) os S=wb us os S:=by cases os <;> rfl
@[simp] theorem Te (ns:List Int) (us:List U) (os:List MO):wb (.s ns :: us) os S=wb us os S:=by cases os <;> rfl
@[simp] theorem Tf (us:List U) (os:List MO):wb (.m o :: us) (o' :: os) S=wb us os S:=rfl
@[simp] theorem Tg (us:List U) (os:List MO):wb (.v i :: us) (o :: os) S=match S[i]? with | some (some (.m _))=>wb us os (S.set i (some (.m o))) | some (some (.b _))=>wb us os (S.set i (some (.b o))) | _=>none:=rfl
@[simp] theorem Th:cJ i gb S=match S[i]? with | some (some _)=>(gb S).bind fun p=>(match p.2[i]? with | some (some u)=>(qh u p.1).map fun d=>(d,p.2) | _=>none) | _=>none:=rfl
@[simp] theorem Ti:oO i S=match S[i]? with | some (some u)=>(yr u).map fun n=>(.int (n:Nat),S) | _=>none:=rfl
@[simp] theorem ZI (h:List D→MO→Option (D×MO)):eM i h gA S=if Nb S i then(gA S).bind fun p=>yi p.2 i (h p.1) else none:=rfl
@[simp] theorem Tj (gk gv:GD):Dj i gk gv S=(gv S).bind fun p=>match p.2[i]? with | some (some _)=>(gk p.2).bind fun r=>(yi r.2 i fun o=>(uS o r.1 p.1).map fun o'=>(.cI,o')).map fun z=>.nx z.2 | _=>none:=rfl
@[simp] theorem Xy (Ts:List String):Hu Ts g S=(g S).bind fun p=>(eV Ts p.1).map fun b=>(.bl b,p.2):=rfl
@[simp] theorem KO (ds:List D) (k:Int):qh (.t (.tup ds)) (.int k)=iD ds k:=rfl
@[simp] theorem KP (ds:List D) (k:Int):qh (.t (.lst ds)) (.int k)=iD ds k:=rfl
@[simp] theorem KQ (ds:List D) (k:Int):qh (.m (.lst ds)) (.int k)=iD ds k:=rfl
@[simp] theorem KR (ds:List D) (k:Int):qh (.b (.lst ds)) (.int k)=iD ds k:=rfl
@[simp] theorem KS (kvs:List (Key×D)) (k:D):qh (.b (.dct kvs)) k=(keyOf k).bind (cD kvs):=by cases k <;> rfl
@[simp] theorem LR (ns:List Int) (k:Int):qh (.s ns) (.int k)=(iD ns k).map D.int:=rfl
@[simp] theorem PR (k:Int):keyOf (.int k)=some (.inl k):=rfl
@[simp] theorem PU (k:Str):keyOf (.str k)=some (.inr k):=rfl
@[simp] theorem LS (ds:List D):yr (.t (.tup ds))=some ds.length:=rfl
@[simp] theorem LU (ds:List D):yr (.t (.lst ds))=some ds.length:=rfl
@[simp] theorem LV (ds:List D):yr (.m (.lst ds))=some ds.length:=rfl
@[simp] theorem LW (ds:List D):yr (.b (.lst ds))=some ds.length:=rfl
@[simp] theorem NO (ns:List Int):yr (.s ns)=some ns.length:=rfl
@[simp] theorem Xz (C:Int→Int→Bool) (h:Int→Int→D) (x y:Int):EV C h [.int x,.int y]=if C x y then some (.t (h x y)) else none:=rfl
@[simp] theorem NP (x y:Int):iI [.int x,.int y]=some (.t (.int (x+y))):=rfl
@[simp] theorem NQ (x y:Str):iI [.str x,.str y]=if x.length+y.length≤100000 then some (.t (.str (x++y))) else none:=rfl
@[simp] theorem NR (x y:List D):iI [.tup x,.tup y]=if x.length+y.length≤100000 then some (.t (.tup (x++y))) else none:=rfl
@[simp] theorem NS (x y:List D):iI [.lst x,.lst y]=if x.length+y.length≤100000 then some (.m (.lst (x++y))) else none:=rfl
@[simp] theorem Tn (x y:Int):Bd [.int x,.int y]=if((decide (-(2 ^ 64) < x) && decide (x < 2 ^ 64)) || (decide (-(2 ^ 64) < y) && decide (y < 2 ^ 64))) then some (.t (.int (x * y))) else none:=rfl
@[simp] theorem To (x:Int):EW [.int x]=some (.t (.int (-x))):=rfl
@[simp] theorem Tp (ds:List D):dh ds=if ds.length≤100000 then some (.t (.tup ds)) else none:=rfl
@[simp] theorem Tq (ds:List D):gw ds=if ds.length≤100000 then some (.m (.lst ds)) else none:=rfl
@[simp] theorem PV (ds:List D) (k:Int):zg [.tup ds,.int k]=(iD ds k).map .t:=rfl
@[simp] theorem PX (ds:List D) (k:Int):zg [.lst ds,.int k]=(iD ds k).map .t:=rfl
@[simp] theorem XA:wk [d,e]=if cG d≤40 then some (.t (.bl (mz d e))) else none:=rfl
@[simp] theorem XC:Dg [d,e]=if cG d≤40 then some (.t (.bl (!mz d e))) else none:=rfl
@[simp] theorem PY (x y z:Int):Ng [.int x,.int y,.int z]=some (.t (.int (if y < x then(if z < y then z else y) else if z < x then z else x))):=rfl
@[simp] theorem PZ (x y:Int):Ct [.int x,.int y]=some (.t (.int (if y > x then y else x))):=rfl
@[simp] theorem NT (ds:List D):uI [.tup ds]=some (.t (.int ds.length)):=rfl
@[simp] theorem NU (ds:List D):uI [.lst ds]=some (.t (.int ds.length)):=rfl
@[simp] theorem LX (ds:List D):uP [.tup ds]=some (.m (.lst ds)):=rfl
@[simp] theorem LY (ds:List D):uP [.lst ds]=some (.m (.lst ds)):=rfl
@[simp] theorem KU (ds:List D):qV [.tup ds]=some (.t (.tup ds)):=rfl
@[simp] theorem KW (ds:List D):qV [.lst ds]=some (.t (.tup ds)):=rfl
@[simp] theorem Tr (ds:List D):E9 [.lst ds]=(jC ds).map fun bs=>.t (.bl (bs.all id)):=rfl
@[simp] theorem Tt (ds:List D):RY [.lst ds]=(jC ds).map fun bs=>.t (.bl (bs.any id)):=rfl
@[simp] theorem yG:mX [d]=if AV d then some (.t (.str (toPy d).shown)) else none:=rfl
@[simp] theorem yH (x y:Str):mz (.str x) (.str y)=(x == y):=by simp[mz]
@[simp] theorem P0 (x y:Int):mz (.int x) (.int y)=(x == y):=by simp[mz]
@[simp] theorem P1 (x:Str):cG (.str x)=0:=by simp[cG]
@[simp] theorem P4 (x:Int):cG (.int x)=0:=by simp[cG]
@[simp] theorem Tu (h:MO→Option (D×MO)):yi S i h=match S[i]? with | some (some (.m o))=>(h o).map fun r=>(r.1,S.set i (some (.m r.2))) | some (some (.b o))=>(h o).map fun r=>(r.1,S.set i (some (.b r.2))) | _=>none:=rfl
@[simp] theorem XD:Nb S i=match S[i]? with | some (some (.m (.lst _)))=>true | some (some (.b (.lst _)))=>true | _=>false:=rfl
@[simp] theorem LZ (kvs:List (Key×D)) (k:D):uS (.dct kvs) k d=(keyOf k).bind fun kk=>if kvs.length < 100000 then some (.dct (putD kvs kk d)) else none:=rfl
@[simp] theorem L0 (ds:List D) (k:Int):uS (.lst ds) (.int k) d=(ze ds.length k).map fun j=>.lst (ds.set j d):=rfl
@[simp] theorem NV (ds:List D):hAppend [d] (.lst ds)=if ds.length < 100000 then some (.cI,.lst (ds++[d])) else none:=rfl
@[simp] theorem L1:aA [] S=some []:=by cases S <;> rfl
@[simp] theorem P5 (us:List U) (o2:MO):aA (.b o2 :: us) (some (.b o) :: S)=(aA us S).map fun os=>o :: os:=rfl
@[simp] theorem Cy (us:List U) (x:Option U):aA (.t d :: us) (x :: S)=aA us S:=by cases x <;> rfl
@[simp] theorem P6 (ns:List Int) (us:List U) (x:Option U):aA (.s ns :: us) (x :: S)=aA us S:=by cases x <;> rfl
end
structure ia where
 c:Int
 l:Int
 n:Int
noncomputable def dB (t:ia):List (Key×D):=[(.inr "cell",.int t.c),(.inr "left",.int t.l),(.inr "turn",.int t.n)]
noncomputable def rq:List (Key×D)→Option ia
 | [(k1,.int c),(k2,.int l),(k3,.int n)]=>if k1= .inr "cell"∧k2= .inr "left"∧k3= .inr "turn" then some ⟨c,l,n⟩ else none
 | _=>none
@[simp] theorem KY (t:ia):rq (dB t)=some t:=by simp[rq,dB]
theorem zW {kvs:List (Key×D)}{t:ia}(h:rq kvs=some t):kvs=dB t:=by
 unfold rq at h
 split at h
 ·obtain⟨⟨rfl,rfl,rfl⟩,rfl⟩:=bX h
  rfl
 ·cases h
@[simp] theorem Tv (t:ia):cD (dB t) (.inr "cell")=some (.int t.c):=by rfl
@[simp] theorem Tw (t:ia):cD (dB t) (.inr "left")=some (.int t.l):=by rfl
@[simp] theorem Tz (t:ia):cD (dB t) (.inr "turn")=some (.int t.n):=by rfl
@[simp] theorem P7 (t:ia) (x:Int):putD (dB t) (.inr "turn") (.int x)=dB {t with n:=x}:=by rfl
@[simp] theorem P8 (t:ia) (x:Int):putD (dB t) (.inr "left") (.int x)=dB {t with l:=x}:=by rfl
@[simp] theorem NW (t:ia):(dB t).length=3:=rfl
noncomputable def mixed (c n:Int):Int:=(((c % 2147483647+31 * (n+1) * (n+1)+1) * 48271) % 2147483629+7 * (n+1)) * 69621 % 2147483587 / 7
noncomputable def cB (t:ia) (m:Int):Int:=if 0 < t.l then t.l % m else mixed t.c t.n % m
noncomputable def aY (t:ia) (m:Int):ia:=if 0 < t.l then⟨t.c,t.l / m,t.n+1⟩ else⟨t.c,t.l,t.n+1⟩
noncomputable def jm:FM
 | [.b (.dct kvs),.t (.int m)]=>(rq kvs).bind fun t=>if 0 < m∧m < 1000000∧0≤t.n∧t.n < 1000000 then some (.t (.int (cB t m)),[.dct (dB (aY t m))]) else none
 | _=>none
noncomputable def jo:GS:=
 (bA (dj 2 (eP iI (aa (cJ 0 (eC (.str "turn"))) (aa (eC (.int 1)) au))))
 (bA (Dj 0 (eC (.str "turn")) (eF (aC 2)))
 (bA (mZ (qB (eF (eP LH (aa (cJ 0 (eC (.str "left"))) (aa (eC (.int 0)) au))))) (bA (dj 3 (eP wg (aa (cJ 0 (eC (.str "left"))) (aa (eF (aC 1)) au))))
 (bA (Dj 0 (eC (.str "left")) (eF (eP Hg (aa (cJ 0 (eC (.str "left"))) (aa (eF (aC 1)) au)))))
 (cC (aC 3)))) fL)
 (bA (dj 4 (eP Bd (aa (eF (eP iI (aa (eF (eP iI (aa (eF (eP wg (aa (cJ 0 (eC (.str "cell"))) (aa (eC (.int 2147483647)) au)))) (aa (eF (eP Bd (aa (eF (eP Bd (aa (eC (.int 31)) (aa (eF (aC 2)) au)))) (aa (eF (aC 2)) au)))) au)))) (aa (eC (.int 1)) au)))) (aa (eC (.int 48271)) au))))
 (bA (dj 4 (eP Bd (aa (eF (eP iI (aa (eF (eP wg (aa (eF (aC 4)) (aa (eC (.int 2147483629)) au)))) (aa (eF (eP Bd (aa (eC (.int 7)) (aa (eF (aC 2)) au)))) au)))) (aa (eC (.int 69621)) au))))
 (cC (eP wg (aa (eF (eP Hg (aa (eF (eP wg (aa (eF (aC 4)) (aa (eC (.int 2147483587)) au)))) (aa (eC (.int 7)) au)))) (aa (eF (aC 1)) au)))))))))
theorem pick_run:∀us r,jm us=some r→aG 5 jo us=some r:=by
 intro us r h
 unfold jm at h
 split at h
 ·rename_i kvs m
  obtain⟨t,h1,h⟩:=ak h
  obtain⟨⟨h2,h3,h4,h5⟩,rfl⟩:=bX h
  obtain rfl:=zW h1
  have e1:-18446744073709551616 < t.n+1:=by omega
  have e2:t.n+1 < 18446744073709551616:=by omega
  have e3:m < 1073741824:=by omega
  by_cases hl:0 < t.l
  ·simp[aG,jo,cB,aY,hl,h2,e3]
  ·simp[aG,jo,cB,aY,hl,h2,e3,mixed,e1,e2]
 ·cases h
end L2
end
section
set_option Elab.async false
set_option linter.all false
set_option maxRecDepth 100000
namespace L2
open PySem PySem.Spec PyProof.Rows
noncomputable def mF:GS:=
 (bA (mZ (AU (yg (qB (Hu ["int"] (eF (aC 0))))) (qB (Hu ["bool"] (eF (aC 0))))) (cC (eT (eC (.bl false)))) fL)
 (cC (eT (eQ (kE (qB (eF (eP Kl (aa (eF (aC 1)) (aa (eF (aC 0)) au))))) (qB (eF (eP Kl (aa (eF (aC 0)) (aa (eF (aC 2)) au))))))))))
noncomputable def nD:FM
 | [.t d,.t (.int l),.t (.int m)]=>some (.t (.bl (fR d l m)),[])
 | _=>none
theorem whole_run:∀us r,nD us=some r→aG 3 mF us=some r:=by
 intro us r h
 unfold nD at h
 split at h
 ·rename_i d l m
  cases h
  cases d <;> simp[aG,mF,fR,eV,jB,Bb,EO]
  rename_i x
  by_cases h1:l≤x <;> simp[h1]
 ·cases h
noncomputable def mG:GS:=
 (cC (eT (eQ (kE (qB (Hu ["tuple"] (eF (aC 0)))) (kE (qB (eF (eP Kl (aa (eF (aC 1)) (aa (oO 0) au))))) (qB (eF (eP Kl (aa (oO 0) (aa (eF (aC 2)) au))))))))))
noncomputable def nF:FM
 | [.t d,.t (.int l),.t (.int m)]=>some (.t (.bl (eZ d l m)),[])
 | _=>none
theorem Dv:∀us r,nF us=some r→aG 3 mG us=some r:=by
 intro us r h
 unfold nF at h
 split at h
 ·rename_i d l m
  cases h
  cases d <;> simp[aG,mG,eZ,eV,jB,Ba]
  rename_i x
  by_cases h1:l≤(x.length:Int) <;> simp[h1]
 ·cases h
noncomputable def jH:GS:=
 (cC (eP gw (aa (eC (.str "a")) (aa (eC (.str "ab")) (aa (eC (.str "abc")) (aa (eC (.str "b")) (aa (eC (.str "any")) (aa (eC (.str "name")) (aa (eC (.str "x")) (aa (eC (.str "zzzzzzzz")) au))))))))))
noncomputable def rA:List Str:=["a","ab","abc","b","any","name","x","zzzzzzzz"]
noncomputable def pG:FM
 | []=>some (.m (.lst (rA.map D.str)),[])
 | _=>none
theorem Dw:∀us r,pG us=some r→aG 0 jH us=some r:=by
 intro us r h
 unfold pG at h
 split at h
 ·cases h
  simp[aG,jH,rA]
 ·cases h
noncomputable def jq:GS:=
 (bA (dj 2 (aC 1))
 (bA (mZ (qB (eF (eP LH (aa (oO 0) (aa (eC (.int 0)) au))))) (dj 2 (eP iI (aa (cJ 0 (eF (eP wg (aa (eF (aC 1)) (aa (oO 0) au))))) (aa (eF (eP Hg (aa (eF (aC 1)) (aa (oO 0) au)))) au)))) fL)
 (cC (oW [("cell",(eF (aC 2))),("left",(eF (eP Ct (aa (eC (.int 0)) (aa (eF (eP oK (aa (eF (aC 2)) (aa (eF (eP M3 (aa (eC (.int 10)) (aa (eC (.int 18)) au)))) au)))) au))))),("turn",(eC (.int 0)))]))))
noncomputable def zX (ns:List Int) (k:Int):Int:=if 0 < ns.length then(iD ns (k % ns.length)).getD 0+k / ns.length else k
noncomputable def xA (ns:List Int) (k:Int):ia:=⟨zX ns k,if zX ns k - 10 ^ 18 > 0 then zX ns k - 10 ^ 18 else 0,0⟩
noncomputable def sU:FM
 | [.s ns,.t (.int k)]=>if 0≤k∧k < 1000000∧ns.length < 1000000 then some (.m (.dct (dB (xA ns k))),[]) else none
 | _=>none
theorem Fj {α:Type}{l:List α}{i:Int}(h0:0≤i) (h1:i < l.length):∃x,iD l i=some x:=by
 unfold iD ze
 rw[if_pos h0,if_pos h1]
 have:i.toNat < l.length:=by omega
 exact⟨l[i.toNat],List.getElem?_eq_getElem this⟩
@[simp] theorem NX (k1 k2 k3:Str) (g1 g2 g3:GD) (S:SS):oW [(k1,g1),(k2,g2),(k3,g3)] S=(g1 S).bind fun a=>(g2 a.2).bind fun b=>(g3 b.2).map fun c=>(.m (.dct (cM [] [(.inr k1,a.1),(.inr k2,b.1),(.inr k3,c.1)])),c.2):=by
 simp only[oW,mD]
 cases g1 S with
 | none=>rfl
 | some a=>
  simp only[Option.bind_some]
  cases g2 a.2 with
  | none=>rfl
  | some b=>
   simp only[Option.bind_some]
   cases g3 b.2 with
   | none=>rfl
   | some c=>rfl
theorem uY (c l n:Int):cM [] [(.inr "cell",.int c),(.inr "left",.int l),(.inr "turn",.int n)]=dB ⟨c,l,n⟩:=rfl
theorem Fl:∀us r,sU us=some r→aG 3 jq us=some r:=by
 intro us r h
 unfold sU at h
 split at h
 ·rename_i ns k
  obtain⟨⟨h1,h2,h3⟩,rfl⟩:=bX h
  by_cases hl:0 < ns.length
  ·have e0:(0:Int) < ns.length:=by omega
   obtain⟨x,hx⟩:=Fj (l:=ns) (i:=k % ns.length) (Int.emod_nonneg _ (by omega)) (Int.emod_lt_of_pos _ e0)
   have e1:(ns.length:Int) < 1073741824:=by omega
   simp[aG,jq,e0,e1,hx,uY,xA,zX,hl]
  ·have e0:¬(0:Int) < ns.length:=by omega
   simp[aG,jq,e0,uY,xA,zX,hl]
 ·cases h
end L2
end
section
set_option Elab.async false
set_option linter.all false
set_option maxRecDepth 100000
namespace Sw
open PySem PySem.Spec PyProof.Rows L2
theorem bV {t:ia}{m:Int}(h:0 < m):0≤cB t m∧cB t m < m:=by
 unfold cB
 split
 ·exact⟨Int.emod_nonneg _ (by omega),Int.emod_lt_of_pos _ h⟩
 ·exact⟨Int.emod_nonneg _ (by omega),Int.emod_lt_of_pos _ h⟩
@[simp] theorem dZ (t:ia) (m:Int):(aY t m).n=t.n+1:=by unfold aY;split <;> rfl
theorem Fo {t:ia}{m:Int}(h1:0 < m) (h2:m < 1000000) (h3:0≤t.n) (h4:t.n < 1000000):jm [.b (.dct (dB t)),.t (.int m)]=some (.t (.int (cB t m)),[.dct (dB (aY t m))]):=by
 simp[jm,h1,h2,h3,h4]
end Sw
end
section
set_option Elab.async false
set_option linter.all false
set_option maxRecDepth 100000
namespace Sw
open PySem PySem.Spec PyProof.Rows L2
end Sw
end
section
set_option Elab.async false
set_option linter.all false
set_option maxRecDepth 100000
namespace Sw
open PySem PySem.Spec PyProof.Rows L2
noncomputable def TF:List D:=[.cI,.bl true,.bl false,.int 0,.int (-1),.int 6,.int 10000000000000000000,.str "",.str "A",.str "a.b",.str "a1",.str "ninesigns",.tup [],.lst [],.tup [.str "a"],.lst [.str "a",.int 0],.tup [.str "a",.int 0]]
noncomputable def HF (t:ia):D:=TF.getD (cB t 17).toNat .cI
noncomputable def yI (t:ia) (d:D):D×ia:=
 match d with
 | .tup ds=>if cB t 8 < 5 then
   (([.tup (cutD ds none (some (cB (aY t 8) (ds.length+1)))),.tup (ds++cutD ds (some (cB (aY t 8) (ds.length+1))) none),.tup (cutD ds none (some (cB (aY t 8) (ds.length+1)))++cutD ds (some (cB (aY t 8) (ds.length+1)+1)) none),.lst ds,.tup (ds++[.tup ds])]:List D).getD (cB t 8).toNat .cI,aY (aY t 8) (ds.length+1))
  else(HF (aY t 8),aY (aY t 8) 17)
 | .int i=>if fR (.int i) 0 100000000000000000000=true∧cB t 8 < 5 then(([.int (i+1),.int (i - 1),.int 5,.int 9,.int 10]:List D).getD (cB t 8).toNat .cI,aY t 8) else(HF (aY t 8),aY (aY t 8) 17)
 | .str z=>if cB t 8 < 6 then(([.str (z++("a":Str)),.str (Txt.slice z (some 1) none),.str (z++("A":Str)),.str "x",.str "now",.str "less"]:List D).getD (cB t 8).toNat .cI,aY t 8) else(HF (aY t 8),aY (aY t 8) 17)
 | _=>(HF (aY t 8),aY (aY t 8) 17)
noncomputable def Cz:Nat→ia→D→D×ia
  | k + 1, t, .tup ds => if ds.length = 0 then yI t (.tup ds) else if 0 < cB t 4 then
      (.tup (cutD ds none (some (cB (aY t 4) ds.length))++[(Cz k (aY (aY t 4) ds.length) (ds.getD (cB (aY t 4) ds.length).toNat .cI)).1]++cutD ds (some (cB (aY t 4) ds.length+1)) none),(Cz k (aY (aY t 4) ds.length) (ds.getD (cB (aY t 4) ds.length).toNat .cI)).2)
    else yI (aY t 4) (.tup ds)
  | _,t,d=>yI t d
open Classical in
noncomputable def TH (j:Nat):FM
 | [.b (.dct kvs),.t d,.t (.int k)]=>(rq kvs).bind fun t=>if 0≤k∧k < j∧v7 5000 d∧0≤t.n∧t.n+2 * k < 600000 then some (.t (Cz k.toNat t d).1,[.dct (dB (Cz k.toNat t d).2)]) else none
 | _=>none
@[simp] theorem NY (g:GD) (lo hi:Option GD) (S:SS):Nj g lo hi S=(g S).bind fun p=>(lF lo p.2).bind fun l=>(lF hi l.2).bind fun h=>(Hw p.1 l.1 h.1).map fun u=>(u,h.2):=rfl
@[simp] theorem TJ (S:SS):lF none S=some (none,S):=rfl
@[simp] theorem TL (g:GD) (S:SS):lF (some g) S=(g S).bind fun p=>match p.1 with | .int i=>some (some i,p.2) | _=>none:=rfl
@[simp] theorem HG (ds:List D) (lo hi:Option Int):Hw (.tup ds) lo hi=some (.t (.tup (cutD ds lo hi))):=rfl
@[simp] theorem HH (ds:List D) (lo hi:Option Int):Hw (.lst ds) lo hi=some (.m (.lst (cutD ds lo hi))):=rfl
@[simp] theorem P9 (z:Str) (lo hi:Option Int):Hw (.str z) lo hi=if z.length≤100000 then some (.t (.str (Txt.slice z lo hi))) else none:=rfl
theorem Fits.mem {n:Nat}:∀{ds:List D}{d:D},Fits n ds→d∈ds→v7 n d
 | _ :: _,_,h,m=>by
  rcases List.mem_cons.mp m with rfl | m
  ·exact h.1
  ·exact Fits.mem h.2 m
end Sw
end
section
set_option Elab.async false
set_option linter.all false
set_option maxRecDepth 100000
namespace Sw
open PySem PySem.Spec PyProof.Rows L2
theorem Fp:∀(ts:List D) (S:SS),S.length=ts.length→aA (ts.map U.t) S=some []
 | [],S,_=>by cases S <;> rfl
 | d :: ts,[],h=>by cases h
 | d :: ts,x :: S,h=>by
  show aA (U.t d :: ts.map U.t) (x :: S)=_
  rw[Cy]
  exact Fp ts S (by simpa using h)
theorem IW (S:SS):∀ts:List D,cU S (ts.map U.t)=some (ts.map U.t)
 | []=>rfl
 | d :: ts=>by
  show(some (U.t d)).bind _=_
  rw[IW S ts]
  rfl
theorem NZ:∀ts:List D,slotsOf (ts.map U.t)=[]
 | []=>rfl
 | d :: ts=>NZ ts
theorem N1:∀ts:List D,cV (ts.map U.t)=0
 | []=>rfl
 | d :: ts=>N1 ts
theorem KZ (S:SS):∀ts:List D,wb (ts.map U.t) [] S=some S
 | []=>rfl
 | d :: ts=>KZ S ts
theorem uu {cap:List Nat}{q:GT}{g:GD}{S:SS}{ts:List D}(hc:qc S cap=some (ts.map U.t)) (p:D→Bool) (f:D→D):∀(ds acc:List D),
    (∀d∈ds,q (some (.t d) :: ts.map fun x=>some (.t x))=some (p d,some (.t d) :: ts.map fun x=>some (.t x)))→(∀d∈ds,p d=true→g (some (.t d) :: ts.map fun x=>some (.t x))=some (f d,some (.t d) :: ts.map fun x=>some (.t x)))→
    oV cap q g ds S acc=some (acc++(ds.filter p).map f,S)
  | [],acc,_,_=>by simp[oV]
  | d :: ds, acc, hq, hg => by
    have em:(ts.map U.t).map some=ts.map fun x=>some (U.t x):=by simp
    have eo:aA (.t d :: ts.map U.t) (some (.t d) :: ts.map fun x=>some (.t x))=some []:=by rw[Cy];exact Fp ts _ (by simp)
    have q0:=hq d (List.mem_cons_self)
    unfold oV
    rw[hc]
    simp only[Option.bind_some]
    rw[if_pos ⟨by rw[NZ];exact List.nodup_nil,by rw[N1];exact Nat.zero_le _⟩,IW]
    simp only[Option.bind_some]
    rw[em,q0]
    simp only[Option.bind_some]
    by_cases hp:p d=true
    · rw[if_pos hp,hg d List.mem_cons_self hp]
      simp only[Option.bind_some]
      rw[eo]
      simp only[Option.bind_some]
      rw[KZ]
      simp only[Option.bind_some]
      rw[uu hc p f ds (acc++[f d]) (fun e he=>hq e (List.mem_cons_of_mem _ he)) (fun e he=>hg e (List.mem_cons_of_mem _ he)),List.filter_cons_of_pos hp]
      simp
    · rw[if_neg hp,eo]
      simp only[Option.bind_some]
      rw[KZ]
      simp only[Option.bind_some]
      rw[uu hc p f ds acc (fun e he=>hq e (List.mem_cons_of_mem _ he)) (fun e he=>hg e (List.mem_cons_of_mem _ he)),List.filter_cons_of_neg hp]
theorem rB {cap:List Nat}{g:GD}{S:SS}{ts:List D}(hc:qc S cap=some (ts.map U.t)) (f:D→D) (ds acc:List D) (hg:∀d∈ds,g (some (.t d) :: ts.map fun x=>some (.t x))=some (f d,some (.t d) :: ts.map fun x=>some (.t x))):
  oV cap uK g ds S acc=some (acc++ds.map f,S):=by
 rw[uu hc (fun _=>true) f ds acc (fun _ _=>rfl) (fun d hd _=>hg d hd),List.filter_eq_self.mpr (fun _ _=>rfl)]
@[simp] theorem Qa (cap:List Nat) (gi:GI) (q:GT) (g:GD) (S:SS):uL cap gi q g S=(gi S).bind fun p=>if p.1.length≤100000 then(oV cap q g p.1 p.2 []).map fun r=>(.m (.lst r.1),r.2) else none:=rfl
theorem gn (g:GD) (S:SS):p8 g S=(g S).bind fun p=>match p.1 with | .tup ds=>some (ds,p.2) | .lst ds=>some (ds,p.2) | .str z=>some (z.cps.toList.map fun c=>.str ⟨#[c]⟩,p.2) | _=>none:=rfl
theorem rC {α:Type}(f:α→Bool):∀ds:List α,jC (ds.map fun d=>.bl (f d))=some (ds.map f)
 | []=>rfl
 | d :: ds=>by simp[jC,rC f ds]
end Sw
end
section
set_option Elab.async false
set_option linter.all false
set_option maxRecDepth 100000
namespace Sw
open PySem PySem.Spec PyProof.Rows L2
theorem rD {x:D}{z:Str}(h:mz (.str z) x=true):x= .str z:=by
 cases x <;> simp[mz] at h
 rw[h]
end Sw
end
section
set_option Elab.async false
set_option linter.all false
set_option maxRecDepth 100000
namespace Sw
open PySem PySem.Spec PyProof.Rows L2
mutual
noncomputable def Sane:D→Prop
 | .int i=>i.natAbs < 10 ^ 30
 | .str z=>∀c∈z.cps.toList,c < 16 ^ 8
 | .tup ds=>gO ds
 | .lst ds=>gO ds
 | .cI=>True
 | .bl _=>True
noncomputable def gO:List D→Prop
 | []=>True
 | d :: ds=>Sane d∧gO ds
end
mutual
noncomputable def wD:D→Nat
 | .cI=>6
 | .bl _=>6
 | .int _=>40
 | .str z=>10 * z.length+2
 | .tup ds=>K0 ds+4
 | .lst ds=>K0 ds+4
noncomputable def K0:List D→Nat
 | []=>0
 | d :: ds=>wD d+2+K0 ds
end
theorem Dy (s:String):(Str.ofString s).length=s.length:=PySem.ofString_length s
theorem CA:∀(ts:List Str) (k:Nat) (acc:Str),(textFrom k acc ts).length≤acc.length+piled ts
  | [],k,acc=>Nat.le_refl _
  | t :: ts, k, acc => by
    have ih:=CA ts (k+1) (acc++(if k > 0 then ", " else "":String)++t)
    have e:(acc++(if k > 0 then ", " else "":String)++t).length≤acc.length+2+t.length:=by
      rw[strLen_append,strLen_append]
      split
      · show acc.length+2+t.length≤_;omega
      · show acc.length+0+t.length≤_;omega
    rw[piled_cons]
    show(textFrom (k+1) _ ts).length≤_
    omega
mutual
theorem shown_le:∀d:D,Sane d→(toPy d).shown.length≤wD d
 | .cI,_=>by show(Str.ofString "None").length≤6;decide
 | .bl b,_=>by cases b <;> (show(Str.ofString _).length≤6;decide)
 | .int i,h=>by
  show(Str.ofString (toString i)).length≤40
  rw[Dy]
  exact Nat.le_trans (int_text_length_le10 (k:=30) (by decide) h) (by decide)
 | .str z,h=>PySem.StrLaws.reprText_len z h
 | .tup ds,h=>by
  have k:=rE ds h
  show(tupleText (PyData.shownAll (gr ds))).length≤K0 ds+4
  unfold tupleText
  rw[strLen_append,strLen_append]
  have e1:("(":Str).length=1:=rfl
  have e2:((if(PyData.shownAll (gr ds)).length == 1 then ",)" else ")":String):Str).length≤2:=by split <;> decide
  by_cases hn:PyData.shownAll (gr ds)=[]
  ·rw[hn] at e2 ⊢
   have e3:(Str.join ", " []).length=0:=rfl
   omega
  ·have:=join_length_add _ hn
   omega
 | .lst ds,h=>by
  have k:=rE ds h
  show(listText (PyData.shownAll (gr ds))).length≤K0 ds+4
  unfold listText
  rw[strLen_append]
  have e1:=CA (PyData.shownAll (gr ds)) 0 "["
  have e2:("[":Str).length=1:=rfl
  have e3:("]":Str).length=1:=rfl
  omega
theorem rE:∀ds:List D,gO ds→piled (PyData.shownAll (gr ds))≤K0 ds
 | [],_=>Nat.le_refl _
 | d :: ds,h=>by
  show piled ((toPy d).shown :: PyData.shownAll (gr ds))≤wD d+2+K0 ds
  rw[piled_cons]
  have:=shown_le d h.1
  have:=rE ds h.2
  omega
end
mutual
theorem sV:∀d:D,Sane d→(toPy d).showable=true
 | .cI,_=>rfl
 | .bl b,_=>rfl
 | .int i,h=>by
  show decide (i.natAbs.log2 < 1920)=true
  rw[decide_eq_true_eq]
  by_cases hz:i.natAbs=0
  ·rw[hz];decide
  ·exact(Nat.log2_lt hz).mpr (Nat.lt_trans h (Nat.lt_of_lt_of_le (show(10:Nat) ^ 30 < 2 ^ 100 by decide) (Nat.pow_le_pow_right (by decide) (by decide))))
 | .str z,_=>rfl
 | .tup ds,h=>by show PyData.showableAll (gr ds)=true;exact mH ds h
 | .lst ds,h=>by show PyData.showableAll (gr ds)=true;exact mH ds h
theorem mH:∀ds:List D,gO ds→PyData.showableAll (gr ds)=true
 | [],_=>rfl
 | d :: ds,h=>by
  show((toPy d).showable && PyData.showableAll (gr ds))=true
  rw[sV d h.1,mH ds h.2]
  rfl
end
mutual
theorem depth_eq:∀d:D,(toPy d).depth=cG d
 | .cI=>rfl
 | .bl _=>rfl
 | .int _=>rfl
 | .str _=>rfl
 | .tup ds=>by show PyData.depthAll (gr ds)+1=bU ds+1;rw[rF ds]
 | .lst ds=>by show PyData.depthAll (gr ds)+1=bU ds+1;rw[rF ds]
theorem rF:∀ds:List D,PyData.depthAll (gr ds)=bU ds
 | []=>rfl
 | d :: ds=>by show max (toPy d).depth (PyData.depthAll (gr ds))=max (cG d) (bU ds);rw[depth_eq d,rF ds]
end
theorem K1 {d:D}(h:Sane d) (hw:wD d≤1000000) (hd:cG d≤20):AV d:=
 ⟨sV d h,by rw[depth_eq];exact hd,Nat.le_trans (shown_le d h) (Nat.le_trans hw (by decide))⟩
theorem gO.append:∀{as bs:List D},gO as→gO bs→gO (as++bs)
 | [],_,_,h=>h
 | _ :: _,_,h,k=>⟨h.1,gO.append h.2 k⟩
theorem gO.mem:∀{ds:List D}{d:D},gO ds→d∈ds→Sane d
 | _ :: _,_,h,m=>by
  rcases List.mem_cons.mp m with rfl | m
  ·exact h.1
  ·exact gO.mem h.2 m
theorem gO.of:∀{ds:List D},(∀d∈ds,Sane d)→gO ds
 | [],_=>True.intro
 | d :: ds,h=>⟨h d List.mem_cons_self,gO.of fun e he=>h e (List.mem_cons_of_mem _ he)⟩
theorem gO.cut {ds:List D}(h:gO ds) (lo hi:Option Int):gO (cutD ds lo hi):=gO.of fun d hd=>h.mem (List.mem_of_mem_drop (List.mem_of_mem_take hd))
structure Good (n k:Nat) (d:D):Prop where
 tY:Sane d
 w:wD d≤n
 dep:cG d≤k
theorem Good.mono {n k n' k':Nat}{d:D}(h:Good n k d) (a:n≤n') (b:k≤k'):Good n' k' d:=⟨h.tY,Nat.le_trans h.w a,Nat.le_trans h.dep b⟩
theorem Good.AV {n k:Nat}{d:D}(h:Good n k d) (a:n≤1000000) (b:k≤20):L2.AV d:=K1 h.tY (Nat.le_trans h.w a) (Nat.le_trans h.dep b)
end Sw
end
section
set_option Elab.async false
set_option linter.all false
set_option maxRecDepth 100000
namespace Sw
open PySem PySem.Spec PyProof.Rows L2
end Sw
end
section
set_option Elab.async false
set_option linter.all false
set_option maxRecDepth 100000
namespace Sw
open PySem PySem.Spec PyProof.Rows L2
end Sw
end
section
set_option Elab.async false
set_option linter.all false
set_option maxRecDepth 100000
namespace Sw
open PySem PySem.Spec PyProof.Rows L2
noncomputable def Bm (n:Nat):FM
 | [.s ns]=>if ns.length≤n then some (.t (.bl true),[]) else none
 | _=>none
theorem pH {P:Program}{w:World}{K:PySem.W.Frag}{mg:Str→Option Value}{base:Heap}{f:Addr}{fd:FuncData}{n k:Nat}{ps:List Str}{fm:FM}(h:∀us,fm us=none):br P w K mg base dW n f fd ps (spT K k fm):=by
 have no:∀vs H Q E,¬spT K k fm vs H Q E:=fun vs H Q E ⟨_,F,us,r,outs,_,_,_,e,_⟩=>by rw[h us] at e;cases e
 exact⟨fun vs H Q E h=>absurd h (no vs H Q E),fun A outer s H args us vs Q E _ _ _ _ h=>absurd h (no vs H Q E)⟩
theorem K2 {K:PySem.W.Frag}{H:Hp}{a:Addr}{ns:List Int}{n:Nat}{E:XK}(hl:ns.length≤n) (hO:G2 H) (hS:oH K H a (ns.map V.int)):spT K 1 (Bm n) [.ref a] H (fun v _=>v= .bl true) E:=by
 have sc:Hf K H a ns:=by
  rcases hS with(h | h) | h
  ·rcases hO a with z | ⟨o,xs,z⟩
   ·rw[h] at z;cases z
   ·rw[h] at z;cases z
  ·exact .inl h
  ·exact .inr h
 exact⟨rfl,fun _=>none,[.s ns],.t (.bl true),[],(fun b o z=>by cases z),.cons ⟨a,rfl,sc⟩ .nil,List.nodup_nil,by simp[Bm,hl],fun v F' H' _ r=>mq r⟩
end Sw
end
section
set_option Elab.async false
set_option linter.all false
set_option maxRecDepth 100000
namespace Sw
open PySem PySem.Spec PyProof.Rows L2
noncomputable def N2:Str:="abcdefghijklmnopqrstuvwxyz"
noncomputable def zY (y:Str):Bool:=!(Builtin.Str.occurrences N2 y 0 N2.length 1).isEmpty
noncomputable def signs (z:Str):List Str:=z.cps.toList.map fun c=>(⟨#[c]⟩:Str)
theorem Dz (z:Str):(signs z).length=z.length:=by unfold signs;rw[List.length_map];rfl
theorem Fq (z:Str):p8 (eF (aC 0)) [some (.t (.str z))]=some ((signs z).map D.str,[some (.t (.str z))]):=by unfold signs;rw[List.map_map];rfl
noncomputable def nameB:D→Bool
 | .str z=>decide (1≤z.length) && decide (z.length≤8) && (signs z).all zY
 | _=>false
theorem K3 (y:Str):zI [.str y,.str "abcdefghijklmnopqrstuvwxyz"]=some (.t (.bl (zY y))):=rfl
theorem nG {z:Str}(h:z.length≤20000):yr (.t (.str z))=some z.length:=by show(if z.length≤100000 then some z.length else none)=_;rw[if_pos (by omega)]
noncomputable def iM:GS:=
 (bA (mZ (AU (yg (qB (Hu ["str"] (eF (aC 0))))) (AU (qB (eF (eP Kh (aa (oO 0) (aa (eC (.int 1)) au))))) (qB (eF (eP LH (aa (oO 0) (aa (eC (.int 8)) au))))))) (cC (eT (eC (.bl false)))) fL)
 (cC (eP E9 (aa (eF (uL [] (p8 (eF (aC 0))) uK (eF (eP zI (aa (eF (aC 0)) (aa (eC (.str "abcdefghijklmnopqrstuvwxyz")) au)))))) au))))
noncomputable def Ft:D→Nat
 | .str z=>z.length
 | _=>0
noncomputable def sW:FM
 | [.t d]=>if Ft d≤20000 then some (.t (.bl (nameB d)),[]) else none
 | _=>none
theorem Fv : ∀ us r, sW us = some r → aG 1 iM us = some r := by
  intro us r h
  unfold sW at h
  split at h
  · rename_i d
    obtain⟨hb,rfl⟩:=bX h
    cases d with
    | str z =>
      have hb:z.length≤20000:=hb
      have nG:=nG hb
      by_cases h1:(z.length:Int) < 1
      · have h2:¬1≤z.length:=by omega
        simp[aG,iM,nameB,eV,jB,iG,nG,h1,h2]
      · by_cases h3:(8:Int) < z.length
        · have h2:¬z.length≤8:=by omega
          simp[aG,iM,nameB,eV,jB,iG,nG,h1,h2,h3]
        · have h4:1≤z.length:=by omega
          have h5:z.length≤8:=by omega
          have h6:((signs z).map D.str).length≤100000:=by rw[List.length_map,Dz];omega
          have ei:=Fq z
          generalize hx:signs z=xs at h6 ei
          have e:=rB (cap:=[]) (g:=eF (eP zI (aa (eF (aC 0)) (aa (eC (.str "abcdefghijklmnopqrstuvwxyz")) au)))) (S:=[some (.t (.str z))]) (ts:=[]) rfl (fun d=>match d with | .str y=>.bl (zY y) | _=>.cI) (xs.map D.str) [] (fun d hd=>by
            obtain⟨c,_,rfl⟩:=List.mem_map.mp hd
            simp[K3])
          have e2:([]:List D)++((xs.map D.str).map fun d=>match d with | .str y=>D.bl (zY y) | _=>.cI)=xs.map fun y=>D.bl (zY y):=by rw[List.map_map];rfl
          have e3:=rC zY xs
          rw[e2] at e
          generalize xs.map D.str=L at e ei h6
          generalize (xs.map fun y=>D.bl (zY y))=M at e e3
          simp[aG,iM,nameB,eV,jB,iG,nG,h1,h3,h4,h5,ei,h6,e,e3,hx]
    | _=>simp[aG,iM,nameB,eV,jB,iG]
  · cases h
end Sw
end
section
set_option Elab.async false
set_option linter.all false
set_option maxRecDepth 100000
namespace L2
open PySem PySem.Spec PyProof.Rows
section
variable (S:SS) (d:D) (i:Nat) (g ga gb gc:GD) (gA:GA)
@[simp] theorem TM (f:Int→Int→Int):So f i g S=match S[i]? with
 | some (some (.t (.int n)))=>(g S).bind fun p=>match p.1 with
  | .int m=>(oM i (.t (.int (f n m))) p.2).map .nx
  | _=>none
 | _=>none:=rfl
@[simp] theorem TN:Sl [d,.cI]=some (.t (.bl (IT d))):=rfl
@[simp] theorem Qc (k:Bool):Sk [.bl k]=some (.t (.int (if k then 1 else 0))):=rfl
@[simp] theorem TQ (ds:List D) (k:Int):Sj [.lst ds,.int k]=if 0≤k∧k.toNat≤100000∧ds.length * k.toNat≤100000 then some (.m (.lst (List.replicate k.toNat ds).flatten)) else none:=rfl
@[simp] theorem L3 (es ds:List D):kj [.lst es] (.lst ds)=if ds.length+es.length≤100000 then some (.cI,.lst (ds++es)) else none:=rfl
@[simp] theorem Qd:Nu gA S=(gA S).bind fun p=>match p.1 with
 | [d]=>(zQ d).map fun q=>(IU q.2,p.2)
 | _=>none:=rfl
@[simp] theorem Qe:Nv gA S=(gA S).bind fun p=>match p.1 with
 | [d,e]=>(zQ d).bind fun q=>(zQ e).map fun r=>(List.zipWith (fun a b=>.tup [a,b]) q.2 r.2,p.2)
 | _=>none:=rfl
@[simp] theorem N3 (ds:List D):zQ (.lst ds)=some (true,ds):=rfl
@[simp] theorem N4 (ds:List D):zQ (.tup ds)=some (false,ds):=rfl
@[simp] theorem Qg (x y:Int):Nh [.int x,.int y]=some (.t (.int (if y < x then y else x))):=rfl
end
end L2
namespace Sq
open PySem PySem.Spec PyProof.Rows L2 Sw
theorem CB {bd:GB}{body:GS}:∀(ds:List D) (I:List D→SS→Prop) (S:SS),I ds S→(∀d r S,I (d :: r) S→∃S1 S2,bd d S=some S1∧body S1=some (.nx S2)∧I r S2)→∃S',loop bd body ds S=some (.nx S')∧I [] S'
 | [],I,S,h,_=>⟨S,rfl,h⟩
 | d :: ds,I,S,h,k=>by
  obtain⟨S1,S2,e1,e2,h2⟩:=k d ds S h
  obtain⟨S',e,h'⟩:=CB ds I S2 h2 k
  refine⟨S',?_,h'⟩
  show((bd d S).bind fun S1=>(body S1).bind _)=_
  rw[e1,Option.bind_some,e2,Option.bind_some]
  exact e
theorem Fw {α:Type}{l:List α}{i:Int}{x:α}(h0:0≤i) (h:l[i.toNat]? =some x):iD l i=some x:=by
 have hl:=(List.getElem?_eq_some_iff.mp h).1
 unfold iD ze
 rw[if_pos h0,if_pos (by omega)]
 exact h
theorem K4 {α:Type}{l:List α}{i:Int}(h0:0≤i) (h1:i < l.length):∃x,iD l i=some x∧l[i.toNat]? =some x:=by
 have h:i.toNat < l.length:=by omega
 exact⟨l[i.toNat],Fw h0 (List.getElem?_eq_getElem h),List.getElem?_eq_getElem h⟩
theorem DA {gA:GA}{S S':SS}{j:Int}(h:gA S=some ([.int j],S')) (h1:j < 1000000) (h2:-1000000 < j):uJ gA S=some (AR 0 j.toNat,S'):=by
 unfold uJ
 rw[h]
 simp only[Option.bind_some]
 rw[if_pos ⟨h1,h2⟩]
noncomputable abbrev fd (c i l:Int):MO:=.lst [.int c,.int i,.int l]
end Sq
end
section
set_option Elab.async false
set_option linter.all false
set_option maxRecDepth 100000
namespace L2
open PySem PySem.Spec PyProof.Rows
noncomputable def iN:Option U→Bool
 | some (.b _)=>true
 | _=>false
@[simp] theorem XE:iN none=false:=rfl
@[simp] theorem XF (d:D):iN (some (.t d))=false:=rfl
@[simp] theorem XG (o:MO):iN (some (.m o))=false:=rfl
theorem fO (i:Nat) (u:U) (S:SS):oM i u S=(S[i]?).bind fun x=>if iN x then none else some (S.set i (some u)):=by
 unfold oM
 cases S[i]? with
 | none=>rfl
 | some x=>cases x with
  | none=>rfl
  | some u=>cases u <;> rfl
@[simp] theorem TR (n:Nat) (bs:IL) (ds:List D) (S:SS):RL n bs (.tup ds) S=if ds.length=n then bs ds S else none:=rfl
@[simp] theorem Qh (b:GB) (bs:IL) (d:D) (r:List D) (S:SS):M5 b bs (d :: r) S=(b d S).bind fun S1=>bs r S1:=rfl
@[simp] theorem TU (S:SS):RK [] S=some S:=rfl
@[simp] theorem Qi (S:SS):Nx S=some (.m (.yf []),S):=rfl
@[simp] theorem Qj (S:SS):Ny S=some (.m (.dct []),S):=rfl
@[simp] theorem N5 (z:Str):sI (.str z)=true:=rfl
@[simp] theorem N6 (b:Bool):sI (.bl b)=true:=rfl
@[simp] theorem N7 (b:Int):sI (.int b)=true:=rfl
@[simp] theorem NY (g:GD) (lo hi:Option GD) (S:SS):Nj g lo hi S=(g S).bind fun p=>(lF lo p.2).bind fun l=>(lF hi l.2).bind fun h=>(Hw p.1 l.1 h.1).map fun u=>(u,h.2):=rfl
@[simp] theorem L4 (S:SS):lF none S=some (none,S):=rfl
@[simp] theorem L5 (g:GD) (S:SS):lF (some g) S=(g S).bind fun p=>match p.1 with | .int i=>some (some i,p.2) | _=>none:=rfl
@[simp] theorem HG (ds:List D) (lo hi:Option Int):Hw (.tup ds) lo hi=some (.t (.tup (cutD ds lo hi))):=rfl
@[simp] theorem HH (ds:List D) (lo hi:Option Int):Hw (.lst ds) lo hi=some (.m (.lst (cutD ds lo hi))):=rfl
@[simp] theorem N8 (d:D) (ds:List D):Ky [d] (.lst ds)=if bU ds≤40∧ds.length < 100000 then(Kw d ds).map fun j=>(.int (j:Nat),.lst ds) else none:=rfl
@[simp] theorem K5 (ds:List D):zF [] (.lst ds)=some (.cI,.lst ds.reverse):=rfl
theorem uZ {bd:GB}{body:GS}(ds:List D) (I:Nat→SS→Prop) (S:SS) (h0:I 0 S) (hs:∀j d S,ds[j]? =some d→I j S→∃S1 S2,bd d S=some S1∧body S1=some (.nx S2)∧I (j+1) S2):∃S',loop bd body ds S=some (.nx S')∧I ds.length S':=by
 obtain⟨S',e,j,hr,hj,hI⟩:=Sq.CB (bd:=bd) (body:=body) ds (fun r S=>∃j,ds.drop j=r∧j≤ds.length∧I j S) S ⟨0,rfl,Nat.zero_le _,h0⟩ (by
  rintro d r S ⟨j,hr,hj,hI⟩
  have hlt:j < ds.length:=by
   have:=congrArg List.length hr
   rw[List.length_drop,List.length_cons] at this
   omega
  rw[List.drop_eq_getElem_cons hlt] at hr
  injection hr with h1 h2
  obtain⟨S1,S2,e1,e2,h3⟩:=hs j d S (by rw[List.getElem?_eq_getElem hlt,h1]) hI
  exact⟨S1,S2,e1,e2,j+1,h2,hlt,h3⟩)
 have:j=ds.length:=by
  have:=congrArg List.length hr
  rw[List.length_drop,List.length_nil] at this
  omega
 subst this
 exact⟨S',e,hI⟩
theorem HJ {n j:Nat}{d:D}(h:(AR 0 n)[j]? =some d):j < n∧d= .int j:=by
 unfold AR at h
 rw[List.getElem?_map] at h
 cases e:(List.range n)[j]? with
 | none=>rw[e] at h;cases h
 | some k=>
  rw[e] at h
  obtain⟨h1,h2⟩:=List.getElem?_eq_some_iff.mp e
  rw[List.getElem_range] at h2
  rw[List.length_range] at h1
  subst h2
  refine⟨h1,?_⟩
  have:=Option.some.inj h
  rw[←this]
  show D.int (0+(j:Int))=_
  rw[Int.zero_add]
theorem jM (bd:GB) (body:GS) (d:D) (ds:List D) (S:SS):loop bd body (d :: ds) S=(bd d S).bind fun S1=>(body S1).bind fun o=>match o with
  | .nx S2=>loop bd body ds S2
  | .ct S2=>loop bd body ds S2
  | .bk S2=>some (.nx S2)
  | .rt u S2=>some (.rt u S2):=rfl
end L2
end
section
set_option Elab.async false
set_option linter.all false
set_option maxRecDepth 100000
namespace Ss
open PySem PySem.Spec PyProof.Rows L2 Sw
@[simp] theorem TV (kvs:List (Str×Int)) (g:GD) (S:SS):Hz kvs g S=(g S).bind fun p=>match p.1 with | .str z=>(iE kvs z).map fun i=>(.int i,p.2) | _=>none:=rfl
@[simp] theorem L6 (kvs:List (Str×Int)) (g gd:GD) (S:SS):yx kvs g gd S=(g S).bind fun p=>(gd p.2).bind fun q=>match p.1,q.1 with | .str z,.int j=>some (.int ((iE kvs z).getD j),q.2) | _,_=>none:=rfl
@[simp] theorem TX (n:Bool) (zs:List Str) (g:GD) (S:SS):zS n zs g S=(g S).map fun p=>(.bl (n != inD p.1 (zs.map D.str)),p.2):=rfl
noncomputable def Sm (d:D):Prop:=v7 20000 d∧cG d≤38
theorem zZ {n:Nat}:∀{ds:List D}{x:D},Fits n ds→x∈ds→v7 n x
 | d :: ds,x,h,hx=>by
  rcases List.mem_cons.mp hx with rfl | q
  ·exact h.1
  ·exact zZ h.2 q
theorem Sm.mem {ds:List D}(h:Sm (.tup ds)){x:D}(hx:x∈ds):Sm x:=⟨zZ h.1.2 hx,by have:bU ds+1≤38:=h.2;have:=w5 hx;omega⟩
theorem Sm.Ft {d:D}(h:Sm d):Ft d≤20000:=by
 cases d with
 | str z=>exact h.1
 | _=>exact Nat.zero_le _
theorem bE (a:D) (r:List D):iD (a :: r) 0=some a:=by
 unfold iD ze
 rw[if_pos (by decide),if_pos (by simp only[List.length_cons];omega)]
 rfl
theorem cg (a b:D) (r:List D):iD (a :: b :: r) 1=some b:=by
 unfold iD ze
 rw[if_pos (by decide),if_pos (by simp only[List.length_cons];omega)]
 rfl
theorem ir (a b c:D) (r:List D):iD (a :: b :: c :: r) 2=some c:=by
 unfold iD ze
 rw[if_pos (by decide),if_pos (by simp only[List.length_cons];omega)]
 rfl
theorem rG (d:D) (l m:Int):nF [.t d,.t (.int l),.t (.int m)]=some (.t (.bl (eZ d l m)),[]):=rfl
theorem xB (d:D) (l m:Int):nD [.t d,.t (.int l),.t (.int m)]=some (.t (.bl (fR d l m)),[]):=rfl
theorem u5 {d:D}(h:Sm d):sW [.t d]=some (.t (.bl (nameB d)),[]):=by
 show(if Ft d≤20000 then _ else _)=_
 rw[if_pos h.Ft]
theorem qp (x:D) (zs:List Str):zI [x,.tup (zs.map D.str)]=some (.t (.bl (inD x (zs.map D.str)))):=by
 have:bU (zs.map D.str)≤40:=by rw[L2.nC];omega
 cases x <;> simp[zI,this]
noncomputable def lH:List Str:=["less","same","more"]
noncomputable def Bo:List Str:=["each","one"]
noncomputable def iu (bs:List Str):D→Bool
 | .tup [a]=>mz a (.str "any")
 | .tup [a,b]=>if mz a (.str "name") then nameB b else inD a (lH.map D.str) && (fR b 0 9 || inD b (bs.map D.str))
 | _=>false
noncomputable def bC (d9:FM) (fE:FM) (eu:FM):GS:=
 (bA (mZ (yg (qB (eF (aU d9 (aP (eF (aC 0)) (aP (eC (.int 1)) (aP (eC (.int 2)) bM))))))) (cC (eT (eC (.bl false)))) fL)
 (bA (mZ (qB (eF (eP wk (aa (oO 0) (aa (eC (.int 1)) au))))) (cC (eP wk (aa (cJ 0 (eC (.int 0))) (aa (eC (.str "any")) au)))) fL)
 (bA (mZ (qB (eF (eP wk (aa (cJ 0 (eC (.int 0))) (aa (eC (.str "name")) au))))) (cC (aU fE (aP (cJ 0 (eC (.int 1))) bM))) fL)
 (cC (eT (eQ (kE (qB (eF (eP zI (aa (cJ 0 (eC (.int 0))) (aa (eF (eP dh (aa (eC (.str "less")) (aa (eC (.str "same")) (aa (eC (.str "more")) au))))) au))))) (qB (eQ (AU (qB (eF (aU eu (aP (cJ 0 (eC (.int 1))) (aP (eC (.int 0)) (aP (eC (.int 9)) bM)))))) (qB (eF (eP zI (aa (cJ 0 (eC (.int 1))) (aa (eF (aC 1)) au)))))))))))))))
noncomputable def lI:FM:=aG 2 (bC nF sW nD)
theorem Fx:∀us r,lI us=some r→aG 2 (bC nF sW nD) us=some r:=fun _ _ h=>h
theorem HK {d : D} (h : Sm d) (bs : List Str) : lI [.t d, .t (.tup (bs.map D.str))] = some (.t (.bl (iu bs d)), []) := by
  have e1:=rG d 1 2
  cases d with
  | tup ds =>
    match ds,h,e1 with
    | [],h,e1=>simp[lI,aG,bC,e1,eZ,iu,aA]
    | [a],h,e1=>
      have ha:=(h.mem (x:=a) (by simp)).2
      have hd:cG a≤40:=by omega
      simp[lI,aG,bC,e1,eZ,iu,aA,bE,hd]
    | [a, b], h, e1 =>
      have ha:=(h.mem (x:=a) (by simp)).2
      have hd:cG a≤40:=by omega
      have hb:=u5 (h.mem (x:=b) (by simp))
      have w:=xB b 0 9
      have i1:=qp a lH
      have i2:=qp b bs
      have tl:lH.map D.str=[.str "less",.str "same",.str "more"]:=rfl
      rw[tl] at i1
      cases q:mz a (.str "name") with
      | true=>simp[lI,aG,bC,e1,eZ,iu,aA,bE,cg,hd,hb,q]
      | false=>
        cases q2:inD a [.str "less",.str "same",.str "more"] with
        | true=>
          rw[q2] at i1
          cases q3:fR b 0 9 with
          | true=>simp[lI,aG,bC,e1,eZ,iu,aA,bE,cg,hd,q,tl,i1,q2,w,q3]
          | false=>simp[lI,aG,bC,e1,eZ,iu,aA,bE,cg,hd,q,tl,i1,q2,w,q3,i2]
        | false=>
          rw[q2] at i1
          simp[lI,aG,bC,e1,eZ,iu,aA,bE,cg,hd,q,tl,i1,q2]
    | a :: b :: c :: r,h,e1=>
      have:¬((r.length:Int)+1+1+1≤2):=by omega
      have e2:eZ (.tup (a :: b :: c :: r)) 1 2=false:=by simp[eZ,this]
      rw[e2] at e1
      simp[lI,aG,bC,e1,iu,aA]
  | _=>simp[lI,aG,bC,e1,eZ,iu,aA]
noncomputable def Qk:List (Str×Int):=[("yes",1),("no",1),("now",2),("not",2),("both",3),("either",3),("next",2),("till",3),("within",3),("always",2),("some",2),("each",4),("one",4)]
noncomputable def Ql:List (Str×Int):=[("yes",1),("no",1),("now",2),("not",1),("both",1),("either",1),("next",1),("till",1),("within",2),("always",1),("some",1),("each",3),("one",3)]
noncomputable def ez (z:Str):Int:=(iE Qk z).getD 0
noncomputable def cE (z:Str):Nat:=((iE Ql z).getD 0).toNat
noncomputable def bL (z:Str):Bool:=inD (.str z) (Bo.map D.str)
noncomputable def jV:List Str:=["yes","no","now","not","both","either","next","till","within","always","some","each","one"]
theorem yJ {kvs:List (Str×Int)}{z:Str}(h:z∉kvs.map (·.1)):iE kvs z=none:=by
 unfold iE
 have:kvs.find? (fun p=>decide (p.1=z))=none:=List.find?_eq_none.mpr fun p hp q=>h (by rw[←of_decide_eq_true q];exact List.mem_map_of_mem hp)
 rw[this]
 rfl
theorem xC {z:Str}(h:z∉jV):ez z=0:=by unfold ez;rw[yJ (show z∉Qk.map (·.1) from h)];rfl
theorem sX {z:Str}(h:ez z≠0):z∈jV:=Classical.byContradiction fun q=>h (xC q)
structure rH (z:Str):Prop where
 Hr:iE Ql z=some ((cE z:Nat):Int)
 s1:1≤cE z
 s4:(cE z:Int)≤ez z
 l4:ez z≤4
 few:ez z - cE z≤2
theorem kq:∀z∈jV,rH z:=by
 intro z hz
 simp only[jV,List.mem_cons,List.not_mem_nil,or_false] at hz
 rcases hz with rfl | rfl | rfl | rfl | rfl | rfl | rfl | rfl | rfl | rfl | rfl | rfl | rfl <;> exact⟨by decide,by decide,by decide,by decide,by decide⟩
noncomputable def jW:GS:=
 (cC (Nj (eF (aC 0)) (some (Hz [("yes",1),("no",1),("now",2),("not",1),("both",1),("either",1),("next",1),("till",1),("within",2),("always",1),("some",1),("each",3),("one",3)] (cJ 0 (eC (.int 0))))) none))
noncomputable def eB:GS:=
 (bA (mZ (qB (zS false ["each","one"] (cJ 0 (eC (.int 0))))) (cC (eP iI (aa (eF (aC 1)) (aa (eF (eP dh (aa (cJ 0 (eC (.int 2))) au))) au)))) fL)
 (cC (aC 1)))
noncomputable def bQ (d9:FM) (fU:FM) (eu:FM) (fE:FM):GS:=
 (bA (mZ (AU (yg (qB (eF (aU d9 (aP (eF (aC 0)) (aP (eC (.int 1)) (aP (eC (.int 4)) bM))))))) (yg (qB (Hu ["str"] (cJ 0 (eC (.int 0))))))) (cC (eT (eC (.bl false)))) fL)
 (bA (dj 2 (eT (cJ 0 (eC (.int 0)))))
 (bA (mZ (qB (eF (eP Dg (aa (yx [("yes",1),("no",1),("now",2),("not",2),("both",3),("either",3),("next",2),("till",3),("within",3),("always",2),("some",2),("each",4),("one",4)] (eF (aC 2)) (eC (.int 0))) (aa (oO 0) au))))) (cC (eT (eC (.bl false)))) fL)
 (bA (mZ (qB (eF (eP wk (aa (eF (aC 2)) (aa (eC (.str "now")) au))))) (cC (aU fU (aP (cJ 0 (eC (.int 1))) (aP (eF (aC 1)) bM)))) fL)
 (bA (mZ (qB (eF (eP wk (aa (eF (aC 2)) (aa (eC (.str "within")) au))))) (cC (aU eu (aP (cJ 0 (eC (.int 1))) (aP (eC (.int 0)) (aP (eC (.int 5)) bM))))) fL)
 (bA (mZ (qB (zS false ["each","one"] (eF (aC 2)))) (cC (eT (eQ (kE (qB (eF (aU fE (aP (cJ 0 (eC (.int 1))) bM)))) (qB (eF (aU fE (aP (cJ 0 (eC (.int 2))) bM)))))))) fL)
 (cC (eT (eC (.bl true))))))))))
noncomputable def gH:FM:=aG 1 jW
theorem DB:∀us r,gH us=some r→aG 1 jW us=some r:=fun _ _ h=>h
theorem Fy (ds:List D) (k:Nat):L2.cutD ds (some (k:Int)) none=ds.drop k:=by
 unfold L2.cutD
 rw[HT.zy,HT.xW]
 by_cases h:k≤ds.length
 ·rw[Nat.min_eq_left h,List.take_of_length_le (by rw[List.length_drop];omega)]
 ·rw[Nat.min_eq_right (by omega),List.drop_of_length_le (Nat.le_refl _),List.drop_of_length_le (by omega),List.take_nil]
theorem u6 {z:Str}{r:List D}(h:rH z):gH [.t (.tup (.str z :: r))]=some (.t (.tup ((.str z :: r).drop (cE z))),[]):=by
 have e:=h.Hr
 unfold Ql at e
 have c:=Fy (.str z :: r) (cE z)
 simp[gH,aG,jW,bE,e,c,aA]
noncomputable def jX:FM:=aG 2 eB
theorem DC:∀us r,jX us=some r→aG 2 eB us=some r:=fun _ _ h=>h
theorem nH {z:Str}{r:List D}{bd:D}(h:bL z=false):jX [.t (.tup (.str z :: r)),.t bd]=some (.t bd,[]):=by
 unfold bL Bo at h
 simp only[List.map_cons,List.map_nil] at h
 simp[jX,aG,eB,bE,h,aA]
theorem xD {z:Str}{a b:D}{r:List D}{bs:List D}(h:bL z=true) (hl:bs.length≤1000):jX [.t (.tup (.str z :: a :: b :: r)),.t (.tup bs)]=some (.t (.tup (bs++[b])),[]):=by
 unfold bL Bo at h
 simp only[List.map_cons,List.map_nil] at h
 have e:bs.length+1≤100000:=by omega
 simp[jX,aG,eB,bE,ir,h,aA,e]
noncomputable def cH (bs:List Str) (z:Str) (r:List D):Bool:=
 if ez z=(r.length:Int)+1 then
  (match r with
  | []=>true
  | a :: r2=>if z="now" then iu bs a else if z="within" then fR a 0 5 else if bL z then(match r2 with | b :: _=>nameB a && nameB b | []=>false) else true)
 else false
noncomputable def mJ (bs:List Str):D→Bool
 | .tup (.str z :: r)=>cH bs z r
 | _=>false
noncomputable def dD:FM:=aG 3 (bQ nF lI nD sW)
theorem Bp:∀us r,dD us=some r→aG 3 (bQ nF lI nD sW) us=some r:=fun _ _ h=>h
theorem HL (z:Str):ez z≤4:=by
 by_cases h:ez z=0
 ·omega
 ·exact(kq z (sX h)).l4
theorem DE {d : D} {bd : D} (h : ∀ z r, d ≠ .tup (.str z :: r)) : dD [.t d, .t bd] = some (.t (.bl false), []) := by
  have e1:=rG d 1 4
  cases d with
  | tup ds =>
    cases ds with
    | nil=>simp[dD,aG,bQ,e1,eZ,aA]
    | cons a r=>
      have e2:iG a=false:=by
        cases a with
        | str z=>exact absurd rfl (h z r)
        | _=>rfl
      cases q:eZ (.tup (a :: r)) 1 4 with
      | false=>rw[q] at e1;simp[dD,aG,bQ,e1,aA]
      | true=>rw[q] at e1;simp[dD,aG,bQ,e1,aA,bE,eV,jB,e2]
  | _=>simp[dD,aG,bQ,e1,eZ,aA]
theorem iO (z:Str):iG (.str z)=true:=rfl
theorem DF {d : D} (h : Sm d) (bs : List Str) : dD [.t d, .t (.tup (bs.map D.str))] = some (.t (.bl (mJ bs d)), []) := by
  by_cases hz:∃z r,d= .tup (.str z :: r)
  · obtain ⟨z, r, rfl⟩ := hz
    have e1:=rG (.tup (.str z :: r)) 1 4
    have hl:ez z=(iE Qk z).getD 0:=rfl
    unfold Qk at hl
    have dz:cG (.str z)=0:=rfl
    have es:mJ bs (.tup (.str z :: r))=cH bs z r:=rfl
    rw[es]
    by_cases q:(r.length:Int)+1≤4
    · have e2 : eZ (.tup (.str z :: r)) 1 4 = true := by
        have:(1:Int)≤(r.length:Int)+1:=by omega
        simp[eZ,q,this]
      rw[e2] at e1
      unfold cH
      by_cases c:ez z=(r.length:Int)+1
      · rw[if_pos c]
        rw[hl] at c
        cases r with
        | nil =>
          by_cases n1:z="now"
          · subst n1;exact absurd c (by decide)
          · by_cases n2:z="within"
            · subst n2;exact absurd c (by decide)
            · cases n3:bL z with
              | true=>
                exfalso
                simp only[bL,Bo,inD,List.map_cons,List.map_nil,List.any_cons,List.any_nil,Bool.or_false,yH,Bool.or_eq_true,beq_iff_eq] at n3
                rcases n3 with rfl | rfl <;> exact absurd c (by decide)
              | false=>
                unfold bL Bo at n3
                simp only[List.map_cons,List.map_nil] at n3
                simp at c
                simp[dD,aG,bQ,e1,aA,bE,eV,jB,iO,c,n1,n2,n3]
        | cons a r2=>
          have ha:=h.mem (x:=a) (by simp)
          by_cases n1:z="now"
          · have t:=HK ha bs
            simp at c
            simp[dD,aG,bQ,e1,aA,bE,cg,eV,jB,iO,c,eq_true n1,t]
          · by_cases n2:z="within"
            · have w:=xB a 0 5
              simp at c
              simp[dD,aG,bQ,e1,aA,bE,cg,eV,jB,iO,c,n1,eq_true n2,w]
            · cases n3:bL z with
              | true=>
                have n4:=n3
                unfold bL Bo at n4
                simp only[List.map_cons,List.map_nil] at n4
                have na:=u5 ha
                cases r2 with
                | nil=>
                  exfalso
                  simp only[List.length_singleton] at c
                  simp only[bL,Bo,inD,List.map_cons,List.map_nil,List.any_cons,List.any_nil,Bool.or_false,yH,Bool.or_eq_true,beq_iff_eq] at n3
                  rcases n3 with rfl | rfl <;> exact absurd c (by decide)
                | cons b r3=>
                  have nb:=u5 (h.mem (x:=b) (by simp))
                  simp at c
                  cases qa:nameB a with
                  | true=>rw[qa] at na;simp[dD,aG,bQ,e1,aA,bE,cg,ir,eV,jB,iO,c,n1,n2,n4,na,nb,qa]
                  | false=>rw[qa] at na;simp[dD,aG,bQ,e1,aA,bE,cg,ir,eV,jB,iO,c,n1,n2,n4,na,nb,qa]
              | false=>
                have n4:=n3
                unfold bL Bo at n4
                simp only[List.map_cons,List.map_nil] at n4
                simp at c
                simp[dD,aG,bQ,e1,aA,bE,cg,eV,jB,iO,c,n1,n2,n4]
      · rw[if_neg c]
        rw[hl] at c
        simp[dD,aG,bQ,e1,aA,bE,eV,jB,iO,c]
    · have e2:eZ (.tup (.str z :: r)) 1 4=false:=by simp[eZ,q]
      rw[e2] at e1
      have c:¬ez z=(r.length:Int)+1:=by have:=HL z;omega
      unfold cH
      rw[if_neg c]
      simp[dD,aG,bQ,e1,aA]
  · have:mJ bs d=false:=by
      unfold mJ
      split
      · rename_i z r;exact absurd ⟨z,r,rfl⟩ hz
      · rfl
    rw[this]
    exact DE fun z r e=>hz ⟨z,r,e⟩
end Ss
end
section
set_option Elab.async false
set_option linter.all false
set_option maxRecDepth 100000
namespace Ss
open PySem PySem.Spec PyProof.Rows L2 Sw
noncomputable def strOf:D→Str
 | .str z=>z
 | _=>""
noncomputable def cN (bs:List Str) (z:Str) (r:List D):List Str:=if bL z=true then bs++[strOf (r.getD 1 .cI)] else bs
noncomputable def bx (z:Str) (r:List D):List D:=(.str z :: r).drop (cE z)
noncomputable def bZ:Nat→List Str→D→Bool
 | 0,_,_=>false
 | n+1,bs,.tup (.str z :: r)=>cH bs z r && (bx z r).all (bZ n (cN bs z r))
 | _+1,_,_=>false
noncomputable def dJ (jY:FM) (bN:FM) (bh:FM) (dm:FM):GS:=
 (bA (mZ (AU (qB (eF (eP wk (aa (eF (aC 2)) (aa (eC (.int 0)) au))))) (yg (qB (eF (aU jY (aP (eF (aC 0)) (aP (eF (aC 1)) bM))))))) (cC (eT (eC (.bl false)))) fL)
 (bA (dj 3 (aU bN (aP (eF (aC 0)) (aP (eF (aC 1)) bM))))
 (cC (eP E9 (aa (eF (uL [3,2] (p8 (eF (aU bh (aP (eF (aC 0)) bM)))) uK (eF (aU dm (aP (eF (aC 0)) (aP (eF (aC 1)) (aP (eF (eP oK (aa (eF (aC 2)) (aa (eC (.int 1)) au)))) bM))))))) au)))))
noncomputable def nI:Nat→FM
 | 0=>fun _=>none
 | j+1=>aG 4 (dJ dD jX gH (nI j))
theorem Fz (j:Nat):∀us r,nI (j+1) us=some r→aG 4 (dJ dD jX gH (nI j)) us=some r:=fun _ _ h=>h
theorem jZ {bs:List Str}{z:Str}{r:List D}(h:cH bs z r=true):ez z=(r.length:Int)+1∧rH z∧z∈jV:=by
 unfold cH at h
 split at h
 ·rename_i c
  have:=sX (z:=z) (by omega)
  exact⟨c,kq z this,this⟩
 ·cases h
theorem lJ {d:D}(h:nameB d=true):∃y,d= .str y:=by
 cases d with
 | str z=>exact⟨z,rfl⟩
 | _=>cases h
theorem rJ {z:Str}(h:bL z=true):z="each"∨z="one":=by
 simp only[bL,Bo,inD,List.map_cons,List.map_nil,List.any_cons,List.any_nil,Bool.or_false,yH,Bool.or_eq_true,beq_iff_eq] at h
 rcases h with h | h
 ·exact .inl h.symm
 ·exact .inr h.symm
theorem DG {bs:List Str}{z:Str}{r:List D}(h:cH bs z r=true) (hb:bL z=true):∃a y p,r=[a,.str y,p]∧nameB a=true∧nameB (.str y)=true:=by
 obtain⟨c,_,_⟩:=jZ h
 have hl:ez z=4:=by rcases rJ hb with rfl | rfl <;> decide
 have n1:¬z="now":=by rcases rJ hb with rfl | rfl <;> decide
 have n2:¬z="within":=by rcases rJ hb with rfl | rfl <;> decide
 unfold cH at h
 rw[if_pos c] at h
 match r,c,h with
 | [],c,h=>simp at c;omega
 | [a],c,h=>simp at c;omega
 | [a,b],c,h=>simp at c;omega
 | [a,b,p],c,h=>
  simp only[n1,n2,if_false,hb,if_true,Bool.and_eq_true] at h
  obtain⟨y,rfl⟩:=lJ h.2
  exact⟨a,y,p,rfl,h.1,h.2⟩
 | a :: b :: p :: q :: t,c,h=>simp only[List.length_cons] at c;omega
theorem FA {bs:List Str}{z:Str}{r:List D}(h:cH bs z r=true) (hl:bs.length≤1000):jX [.t (.tup (.str z :: r)),.t (.tup (bs.map D.str))]=some (.t (.tup ((cN bs z r).map D.str)),[]):=by
 cases hb:bL z with
 | false=>
  rw[nH hb]
  unfold cN
  rw[hb]
  rfl
 | true=>
  obtain⟨a,y,p,rfl,_,_⟩:=DG h hb
  rw[xD hb (by rw[List.length_map];exact hl)]
  unfold cN
  rw[if_pos hb,List.map_append]
  rfl
theorem DH (bs:List Str) (z:Str) (r:List D):(cN bs z r).length≤bs.length+1:=by
 unfold cN
 split
 ·rw[List.length_append];exact Nat.le_refl _
 ·omega
theorem DI {z:Str}{r:List D}{x:D}(h:rH z) (hx:x∈bx z r):x∈r:=by
 unfold bx at hx
 obtain⟨k,hk⟩:∃k,cE z=k+1:=⟨cE z - 1,by have:=h.s1;omega⟩
 rw[hk,List.drop_succ_cons] at hx
 exact List.mem_of_mem_drop hx
theorem rK {z:Str}{r:List D}(h:rH z) (c:ez z=(r.length:Int)+1):(bx z r).length≤2:=by
 unfold bx
 rw[List.length_drop,List.length_cons]
 have:=h.few
 omega
theorem Bq {f1 f2 f3 f4:FM}{d bd:D}{m:Int}(m0:m≠0) (e1:f1 [.t d,.t bd]=some (.t (.bl false),[])):aG 4 (dJ f1 f2 f3 f4) [.t d,.t bd,.t (.int m)]=some (.t (.bl false),[]):=by
 simp[aG,dJ,aA,m0,e1]
theorem DJ {f1 f2 f3 f4:FM}{d bd ib:D}{m:Int}{pl ql:List D}{qs:List Bool}{b:Bool}(m0:m≠0) (e1:f1 [.t d,.t bd]=some (.t (.bl true),[])) (e2:f2 [.t d,.t bd]=some (.t ib,[])) (e3:f3 [.t d]=some (.t (.tup pl),[]))
  (e4:oV [3,2] uK (eF (aU f4 (aP (eF (aC 0)) (aP (eF (aC 1)) (aP (eF (eP oK (aa (eF (aC 2)) (aa (eC (.int 1)) au)))) bM))))) pl [some (.t d),some (.t bd),some (.t (.int m)),some (.t ib)] []=some (ql,[some (.t d),some (.t bd),some (.t (.int m)),some (.t ib)])) (e5:pl.length≤100000) (e6:jC ql=some qs) (e7:qs.all id=b):aG 4 (dJ f1 f2 f3 f4) [.t d,.t bd,.t (.int m)]=some (.t (.bl b),[]):=by
 simp[aG,dJ,aA,m0,e1,e2,gn,e3,e4,e5,e6,←e7]
theorem CC : ∀ (n j : Nat), n ≤ j → ∀ (d : D) (bs : List Str), Sm d → bs.length + n ≤ 100 → nI (j + 1) [.t d, .t (.tup (bs.map D.str)), .t (.int (n : Int))] = some (.t (.bl (bZ n bs d)), [])
  | 0,j,_,d,bs,_,_=>by simp[nI,aG,dJ,aA,bZ]
  | n+1,0,h,_,_,_,_=>by omega
  | n + 1, j + 1, hj, d, bs, hd, hb => by
    have e1:=DF hd bs
    have n0:¬((n:Int)+1=0):=by omega
    have ef:bZ (n+1) bs d=(mJ bs d && (match d with | .tup (.str z :: r)=>(bx z r).all (bZ n (cN bs z r)) | _=>false)):=by
      cases d with
      | tup ds=>
        cases ds with
        | nil=>rfl
        | cons a r=>cases a <;> rfl
      | _=>rfl
    rw[ef]
    cases q:mJ bs d with
    | false=>
      rw[q] at e1
      exact Bq (by omega) e1
    | true=>
      rw[q] at e1
      obtain⟨z,r,rfl⟩:∃z r,d= .tup (.str z :: r):=by
        unfold mJ at q
        split at q
        · exact⟨_,_,rfl⟩
        · cases q
      have hs:cH bs z r=true:=q
      obtain⟨c,hh,_⟩:=jZ hs
      have e2:=FA hs (by omega)
      have e3:=u6 (r:=r) hh
      have il:=DH bs z r
      have e4:=rB (cap:=[3,2]) (g:=eF (aU (nI (j+1)) (aP (eF (aC 0)) (aP (eF (aC 1)) (aP (eF (eP oK (aa (eF (aC 2)) (aa (eC (.int 1)) au)))) bM))))) (S:=[some (.t (.tup (.str z :: r))),some (.t (.tup (bs.map D.str))),some (.t (.int ((n+1:Nat):Int))),some (.t (.tup ((cN bs z r).map D.str)))])
        (ts:=[.tup ((cN bs z r).map D.str),.int ((n+1:Nat):Int)]) rfl (fun p=>.bl (bZ n (cN bs z r) p)) (bx z r) [] (by
          intro p hp
          have ih:=CC n j (by omega) p (cN bs z r) (hd.mem (List.mem_cons_of_mem _ (DI hh hp))) (by omega)
          have en:((n+1:Nat):Int) - 1=(n:Int):=by omega
          simp[-Int.natCast_add,en,ih])
      have e5:(bx z r).length≤100000:=by have:=rK hh c;omega
      have e6:=rC (bZ n (cN bs z r)) (bx z r)
      rw[List.nil_append] at e4
      have e7:((bx z r).map (bZ n (cN bs z r))).all id=(bx z r).all (bZ n (cN bs z r)):=by rw[List.all_map];rfl
      exact DJ (by omega) e1 e2 e3 e4 e5 e6 (by rw[e7,Bool.true_and])
noncomputable def dF:Nat→D→List D
 | 0,_=>[]
 | n+1,.tup (.str z :: r)=>.tup (.str z :: r) :: (bx z r).flatMap (dF n)
 | _+1,d=>[d]
noncomputable def rL (bh:FM) (cW:FM):GS:=
 (wY (eT (eM 1 kj (aa (eF (aU cW (aP (eF (aC 2)) bM))) au))))
noncomputable def nJ (bh:FM) (cW:FM):GS:=
 (bA (dj 1 (eP gw (aa (eF (aC 0)) au)))
 (bA (tU (bName 2) (p8 (eF (aU bh (aP (eF (aC 0)) bM)))) (rL bh cW))
 (cC (aC 1))))
noncomputable def u9:Nat→FM
 | 0=>fun _=>none
 | j+1=>aG 3 (nJ gH (u9 j))
theorem HM (j:Nat):∀us r,u9 (j+1) us=some r→aG 3 (nJ gH (u9 j)) us=some r:=fun _ _ h=>h
theorem vc {f:D→List D}{k:Nat}:∀{ps:List D},(∀p∈ps,(f p).length≤k)→(ps.flatMap f).length≤k * ps.length
 | [],_=>Nat.zero_le _
 | p :: ps,h=>by
  have ih:=vc (f:=f) (k:=k) (ps:=ps) fun q hq=>h q (List.mem_cons_of_mem _ hq)
  have h1:=h p List.mem_cons_self
  rw[List.flatMap_cons,List.length_append,List.length_cons,Nat.mul_succ]
  omega
theorem j0 {n : Nat} {bs : List Str} {d : D} (h : bZ (n + 1) bs d = true) : ∃ z r, d = .tup (.str z :: r) ∧ cH bs z r = true ∧ ∀ p ∈ bx z r, bZ n (cN bs z r) p = true := by
  cases d with
  | tup ds =>
    cases ds with
    | nil=>cases h
    | cons a r=>
      cases a with
      | str z=>
        obtain⟨h1,h2⟩:=Bool.and_eq_true_iff.mp (show(cH bs z r && (bx z r).all (bZ n (cN bs z r)))=true from h)
        exact⟨z,r,rfl,h1,fun p hp=>List.all_eq_true.mp h2 p hp⟩
      | _=>cases h
  | _=>cases h
theorem uv:∀{n:Nat}{bs:List Str}{d:D},bZ n bs d=true→(dF n d).length≤3 ^ n
 | 0,_,_,h=>by cases h
 | n+1,bs,d,h=>by
  obtain⟨z,r,rfl,h1,h2⟩:=j0 h
  obtain⟨c,hh,_⟩:=jZ h1
  have:=vc (f:=dF n) (k:=3 ^ n) (ps:=bx z r) fun p hp=>uv (h2 p hp)
  have h3:=Nat.mul_le_mul_left (3 ^ n) (rK hh c)
  have h4:1≤3 ^ n:=Nat.one_le_pow _ _ (by decide)
  show((bx z r).flatMap (dF n)).length+1≤3 ^ (n+1)
  rw[Nat.pow_succ]
  omega
theorem Br : ∀ (n j : Nat), n ≤ j → n ≤ 8 → ∀ (d : D) (bs : List Str), bZ n bs d = true → u9 j [.t d] = some (.m (.lst (dF n d)), [])
  | 0,_,_,_,_,_,h=>by cases h
  | n+1,0,h,_,_,_,_=>by omega
  | n + 1, j + 1, hj, h8, d, bs, h => by
    obtain⟨z,r,rfl,h1,h2⟩:=j0 h
    obtain⟨c,hh,_⟩:=jZ h1
    have e3:gH [.t (.tup (.str z :: r))]=some (.t (.tup (bx z r)),[]):=u6 (r:=r) hh
    have pl:=rK hh c
    have pw:3 ^ n≤3 ^ 7:=Nat.pow_le_pow_right (by decide) (by omega)
    obtain⟨S',e,x2,q2,hs⟩:=uZ (bd:=bName 2) (body:=rL gH (u9 j)) (bx z r)
      (fun k S=>∃x2,iN x2=false∧S=[some (.t (.tup (.str z :: r))),some (.m (.lst (.tup (.str z :: r) :: ((bx z r).take k).flatMap (dF n)))),x2])
      [some (.t (.tup (.str z :: r))),some (.m (.lst [.tup (.str z :: r)])),none] ⟨none,rfl,rfl⟩ (by
        rintro k p S hp ⟨x2,q2,rfl⟩
        have hm:=List.mem_of_getElem? hp
        have ih:=Br n j (by omega) (by omega) p _ (h2 p hm)
        have il:=uv (h2 p hm)
        have fl:=vc (f:=dF n) (k:=3 ^ n) (ps:=(bx z r).take k) fun p hp=>uv (h2 p (List.mem_of_mem_take hp))
        have tl:((bx z r).take k).length≤2:=by rw[List.length_take];omega
        have fl2:=Nat.mul_le_mul_left (3 ^ n) tl
        have h37:(3:Nat) ^ 7=2187:=by decide
        have b1:(((bx z r).take k).flatMap (dF n)).length+1+(dF n p).length≤100000:=by omega
        refine⟨[some (.t (.tup (.str z :: r))),some (.m (.lst (.tup (.str z :: r) :: ((bx z r).take k).flatMap (dF n)))),some (.t p)],_,by simp[-ig,fO,q2],?_,some (.t p),rfl,rfl⟩
        rw[List.take_succ,hp]
        simp only[Option.toList_some]
        rw[List.flatMap_append]
        generalize ((bx z r).take k).flatMap (dF n)=A at *
        simp[rL,ih,b1])
    rw[List.take_length] at hs
    subst hs
    show aG 3 _ _=some (.m (.lst (.tup (.str z :: r) :: (bx z r).flatMap (dF n))),[])
    simp[aG,nJ,aA,gn,e3,e]
noncomputable def jr (n:Nat) (d:D):Nat:=(dF n d).length
noncomputable def tZ:D→Bool
 | .tup (.str z :: _)=>bL z
 | _=>false
noncomputable def nK (n:Nat) (d:D):Nat:=((dF n d).filter tZ).length
theorem Aa:∀{n:Nat}{bs:List Str}{d:D},bZ n bs d=true→∀x∈dF n d,∃z r,x= .tup (.str z :: r)
  | 0,_,_,h=>by cases h
  | n + 1, bs, d, h => by
    obtain⟨z,r,rfl,h1,h2⟩:=j0 h
    intro x hx
    rcases List.mem_cons.mp (show x∈.tup (.str z :: r) :: (bx z r).flatMap (dF n) from hx) with q | q
    · exact⟨z,r,q⟩
    · obtain⟨p,hp,hx⟩:=List.mem_flatMap.mp q
      exact Aa (h2 p hp) x hx
noncomputable def vd (cW:FM):GS:=
 (cC (eP uI (aa (eF (aU cW (aP (eF (aC 0)) bM))) au)))
noncomputable def xE:FM:=aG 1 (vd (u9 9))
theorem FD:∀us r,xE us=some r→aG 1 (vd (u9 9)) us=some r:=fun _ _ h=>h
theorem HN {n:Nat}{bs:List Str}{d:D}(hn:n≤8) (h:bZ n bs d=true):xE [.t d]=some (.t (.int (jr n d:Nat)),[]):=by
 have e:=Br n 9 (by omega) hn d bs h
 unfold jr
 simp[xE,aG,vd,e,aA]
noncomputable def iw (cW:FM):GS:=
 (cC (eP uI (aa (eF (uL [] (p8 (eF (aU cW (aP (eF (aC 0)) bM)))) (qB (zS false ["each","one"] (cJ 0 (eC (.int 0))))) (eF (aC 0)))) au)))
noncomputable def xF:FM:=aG 1 (iw (u9 9))
theorem FE:∀us r,xF us=some r→aG 1 (iw (u9 9)) us=some r:=fun _ _ h=>h
theorem HP {n:Nat}{bs:List Str}{d:D}(hn:n≤8) (h:bZ n bs d=true):xF [.t d]=some (.t (.int (nK n d:Nat)),[]):=by
 have e:=Br n 9 (by omega) hn d bs h
 have pw:3 ^ n≤3 ^ 8:=Nat.pow_le_pow_right (by decide) (by omega)
 have al:=uv h
 have e2:=uu (cap:=[]) (q:=qB (zS false ["each","one"] (cJ 0 (eC (.int 0))))) (g:=eF (aC 0)) (S:=[some (.t d)]) (ts:=[]) rfl tZ (fun d=>d) (dF n d) [] (by
  intro x hx
  obtain⟨z,r,rfl⟩:=Aa h x hx
  have:tZ (.tup (.str z :: r))=bL z:=rfl
  rw[this]
  unfold bL Bo
  simp[bE]) (by intro x hx _;simp)
 rw[List.nil_append,List.map_id'] at e2
 have h38:(3:Nat) ^ 8=6561:=by decide
 have e3:(dF n d).length≤100000:=by omega
 unfold nK
 simp[xF,aG,iw,e,gn,e2,e3,aA]
noncomputable def eY (dm:FM) (Ab:FM) (ju:FM):GS:=
 (bA (mZ (yg (qB (eF (aU dm (aP (eF (aC 0)) (aP (eF (eP dh au)) (aP (eC (.int 8)) bM))))))) (cC (eT (eC (.bl false)))) fL)
 (cC (eT (eQ (kE (qB (eF (eP Kl (aa (eF (aU Ab (aP (eF (aC 0)) bM))) (aa (eC (.int 16)) au))))) (qB (eF (eP Kl (aa (eF (aU ju (aP (eF (aC 0)) bM))) (aa (eC (.int 3)) au))))))))))
noncomputable def FF (d:D):Bool:=bZ 8 [] d && (decide (jr 8 d≤16) && decide (nK 8 d≤3))
noncomputable def j3:FM:=aG 1 (eY (nI 9) xE xF)
theorem DK:∀us r,j3 us=some r→aG 1 (eY (nI 9) xE xF) us=some r:=fun _ _ h=>h
theorem FG {d : D} (h : Sm d) : j3 [.t d] = some (.t (.bl (FF d)), []) := by
  have e1:=CC 8 8 (Nat.le_refl _) d [] h (by decide)
  simp only[List.map_nil] at e1
  unfold FF
  have e1:nI 9 [.t d,.t (.tup []),.t (.int 8)]=some (.t (.bl (bZ 8 [] d)),[]):=e1
  cases q:bZ 8 [] d with
  | false=>rw[q] at e1;simp[j3,aG,eY,e1,aA]
  | true=>
    rw[q] at e1
    have e2:=HN (by decide) q
    have e3:=HP (by decide) q
    by_cases c1:jr 8 d≤16
    · have c2:(jr 8 d:Int)≤16:=by omega
      by_cases c3:nK 8 d≤3
      · have c4:(nK 8 d:Int)≤3:=by omega
        simp[j3,aG,eY,e1,e2,e3,aA,c1,c2,c3,c4]
      · have c4:¬(nK 8 d:Int)≤3:=by omega
        simp[j3,aG,eY,e1,e2,e3,aA,c1,c2,c3,c4]
    · have c2:¬(jr 8 d:Int)≤16:=by omega
      simp[j3,aG,eY,e1,e2,aA,c1,c2]
end Ss
end
section
set_option Elab.async false
set_option linter.all false
set_option maxRecDepth 100000
namespace Ss
open PySem PySem.Spec PyProof.Rows L2 Sw
@[simp] theorem Qm (wu:List (Str×GD)) (S:SS):oW wu S=(mD wu S).map fun p=>(.m (.dct (cM [] p.1)),p.2):=rfl
@[simp] theorem HQ (S:SS):mD [] S=some ([],S):=rfl
@[simp] theorem Gw (z:Str) (g:GD) (r:List (Str×GD)) (S:SS):mD ((z,g) :: r) S=(g S).bind fun p=>(mD r p.2).map fun q=>((.inr z,p.1) :: q.1,q.2):=rfl
@[simp] theorem Qn (i:Nat) (ge:GE) (S:SS):zU i ge S=match S[i]? with
 | some (some u)=>if uX u then(ge S).bind fun p=>match p.1 with
  | .m (.dct more)=>yi p.2 i fun o=>match o with
   | .dct kvs=>if kvs.length+more.length≤100000 then some (.cI,.dct (cM kvs more)) else none
   | _=>none
  | _=>none
  else none
 | _=>none:=rfl
@[simp] theorem Qo (i:Nat) (gk gd:GD) (S:SS):Cv i gk gd S=match S[i]? with
 | some (some u)=>if uX u then(gk S).bind fun p=>(gd p.2).bind fun q=>match q.2[i]? with
  | some (some u2)=>(Ff u2 p.1).map fun o=>(o.getD q.1,q.2)
  | _=>none
  else none
 | _=>none:=rfl
@[simp] theorem Qp (kvs:List (Key×D)):uX (.m (.dct kvs))=true:=rfl
@[simp] theorem TY (kvs:List (Key×D)) (k:D):Ff (.m (.dct kvs)) k=(keyOf k).map (cD kvs):=rfl
noncomputable def Bs (n:Int) (ps:List Int):D:=.tup [.int n,.lst (ps.map D.int)]
noncomputable def HR:List (Key×D):=[(.inr "yes",Bs 1 []),(.inr "no",Bs 1 []),(.inr "now",Bs 2 []),(.inr "not",Bs 2 [1]),(.inr "next",Bs 2 [1]),(.inr "always",Bs 2 [1])]
noncomputable def HS:List (Key×D):=[(.inr "some",Bs 2 [1]),(.inr "both",Bs 3 [1,2]),(.inr "either",Bs 3 [1,2]),(.inr "till",Bs 3 [1,2])]
noncomputable def K6:List (Key×D):=[(.inr "within",Bs 3 [2]),(.inr "each",Bs 4 [3]),(.inr "one",Bs 4 [3])]
noncomputable def Qq:List (Key×D):=cM (cM (cM [] HR) (cM [] HS)) (cM [] K6)
theorem HU (kvs:List (Key×D)) (k:Key) (d:D):(putD kvs k d).length≤kvs.length+1:=by
 unfold putD
 split
 ·rw[List.length_map];omega
 ·rw[List.length_append];exact Nat.le_refl _
theorem lK:∀(more kvs:List (Key×D)),(cM kvs more).length≤kvs.length+more.length
 | [],kvs=>Nat.le_refl _
 | p :: r,kvs=>by
  have h1:=lK r (putD kvs p.1 p.2)
  have h2:=HU kvs p.1 p.2
  show(cM (putD kvs p.1 p.2) r).length≤_
  rw[List.length_cons]
  omega
noncomputable def iy:GS:=
 (bA (dj 1 (oW [("yes",(eF (eP dh (aa (eC (.int 1)) (aa (eF (eP gw au)) au))))),("no",(eF (eP dh (aa (eC (.int 1)) (aa (eF (eP gw au)) au))))),("now",(eF (eP dh (aa (eC (.int 2)) (aa (eF (eP gw au)) au))))),("not",(eF (eP dh (aa (eC (.int 2)) (aa (eF (eP gw (aa (eC (.int 1)) au))) au))))),("next",(eF (eP dh (aa (eC (.int 2)) (aa (eF (eP gw (aa (eC (.int 1)) au))) au))))),("always",(eF (eP dh (aa (eC (.int 2)) (aa (eF (eP gw (aa (eC (.int 1)) au))) au)))))]))
 (bA (wY (eT (zU 1 (oW [("some",(eF (eP dh (aa (eC (.int 2)) (aa (eF (eP gw (aa (eC (.int 1)) au))) au))))),("both",(eF (eP dh (aa (eC (.int 3)) (aa (eF (eP gw (aa (eC (.int 1)) (aa (eC (.int 2)) au)))) au))))),("either",(eF (eP dh (aa (eC (.int 3)) (aa (eF (eP gw (aa (eC (.int 1)) (aa (eC (.int 2)) au)))) au))))),("till",(eF (eP dh (aa (eC (.int 3)) (aa (eF (eP gw (aa (eC (.int 1)) (aa (eC (.int 2)) au)))) au)))))]))))
 (bA (wY (eT (zU 1 (oW [("within",(eF (eP dh (aa (eC (.int 3)) (aa (eF (eP gw (aa (eC (.int 2)) au))) au))))),("each",(eF (eP dh (aa (eC (.int 4)) (aa (eF (eP gw (aa (eC (.int 3)) au))) au))))),("one",(eF (eP dh (aa (eC (.int 4)) (aa (eF (eP gw (aa (eC (.int 3)) au))) au)))))]))))
 (cC (eT (Cv 1 (eF (aC 0)) (eF (eP dh (aa (eC (.int 0)) (aa (eF (eP gw au)) au))))))))))
noncomputable def iP:FM:=aG 2 iy
theorem DL:∀us r,iP us=some r→aG 2 iy us=some r:=fun _ _ h=>h
theorem DM (z:Str):iP [.t (.str z)]=some (.t ((cD Qq (.inr z)).getD (Bs 0 [])),[]):=by
 have l1:=lK HR []
 have l2:=lK HS []
 have l3:=lK K6 []
 have l4:=lK (cM [] HS) (cM [] HR)
 have k1:HR.length=6:=rfl
 have k2:HS.length=4:=rfl
 have k3:K6.length=3:=rfl
 rw[List.length_nil] at l1 l2 l3
 have b1:(cM [] HR).length+(cM [] HS).length≤100000:=by omega
 have b2:(cM (cM [] HR) (cM [] HS)).length+(cM [] K6).length≤100000:=by omega
 clear l1 l2 l3 l4 k1 k2 k3
 unfold Qq
 unfold HR HS K6 at *
 simp only[Bs,List.map_nil,List.map_cons] at *
 simp[iP,aG,iy,aA,b1,b2]
noncomputable def TZ (z:Str):List Int:=(List.range (ez z - cE z).toNat).map fun(k:Nat)=>(cE z:Int)+k
theorem FH {kvs:List (Key×D)}{k:Key}{d:D}{x:Key}(h:x∈(putD kvs k d).map (·.1)):x∈kvs.map (·.1)∨x=k:=by
 unfold putD at h
 split at h
 ·rw[List.map_map] at h
  obtain⟨kv,h1,h2⟩:=List.mem_map.mp h
  simp only[Function.comp] at h2
  split at h2
  ·exact .inl (List.mem_map.mpr ⟨kv,h1,h2⟩)
  ·exact .inl (List.mem_map.mpr ⟨kv,h1,h2⟩)
 ·rw[List.map_append] at h
  rcases List.mem_append.mp h with q | q
  ·exact .inl q
  ·exact .inr (by simpa using q)
theorem mK:∀{more kvs:List (Key×D)}{x:Key},x∈(cM kvs more).map (·.1)→x∈kvs.map (·.1)∨x∈more.map (·.1)
  | [],kvs,x,h=>.inl h
  | p :: r, kvs, x, h => by
    rcases mK (more:=r) (kvs:=putD kvs p.1 p.2) h with q | q
    · rcases FH q with y | y
      · exact .inl y
      · exact .inr (by rw[y];exact List.mem_cons_self)
    · exact .inr (List.mem_cons_of_mem _ q)
theorem Bt {kvs:List (Key×D)}{k:Key}(h:k∉kvs.map (·.1)):cD kvs k=none:=by
 unfold cD
 have:kvs.find? (fun kv=>decide (kv.1=k))=none:=List.find?_eq_none.mpr fun p hp q=>h (by rw[←of_decide_eq_true q];exact List.mem_map_of_mem hp)
 rw[this]
 rfl
theorem lM (z : Str) : iP [.t (.str z)] = some (.t (.tup [.int (ez z), .lst ((TZ z).map D.int)]), []) := by
  rw[DM]
  by_cases h:z∈jV
  · simp only[jV,List.mem_cons,List.not_mem_nil,or_false] at h
    rcases h with rfl | rfl | rfl | rfl | rfl | rfl | rfl | rfl | rfl | rfl | rfl | rfl | rfl <;> rfl
  · have e1:cD Qq (.inr z)=none:=Bt fun q=>by
      unfold Qq at q
      have k1:(.inr z:Key)∈HR.map (·.1)→False:=fun q=>by
        apply h
        simp only[HR,List.map_cons,List.map_nil,List.mem_cons,List.not_mem_nil,or_false,Sum.inr.injEq] at q
        rcases q with rfl | rfl | rfl | rfl | rfl | rfl <;> decide
      have k2:(.inr z:Key)∈HS.map (·.1)→False:=fun q=>by
        apply h
        simp only[HS,List.map_cons,List.map_nil,List.mem_cons,List.not_mem_nil,or_false,Sum.inr.injEq] at q
        rcases q with rfl | rfl | rfl | rfl <;> decide
      have k3:(.inr z:Key)∈K6.map (·.1)→False:=fun q=>by
        apply h
        simp only[K6,List.map_cons,List.map_nil,List.mem_cons,List.not_mem_nil,or_false,Sum.inr.injEq] at q
        rcases q with rfl | rfl | rfl <;> decide
      have one:∀L:List (Key×D),((.inr z:Key)∈L.map (·.1)→False)→(.inr z:Key)∈(cM [] L).map (·.1)→False:=fun L k q=>by
        rcases mK q with q | q
        · cases q
        · exact k q
      rcases mK q with q | q
      · rcases mK q with q | q
        · exact one _ k1 q
        · exact one _ k2 q
      · exact one _ k3 q
    rw[e1]
    have e2:ez z=0:=xC h
    have e3:TZ z=[]:=by unfold TZ;rw[e2];rw[show((0:Int) - cE z).toNat=0 by omega];rfl
    rw[e2,e3]
    rfl
theorem Bu (x:D) (zs:List Str):mC [x,.tup (zs.map D.str)]=some (.t (.bl (!inD x (zs.map D.str)))):=by
 have:bU (zs.map D.str)≤40:=by rw[L2.nC];omega
 cases x <;> simp[mC,this]
end Ss
end
section
set_option Elab.async false
set_option linter.all false
set_option maxRecDepth 100000
namespace Ss
open PySem PySem.Spec PyProof.Rows L2 Sw
@[simp] theorem T6 (i:Nat) (g:GE) (S:SS):Su i g S=g (IV i S):=rfl
section
variable {f1 f2 f3 f4 f5:FM}{z:Str}{r:List D}{vs dp:D}{c0 c1:Int}
theorem mL (z:Str):zI [.str z,.tup [.str "each",.str "one"]]=some (.t (.bl (bL z))):=qp (.str z) Bo
end
end Ss
end
section
set_option Elab.async false
set_option linter.all false
set_option maxRecDepth 100000
namespace Ss
open PySem PySem.Spec PyProof.Rows L2 Sw
theorem CD:ez "now" =2∧ez "within" =3:=by decide
end Ss
end
section
set_option Elab.async false
set_option linter.all false
set_option maxRecDepth 100000
namespace Ss
open PySem PySem.Spec PyProof.Rows L2 Sw
theorem ve (n:Nat) (z:Str) (r:List D):(jr (n+1) (.tup (.str z :: r)):Int)=1+(((bx z r).flatMap (dF n)).length:Int):=by
 unfold jr
 show(((.tup (.str z :: r):D) :: (bx z r).flatMap (dF n)).length:Int)=_
 rw[List.length_cons]
 push_cast
 omega
theorem yK (n:Nat) (z:Str) (r:List D):(nK (n+1) (.tup (.str z :: r)):Int)=(if bL z=true then 1 else 0)+((((bx z r).flatMap (dF n)).filter tZ).length:Int):=by
 unfold nK
 show((((.tup (.str z :: r):D) :: (bx z r).flatMap (dF n)).filter tZ).length:Int)=_
 by_cases h:bL z=true
 ·rw[List.filter_cons_of_pos (by exact h),if_pos h,List.length_cons]
  push_cast
  omega
 ·rw[List.filter_cons_of_neg (by exact h),if_neg h]
  omega
theorem fc (n:Nat) (bs:List Str) (z:Str) (r:List D):bZ (n+1) bs (.tup (.str z :: r))=true↔cH bs z r=true∧∀p∈bx z r,bZ n (cN bs z r) p=true:=by
 show(cH bs z r && (bx z r).all (bZ n (cN bs z r)))=true↔_
 rw[Bool.and_eq_true_iff,List.all_eq_true]
theorem Ac {bs:List Str}{z:Str}{r:List D}(c:ez z=(r.length:Int)+1) (n1:¬z="now") (n2:¬(z="within"∧fR (r.getD 0 .cI) 0 5=false)) (hb:bL z=false):cH bs z r=true:=by
 unfold cH
 rw[if_pos c]
 cases r with
 | nil=>rfl
 | cons a q=>
  simp only[n1,if_false,hb]
  by_cases k:z="within"
  ·rw[if_pos k]
   cases w:fR a 0 5 with
   | true=>rfl
   | false=>exact absurd ⟨k,w⟩ n2
  ·rw[if_neg k]
   rfl
end Ss
end
section
set_option Elab.async false
set_option linter.all false
set_option maxRecDepth 100000
namespace Ss
open PySem PySem.Spec PyProof.Rows L2 Sw
structure Dr (deep:Nat) (bs:List Str) (room:Nat) (bin:Nat) (d:D):Prop where
 fm:bZ deep bs d=true
 sz:jr deep d≤room
 bn:nK deep d=bin
 fit:v7 8 d
 dep:cG d≤deep+1
noncomputable def CF:List D:=rA.map D.str
theorem N9:∀z∈rA,nameB (.str z)=true∧z.length≤8:=by decide +kernel
noncomputable def CG (b:Int):List (Key×D):=[(.inr "names",.lst CF),(.inr "binders",.int b)]
theorem IX (b:Int):cD (CG b) (.inr "names")=some (.lst CF):=rfl
theorem IY (b:Int):cD (CG b) (.inr "binders")=some (.int b):=rfl
theorem Oa (b x:Int):putD (CG b) (.inr "binders") (.int x)=CG x:=rfl
theorem uw:CF.length=8:=rfl
theorem IZ {i:Int}(h0:0≤i) (h1:i < 8):∃z,iD CF i=some (.str z)∧nameB (.str z)=true∧z.length≤8:=by
 have h:i.toNat < rA.length:=by show _ < 8;omega
 refine⟨rA[i.toNat],Sq.Fw h0 (by unfold CF;rw[List.getElem?_map,List.getElem?_eq_getElem h];rfl),?_⟩
 exact N9 _ (List.getElem_mem h)
noncomputable abbrev tp (t:ia):MO:=.dct (dB t)
theorem d7 {t:ia}{m:Int}(h1:0 < m) (h2:m < 1000) (h3:0≤t.n) (h4:t.n < 900000):jm [.b (tp t),.t (.int m)]=some (.t (.int (cB t m)),[tp (aY t m)]):=Fo h1 (by omega) h3 (by omega)
noncomputable def dM (aq:FM):GS:=
 (bA (dj 3 (aU aq (fB (aC 0) (aP (eC (.int 5)) bM))))
 (bA (mZ (qB (eF (eP wk (aa (eF (aC 3)) (aa (eC (.int 0)) au))))) (cC (eP dh (aa (eC (.str "any")) au))) fL)
 (bA (mZ (qB (eF (eP wk (aa (eF (aC 3)) (aa (eC (.int 1)) au))))) (cC (eP dh (aa (eC (.str "name")) (aa (cJ 1 (eF (aU aq (fB (aC 0) (aP (oO 1) bM))))) au)))) fL)
 (bA (dj 4 (eP zg (aa (eF (eP gw (aa (eC (.int 0)) (aa (eC (.int 1)) (aa (eC (.int 2)) (aa (eC (.int 3)) (aa (eC (.int 5)) (aa (eC (.int 9)) au)))))))) (aa (eF (aU aq (fB (aC 0) (aP (eC (.int 6)) bM)))) au))))
 (bA (mZ (kE (qB (eF (eP Dg (aa (eF (aC 2)) (aa (eF (eP dh au)) au))))) (qB (eF (eP LH (aa (eF (aU aq (fB (aC 0) (aP (eC (.int 3)) bM)))) (aa (eC (.int 0)) au)))))) (dj 4 (eT (cJ 2 (eF (aU aq (fB (aC 0) (aP (oO 2) bM))))))) fL)
 (cC (eP dh (aa (eF (eP zg (aa (eF (eP gw (aa (eC (.str "less")) (aa (eC (.str "same")) (aa (eC (.str "more")) au))))) (aa (eF (eP oK (aa (eF (aC 3)) (aa (eC (.int 2)) au)))) au)))) (aa (eF (aC 4)) au)))))))))
noncomputable def j4:FM:=aG 5 (dM jm)
theorem DN:∀us r,j4 us=some r→aG 5 (dM jm) us=some r:=fun _ _ h=>h
theorem sY {x:D}{l:List D}{i:Int}(h0:0≤i) (h1:i < l.length):∃y,iD l i=some y∧y∈l:=by
 obtain⟨y,a,b⟩:=Sq.K4 (l:=l) h0 h1
 exact⟨y,a,List.mem_of_getElem? b⟩
theorem Ad (bs:List Str) (a b:D):iu bs (.tup [a,b])=if mz a (.str "name")=true then nameB b else inD a (lH.map D.str) && (fR b 0 9 || inD b (bs.map D.str)):=rfl
theorem FI {t : ia} {bs : List Str} (h0 : 0 ≤ t.n) (h1 : t.n < 800000) (hb : bs.length < 900) (hs : ∀ z ∈ bs, z.length ≤ 8) :
    ∃d t',j4 [.b (tp t),.t (.lst CF),.t (.tup (bs.map D.str))]=some (.t d,[tp t'])∧iu bs d=true∧v7 8 d∧cG d≤1∧t.n≤t'.n∧t'.n≤t.n+4:=by
  have p1:=d7 (t:=t) (m:=5) (by omega) (by omega) h0 (by omega)
  obtain⟨w0,w1⟩:=bV (t:=t) (m:=5) (by omega)
  generalize hw:cB t 5=w at *
  have T7:(aY t 5).n=t.n+1:=dZ t 5
  generalize aY t 5=t1 at *
  by_cases c0:w=0
  · subst c0
    exact⟨.tup [.str "any"],t1,by simp[j4,aG,dM,p1,aA],rfl,⟨(by show 1≤8;omega),(by show 3≤8;omega),True.intro⟩,by decide,by omega,by omega⟩
  · by_cases c1:w=1
    · subst c1
      have p2:=d7 (t:=t1) (m:=8) (by omega) (by omega) (by omega) (by omega)
      obtain⟨v0,v1⟩:=bV (t:=t1) (m:=8) (by omega)
      generalize cB t1 8=v at *
      have L7:(aY t1 8).n=t1.n+1:=dZ t1 8
      generalize aY t1 8=t2 at *
      obtain⟨z,a1,a2,a3⟩:=IZ v0 v1
      have nl:(CF.length:Int)=8:=rfl
      refine⟨.tup [.str "name",.str z],t2,by simp[j4,aG,dM,p1,aA,nl,p2,a1],?_,⟨(by show 2≤8;omega),(by show 4≤8;omega),a3,True.intro⟩,by show max 0 (max 0 0)+1≤1;omega,by omega,by omega⟩
      rw[Ad,if_pos (lA _)]
      exact a2
    · have p2:=d7 (t:=t1) (m:=6) (by omega) (by omega) (by omega) (by omega)
      obtain⟨v0,v1⟩:=bV (t:=t1) (m:=6) (by omega)
      generalize cB t1 6=v at *
      have L7:(aY t1 6).n=t1.n+1:=dZ t1 6
      generalize aY t1 6=t2 at *
      obtain⟨nb,b1,b2⟩:=sY (x:=.cI) (l:=[.int 0,.int 1,.int 2,.int 3,.int 5,.int 9]) v0 v1
      have hnb:fR nb 0 9=true∧v7 8 nb∧cG nb=0:=by
        simp only[List.mem_cons,List.not_mem_nil,or_false] at b2
        rcases b2 with rfl | rfl | rfl | rfl | rfl | rfl <;> exact⟨by decide,True.intro,rfl⟩
      obtain⟨hd,d1,d2⟩:=sY (x:=.cI) (l:=[.str "less",.str "same",.str "more"]) (i:=w - 2) (by omega) (by simp only[List.length_cons,List.length_nil];omega)
      have Qs:inD hd (lH.map D.str)=true∧mz hd (.str "name")=false∧v7 8 hd∧cG hd=0:=by
        simp only[List.mem_cons,List.not_mem_nil,or_false] at d2
        rcases d2 with rfl | rfl | rfl <;> exact⟨by decide,by decide,(by show _≤8;decide),rfl⟩
      have fin:∀x:D,(fR x 0 9=true∨inD x (bs.map D.str)=true)→v7 8 x→cG x=0→iu bs (.tup [hd,x])=true∧v7 8 (.tup [hd,x])∧cG (.tup [hd,x])≤1:=fun x h1 h2 h3=>by
        refine⟨?_,⟨(by show 2≤8;omega),Qs.2.2.1,h2,True.intro⟩,by show max (cG hd) (max (cG x) 0)+1≤1;rw[Qs.2.2.2,h3];decide⟩
        rw[Ad,Qs.2.1,Qs.1]
        rcases h1 with q | q
        · rw[q];rfl
        · rw[q];simp
      have dv:cG (.tup (bs.map D.str))≤40:=by show bU (bs.map D.str)+1≤40;rw[L2.nC];omega
      cases bs with
      | nil=>
        obtain⟨f1,f2,f3⟩:=fin nb (.inl hnb.1) hnb.2.1 hnb.2.2
        refine⟨.tup [hd,nb],t2,?_,f1,f2,f3,by omega,by omega⟩
        have q:mz (.tup []) (.tup [])=true:=rfl
        simp only[List.map_nil] at dv ⊢
        simp[j4,aG,dM,p1,aA,c0,c1,p2,b1,dv,q,d1]
      | cons y ys=>
        have q:mz (.tup ((y :: ys).map D.str)) (.tup [])=false:=rfl
        have p3:=d7 (t:=t2) (m:=3) (by omega) (by omega) (by omega) (by omega)
        have XH:(aY t2 3).n=t2.n+1:=dZ t2 3
        generalize cB t2 3=u at *
        generalize aY t2 3=t3 at *
        by_cases c3:0 < u
        · have p4:=d7 (t:=t3) (m:=((y :: ys).map D.str).length) (by rw[List.length_map];simp only[List.length_cons];omega) (by rw[List.length_map];omega) (by omega) (by omega)
          have t4n:(aY t3 ((y :: ys).map D.str).length).n=t3.n+1:=dZ t3 _
          obtain⟨x0,x1⟩:=bV (t:=t3) (m:=((y :: ys).map D.str).length) (by rw[List.length_map];simp only[List.length_cons];omega)
          obtain⟨vv,g1,g2⟩:=sY (x:=.cI) (l:=(y :: ys).map D.str) x0 x1
          generalize aY t3 ((y :: ys).map D.str).length=t4 at *
          generalize cB t3 ((y :: ys).map D.str).length=x at *
          obtain⟨vs,m1,rfl⟩:=List.mem_map.mp g2
          have iv:inD (.str vs) ((y :: ys).map D.str)=true:=by
            unfold inD
            exact List.any_eq_true.mpr ⟨.str vs,g2,lA _⟩
          obtain⟨f1,f2,f3⟩:=fin (.str vs) (.inr iv) (hs vs m1) rfl
          refine⟨.tup [hd,.str vs],t4,?_,f1,f2,f3,by omega,by omega⟩
          generalize (y :: ys).map D.str=L at *
          simp[j4,aG,dM,p1,aA,c0,c1,p2,b1,dv,q,p3,c3,p4,g1,d1]
        · obtain⟨f1,f2,f3⟩:=fin nb (.inl hnb.1) hnb.2.1 hnb.2.2
          refine⟨.tup [hd,nb],t3,?_,f1,f2,f3,by omega,by omega⟩
          generalize (y :: ys).map D.str=L at *
          simp[j4,aG,dM,p1,aA,c0,c1,p2,b1,dv,q,p3,c3,d1]
end Ss
end
section
set_option Elab.async false
set_option linter.all false
set_option maxRecDepth 100000
namespace Ss
open PySem PySem.Spec PyProof.Rows L2 Sw
theorem XI {n room:Nat}{bs:List Str}{z:Str}{r:List D}(sh:cH bs z r=true) (pl:bx z r=[]) (nb:bL z=false) (hr:1≤room) (fit:v7 8 (.tup (.str z :: r))) (dep:cG (.tup (.str z :: r))≤n+2):Dr (n+1) bs room 0 (.tup (.str z :: r)):=by
 have es:=ve n z r
 have eb:=yK n z r
 rw[pl] at es eb
 rw[nb] at eb
 simp at es eb
 exact⟨(fc n bs z r).mpr ⟨sh,by rw[pl];simp⟩,by omega,by omega,fit,dep⟩
theorem T8 {n room b:Nat}{bs:List Str}{z:Str}{r:List D}{p:D}(sh:cH bs z r=true) (pl:bx z r=[p]) (h:Dr n (cN bs z r) room b p) (fit:v7 8 (.tup (.str z :: r))) (dep:cG (.tup (.str z :: r))≤n+2):Dr (n+1) bs (room+1) ((if bL z=true then 1 else 0)+b) (.tup (.str z :: r)):=by
 have es:=ve n z r
 have eb:=yK n z r
 rw[pl] at es eb
 have e1:([p].flatMap (dF n)).length=jr n p:=by simp[jr]
 have e2:(([p].flatMap (dF n)).filter tZ).length=nK n p:=by simp[nK]
 rw[e1] at es
 rw[e2] at eb
 have:=h.sz
 have:=h.bn
 refine⟨(fc n bs z r).mpr ⟨sh,by rw[pl];intro q hq;rw[show q=p by simpa using hq];exact h.fm⟩,by omega,?_,fit,dep⟩
 by_cases hb:bL z=true
 ·rw[if_pos hb] at eb ⊢;omega
 ·rw[if_neg hb] at eb ⊢;omega
theorem ZJ {n r1 r2 b1 b2:Nat}{bs:List Str}{z:Str}{r:List D}{p q:D}(sh:cH bs z r=true) (pl:bx z r=[p,q]) (nb:bL z=false) (h1:Dr n bs r1 b1 p) (h2:Dr n bs r2 b2 q) (fit:v7 8 (.tup (.str z :: r))) (dep:cG (.tup (.str z :: r))≤n+2):Dr (n+1) bs (r1+r2+1) (b1+b2) (.tup (.str z :: r)):=by
 have es:=ve n z r
 have eb:=yK n z r
 rw[pl] at es eb
 have e1:([p,q].flatMap (dF n)).length=jr n p+jr n q:=by simp[jr]
 have e2:(([p,q].flatMap (dF n)).filter tZ).length=nK n p+nK n q:=by simp[nK]
 rw[e1] at es
 rw[e2,nb] at eb
 simp at eb
 have:=h1.sz
 have:=h1.bn
 have:=h2.sz
 have:=h2.bn
 have ib:cN bs z r=bs:=by unfold cN;rw[if_neg (by rw[nb];simp)]
 refine⟨(fc n bs z r).mpr ⟨sh,by rw[pl,ib];intro x hx;simp at hx;rcases hx with rfl | rfl;exact h1.fm;exact h2.fm⟩,by omega,by omega,fit,dep⟩
theorem Dr.more {n room I0 b:Nat}{bs:List Str}{d:D}(h:Dr n bs room b d) (hr:room≤I0):Dr n bs I0 b d:=⟨h.fm,Nat.le_trans h.sz hr,h.bn,h.fit,h.dep⟩
noncomputable def bf (aq:FM) (j5:FM) (az:FM) (jv:FM):GS:=
 (bA (dj 5 (aU aq (fB (aC 0) (aP (eC (.int 9)) bM))))
 (bA (mZ (AU (qB (eF (eP Kh (aa (eF (aC 3)) (aa (eC (.int 2)) au))))) (AU (qB (eF (eP Kh (aa (eF (aC 4)) (aa (eC (.int 2)) au))))) (qB (eF (eP wk (aa (eF (aC 5)) (aa (eC (.int 0)) au))))))) (bA (mZ (qB (eF (eP wk (aa (eF (eP wg (aa (eF (aC 5)) (aa (eC (.int 5)) au)))) (aa (eC (.int 4)) au))))) (cC (eP dh (aa (eF (eP zg (aa (eF (eP gw (aa (eC (.str "yes")) (aa (eC (.str "no")) au)))) (aa (eF (aU aq (fB (aC 0) (aP (eC (.int 2)) bM)))) au)))) au))) fL)
 (cC (eP dh (aa (eC (.str "now")) (aa (eF (aU j5 (fB (aC 0) (aP (cJ 1 (eC (.str "names"))) (aP (eF (aC 2)) bM))))) au))))) fL)
 (bA (mZ (kE (qB (eF (eP Kh (aa (eF (aC 5)) (aa (eC (.int 5)) au))))) (qB (eF (eP LH (aa (eF (aC 3)) (aa (eC (.int 2)) au)))))) (bA (dj 6 (eP iI (aa (eC (.int 1)) (aa (eF (aU aq (fB (aC 0) (aP (eF (eP oK (aa (eF (aC 3)) (aa (eC (.int 2)) au)))) bM)))) au))))
 (bA (dj 7 (aU az (fB (aC 0) (fB (aC 1) (aP (eF (aC 2)) (aP (eF (aC 6)) (aP (eF (eP oK (aa (eF (aC 4)) (aa (eC (.int 1)) au)))) bM)))))))
 (bA (dj 8 (aU az (fB (aC 0) (fB (aC 1) (aP (eF (aC 2)) (aP (eF (eP oK (aa (eF (eP oK (aa (eF (aC 3)) (aa (eC (.int 1)) au)))) (aa (eF (aC 6)) au)))) (aP (eF (eP oK (aa (eF (aC 4)) (aa (eC (.int 1)) au)))) bM)))))))
 (cC (eP dh (aa (eF (eP zg (aa (eF (eP gw (aa (eC (.str "both")) (aa (eC (.str "either")) (aa (eC (.str "till")) (aa (eC (.str "till")) au)))))) (aa (eF (eP oK (aa (eF (aC 5)) (aa (eC (.int 1)) au)))) au)))) (aa (eF (aC 7)) (aa (eF (aC 8)) au)))))))) fL)
 (cC (aU jv (fB (aC 0) (fB (aC 1) (aP (eF (aC 2)) (aP (eF (aC 3)) (aP (eF (aC 4)) bM))))))))))
noncomputable def cu (aq:FM) (az:FM):GS:=
 (bA (dj 5 (aU aq (fB (aC 0) (aP (eC (.int 8)) bM))))
 (bA (mZ (kE (qB (eF (eP Kh (aa (eF (aC 5)) (aa (eC (.int 3)) au))))) (qB (eF (eP Kh (aa (cJ 1 (eC (.str "binders"))) (aa (eC (.int 3)) au)))))) (bA (Dj 1 (eC (.str "binders")) (eF (eP iI (aa (cJ 1 (eC (.str "binders"))) (aa (eC (.int 1)) au)))))
 (bA (dj 6 (eT (cJ 1 (eC (.str "names")))))
 (bA (dj 7 (eP zg (aa (eF (eP gw (aa (eC (.str "x")) (aa (eC (.str "k")) (aa (eC (.str "a")) (aa (eC (.str "ab")) au)))))) (aa (eF (aU aq (fB (aC 0) (aP (eC (.int 4)) bM)))) au))))
 (bA (dj 8 (eP dh (aa (eF (eP zg (aa (eF (eP gw (aa (eC (.str "each")) (aa (eC (.str "one")) au)))) (aa (eF (eP wg (aa (eF (aC 5)) (aa (eC (.int 2)) au)))) au)))) (aa (cJ 6 (eF (aU aq (fB (aC 0) (aP (oO 6) bM))))) (aa (eF (aC 7)) au)))))
 (cC (eP iI (aa (eF (aC 8)) (aa (eF (eP dh (aa (eF (aU az (fB (aC 0) (fB (aC 1) (aP (eF (eP iI (aa (eF (aC 2)) (aa (eF (eP dh (aa (eF (aC 7)) au))) au)))) (aP (eF (eP oK (aa (eF (aC 3)) (aa (eC (.int 1)) au)))) (aP (eF (eP oK (aa (eF (aC 4)) (aa (eC (.int 1)) au)))) bM))))))) au))) au)))))))) fL)
 (bA (dj 8 (eP dh (aa (eF (eP zg (aa (eF (eP gw (aa (eC (.str "not")) (aa (eC (.str "next")) (aa (eC (.str "always")) (aa (eC (.str "some")) au)))))) (aa (eF (eP wg (aa (eF (aC 5)) (aa (eC (.int 4)) au)))) au)))) au)))
 (bA (mZ (qB (eF (eP wk (aa (eF (aC 5)) (aa (eC (.int 3)) au))))) (dj 8 (eP dh (aa (eC (.str "within")) (aa (eF (aU aq (fB (aC 0) (aP (eC (.int 6)) bM)))) au)))) fL)
 (cC (eP iI (aa (eF (aC 8)) (aa (eF (eP dh (aa (eF (aU az (fB (aC 0) (fB (aC 1) (aP (eF (aC 2)) (aP (eF (eP oK (aa (eF (aC 3)) (aa (eC (.int 1)) au)))) (aP (eF (eP oK (aa (eF (aC 4)) (aa (eC (.int 1)) au)))) bM))))))) au))) au))))))))
section
variable {f1 f2 f3 f4:FM}{T0 T1 T2 T3 T4:MO}{ws Fg Ea:List (Key×D)}{vs nd d1 d2:D}{room deep w:Int}
theorem K7 {v:Int}{y:D}(p1:f1 [.b T0,.t (.int 9)]=some (.t (.int w),[T1])) (h:room < 2∨deep < 2∨w=0) (h5:w % 5=4) (p2:f1 [.b T1,.t (.int 2)]=some (.t (.int v),[T2])) (hy:iD [.str "yes",.str "no"] v=some y):
  aG 9 (bf f1 f2 f3 f4) [.b T0,.b (.dct ws),.t vs,.t (.int room),.t (.int deep)]=some (.t (.tup [y]),[T2,.dct ws]):=by
 by_cases a:room < 2
 ·simp[aG,bf,p1,a,h5,p2,hy,aA]
 ·by_cases b:deep < 2
  ·simp[aG,bf,p1,a,b,h5,p2,hy,aA]
  ·have c:w=0:=by rcases h with h | h | h;exact absurd h a;exact absurd h b;exact h
   subst c
   exact absurd h5 (by decide)
theorem K8 {d:D}(p1:f1 [.b T0,.t (.int 9)]=some (.t (.int w),[T1])) (h:room < 2∨deep < 2∨w=0) (h5:¬w % 5=4) (hn:cD ws (.inr "names")=some nd) (p2:f2 [.b T1,.t nd,.t vs]=some (.t d,[T2])):
  aG 9 (bf f1 f2 f3 f4) [.b T0,.b (.dct ws),.t vs,.t (.int room),.t (.int deep)]=some (.t (.tup [.str "now",d]),[T2,.dct ws]):=by
 by_cases a:room < 2
 ·simp[aG,bf,p1,a,h5,hn,p2,aA]
 ·by_cases b:deep < 2
  ·simp[aG,bf,p1,a,b,h5,hn,p2,aA]
  ·have c:w=0:=by rcases h with h | h | h;exact absurd h a;exact absurd h b;exact h
   subst c
   simp[aG,bf,p1,a,b,hn,p2,aA]
theorem K9 {fi:Int}{y:D}(p1:f1 [.b T0,.t (.int 9)]=some (.t (.int w),[T1])) (ha:¬room < 2) (hb:¬deep < 2) (hc:¬w=0) (h5:w < 5) (h2:2 < room) (p2:f1 [.b T1,.t (.int (room - 2))]=some (.t (.int fi),[T2]))
  (p3:f3 [.b T2,.b (.dct ws),.t vs,.t (.int (1+fi)),.t (.int (deep - 1))]=some (.t d1,[T3,.dct Fg])) (p4:f3 [.b T3,.b (.dct Fg),.t vs,.t (.int (room - 1 - (1+fi))),.t (.int (deep - 1))]=some (.t d2,[T4,.dct Ea])) (hy:iD [.str "both",.str "either",.str "till",.str "till"] (w - 1)=some y):
  aG 9 (bf f1 f2 f3 f4) [.b T0,.b (.dct ws),.t vs,.t (.int room),.t (.int deep)]=some (.t (.tup [y,d1,d2]),[T4,.dct Ea]):=by
 simp[aG,bf,p1,ha,hb,hc,h5,h2,p2,p3,p4,hy,aA]
theorem Ob (p1:f1 [.b T0,.t (.int 9)]=some (.t (.int w),[T1])) (ha:¬room < 2) (hb:¬deep < 2) (hc:¬w=0) (h:¬(w < 5∧2 < room)) (p2:f4 [.b T1,.b (.dct ws),.t vs,.t (.int room),.t (.int deep)]=some (.t d1,[T2,.dct Fg])):
  aG 9 (bf f1 f2 f3 f4) [.b T0,.b (.dct ws),.t vs,.t (.int room),.t (.int deep)]=some (.t d1,[T2,.dct Fg]):=by
 by_cases a:w < 5
 ·have b:¬2 < room:=fun q=>h ⟨a,q⟩
  simp[aG,bf,p1,ha,hb,hc,a,b,p2,aA]
 ·simp[aG,bf,p1,ha,hb,hc,a,p2,aA]
theorem La {b x n:Int}{bl nl:List D}{xd hd nm:D}(p1:f1 [.b T0,.t (.int 8)]=some (.t (.int w),[T1])) (h3:w < 3) (hb:cD ws (.inr "binders")=some (.int b)) (b3:b < 3) (hl:ws.length < 100000) (hp:putD ws (.inr "binders") (.int (b+1))=Fg) (hn:cD Fg (.inr "names")=some (.lst nl))
  (p2:f1 [.b T1,.t (.int 4)]=some (.t (.int x),[T2])) (hx:iD [.str "x",.str "k",.str "a",.str "ab"] x=some xd) (hh:iD [.str "each",.str "one"] (w % 2)=some hd) (p3:f1 [.b T2,.t (.int (nl.length:Nat))]=some (.t (.int n),[T3])) (hm:iD nl n=some nm) (hv:bl.length+1≤100000)
  (p4:f2 [.b T3,.b (.dct Fg),.t (.tup (bl++[xd])),.t (.int (room - 1)),.t (.int (deep - 1))]=some (.t d1,[T4,.dct Ea])):
  aG 9 (cu f1 f2) [.b T0,.b (.dct ws),.t (.tup bl),.t (.int room),.t (.int deep)]=some (.t (.tup [hd,nm,xd,d1]),[T4,.dct Ea]):=by
 simp[aG,cu,p1,h3,hb,b3,hl,hp,hn,p2,hx,hh,p3,hm,hv,p4,aA]
theorem Lb {b:Int}{hd:D}(p1:f1 [.b T0,.t (.int 8)]=some (.t (.int w),[T1])) (hb:cD ws (.inr "binders")=some (.int b)) (h3:¬(w < 3∧b < 3)) (hw:¬w=3) (hh:iD [.str "not",.str "next",.str "always",.str "some"] (w % 4)=some hd)
  (p4:f2 [.b T1,.b (.dct ws),.t vs,.t (.int (room - 1)),.t (.int (deep - 1))]=some (.t d1,[T4,.dct Ea])):
  aG 9 (cu f1 f2) [.b T0,.b (.dct ws),.t vs,.t (.int room),.t (.int deep)]=some (.t (.tup [hd,d1]),[T4,.dct Ea]):=by
 by_cases a:w < 3
 ·have b:¬b < 3:=fun q=>h3 ⟨a,q⟩
  simp[aG,cu,p1,a,hb,b,hw,hh,p4,aA]
 ·simp[aG,cu,p1,a,hw,hh,p4,aA]
theorem DO {k:Int}(p1:f1 [.b T0,.t (.int 8)]=some (.t (.int 3),[T1])) (p2:f1 [.b T1,.t (.int 6)]=some (.t (.int k),[T2]))
  (p4:f2 [.b T2,.b (.dct ws),.t vs,.t (.int (room - 1)),.t (.int (deep - 1))]=some (.t d1,[T4,.dct Ea])):
  aG 9 (cu f1 f2) [.b T0,.b (.dct ws),.t vs,.t (.int room),.t (.int deep)]=some (.t (.tup [.str "within",.int k,d1]),[T4,.dct Ea]):=by
 have hh:iD [D.str "not",.str "next",.str "always",.str "some"] 3=some (.str "some"):=rfl
 simp[aG,cu,p1,p2,hh,p4,aA]
end
end Ss
end
section
set_option Elab.async false
set_option linter.all false
set_option maxRecDepth 100000
namespace Ss
open PySem PySem.Spec PyProof.Rows L2 Sw
noncomputable def Oc:Nat→FM×FM
 | 0=>(fun _=>none,fun _=>none)
 | j+1=>(aG 9 (bf jm j4 (Oc j).1 (Oc j).2),aG 9 (cu jm (Oc j).1))
noncomputable def vf (j:Nat):FM:=(Oc j).1
noncomputable def FJ (j:Nat):FM:=(Oc j).2
theorem HV (j:Nat):∀us r,vf (j+1) us=some r→aG 9 (bf jm j4 (vf j) (FJ j)) us=some r:=fun _ _ h=>h
theorem HW (j:Nat):∀us r,FJ (j+1) us=some r→aG 9 (cu jm (vf j)) us=some r:=fun _ _ h=>h
theorem DP (us:List U):vf 0 us=none:=rfl
theorem DQ (us:List U):FJ 0 us=none:=rfl
noncomputable def FL (f:FM) (deep room:Nat):Prop:=∀(t:ia) (bs:List Str) (b:Nat),0≤t.n→t.n+8 * room < 700000→bs.length+deep < 800→(∀z∈bs,z.length≤8)→b≤3→
 ∃(d:D) (t':ia) (bin:Nat),f [.b (tp t),.b (.dct (CG b)),.t (.tup (bs.map D.str)),.t (.int room),.t (.int deep)]=some (.t d,[tp t',.dct (CG ((b+bin:Nat):Int))])∧Dr deep bs room bin d∧b+bin≤3∧t.n≤t'.n∧t'.n≤t.n+8 * room
theorem DR {z:Str}(h:z.length≤8):v7 8 (.str z):=h
theorem vg {bs:List Str}{z:Str}{r:List D}(c:ez z=(r.length:Int)+1) (n1:z≠"now") (n2:z≠"within") (hb:bL z=false):cH bs z r=true:=Ac c n1 (fun q=>n2 q.1) hb
theorem FN {f:FM}{deep room:Nat}(hr:2≤room) (hd:2≤deep) (ih:FL f (deep - 1) (room - 1)):
  ∀(t:ia) (bs:List Str) (b:Nat),0≤t.n→t.n+8 * room < 700002→bs.length+deep < 800→(∀z∈bs,z.length≤8)→b≤3→
  ∃(d:D) (t':ia) (bin:Nat),aG 9 (cu jm f) [.b (tp t),.b (.dct (CG b)),.t (.tup (bs.map D.str)),.t (.int room),.t (.int deep)]=some (.t d,[tp t',.dct (CG ((b+bin:Nat):Int))])∧Dr deep bs room bin d∧b+bin≤3∧t.n≤t'.n∧t'.n+1≤t.n+8 * room:=by
 intro t bs b t0 t1 hl hs hb
 obtain⟨n,rfl⟩:∃n,deep=n+1:=⟨deep - 1,by omega⟩
 obtain⟨rm,rfl⟩:∃m,room=m+1:=⟨room - 1,by omega⟩
 have ih:FL f n rm:=ih
 have er:(((rm+1:Nat):Int) - 1)=(rm:Int):=by omega
 have ed:(((n+1:Nat):Int) - 1)=(n:Int):=by omega
 have p1:=d7 (t:=t) (m:=8) (by omega) (by omega) t0 (by omega)
 obtain⟨w0,w1⟩:=bV (t:=t) (m:=8) (by omega)
 have T7:(aY t 8).n=t.n+1:=dZ t 8
 generalize cB t 8=w at *
 generalize aY t 8=ta at *
 by_cases c:w < 3∧(b:Int) < 3
 ·have p2:=d7 (t:=ta) (m:=4) (by omega) (by omega) (by omega) (by omega)
  obtain⟨x0,x1⟩:=bV (t:=ta) (m:=4) (by omega)
  have L7:(aY ta 4).n=ta.n+1:=dZ ta 4
  generalize cB ta 4=x at *
  generalize aY ta 4=tb at *
  have p3:=d7 (t:=tb) (m:=(CF.length:Nat)) (by rw[uw];omega) (by rw[uw];omega) (by omega) (by omega)
  obtain⟨m0,m1⟩:=bV (t:=tb) (m:=(CF.length:Nat)) (by rw[uw];omega)
  have XH:(aY tb (CF.length:Nat)).n=tb.n+1:=dZ tb _
  generalize cB tb (CF.length:Nat)=m at *
  generalize aY tb (CF.length:Nat)=tc at *
  obtain⟨nm,a1,a2,a3⟩:=IZ m0 (by rw[uw] at m1;exact m1)
  obtain⟨xd,b1,b2⟩:=sY (x:=.cI) (l:=[.str "x",.str "k",.str "a",.str "ab"]) x0 x1
  obtain⟨hd,d1,d2⟩:=sY (x:=.cI) (l:=[.str "each",.str "one"]) (i:=w % 2) (Int.emod_nonneg _ (by decide)) (Int.emod_lt_of_pos _ (by decide))
  obtain⟨xs,rfl,xn,xl⟩:∃xs,xd= .str xs∧nameB (.str xs)=true∧xs.length≤8:=by
   simp only[List.mem_cons,List.not_mem_nil,or_false] at b2
   rcases b2 with rfl | rfl | rfl | rfl <;> exact⟨_,rfl,by decide +kernel,by decide⟩
  obtain⟨hs2,rfl,hbn,ZK,Fd⟩:∃z,hd= .str z∧bL z=true∧z.length≤8∧ez z=4∧cE z=3∧z≠"now"∧z≠"within":=by
   simp only[List.mem_cons,List.not_mem_nil,or_false] at d2
   rcases d2 with rfl | rfl <;> exact⟨_,rfl,by decide,by decide,by decide,by decide,by decide,by decide⟩
  obtain⟨l4,s3,n1,n2⟩:=Fd
  obtain⟨d,t',bin,g1,g2,g3,g4,g5⟩:=ih tc (bs++[xs]) (b+1) (by omega) (by omega) (by rw[List.length_append,List.length_singleton];omega) (by
   intro z hz
   rcases List.mem_append.mp hz with q | q
   ·exact hs z q
   ·rw[show z=xs by simpa using q];exact xl) (by omega)
  have ev:(bs++[xs]).map D.str=bs.map D.str++[.str xs]:=by rw[List.map_append];rfl
  have ZL:((b+1:Nat):Int)=(b:Int)+1:=by omega
  rw[ev,ZL] at g1
  have sh:cH bs hs2 [.str nm,.str xs,d]=true:=by
   unfold cH
   rw[if_pos (by rw[l4];rfl)]
   simp only[n1,n2,if_false,hbn,if_true,a2,xn]
   rfl
  have pl:bx hs2 [.str nm,.str xs,d]=[d]:=by unfold bx;rw[s3];rfl
  have ib:cN bs hs2 [.str nm,.str xs,d]=bs++[xs]:=by unfold cN;rw[if_pos hbn];rfl
  have dr:=T8 (n:=n) (room:=rm) (b:=bin) (bs:=bs) (z:=hs2) (r:=[.str nm,.str xs,d]) sh pl (by rw[ib];exact g2) ⟨(by show 4≤8;omega),DR ZK,DR a3,DR xl,g2.fit,True.intro⟩ (by
   have:=g2.dep
   show max 0 (max 0 (max 0 (max (cG d) 0)))+1≤n+2
   omega)
  rw[if_pos hbn] at dr
  refine⟨_,t',1+bin,?_,dr,by omega,by omega,by omega⟩
  have T9:((b+(1+bin):Nat):Int)=((b+1+bin:Nat):Int):=by omega
  rw[T9]
  exact La (f1:=jm) (f2:=f) (ws:=CG b) (Fg:=CG ((b:Int)+1)) (Ea:=CG ((b+1+bin:Nat):Int)) p1 c.1 (IY b) c.2 (by show 2 < 100000;omega) (Oa b _) (IX _) p2 b1 d1 p3 a1 (by rw[List.length_map];omega) (by rw[er,ed];exact g1)
 ·by_cases cw:w=3
  ·subst cw
   have p2:=d7 (t:=ta) (m:=6) (by omega) (by omega) (by omega) (by omega)
   obtain⟨x0,x1⟩:=bV (t:=ta) (m:=6) (by omega)
   have L7:(aY ta 6).n=ta.n+1:=dZ ta 6
   generalize cB ta 6=x at *
   generalize aY ta 6=tb at *
   obtain⟨d,t',bin,g1,g2,g3,g4,g5⟩:=ih tb bs b (by omega) (by omega) (by omega) hs hb
   have sh:cH bs "within" [.int x,d]=true:=by
    unfold cH
    rw[if_pos (by rw[CD.2];rfl)]
    simp only[show ¬(("within":Str)="now") by decide,if_false,if_true]
    show(decide (0≤x) && decide (x≤5))=true
    simp only[Bool.and_eq_true,decide_eq_true_eq]
    omega
   have pl:bx "within" [.int x,d]=[d]:=by unfold bx;rw[show cE "within" =2 by decide];rfl
   have nb:bL "within" =false:=by decide
   have ib:cN bs "within" [.int x,d]=bs:=by unfold cN;rw[if_neg (by rw[nb];simp)]
   have dr:=T8 (n:=n) (room:=rm) (b:=bin) (bs:=bs) (z:="within") (r:=[.int x,d]) sh pl (by rw[ib];exact g2) ⟨(by show 3≤8;omega),(by show 6≤8;omega),True.intro,g2.fit,True.intro⟩ (by
    have:=g2.dep
    show max 0 (max 0 (max (cG d) 0))+1≤n+2
    omega)
   rw[if_neg (by rw[nb];simp),Nat.zero_add] at dr
   exact⟨_,t',bin,DO p1 p2 (by rw[er,ed];exact g1),dr,g3,by omega,by omega⟩
  ·obtain⟨d,t',bin,g1,g2,g3,g4,g5⟩:=ih ta bs b (by omega) (by omega) (by omega) hs hb
   obtain⟨hd,d1,d2⟩:=sY (x:=.cI) (l:=[.str "not",.str "next",.str "always",.str "some"]) (i:=w % 4) (Int.emod_nonneg _ (by decide)) (Int.emod_lt_of_pos _ (by decide))
   obtain⟨z,rfl,nb,zl,l2,s1,n1,n2⟩:∃z,hd= .str z∧bL z=false∧z.length≤8∧ez z=2∧cE z=1∧z≠"now"∧z≠"within":=by
    simp only[List.mem_cons,List.not_mem_nil,or_false] at d2
    rcases d2 with rfl | rfl | rfl | rfl <;> exact⟨_,rfl,by decide,by decide,by decide,by decide,by decide,by decide⟩
   have sh:cH bs z [d]=true:=vg (by rw[l2];rfl) n1 n2 nb
   have pl:bx z [d]=[d]:=by unfold bx;rw[s1];rfl
   have ib:cN bs z [d]=bs:=by unfold cN;rw[if_neg (by rw[nb];simp)]
   have dr:=T8 (n:=n) (room:=rm) (b:=bin) (bs:=bs) (z:=z) (r:=[d]) sh pl (by rw[ib];exact g2) ⟨(by show 2≤8;omega),DR zl,g2.fit,True.intro⟩ (by
    have:=g2.dep
    show max 0 (max (cG d) 0)+1≤n+2
    omega)
   rw[if_neg (by rw[nb];simp),Nat.zero_add] at dr
   exact⟨_,t',bin,Lb p1 (IY b) c cw d1 (by rw[er,ed];exact g1),dr,g3,by omega,by omega⟩
theorem Lc : ∀ (deep : Nat), 1 ≤ deep → ∀ (j room : Nat), 2 * deep ≤ j → 1 ≤ room → room ≤ 100 → FL (vf j) deep room := by
  intro deep
  induction deep with
  | zero=>intro h;omega
  | succ n ih=>
    intro _ j room hj hr hr9 t bs b t0 t1 hl hs hb
    obtain⟨i,rfl⟩:∃i,j=i+2:=⟨j - 2,by omega⟩
    have p1:=d7 (t:=t) (m:=9) (by omega) (by omega) t0 (by omega)
    obtain⟨w0,w1⟩:=bV (t:=t) (m:=9) (by omega)
    have T7:(aY t 9).n=t.n+1:=dZ t 9
    generalize cB t 9=w at *
    generalize aY t 9=ta at *
    show ∃d t' bin,aG 9 (bf jm j4 (vf (i+1)) (FJ (i+1))) _=_∧_
    by_cases c:(room:Int) < 2∨((n+1:Nat):Int) < 2∨w=0
    · by_cases c5:w % 5=4
      · have p2:=d7 (t:=ta) (m:=2) (by omega) (by omega) (by omega) (by omega)
        obtain⟨v0,v1⟩:=bV (t:=ta) (m:=2) (by omega)
        have L7:(aY ta 2).n=ta.n+1:=dZ ta 2
        generalize cB ta 2=v at *
        generalize aY ta 2=tb at *
        obtain⟨y,y1,y2⟩:=sY (x:=.cI) (l:=[.str "yes",.str "no"]) v0 v1
        obtain⟨z,rfl,nb,zl,l2,s1,n1,n2⟩:∃z,y= .str z∧bL z=false∧z.length≤8∧ez z=1∧cE z=1∧z≠"now"∧z≠"within":=by
          simp only[List.mem_cons,List.not_mem_nil,or_false] at y2
          rcases y2 with rfl | rfl <;> exact⟨_,rfl,by decide,by decide,by decide,by decide,by decide,by decide⟩
        refine⟨_,tb,0,K7 p1 c c5 p2 y1,XI (vg (by rw[l2];rfl) n1 n2 nb) (by unfold bx;rw[s1];rfl) nb hr ⟨(by show 1≤8;omega),DR zl,True.intro⟩ (by show max 0 0+1≤n+2;omega),hb,by omega,by omega⟩
      · obtain⟨d,t',g1,g2,g3,g4,g5,g6⟩:=FI (t:=ta) (bs:=bs) (by omega) (by omega) (by omega) hs
        refine⟨_,t',0,K8 p1 c c5 (IX b) g1,XI (z:="now") (r:=[d]) ?_ (by unfold bx;rw[show cE "now" =2 by decide];rfl) (by decide) hr ⟨(by show 2≤8;omega),(by show 3≤8;omega),g3,True.intro⟩ (by show max 0 (max (cG d) 0)+1≤n+2;omega),hb,by omega,by omega⟩
        unfold cH
        rw[if_pos (by rw[CD.1];rfl)]
        simp only[if_true]
        exact g2
    · have c1:¬(room:Int) < 2:=fun q=>c (.inl q)
      have c2:¬((n+1:Nat):Int) < 2:=fun q=>c (.inr (.inl q))
      have c3:¬w=0:=fun q=>c (.inr (.inr q))
      have ed:(((n+1:Nat):Int) - 1)=(n:Int):=by omega
      by_cases c4:w < 5∧2 < (room:Int)
      · have p2:=d7 (t:=ta) (m:=(room:Int) - 2) (by omega) (by omega) (by omega) (by omega)
        obtain⟨v0,v1⟩:=bV (t:=ta) (m:=(room:Int) - 2) (by omega)
        have L7:(aY ta ((room:Int) - 2)).n=ta.n+1:=dZ ta _
        generalize cB ta ((room:Int) - 2)=v at *
        generalize aY ta ((room:Int) - 2)=tb at *
        obtain⟨r1,hr1⟩:∃r1:Nat,(r1:Int)=1+v:=⟨(1+v).toNat,by omega⟩
        obtain⟨r2,hr2⟩:∃r2:Nat,(r2:Int)=(room:Int) - 1 - (1+v):=⟨((room:Int) - 1 - (1+v)).toNat,by omega⟩
        obtain⟨d1,ZM,b1,g1,g2,g3,g4,g5⟩:=ih (by omega) (i+1) r1 (by omega) (by omega) (by omega) tb bs b (by omega) (by omega) (by omega) hs hb
        obtain⟨d2,ZN,b2,k1,k2,k3,k4,k5⟩:=ih (by omega) (i+1) r2 (by omega) (by omega) (by omega) ZM bs (b+b1) (by omega) (by omega) (by omega) hs g3
        obtain⟨y,y1,y2⟩:=sY (x:=.cI) (l:=[.str "both",.str "either",.str "till",.str "till"]) (i:=w - 1) (by omega) (by simp only[List.length_cons,List.length_nil];omega)
        obtain⟨z,rfl,nb,zl,l2,s1,n1,n2⟩:∃z,y= .str z∧bL z=false∧z.length≤8∧ez z=3∧cE z=1∧z≠"now"∧z≠"within":=by
          simp only[List.mem_cons,List.not_mem_nil,or_false] at y2
          rcases y2 with rfl | rfl | rfl | rfl <;> exact⟨_,rfl,by decide,by decide,by decide,by decide,by decide,by decide⟩
        have dr:=ZJ (n:=n) (bs:=bs) (z:=z) (r:=[d1,d2]) (vg (by rw[l2];rfl) n1 n2 nb) (by unfold bx;rw[s1];rfl) nb g2 k2 ⟨(by show 3≤8;omega),DR zl,g2.fit,k2.fit,True.intro⟩ (by
          have:=g2.dep
          have:=k2.dep
          show max 0 (max (cG d1) (max (cG d2) 0))+1≤n+2
          omega)
        have T9:((b+(b1+b2):Nat):Int)=((b+b1+b2:Nat):Int):=by omega
        refine⟨_,ZN,b1+b2,?_,dr.more (by omega),by omega,by omega,by omega⟩
        rw[T9]
        rw[hr1] at g1
        rw[hr2] at k1
        exact K9 p1 c1 c2 c3 c4.1 c4.2 p2 (by rw[ed];exact g1) (by rw[ed];exact k1) y1
      · obtain⟨d,t',bin,g1,g2,g3,g4,g5⟩:=FN (f:=vf i) (deep:=n+1) (room:=room) (by omega) (by omega) (ih (by omega) i (room - 1) (by omega) (by omega) (by omega)) ta bs b (by omega) (by omega) hl hs hb
        exact⟨d,t',bin,Ob p1 c1 c2 c3 c4 g1,g2,g3,by omega,by omega⟩
end Ss
end
section
set_option Elab.async false
set_option linter.all false
set_option maxRecDepth 100000
namespace Ss
open PySem PySem.Spec PyProof.Rows L2 Sw
theorem vh {f g:D→List D}:∀{ps:List D},(∀p∈ps,f p=g p)→ps.flatMap f=ps.flatMap g
 | [],_=>rfl
 | p :: ps,h=>by rw[List.flatMap_cons,List.flatMap_cons,h p List.mem_cons_self,vh fun q hq=>h q (List.mem_cons_of_mem _ hq)]
theorem xG:∀{n:Nat}{bs:List Str}{d:D},bZ n bs d=true→bZ (n+1) bs d=true∧dF (n+1) d=dF n d
 | 0,_,_,h=>by cases h
 | n+1,bs,d,h=>by
  obtain⟨z,r,rfl,h1,h2⟩:=j0 h
  have up:=fun p hp=>xG (h2 p hp)
  refine⟨(fc (n+1) bs z r).mpr ⟨h1,fun p hp=>(up p hp).1⟩,?_⟩
  show(.tup (.str z :: r):D) :: (bx z r).flatMap (dF (n+1))= .tup (.str z :: r) :: (bx z r).flatMap (dF n)
  rw[vh fun p hp=>(up p hp).2]
theorem DS {n m:Nat}{bs:List Str}{d:D}(hm:n≤m) (h:bZ n bs d=true):bZ m bs d=true∧dF m d=dF n d:=by
  induction m with
  | zero => obtain rfl : n = 0 := by omega
            exact⟨h,rfl⟩
  | succ m ih=>
    by_cases e:n=m+1
    · subst e;exact⟨h,rfl⟩
    · obtain⟨a,b⟩:=ih (by omega)
      obtain⟨c,d⟩:=xG a
      exact⟨c,d.trans b⟩
theorem Dr.say {deep room bin:Nat}{d:D}(h:Dr deep [] room bin d) (h1:deep≤8) (h2:room≤16) (h3:bin≤3):FF d=true:=by
 obtain⟨a,b⟩:=DS h1 h.fm
 have s:=h.sz
 have n:=h.bn
 unfold jr at s
 unfold nK at n
 unfold FF jr nK
 rw[a,b]
 simp only[Bool.true_and,Bool.and_eq_true,decide_eq_true_eq]
 omega
theorem Od:cM [] [((.inr "names":Key),D.lst CF),(.inr "binders",.int 0)]=CG 0:=rfl
end Ss
end
section
set_option Elab.async false
set_option linter.all false
set_option maxRecDepth 100000
namespace Sp
open PySem PySem.Spec PyProof.Rows L2 Sw Ss
noncomputable def Ld:List Str:=["not","next","always","some"]
noncomputable def Le:List Str:=["both","either","till"]
inductive Ts (bs:List Str):D→Prop where
 | any:Ts bs (.tup [.str "any"])
 | name {a:Str}:nameB (.str a)=true→Ts bs (.tup [.str "name",.str a])
 | num {o:Str}{k:Int}:o∈lH→0≤k→k≤9→Ts bs (.tup [.str o,.int k])
 | var {o y:Str}:o∈lH→y∈bs→Ts bs (.tup [.str o,.str y])
inductive Sy:Nat→List Str→D→Prop where
 | leaf {n:Nat}{bs:List Str}{z:Str}:z="yes"∨z="no"→Sy (n+1) bs (.tup [.str z])
 | now {n:Nat}{bs:List Str}{t:D}:Ts bs t→Sy (n+1) bs (.tup [.str "now",t])
 | one {n:Nat}{bs:List Str}{z:Str}{p:D}:z∈Ld→Sy n bs p→Sy (n+1) bs (.tup [.str z,p])
 | two {n:Nat}{bs:List Str}{z:Str}{p q:D}:z∈Le→Sy n bs p→Sy n bs q→Sy (n+1) bs (.tup [.str z,p,q])
 | Bv {n:Nat}{bs:List Str}{k:Int}{p:D}:0≤k→k≤5→Sy n bs p→Sy (n+1) bs (.tup [.str "within",.int k,p])
 | bnd {n:Nat}{bs:List Str}{z a y:Str}{p:D}:z="each"∨z="one"→nameB (.str a)=true→nameB (.str y)=true→Sy n (bs++[y]) p→Sy (n+1) bs (.tup [.str z,.str a,.str y,p])
theorem CH {x:D}{zs:List Str}(h:inD x (zs.map D.str)=true):∃z∈zs,x= .str z:=by
 unfold inD at h
 rw[List.any_map,List.any_eq_true] at h
 obtain⟨z,hz,e⟩:=h
 exact⟨z,hz,rD (show mz (.str z) x=true from e)⟩
theorem mO {z:Str}{zs:List Str}(h:z∈zs):inD (.str z) (zs.map D.str)=true:=by
 unfold inD
 rw[List.any_map,List.any_eq_true]
 exact⟨z,h,lA _⟩
theorem xH {b:D}{m:Int}(h:fR b 0 m=true):∃k,b= .int k∧0≤k∧k≤m:=by
 cases b with
 | int k=>simp only[fR,Bool.and_eq_true,decide_eq_true_eq] at h;exact⟨k,rfl,h.1,h.2⟩
 | _=>cases h
theorem Ts.of {bs : List Str} {t : D} (h : iu bs t = true) : Ts bs t := by
  unfold iu at h
  split at h
  · rename_i a
    have:mz (.str "any") a=true:=by cases a <;> simp[mz] at h ⊢;exact h.symm
    rw[rD this]
    exact .any
  · rename_i a b
    split at h
    · rename_i c
      have:mz (.str "name") a=true:=by cases a <;> simp[mz] at c ⊢;exact c.symm
      rw[rD this]
      obtain⟨y,rfl⟩:=lJ h
      exact .name h
    · obtain⟨h1,h2⟩:=Bool.and_eq_true_iff.mp h
      obtain⟨o,ho,rfl⟩:=CH h1
      rcases Bool.or_eq_true_iff.mp h2 with q | q
      · obtain⟨k,rfl,k0,k1⟩:=xH q
        exact .num ho k0 k1
      · obtain⟨y,hy,rfl⟩:=CH q
        exact .var ho hy
  · cases h
theorem mQ {o:Str}(h:o∈lH):o≠"name"∧o≠"any":=by
 simp only[lH,List.mem_cons,List.not_mem_nil,or_false] at h
 rcases h with rfl | rfl | rfl <;> decide
theorem Ts.test {bs:List Str}{t:D}(h:Ts bs t):iu bs t=true:=by
 cases h with
 | any=>rfl
 | name h=>simp[iu,h]
 | num ho k0 k1=>
  have:=mO ho
  have n:=(mQ ho).1
  simp[iu,this,n,fR,k0,k1]
 | var ho hy=>
  have h1:=mO ho
  have h2:=mO hy
  have n:=(mQ ho).1
  simp[iu,h1,h2,n]
theorem Sy.of:∀{n:Nat}{bs:List Str}{d:D},bZ n bs d=true→Sy n bs d
  | 0,_,_,h=>by cases h
  | n + 1, bs, d, h => by
    obtain⟨z,r,rfl,hs,hp⟩:=j0 h
    obtain⟨c,hh,hz⟩:=jZ hs
    unfold cH at hs
    rw[if_pos c] at hs
    simp only[jV,List.mem_cons,List.not_mem_nil,or_false] at hz
    have two:∀{k:Nat},ez z=(k:Int)+1→r.length=k:=fun e=>by omega
    have l0:r.length=0→r=[]:=List.eq_nil_of_length_eq_zero
    have l1:r.length=1→∃a,r=[a]:=fun e=>by match r,e with | [a],_=>exact⟨a,rfl⟩
    have l2:r.length=2→∃a b,r=[a,b]:=fun e=>by match r,e with | [a,b],_=>exact⟨a,b,rfl⟩
    have l3:r.length=3→∃a b p,r=[a,b,p]:=fun e=>by match r,e with | [a,b,p],_=>exact⟨a,b,p,rfl⟩
    rcases hz with rfl | rfl | rfl | rfl | rfl | rfl | rfl | rfl | rfl | rfl | rfl | rfl | rfl
    · rw[l0 (two (k:=0) (by decide))];exact .leaf (.inl rfl)
    · rw[l0 (two (k:=0) (by decide))];exact .leaf (.inr rfl)
    · obtain⟨a,rfl⟩:=l1 (two (k:=1) (by decide));exact .now (.of hs)
    · obtain⟨a,rfl⟩:=l1 (two (k:=1) (by decide));exact .one (by decide) (Sy.of (hp a (by show a∈[a];simp)))
    · obtain⟨a,b,rfl⟩:=l2 (two (k:=2) (by decide));exact .two (by decide) (Sy.of (hp a (by show a∈[a,b];simp))) (Sy.of (hp b (by show b∈[a,b];simp)))
    · obtain⟨a,b,rfl⟩:=l2 (two (k:=2) (by decide));exact .two (by decide) (Sy.of (hp a (by show a∈[a,b];simp))) (Sy.of (hp b (by show b∈[a,b];simp)))
    · obtain⟨a,rfl⟩:=l1 (two (k:=1) (by decide));exact .one (by decide) (Sy.of (hp a (by show a∈[a];simp)))
    · obtain⟨a,b,rfl⟩:=l2 (two (k:=2) (by decide));exact .two (by decide) (Sy.of (hp a (by show a∈[a,b];simp))) (Sy.of (hp b (by show b∈[a,b];simp)))
    · obtain⟨a,b,rfl⟩:=l2 (two (k:=2) (by decide));obtain⟨k,rfl,k0,k1⟩:=xH (m:=5) hs;exact .Bv k0 k1 (Sy.of (hp b (by show b∈[b];simp)))
    · obtain⟨a,rfl⟩:=l1 (two (k:=1) (by decide));exact .one (by decide) (Sy.of (hp a (by show a∈[a];simp)))
    · obtain⟨a,rfl⟩:=l1 (two (k:=1) (by decide));exact .one (by decide) (Sy.of (hp a (by show a∈[a];simp)))
    · obtain⟨a,b,p,rfl⟩:=l3 (two (k:=3) (by decide))
      obtain⟨h1,h2⟩:=Bool.and_eq_true_iff.mp (show(nameB a && nameB b)=true from hs)
      obtain⟨x,rfl⟩:=lJ h1;obtain⟨y,rfl⟩:=lJ h2
      exact .bnd (.inl rfl) h1 h2 (Sy.of (hp p (by show p∈[p];simp)))
    · obtain⟨a,b,p,rfl⟩:=l3 (two (k:=3) (by decide))
      obtain⟨h1,h2⟩:=Bool.and_eq_true_iff.mp (show(nameB a && nameB b)=true from hs)
      obtain⟨x,rfl⟩:=lJ h1;obtain⟨y,rfl⟩:=lJ h2
      exact .bnd (.inr rfl) h1 h2 (Sy.of (hp p (by show p∈[p];simp)))
theorem gP {z:Str}(h:z∈Ld):z="not"∨z="next"∨z="always"∨z="some":=by simpa[Ld] using h
theorem gQ {z:Str}(h:z∈Le):z="both"∨z="either"∨z="till":=by simpa[Le] using h
theorem Sy.bZ {n:Nat}{bs:List Str}{d:D}(h:Sy n bs d):bZ n bs d=true:=by
 induction h with
 | leaf h=>rcases h with rfl | rfl <;> rfl
 | @now n bs t h=>have e:=h.test;rw[fc];exact⟨e,fun p hp=>by cases hp⟩
 | one hz _ ih=>rcases gP hz with rfl | rfl | rfl | rfl <;> (rw[fc];exact⟨rfl,fun p hp=>by rw[List.mem_singleton.mp (show p∈[_] from hp)];exact ih⟩)
 | two hz _ _ i1 i2=>
  have two:∀{p q x:D}{f:D→Prop},f p→f q→x∈[p,q]→f x:=fun h1 h2 hx=>by
   rcases List.mem_cons.mp hx with e | e
   ·rw[e];exact h1
   ·rw[List.mem_singleton.mp e];exact h2
  rcases gQ hz with rfl | rfl | rfl <;> (rw[fc];exact⟨rfl,fun p hp=>two (f:=fun x=>Ss.bZ _ _ x=true) i1 i2 hp⟩)
 | @Bv n bs k p k0 k1 _ ih=>rw[fc];exact⟨by show fR (.int k) 0 5=true;simp[fR,k0,k1],fun p hp=>by rw[List.mem_singleton.mp (show p∈[_] from hp)];exact ih⟩
 | @bnd n bs z a y p hz h1 h2 _ ih=>
  rcases hz with rfl | rfl <;> (rw[fc];exact⟨by show(nameB (.str a) && nameB (.str y))=true;rw[h1,h2];rfl,fun p hp=>by rw[List.mem_singleton.mp (show p∈[_] from hp)];exact ih⟩)
theorem Ts.mono {bs cs:List Str}{t:D}(h:Ts bs t) (k:∀y∈bs,y∈cs):Ts cs t:=by
 cases h with
 | any=>exact .any
 | name h=>exact .name h
 | num a b c=>exact .num a b c
 | var a b=>exact .var a (k _ b)
theorem Sy.mono {n:Nat}{bs:List Str}{d:D}(h:Sy n bs d):∀{cs:List Str},(∀y∈bs,y∈cs)→Sy n cs d:=by
 induction h with
 | leaf h=>exact fun _=>.leaf h
 | now h=>exact fun k=>.now (h.mono k)
 | one hz _ ih=>exact fun k=>.one hz (ih k)
 | two hz _ _ i1 i2=>exact fun k=>.two hz (i1 k) (i2 k)
 | Bv a b _ ih=>exact fun k=>.Bv a b (ih k)
 | bnd hz a b _ ih=>exact fun k=>.bnd hz a b (ih fun y hy=>by
   rcases List.mem_append.mp hy with q | q
   ·exact List.mem_append.mpr (.inl (k y q))
   ·exact List.mem_append.mpr (.inr q))
end Sp
end
section
set_option Elab.async false
set_option linter.all false
set_option maxRecDepth 100000
namespace Sp
open PySem PySem.Spec PyProof.Rows L2 Sw Ss
noncomputable def ie (xs:List Str) (k:D):D→D
 | .tup [.str o,.str y]=>if o≠"name"∧y∈xs then .tup [.str o,k] else .tup [.str o,.str y]
 | t=>t
noncomputable def fG:Nat→List Str→D→D→D
 | n+1,xs,k,.tup [.str z,p]=>if z="now" then .tup [.str z,ie xs k p] else .tup [.str z,fG n xs k p]
 | n+1,xs,k,.tup [.str z,p,q]=>if z="within" then .tup [.str z,p,fG n xs k q] else .tup [.str z,fG n xs k p,fG n xs k q]
 | n+1,xs,k,.tup [.str z,a,.str y,p]=>.tup [.str z,a,.str y,fG n (xs.filter fun x=>decide (x≠y)) k p]
 | _,_,_,d=>d
theorem Lf {z:Str}(h:z∈Ld):z≠"now":=by rcases gP h with rfl | rfl | rfl | rfl <;> decide
theorem Lg {z:Str}(h:z∈Le):z≠"within":=by rcases gQ h with rfl | rfl | rfl <;> decide
section
variable {n:Nat}{xs:List Str}{k:D}
theorem gz {z:Str}:fG n xs k (.tup [.str z])= .tup [.str z]:=by cases n <;> rfl
theorem jf {t:D}:fG (n+1) xs k (.tup [.str "now",t])= .tup [.str "now",ie xs k t]:=by show(if _ then _ else _)=_;rw[if_pos rfl]
theorem jg {z:Str}{p:D}(h:z∈Ld):fG (n+1) xs k (.tup [.str z,p])= .tup [.str z,fG n xs k p]:=by show(if _ then _ else _)=_;rw[if_neg (Lf h)]
theorem jh {z:Str}{p q:D}(h:z∈Le):fG (n+1) xs k (.tup [.str z,p,q])= .tup [.str z,fG n xs k p,fG n xs k q]:=by show(if _ then _ else _)=_;rw[if_neg (Lg h)]
theorem ji {p q:D}:fG (n+1) xs k (.tup [.str "within",p,q])= .tup [.str "within",p,fG n xs k q]:=by show(if _ then _ else _)=_;rw[if_pos rfl]
theorem jj {z y:Str}{a p:D}:fG (n+1) xs k (.tup [.str z,a,.str y,p])= .tup [.str z,a,.str y,fG n (xs.filter fun x=>decide (x≠y)) k p]:=rfl
end
theorem HX {bs xs:List Str}{k t:D}(h:Ts bs t) (hx:∀x∈xs,x∉bs):ie xs k t=t:=by
 cases h with
 | any=>rfl
 | name h=>simp[ie]
 | num a b c=>rfl
 | var a b=>show(if _ then _ else _)=_;rw[if_neg (fun q=>hx _ q.2 b)]
theorem vj {n:Nat}{bs:List Str}{k d:D}(h:Sy n bs d):∀{xs:List Str},(∀x∈xs,x∉bs)→fG n xs k d=d:=by
 induction h with
 | leaf h=>exact fun _=>gz
 | now h=>intro xs hx;rw[jf,HX h hx]
 | one hz _ ih=>intro xs hx;rw[jg hz,ih hx]
 | two hz _ _ i1 i2=>intro xs hx;rw[jh hz,i1 hx,i2 hx]
 | Bv a b _ ih=>intro xs hx;rw[ji,ih hx]
 | bnd hz a b _ ih=>
  intro xs hx
  rw[jj,ih fun x hx'=>?_]
  obtain⟨h1,h2⟩:=List.mem_filter.mp hx'
  intro q
  rcases List.mem_append.mp q with q | q
  ·exact hx x h1 q
  ·exact of_decide_eq_true h2 (List.mem_singleton.mp q)
theorem HY {bs xs:List Str}{i:Int}{t:D}(h:Ts bs t) (h0:0≤i) (h9:i≤9):Ts (bs.filter fun y=>decide (y∉xs)) (ie xs (.int i) t):=by
 cases h with
 | any=>exact .any
 | name h=>simp[ie];exact .name h
 | num a b c=>exact .num a b c
 | @var o y a b=>
  show Ts _ (if _ then _ else _)
  split
  ·exact .num a h0 h9
  ·rename_i q
   exact .var a (List.mem_filter.mpr ⟨b,decide_eq_true fun z=>q ⟨(mQ a).1,z⟩⟩)
theorem vm {n:Nat}{bs:List Str}{i:Int}{d:D}(h:Sy n bs d) (h0:0≤i) (h9:i≤9):∀(xs:List Str),Sy n (bs.filter fun y=>decide (y∉xs)) (fG n xs (.int i) d):=by
 induction h with
 | leaf h=>intro xs;rw[gz];exact .leaf h
 | now h=>intro xs;rw[jf];exact .now (HY h h0 h9)
 | one hz _ ih=>intro xs;rw[jg hz];exact .one hz (ih xs)
 | two hz _ _ i1 i2=>intro xs;rw[jh hz];exact .two hz (i1 xs) (i2 xs)
 | Bv a b _ ih=>intro xs;rw[ji];exact .Bv a b (ih xs)
 | @bnd n bs z a y p hz ha hb _ ih=>
  intro xs
  rw[jj]
  refine .bnd hz ha hb ((ih _).mono fun w hw=>?_)
  obtain⟨h1,h2⟩:=List.mem_filter.mp hw
  have h2:=of_decide_eq_true h2
  rcases List.mem_append.mp h1 with q | q
  ·by_cases e:w=y
   ·exact List.mem_append.mpr (.inr (by rw[e];simp))
   ·exact List.mem_append.mpr (.inl (List.mem_filter.mpr ⟨q,decide_eq_true fun z=>h2 (List.mem_filter.mpr ⟨z,decide_eq_true e⟩)⟩))
  ·exact List.mem_append.mpr (.inr q)
theorem FO {bs xs:List Str}{i:Int}{t:D}{x:Str}(h:Ts bs t):ie [x] (.int i) (ie xs (.int i) t)=ie (x :: xs) (.int i) t:=by
 cases h with
 | any=>rfl
 | name h=>simp[ie]
 | num a b c=>rfl
 | @var o y a b=>
  have n:=(mQ a).1
  by_cases q:y∈xs
  ·simp[ie,n,q]
  ·by_cases e:y=x
   ·subst e;simp[ie,n,q]
   ·simp[ie,n,q,e]
theorem wA {n:Nat}{bs:List Str}{i:Int}{d:D}{x:Str}(h:Sy n bs d) (h0:0≤i) (h9:i≤9):∀(xs:List Str),fG n [x] (.int i) (fG n xs (.int i) d)=fG n (x :: xs) (.int i) d:=by
 induction h with
 | leaf h=>intro xs;rw[gz,gz,gz]
 | now h=>intro xs;rw[jf,jf,jf,FO h]
 | one hz _ ih=>intro xs;rw[jg hz,jg hz,jg hz,ih]
 | two hz _ _ i1 i2=>intro xs;rw[jh hz,jh hz,jh hz,i1,i2]
 | Bv a b _ ih=>intro xs;rw[ji,ji,ji,ih]
 | @bnd n bs z a y p hz ha hb hp ih=>
  intro xs
  rw[jj,jj,jj]
  by_cases e:x=y
  ·subst e
   rw[List.filter_cons_of_neg (by simp),List.filter_nil,List.filter_cons_of_neg (by simp),vj (vm hp h0 h9 _) fun x hx=>by cases hx]
  ·rw[List.filter_cons_of_pos (by simpa using e),List.filter_nil,List.filter_cons_of_pos (by simpa using e),ih]
theorem FP {bs xs ys:List Str}{k t:D}(h:Ts bs t) (hm:∀y∈bs,y∈xs↔y∈ys):ie xs k t=ie ys k t:=by
 cases h with
 | any=>rfl
 | name h=>simp[ie]
 | num a b c=>rfl
 | @var o y a b=>have:=hm y b;simp[ie,this]
theorem HZ {n:Nat}{bs:List Str}{k d:D}(h:Sy n bs d):∀{xs ys:List Str},(∀y∈bs,y∈xs↔y∈ys)→fG n xs k d=fG n ys k d:=by
 induction h with
 | leaf h=>intro xs ys _;rw[gz,gz]
 | now h=>intro xs ys hm;rw[jf,jf,FP h hm]
 | one hz _ ih=>intro xs ys hm;rw[jg hz,jg hz,ih hm]
 | two hz _ _ i1 i2=>intro xs ys hm;rw[jh hz,jh hz,i1 hm,i2 hm]
 | Bv a b _ ih=>intro xs ys hm;rw[ji,ji,ih hm]
 | @bnd n bs z a y p hz ha hb hp ih=>
  intro xs ys hm
  rw[jj,jj,ih fun w hw=>?_]
  rw[List.mem_filter,List.mem_filter]
  rcases List.mem_append.mp hw with q | q
  ·rw[hm w q]
  ·rw[List.mem_singleton.mp q];simp
theorem FQ {n:Nat}{bs:List Str}{i:Int}{d:D}(h:Sy n bs d):∀(xs:List Str),(dF n (fG n xs (.int i) d)).length=(dF n d).length∧((dF n (fG n xs (.int i) d)).filter tZ).length=((dF n d).filter tZ).length:=by
 induction h with
 | leaf h=>intro xs;rw[gz];exact⟨rfl,rfl⟩
 | now h=>intro xs;rw[jf];exact⟨rfl,rfl⟩
 | @one n bs z p hz _ ih=>
  intro xs
  rw[jg hz]
  obtain⟨i1,i2⟩:=ih xs
  have e:∀q:D,dF (n+1) (.tup [.str z,q])= .tup [.str z,q] :: dF n q:=fun q=>by rcases gP hz with rfl | rfl | rfl | rfl <;> exact congrArg _ (List.append_nil _)
  have b:∀q:D,tZ (.tup [.str z,q])=false:=fun q=>by rcases gP hz with rfl | rfl | rfl | rfl <;> rfl
  rw[e,e,List.length_cons,List.length_cons,i1,List.filter_cons_of_neg (by rw[b];decide),List.filter_cons_of_neg (by rw[b];decide)]
  exact⟨rfl,i2⟩
 | @two n bs z p q hz _ _ ip iq=>
  intro xs
  rw[jh hz]
  obtain⟨i1,i2⟩:=ip xs
  obtain⟨j1,j2⟩:=iq xs
  have e:∀a b:D,dF (n+1) (.tup [.str z,a,b])= .tup [.str z,a,b] :: (dF n a++dF n b):=fun a b=>by rcases gQ hz with rfl | rfl | rfl <;> exact congrArg (fun l=>D.tup _ :: (dF n a++l)) (List.append_nil _)
  have b:∀a b:D,tZ (.tup [.str z,a,b])=false:=fun a b=>by rcases gQ hz with rfl | rfl | rfl <;> rfl
  rw[e,e,List.length_cons,List.length_cons,List.length_append,List.length_append,i1,j1,List.filter_cons_of_neg (by rw[b];decide),List.filter_cons_of_neg (by rw[b];decide),List.filter_append,List.filter_append,List.length_append,List.length_append,i2,j2]
  exact⟨rfl,rfl⟩
 | @Bv n bs k p _ _ _ ih=>
  intro xs
  rw[ji]
  obtain⟨i1,i2⟩:=ih xs
  have e:∀q:D,dF (n+1) (.tup [.str "within",.int k,q])= .tup [.str "within",.int k,q] :: dF n q:=fun q=>congrArg _ (List.append_nil _)
  rw[e,e,List.length_cons,List.length_cons,i1,List.filter_cons_of_neg (fun h=>Bool.noConfusion (show false=true from h)),List.filter_cons_of_neg (fun h=>Bool.noConfusion (show false=true from h))]
  exact⟨rfl,i2⟩
 | @bnd n bs z a y p hz ha hb hp ih=>
  intro xs
  rw[jj]
  obtain⟨i1,i2⟩:=ih (xs.filter fun x=>decide (x≠y))
  have e:∀q:D,dF (n+1) (.tup [.str z,.str a,.str y,q])= .tup [.str z,.str a,.str y,q] :: dF n q:=fun q=>by rcases hz with rfl | rfl <;> exact congrArg _ (List.append_nil _)
  have b:∀q:D,tZ (.tup [.str z,.str a,.str y,q])=true:=fun q=>by rcases hz with rfl | rfl <;> rfl
  rw[e,e,List.length_cons,List.length_cons,i1,List.filter_cons_of_pos (b _),List.filter_cons_of_pos (b _),List.length_cons,List.length_cons,i2]
  exact⟨rfl,rfl⟩
theorem DT {c:Nat}(h:zY ⟨#[c]⟩=true):c < 16 ^ 8:=by
 obtain⟨i,hi⟩:=(PySem.StrLaws.found_iff Sw.N2 ⟨#[c]⟩).mp h
 have:=(PySem.StrLaws.subAt_one Sw.N2 c i).mp hi
 have k:∀c∈Sw.N2.cps.toList,c < 16 ^ 8:=by decide +kernel
 exact k c (List.mem_of_getElem? this)
theorem gR {z:Str}(h:nameB (.str z)=true):Sane (.str z)∧z.length≤8:=by
 unfold nameB at h
 simp only[Bool.and_eq_true,decide_eq_true_eq,List.all_eq_true] at h
 exact⟨fun c hc=>DT (h.2 _ (List.mem_map.mpr ⟨c,hc,rfl⟩)),h.1.2⟩
noncomputable def Wd (z:Str):Prop:=Sane (.str z)∧z.length≤8
theorem jD (z:Str) (h:(z.cps.toList.all fun c=>decide (c < 16 ^ 8))=true) (h8:z.length≤8):Wd z:=⟨fun c hc=>of_decide_eq_true (List.all_eq_true.mp h c hc),h8⟩
theorem good_str {z:Str}(h:Wd z):Good 82 0 (.str z):=⟨h.1,by show 10 * z.length+2≤82;have:=h.2;omega,Nat.le_refl _⟩
theorem good_int {k:Int}(h0:0≤k) (h9:k≤9):Good 40 0 (.int k):=by
 refine⟨?_,Nat.le_refl _,Nat.le_refl _⟩
 show k.natAbs < 10 ^ 30
 have:k.natAbs≤9:=by omega
 exact Nat.lt_of_le_of_lt this (by decide)
theorem xJ {a:D}{n k:Nat}(h:Good n k a):Good (n+6) (k+1) (.tup [a]):=⟨⟨h.tY,True.intro⟩,by show wD a+2+0+4≤_;have:=h.w;omega,by show max (cG a) 0+1≤_;have:=h.dep;omega⟩
theorem lN {a b:D}{n k n2 k2:Nat}(h:Good n k a) (g:Good n2 k2 b):Good (n+n2+8) (max k k2+1) (.tup [a,b]):=⟨⟨h.tY,g.tY,True.intro⟩,by show wD a+2+(wD b+2+0)+4≤_;have:=h.w;have:=g.w;omega,by show max (cG a) (max (cG b) 0)+1≤_;have:=h.dep;have:=g.dep;omega⟩
theorem xK {a b c:D}{n k n2 k2 n3 k3:Nat}(h:Good n k a) (g:Good n2 k2 b) (j:Good n3 k3 c):Good (n+n2+n3+10) (max k (max k2 k3)+1) (.tup [a,b,c]):=
 ⟨⟨h.tY,g.tY,j.tY,True.intro⟩,by show wD a+2+(wD b+2+(wD c+2+0))+4≤_;have:=h.w;have:=g.w;have:=j.w;omega,by show max (cG a) (max (cG b) (max (cG c) 0))+1≤_;have:=h.dep;have:=g.dep;have:=j.dep;omega⟩
theorem DU {a b c d:D}{n k n2 k2 n3 k3 n4 k4:Nat}(h:Good n k a) (g:Good n2 k2 b) (j:Good n3 k3 c) (l:Good n4 k4 d):Good (n+n2+n3+n4+12) (max k (max k2 (max k3 k4))+1) (.tup [a,b,c,d]):=
 ⟨⟨h.tY,g.tY,j.tY,l.tY,True.intro⟩,by show wD a+2+(wD b+2+(wD c+2+(wD d+2+0)))+4≤_;have:=h.w;have:=g.w;have:=j.w;have:=l.w;omega,by show max (cG a) (max (cG b) (max (cG c) (max (cG d) 0)))+1≤_;have:=h.dep;have:=g.dep;have:=j.dep;have:=l.dep;omega⟩
theorem yL {o:Str}(h:o∈lH):Wd o:=by
 simp only[lH,List.mem_cons,List.not_mem_nil,or_false] at h
 rcases h with rfl | rfl | rfl <;> exact jD _ (by decide +kernel) (by decide)
theorem Ts.good {bs:List Str}{t:D}(h:Ts bs t) (hw:∀y∈bs,Wd y):Good 172 1 t:=by
 cases h with
 | any=>exact(xJ (good_str (jD "any" (by decide +kernel) (by decide)))).mono (by decide) (by decide)
 | name h=>exact(lN (good_str (jD "name" (by decide +kernel) (by decide))) (good_str (gR h))).mono (by decide) (by decide)
 | num a b c=>exact(lN (good_str (yL a)) (good_int b c)).mono (by decide) (by decide)
 | var a b=>exact(lN (good_str (yL a)) (good_str (hw _ b))).mono (by decide) (by decide)
theorem Sy.good {n:Nat}{bs:List Str}{d:D}(h:Sy n bs d) (hw:∀y∈bs,Wd y):Good (400 * 2 ^ n - 300) (n+1) d:=by
 have pw:∀n:Nat,1≤2 ^ n:=fun n=>Nat.one_le_two_pow
 induction h with
 | @leaf n bs z h=>have:=pw n;exact(xJ (good_str (by rcases h with rfl | rfl <;> exact jD _ (by decide +kernel) (by decide)))).mono (by rw[Nat.pow_succ];omega) (by omega)
 | @now n bs t h=>have:=pw n;exact(lN (good_str (jD "now" (by decide +kernel) (by decide))) (h.good hw)).mono (by rw[Nat.pow_succ];omega) (by omega)
 | @one n bs z p hz _ ih=>have:=pw n;exact(lN (good_str (by rcases gP hz with rfl | rfl | rfl | rfl <;> exact jD _ (by decide +kernel) (by decide))) (ih hw)).mono (by rw[Nat.pow_succ];omega) (by omega)
 | @two n bs z p q hz _ _ i1 i2=>have:=pw n;exact(xK (good_str (by rcases gQ hz with rfl | rfl | rfl <;> exact jD _ (by decide +kernel) (by decide))) (i1 hw) (i2 hw)).mono (by rw[Nat.pow_succ];omega) (by omega)
 | @Bv n bs k p a b _ ih=>have:=pw n;exact(xK (good_str (jD "within" (by decide +kernel) (by decide))) (good_int a (by omega)) (ih hw)).mono (by rw[Nat.pow_succ];omega) (by omega)
 | @bnd n bs z a y p hz ha hb _ ih=>
  have:=pw n
  exact(DU (good_str (by rcases hz with rfl | rfl <;> exact jD _ (by decide +kernel) (by decide))) (good_str (gR ha)) (good_str (gR hb)) (ih fun w Ua=>by
   rcases List.mem_append.mp Ua with q | q
   ·exact hw w q
   ·rw[List.mem_singleton.mp q];exact gR hb)).mono (by rw[Nat.pow_succ];omega) (by omega)
end Sp
end
section
set_option Elab.async false
set_option linter.all false
set_option maxRecDepth 100000
namespace Sp
open PySem PySem.Spec PyProof.Rows L2 Sw Ss
@[simp] theorem Lh:ur [.lst []]=some (.m (.lst [])):=rfl
noncomputable def cR:GS:=
 (cC (eT (eQ (kE (qB (eF (eP wk (aa (oO 0) (aa (eC (.int 2)) au))))) (kE (qB (eF (eP Dg (aa (cJ 0 (eC (.int 0))) (aa (eC (.str "name")) au))))) (qB (Hu ["str"] (cJ 0 (eC (.int 1))))))))))
noncomputable def jk (bO:FM) (bh:FM) (cz:FM) (bN:FM):GS:=
 (wY (eT (eM 2 kj (aa (eF (aU cz (aP (eF (aC 3)) (aP (eF (aU bN (aP (eF (aC 0)) (aP (eF (aC 1)) bM)))) bM)))) au))))
noncomputable def cX (bO:FM) (bh:FM) (cz:FM) (bN:FM):GS:=
 (bA (mZ (kE (qB (eF (eP wk (aa (cJ 0 (eC (.int 0))) (aa (eC (.str "now")) au))))) (kE (qB (eF (aU bO (aP (cJ 0 (eC (.int 1))) bM)))) (qB (eF (eP mC (aa (eF (eP zg (aa (cJ 0 (eC (.int 1))) (aa (eC (.int 1)) au)))) (aa (eF (aC 1)) au))))))) (cC (eP gw (aa (eF (eP zg (aa (cJ 0 (eC (.int 1))) (aa (eC (.int 1)) au)))) au))) fL)
 (bA (dj 2 (eP gw au))
 (bA (tU (bName 3) (p8 (eF (aU bh (aP (eF (aC 0)) bM)))) (jk bO bh cz bN))
 (cC (aC 2)))))
noncomputable def lO (cz:FM):GS:=
 (cC (eP ur (aa (eF (aU cz (aP (eF (aC 0)) (aP (eF (eP dh au)) bM)))) au)))
noncomputable def cO (bO:FM) (bh:FM) (aQ:FM):GS:=
 (bA (mZ (qB (eF (eP wk (aa (cJ 0 (eC (.int 0))) (aa (eC (.str "now")) au))))) (bA (mZ (kE (qB (eF (aU bO (aP (cJ 0 (eC (.int 1))) bM)))) (qB (eF (eP wk (aa (eF (eP zg (aa (cJ 0 (eC (.int 1))) (aa (eC (.int 1)) au)))) (aa (eF (aC 1)) au)))))) (cC (eP dh (aa (eC (.str "now")) (aa (eF (eP dh (aa (eF (eP zg (aa (cJ 0 (eC (.int 1))) (aa (eC (.int 0)) au)))) (aa (eF (aC 2)) au)))) au)))) fL)
 (cC (aC 0))) fL)
 (bA (mZ (kE (qB (zS false ["each","one"] (cJ 0 (eC (.int 0))))) (qB (eF (eP wk (aa (cJ 0 (eC (.int 2))) (aa (eF (aC 1)) au)))))) (cC (aC 0)) fL)
 (cC (eP iI (aa (eF (Nj (eF (aC 0)) none (some (Hz [("yes",1),("no",1),("now",2),("not",1),("both",1),("either",1),("next",1),("till",1),("within",2),("always",1),("some",1),("each",3),("one",3)] (cJ 0 (eC (.int 0))))))) (aa (eF (eP qV (aa (eF (uL [2,1] (p8 (eF (aU bh (aP (eF (aC 0)) bM)))) uK (eF (aU aQ (aP (eF (aC 0)) (aP (eF (aC 2)) (aP (eF (aC 1)) bM))))))) au))) au))))))
noncomputable def jw (fV:FM) (aL:FM):GS:=
 (Dj 4 (eF (aC 5)) (eF (aU aL (aP (cJ 0 (eF (aC 5))) (aP (eF (aC 1)) (aP (eF (aC 2)) bM))))))
noncomputable def bq (fV:FM) (aL:FM):GS:=
 (bA (mZ (qB (eF (eP wk (aa (cJ 0 (eC (.int 0))) (aa (eC (.str "now")) au))))) (bA (dj 3 (eT (cJ 0 (eC (.int 1)))))
 (bA (mZ (kE (qB (eF (eP zI (aa (cJ 3 (eC (.int 0))) (aa (eF (eP dh (aa (eC (.str "less")) (aa (eC (.str "same")) (aa (eC (.str "more")) au))))) au))))) (kE (qB (Hu ["str"] (cJ 3 (eC (.int 1))))) (qB (eF (eP wk (aa (cJ 3 (eC (.int 1))) (aa (eF (aC 1)) au))))))) (cC (eP dh (aa (eC (.str "now")) (aa (eF (eP dh (aa (cJ 3 (eC (.int 0))) (aa (eF (aC 2)) au)))) au)))) fL)
 (cC (aC 0)))) fL)
 (bA (mZ (kE (qB (eF (eP zI (aa (cJ 0 (eC (.int 0))) (aa (eF (eP dh (aa (eC (.str "each")) (aa (eC (.str "one")) au)))) au))))) (qB (eF (eP wk (aa (cJ 0 (eC (.int 2))) (aa (eF (aC 1)) au)))))) (cC (aC 0)) fL)
 (bA (dj 4 (eP uP (aa (eF (aC 0)) au)))
 (bA (tU (bName 5) (p8 (eF (eP zg (aa (eF (aU fV (aP (cJ 0 (eC (.int 0))) bM))) (aa (eC (.int 1)) au))))) (jw fV aL))
 (cC (eP qV (aa (eF (aC 4)) au)))))))
noncomputable def AW:FM:=aG 1 cR
theorem Li:∀us r,AW us=some r→aG 1 cR us=some r:=fun _ _ h=>h
noncomputable def Ia:D→Bool
 | .tup [.str o,.str _]=>decide (o≠"name")
 | _=>false
theorem Ja {bs:List Str}{t:D}(h:Ts bs t):AW [.t t]=some (.t (.bl (Ia t)),[]):=by
 cases h with
 | any=>simp[AW,aG,cR,aA,Ia]
 | @name a h=>simp[AW,aG,cR,aA,Ia,bE]
 | @num o k a b c=>have n:=(mQ a).1;simp[AW,aG,cR,aA,Ia,bE,cg,n,eV,jB,iG]
 | @var o y a b=>have n:=(mQ a).1;simp[AW,aG,cR,aA,Ia,bE,cg,n,eV,jB,iG]
section
variable {f1 f2 f3 f4:FM}{d bd ib t:D}{z:Str}{r:List D}{pl:List D}
theorem FT:∀(pl:List D) (x3:Option U),iN x3=false→(∀p∈pl,f3 [.t p,.t ib]=some (.m (.lst []),[]))→f4 [.t d,.t bd]=some (.t ib,[])→
  ∃y3,loop (bName 3) (jk f1 f2 f3 f4) pl [some (.t d),some (.t bd),some (.m (.lst [])),x3]=some (.nx [some (.t d),some (.t bd),some (.m (.lst [])),y3]):=by
 intro pl x3 h3 hp hb
 obtain⟨S',e,y,hy,rfl⟩:=uZ (bd:=bName 3) (body:=jk f1 f2 f3 f4) pl (fun _ S=>∃y,iN y=false∧S=[some (.t d),some (.t bd),some (.m (.lst [])),y]) [some (.t d),some (.t bd),some (.m (.lst [])),x3] ⟨x3,h3,rfl⟩ (by
  rintro k p S hk ⟨y,hy,rfl⟩
  have:=hp p (List.mem_of_getElem? hk)
  exact⟨[some (.t d),some (.t bd),some (.m (.lst [])),some (.t p)],_,by simp[-ig,fO,hy],by simp[jk,hb,this];rfl,_,rfl,rfl⟩)
 exact⟨y,e⟩
theorem vn (hz:z≠"now") (e2:f2 [.t (.tup (.str z :: r))]=some (.t (.tup pl),[])) (e3:∀p∈pl,f3 [.t p,.t ib]=some (.m (.lst []),[])) (e4:f4 [.t (.tup (.str z :: r)),.t bd]=some (.t ib,[])):
  aG 4 (cX f1 f2 f3 f4) [.t (.tup (.str z :: r)),.t bd]=some (.m (.lst []),[]):=by
 obtain⟨y,e⟩:=FT (f1:=f1) (f2:=f2) pl none rfl e3 e4
 simp[aG,cX,aA,bE,hz,gn,e2,e]
theorem Ib {b:Bool}(e1:f1 [.t t]=some (.t (.bl b),[])) (h:b=true→∃o y:D,t= .tup [o,y]∧mC [y,bd]=some (.t (.bl false))) (e2:f2 [.t (.tup [.str "now",t])]=some (.t (.tup []),[])):
  aG 4 (cX f1 f2 f3 f4) [.t (.tup [.str "now",t]),.t bd]=some (.m (.lst []),[]):=by
 cases b with
 | false=>simp[aG,cX,aA,bE,cg,e1,gn,e2]
 | true=>
  obtain⟨o,y,rfl,hn⟩:=h rfl
  simp[aG,cX,aA,bE,cg,e1,gn,e2,hn]
end
noncomputable def Ae:Nat→FM
 | 0=>fun _=>none
 | j+1=>aG 4 (cX AW gH (Ae j) jX)
theorem Ic (j:Nat):∀us r,Ae (j+1) us=some r→aG 4 (cX AW gH (Ae j) jX) us=some r:=fun _ _ h=>h
theorem DV (us:List U):Ae 0 us=none:=rfl
theorem iz {z:Str}{r:List D}(hz:z∈jV){pl:List D}(h:(.str z :: r).drop (cE z)=pl):gH [.t (.tup (.str z :: r))]=some (.t (.tup pl),[]):=by rw[u6 (kq z hz),h]
theorem vo {z:Str}(h:z∈Ld):z∈jV∧cE z=1∧bL z=false∧z≠"now":=by rcases gP h with rfl | rfl | rfl | rfl <;> decide
theorem vp {z:Str}(h:z∈Le):z∈jV∧cE z=1∧bL z=false∧z≠"now":=by rcases gQ h with rfl | rfl | rfl <;> decide
theorem rM {z:Str}(h:z="yes"∨z="no"):z∈jV∧cE z=1∧bL z=false∧z≠"now":=by rcases h with rfl | rfl <;> decide
theorem vq:("within":Str)∈jV∧cE "within" =2∧bL "within" =false∧("within":Str)≠"now":=by decide
theorem vt {z:Str}(h:z="each"∨z="one"):z∈jV∧cE z=3∧bL z=true∧z≠"now":=by rcases h with rfl | rfl <;> decide
theorem FU:("now":Str)∈jV∧cE "now" =2:=by decide
theorem Lj {n:Nat}{bs:List Str}{d:D}(h:Sy n bs d):∀{j:Nat},n≤j→bs.length+n≤100→Ae j [.t d,.t (.tup (bs.map D.str))]=some (.m (.lst []),[]):=by
 induction h with
 | @leaf n bs z h=>
  intro j hj hb
  obtain⟨j,rfl⟩:∃i,j=i+1:=⟨j - 1,by omega⟩
  obtain⟨h1,h2,h3,h4⟩:=rM h
  exact vn h4 (iz h1 (by rw[h2] <;> rfl)) (fun p hp=>by cases hp) (nH h3)
 | @now n bs t h=>
  intro j hj hb
  obtain⟨j,rfl⟩:∃i,j=i+1:=⟨j - 1,by omega⟩
  refine Ib (Ja h) (fun hb=>?_) (iz FU.1 rfl)
  cases h with
  | any=>cases hb
  | name h=>exact absurd hb (by simp[Ia])
  | num a b c=>cases hb
  | var a b=>exact⟨_,_,rfl,by rw[Bu,mO b];rfl⟩
 | @one n bs z p hz _ ih=>
  intro j hj hb
  obtain⟨j,rfl⟩:∃i,j=i+1:=⟨j - 1,by omega⟩
  obtain⟨h1,h2,h3,h4⟩:=vo hz
  exact vn h4 (iz h1 (by rw[h2] <;> rfl)) (fun p hp=>by rw[List.mem_singleton.mp hp];exact ih (by omega) (by omega)) (nH h3)
 | @two n bs z p q hz _ _ i1 i2=>
  intro j hj hb
  obtain⟨j,rfl⟩:∃i,j=i+1:=⟨j - 1,by omega⟩
  obtain⟨h1,h2,h3,h4⟩:=vp hz
  refine vn (pl:=[p,q]) h4 (iz h1 (by rw[h2] <;> rfl)) (fun x hx=>?_) (nH h3)
  rcases List.mem_cons.mp hx with e | e
  ·rw[e];exact i1 (by omega) (by omega)
  ·rw[List.mem_singleton.mp e];exact i2 (by omega) (by omega)
 | @Bv n bs k p _ _ _ ih=>
  intro j hj hb
  obtain⟨j,rfl⟩:∃i,j=i+1:=⟨j - 1,by omega⟩
  obtain⟨h1,h2,h3,h4⟩:=vq
  exact vn h4 (iz h1 rfl) (fun p hp=>by rw[List.mem_singleton.mp hp];exact ih (by omega) (by omega)) (nH h3)
 | @bnd n bs z a y p hz _ _ _ ih=>
  intro j hj hb
  obtain⟨j,rfl⟩:∃i,j=i+1:=⟨j - 1,by omega⟩
  obtain⟨h1,h2,h3,h4⟩:=vt hz
  have e:=xD (a:=.str a) (b:=.str y) (r:=[p]) (bs:=bs.map D.str) h3 (by rw[List.length_map];omega)
  have ih':=fun hj hb=>ih (j:=j) hj hb
  rw[List.map_append] at ih'
  exact vn h4 (iz h1 (by rw[h2] <;> rfl)) (fun p hp=>by rw[List.mem_singleton.mp hp];exact ih' (by omega) (by rw[List.length_append];show bs.length+1+n≤100;omega)) e
noncomputable def vA:FM:=aG 1 (lO (Ae 9))
theorem FW:∀us r,vA us=some r→aG 1 (lO (Ae 9)) us=some r:=fun _ _ h=>h
theorem Ie {n:Nat}{d:D}(h:Sy n [] d) (hn:n≤8):vA [.t d]=some (.m (.lst []),[]):=by
 have e:=Lj h (j:=9) (by omega) (by show 0+n≤100;omega)
 rw[List.map_nil] at e
 simp[vA,aG,lO,aA,e]
theorem FY (ds:List D) (k:Nat):L2.cutD ds none (some (k:Int))=ds.take k:=by
 unfold L2.cutD
 rw[HT.zy,HT.xW,List.drop_zero,Nat.sub_zero]
 by_cases h:k≤ds.length
 ·rw[Nat.min_eq_left h]
 ·rw[Nat.min_eq_right (by omega),List.take_of_length_le (Nat.le_refl _),List.take_of_length_le (by omega)]
section
variable {f1 f2 f3:FM}{t k:D}{x z:Str}{r pl ql:List D}
theorem Ig (hz:z≠"now") (hb:bL z=true){a:D}(hr:r=a :: .str x :: pl):aG 3 (cO f1 f2 f3) [.t (.tup (.str z :: r)),.t (.str x),.t k]=some (.t (.tup (.str z :: r)),[]):=by
 subst hr
 unfold bL Bo at hb
 simp only[List.map_cons,List.map_nil] at hb
 simp[aG,cO,aA,bE,ir,hz,hb]
theorem ux {b:Bool}(e1:f1 [.t t]=some (.t (.bl b),[])) (h:b=true→∃o y:Str,t= .tup [.str o,.str y]∧y≠x):aG 3 (cO f1 f2 f3) [.t (.tup [.str "now",t]),.t (.str x),.t k]=some (.t (.tup [.str "now",t]),[]):=by
 cases b with
 | false=>simp[aG,cO,aA,bE,cg,e1]
 | true=>
  obtain⟨o,y,rfl,hn⟩:=h rfl
  simp[aG,cO,aA,bE,cg,e1,hn]
theorem Ih {o:Str}(e1:f1 [.t (.tup [.str o,.str x])]=some (.t (.bl true),[])):aG 3 (cO f1 f2 f3) [.t (.tup [.str "now",.tup [.str o,.str x]]),.t (.str x),.t k]=some (.t (.tup [.str "now",.tup [.str o,k]]),[]):=by
 simp[aG,cO,aA,bE,cg,e1]
theorem Af (hz:z≠"now") (hh:rH z) (hb:bL z=false∨∃(a:D) (y:Str) (q:List D),r=a :: .str y :: q∧y≠x) (e2:f2 [.t (.tup (.str z :: r))]=some (.t (.tup pl),[])) (hl:pl.length≤2) (g:D→D) (e3:∀p∈pl,f3 [.t p,.t (.str x),.t k]=some (.t (g p),[])):
  aG 3 (cO f1 f2 f3) [.t (.tup (.str z :: r)),.t (.str x),.t k]=some (.t (.tup ((.str z :: r).take (cE z)++pl.map g)),[]):=by
 have e:=hh.Hr
 unfold Ql at e
 have c:=FY (.str z :: r) (cE z)
 have e4:=rB (cap:=[2,1]) (g:=eF (aU f3 (aP (eF (aC 0)) (aP (eF (aC 2)) (aP (eF (aC 1)) bM))))) (S:=[some (.t (.tup (.str z :: r))),some (.t (.str x)),some (.t k)]) (ts:=[k,.str x]) rfl g pl [] (by
  intro p hp
  simp[e3 p hp])
 rw[List.nil_append] at e4
 have l1:pl.length≤100000:=by omega
 have l2:((.str z :: r).take (cE z)).length≤4:=by rw[List.length_take];have:=hh.s4;have:=hh.l4;omega
 have l3:((D.str z :: r).take (cE z)).length+pl.length≤100000:=by omega
 have i1:=mL z
 rcases hb with hb | ⟨a,y,q,rfl,hy⟩
 ·unfold bL Bo at hb
  simp only[List.map_cons,List.map_nil] at hb
  simp[-List.length_take,aG,cO,aA,bE,ir,hz,hb,e,gn,e2,e4,l1,c,l3]
 ·cases hb:bL z with
  | false=>
   unfold bL Bo at hb
   simp only[List.map_cons,List.map_nil] at hb
   simp[-List.length_take,aG,cO,aA,bE,ir,hz,hb,e,gn,e2,e4,l1,c,l3]
  | true=>
   unfold bL Bo at hb
   simp only[List.map_cons,List.map_nil] at hb
   simp[-List.length_take,aG,cO,aA,bE,ir,hz,hb,e,gn,e2,e4,l1,c,l3,hy]
end
noncomputable def pU:Nat→FM
 | 0=>fun _=>none
 | j+1=>aG 3 (cO AW gH (pU j))
theorem Ii (j:Nat):∀us r,pU (j+1) us=some r→aG 3 (cO AW gH (pU j)) us=some r:=fun _ _ h=>h
theorem DW (us:List U):pU 0 us=none:=rfl
theorem uy {n : Nat} {bs : List Str} {d : D} (h : Sy n bs d) (x : Str) (k : D) : ∀ {j : Nat}, n ≤ j → pU j [.t d, .t (.str x), .t k] = some (.t (fG n [x] k d), []) := by
  induction h with
  | @leaf n bs z h=>
    intro j hj
    obtain⟨j,rfl⟩:∃i,j=i+1:=⟨j - 1,by omega⟩
    obtain⟨h1,h2,h3,h4⟩:=rM h
    have e:=Af (f1:=AW) (f3:=pU j) (x:=x) (k:=k) h4 (kq z h1) (.inl h3) (iz (r:=[]) (pl:=[]) h1 (by rw[h2] <;> rfl)) (by decide) id (fun p hp=>by cases hp)
    rw[h2] at e
    rw[gz]
    exact e
  | @now n bs t h=>
    intro j hj
    obtain⟨j,rfl⟩:∃i,j=i+1:=⟨j - 1,by omega⟩
    rw[jf]
    have hv:=Ja h
    cases h with
    | any=>exact ux hv (fun q=>by cases q)
    | @name a h=>rw[show ie [x] k (.tup [.str "name",.str a])= .tup [.str "name",.str a] by simp[ie]];exact ux hv (fun q=>absurd q (by simp[Ia]))
    | num a b c=>exact ux hv (fun q=>by cases q)
    | @var o y a b=>
      have n:=(mQ a).1
      by_cases e:y=x
      · subst e
        rw[show ie [y] k (.tup [.str o,.str y])= .tup [.str o,k] by simp[ie,n]]
        rw[show Ia (.tup [.str o,.str y])=true by simp[Ia,n]] at hv
        exact Ih hv
      · rw[show ie [x] k (.tup [.str o,.str y])= .tup [.str o,.str y] by simp[ie,e]]
        exact ux hv (fun _=>⟨o,y,rfl,e⟩)
  | @one n bs z p hz _ ih=>
    intro j hj
    obtain⟨j,rfl⟩:∃i,j=i+1:=⟨j - 1,by omega⟩
    obtain⟨h1,h2,h3,h4⟩:=vo hz
    have e:=Af (f1:=AW) (f3:=pU j) (x:=x) (k:=k) h4 (kq z h1) (.inl h3) (iz (r:=[p]) (pl:=[p]) h1 (by rw[h2] <;> rfl)) (by simp) (fG n [x] k) (fun p hp=>by rw[List.mem_singleton.mp hp];exact ih (by omega))
    rw[h2] at e
    rw[jg hz]
    exact e
  | @two n bs z p q hz _ _ i1 i2=>
    intro j hj
    obtain⟨j,rfl⟩:∃i,j=i+1:=⟨j - 1,by omega⟩
    obtain⟨h1,h2,h3,h4⟩:=vp hz
    have e:=Af (f1:=AW) (f3:=pU j) (x:=x) (k:=k) h4 (kq z h1) (.inl h3) (iz (r:=[p,q]) (pl:=[p,q]) h1 (by rw[h2] <;> rfl)) (by simp) (fG n [x] k) (fun w hw=>by
      rcases List.mem_cons.mp hw with e | e
      · rw[e];exact i1 (by omega)
      · rw[List.mem_singleton.mp e];exact i2 (by omega))
    rw[h2] at e
    rw[jh hz]
    exact e
  | @Bv n bs i p _ _ _ ih=>
    intro j hj
    obtain⟨j,rfl⟩:∃i,j=i+1:=⟨j - 1,by omega⟩
    obtain⟨h1,h2,h3,h4⟩:=vq
    have e:=Af (f1:=AW) (f3:=pU j) (x:=x) (k:=k) h4 (kq _ h1) (.inl h3) (iz (r:=[.int i,p]) (pl:=[p]) h1 rfl) (by simp) (fG n [x] k) (fun p hp=>by rw[List.mem_singleton.mp hp];exact ih (by omega))
    rw[h2] at e
    rw[ji]
    exact e
  | @bnd n bs z a y p hz _ _ hp ih=>
    intro j hj
    obtain⟨j,rfl⟩:∃i,j=i+1:=⟨j - 1,by omega⟩
    obtain⟨h1,h2,h3,h4⟩:=vt hz
    rw[jj]
    by_cases e:x=y
    · subst e
      rw[List.filter_cons_of_neg (by simp),List.filter_nil,vj hp fun x hx=>by cases hx]
      exact Ig h4 h3 rfl
    · rw[List.filter_cons_of_pos (by simpa using e),List.filter_nil]
      have e:=Af (f1:=AW) (f3:=pU j) (x:=x) (k:=k) h4 (kq z h1) (.inr ⟨.str a,y,[p],rfl,fun q=>e q.symm⟩) (iz (r:=[.str a,.str y,p]) (pl:=[p]) h1 (by rw[h2] <;> rfl)) (by simp) (fG n [x] k) (fun p hp=>by rw[List.mem_singleton.mp hp];exact ih (by omega))
      rw[h2] at e
      exact e
end Sp
end
section
set_option Elab.async false
set_option linter.all false
set_option maxRecDepth 100000
namespace Sp
open PySem PySem.Spec PyProof.Rows L2 Sw Ss
section
variable {f1 f2:FM}{t k p q p' q' lg:D}{x z y a:Str}
theorem Ij (h:∀o y:Str,t= .tup [.str o,.str y]→o∈lH→y≠x){bs:List Str}(ht:Ts bs t):aG 6 (bq f1 f2) [.t (.tup [.str "now",t]),.t (.str x),.t k]=some (.t (.tup [.str "now",t]),[]):=by
 have i0:∀o:Str,zI [.str o,.tup [.str "less",.str "same",.str "more"]]=some (.t (.bl (inD (.str o) (lH.map D.str)))):=fun o=>qp (.str o) lH
 cases ht with
 | any=>have:=i0 "any";rw[show inD (.str "any") (lH.map D.str)=false from by decide] at this;simp[aG,bq,aA,bE,cg,this]
 | name ha=>have:=i0 "name";rw[show inD (.str "name") (lH.map D.str)=false from by decide] at this;simp[aG,bq,aA,bE,cg,this]
 | @num o i ho b c=>have:=i0 o;rw[mO ho] at this;simp[aG,bq,aA,bE,cg,this,eV,jB,iG]
 | @var o y ho b=>
  have:=i0 o
  rw[mO ho] at this
  have hy:=h o y rfl ho
  simp[aG,bq,aA,bE,cg,this,eV,jB,iG,hy]
theorem CI {o:Str}(ho:o∈lH):aG 6 (bq f1 f2) [.t (.tup [.str "now",.tup [.str o,.str x]]),.t (.str x),.t k]=some (.t (.tup [.str "now",.tup [.str o,k]]),[]):=by
 have i0:zI [.str o,.tup [.str "less",.str "same",.str "more"]]=some (.t (.bl (inD (.str o) (lH.map D.str)))):=qp (.str o) lH
 rw[mO ho] at i0
 simp[aG,bq,aA,bE,cg,i0,eV,jB,iG]
theorem Ik {r:List D}{a:D}(hz:z≠"now") (hb:bL z=true):aG 6 (bq f1 f2) [.t (.tup (.str z :: a :: .str x :: r)),.t (.str x),.t k]=some (.t (.tup (.str z :: a :: .str x :: r)),[]):=by
 have i0:=mL z
 rw[hb] at i0
 simp[aG,bq,aA,bE,ir,hz,i0]
theorem Ub (hz:z≠"now") (hb:bL z=false) (e1:f1 [.t (.str z)]=some (.t (.tup [lg,.lst []]),[])):aG 6 (bq f1 f2) [.t (.tup [.str z]),.t (.str x),.t k]=some (.t (.tup [.str z]),[]):=by
 have i0:=mL z
 rw[hb] at i0
 simp[aG,bq,aA,bE,cg,hz,i0,e1,gn]
theorem Uc (hz:z≠"now") (hb:bL z=false) (e1:f1 [.t (.str z)]=some (.t (.tup [lg,.lst [.int 1]]),[])) (e2:f2 [.t p,.t (.str x),.t k]=some (.t p',[])):aG 6 (bq f1 f2) [.t (.tup [.str z,p]),.t (.str x),.t k]=some (.t (.tup [.str z,p']),[]):=by
 have i0:=mL z
 rw[hb] at i0
 simp[aG,bq,jw,aA,bE,cg,hz,i0,e1,gn,jM,e2,show ze 2 1=some 1 from rfl]
theorem Ud (hz:z≠"now") (hb:bL z=false) (e1:f1 [.t (.str z)]=some (.t (.tup [lg,.lst [.int 1,.int 2]]),[])) (e2:f2 [.t p,.t (.str x),.t k]=some (.t p',[])) (e3:f2 [.t q,.t (.str x),.t k]=some (.t q',[])):
  aG 6 (bq f1 f2) [.t (.tup [.str z,p,q]),.t (.str x),.t k]=some (.t (.tup [.str z,p',q']),[]):=by
 have i0:=mL z
 rw[hb] at i0
 simp[aG,bq,jw,aA,bE,cg,ir,hz,i0,e1,gn,jM,e2,e3,show ze 3 1=some 1 from rfl,show ze 3 2=some 2 from rfl]
theorem Ue {i:D}(hz:z≠"now") (hb:bL z=false) (e1:f1 [.t (.str z)]=some (.t (.tup [lg,.lst [.int 2]]),[])) (e3:f2 [.t q,.t (.str x),.t k]=some (.t q',[])):
  aG 6 (bq f1 f2) [.t (.tup [.str z,i,q]),.t (.str x),.t k]=some (.t (.tup [.str z,i,q']),[]):=by
 have i0:=mL z
 rw[hb] at i0
 simp[aG,bq,jw,aA,bE,cg,ir,hz,i0,e1,gn,jM,e3,show ze 3 2=some 2 from rfl]
theorem ZO (a b c d:D):iD [a,b,c,d] 3=some d:=rfl
theorem Ug {a:D}(hz:z≠"now") (hb:bL z=true) (hy:y≠x) (e1:f1 [.t (.str z)]=some (.t (.tup [lg,.lst [.int 3]]),[])) (e3:f2 [.t q,.t (.str x),.t k]=some (.t q',[])):
  aG 6 (bq f1 f2) [.t (.tup [.str z,a,.str y,q]),.t (.str x),.t k]=some (.t (.tup [.str z,a,.str y,q']),[]):=by
 have i0:=mL z
 rw[hb] at i0
 simp[aG,bq,jw,aA,bE,cg,ir,hz,i0,hy,e1,gn,jM,e3,ZO,show ze 4 3=some 3 from rfl]
end
noncomputable def qq:Nat→FM
 | 0=>fun _=>none
 | j+1=>aG 6 (bq iP (qq j))
theorem FZ (j:Nat):∀us r,qq (j+1) us=some r→aG 6 (bq iP (qq j)) us=some r:=fun _ _ h=>h
theorem Bw (us:List U):qq 0 us=none:=rfl
theorem yM {z:Str}(h:z∈Ld):iP [.t (.str z)]=some (.t (.tup [.int 2,.lst [.int 1]]),[]):=by rw[lM];rcases gP h with rfl | rfl | rfl | rfl <;> rfl
theorem yN {z:Str}(h:z∈Le):iP [.t (.str z)]=some (.t (.tup [.int 3,.lst [.int 1,.int 2]]),[]):=by rw[lM];rcases gQ h with rfl | rfl | rfl <;> rfl
theorem wB {z:Str}(h:z="yes"∨z="no"):iP [.t (.str z)]=some (.t (.tup [.int 1,.lst []]),[]):=by rw[lM];rcases h with rfl | rfl <;> rfl
theorem yO:iP [.t (.str "within")]=some (.t (.tup [.int 3,.lst [.int 2]]),[]):=by rw[lM];rfl
theorem yP {z:Str}(h:z="each"∨z="one"):iP [.t (.str z)]=some (.t (.tup [.int 4,.lst [.int 3]]),[]):=by rw[lM];rcases h with rfl | rfl <;> rfl
theorem Ga {n : Nat} {bs : List Str} {d : D} (h : Sy n bs d) (x : Str) (k : D) : ∀ {j : Nat}, n ≤ j → qq j [.t d, .t (.str x), .t k] = some (.t (fG n [x] k d), []) := by
  induction h with
  | @leaf n bs z h=>
    intro j hj
    obtain⟨j,rfl⟩:∃i,j=i+1:=⟨j - 1,by omega⟩
    obtain⟨h1,h2,h3,h4⟩:=rM h
    rw[gz]
    exact Ub h4 h3 (wB h)
  | @now n bs t h=>
    intro j hj
    obtain⟨j,rfl⟩:∃i,j=i+1:=⟨j - 1,by omega⟩
    rw[jf]
    by_cases e:ie [x] k t=t
    · rw[e]
      by_cases e2:∃o:Str,t= .tup [.str o,.str x]∧o∈lH
      · obtain⟨o,rfl,ho⟩:=e2
        have n:=(mQ ho).1
        rw[show ie [x] k (.tup [.str o,.str x])= .tup [.str o,k] by simp[ie,n]] at e
        have e':=CI (f1:=iP) (f2:=qq j) (x:=x) (k:=k) ho
        rw[e] at e'
        exact e'
      · exact Ij (fun o y ht ho hy=>e2 ⟨o,by rw[ht,hy],ho⟩) h
    · cases h with
      | any=>exact absurd rfl e
      | name h=>exact absurd (by simp[ie]) e
      | num a b c=>exact absurd rfl e
      | @var o y a b=>
        have n:=(mQ a).1
        by_cases q:y=x
        · subst q
          rw[show ie [y] k (.tup [.str o,.str y])= .tup [.str o,k] by simp[ie,n]]
          exact CI a
        · exact absurd (by simp[ie,q]) e
  | @one n bs z p hz _ ih=>
    intro j hj
    obtain⟨j,rfl⟩:∃i,j=i+1:=⟨j - 1,by omega⟩
    obtain⟨h1,h2,h3,h4⟩:=vo hz
    rw[jg hz]
    exact Uc h4 h3 (yM hz) (ih (by omega))
  | @two n bs z p q hz _ _ i1 i2=>
    intro j hj
    obtain⟨j,rfl⟩:∃i,j=i+1:=⟨j - 1,by omega⟩
    obtain⟨h1,h2,h3,h4⟩:=vp hz
    rw[jh hz]
    exact Ud h4 h3 (yN hz) (i1 (by omega)) (i2 (by omega))
  | @Bv n bs i p _ _ _ ih=>
    intro j hj
    obtain⟨j,rfl⟩:∃i,j=i+1:=⟨j - 1,by omega⟩
    obtain⟨h1,h2,h3,h4⟩:=vq
    rw[ji]
    exact Ue h4 h3 yO (ih (by omega))
  | @bnd n bs z a y p hz _ _ hp ih=>
    intro j hj
    obtain⟨j,rfl⟩:∃i,j=i+1:=⟨j - 1,by omega⟩
    obtain⟨h1,h2,h3,h4⟩:=vt hz
    rw[jj]
    by_cases e:x=y
    · subst e
      rw[List.filter_cons_of_neg (by simp),List.filter_nil,vj hp fun x hx=>by cases hx]
      exact Ik h4 h3
    · rw[List.filter_cons_of_pos (by simpa using e),List.filter_nil]
      exact Ug h4 h3 (fun q=>e q.symm) (yP hz) (ih (by omega))
end Sp
end
section
set_option Elab.async false
set_option linter.all false
set_option maxRecDepth 100000
namespace Sp
open PySem PySem.Spec PyProof.Rows L2 Sw Ss
noncomputable def pI (aM:FM) (aq:FM) (aJ:FM) (az:FM) (aL:FM) (aQ:FM) (bg:FM) (aN:FM):GS:=
 (bA (dj 10 (aU aq (fB (aC 2) (aP (eC (.int 10)) bM))))
 (bA (dj 11 (eP mX (aa (eF (aU aL (aP (eF (aC 5)) (aP (eF (aC 9)) (aP (eF (aC 10)) bM))))) au)))
 (bA (mZ (AU (qB (eF (eP Dg (aa (eF (eP mX (aa (eF (aU aQ (aP (eF (aC 5)) (aP (eF (aC 9)) (aP (eF (aC 10)) bM))))) au))) (aa (eF (aC 11)) au))))) (qB (eF (eP Dg (aa (eF (eP mX (aa (eF (aC 5)) au))) (aa (eF (aC 6)) au)))))) (cC (eT (eC (.bl false)))) fL)
 (dj 7 (aU aQ (aP (eF (aC 7)) (aP (eF (aC 9)) (aP (eC (.int 3)) bM))))))))
noncomputable def pJ (aM:FM) (aq:FM) (aJ:FM) (az:FM) (aL:FM) (aQ:FM) (bg:FM) (aN:FM):GS:=
 (dj 8 (aU aQ (aP (eF (aC 8)) (aP (eF (aC 9)) (aP (eC (.int 3)) bM)))))
noncomputable def rN (aM:FM) (aq:FM) (aJ:FM) (az:FM) (aL:FM) (aQ:FM) (bg:FM) (aN:FM):GS:=
 (bA (dj 2 (aU aM (fB (aC 0) (aP (eF (aC 1)) bM))))
 (bA (dj 3 (eP zg (aa (eF (eP gw (aa (eF (eP dh (aa (eC (.str "x")) au))) (aa (eF (eP dh (aa (eC (.str "x")) (aa (eC (.str "ab")) au)))) (aa (eF (eP dh (aa (eC (.str "a")) (aa (eC (.str "k")) (aa (eC (.str "x")) au))))) au))))) (aa (eF (aU aq (fB (aC 2) (aP (eC (.int 3)) bM)))) au))))
 (bA (dj 4 (oW [("names",(eF (aU aJ bM))),("binders",(eC (.int 0)))]))
 (bA (dj 5 (aU az (fB (aC 2) (fB (aC 4) (aP (eF (aC 3)) (aP (eF (eP iI (aa (eC (.int 1)) (aa (eF (aU aq (fB (aC 2) (aP (eC (.int 16)) bM)))) au)))) (aP (eF (eP iI (aa (eC (.int 1)) (aa (eF (aU aq (fB (aC 2) (aP (eC (.int 8)) bM)))) au)))) bM)))))))
 (bA (dj 6 (eP mX (aa (eF (aC 5)) au)))
 (bA (dj 7 (aC 5))
 (bA (dj 8 (aC 5))
 (bA (tU (bName 9) (p8 (eF (eP iI (aa (eF (aC 3)) (aa (eF (eP dh (aa (eC (.str "none")) (aa (eC (.str "any")) au)))) au))))) (pI aM aq aJ az aL aQ bg aN))
 (bA (tU (bName 9) (p8 (eF (HE (eF (eP uP (aa (eF (aC 3)) au))) (eF (eP EW (aa (eC (.int 1)) au)))))) (pJ aM aq aJ az aL aQ bg aN))
 (bA (mZ (AU (qB (eF (eP Dg (aa (eF (aC 7)) (aa (eF (aC 8)) au))))) (AU (qB (eF (eP Dg (aa (eF (aU bg (aP (eF (aC 7)) bM))) (aa (eF (eP gw au)) au))))) (qB (eF (eP qk (aa (eF (aU aN (aP (eF (aC 7)) bM))) (aa (eC (.bl true)) au))))))) (cC (eT (eC (.bl false)))) fL)
 (mZ (qB (eF (eP Dg (aa (eF (eP mX (aa (eF (aU aQ (aP (eF (aC 7)) (aP (eC (.str "x")) (aP (eC (.int 5)) bM))))) au))) (aa (eF (eP mX (aa (eF (aC 7)) au))) au))))) (cC (eT (eC (.bl false)))) fL)))))))))))
noncomputable def Ag (aM:FM) (aq:FM) (aJ:FM) (az:FM) (aL:FM) (aQ:FM) (bg:FM) (aN:FM):GS:=
 (bA (tU (bName 1) (uJ (aa (eF (eP iI (aa (eC (.int 1)) (aa (eF (eP uI (aa (eF (Dk 0 none (some (eC (.int 19))))) au))) au)))) au)) (rN aM aq aJ az aL aQ bg aN))
 (cC (eT (eC (.bl true)))))
noncomputable def Uh (aM:FM) (aq:FM) (aJ:FM) (az:FM) (aL:FM) (aQ:FM) (bg:FM) (aN:FM):GS:=
 (dj 2 (aU aM (fB (aC 0) (aP (eF (aC 1)) bM))))
noncomputable def Ui (aM:FM) (aq:FM) (aJ:FM) (az:FM) (aL:FM) (aQ:FM) (bg:FM) (aN:FM):GS:=
 (dj 3 (eP zg (aa (eF (eP gw (aa (eF (eP dh (aa (eC (.str "x")) au))) (aa (eF (eP dh (aa (eC (.str "x")) (aa (eC (.str "ab")) au)))) (aa (eF (eP dh (aa (eC (.str "a")) (aa (eC (.str "k")) (aa (eC (.str "x")) au))))) au))))) (aa (eF (aU aq (fB (aC 2) (aP (eC (.int 3)) bM)))) au))))
noncomputable def Uj (aM:FM) (aq:FM) (aJ:FM) (az:FM) (aL:FM) (aQ:FM) (bg:FM) (aN:FM):GS:=
 (dj 4 (oW [("names",(eF (aU aJ bM))),("binders",(eC (.int 0)))]))
noncomputable def Uk (aM:FM) (aq:FM) (aJ:FM) (az:FM) (aL:FM) (aQ:FM) (bg:FM) (aN:FM):GS:=
 (dj 5 (aU az (fB (aC 2) (fB (aC 4) (aP (eF (aC 3)) (aP (eF (eP iI (aa (eC (.int 1)) (aa (eF (aU aq (fB (aC 2) (aP (eC (.int 16)) bM)))) au)))) (aP (eF (eP iI (aa (eC (.int 1)) (aa (eF (aU aq (fB (aC 2) (aP (eC (.int 8)) bM)))) au)))) bM)))))))
noncomputable def Ul (aM:FM) (aq:FM) (aJ:FM) (az:FM) (aL:FM) (aQ:FM) (bg:FM) (aN:FM):GS:=
 (dj 6 (eP mX (aa (eF (aC 5)) au)))
noncomputable def Um (aM:FM) (aq:FM) (aJ:FM) (az:FM) (aL:FM) (aQ:FM) (bg:FM) (aN:FM):GS:=
 (dj 7 (aC 5))
noncomputable def Uo (aM:FM) (aq:FM) (aJ:FM) (az:FM) (aL:FM) (aQ:FM) (bg:FM) (aN:FM):GS:=
 (dj 8 (aC 5))
noncomputable def Up (aM:FM) (aq:FM) (aJ:FM) (az:FM) (aL:FM) (aQ:FM) (bg:FM) (aN:FM):GS:=
 (tU (bName 9) (p8 (eF (eP iI (aa (eF (aC 3)) (aa (eF (eP dh (aa (eC (.str "none")) (aa (eC (.str "any")) au)))) au))))) (pI aM aq aJ az aL aQ bg aN))
noncomputable def Uq (aM:FM) (aq:FM) (aJ:FM) (az:FM) (aL:FM) (aQ:FM) (bg:FM) (aN:FM):GS:=
 (tU (bName 9) (p8 (eF (HE (eF (eP uP (aa (eF (aC 3)) au))) (eF (eP EW (aa (eC (.int 1)) au)))))) (pJ aM aq aJ az aL aQ bg aN))
noncomputable def Ur (aM:FM) (aq:FM) (aJ:FM) (az:FM) (aL:FM) (aQ:FM) (bg:FM) (aN:FM):GS:=
 (mZ (AU (qB (eF (eP Dg (aa (eF (aC 7)) (aa (eF (aC 8)) au))))) (AU (qB (eF (eP Dg (aa (eF (aU bg (aP (eF (aC 7)) bM))) (aa (eF (eP gw au)) au))))) (qB (eF (eP qk (aa (eF (aU aN (aP (eF (aC 7)) bM))) (aa (eC (.bl true)) au))))))) (cC (eT (eC (.bl false)))) fL)
noncomputable def Lk (aM:FM) (aq:FM) (aJ:FM) (az:FM) (aL:FM) (aQ:FM) (bg:FM) (aN:FM):GS:=
 (mZ (qB (eF (eP Dg (aa (eF (eP mX (aa (eF (aU aQ (aP (eF (aC 7)) (aP (eC (.str "x")) (aP (eC (.int 5)) bM))))) au))) (aa (eF (eP mX (aa (eF (aC 7)) au))) au))))) (cC (eT (eC (.bl false)))) fL)
theorem qu {d:D}(h:AV d):mX [d]=some (.t (.str (toPy d).shown)):=by show(if AV d then some (U.t (.str (toPy d).shown)) else none)=_;rw[if_pos h]
section
variable {f1 f2 f3 f4 f5 f6 f7 f8:FM}{a0 a1 a3 a4 a8 x9 jI jJ:Option U}{T T1:MO}{d d' e e':D}{v:Int}{x h:Str}
theorem Oe:rN f1 f2 f3 f4 f5 f6 f7 f8=bA (Uh f1 f2 f3 f4 f5 f6 f7 f8) (bA (Ui f1 f2 f3 f4 f5 f6 f7 f8) (bA (Uj f1 f2 f3 f4 f5 f6 f7 f8) (bA (Uk f1 f2 f3 f4 f5 f6 f7 f8) (bA (Ul f1 f2 f3 f4 f5 f6 f7 f8) (bA (Um f1 f2 f3 f4 f5 f6 f7 f8) (bA (Uo f1 f2 f3 f4 f5 f6 f7 f8) (bA (Up f1 f2 f3 f4 f5 f6 f7 f8) (bA (Uq f1 f2 f3 f4 f5 f6 f7 f8) (bA (Ur f1 f2 f3 f4 f5 f6 f7 f8) (Lk f1 f2 f3 f4 f5 f6 f7 f8)))))))))):=rfl
theorem Il (h10:iN jI=false) (h11:iN jJ=false) (p:f2 [.b T,.t (.int 10)]=some (.t (.int v),[T1])) (e5:f5 [.t d,.t (.str x),.t (.int v)]=some (.t d',[])) (e6:f6 [.t d,.t (.str x),.t (.int v)]=some (.t d',[]))
  (e7:f6 [.t e,.t (.str x),.t (.int 3)]=some (.t e',[])) (o1:AV d') (o2:AV d):
  pI f1 f2 f3 f4 f5 f6 f7 f8 [a0,a1,some (.m T),a3,a4,some (.t d),some (.t (.str (toPy d).shown)),some (.t e),a8,some (.t (.str x)),jI,jJ]=
   some (.nx [a0,a1,some (.m T1),a3,a4,some (.t d),some (.t (.str (toPy d).shown)),some (.t e'),a8,some (.t (.str x)),some (.t (.int v)),some (.t (.str (toPy d').shown))]):=by
 have r1:=qu o1
 have r2:=qu o2
 simp[-ig,fO,-yG,pI,h10,h11,p,e5,e6,e7,r1,r2]
theorem Im {a5 a6 a7:Option U}(e7:f6 [.t e,.t (.str x),.t (.int 3)]=some (.t e',[])):pJ f1 f2 f3 f4 f5 f6 f7 f8 [a0,a1,a3,a4,a8,a5,a6,a7,some (.t e),some (.t (.str x)),jI,jJ]=some (.nx [a0,a1,a3,a4,a8,a5,a6,a7,some (.t e'),some (.t (.str x)),jI,jJ]):=by
 simp[-ig,fO,pJ,e7]
end
noncomputable abbrev Gb (g:FM→FM→FM→FM→FM→FM→FM→FM→GS):GS:=g sU jm pG (vf 17) (qq 9) (pU 9) vA j3
theorem Sy.Qt {n:Nat}{bs:List Str}{d:D}(h:Sy n bs d) (hn:n≤8) (hw:∀y∈bs,Wd y):AV d:=by
 have:2 ^ n≤2 ^ 8:=Nat.pow_le_pow_right (by decide) hn
 have:(2:Nat) ^ 8=256:=by decide
 exact(h.good hw).AV (by omega) (by omega)
theorem Ts.fit {bs:List Str}{t:D}(h:Ts bs t) (hw:∀y∈bs,Wd y):v7 8 t:=by
 cases h with
 | any=>exact⟨by decide,by show 3≤8;omega,True.intro⟩
 | name h=>exact⟨by show 2≤8;omega,by show 4≤8;omega,(gR h).2,True.intro⟩
 | num a b c=>exact⟨by show 2≤8;omega,(yL a).2,True.intro,True.intro⟩
 | var a b=>exact⟨by show 2≤8;omega,(yL a).2,(hw _ b).2,True.intro⟩
theorem Sy.fit {n:Nat}{bs:List Str}{d:D}(h:Sy n bs d) (hw:∀y∈bs,Wd y):v7 8 d:=by
 induction h with
 | leaf h=>exact⟨by show 1≤8;omega,by rcases h with rfl | rfl <;> exact(jD _ (by decide +kernel) (by decide)).2,True.intro⟩
 | now h=>exact⟨by show 2≤8;omega,by show 3≤8;omega,h.fit hw,True.intro⟩
 | one hz _ ih=>exact⟨by show 2≤8;omega,by rcases gP hz with rfl | rfl | rfl | rfl <;> exact(jD _ (by decide +kernel) (by decide)).2,ih hw,True.intro⟩
 | two hz _ _ i1 i2=>exact⟨by show 3≤8;omega,by rcases gQ hz with rfl | rfl | rfl <;> exact(jD _ (by decide +kernel) (by decide)).2,i1 hw,i2 hw,True.intro⟩
 | Bv a b _ ih=>exact⟨by show 3≤8;omega,by show 6≤8;omega,True.intro,ih hw,True.intro⟩
 | bnd hz ha hb _ ih=>exact⟨by show 4≤8;omega,by rcases hz with rfl | rfl <;> exact(jD _ (by decide +kernel) (by decide)).2,(gR ha).2,(gR hb).2,ih fun w Ua=>by
   rcases List.mem_append.mp Ua with q | q
   ·exact hw w q
   ·rw[List.mem_singleton.mp q];exact gR hb,True.intro⟩
theorem Io {bs:List Str}(hw:∀y∈bs,Wd y) (p:Str→Bool):∀y∈bs.filter p,Wd y:=fun y hy=>hw y (List.mem_filter.mp hy).1
section
variable {a0 a1 a3 a4 a8:Option U}{n:Nat}{bs:List Str}{d:D}
noncomputable def put3 (n:Nat) (e:D) (x:Str):D:=fG n [x] (.int 3) e
theorem Jb (hd:Sy n bs d) (hn:n≤8) (hw:∀y∈bs,Wd y):∀(xs:List Str) (t:ia) (e:D) (cs:List Str) (x9 jI jJ:Option U),Sy n cs e→iN x9=false→iN jI=false→iN jJ=false→0≤t.n→t.n+xs.length < 800000→
  ∃t' y9 wC wF,iN y9=false∧iN wC=false∧iN wF=false∧loop (bName 9) (Gb pI) (xs.map D.str) [a0,a1,some (.m (tp t)),a3,a4,some (.t d),some (.t (.str (toPy d).shown)),some (.t e),a8,x9,jI,jJ]=
   some (.nx [a0,a1,some (.m (tp t')),a3,a4,some (.t d),some (.t (.str (toPy d).shown)),some (.t (xs.foldl (put3 n) e)),a8,y9,wC,wF])
 | [],t,e,cs,x9,jI,jJ,he,h9,h10,h11,t0,t1=>⟨t,x9,jI,jJ,h9,h10,h11,rfl⟩
 | x :: xs,t,e,cs,x9,jI,jJ,he,h9,h10,h11,t0,t1=>by
  rw[List.length_cons] at t1
  have p:=d7 (t:=t) (m:=10) (by omega) (by omega) t0 (by omega)
  obtain⟨v0,v1⟩:=bV (t:=t) (m:=10) (by omega)
  have tn:(aY t 10).n=t.n+1:=dZ t 10
  generalize cB t 10=v at *
  generalize aY t 10=t1 at *
  have e5:=Ga hd x (.int v) (j:=9) (by omega)
  have e6:=uy hd x (.int v) (j:=9) (by omega)
  have e7:=uy he x (.int 3) (j:=9) (by omega)
  have o1:=(vm hd v0 (by omega) [x]).Qt hn (Io hw _)
  have o2:=hd.Qt hn hw
  have tr:Gb pI _=_:=Il (f1:=sU) (f3:=pG) (f4:=vf 17) (f7:=vA) (f8:=j3) (a0:=a0) (a1:=a1) (a3:=a3) (a4:=a4) (a8:=a8) h10 h11 p e5 e6 e7 o1 o2
  obtain⟨t',y9,wC,wF,q9,IG,Us,lp⟩:=Jb hd hn hw xs t1 (put3 n e x) _ (some (.t (.str x))) (some (.t (.int v))) (some (.t (.str (toPy (fG n [x] (.int v) d)).shown))) (vm he (by omega) (by omega) [x]) rfl rfl rfl (by omega) (by omega)
  refine⟨t',y9,wC,wF,q9,IG,Us,?_⟩
  have eb:bName 9 (.str x) [a0,a1,some (.m (tp t)),a3,a4,some (.t d),some (.t (.str (toPy d).shown)),some (.t e),a8,x9,jI,jJ]=some [a0,a1,some (.m (tp t)),a3,a4,some (.t d),some (.t (.str (toPy d).shown)),some (.t e),a8,some (.t (.str x)),jI,jJ]:=by simp[-ig,fO,h9]
  rw[List.map_cons,jM,eb,Option.bind_some,tr,Option.bind_some,List.foldl_cons]
  exact lp
theorem Jc {a2 a5 a6 a7 jI jJ:Option U}:∀(xs:List Str) (e:D) (cs:List Str) (x9:Option U),Sy n cs e→n≤8→iN x9=false→
  ∃y9,iN y9=false∧loop (bName 9) (Gb pJ) (xs.map D.str) [a0,a1,a2,a3,a4,a5,a6,a7,some (.t e),x9,jI,jJ]=some (.nx [a0,a1,a2,a3,a4,a5,a6,a7,some (.t (xs.foldl (put3 n) e)),y9,jI,jJ])
 | [],e,cs,x9,he,hn,h9=>⟨x9,h9,rfl⟩
 | x :: xs,e,cs,x9,he,hn,h9=>by
  have e7:=uy he x (.int 3) (j:=9) (by omega)
  obtain⟨y9,q9,lp⟩:=Jc (a2:=a2) (a5:=a5) (a6:=a6) (a7:=a7) (jI:=jI) (jJ:=jJ) xs (put3 n e x) _ (some (.t (.str x))) (vm he (by omega) (by omega) [x]) hn rfl
  refine⟨y9,q9,?_⟩
  have eb:bName 9 (.str x) [a0,a1,a2,a3,a4,a5,a6,a7,some (.t e),x9,jI,jJ]=some [a0,a1,a2,a3,a4,a5,a6,a7,some (.t e),some (.t (.str x)),jI,jJ]:=by simp[-ig,fO,h9]
  have tr:Gb pJ _=_:=Im (f1:=sU) (f2:=jm) (f3:=pG) (f4:=vf 17) (f5:=qq 9) (f7:=vA) (f8:=j3) (a0:=a0) (a1:=a1) (a3:=a2) (a4:=a3) (a8:=a4) (a5:=a5) (a6:=a6) (a7:=a7) (jI:=jI) (jJ:=jJ) e7
  rw[List.map_cons,jM,eb,Option.bind_some,tr,Option.bind_some,List.foldl_cons]
  exact lp
theorem Ah (hd:Sy n bs d):∀(xs ys:List Str),xs.foldl (put3 n) (fG n ys (.int 3) d)=fG n (xs.reverse++ys) (.int 3) d
 | [],ys=>rfl
 | x :: xs,ys=>by
  rw[List.foldl_cons,show put3 n (fG n ys (.int 3) d) x=fG n (x :: ys) (.int 3) d from wA hd (by omega) (by omega) ys,Ah hd xs (x :: ys),List.reverse_cons,List.append_assoc]
  rfl
theorem rO (hd:Sy n bs d) (xs:List Str):xs.foldl (put3 n) d=fG n xs.reverse (.int 3) d:=by
 have:=Ah hd xs []
 rw[vj hd (fun x hx=>by cases hx),List.append_nil] at this
 exact this
theorem CJ (hd:Sy n bs d) (xs:List Str) (hx:∀y∈bs,y∈xs):xs.foldl (put3 n) d=bs.reverse.foldl (put3 n) d∧Sy n [] (xs.foldl (put3 n) d):=by
 rw[rO hd,rO hd]
 refine⟨HZ hd fun y hy=>?_,(vm hd (by omega) (by omega) xs.reverse).mono fun y hy=>?_⟩
 ·simp only[List.mem_reverse];exact⟨fun _=>hy,fun _=>hx y hy⟩
 ·obtain⟨h1,h2⟩:=List.mem_filter.mp hy
  exact absurd (List.mem_reverse.mpr (hx y h1)) (of_decide_eq_true h2)
theorem Ip {room bin:Nat}(h:Dr n bs room bin d) (hw:∀y∈bs,Wd y) (xs:List Str) (hx:∀y∈bs,y∈xs) (hn:n≤8) (hr:room≤16) (hb:bin≤3):FF (xs.foldl (put3 n) d)=true:=by
 have hd:=Sy.of h.fm
 obtain⟨_,sy⟩:=CJ hd xs hx
 have hs:=FQ (i:=3) hd xs.reverse
 rw[rO hd] at *
 refine Dr.say (deep:=n) (room:=room) (bin:=bin) ⟨sy.bZ,?_,?_,sy.fit (fun y hy=>by cases hy),(sy.good (fun y hy=>by cases hy)).dep⟩ hn hr hb
 ·have:=h.sz;unfold jr at *;omega
 ·have:=h.bn;unfold nK at *;omega
end
end Sp
end
section
set_option Elab.async false
set_option linter.all false
set_option maxRecDepth 100000
namespace Sp
open PySem PySem.Spec PyProof.Rows L2 Sw Ss
section
variable {f1 f2 f3 f4 f5 f6 f7 f8:FM}{x2 x3 x4 x5 x6 x7 x8 x9 jI jJ y9 wC wF z9:Option U}{ns:List Int}{k a b c:Int}{T0 T1 T2 T3 T4 T5 W1:MO}{nl vs:List D}{W0:List (Key×D)}{d e:D}
theorem Iq (h2:iN x2=false) (h3:iN x3=false) (h4:iN x4=false) (h5:iN x5=false) (h6:iN x6=false) (h7:iN x7=false) (h8:iN x8=false)
  (e1:f1 [.s ns,.t (.int k)]=some (.m T0,[])) (p0:f2 [.b T0,.t (.int 3)]=some (.t (.int c),[T1])) (hv:iD [D.tup [.str "x"],.tup [.str "x",.str "ab"],.tup [.str "a",.str "k",.str "x"]] c=some (.tup vs)) (e3:f3 []=some (.m (.lst nl),[]))
  (w0:cM [] [((.inr "names":Key),D.lst nl),(.inr "binders",.int 0)]=W0) (p1:f2 [.b T1,.t (.int 16)]=some (.t (.int a),[T2])) (p2:f2 [.b T2,.t (.int 8)]=some (.t (.int b),[T3]))
  (e4:f4 [.b T3,.b (.dct W0),.t (.tup vs),.t (.int (1+a)),.t (.int (1+b))]=some (.t d,[T4,W1])) (o:AV d) (hl:vs.length≤10)
  (l1:loop (bName 9) (pI f1 f2 f3 f4 f5 f6 f7 f8) (vs++[.str "none",.str "any"]) [some (.s ns),some (.t (.int k)),some (.m T4),some (.t (.tup vs)),some (.m W1),some (.t d),some (.t (.str (toPy d).shown)),some (.t d),some (.t d),x9,jI,jJ]=
   some (.nx [some (.s ns),some (.t (.int k)),some (.m T5),some (.t (.tup vs)),some (.m W1),some (.t d),some (.t (.str (toPy d).shown)),some (.t e),some (.t d),y9,wC,wF]))
  (l2:loop (bName 9) (pJ f1 f2 f3 f4 f5 f6 f7 f8) vs.reverse [some (.s ns),some (.t (.int k)),some (.m T5),some (.t (.tup vs)),some (.m W1),some (.t d),some (.t (.str (toPy d).shown)),some (.t e),some (.t d),y9,wC,wF]=
   some (.nx [some (.s ns),some (.t (.int k)),some (.m T5),some (.t (.tup vs)),some (.m W1),some (.t d),some (.t (.str (toPy d).shown)),some (.t e),some (.t e),z9,wC,wF]))
  (dp:cG e≤40) (op:f7 [.t e]=some (.m (.lst []),[])) (sy:f8 [.t e]=some (.t (.bl true),[])) (pf:f6 [.t e,.t (.str "x"),.t (.int 5)]=some (.t e,[])) (oe:AV e):
  rN f1 f2 f3 f4 f5 f6 f7 f8 [some (.s ns),some (.t (.int k)),x2,x3,x4,x5,x6,x7,x8,x9,jI,jJ]=some (.nx [some (.s ns),some (.t (.int k)),some (.m T5),some (.t (.tup vs)),some (.m W1),some (.t d),some (.t (.str (toPy d).shown)),some (.t e),some (.t e),z9,wC,wF]):=by
 rw[Oe]
 have r1:=qu o
 have r2:=qu oe
 have s0:Uh f1 f2 f3 f4 f5 f6 f7 f8 [some (.s ns),some (.t (.int k)),x2,x3,x4,x5,x6,x7,x8,x9,jI,jJ]=some (.nx [some (.s ns),some (.t (.int k)),some (.m T0),x3,x4,x5,x6,x7,x8,x9,jI,jJ]):=by simp[-ig,fO,Uh,h2,e1]
 have s1:Ui f1 f2 f3 f4 f5 f6 f7 f8 [some (.s ns),some (.t (.int k)),some (.m T0),x3,x4,x5,x6,x7,x8,x9,jI,jJ]=some (.nx [some (.s ns),some (.t (.int k)),some (.m T1),some (.t (.tup vs)),x4,x5,x6,x7,x8,x9,jI,jJ]):=by simp[-ig,fO,Ui,h3,p0,hv]
 have s2:Uj f1 f2 f3 f4 f5 f6 f7 f8 [some (.s ns),some (.t (.int k)),some (.m T1),some (.t (.tup vs)),x4,x5,x6,x7,x8,x9,jI,jJ]=some (.nx [some (.s ns),some (.t (.int k)),some (.m T1),some (.t (.tup vs)),some (.m (.dct W0)),x5,x6,x7,x8,x9,jI,jJ]):=by simp[-ig,fO,Uj,h4,e3,w0]
 have s3:Uk f1 f2 f3 f4 f5 f6 f7 f8 [some (.s ns),some (.t (.int k)),some (.m T1),some (.t (.tup vs)),some (.m (.dct W0)),x5,x6,x7,x8,x9,jI,jJ]=some (.nx [some (.s ns),some (.t (.int k)),some (.m T4),some (.t (.tup vs)),some (.m W1),some (.t d),x6,x7,x8,x9,jI,jJ]):=by simp[-ig,fO,Uk,h5,p1,p2,e4]
 have s4:Ul f1 f2 f3 f4 f5 f6 f7 f8 [some (.s ns),some (.t (.int k)),some (.m T4),some (.t (.tup vs)),some (.m W1),some (.t d),x6,x7,x8,x9,jI,jJ]=some (.nx [some (.s ns),some (.t (.int k)),some (.m T4),some (.t (.tup vs)),some (.m W1),some (.t d),some (.t (.str (toPy d).shown)),x7,x8,x9,jI,jJ]):=by simp[-ig,fO,-yG,Ul,h6,r1]
 have s5:Um f1 f2 f3 f4 f5 f6 f7 f8 [some (.s ns),some (.t (.int k)),some (.m T4),some (.t (.tup vs)),some (.m W1),some (.t d),some (.t (.str (toPy d).shown)),x7,x8,x9,jI,jJ]=some (.nx [some (.s ns),some (.t (.int k)),some (.m T4),some (.t (.tup vs)),some (.m W1),some (.t d),some (.t (.str (toPy d).shown)),some (.t d),x8,x9,jI,jJ]):=by simp[-ig,fO,Um,h7]
 have s6:Uo f1 f2 f3 f4 f5 f6 f7 f8 [some (.s ns),some (.t (.int k)),some (.m T4),some (.t (.tup vs)),some (.m W1),some (.t d),some (.t (.str (toPy d).shown)),some (.t d),x8,x9,jI,jJ]=some (.nx [some (.s ns),some (.t (.int k)),some (.m T4),some (.t (.tup vs)),some (.m W1),some (.t d),some (.t (.str (toPy d).shown)),some (.t d),some (.t d),x9,jI,jJ]):=by simp[-ig,fO,Uo,h8]
 have hl2:vs.length+2≤100000:=by omega
 have s7:Up f1 f2 f3 f4 f5 f6 f7 f8 [some (.s ns),some (.t (.int k)),some (.m T4),some (.t (.tup vs)),some (.m W1),some (.t d),some (.t (.str (toPy d).shown)),some (.t d),some (.t d),x9,jI,jJ]=some (.nx [some (.s ns),some (.t (.int k)),some (.m T5),some (.t (.tup vs)),some (.m W1),some (.t d),some (.t (.str (toPy d).shown)),some (.t e),some (.t d),y9,wC,wF]):=by
  simp[Up,gn,hl2,l1]
 have s8:Uq f1 f2 f3 f4 f5 f6 f7 f8 [some (.s ns),some (.t (.int k)),some (.m T5),some (.t (.tup vs)),some (.m W1),some (.t d),some (.t (.str (toPy d).shown)),some (.t e),some (.t d),y9,wC,wF]=some (.nx [some (.s ns),some (.t (.int k)),some (.m T5),some (.t (.tup vs)),some (.m W1),some (.t d),some (.t (.str (toPy d).shown)),some (.t e),some (.t e),z9,wC,wF]):=by
  simp[Uq,gn,l2,yC]
 have ZP:=lA e
 have s9:Ur f1 f2 f3 f4 f5 f6 f7 f8 [some (.s ns),some (.t (.int k)),some (.m T5),some (.t (.tup vs)),some (.m W1),some (.t d),some (.t (.str (toPy d).shown)),some (.t e),some (.t e),z9,wC,wF]=some (.nx [some (.s ns),some (.t (.int k)),some (.m T5),some (.t (.tup vs)),some (.m W1),some (.t d),some (.t (.str (toPy d).shown)),some (.t e),some (.t e),z9,wC,wF]):=by
  have dl:cG (.lst [])≤40:=by decide
  have el:=lA (.lst [])
  simp[Ur,op,sy,dp,ZP,qk,dl,el]
 have RB:Lk f1 f2 f3 f4 f5 f6 f7 f8 [some (.s ns),some (.t (.int k)),some (.m T5),some (.t (.tup vs)),some (.m W1),some (.t d),some (.t (.str (toPy d).shown)),some (.t e),some (.t e),z9,wC,wF]=some (.nx [some (.s ns),some (.t (.int k)),some (.m T5),some (.t (.tup vs)),some (.m W1),some (.t d),some (.t (.str (toPy d).shown)),some (.t e),some (.t e),z9,wC,wF]):=by
  simp[-yG,Lk,pf,r2]
 rw[jU,s0,Option.bind_some]
 simp only
 rw[jU,s1,Option.bind_some]
 simp only
 rw[jU,s2,Option.bind_some]
 simp only
 rw[jU,s3,Option.bind_some]
 simp only
 rw[jU,s4,Option.bind_some]
 simp only
 rw[jU,s5,Option.bind_some]
 simp only
 rw[jU,s6,Option.bind_some]
 simp only
 rw[jU,s7,Option.bind_some]
 simp only
 rw[jU,s8,Option.bind_some]
 simp only
 rw[jU,s9,Option.bind_some]
 exact RB
end
noncomputable def NA:List Str:=["none","any"]
noncomputable def Ut:List (List Str):=[["x"],["x","ab"],["a","k","x"]]
theorem Of {c:Int}(h0:0≤c) (h1:c < 3):∃vs:List Str,iD [D.tup [.str "x"],.tup [.str "x",.str "ab"],.tup [.str "a",.str "k",.str "x"]] c=some (.tup (vs.map D.str))∧vs∈Ut:=by
 have:c=0∨c=1∨c=2:=by omega
 rcases this with rfl | rfl | rfl
 ·exact⟨["x"],rfl,by decide⟩
 ·exact⟨["x","ab"],rfl,by decide⟩
 ·exact⟨["a","k","x"],rfl,by decide⟩
theorem Og:∀vs∈Ut,(∀y∈vs,Wd y)∧vs.length≤3:=by
 intro vs h
 simp only[Ut,List.mem_cons,List.not_mem_nil,or_false] at h
 rcases h with rfl | rfl | rfl <;> refine⟨fun y hy=>?_,by decide⟩ <;> simp only[List.mem_cons,List.not_mem_nil,or_false] at hy
 ·subst hy;exact jD _ (by decide +kernel) (by decide)
 ·rcases hy with rfl | rfl <;> exact jD _ (by decide +kernel) (by decide)
 ·rcases hy with rfl | rfl | rfl <;> exact jD _ (by decide +kernel) (by decide)
theorem DX {ns:List Int}{k:Int}(h:0≤k) (h1:k < 1000000) (h2:ns.length < 1000000):sU [.s ns,.t (.int k)]=some (.m (tp (xA ns k)),[]):=by simp[sU,h,h1,h2]
theorem Oh {ns:List Int}{k:Int}{x2 x3 x4 x5 x6 x7 x8 x9 jI jJ:Option U}(k0:0≤k) (k1:k < 1000) (hns:ns.length < 1000) (h2:iN x2=false) (h3:iN x3=false) (h4:iN x4=false) (h5:iN x5=false) (h6:iN x6=false) (h7:iN x7=false) (h8:iN x8=false) (h9:iN x9=false) (h10:iN jI=false) (h11:iN jJ=false):
  ∃y2 y3 y4 y5 y6 y7 y8 y9 wC wF,iN y2=false∧iN y3=false∧iN y4=false∧iN y5=false∧iN y6=false∧iN y7=false∧iN y8=false∧iN y9=false∧iN wC=false∧iN wF=false∧
   Gb rN [some (.s ns),some (.t (.int k)),x2,x3,x4,x5,x6,x7,x8,x9,jI,jJ]=some (.nx [some (.s ns),some (.t (.int k)),y2,y3,y4,y5,y6,y7,y8,y9,wC,wF]):=by
 have e1:=DX (ns:=ns) (k:=k) k0 (by omega) (by omega)
 have t0n:(xA ns k).n=0:=rfl
 generalize xA ns k=t0 at *
 have p0:=d7 (t:=t0) (m:=3) (by omega) (by omega) (by omega) (by omega)
 obtain⟨c0,c1⟩:=bV (t:=t0) (m:=3) (by omega)
 have T7:(aY t0 3).n=t0.n+1:=dZ t0 3
 generalize cB t0 3=c at *
 generalize aY t0 3=t1 at *
 have p1:=d7 (t:=t1) (m:=16) (by omega) (by omega) (by omega) (by omega)
 obtain⟨a0,a1⟩:=bV (t:=t1) (m:=16) (by omega)
 have L7:(aY t1 16).n=t1.n+1:=dZ t1 16
 generalize cB t1 16=a at *
 generalize aY t1 16=t2 at *
 have p2:=d7 (t:=t2) (m:=8) (by omega) (by omega) (by omega) (by omega)
 obtain⟨b0,b1⟩:=bV (t:=t2) (m:=8) (by omega)
 have XH:(aY t2 8).n=t2.n+1:=dZ t2 8
 generalize cB t2 8=b at *
 generalize aY t2 8=t3 at *
 obtain⟨vs,hv,hm⟩:=Of c0 c1
 obtain⟨hw,hl⟩:=Og vs hm
 obtain⟨ra,ZQ⟩:∃r:Nat,(r:Int)=1+a:=⟨(1+a).toNat,by omega⟩
 obtain⟨rb,hrb⟩:∃r:Nat,(r:Int)=1+b:=⟨(1+b).toNat,by omega⟩
 obtain⟨d,t4,bin,e4,dr,bb,g4,g5⟩:=Lc rb (by omega) 17 ra (by omega) (by omega) (by omega) t3 vs 0 (by omega) (by omega) (by omega) (fun z hz=>(hw z hz).2) (by omega)
 rw[ZQ,hrb] at e4
 have hn:rb≤8:=by omega
 have hd:=Sy.of dr.fm
 have o:=hd.Qt hn hw
 obtain⟨t5,y9,wC,wF,q9,IG,Us,l1⟩:=Jb (a0:=some (.s ns)) (a1:=some (.t (.int k))) (a3:=some (.t (.tup (vs.map D.str)))) (a4:=some (.m (.dct (CG ((0+bin:Nat):Int))))) (a8:=some (.t d)) hd hn hw (vs++NA) t4 d vs x9 jI jJ hd h9 h10 h11 (by omega) (by rw[List.length_append];show _+((_+2:Nat):Int) < _;omega)
 have hx:∀y∈vs,y∈vs++NA:=fun y hy=>List.mem_append.mpr (.inl hy)
 obtain⟨eq1,L8⟩:=CJ hd (vs++NA) hx
 have Uu:=Ip dr hw (vs++NA) hx hn (by omega) (by omega)
 obtain⟨z9,r9,l2⟩:=Jc (n:=rb) (a0:=some (.s ns)) (a1:=some (.t (.int k))) (a2:=some (.m (tp t5))) (a3:=some (.t (.tup (vs.map D.str)))) (a4:=some (.m (.dct (CG ((0+bin:Nat):Int))))) (a5:=some (.t d)) (a6:=some (.t (.str (toPy d).shown))) (a7:=some (.t ((vs++NA).foldl (put3 rb) d))) (jI:=wC) (jJ:=wF) vs.reverse d vs y9 hd hn q9
 rw[←eq1] at l2
 generalize (vs++NA).foldl (put3 rb) d=e at *
 have no:∀y∈([]:List Str),Wd y:=fun y hy=>by cases hy
 have ge:=L8.good no
 have dep:=ge.dep
 have op:=Ie L8 hn
 have sy:j3 [.t e]=some (.t (.bl true),[]):=by rw[FG ⟨(L8.fit no).mono (by omega),by omega⟩,Uu]
 have pf:=uy L8 "x" (.int 5) (j:=9) (by omega)
 rw[vj L8 fun x hx=>by simp] at pf
 rw[List.map_append] at l1
 rw[List.map_reverse] at l2
 exact⟨_,_,_,_,_,_,_,_,_,_,rfl,rfl,rfl,rfl,rfl,rfl,rfl,r9,IG,Us,Iq h2 h3 h4 h5 h6 h7 h8 e1 p0 hv (show pG []=some (.m (.lst CF),[]) from rfl) Od p1 p2 e4 o (by rw[List.length_map];omega) l1 l2 (by omega) op sy pf (L8.Qt hn no)⟩
theorem Jd (ns:List Int):(uT ns none (some 19)).length≤19:=by
 unfold uT
 rw[List.length_take]
 have:HT.fP ns.length ns.length (some 19)≤19:=by
  have:=HT.xW ns.length ns.length 19
  have e:HT.fP ns.length ns.length (some ((19:Nat):Int))=HT.fP ns.length ns.length (some 19):=rfl
  rw[←e,this]
  exact Nat.min_le_left _ _
 have:HT.fP ns.length 0 none=0:=rfl
 omega
noncomputable def XJ (aM:FM) (aq:FM) (aJ:FM) (az:FM) (aL:FM) (aQ:FM) (bg:FM) (aN:FM):GS:=
 (tU (bName 1) (uJ (aa (eF (eP iI (aa (eC (.int 1)) (aa (eF (eP uI (aa (eF (Dk 0 none (some (eC (.int 19))))) au))) au)))) au)) (rN aM aq aJ az aL aQ bg aN))
noncomputable def XM (aM:FM) (aq:FM) (aJ:FM) (az:FM) (aL:FM) (aQ:FM) (bg:FM) (aN:FM):GS:=
 (cC (eT (eC (.bl true))))
theorem lw_eq (aM:FM) (aq:FM) (aJ:FM) (az:FM) (aL:FM) (aQ:FM) (bg:FM) (aN:FM):Ag aM aq aJ az aL aQ bg aN=bA (XJ aM aq aJ az aL aQ bg aN) (XM aM aq aJ az aL aQ bg aN):=rfl
theorem DY : ∀ us r, Bm 63 us = some r → aG 12 (Gb Ag) us = some r := by
  intro us r h
  unfold Bm at h
  split at h
  · rename_i ns
    obtain⟨hl,rfl⟩:=bX h
    show((Gb Ag) [some (.s ns),none,none,none,none,none,none,none,none,none,none,none]).bind _=_
    simp only[Gb]
    rw[lw_eq]
    obtain⟨S',e3,x1,x2,x3,x4,x5,x6,x7,x8,x9,jI,jJ,r1,r2,r3,r4,r5,r6,r7,r8,r9,XN,Pn,hS⟩:=uZ (bd:=bName 1) (body:=Gb rN) (AR 0 (1+(uT ns none (some 19)).length))
      (fun j S=>∃x1 x2 x3 x4 x5 x6 x7 x8 x9 jI jJ:Option U,iN x1=false∧iN x2=false∧iN x3=false∧iN x4=false∧iN x5=false∧iN x6=false∧iN x7=false∧iN x8=false∧iN x9=false∧iN jI=false∧iN jJ=false∧S=[some (.s ns),x1,x2,x3,x4,x5,x6,x7,x8,x9,jI,jJ])
      [some (.s ns),none,none,none,none,none,none,none,none,none,none,none] ⟨_,_,_,_,_,_,_,_,_,_,_,rfl,rfl,rfl,rfl,rfl,rfl,rfl,rfl,rfl,rfl,rfl,rfl⟩ (by
        rintro j d S hd ⟨x1,x2,x3,x4,x5,x6,x7,x8,x9,jI,jJ,r1,r2,r3,r4,r5,r6,r7,r8,r9,XN,Pn,rfl⟩
        obtain⟨hj,rfl⟩:=HJ hd
        have:=Jd ns
        obtain⟨z2,z3,z4,z5,z6,z7,z8,z9,ZR,ZS,g2,g3,g4,g5,g6,g7,g8,g9,ZT,ZU,e⟩:=Oh (ns:=ns) (k:=j) (by omega) (by omega) (by omega) r2 r3 r4 r5 r6 r7 r8 r9 XN Pn
        exact⟨_,_,by simp[-ig,fO,r1],e,_,z2,z3,z4,z5,z6,z7,z8,z9,ZR,ZS,rfl,g2,g3,g4,g5,g6,g7,g8,g9,ZT,ZU,rfl⟩)
    have s3:Gb XJ [some (.s ns),none,none,none,none,none,none,none,none,none,none,none]=some (.nx S'):=by
      have c:=Jd ns
      have g1:uJ (aa (eF (eP iI (aa (eC (.int 1)) (aa (eF (eP uI (aa (eF (Dk 0 none (some (eC (.int 19))))) au))) au)))) au) [some (.s ns),none,none,none,none,none,none,none,none,none,none,none]=some (AR 0 (1+(uT ns none (some 19)).length),[some (.s ns),none,none,none,none,none,none,none,none,none,none,none]):=by
        have:(1+((uT ns none (some 19)).length:Int)).toNat=1+(uT ns none (some 19)).length:=by omega
        rw[←this]
        refine Sq.DA ?_ (by omega) (by omega)
        simp[Dk]
      show tU _ _ _ _=_
      rw[KJ,g1,Option.bind_some]
      exact e3
    simp only[Gb] at s3
    rw[jU,s3,Option.bind_some]
    simp only
    subst hS
    simp[XM,aA]
  · cases h
theorem Bx (us:List U):nI 0 us=none:=rfl
theorem DZ (us:List U):u9 0 us=none:=rfl
end Sp
end
section
set_option Elab.async false
set_option linter.all false
set_option maxRecDepth 100000
namespace K07
open PySem PySem.Spec PyProof.Rows L2
def top (i:Nat):Stmt:=PySem.Challenge.pw_surewatch_k07_put_for_variables.main.body.getD i (.Pass ⟨0,0,0,0⟩)
open L2 Sw Ss Sp
noncomputable abbrev iQ:Stmt:=top 3
theorem Ai:bS ["thing","least","most"] ["thing","least","most"] (aE iQ):=⟨rfl,rfl,rfl,by decide +kernel,rfl,by decide +kernel,by decide +kernel⟩
theorem Aj {P:Program}{w:World}{K:PySem.W.Frag}{mg:Str→Option Value}{base:Heap}{f:Addr}{fd:FuncData}{n:Nat}{fm:FM}(F:pe K "is_whole" "is_whole" iQ f fd) (bz:mg "isinstance" =none) (Ll:mg "int" =none) (Gd:mg "bool" =none)
  (hf:∀us r,fm us=some r→aG 3 (mF) us=some r):br P w K mg base dW (n+1) f fd ["thing","least","most"] (spT K 3 fm):=
 tV (g:=mF) F Ai (fun cdv A outer s H E hr=>(aF (cT (JW.t (oU (pq (jQ (iJ rfl bz rfl Ll PyProof.Rows.Boot.int (JE.d (ah 0))))) (iH (jQ (iJ rfl bz rfl Gd PyProof.Rows.Boot.bool (JE.d (ah 0))))))) (aO (aV (JD.e lu))) bY)
  (aO (aV (JD.e (nj (JE.d (jA qP (JE.d (ah 1)) (JE.d (ah 0)))) (pA (JE.d (jA qP (JE.d (ah 0)) (JE.d (ah 2))))))))))) hf
noncomputable abbrev iR:Stmt:=top 4
theorem Ak:bS ["thing","least","most"] ["thing","least","most"] (aE iR):=⟨rfl,rfl,rfl,by decide +kernel,rfl,by decide +kernel,by decide +kernel⟩
theorem Al {P:Program}{w:World}{K:PySem.W.Frag}{mg:Str→Option Value}{base:Heap}{f:Addr}{fd:FuncData}{n:Nat}{fm:FM}(F:pe K "is_tuple" "is_tuple" iR f fd) (bz:mg "isinstance" =none) (mR:mg "tuple" =none) (fH:mg "len" =none)
  (hf:∀us r,fm us=some r→aG 3 (mG) us=some r):br P w K mg base dW (n+1) f fd ["thing","least","most"] (spT K 3 fm):=
 tV (g:=mG) F Ak (fun cdv A outer s H E hr=>(aO (aV (JD.e (nj (iJ rfl bz rfl mR PyProof.Rows.Boot.tuple (JE.d (ah 0))) (nj (JE.d (jA qP (JE.d (ah 1)) (iK (i:=0) rfl fH))) (pA (JE.d (jA qP (iK (i:=0) rfl fH) (JE.d (ah 2))))))))))) hf
noncomputable abbrev jN:Stmt:=top 5
theorem By:bS ["thing"] ["thing"] (aE jN):=⟨rfl,rfl,rfl,by decide +kernel,rfl,by decide +kernel,by decide +kernel⟩
theorem BA {P:Program}{w:World}{K:PySem.W.Frag}{mg:Str→Option Value}{base:Heap}{f:Addr}{fd:FuncData}{n:Nat}{fm:FM}(F:pe K "is_name" "is_name" jN f fd) (bz:mg "isinstance" =none) (uc:mg "str" =none) (fH:mg "len" =none) (D0:mg "all" =none){kG:Tok}(kH:mg "LONGEST_NAME" =some (.int 8 kG)){vB:Tok}(vC:mg "LETTERS" =some (.str "abcdefghijklmnopqrstuvwxyz" vB))
  (hf:∀us r,fm us=some r→aG 1 (iM) us=some r):br P w K mg base dW (n+1) f fd ["thing"] (spT K 1 fm):=
 tV (g:=iM) F By (fun cdv A outer s H E hr=>(aF (cT (JW.t (oU (pq (jQ (iJ rfl bz rfl uc PyProof.Rows.Boot.str (JE.d (ah 0))))) (oU (bG qO (iK (i:=0) rfl fH) ao) (iH (bG uH (iK (i:=0) rfl fH) (oA rfl kH)))))) (aO (aV (JD.e lu))) bY)
  (aO (aV (fy (xg rfl) rfl D0 PyProof.Rows.Boot.all (aj (JE.d (uo (uF (by decide) (by decide) rfl (by decide) rfl) rfl (mw (JE.d (ah 0))) (fun _ _ _ _=>yq) (fun _ _ _ _=>(JE.d (jA (uO hr.units) (JE.d (ah 0)) (Hx rfl vC) (by with_unfolding_all rfl)))))) aH)))))) hf
noncomputable abbrev dH:Stmt:=top 8
theorem rQ:bS ["thing","bound"] ["thing","bound"] (aE dH):=⟨rfl,rfl,rfl,by decide +kernel,rfl,by decide +kernel,by decide +kernel⟩
theorem rR {P:Program}{w:World}{K:PySem.W.Frag}{mg:Str→Option Value}{base:Heap}{f:Addr}{fd:FuncData}{n:Nat}{fm:FM}(F:pe K "is_test_among" "is_test_among" dH f fd) (fH:mg "len" =none){iS:Tok}(iT:mg "GREATEST_NUMBER" =some (.int 9 iS))
  {iU:Addr}{lP:FuncData}{d9:FM}(rS:br P w K mg base dW n iU lP ["thing","least","most"] (spT K 3 d9)) (rT:Binds K lP ["thing","least","most"] []) (rW:PySem.W.keepIn K (.ref iU)=true) (rX:mg "is_tuple" =some (.ref iU))
  {j6:Addr}{nL:FuncData}{fE:FM}(qw:br P w K mg base dW n j6 nL ["thing"] (spT K 1 fE)) (qx:Binds K nL ["thing"] []) (qy:PySem.W.keepIn K (.ref j6)=true) (qz:mg "is_name" =some (.ref j6))
  {iV:Addr}{lQ:FuncData}{eu:FM}(rY:br P w K mg base dW n iV lQ ["thing","least","most"] (spT K 3 eu)) (rZ:Binds K lQ ["thing","least","most"] []) (se:PySem.W.keepIn K (.ref iV)=true) (sf:mg "is_whole" =some (.ref iV))
  (hf:∀us r,fm us=some r→aG 2 (bC d9 fE eu) us=some r):br P w K mg base dW (n+1) f fd ["thing","bound"] (spT K 2 fm):=
 tV (g:=bC d9 fE eu) F rQ (fun cdv A outer s H E hr=>(aF (cT (pq (jQ (JE.d (aI rS hr rfl rX rW rT (aD (JE.d (ah 0)) (aD ao (aD ao aR))))))) (aO (aV (JD.e lu))) bY)
  (aF (cT (bG (e8 hr.units) (iK (i:=0) rfl fH) ao) (aO (aV (jA (e8 hr.units) (aX (i:=0) (bB hr) ao (fun _ _=>rfl)) aK))) bY)
  (aF (cT (bG (e8 hr.units) (aX (i:=0) (bB hr) ao (fun _ _=>rfl)) aK) (aO (aV (aI qw hr rfl qz qy qx (aD (aX (i:=0) (bB hr) ao (fun _ _=>rfl)) aR)))) bY)
  (aO (aV (JD.e (nj (JE.d (jA (uO hr.units) (aX (i:=0) (bB hr) ao (fun _ _=>rfl)) (JE.d (bD (aj aK (aj aK (aj aK aH))))) (by with_unfolding_all rfl))) (pA (M0 (JE.d (aI rY hr rfl sf se rZ (aD (aX (i:=0) (bB hr) ao (fun _ _=>rfl)) (aD ao (aD (oA rfl iT) aR))))) (pA (JE.d (jA (uO hr.units) (aX (i:=0) (bB hr) ao (fun _ _=>rfl)) (JE.d (ah 1)) (by with_unfolding_all rfl)))))))))))))) hf
noncomputable abbrev iW:Stmt:=top 17
theorem Am:bS ["saying"] ["saying"] (aE iW):=⟨rfl,rfl,rfl,by decide +kernel,rfl,by decide +kernel,by decide +kernel⟩
theorem An {P:Program}{w:World}{K:PySem.W.Frag}{mg:Str→Option Value}{base:Heap}{f:Addr}{fd:FuncData}{n:Nat}{fm:FM}(F:pe K "parts_of" "parts_of" iW f fd){jK:Addr}(oB:mg "STARTS" =some (.ref jK)) (oE:KTab P w K jK [("yes",1),("no",1),("now",2),("not",1),("both",1),("either",1),("next",1),("till",1),("within",2),("always",1),("some",1),("each",3),("one",3)])
  (hf:∀us r,fm us=some r→aG 1 (jW) us=some r):br P w K mg base dW (n+1) f fd ["saying"] (spT K 1 fm):=
 tV (g:=jW) F Am (fun cdv A outer s H E hr=>(aO (aV (zM (JE.d (ah 0)) (yw (Fe rfl oB oE (aX (i:=0) (bB hr) ao (fun _ _=>rfl)))) yu)))) hf
noncomputable abbrev eG:Stmt:=top 18
theorem ud:bS ["saying","bound"] ["saying","bound"] (aE eG):=⟨rfl,rfl,rfl,by decide +kernel,rfl,by decide +kernel,by decide +kernel⟩
theorem ue {P:Program}{w:World}{K:PySem.W.Frag}{mg:Str→Option Value}{base:Heap}{f:Addr}{fd:FuncData}{n:Nat}{fm:FM}(F:pe K "bound_within" "bound_within" eG f fd){dN:Addr}(fJ:mg "BINDERS" =some (.ref dN)) (fK:zR K dN ["each","one"])
  (hf:∀us r,fm us=some r→aG 2 (eB) us=some r):br P w K mg base dW (n+1) f fd ["saying","bound"] (spT K 2 fm):=
 tV (g:=eB) F ud (fun cdv A outer s H E hr=>(aF (cT (yz hr.units rfl fJ fK (aX (i:=0) (bB hr) ao (fun _ _=>rfl))) (aO (aV (bT dY (JE.d (ah 1)) (JE.d (bD (aj (aX (i:=0) (bB hr) ao (fun _ _=>rfl)) aH)))))) bY)
  (aO (aV (ah 1))))) hf
noncomputable abbrev gT:Stmt:=top 19
theorem qA:bS ["thing","bound","head"] ["thing","bound"] (aE gT):=⟨rfl,rfl,rfl,by decide +kernel,rfl,by decide +kernel,by decide +kernel⟩
theorem yQ {P:Program}{w:World}{K:PySem.W.Frag}{mg:Str→Option Value}{base:Heap}{f:Addr}{fd:FuncData}{n:Nat}{fm:FM}(F:pe K "is_shaped" "is_shaped" gT f fd) (bz:mg "isinstance" =none) (uc:mg "str" =none) (fH:mg "len" =none){lR:Addr}(vD:mg "LENGTHS" =some (.ref lR)) (vE:KTab P w K lR [("yes",1),("no",1),("now",2),("not",2),("both",3),("either",3),("next",2),("till",3),("within",3),("always",2),("some",2),("each",4),("one",4)]){iX:Tok}(iY:mg "GREATEST_WITHIN" =some (.int 5 iX)){dN:Addr}(fJ:mg "BINDERS" =some (.ref dN)) (fK:zR K dN ["each","one"])
  {iU:Addr}{lP:FuncData}{d9:FM}(rS:br P w K mg base dW n iU lP ["thing","least","most"] (spT K 3 d9)) (rT:Binds K lP ["thing","least","most"] []) (rW:PySem.W.keepIn K (.ref iU)=true) (rX:mg "is_tuple" =some (.ref iU))
  {j7:Addr}{nM:FuncData}{fU:FM}(vF:br P w K mg base dW n j7 nM ["thing","bound"] (spT K 2 fU)) (vG:Binds K nM ["thing","bound"] []) (vH:PySem.W.keepIn K (.ref j7)=true) (vI:mg "is_test_among" =some (.ref j7))
  {iV:Addr}{lQ:FuncData}{eu:FM}(rY:br P w K mg base dW n iV lQ ["thing","least","most"] (spT K 3 eu)) (rZ:Binds K lQ ["thing","least","most"] []) (se:PySem.W.keepIn K (.ref iV)=true) (sf:mg "is_whole" =some (.ref iV))
  {j6:Addr}{nL:FuncData}{fE:FM}(qw:br P w K mg base dW n j6 nL ["thing"] (spT K 1 fE)) (qx:Binds K nL ["thing"] []) (qy:PySem.W.keepIn K (.ref j6)=true) (qz:mg "is_name" =some (.ref j6))
  (hf:∀us r,fm us=some r→aG 3 (bQ d9 fU eu fE) us=some r):br P w K mg base dW (n+1) f fd ["thing","bound"] (spT K 2 fm):=
 tV (g:=bQ d9 fU eu fE) F qA (fun cdv A outer s H E hr=>(aF (cT (JW.t (oU (pq (jQ (JE.d (aI rS hr rfl rX rW rT (aD (JE.d (ah 0)) (aD ao (aD ao aR))))))) (iH (pq (jQ (iJ rfl bz rfl uc PyProof.Rows.Boot.str (aX (i:=0) (bB hr) ao (fun _ _=>rfl)))))))) (aO (aV (JD.e lu))) bY)
  (aF (bR (i:=2) qA.nd rfl (by first | exact Or.inl rfl | exact Or.inr rfl) (JD.e (aX (i:=0) (bB hr) ao (fun _ _=>rfl))))
  (aF (cT (bG (nB hr.units) (Ds rfl vD vE (JE.d (ah 2)) ao) (iK (i:=0) rfl fH)) (aO (aV (JD.e lu))) bY)
  (aF (cT (bG (e8 hr.units) (JE.d (ah 2)) aK) (aO (aV (aI vF hr rfl vI vH vG (aD (aX (i:=0) (bB hr) ao (fun _ _=>rfl)) (aD (JE.d (ah 1)) aR))))) bY)
  (aF (cT (bG (e8 hr.units) (JE.d (ah 2)) aK) (aO (aV (aI rY hr rfl sf se rZ (aD (aX (i:=0) (bB hr) ao (fun _ _=>rfl)) (aD ao (aD (oA rfl iY) aR)))))) bY)
  (aF (cT (yz hr.units rfl fJ fK (JE.d (ah 2))) (aO (aV (JD.e (nj (JE.d (aI qw hr rfl qz qy qx (aD (aX (i:=0) (bB hr) ao (fun _ _=>rfl)) aR))) (pA (JE.d (aI qw hr rfl qz qy qx (aD (aX (i:=0) (bB hr) ao (fun _ _=>rfl)) aR)))))))) bY)
  (aO (aV (JD.e lu)))))))))) hf
noncomputable abbrev dO:Stmt:=top 20
theorem qC:bS ["thing","bound","room","inner"] ["thing","bound","room"] (aE dO):=⟨rfl,rfl,rfl,by decide +kernel,rfl,by decide +kernel,by decide +kernel⟩
theorem yR {P:Program}{w:World}{K:PySem.W.Frag}{mg:Str→Option Value}{base:Heap}{f:Addr}{fd:FuncData}{n:Nat}{fm:FM}(F:pe K "is_formed" "is_formed" dO f fd) (D0:mg "all" =none)
  {pK:Addr}{vJ:FuncData}{jY:FM}(BB:br P w K mg base dW n pK vJ ["thing","bound"] (spT K 2 jY)) (BC:Binds K vJ ["thing","bound"] []) (BD:PySem.W.keepIn K (.ref pK)=true) (BE:mg "is_shaped" =some (.ref pK))
  {dQ:Addr}{gB:FuncData}{bN:FM}(kI:br P w K mg base dW n dQ gB ["saying","bound"] (spT K 2 bN)) (kJ:Binds K gB ["saying","bound"] []) (kK:PySem.W.keepIn K (.ref dQ)=true) (kL:mg "bound_within" =some (.ref dQ))
  {cP:Addr}{eL:FuncData}{bh:FM}(iZ:br P w K mg base dW n cP eL ["saying"] (spT K 1 bh)) (i6:Binds K eL ["saying"] []) (i7:PySem.W.keepIn K (.ref cP)=true) (i8:mg "parts_of" =some (.ref cP))
  {gI:Addr}{j8:FuncData}{dm:FM}(pL:br P w K mg base dW n gI j8 ["thing","bound","room"] (spT K 3 dm)) (pM:Binds K j8 ["thing","bound","room"] []) (pN:PySem.W.keepIn K (.ref gI)=true) (pO:mg "is_formed" =some (.ref gI))
  (hf:∀us r,fm us=some r→aG 4 (dJ jY bN bh dm) us=some r):br P w K mg base dW (n+1) f fd ["thing","bound","room"] (spT K 3 fm):=
 tV (g:=dJ jY bN bh dm) F qC (fun cdv A outer s H E hr=>(aF (cT (JW.t (oU (bG (e8 hr.units) (JE.d (ah 2)) ao) (iH (pq (jQ (JE.d (aI BB hr rfl BE BD BC (aD (JE.d (ah 0)) (aD (JE.d (ah 1)) aR))))))))) (aO (aV (JD.e lu))) bY)
  (aF (bR (i:=3) qC.nd rfl (by first | exact Or.inl rfl | exact Or.inr rfl) (aI kI hr rfl kL kK kJ (aD (JE.d (ah 0)) (aD (JE.d (ah 1)) aR))))
  (aO (aV (fy (xg rfl) rfl D0 PyProof.Rows.Boot.all (aj (JE.d (uo (uW (d8:=["inner","room"]) (cap:=[3,2]) rfl (by decide) rfl (by decide) rfl rfl (by decide) (by first | exact Or.inl rfl | exact Or.inr rfl) (by decide) rfl rfl rfl) rfl (mw (JE.d (aI iZ hr rfl i8 i7 i6 (aD (JE.d (ah 0)) aR)))) (fun _ _ _ _=>yq) (fun _ _ _ _=>(JE.d (aI pL hr rfl pO pN pM (aD (JE.d (ah 0)) (aD (JE.d (ah 1)) (aD (JE.d (bT fY (JE.d (ah 2)) ao)) aR)))))))) aH))))))) hf
noncomputable abbrev iA:Stmt:=top 21
theorem sr:bS ["saying","found","part"] ["saying"] (aE iA):=⟨rfl,rfl,rfl,by decide +kernel,rfl,by decide +kernel,by decide +kernel⟩
theorem D3 {P:Program}{w:World}{K:PySem.W.Frag}{mg:Str→Option Value}{base:Heap}{f:Addr}{fd:FuncData}{n:Nat}{fm:FM}(F:pe K "all_in" "all_in" iA f fd)
  {cP:Addr}{eL:FuncData}{bh:FM}(iZ:br P w K mg base dW n cP eL ["saying"] (spT K 1 bh)) (i6:Binds K eL ["saying"] []) (i7:PySem.W.keepIn K (.ref cP)=true) (i8:mg "parts_of" =some (.ref cP))
  {iB:Addr}{kr:FuncData}{cW:FM}(qD:br P w K mg base dW n iB kr ["saying"] (spT K 1 cW)) (qE:Binds K kr ["saying"] []) (qF:PySem.W.keepIn K (.ref iB)=true) (qG:mg "all_in" =some (.ref iB))
  (hf:∀us r,fm us=some r→aG 3 (nJ bh cW) us=some r):br P w K mg base dW (n+1) f fd ["saying"] (spT K 1 fm):=
 tV (g:=nJ bh cW) F sr (fun cdv A outer s H E hr=>(aF (bR (i:=1) sr.nd rfl (by first | exact Or.inl rfl | exact Or.inr rfl) (cL (aj (JE.d (ah 0)) aH)))
  (aF (qT PassesOwn.never rfl (mw (JE.d (aI iZ hr rfl i8 i7 i6 (aD (JE.d (ah 0)) aR)))) (ou (i:=2) sr.nd rfl (by first | exact Or.inl rfl | exact Or.inr rfl)) (aO (um (JD.e (Cq (i:=1) PySem.F.slot_list_extend PySem.F.type_list_extend uV xq xr (aj (JE.d (aI qD hr rfl qG qF qE (aD (JE.d (ah 2)) aR))) aH))))))
  (aO (aV (ah 1)))))) hf
noncomputable abbrev fZ:Stmt:=top 22
theorem wG:bS ["saying"] ["saying"] (aE fZ):=⟨rfl,rfl,rfl,by decide +kernel,rfl,by decide +kernel,by decide +kernel⟩
theorem wH {P:Program}{w:World}{K:PySem.W.Frag}{mg:Str→Option Value}{base:Heap}{f:Addr}{fd:FuncData}{n:Nat}{fm:FM}(F:pe K "binders_in" "binders_in" fZ f fd) (fH:mg "len" =none){dN:Addr}(fJ:mg "BINDERS" =some (.ref dN)) (fK:zR K dN ["each","one"])
  {iB:Addr}{kr:FuncData}{cW:FM}(qD:br P w K mg base dW n iB kr ["saying"] (spT K 1 cW)) (qE:Binds K kr ["saying"] []) (qF:PySem.W.keepIn K (.ref iB)=true) (qG:mg "all_in" =some (.ref iB))
  (hf:∀us r,fm us=some r→aG 1 (iw cW) us=some r):br P w K mg base dW (n+1) f fd ["saying"] (spT K 1 fm):=
 tV (g:=iw cW) F wG (fun cdv A outer s H E hr=>(aO (aV (fy qR rfl fH PySem.boot_len (aj (JE.d (uo (uF (by decide) (by decide) rfl (by decide) rfl) rfl (mw (JE.d (aI qD hr rfl qG qF qE (aD (JE.d (ah 0)) aR)))) (fun _ _ _ _=>(Hq (yz hr.units rfl fJ fK (aX (i:=0) (bB hr) ao (fun _ _=>rfl))))) (fun _ _ _ _=>(JE.d (ah 0))))) aH))))) hf
noncomputable abbrev gU:Stmt:=top 23
theorem yS:bS ["thing"] ["thing"] (aE gU):=⟨rfl,rfl,rfl,by decide +kernel,rfl,by decide +kernel,by decide +kernel⟩
theorem yT {P:Program}{w:World}{K:PySem.W.Frag}{mg:Str→Option Value}{base:Heap}{f:Addr}{fd:FuncData}{n:Nat}{fm:FM}(F:pe K "is_saying" "is_saying" gU f fd){mS:Tok}(mT:mg "MOST_WITHIN" =some (.int 8 mS)){kM:Tok}(kN:mg "MOST_SAYINGS" =some (.int 16 kM)){kO:Tok}(kP:mg "MOST_BINDERS" =some (.int 3 kO))
  {gI:Addr}{j8:FuncData}{dm:FM}(pL:br P w K mg base dW n gI j8 ["thing","bound","room"] (spT K 3 dm)) (pM:Binds K j8 ["thing","bound","room"] []) (pN:PySem.W.keepIn K (.ref gI)=true) (pO:mg "is_formed" =some (.ref gI))
  {Ge:Addr}{Je:FuncData}{Ab:FM}(Oi:br P w K mg base dW n Ge Je ["saying"] (spT K 1 Ab)) (bsize:Binds K Je ["saying"] []) (Oj:PySem.W.keepIn K (.ref Ge)=true) (Ol:mg "size" =some (.ref Ge))
  {nN:Addr}{sZ:FuncData}{ju:FM}(Ao:br P w K mg base dW n nN sZ ["saying"] (spT K 1 ju)) (Aq:Binds K sZ ["saying"] []) (Ar:PySem.W.keepIn K (.ref nN)=true) (As:mg "binders_in" =some (.ref nN))
  (hf:∀us r,fm us=some r→aG 1 (eY dm Ab ju) us=some r):br P w K mg base dW (n+1) f fd ["thing"] (spT K 1 fm):=
 tV (g:=eY dm Ab ju) F yS (fun cdv A outer s H E hr=>(aF (cT (pq (jQ (JE.d (aI pL hr rfl pO pN pM (aD (JE.d (ah 0)) (aD (JE.d (bD aH)) (aD (oA rfl mT) aR))))))) (aO (aV (JD.e lu))) bY)
  (aO (aV (JD.e (nj (JE.d (jA qP (JE.d (aI Oi hr rfl Ol Oj bsize (aD (JE.d (ah 0)) aR))) (oA rfl kN))) (pA (JE.d (jA qP (JE.d (aI Ao hr rfl As Ar Aq (aD (JE.d (ah 0)) aR))) (oA rfl kP)))))))))) hf
noncomputable abbrev su:Stmt:=top 24
theorem Ir:bS ["saying"] ["saying"] (aE su):=⟨rfl,rfl,rfl,by decide +kernel,rfl,by decide +kernel,by decide +kernel⟩
theorem Iu {P:Program}{w:World}{K:PySem.W.Frag}{mg:Str→Option Value}{base:Heap}{f:Addr}{fd:FuncData}{n:Nat}{fm:FM}(F:pe K "size" "size" su f fd) (fH:mg "len" =none)
  {iB:Addr}{kr:FuncData}{cW:FM}(qD:br P w K mg base dW n iB kr ["saying"] (spT K 1 cW)) (qE:Binds K kr ["saying"] []) (qF:PySem.W.keepIn K (.ref iB)=true) (qG:mg "all_in" =some (.ref iB))
  (hf:∀us r,fm us=some r→aG 1 (vd cW) us=some r):br P w K mg base dW (n+1) f fd ["saying"] (spT K 1 fm):=
 tV (g:=vd cW) F Ir (fun cdv A outer s H E hr=>(aO (aV (fy qR rfl fH PySem.boot_len (aj (JE.d (aI qD hr rfl qG qF qE (aD (JE.d (ah 0)) aR))) aH))))) hf
noncomputable abbrev eO:Stmt:=top 25
theorem uf:bS ["test"] ["test"] (aE eO):=⟨rfl,rfl,rfl,by decide +kernel,rfl,by decide +kernel,by decide +kernel⟩
theorem ug {P:Program}{w:World}{K:PySem.W.Frag}{mg:Str→Option Value}{base:Heap}{f:Addr}{fd:FuncData}{n:Nat}{fm:FM}(F:pe K "has_variable" "has_variable" eO f fd) (fH:mg "len" =none) (bz:mg "isinstance" =none) (uc:mg "str" =none)
  (hf:∀us r,fm us=some r→aG 1 (cR) us=some r):br P w K mg base dW (n+1) f fd ["test"] (spT K 1 fm):=
 tV (g:=cR) F uf (fun cdv A outer s H E hr=>(aO (aV (JD.e (nj (JE.d (jA (e8 hr.units) (iK (i:=0) rfl fH) ao)) (nj (JE.d (jA (nB hr.units) (aX (i:=0) (bB hr) ao (fun _ _=>rfl)) aK)) (pA (iJ rfl bz rfl uc PyProof.Rows.Boot.str (aX (i:=0) (bB hr) ao (fun _ _=>rfl)))))))))) hf
noncomputable abbrev cY:Stmt:=top 26
theorem kQ:bS ["saying","bound","found","part"] ["saying","bound"] (aE cY):=⟨rfl,rfl,rfl,by decide +kernel,rfl,by decide +kernel,by decide +kernel⟩
theorem wI {P:Program}{w:World}{K:PySem.W.Frag}{mg:Str→Option Value}{base:Heap}{f:Addr}{fd:FuncData}{n:Nat}{fm:FM}(F:pe K "unbound_in" "unbound_in" cY f fd)
  {dR:Addr}{gC:FuncData}{bO:FM}(kR:br P w K mg base dW n dR gC ["test"] (spT K 1 bO)) (kT:Binds K gC ["test"] []) (kU:PySem.W.keepIn K (.ref dR)=true) (kW:mg "has_variable" =some (.ref dR))
  {cP:Addr}{eL:FuncData}{bh:FM}(iZ:br P w K mg base dW n cP eL ["saying"] (spT K 1 bh)) (i6:Binds K eL ["saying"] []) (i7:PySem.W.keepIn K (.ref cP)=true) (i8:mg "parts_of" =some (.ref cP))
  {fW:Addr}{jx:FuncData}{cz:FM}(nO:br P w K mg base dW n fW jx ["saying","bound"] (spT K 2 cz)) (nP:Binds K jx ["saying","bound"] []) (nQ:PySem.W.keepIn K (.ref fW)=true) (nR:mg "unbound_in" =some (.ref fW))
  {dQ:Addr}{gB:FuncData}{bN:FM}(kI:br P w K mg base dW n dQ gB ["saying","bound"] (spT K 2 bN)) (kJ:Binds K gB ["saying","bound"] []) (kK:PySem.W.keepIn K (.ref dQ)=true) (kL:mg "bound_within" =some (.ref dQ))
  (hf:∀us r,fm us=some r→aG 4 (cX bO bh cz bN) us=some r):br P w K mg base dW (n+1) f fd ["saying","bound"] (spT K 2 fm):=
 tV (g:=cX bO bh cz bN) F kQ (fun cdv A outer s H E hr=>(aF (cT (JW.t (kF (bG (e8 hr.units) (aX (i:=0) (bB hr) ao (fun _ _=>rfl)) aK) (kF (jQ (JE.d (aI kR hr rfl kW kU kT (aD (aX (i:=0) (bB hr) ao (fun _ _=>rfl)) aR)))) (fT (bG (Dh hr.units) (JE.d (lz qQ (aX (i:=0) (bB hr) ao (fun _ _=>rfl)) ao (fun _ _=>rfl))) (JE.d (ah 1)) (by with_unfolding_all rfl)))))) (aO (aV (cL (aj (JE.d (lz qQ (aX (i:=0) (bB hr) ao (fun _ _=>rfl)) ao (fun _ _=>rfl))) aH)))) bY)
  (aF (bR (i:=2) kQ.nd rfl (by first | exact Or.inl rfl | exact Or.inr rfl) (cL aH))
  (aF (qT PassesOwn.never rfl (mw (JE.d (aI iZ hr rfl i8 i7 i6 (aD (JE.d (ah 0)) aR)))) (ou (i:=3) kQ.nd rfl (by first | exact Or.inl rfl | exact Or.inr rfl)) (aO (um (JD.e (Cq (i:=2) PySem.F.slot_list_extend PySem.F.type_list_extend uV xq xr (aj (JE.d (aI nO hr rfl nR nQ nP (aD (JE.d (ah 3)) (aD (JE.d (aI kI hr rfl kL kK kJ (aD (JE.d (ah 0)) (aD (JE.d (ah 1)) aR)))) aR)))) aH))))))
  (aO (aV (ah 2))))))) hf
noncomputable abbrev jO:Stmt:=top 27
theorem BF:bS ["saying"] ["saying"] (aE jO):=⟨rfl,rfl,rfl,by decide +kernel,rfl,by decide +kernel,by decide +kernel⟩
theorem BG {P:Program}{w:World}{K:PySem.W.Frag}{mg:Str→Option Value}{base:Heap}{f:Addr}{fd:FuncData}{n:Nat}{fm:FM}(F:pe K "open_in" "open_in" jO f fd) (yU:mg "sorted" =none) (Lm:mg "set" =none)
  {fW:Addr}{jx:FuncData}{cz:FM}(nO:br P w K mg base dW n fW jx ["saying","bound"] (spT K 2 cz)) (nP:Binds K jx ["saying","bound"] []) (nQ:PySem.W.keepIn K (.ref fW)=true) (nR:mg "unbound_in" =some (.ref fW))
  (hf:∀us r,fm us=some r→aG 1 (lO cz) us=some r):br P w K mg base dW (n+1) f fd ["saying"] (spT K 1 fm):=
 tV (g:=lO cz) F BF (fun cdv A outer s H E hr=>(aO (aV (Bl rfl rfl yU rfl Lm (JE.d (aI nO hr rfl nR nQ nP (aD (JE.d (ah 0)) (aD (JE.d (bD aH)) aR)))))))) hf
noncomputable abbrev gf:Stmt:=top 28
theorem BH:bS ["saying","x","k"] ["saying","x","k"] (aE gf):=⟨rfl,rfl,rfl,by decide +kernel,rfl,by decide +kernel,by decide +kernel⟩
theorem BI {P:Program}{w:World}{K:PySem.W.Frag}{mg:Str→Option Value}{base:Heap}{f:Addr}{fd:FuncData}{n:Nat}{fm:FM}(F:pe K "put_for" "put_for" gf f fd) (mR:mg "tuple" =none){dN:Addr}(fJ:mg "BINDERS" =some (.ref dN)) (fK:zR K dN ["each","one"]){jK:Addr}(oB:mg "STARTS" =some (.ref jK)) (oE:KTab P w K jK [("yes",1),("no",1),("now",2),("not",1),("both",1),("either",1),("next",1),("till",1),("within",2),("always",1),("some",1),("each",3),("one",3)])
  {dR:Addr}{gC:FuncData}{bO:FM}(kR:br P w K mg base dW n dR gC ["test"] (spT K 1 bO)) (kT:Binds K gC ["test"] []) (kU:PySem.W.keepIn K (.ref dR)=true) (kW:mg "has_variable" =some (.ref dR))
  {cP:Addr}{eL:FuncData}{bh:FM}(iZ:br P w K mg base dW n cP eL ["saying"] (spT K 1 bh)) (i6:Binds K eL ["saying"] []) (i7:PySem.W.keepIn K (.ref cP)=true) (i8:mg "parts_of" =some (.ref cP))
  {j9:Addr}{nT:FuncData}{aQ:FM}(lT:br P w K mg base dW n j9 nT ["saying","x","k"] (spT K 3 aQ)) (lU:Binds K nT ["saying","x","k"] []) (lV:PySem.W.keepIn K (.ref j9)=true) (lW:mg "put_for" =some (.ref j9))
  (hf:∀us r,fm us=some r→aG 3 (cO bO bh aQ) us=some r):br P w K mg base dW (n+1) f fd ["saying","x","k"] (spT K 3 fm):=
 tV (g:=cO bO bh aQ) F BH (fun cdv A outer s H E hr=>(aF (cT (bG (e8 hr.units) (aX (i:=0) (bB hr) ao (fun _ _=>rfl)) aK) (aF (cT (JW.t (kF (jQ (JE.d (aI kR hr rfl kW kU kT (aD (aX (i:=0) (bB hr) ao (fun _ _=>rfl)) aR)))) (fT (bG (e8 hr.units) (JE.d (lz qQ (aX (i:=0) (bB hr) ao (fun _ _=>rfl)) ao (fun _ _=>rfl))) (JE.d (ah 1)))))) (aO (aV (bD (aj aK (aj (JE.d (bD (aj (JE.d (lz qQ (aX (i:=0) (bB hr) ao (fun _ _=>rfl)) ao (fun _ _=>rfl))) (aj (JE.d (ah 2)) aH)))) aH))))) bY)
  (aO (aV (ah 0)))) bY)
  (aF (cT (JW.t (kF (yz hr.units rfl fJ fK (aX (i:=0) (bB hr) ao (fun _ _=>rfl))) (fT (bG (e8 hr.units) (aX (i:=0) (bB hr) ao (fun _ _=>rfl)) (JE.d (ah 1)))))) (aO (aV (ah 0))) bY)
  (aO (aV (bT dY (JE.d (zM (JE.d (ah 0)) yu (yw (Fe rfl oB oE (aX (i:=0) (bB hr) ao (fun _ _=>rfl)))))) (JE.d (oh sO rfl mR PyProof.Rows.Boot.tuple (aj (JE.d (uo (uW (d8:=["k","x"]) (cap:=[2,1]) rfl (by decide) rfl (by decide) rfl rfl (by decide) (by first | exact Or.inl rfl | exact Or.inr rfl) (by decide) rfl rfl rfl) rfl (mw (JE.d (aI iZ hr rfl i8 i7 i6 (aD (JE.d (ah 0)) aR)))) (fun _ _ _ _=>yq) (fun _ _ _ _=>(JE.d (aI lT hr rfl lW lV lU (aD (JE.d (ah 0)) (aD (JE.d (ah 2)) (aD (JE.d (ah 1)) aR)))))))) aH))))))))) hf
noncomputable abbrev gW:Stmt:=top 30
theorem mU:bS ["_law_script","_law_at","_law_cell"] ["_law_script","_law_at"] (aE gW):=⟨rfl,rfl,rfl,by decide +kernel,rfl,by decide +kernel,by decide +kernel⟩
theorem yV {P:Program}{w:World}{K:PySem.W.Frag}{mg:Str→Option Value}{base:Heap}{f:Addr}{fd:FuncData}{n:Nat}{fm:FM}(F:pe K "_law_tape" "_law_tape" gW f fd) (fH:mg "len" =none) (Ln:mg "max" =none)
  (hf:∀us r,fm us=some r→aG 3 (jq) us=some r):br P w K mg base dW (n+1) f fd ["_law_script","_law_at"] (spT K 2 fm):=
 tV (g:=jq) F mU (fun cdv A outer s H E hr=>(aF (bR (i:=2) mU.nd rfl (by first | exact Or.inl rfl | exact Or.inr rfl) (ah 1))
  (aF (cT (bG uH (iK (i:=0) rfl fH) ao) (aO (bR (i:=2) mU.nd rfl (by first | exact Or.inl rfl | exact Or.inr rfl) (bT dY (aX (i:=0) (bB hr) (JE.d (bT jG (JE.d (ah 1)) (iK (i:=0) rfl fH))) (fun _ _=>rfl)) (JE.d (bT yh (JE.d (ah 1)) (iK (i:=0) rfl fH)))))) bY)
  (aO (aV (qj (hk:=Nat.le_of_ble_eq_true rfl) (cK (JE.d (ah 2)) (cK (JE.d (fy (Be rfl) rfl Ln PyProof.Rows.Boot.max (aj ao (aj (JE.d (bT fY (JE.d (ah 2)) (JE.d (bT Hh ao ao)))) aH)))) (cK ao qi))))))))) hf
noncomputable abbrev gX:Stmt:=top 31
theorem iC:bS ["_law_tape_here","_law_many","_law_turn","_law_found","_law_mixed"] ["_law_tape_here","_law_many"] (aE gX):=⟨rfl,rfl,rfl,by decide +kernel,rfl,by decide +kernel,by decide +kernel⟩
theorem yW {P:Program}{w:World}{K:PySem.W.Frag}{mg:Str→Option Value}{base:Heap}{f:Addr}{fd:FuncData}{n:Nat}{fm:FM}(F:pe K "_law_pick" "_law_pick" gX f fd)
  (hf:∀us r,fm us=some r→aG 5 (jo) us=some r):br P w K mg base dW (n+1) f fd ["_law_tape_here","_law_many"] (spT K 2 fm):=
 tV (g:=jo) F iC (fun cdv A outer s H E hr=>(aF (bR (i:=2) iC.nd rfl (by first | exact Or.inl rfl | exact Or.inr rfl) (bT dY (aX (i:=0) (bB hr) aK (fun _ _=>rfl)) ao))
  (aF (yt (i:=0) (bB hr) aK (JE.d (ah 2)))
  (aF (cT (bG uH (aX (i:=0) (bB hr) aK (fun _ _=>rfl)) ao) (aF (bR (i:=3) iC.nd rfl (by first | exact Or.inl rfl | exact Or.inr rfl) (bT jG (aX (i:=0) (bB hr) aK (fun _ _=>rfl)) (JE.d (ah 1))))
  (aF (yt (i:=0) (bB hr) aK (JE.d (bT yh (aX (i:=0) (bB hr) aK (fun _ _=>rfl)) (JE.d (ah 1)))))
  (aO (aV (ah 3))))) bY)
  (aF (bR (i:=4) iC.nd rfl (by first | exact Or.inl rfl | exact Or.inr rfl) (bT p7 (JE.d (bT dY (JE.d (bT dY (JE.d (bT jG (aX (i:=0) (bB hr) aK (fun _ _=>rfl)) ao)) (JE.d (bT p7 (JE.d (bT p7 ao (JE.d (ah 2)))) (JE.d (ah 2)))))) ao)) ao))
  (aF (bR (i:=4) iC.nd rfl (by first | exact Or.inl rfl | exact Or.inr rfl) (bT p7 (JE.d (bT dY (JE.d (bT jG (JE.d (ah 4)) ao)) (JE.d (bT p7 ao (JE.d (ah 2)))))) ao))
  (aO (aV (bT jG (JE.d (bT yh (JE.d (bT jG (JE.d (ah 4)) ao)) ao)) (JE.d (ah 1))))))))))) hf
noncomputable abbrev gg:Stmt:=top 32
theorem wJ:bS [] [] (aE gg):=⟨rfl,rfl,rfl,by decide +kernel,rfl,by decide +kernel,by decide +kernel⟩
theorem wK {P:Program}{w:World}{K:PySem.W.Frag}{mg:Str→Option Value}{base:Heap}{f:Addr}{fd:FuncData}{n:Nat}{fm:FM}(F:pe K "_law_names" "_law_names" gg f fd)
  (hf:∀us r,fm us=some r→aG 0 (jH) us=some r):br P w K mg base dW (n+1) f fd [] (spT K 0 fm):=
 tV (g:=jH) F wJ (fun cdv A outer s H E hr=>(aO (aV (cL (aj aK (aj aK (aj aK (aj aK (aj aK (aj aK (aj aK (aj aK aH)))))))))))) hf
noncomputable abbrev gY:Stmt:=top 33
theorem jL:bS ["_law_tape_here","_law_names_here","_law_variables","_law_way","_law_number"] ["_law_tape_here","_law_names_here","_law_variables"] (aE gY):=⟨rfl,rfl,rfl,by decide +kernel,rfl,by decide +kernel,by decide +kernel⟩
theorem yX {P:Program}{w:World}{K:PySem.W.Frag}{mg:Str→Option Value}{base:Heap}{f:Addr}{fd:FuncData}{n:Nat}{fm:FM}(F:pe K "_law_test" "_law_test" gY f fd) (fH:mg "len" =none)
  {cy:Addr}{dw:FuncData}{aq:FM}(bH:br P w K mg base dW n cy dw ["_law_tape_here","_law_many"] (spT K 2 aq)) (bI:Binds K dw ["_law_tape_here","_law_many"] []) (bJ:PySem.W.keepIn K (.ref cy)=true) (bK:mg "_law_pick" =some (.ref cy))
  (hf:∀us r,fm us=some r→aG 5 (dM aq) us=some r):br P w K mg base dW (n+1) f fd ["_law_tape_here","_law_names_here","_law_variables"] (spT K 3 fm):=
 tV (g:=dM aq) F jL (fun cdv A outer s H E hr=>(aF (bR (i:=3) jL.nd rfl (by first | exact Or.inl rfl | exact Or.inr rfl) (aI bH hr rfl bK bJ bI (cA (ah 0) (aD ao aR))))
  (aF (cT (bG (e8 hr.units) (JE.d (ah 3)) ao) (aO (aV (bD (aj aK aH)))) bY)
  (aF (cT (bG (e8 hr.units) (JE.d (ah 3)) ao) (aO (aV (bD (aj aK (aj (aX (i:=1) (bB hr) (JE.d (aI bH hr rfl bK bJ bI (cA (ah 0) (aD (iK (i:=1) rfl fH) aR)))) (fun _ _=>rfl)) aH))))) bY)
  (aF (bR (i:=4) jL.nd rfl (by first | exact Or.inl rfl | exact Or.inr rfl) (lz qQ (JE.d (cL (aj ao (aj ao (aj ao (aj ao (aj ao (aj ao aH)))))))) (JE.d (aI bH hr rfl bK bJ bI (cA (ah 0) (aD ao aR)))) (fun _ _=>rfl)))
  (aF (cT (JW.t (kF (bG (nB hr.units) (JE.d (ah 2)) (JE.d (bD aH))) (fT (bG uH (JE.d (aI bH hr rfl bK bJ bI (cA (ah 0) (aD ao aR)))) ao)))) (aO (bR (i:=4) jL.nd rfl (by first | exact Or.inl rfl | exact Or.inr rfl) (JD.e (aX (i:=2) (bB hr) (JE.d (aI bH hr rfl bK bJ bI (cA (ah 0) (aD (iK (i:=2) rfl fH) aR)))) (fun _ _=>rfl))))) bY)
  (aO (aV (bD (aj (JE.d (lz qQ (JE.d (cL (aj aK (aj aK (aj aK aH))))) (JE.d (bT fY (JE.d (ah 3)) ao)) (fun _ _=>rfl))) (aj (JE.d (ah 4)) aH))))))))))) hf
noncomputable abbrev cZ:Stmt:=top 34
theorem dU:bS ["_law_tape_here","_law_world","_law_variables","_law_room","_law_deep","_law_way","_law_names_here","_law_x","_law_head"] ["_law_tape_here","_law_world","_law_variables","_law_room","_law_deep"] (aE cZ):=⟨rfl,rfl,rfl,by decide +kernel,rfl,by decide +kernel,by decide +kernel⟩
theorem wL {P:Program}{w:World}{K:PySem.W.Frag}{mg:Str→Option Value}{base:Heap}{f:Addr}{fd:FuncData}{n:Nat}{fm:FM}(F:pe K "_law_inner" "_law_inner" cZ f fd) (fH:mg "len" =none)
  {cy:Addr}{dw:FuncData}{aq:FM}(bH:br P w K mg base dW n cy dw ["_law_tape_here","_law_many"] (spT K 2 aq)) (bI:Binds K dw ["_law_tape_here","_law_many"] []) (bJ:PySem.W.keepIn K (.ref cy)=true) (bK:mg "_law_pick" =some (.ref cy))
  {cF:Addr}{dP:FuncData}{az:FM}(ff:br P w K mg base dW n cF dP ["_law_tape_here","_law_world","_law_variables","_law_room","_law_deep"] (spT K 5 az)) (fh:Binds K dP ["_law_tape_here","_law_world","_law_variables","_law_room","_law_deep"] []) (fj:PySem.W.keepIn K (.ref cF)=true) (fq:mg "_law_saying" =some (.ref cF))
  (hf:∀us r,fm us=some r→aG 9 (cu aq az) us=some r):br P w K mg base dW (n+1) f fd ["_law_tape_here","_law_world","_law_variables","_law_room","_law_deep"] (spT K 5 fm):=
 tV (g:=cu aq az) F dU (fun cdv A outer s H E hr=>(aF (bR (i:=5) dU.nd rfl (by first | exact Or.inl rfl | exact Or.inr rfl) (aI bH hr rfl bK bJ bI (cA (ah 0) (aD ao aR))))
  (aF (cT (JW.t (kF (bG qO (JE.d (ah 5)) ao) (fT (bG qO (aX (i:=1) (bB hr) aK (fun _ _=>rfl)) ao)))) (aF (yt (i:=1) (bB hr) aK (JE.d (bT dY (aX (i:=1) (bB hr) aK (fun _ _=>rfl)) ao)))
  (aF (bR (i:=6) dU.nd rfl (by first | exact Or.inl rfl | exact Or.inr rfl) (JD.e (aX (i:=1) (bB hr) aK (fun _ _=>rfl))))
  (aF (bR (i:=7) dU.nd rfl (by first | exact Or.inl rfl | exact Or.inr rfl) (lz qQ (JE.d (cL (aj aK (aj aK (aj aK (aj aK aH)))))) (JE.d (aI bH hr rfl bK bJ bI (cA (ah 0) (aD ao aR)))) (fun _ _=>rfl)))
  (aF (bR (i:=8) dU.nd rfl (by first | exact Or.inl rfl | exact Or.inr rfl) (bD (aj (JE.d (lz qQ (JE.d (cL (aj aK (aj aK aH)))) (JE.d (bT jG (JE.d (ah 5)) ao)) (fun _ _=>rfl))) (aj (aX (i:=6) (bB hr) (JE.d (aI bH hr rfl bK bJ bI (cA (ah 0) (aD (iK (i:=6) rfl fH) aR)))) (fun _ _=>rfl)) (aj (JE.d (ah 7)) aH)))))
  (aO (aV (bT dY (JE.d (ah 8)) (JE.d (bD (aj (JE.d (aI ff hr rfl fq fj fh (cA (ah 0) (cA (ah 1) (aD (JE.d (bT dY (JE.d (ah 2)) (JE.d (bD (aj (JE.d (ah 7)) aH))))) (aD (JE.d (bT fY (JE.d (ah 3)) ao)) (aD (JE.d (bT fY (JE.d (ah 4)) ao)) aR))))))) aH)))))))))) bY)
  (aF (bR (i:=8) dU.nd rfl (by first | exact Or.inl rfl | exact Or.inr rfl) (bD (aj (JE.d (lz qQ (JE.d (cL (aj aK (aj aK (aj aK (aj aK aH)))))) (JE.d (bT jG (JE.d (ah 5)) ao)) (fun _ _=>rfl))) aH)))
  (aF (cT (bG (e8 hr.units) (JE.d (ah 5)) ao) (aO (bR (i:=8) dU.nd rfl (by first | exact Or.inl rfl | exact Or.inr rfl) (bD (aj aK (aj (JE.d (aI bH hr rfl bK bJ bI (cA (ah 0) (aD ao aR)))) aH))))) bY)
  (aO (aV (bT dY (JE.d (ah 8)) (JE.d (bD (aj (JE.d (aI ff hr rfl fq fj fh (cA (ah 0) (cA (ah 1) (aD (JE.d (ah 2)) (aD (JE.d (bT fY (JE.d (ah 3)) ao)) (aD (JE.d (bT fY (JE.d (ah 4)) ao)) aR))))))) aH))))))))))) hf
noncomputable abbrev cQ:Stmt:=top 35
theorem fX:bS ["_law_tape_here","_law_world","_law_variables","_law_room","_law_deep","_law_way","_law_first","_law_one","_law_other"] ["_law_tape_here","_law_world","_law_variables","_law_room","_law_deep"] (aE cQ):=⟨rfl,rfl,rfl,by decide +kernel,rfl,by decide +kernel,by decide +kernel⟩
theorem vK {P:Program}{w:World}{K:PySem.W.Frag}{mg:Str→Option Value}{base:Heap}{f:Addr}{fd:FuncData}{n:Nat}{fm:FM}(F:pe K "_law_saying" "_law_saying" cQ f fd)
  {cy:Addr}{dw:FuncData}{aq:FM}(bH:br P w K mg base dW n cy dw ["_law_tape_here","_law_many"] (spT K 2 aq)) (bI:Binds K dw ["_law_tape_here","_law_many"] []) (bJ:PySem.W.keepIn K (.ref cy)=true) (bK:mg "_law_pick" =some (.ref cy))
  {pP:Addr}{vL:FuncData}{j5:FM}(BJ:br P w K mg base dW n pP vL ["_law_tape_here","_law_names_here","_law_variables"] (spT K 3 j5)) (BK:Binds K vL ["_law_tape_here","_law_names_here","_law_variables"] []) (BL:PySem.W.keepIn K (.ref pP)=true) (BN:mg "_law_test" =some (.ref pP))
  {cF:Addr}{dP:FuncData}{az:FM}(ff:br P w K mg base dW n cF dP ["_law_tape_here","_law_world","_law_variables","_law_room","_law_deep"] (spT K 5 az)) (fh:Binds K dP ["_law_tape_here","_law_world","_law_variables","_law_room","_law_deep"] []) (fj:PySem.W.keepIn K (.ref cF)=true) (fq:mg "_law_saying" =some (.ref cF))
  {nU:Addr}{tu:FuncData}{jv:FM}(Au:br P w K mg base dW n nU tu ["_law_tape_here","_law_world","_law_variables","_law_room","_law_deep"] (spT K 5 jv)) (Av:Binds K tu ["_law_tape_here","_law_world","_law_variables","_law_room","_law_deep"] []) (Aw:PySem.W.keepIn K (.ref nU)=true) (Ax:mg "_law_inner" =some (.ref nU))
  (hf:∀us r,fm us=some r→aG 9 (bf aq j5 az jv) us=some r):br P w K mg base dW (n+1) f fd ["_law_tape_here","_law_world","_law_variables","_law_room","_law_deep"] (spT K 5 fm):=
 tV (g:=bf aq j5 az jv) F fX (fun cdv A outer s H E hr=>(aF (bR (i:=5) fX.nd rfl (by first | exact Or.inl rfl | exact Or.inr rfl) (aI bH hr rfl bK bJ bI (cA (ah 0) (aD ao aR))))
  (aF (cT (JW.t (oU (bG qO (JE.d (ah 3)) ao) (oU (bG qO (JE.d (ah 4)) ao) (iH (bG (e8 hr.units) (JE.d (ah 5)) ao))))) (aF (cT (bG (e8 hr.units) (JE.d (bT jG (JE.d (ah 5)) ao)) ao) (aO (aV (bD (aj (JE.d (lz qQ (JE.d (cL (aj aK (aj aK aH)))) (JE.d (aI bH hr rfl bK bJ bI (cA (ah 0) (aD ao aR)))) (fun _ _=>rfl))) aH)))) bY)
  (aO (aV (bD (aj aK (aj (JE.d (aI BJ hr rfl BN BL BK (cA (ah 0) (aD (aX (i:=1) (bB hr) aK (fun _ _=>rfl)) (aD (JE.d (ah 2)) aR))))) aH)))))) bY)
  (aF (cT (JW.t (kF (bG qO (JE.d (ah 5)) ao) (fT (bG uH (JE.d (ah 3)) ao)))) (aF (bR (i:=6) fX.nd rfl (by first | exact Or.inl rfl | exact Or.inr rfl) (bT dY ao (JE.d (aI bH hr rfl bK bJ bI (cA (ah 0) (aD (JE.d (bT fY (JE.d (ah 3)) ao)) aR))))))
  (aF (bR (i:=7) fX.nd rfl (by first | exact Or.inl rfl | exact Or.inr rfl) (aI ff hr rfl fq fj fh (cA (ah 0) (cA (ah 1) (aD (JE.d (ah 2)) (aD (JE.d (ah 6)) (aD (JE.d (bT fY (JE.d (ah 4)) ao)) aR)))))))
  (aF (bR (i:=8) fX.nd rfl (by first | exact Or.inl rfl | exact Or.inr rfl) (aI ff hr rfl fq fj fh (cA (ah 0) (cA (ah 1) (aD (JE.d (ah 2)) (aD (JE.d (bT fY (JE.d (bT fY (JE.d (ah 3)) ao)) (JE.d (ah 6)))) (aD (JE.d (bT fY (JE.d (ah 4)) ao)) aR)))))))
  (aO (aV (bD (aj (JE.d (lz qQ (JE.d (cL (aj aK (aj aK (aj aK (aj aK aH)))))) (JE.d (bT fY (JE.d (ah 5)) ao)) (fun _ _=>rfl))) (aj (JE.d (ah 7)) (aj (JE.d (ah 8)) aH))))))))) bY)
  (aO (aV (aI Au hr rfl Ax Aw Av (cA (ah 0) (cA (ah 1) (aD (JE.d (ah 2)) (aD (JE.d (ah 3)) (aD (JE.d (ah 4)) aR)))))))))))) hf
noncomputable abbrev gj:Stmt:=top 36
theorem oX:bS ["_law_head","_law_shapes"] ["_law_head"] (aE gj):=⟨rfl,rfl,rfl,by decide +kernel,rfl,by decide +kernel,by decide +kernel⟩
theorem wM {P:Program}{w:World}{K:PySem.W.Frag}{mg:Str→Option Value}{base:Heap}{f:Addr}{fd:FuncData}{n:Nat}{fm:FM}(F:pe K "_law_shape" "_law_shape" gj f fd)
  (hf:∀us r,fm us=some r→aG 2 (iy) us=some r):br P w K mg base dW (n+1) f fd ["_law_head"] (spT K 1 fm):=
 tV (g:=iy) F oX (fun cdv A outer s H E hr=>(aF (bR (i:=1) oX.nd rfl (by first | exact Or.inl rfl | exact Or.inr rfl) (qj (hk:=Nat.le_of_ble_eq_true rfl) (cK (JE.d (bD (aj ao (aj (JE.d (cL aH)) aH)))) (cK (JE.d (bD (aj ao (aj (JE.d (cL aH)) aH)))) (cK (JE.d (bD (aj ao (aj (JE.d (cL aH)) aH)))) (cK (JE.d (bD (aj ao (aj (JE.d (cL (aj ao aH))) aH)))) (cK (JE.d (bD (aj ao (aj (JE.d (cL (aj ao aH))) aH)))) (cK (JE.d (bD (aj ao (aj (JE.d (cL (aj ao aH))) aH)))) qi))))))))
  (aF (um (JD.e (Cw (i:=1) (qj (hk:=Nat.le_of_ble_eq_true rfl) (cK (JE.d (bD (aj ao (aj (JE.d (cL (aj ao aH))) aH)))) (cK (JE.d (bD (aj ao (aj (JE.d (cL (aj ao (aj ao aH)))) aH)))) (cK (JE.d (bD (aj ao (aj (JE.d (cL (aj ao (aj ao aH)))) aH)))) (cK (JE.d (bD (aj ao (aj (JE.d (cL (aj ao (aj ao aH)))) aH)))) qi))))))))
  (aF (um (JD.e (Cw (i:=1) (qj (hk:=Nat.le_of_ble_eq_true rfl) (cK (JE.d (bD (aj ao (aj (JE.d (cL (aj ao aH))) aH)))) (cK (JE.d (bD (aj ao (aj (JE.d (cL (aj ao aH))) aH)))) (cK (JE.d (bD (aj ao (aj (JE.d (cL (aj ao aH))) aH)))) qi)))))))
  (aO (aV (JD.e (HC (i:=1) (bB hr) (JE.d (ah 0)) (JE.d (bD (aj ao (aj (JE.d (cL aH)) aH)))))))))))) hf
noncomputable abbrev fu:Stmt:=top 37
theorem ku:bS ["_law_saying_here","_law_x","_law_k","_law_test_here","_law_parts","_law_at"] ["_law_saying_here","_law_x","_law_k"] (aE fu):=⟨rfl,rfl,rfl,by decide +kernel,rfl,by decide +kernel,by decide +kernel⟩
theorem Ay {P:Program}{w:World}{K:PySem.W.Frag}{mg:Str→Option Value}{base:Heap}{f:Addr}{fd:FuncData}{n:Nat}{fm:FM}(F:pe K "_law_put" "_law_put" fu f fd) (bz:mg "isinstance" =none) (uc:mg "str" =none) (xM:mg "list" =none) (mR:mg "tuple" =none)
  {nW:Addr}{tw:FuncData}{fV:FM}(Az:br P w K mg base dW n nW tw ["_law_head"] (spT K 1 fV)) (AA:Binds K tw ["_law_head"] []) (AB:PySem.W.keepIn K (.ref nW)=true) (AD:mg "_law_shape" =some (.ref nW))
  {i9:Addr}{lX:FuncData}{aL:FM}(sA:br P w K mg base dW n i9 lX ["_law_saying_here","_law_x","_law_k"] (spT K 3 aL)) (sC:Binds K lX ["_law_saying_here","_law_x","_law_k"] []) (sD:PySem.W.keepIn K (.ref i9)=true) (sE:mg "_law_put" =some (.ref i9))
  (hf:∀us r,fm us=some r→aG 6 (bq fV aL) us=some r):br P w K mg base dW (n+1) f fd ["_law_saying_here","_law_x","_law_k"] (spT K 3 fm):=
 tV (g:=bq fV aL) F ku (fun cdv A outer s H E hr=>(aF (cT (bG (e8 hr.units) (aX (i:=0) (bB hr) ao (fun _ _=>rfl)) aK) (aF (bR (i:=3) ku.nd rfl (by first | exact Or.inl rfl | exact Or.inr rfl) (JD.e (aX (i:=0) (bB hr) ao (fun _ _=>rfl))))
  (aF (cT (JW.t (kF (bG (uO hr.units) (aX (i:=3) (bB hr) ao (fun _ _=>rfl)) (JE.d (bD (aj aK (aj aK (aj aK aH))))) (by with_unfolding_all rfl)) (kF (jQ (iJ rfl bz rfl uc PyProof.Rows.Boot.str (aX (i:=3) (bB hr) ao (fun _ _=>rfl)))) (fT (bG (e8 hr.units) (aX (i:=3) (bB hr) ao (fun _ _=>rfl)) (JE.d (ah 1))))))) (aO (aV (bD (aj aK (aj (JE.d (bD (aj (aX (i:=3) (bB hr) ao (fun _ _=>rfl)) (aj (JE.d (ah 2)) aH)))) aH))))) bY)
  (aO (aV (ah 0))))) bY)
  (aF (cT (JW.t (kF (bG (uO hr.units) (aX (i:=0) (bB hr) ao (fun _ _=>rfl)) (JE.d (bD (aj aK (aj aK aH)))) (by with_unfolding_all rfl)) (fT (bG (e8 hr.units) (aX (i:=0) (bB hr) ao (fun _ _=>rfl)) (JE.d (ah 1)))))) (aO (aV (ah 0))) bY)
  (aF (bR (i:=4) ku.nd rfl (by first | exact Or.inl rfl | exact Or.inr rfl) (oh uQ rfl xM PyProof.Rows.Boot.list (aj (JE.d (ah 0)) aH)))
  (aF (qT PassesOwn.never rfl (mw (JE.d (lz qQ (JE.d (aI Az hr rfl AD AB AA (aD (aX (i:=0) (bB hr) ao (fun _ _=>rfl)) aR))) ao (fun _ _=>rfl)))) (ou (i:=5) ku.nd rfl (by first | exact Or.inl rfl | exact Or.inr rfl)) (aO (yt (i:=4) (bB hr) (JE.d (ah 5)) (JE.d (aI sA hr rfl sE sD sC (aD (aX (i:=0) (bB hr) (JE.d (ah 5)) (fun _ _=>rfl)) (aD (JE.d (ah 1)) (aD (JE.d (ah 2)) aR))))))))
  (aO (aV (oh sO rfl mR PyProof.Rows.Boot.tuple (aj (JE.d (ah 4)) aH))))))))) hf
noncomputable abbrev qH:Stmt:=top 38
theorem gJ:bS ["_law_script","_law_k","_law_tape_here","_law_variables","_law_world","_law_saying_here","_law_handed","_law_one","_law_other","_law_x","_law_number","_law_due"] ["_law_script"] (aE qH):=⟨rfl,rfl,rfl,by decide +kernel,rfl,by decide +kernel,by decide +kernel⟩
theorem Lo {P:Program}{w:World}{K:PySem.W.Frag}{mg:Str→Option Value}{base:Heap}{f:Addr}{fd:FuncData}{n:Nat}{fm:FM}(F:pe K "law" "law" qH f fd) (fH:mg "len" =none) (BO:mg "range" =none) (tF:mg "repr" =none) (xM:mg "list" =none)
  {pQ:Addr}{vM:FuncData}{aM:FM}(BP:br P w K mg base dW n pQ vM ["_law_script","_law_at"] (spT K 2 aM)) (BQ:Binds K vM ["_law_script","_law_at"] []) (BR:PySem.W.keepIn K (.ref pQ)=true) (BS:mg "_law_tape" =some (.ref pQ))
  {cy:Addr}{dw:FuncData}{aq:FM}(bH:br P w K mg base dW n cy dw ["_law_tape_here","_law_many"] (spT K 2 aq)) (bI:Binds K dw ["_law_tape_here","_law_many"] []) (bJ:PySem.W.keepIn K (.ref cy)=true) (bK:mg "_law_pick" =some (.ref cy))
  {nX:Addr}{tG:FuncData}{aJ:FM}(AE:br P w K mg base dW n nX tG [] (spT K 0 aJ)) (AF:Binds K tG [] []) (AG:PySem.W.keepIn K (.ref nX)=true) (AH:mg "_law_names" =some (.ref nX))
  {cF:Addr}{dP:FuncData}{az:FM}(ff:br P w K mg base dW n cF dP ["_law_tape_here","_law_world","_law_variables","_law_room","_law_deep"] (spT K 5 az)) (fh:Binds K dP ["_law_tape_here","_law_world","_law_variables","_law_room","_law_deep"] []) (fj:PySem.W.keepIn K (.ref cF)=true) (fq:mg "_law_saying" =some (.ref cF))
  {i9:Addr}{lX:FuncData}{aL:FM}(sA:br P w K mg base dW n i9 lX ["_law_saying_here","_law_x","_law_k"] (spT K 3 aL)) (sC:Binds K lX ["_law_saying_here","_law_x","_law_k"] []) (sD:PySem.W.keepIn K (.ref i9)=true) (sE:mg "_law_put" =some (.ref i9))
  {j9:Addr}{nT:FuncData}{aQ:FM}(lT:br P w K mg base dW n j9 nT ["saying","x","k"] (spT K 3 aQ)) (lU:Binds K nT ["saying","x","k"] []) (lV:PySem.W.keepIn K (.ref j9)=true) (lW:mg "put_for" =some (.ref j9))
  {vN:Addr}{AI:FuncData}{bg:FM}(Gf:br P w K mg base dW n vN AI ["saying"] (spT K 1 bg)) (Gg:Binds K AI ["saying"] []) (Gh:PySem.W.keepIn K (.ref vN)=true) (Gi:mg "open_in" =some (.ref vN))
  {pR:Addr}{vO:FuncData}{aN:FM}(BU:br P w K mg base dW n pR vO ["thing"] (spT K 1 aN)) (BV:Binds K vO ["thing"] []) (BW:PySem.W.keepIn K (.ref pR)=true) (BX:mg "is_saying" =some (.ref pR))
  (hf:∀us r,fm us=some r→aG 12 (Ag aM aq aJ az aL aQ bg aN) us=some r):br P w K mg base dW (n+1) f fd ["_law_script"] (spT K 1 fm):=
 tV (g:=Ag aM aq aJ az aL aQ bg aN) F gJ (fun cdv A outer s H E hr=>(aF (qT PassesOwn.never rfl (Df rfl BO (aj (JE.d (bT dY ao (JE.d (fy qR rfl fH PySem.boot_len (aj (JE.d (Dm (i:=0) yu (yw ao))) aH))))) aH)) (ou (i:=1) gJ.nd rfl (by first | exact Or.inl rfl | exact Or.inr rfl)) (aF (bR (i:=2) gJ.nd rfl (by first | exact Or.inl rfl | exact Or.inr rfl) (aI BP hr rfl BS BR BQ (cA (ah 0) (aD (JE.d (ah 1)) aR))))
  (aF (bR (i:=3) gJ.nd rfl (by first | exact Or.inl rfl | exact Or.inr rfl) (lz qQ (JE.d (cL (aj (JE.d (bD (aj aK aH))) (aj (JE.d (bD (aj aK (aj aK aH)))) (aj (JE.d (bD (aj aK (aj aK (aj aK aH))))) aH))))) (JE.d (aI bH hr rfl bK bJ bI (cA (ah 2) (aD ao aR)))) (fun _ _=>rfl)))
  (aF (bR (i:=4) gJ.nd rfl (by first | exact Or.inl rfl | exact Or.inr rfl) (qj (hk:=Nat.le_of_ble_eq_true rfl) (cK (JE.d (Fb AE hr rfl AH AG AF)) (cK ao qi))))
  (aF (bR (i:=5) gJ.nd rfl (by first | exact Or.inl rfl | exact Or.inr rfl) (aI ff hr rfl fq fj fh (cA (ah 2) (cA (ah 4) (aD (JE.d (ah 3)) (aD (JE.d (bT dY ao (JE.d (aI bH hr rfl bK bJ bI (cA (ah 2) (aD ao aR)))))) (aD (JE.d (bT dY ao (JE.d (aI bH hr rfl bK bJ bI (cA (ah 2) (aD ao aR)))))) aR)))))))
  (aF (bR (i:=6) gJ.nd rfl (by first | exact Or.inl rfl | exact Or.inr rfl) (fy (iL hr.gd hr.units) rfl tF PyProof.Rows.Boot.repr (aj (JE.d (ah 5)) aH)))
  (aF (bR (i:=7) gJ.nd rfl (by first | exact Or.inl rfl | exact Or.inr rfl) (ah 5))
  (aF (bR (i:=8) gJ.nd rfl (by first | exact Or.inl rfl | exact Or.inr rfl) (ah 5))
  (aF (qT PassesOwn.never rfl (mw (JE.d (bT dY (JE.d (ah 3)) (JE.d (bD (aj aK (aj aK aH))))))) (ou (i:=9) gJ.nd rfl (by first | exact Or.inl rfl | exact Or.inr rfl)) (aF (bR (i:=10) gJ.nd rfl (by first | exact Or.inl rfl | exact Or.inr rfl) (aI bH hr rfl bK bJ bI (cA (ah 2) (aD ao aR))))
  (aF (bR (i:=11) gJ.nd rfl (by first | exact Or.inl rfl | exact Or.inr rfl) (fy (iL hr.gd hr.units) rfl tF PyProof.Rows.Boot.repr (aj (JE.d (aI sA hr rfl sE sD sC (aD (JE.d (ah 5)) (aD (JE.d (ah 9)) (aD (JE.d (ah 10)) aR))))) aH)))
  (aF (cT (JW.t (oU (bG (nB hr.units) (JE.d (fy (iL hr.gd hr.units) rfl tF PyProof.Rows.Boot.repr (aj (JE.d (aI lT hr rfl lW lV lU (aD (JE.d (ah 5)) (aD (JE.d (ah 9)) (aD (JE.d (ah 10)) aR))))) aH))) (JE.d (ah 11))) (iH (bG (nB hr.units) (JE.d (fy (iL hr.gd hr.units) rfl tF PyProof.Rows.Boot.repr (aj (JE.d (ah 5)) aH))) (JE.d (ah 6)))))) (aO (aV (JD.e lu))) bY)
  (aO (bR (i:=7) gJ.nd rfl (by first | exact Or.inl rfl | exact Or.inr rfl) (aI lT hr rfl lW lV lU (aD (JE.d (ah 7)) (aD (JE.d (ah 9)) (aD ao aR))))))))))
  (aF (qT PassesOwn.never rfl (mw (JE.d (KG (JE.d (oh uQ rfl xM PyProof.Rows.Boot.list (aj (JE.d (ah 3)) aH))) (JE.d (MY Hj ao))))) (ou (i:=9) gJ.nd rfl (by first | exact Or.inl rfl | exact Or.inr rfl)) (aO (bR (i:=8) gJ.nd rfl (by first | exact Or.inl rfl | exact Or.inr rfl) (aI lT hr rfl lW lV lU (aD (JE.d (ah 8)) (aD (JE.d (ah 9)) (aD ao aR)))))))
  (aF (cT (JW.t (oU (bG (nB hr.units) (JE.d (ah 7)) (JE.d (ah 8))) (oU (bG (nB hr.units) (JE.d (aI Gf hr rfl Gi Gh Gg (aD (JE.d (ah 7)) aR))) (JE.d (cL aH))) (iH (bG Dn (JE.d (aI BU hr rfl BX BW BV (aD (JE.d (ah 7)) aR))) lu))))) (aO (aV (JD.e lu))) bY)
  (aO (cT (bG (nB hr.units) (JE.d (fy (iL hr.gd hr.units) rfl tF PyProof.Rows.Boot.repr (aj (JE.d (aI lT hr rfl lW lV lU (aD (JE.d (ah 7)) (aD aK (aD ao aR))))) aH))) (JE.d (fy (iL hr.gd hr.units) rfl tF PyProof.Rows.Boot.repr (aj (JE.d (ah 7)) aH)))) (aO (aV (JD.e lu))) bY)))))))))))))
  (aO (aV (JD.e lu))))) hf
end K07
end
set_option Elab.async false
set_option linter.all false
set_option maxRecDepth 100000
namespace K07
open PySem L2 Sw Ss Sp
set_option maxHeartbeats 0 in
theorem all_mk {l:PySem.W.OpenLaw}{w:World}{K:PySem.W.Frag}{h:Heap}{mg:Str→Option Value}{fa f1 f2 f3 f4 f5 f6 f7 f8 f9 Uv f11 Uw Ux Qu Uy Qv Uz UA UB UC Qw Qx UD Qy UE:Addr}(X:K.In h) (G:h.Ns mainGlobals mg) (Na:mg "law" =some (.ref fa))
  {ZV ZW ZX ZY ZZ Z0 Z1 Z2 Z3 Z4 Z5 Z6 Z7 Z8 Z9 XO od9 XQ UG UH UI UJ UK UL UM UN UO Om UP UQ UR Oo US UT UU UW UX UY UZ U0 U1 Oq U3 Ot U4 U5 U6 Ou U7 Ov:Option Addr}{sl1 sl2 sl3 sl4 sl5 sl6 sl7 sl8 sl9 U8 U9 Va Vb Vc Vd Ve Vf Vg Vh Vi Vj Vk Vl Vm Vn:Array (Option Value)} {oc1 kV1 dc1 pm1 XR ct1 oc2 kV2 dc2 pm2 XS ct2 oc3 kV3 dc3 pm3 XT ct3 oc4 kV4 dc4 pm4 XU ct4 oc5 kV5 dc5 pm5 XW ct5 oc6 kV6 dc6 pm6 XX ct6 oc7 kV7 dc7 pm7 XY ct7 oc8 XZ X0 X3 Vo X4 oc9 X5 X6 X7 Vp X8 Vq Vr Vs Vt Ow Vu Vv Vw Vx Vy Ox Vz VA VB VC VD Oz VE VF VG VH VI OA VJ VL OB OC OD Lp OE VM VN VO VP OF VQ VR OG OH OI Lq OJ VS VT VU VW OL VX VY VZ V0 V1 OM V2 V3 V4 V5 V6 ON V7 V8 V9 Wa Wb OO Wc We OP OQ OR Lr OS Wf OT OU OV Ls OW Wg Wh Wi Wj OX Wk Wl OY OZ O0 Lu O1 Wm O2 O3 O4 Lv O5:Value}{kG vB iS iX mS kM kO:Tok}{jK:Addr}{AJ:List DictEntry}{Gj:Nat}{dN:Addr}{sF:List Value}{D4:Nat}{D5:Option Addr}{D6:Array (Option Value)}{lR:Addr}{xN:List DictEntry}{D7:Nat}
  (a1:PySem.W.nsIn K mainGlobals "is_whole" =some (some (.ref f1))) (l1:K.lookup f1=some ⟨oc1,ZV,.func (PySem.W.fnOf "is_whole" "is_whole" (bu iQ) (aZ iQ) (aE iQ) .none kV1 dc1 pm1 ZW XR ct1),sl1⟩) (c1:PySem.W.codeIn K XR "is_whole" =true) (k1:PySem.W.keepIn K (.ref f1)=true)
  (a2:PySem.W.nsIn K mainGlobals "is_tuple" =some (some (.ref f2))) (l2:K.lookup f2=some ⟨oc2,ZX,.func (PySem.W.fnOf "is_tuple" "is_tuple" (bu iR) (aZ iR) (aE iR) .none kV2 dc2 pm2 ZY XS ct2),sl2⟩) (c2:PySem.W.codeIn K XS "is_tuple" =true) (k2:PySem.W.keepIn K (.ref f2)=true)
  (a3:PySem.W.nsIn K mainGlobals "is_name" =some (some (.ref f3))) (l3:K.lookup f3=some ⟨oc3,ZZ,.func (PySem.W.fnOf "is_name" "is_name" (bu jN) (aZ jN) (aE jN) .none kV3 dc3 pm3 Z0 XT ct3),sl3⟩) (c3:PySem.W.codeIn K XT "is_name" =true) (k3:PySem.W.keepIn K (.ref f3)=true)
  (a4:PySem.W.nsIn K mainGlobals "is_test_among" =some (some (.ref f4))) (l4:K.lookup f4=some ⟨oc4,Z1,.func (PySem.W.fnOf "is_test_among" "is_test_among" (bu dH) (aZ dH) (aE dH) .none kV4 dc4 pm4 Z2 XU ct4),sl4⟩) (c4:PySem.W.codeIn K XU "is_test_among" =true) (k4:PySem.W.keepIn K (.ref f4)=true)
  (a5:PySem.W.nsIn K mainGlobals "parts_of" =some (some (.ref f5))) (l5:K.lookup f5=some ⟨oc5,Z3,.func (PySem.W.fnOf "parts_of" "parts_of" (bu iW) (aZ iW) (aE iW) .none kV5 dc5 pm5 Z4 XW ct5),sl5⟩) (c5:PySem.W.codeIn K XW "parts_of" =true) (k5:PySem.W.keepIn K (.ref f5)=true)
  (a6:PySem.W.nsIn K mainGlobals "bound_within" =some (some (.ref f6))) (l6:K.lookup f6=some ⟨oc6,Z5,.func (PySem.W.fnOf "bound_within" "bound_within" (bu eG) (aZ eG) (aE eG) .none kV6 dc6 pm6 Z6 XX ct6),sl6⟩) (c6:PySem.W.codeIn K XX "bound_within" =true) (k6:PySem.W.keepIn K (.ref f6)=true)
  (a7:PySem.W.nsIn K mainGlobals "is_shaped" =some (some (.ref f7))) (l7:K.lookup f7=some ⟨oc7,Z7,.func (PySem.W.fnOf "is_shaped" "is_shaped" (bu gT) (aZ gT) (aE gT) .none kV7 dc7 pm7 Z8 XY ct7),sl7⟩) (c7:PySem.W.codeIn K XY "is_shaped" =true) (k7:PySem.W.keepIn K (.ref f7)=true)
  (a8:PySem.W.nsIn K mainGlobals "is_formed" =some (some (.ref f8))) (l8:K.lookup f8=some ⟨oc8,Z9,.func (PySem.W.fnOf "is_formed" "is_formed" (bu dO) (aZ dO) (aE dO) .none XZ X0 X3 XO Vo X4),sl8⟩) (c8:PySem.W.codeIn K Vo "is_formed" =true) (k8:PySem.W.keepIn K (.ref f8)=true)
  (a9:PySem.W.nsIn K mainGlobals "all_in" =some (some (.ref f9))) (l9:K.lookup f9=some ⟨oc9,od9,.func (PySem.W.fnOf "all_in" "all_in" (bu iA) (aZ iA) (aE iA) .none X5 X6 X7 XQ Vp X8),sl9⟩) (c9:PySem.W.codeIn K Vp "all_in" =true) (k9:PySem.W.keepIn K (.ref f9)=true)
  (a10:PySem.W.nsIn K mainGlobals "binders_in" =some (some (.ref Uv))) (Wn:K.lookup Uv=some ⟨Vq,UG,.func (PySem.W.fnOf "binders_in" "binders_in" (bu fZ) (aZ fZ) (aE fZ) .none Vr Vs Vt UH Ow Vu),U8⟩) (Wo:PySem.W.codeIn K Ow "binders_in" =true) (Qz:PySem.W.keepIn K (.ref Uv)=true)
  (a11:PySem.W.nsIn K mainGlobals "is_saying" =some (some (.ref f11))) (Wq:K.lookup f11=some ⟨Vv,UI,.func (PySem.W.fnOf "is_saying" "is_saying" (bu gU) (aZ gU) (aE gU) .none Vw Vx Vy UJ Ox Vz),U9⟩) (Wr:PySem.W.codeIn K Ox "is_saying" =true) (QA:PySem.W.keepIn K (.ref f11)=true)
  (a12:PySem.W.nsIn K mainGlobals "size" =some (some (.ref Uw))) (Ws:K.lookup Uw=some ⟨VA,UK,.func (PySem.W.fnOf "size" "size" (bu su) (aZ su) (aE su) .none VB VC VD UL Oz VE),Va⟩) (c12:PySem.W.codeIn K Oz "size" =true) (Kd:PySem.W.keepIn K (.ref Uw)=true)
  (a13:PySem.W.nsIn K mainGlobals "has_variable" =some (some (.ref Ux))) (Wt:K.lookup Ux=some ⟨VF,UM,.func (PySem.W.fnOf "has_variable" "has_variable" (bu eO) (aZ eO) (aE eO) .none VG VH VI UN OA VJ),Vb⟩) (Wu:PySem.W.codeIn K OA "has_variable" =true) (O6:PySem.W.keepIn K (.ref Ux)=true)
  (a14:PySem.W.nsIn K mainGlobals "unbound_in" =some (some (.ref Qu))) (Wv:K.lookup Qu=some ⟨VL,UO,.func (PySem.W.fnOf "unbound_in" "unbound_in" (bu cY) (aZ cY) (aE cY) .none OB OC OD Om Lp OE),Vc⟩) (Ww:PySem.W.codeIn K Lp "unbound_in" =true) (O7:PySem.W.keepIn K (.ref Qu)=true)
  (a15:PySem.W.nsIn K mainGlobals "open_in" =some (some (.ref Uy))) (Wx:K.lookup Uy=some ⟨VM,UP,.func (PySem.W.fnOf "open_in" "open_in" (bu jO) (aZ jO) (aE jO) .none VN VO VP UQ OF VQ),Vd⟩) (Wy:PySem.W.codeIn K OF "open_in" =true) (QB:PySem.W.keepIn K (.ref Uy)=true)
  (a16:PySem.W.nsIn K mainGlobals "put_for" =some (some (.ref Qv))) (Wz:K.lookup Qv=some ⟨VR,UR,.func (PySem.W.fnOf "put_for" "put_for" (bu gf) (aZ gf) (aE gf) .none OG OH OI Oo Lq OJ),Ve⟩) (WA:PySem.W.codeIn K Lq "put_for" =true) (O8:PySem.W.keepIn K (.ref Qv)=true)
  (a17:PySem.W.nsIn K mainGlobals "_law_tape" =some (some (.ref Uz))) (WB:K.lookup Uz=some ⟨VS,US,.func (PySem.W.fnOf "_law_tape" "_law_tape" (bu gW) (aZ gW) (aE gW) .none VT VU VW UT OL VX),Vf⟩) (WC:PySem.W.codeIn K OL "_law_tape" =true) (QC:PySem.W.keepIn K (.ref Uz)=true)
  (a18:PySem.W.nsIn K mainGlobals "_law_pick" =some (some (.ref UA))) (WD:K.lookup UA=some ⟨VY,UU,.func (PySem.W.fnOf "_law_pick" "_law_pick" (bu gX) (aZ gX) (aE gX) .none VZ V0 V1 UW OM V2),Vg⟩) (WE:PySem.W.codeIn K OM "_law_pick" =true) (Lw:PySem.W.keepIn K (.ref UA)=true)
  (a19:PySem.W.nsIn K mainGlobals "_law_names" =some (some (.ref UB))) (WG:K.lookup UB=some ⟨V3,UX,.func (PySem.W.fnOf "_law_names" "_law_names" (bu gg) (aZ gg) (aE gg) .none V4 V5 V6 UY ON V7),Vh⟩) (WH:PySem.W.codeIn K ON "_law_names" =true) (QD:PySem.W.keepIn K (.ref UB)=true)
  (a20:PySem.W.nsIn K mainGlobals "_law_test" =some (some (.ref UC))) (WI:K.lookup UC=some ⟨V8,UZ,.func (PySem.W.fnOf "_law_test" "_law_test" (bu gY) (aZ gY) (aE gY) .none V9 Wa Wb U0 OO Wc),Vi⟩) (WJ:PySem.W.codeIn K OO "_law_test" =true) (QE:PySem.W.keepIn K (.ref UC)=true)
  (a21:PySem.W.nsIn K mainGlobals "_law_inner" =some (some (.ref Qw))) (WK:K.lookup Qw=some ⟨We,U1,.func (PySem.W.fnOf "_law_inner" "_law_inner" (bu cZ) (aZ cZ) (aE cZ) .none OP OQ OR Oq Lr OS),Vj⟩) (WL:PySem.W.codeIn K Lr "_law_inner" =true) (QF:PySem.W.keepIn K (.ref Qw)=true)
  (a22:PySem.W.nsIn K mainGlobals "_law_saying" =some (some (.ref Qx))) (WM:K.lookup Qx=some ⟨Wf,U3,.func (PySem.W.fnOf "_law_saying" "_law_saying" (bu cQ) (aZ cQ) (aE cQ) .none OT OU OV Ot Ls OW),Vk⟩) (WN:PySem.W.codeIn K Ls "_law_saying" =true) (Ma:PySem.W.keepIn K (.ref Qx)=true)
  (a23:PySem.W.nsIn K mainGlobals "_law_shape" =some (some (.ref UD))) (WO:K.lookup UD=some ⟨Wg,U4,.func (PySem.W.fnOf "_law_shape" "_law_shape" (bu gj) (aZ gj) (aE gj) .none Wh Wi Wj U5 OX Wk),Vl⟩) (WQ:PySem.W.codeIn K OX "_law_shape" =true) (QG:PySem.W.keepIn K (.ref UD)=true)
  (a24:PySem.W.nsIn K mainGlobals "_law_put" =some (some (.ref Qy))) (WR:K.lookup Qy=some ⟨Wl,U6,.func (PySem.W.fnOf "_law_put" "_law_put" (bu fu) (aZ fu) (aE fu) .none OY OZ O0 Ou Lu O1),Vm⟩) (WS:PySem.W.codeIn K Lu "_law_put" =true) (O9:PySem.W.keepIn K (.ref Qy)=true)
  (a25:PySem.W.nsIn K mainGlobals "law" =some (some (.ref UE))) (WT:K.lookup UE=some ⟨Wm,U7,.func (PySem.W.fnOf "law" "law" (bu qH) (aZ qH) (aE qH) .none O2 O3 O4 Ov Lv O5),Vn⟩) (WU:PySem.W.codeIn K Lv "law" =true) (WV:PySem.W.keepIn K (.ref UE)=true)
  (kX:PySem.W.nsIn K mainGlobals "LONGEST_NAME" =some (some (.int 8 kG)))
  (vP:PySem.W.nsIn K mainGlobals "LETTERS" =some (some (.str "abcdefghijklmnopqrstuvwxyz" vB)))
  (jc:PySem.W.nsIn K mainGlobals "GREATEST_NUMBER" =some (some (.int 9 iS)))
  (yY:PySem.W.nsIn K mainGlobals "STARTS" =some (some (.ref jK))) (yZ:K.lookup jK=some ⟨.type "dict",none,.dict AJ.toArray Gj,#[]⟩) (za:(jK == sysModules)=false) (zb:qX w [("yes",1),("no",1),("now",2),("not",1),("both",1),("either",1),("next",1),("till",1),("within",2),("always",1),("some",1),("each",3),("one",3)] AJ)
  (vQ:PySem.W.nsIn K mainGlobals "BINDERS" =some (some (.ref dN))) (vR:K.lookup dN=some ⟨.type "tuple",D5,.seq sF.toArray D4,D6⟩) (vU:sF.length≤1000) (vV:yy ["each","one"] sF)
  (vW:PySem.W.nsIn K mainGlobals "LENGTHS" =some (some (.ref lR))) (vX:K.lookup lR=some ⟨.type "dict",none,.dict xN.toArray D7,#[]⟩) (vY:(lR == sysModules)=false) (vZ:qX w [("yes",1),("no",1),("now",2),("not",2),("both",3),("either",3),("next",2),("till",3),("within",3),("always",2),("some",2),("each",4),("one",4)] xN)
  (jd:PySem.W.nsIn K mainGlobals "GREATEST_WITHIN" =some (some (.int 5 iX)))
  (mV:PySem.W.nsIn K mainGlobals "MOST_WITHIN" =some (some (.int 8 mS)))
  (kY:PySem.W.nsIn K mainGlobals "MOST_SAYINGS" =some (some (.int 16 kM)))
  (kZ:PySem.W.nsIn K mainGlobals "MOST_BINDERS" =some (some (.int 3 kO)))
  (nY:PySem.W.nsIn K mainGlobals "isinstance" =some none) (Lx:PySem.W.nsIn K mainGlobals "int" =some none) (Gk:PySem.W.nsIn K mainGlobals "bool" =some none) (BY:PySem.W.nsIn K mainGlobals "tuple" =some none) (Ly:PySem.W.nsIn K mainGlobals "len" =some none) (Lz:PySem.W.nsIn K mainGlobals "str" =some none) (LA:PySem.W.nsIn K mainGlobals "all" =some none) (zc:PySem.W.nsIn K mainGlobals "sorted" =some none) (LB:PySem.W.nsIn K mainGlobals "set" =some none) (LC:PySem.W.nsIn K mainGlobals "max" =some none) (Gm:PySem.W.nsIn K mainGlobals "list" =some none) (BZ:PySem.W.nsIn K mainGlobals "range" =some none) (Gn:PySem.W.nsIn K mainGlobals "repr" =some none):
  ∃fd:FuncData,(∀(s:Shared) (v:Value),BindsTo s fd ⟨[v],[]⟩ [("_law_script",v)])∧∀base:Heap,K.In base→base.Ns mainGlobals mg→br l.prog w K mg base dW 20 fa fd ["_law_script"] (spT K 1 (Bm 63)):=by
 have e:=Na.symm.trans (PySem.W.mg_of X G a25)
 cases e
 have F1:=cS (st:=iQ) l1 c1 k1
 have b1:=F1.binds (ps:=["thing","least","most"]) fun _ _ _ _ _ _ us hl=>match us,hl with | [_,_,_],_=>rfl
 have n1:=PySem.W.mg_of X G a1
 have F2:=cS (st:=iR) l2 c2 k2
 have b2:=F2.binds (ps:=["thing","least","most"]) fun _ _ _ _ _ _ us hl=>match us,hl with | [_,_,_],_=>rfl
 have n2:=PySem.W.mg_of X G a2
 have F3:=cS (st:=jN) l3 c3 k3
 have b3:=F3.binds (ps:=["thing"]) fun _ _ _ _ _ _ us hl=>match us,hl with | [_],_=>rfl
 have n3:=PySem.W.mg_of X G a3
 have F4:=cS (st:=dH) l4 c4 k4
 have b4:=F4.binds (ps:=["thing","bound"]) fun _ _ _ _ _ _ us hl=>match us,hl with | [_,_],_=>rfl
 have n4:=PySem.W.mg_of X G a4
 have F5:=cS (st:=iW) l5 c5 k5
 have b5:=F5.binds (ps:=["saying"]) fun _ _ _ _ _ _ us hl=>match us,hl with | [_],_=>rfl
 have n5:=PySem.W.mg_of X G a5
 have F6:=cS (st:=eG) l6 c6 k6
 have b6:=F6.binds (ps:=["saying","bound"]) fun _ _ _ _ _ _ us hl=>match us,hl with | [_,_],_=>rfl
 have n6:=PySem.W.mg_of X G a6
 have F7:=cS (st:=gT) l7 c7 k7
 have b7:=F7.binds (ps:=["thing","bound"]) fun _ _ _ _ _ _ us hl=>match us,hl with | [_,_],_=>rfl
 have n7:=PySem.W.mg_of X G a7
 have F8:=cS (st:=dO) l8 c8 k8
 have b8:=F8.binds (ps:=["thing","bound","room"]) fun _ _ _ _ _ _ us hl=>match us,hl with | [_,_,_],_=>rfl
 have n8:=PySem.W.mg_of X G a8
 have F9:=cS (st:=iA) l9 c9 k9
 have b9:=F9.binds (ps:=["saying"]) fun _ _ _ _ _ _ us hl=>match us,hl with | [_],_=>rfl
 have n9:=PySem.W.mg_of X G a9
 have Yb:=cS (st:=fZ) Wn Wo Qz
 have b10:=Yb.binds (ps:=["saying"]) fun _ _ _ _ _ _ us hl=>match us,hl with | [_],_=>rfl
 have n10:=PySem.W.mg_of X G a10
 have Yc:=cS (st:=gU) Wq Wr QA
 have b11:=Yc.binds (ps:=["thing"]) fun _ _ _ _ _ _ us hl=>match us,hl with | [_],_=>rfl
 have n11:=PySem.W.mg_of X G a11
 have Yd:=cS (st:=su) Ws c12 Kd
 have b12:=Yd.binds (ps:=["saying"]) fun _ _ _ _ _ _ us hl=>match us,hl with | [_],_=>rfl
 have n12:=PySem.W.mg_of X G a12
 have Ye:=cS (st:=eO) Wt Wu O6
 have Yg:=Ye.binds (ps:=["test"]) fun _ _ _ _ _ _ us hl=>match us,hl with | [_],_=>rfl
 have Yh:=PySem.W.mg_of X G a13
 have Yi:=cS (st:=cY) Wv Ww O7
 have Yj:=Yi.binds (ps:=["saying","bound"]) fun _ _ _ _ _ _ us hl=>match us,hl with | [_,_],_=>rfl
 have Yk:=PySem.W.mg_of X G a14
 have Yl:=cS (st:=jO) Wx Wy QB
 have b15:=Yl.binds (ps:=["saying"]) fun _ _ _ _ _ _ us hl=>match us,hl with | [_],_=>rfl
 have n15:=PySem.W.mg_of X G a15
 have Ym:=cS (st:=gf) Wz WA O8
 have Yn:=Ym.binds (ps:=["saying","x","k"]) fun _ _ _ _ _ _ us hl=>match us,hl with | [_,_,_],_=>rfl
 have Yo:=PySem.W.mg_of X G a16
 have Yp:=cS (st:=gW) WB WC QC
 have b17:=Yp.binds (ps:=["_law_script","_law_at"]) fun _ _ _ _ _ _ us hl=>match us,hl with | [_,_],_=>rfl
 have n17:=PySem.W.mg_of X G a17
 have Yq:=cS (st:=gX) WD WE Lw
 have QH:=Yq.binds (ps:=["_law_tape_here","_law_many"]) fun _ _ _ _ _ _ us hl=>match us,hl with | [_,_],_=>rfl
 have QI:=PySem.W.mg_of X G a18
 have Yr:=cS (st:=gg) WG WH QD
 have b19:=Yr.binds (ps:=[]) fun _ _ _ _ _ _ us hl=>match us,hl with | [],_=>rfl
 have n19:=PySem.W.mg_of X G a19
 have Ys:=cS (st:=gY) WI WJ QE
 have b20:=Ys.binds (ps:=["_law_tape_here","_law_names_here","_law_variables"]) fun _ _ _ _ _ _ us hl=>match us,hl with | [_,_,_],_=>rfl
 have n20:=PySem.W.mg_of X G a20
 have Yt:=cS (st:=cZ) WK WL QF
 have b21:=Yt.binds (ps:=["_law_tape_here","_law_world","_law_variables","_law_room","_law_deep"]) fun _ _ _ _ _ _ us hl=>match us,hl with | [_,_,_,_,_],_=>rfl
 have n21:=PySem.W.mg_of X G a21
 have Yu:=cS (st:=cQ) WM WN Ma
 have WW:=Yu.binds (ps:=["_law_tape_here","_law_world","_law_variables","_law_room","_law_deep"]) fun _ _ _ _ _ _ us hl=>match us,hl with | [_,_,_,_,_],_=>rfl
 have WX:=PySem.W.mg_of X G a22
 have Yv:=cS (st:=gj) WO WQ QG
 have b23:=Yv.binds (ps:=["_law_head"]) fun _ _ _ _ _ _ us hl=>match us,hl with | [_],_=>rfl
 have n23:=PySem.W.mg_of X G a23
 have Yw:=cS (st:=fu) WR WS O9
 have Yx:=Yw.binds (ps:=["_law_saying_here","_law_x","_law_k"]) fun _ _ _ _ _ _ us hl=>match us,hl with | [_,_,_],_=>rfl
 have Yy:=PySem.W.mg_of X G a24
 have F25:=cS (st:=qH) WT WU WV
 have bz:=PySem.W.mg_none_of X G nY
 have Ll:=PySem.W.mg_none_of X G Lx
 have Gd:=PySem.W.mg_none_of X G Gk
 have mR:=PySem.W.mg_none_of X G BY
 have fH:=PySem.W.mg_none_of X G Ly
 have uc:=PySem.W.mg_none_of X G Lz
 have D0:=PySem.W.mg_none_of X G LA
 have yU:=PySem.W.mg_none_of X G zc
 have Lm:=PySem.W.mg_none_of X G LB
 have Ln:=PySem.W.mg_none_of X G LC
 have xM:=PySem.W.mg_none_of X G Gm
 have BO:=PySem.W.mg_none_of X G BZ
 have tF:=PySem.W.mg_none_of X G Gn
 have kH:=PySem.W.mg_of X G kX
 have vC:=PySem.W.mg_of X G vP
 have iT:=PySem.W.mg_of X G jc
 have oB:=PySem.W.mg_of X G yY
 have oE:=Cu (P:=l.prog) yZ za zb
 have fJ:=PySem.W.mg_of X G vQ
 have fK:=HA vR vU vV
 have vD:=PySem.W.mg_of X G vW
 have vE:=Cu (P:=l.prog) vX vY vZ
 have iY:=PySem.W.mg_of X G jd
 have mT:=PySem.W.mg_of X G mV
 have kN:=PySem.W.mg_of X G kY
 have kP:=PySem.W.mg_of X G kZ
 refine⟨PySem.W.fnOf "law" "law" (bu qH) (aZ qH) (aE qH) .none O2 O3 O4 Ov Lv O5,fun s v=>.of_eq rfl,fun base _ _=>?_⟩
 have xO:=Aj (P:=l.prog) (w:=w) (K:=K) (mg:=mg) (base:=base) (n:=0) F1 bz Ll Gd (fm:=nD) whole_run
 have xP:=Al (P:=l.prog) (w:=w) (K:=K) (mg:=mg) (base:=base) (n:=0) F2 bz mR fH (fm:=nF) Dv
 have AK:=BA (P:=l.prog) (w:=w) (K:=K) (mg:=mg) (base:=base) (n:=0) F3 bz uc fH D0 kH vC (fm:=sW) Fv
 have oF:=An (P:=l.prog) (w:=w) (K:=K) (mg:=mg) (base:=base) (n:=0) F5 oB oE (fm:=gH) DB
 have oY:=ue (P:=l.prog) (w:=w) (K:=K) (mg:=mg) (base:=base) (n:=0) F6 fJ fK (fm:=jX) DC
 have oZ:=ug (P:=l.prog) (w:=w) (K:=K) (mg:=mg) (base:=base) (n:=0) Ye fH bz uc (fm:=AW) Li
 have B0:=yV (P:=l.prog) (w:=w) (K:=K) (mg:=mg) (base:=base) (n:=0) Yp fH Ln (fm:=sU) Fl
 have mW:=yW (P:=l.prog) (w:=w) (K:=K) (mg:=mg) (base:=base) (n:=0) Yq (fm:=jm) pick_run
 have AL:=wK (P:=l.prog) (w:=w) (K:=K) (mg:=mg) (base:=base) (n:=0) Yr (fm:=pG) Dw
 have AM:=wM (P:=l.prog) (w:=w) (K:=K) (mg:=mg) (base:=base) (n:=0) Yv (fm:=iP) DL
 have v5:=rR (P:=l.prog) (w:=w) (K:=K) (mg:=mg) (base:=base) (n:=1) F4 fH iT (xP.mono (by omega)) b2 k2 n2 (AK.mono (by omega)) b3 k3 n3 (xO.mono (by omega)) b1 k1 n1 (fm:=lI) Fx
 have B3:=yX (P:=l.prog) (w:=w) (K:=K) (mg:=mg) (base:=base) (n:=1) Ys fH (mW.mono (by omega)) QH Lw QI (fm:=j4) DN
 have B4:=yQ (P:=l.prog) (w:=w) (K:=K) (mg:=mg) (base:=base) (n:=2) F7 bz uc fH vD vE iY fJ fK (xP.mono (by omega)) b2 k2 n2 (v5.mono (by omega)) b4 k4 n4 (xO.mono (by omega)) b1 k1 n1 (AK.mono (by omega)) b3 k3 n3 (fm:=dD) Bp
 have Iv:∀j:Nat,br l.prog w K mg base dW (j+1) f9 (PySem.W.fnOf "all_in" "all_in" (bu iA) (aZ iA) (aE iA) .none X5 X6 X7 XQ Vp X8) ["saying"] (spT K 1 (u9 j)):=by
  intro j
  induction j with
  | zero=>exact pH DZ
  | succ j ih=>exact(D3 (P:=l.prog) (w:=w) (K:=K) (mg:=mg) (base:=base) (n:=j+1) F9 (oF.mono (by omega)) b5 k5 n5 ih b9 k9 n9 (HM j)).mono (by omega)
 have CK:=Iv 9
 have AN:∀j:Nat,br l.prog w K mg base dW (j+1) Qu (PySem.W.fnOf "unbound_in" "unbound_in" (bu cY) (aZ cY) (aE cY) .none OB OC OD Om Lp OE) ["saying","bound"] (spT K 2 (Ae j)):=by
  intro j
  induction j with
  | zero=>exact pH DV
  | succ j ih=>exact(wI (P:=l.prog) (w:=w) (K:=K) (mg:=mg) (base:=base) (n:=j+1) Yi (oZ.mono (by omega)) Yg O6 Yh (oF.mono (by omega)) b5 k5 n5 ih Yj O7 Yk (oY.mono (by omega)) b6 k6 n6 (Ic j)).mono (by omega)
 have AO:=AN 9
 have Gp:∀j:Nat,br l.prog w K mg base dW (j+1) Qv (PySem.W.fnOf "put_for" "put_for" (bu gf) (aZ gf) (aE gf) .none OG OH OI Oo Lq OJ) ["saying","x","k"] (spT K 3 (pU j)):=by
  intro j
  induction j with
  | zero=>exact pH DW
  | succ j ih=>exact(BI (P:=l.prog) (w:=w) (K:=K) (mg:=mg) (base:=base) (n:=j+1) Ym mR fJ fK oB oE (oZ.mono (by omega)) Yg O6 Yh (oF.mono (by omega)) b5 k5 n5 ih Yn O8 Yo (Ii j)).mono (by omega)
 have Gq:=Gp 9
 have D8:∀j:Nat,br l.prog w K mg base dW (j+1) Qy (PySem.W.fnOf "_law_put" "_law_put" (bu fu) (aZ fu) (aE fu) .none OY OZ O0 Ou Lu O1) ["_law_saying_here","_law_x","_law_k"] (spT K 3 (qq j)):=by
  intro j
  induction j with
  | zero=>exact pH Bw
  | succ j ih=>exact(Ay (P:=l.prog) (w:=w) (K:=K) (mg:=mg) (base:=base) (n:=j+1) Yw bz uc xM mR (AM.mono (by omega)) b23 QG n23 ih Yx O9 Yy (FZ j)).mono (by omega)
 have D9:=D8 9
 have AQ:=wH (P:=l.prog) (w:=w) (K:=K) (mg:=mg) (base:=base) (n:=10) Yb fH fJ fK (CK.mono (by omega)) b9 k9 n9 (fm:=xF) FE
 have Pa:=Iu (P:=l.prog) (w:=w) (K:=K) (mg:=mg) (base:=base) (n:=10) Yd fH (CK.mono (by omega)) b9 k9 n9 (fm:=xE) FD
 have Gr:=BG (P:=l.prog) (w:=w) (K:=K) (mg:=mg) (base:=base) (n:=10) Yl yU Lm (AO.mono (by omega)) Yj O7 Yk (fm:=vA) FW
 have B5:∀j:Nat,br l.prog w K mg base dW (j+3) f8 (PySem.W.fnOf "is_formed" "is_formed" (bu dO) (aZ dO) (aE dO) .none XZ X0 X3 XO Vo X4) ["thing","bound","room"] (spT K 3 (nI j)):=by
  intro j
  induction j with
  | zero=>exact pH Bx
  | succ j ih=>exact(yR (P:=l.prog) (w:=w) (K:=K) (mg:=mg) (base:=base) (n:=j+3) F8 D0 (B4.mono (by omega)) b7 k7 n7 (oY.mono (by omega)) b6 k6 n6 (oF.mono (by omega)) b5 k5 n5 ih b8 k8 n8 (Fz j)).mono (by omega)
 have B6:=B5 9
 have B7:=yT (P:=l.prog) (w:=w) (K:=K) (mg:=mg) (base:=base) (n:=12) Yc mT kN kP (B6.mono (by omega)) b8 k8 n8 (Pa.mono (by omega)) b12 Kd n12 (AQ.mono (by omega)) b10 Qz n10 (fm:=j3) DK
 have qI:∀j:Nat,br l.prog w K mg base dW (j+2) Qx (PySem.W.fnOf "_law_saying" "_law_saying" (bu cQ) (aZ cQ) (aE cQ) .none OT OU OV Ot Ls OW) ["_law_tape_here","_law_world","_law_variables","_law_room","_law_deep"] (spT K 5 (vf j))∧br l.prog w K mg base dW (j+2) Qw (PySem.W.fnOf "_law_inner" "_law_inner" (bu cZ) (aZ cZ) (aE cZ) .none OP OQ OR Oq Lr OS) ["_law_tape_here","_law_world","_law_variables","_law_room","_law_deep"] (spT K 5 (FJ j)):=by
  intro j
  induction j with
  | zero=>exact⟨pH DP,pH DQ⟩
  | succ j ih=>exact⟨(vK (P:=l.prog) (w:=w) (K:=K) (mg:=mg) (base:=base) (n:=j+2) Yu (mW.mono (by omega)) QH Lw QI (B3.mono (by omega)) b20 QE n20 ih.1 WW Ma WX ih.2 b21 QF n21 (HV j)).mono (by omega),(wL (P:=l.prog) (w:=w) (K:=K) (mg:=mg) (base:=base) (n:=j+2) Yt fH (mW.mono (by omega)) QH Lw QI ih.1 WW Ma WX (HW j)).mono (by omega)⟩
 have zd:=(qI 17).1
 have Jf:=(qI 17).2
 exact Lo (P:=l.prog) (w:=w) (K:=K) (mg:=mg) (base:=base) (n:=19) F25 fH BO tF xM (B0.mono (by omega)) b17 QC n17 (mW.mono (by omega)) QH Lw QI (AL.mono (by omega)) b19 QD n19 (zd.mono (by omega)) WW Ma WX (D9.mono (by omega)) Yx O9 Yy (Gq.mono (by omega)) Yn O8 Yo (Gr.mono (by omega)) b15 QB n15 (B7.mono (by omega)) b11 QA n11 DY
theorem walk {l:PySem.W.OpenLaw}{q:Program}{loose:List Str}{XP:(Str→Option Value)→Heap→Prop}{YP:World→Heap→Prop}{d:DefRec}{K:Params→PySem.W.Frag}(hn:l.most=some 63) (hdf:d.params.defaults=[])
  (hY:∀(w:World) (h:Heap),YP w h→(K w.params).In h)
  (F:∀(w:World) (mg:Str→Option Value) (fa:Addr) (h:Heap),(K w.params).In h→h.Ns mainGlobals mg→mg d.name=some (.ref fa)→
   ∃fd:FuncData,(∀(s:Shared) (u:Value),BindsTo s fd ⟨[u],[]⟩ [("_law_script",u)])∧∀base:Heap,(K w.params).In base→base.Ns mainGlobals mg→br l.prog w (K w.params) mg base dW 20 fa fd ["_law_script"] (spT (K w.params) 1 (Bm 63))):
  PySem.W.WalkO q loose XP YP l.row.toRowW d [] (fun f vs=>PySem.call f vs):=
 L2.G3 (n:=63) (k:=20) (x:="_law_script") (CX:=fun _=>dW) (sp:=fun w=>spT (K w.params) 1 (Bm 63)) hn (by decide) hdf ⟨rfl,by decide,by decide,rfl⟩ hY F (fun w H a ns hl hO hS=>K2 hl hO hS) fun _ _ _ _ _ z=>z
end K07
open PySem PySem.W PyProof.Rows
noncomputable def PySem.W.Fast.tw17765298303605974410:Nat→Stmt:=K07.top
theorem PySem.W.Fast.te17765298303605974410:K07.top=PySem.W.Fast.tw17765298303605974410:=rfl
def K07.sc:Scope:=PySem.Challenge.pw_surewatch_k07_put_for_variables.main.scope
noncomputable def PySem.W.Fast.tw2326447343948946366:Scope:=K07.sc
theorem PySem.W.Fast.te2326447343948946366:K07.sc=PySem.W.Fast.tw2326447343948946366:=rfl
def K07.pw:Program:={main:={body:=[K07.top 0,K07.top 1,K07.top 2,K07.top 3,K07.top 4,K07.top 5,K07.top 6,K07.top 7,K07.top 8,K07.top 9,K07.top 10,K07.top 11,K07.top 12,K07.top 13,K07.top 14,K07.top 15,K07.top 16,K07.top 17,K07.top 18,K07.top 19,K07.top 20,K07.top 21,K07.top 22,K07.top 23,K07.top 24,K07.top 25,K07.top 26,K07.top 27,K07.top 28,K07.top 29,K07.top 30,K07.top 31,K07.top 32,K07.top 33,K07.top 34,K07.top 35,K07.top 36,K07.top 37,K07.top 38],scope:=K07.sc,futureAnnotations:=false,file:="/claim/cut.py",more:=[]},modules:=[],parses:=[],absent:=[],harvested:=[],given:={argv:=[],stdin:=[],environ:=some [([76,67,95,65,76,76],[67,46,85,84,70,45,56])]}}
def K07.rw:OpenLaw:={prog:=K07.pw,name:=(PySem.Str.ofString "law"),about:=[(PySem.Str.ofString "put_for")],foot:=9,most:=some 63,bound:=none,writes:=false}
noncomputable def PySem.W.Fast.tw11910977179233625325:=0
noncomputable def PySem.W.Fast.tw2990558590583151161:=0
noncomputable def PySem.W.Fast.tw17076066084249690542:=0
noncomputable def PySem.W.Fast.tw7685659776006342553:=0
noncomputable def PySem.W.Fast.tw5099953001557117130:=0
noncomputable def PySem.W.Fast.tw4392219210546053251:=0
noncomputable def PySem.W.Fast.tw11810009586039125139:=0
noncomputable def PySem.W.Fast.tw14190509700588922840:=0
noncomputable def PySem.W.Fast.tw15932752400636698345:=0
noncomputable def PySem.W.Fast.tw12131927878215522653:=0
noncomputable def PySem.W.Fast.tw2986019753913963844:=0
noncomputable def PySem.W.Fast.tw993704147909713576:=0
noncomputable def PySem.W.Fast.tw17702138699047618928:=0
noncomputable def PySem.W.Fast.tw12125755344421847464:=0
noncomputable def PySem.W.Fast.tw16513623915846743818:=0
noncomputable def PySem.W.Fast.tw7888069026037539618:=0
noncomputable def PySem.W.Fast.tw9724454690521303999:=0
noncomputable def PySem.W.Fast.tw11646970733846513385:=0
noncomputable def PySem.W.Fast.tw6844142629843551343:=0
noncomputable def PySem.W.Fast.tw11037089317629507790:=0
noncomputable def PySem.W.Fast.tw459704746367804015:=0
noncomputable def PySem.W.Fast.tw7706219296878390599:=0
noncomputable def PySem.W.Fast.tw11459560062727932388:=0
noncomputable def PySem.W.Fast.tw14797338073818714399:=0
noncomputable def PySem.W.Fast.tw16500790819441220028:=0
noncomputable def PySem.W.Fast.tw5850797215224040134:=0
noncomputable def PySem.W.Fast.tw15013334710708036956:=0
noncomputable def PySem.W.Fast.tw18394992299335127639:=0
noncomputable def PySem.W.Fast.tw6373404165535260857:=0
noncomputable def PySem.W.Fast.tw11309099738827529172:=0
noncomputable def PySem.W.Fast.tw3489166821646856757:=0
noncomputable def PySem.W.Fast.tw5534529352630378348:=0
noncomputable def PySem.W.Fast.tw17337212355248794014:=0
noncomputable def PySem.W.Fast.tw9486429467207599065:=0
noncomputable def PySem.W.Fast.tw11287864123786986559:=0
noncomputable def PySem.W.Fast.tw3388631509435690834:=0
noncomputable def PySem.W.Fast.tw1122716741138471889:=0
noncomputable def PySem.W.Fast.tw14651018150264141938:=0
noncomputable def PySem.W.Fast.tw9642594668429047191:=0
noncomputable def PySem.W.Fast.tw1595950305549250698:=0
noncomputable def PySem.W.Fast.tw6462427003208782159:=0
noncomputable def PySem.W.Fast.tw1194138526818336225:=0
noncomputable def PySem.W.Fast.tw18018426561132127960:=0
noncomputable def PySem.W.Fast.tw17300046671654522629:=0
noncomputable def PySem.W.Fast.tw4029603862621434522:=0
set_option maxRecDepth 100000 in
set_option maxHeartbeats 0 in
theorem K07.holds:K07.rw.Holds:=by
 w_on;o_law;k_head;(case hw=>w_witness2)
 k_fill
 refine K07.walk (l:=K07.rw) rfl rfl (fun w h Y=>PySem.W.kIn_of Y) ?F
 case F=>
  intro w mg fa h KX G hmg
  refine' K07.all_mk KX G hmg ?a1 ?l1 ?c1 ?k1 ?a2 ?l2 ?c2 ?k2 ?a3 ?l3 ?c3 ?k3 ?a4 ?l4 ?c4 ?k4 ?a5 ?l5 ?c5 ?k5 ?a6 ?l6 ?c6 ?k6 ?a7 ?l7 ?c7 ?k7 ?a8 ?l8 ?c8 ?k8 ?a9 ?l9 ?c9 ?k9 ?a10 ?Wn ?Wo ?Qz ?a11 ?Wq ?Wr ?QA ?a12 ?Ws ?c12 ?Kd ?a13 ?Wt ?Wu ?O6 ?a14 ?Wv ?Ww ?O7 ?a15 ?Wx ?Wy ?QB ?a16 ?Wz ?WA ?O8 ?a17 ?WB ?WC ?QC ?a18 ?WD ?WE ?Lw ?a19 ?WG ?WH ?QD ?a20 ?WI ?WJ ?QE ?a21 ?WK ?WL ?QF ?a22 ?WM ?WN ?Ma ?a23 ?WO ?WQ ?QG ?a24 ?WR ?WS ?O9 ?a25 ?WT ?WU ?WV ?kX ?vP ?jc ?yY ?yZ ?za ?zb ?vQ ?vR ?vU ?vV ?vW ?vX ?vY ?vZ ?jd ?mV ?kY ?kZ ?nY ?Lx ?Gk ?BY ?Ly ?Lz ?LA ?zc ?LB ?LC ?Gm ?BZ ?Gn
  (case a1=>k_is);(case l1=>k_is);(case c1=>k_is);(case k1=>k_is)
  (case a2=>k_is);(case l2=>k_is);(case c2=>k_is);(case k2=>k_is)
  (case a3=>k_is);(case l3=>k_is);(case c3=>k_is);(case k3=>k_is)
  (case a4=>k_is);(case l4=>k_is);(case c4=>k_is);(case k4=>k_is)
  (case a5=>k_is);(case l5=>k_is);(case c5=>k_is);(case k5=>k_is)
  (case a6=>k_is);(case l6=>k_is);(case c6=>k_is);(case k6=>k_is)
  (case a7=>k_is);(case l7=>k_is);(case c7=>k_is);(case k7=>k_is)
  (case a8=>k_is);(case l8=>k_is);(case c8=>k_is);(case k8=>k_is)
  (case a9=>k_is);(case l9=>k_is);(case c9=>k_is);(case k9=>k_is)
  (case a10=>k_is);(case Wn=>k_is);(case Wo=>k_is);(case Qz=>k_is)
  (case a11=>k_is);(case Wq=>k_is);(case Wr=>k_is);(case QA=>k_is)
  (case a12=>k_is);(case Ws=>k_is);(case c12=>k_is);(case Kd=>k_is)
  (case a13=>k_is);(case Wt=>k_is);(case Wu=>k_is);(case O6=>k_is)
  (case a14=>k_is);(case Wv=>k_is);(case Ww=>k_is);(case O7=>k_is)
  (case a15=>k_is);(case Wx=>k_is);(case Wy=>k_is);(case QB=>k_is)
  (case a16=>k_is);(case Wz=>k_is);(case WA=>k_is);(case O8=>k_is)
  (case a17=>k_is);(case WB=>k_is);(case WC=>k_is);(case QC=>k_is)
  (case a18=>k_is);(case WD=>k_is);(case WE=>k_is);(case Lw=>k_is)
  (case a19=>k_is);(case WG=>k_is);(case WH=>k_is);(case QD=>k_is)
  (case a20=>k_is);(case WI=>k_is);(case WJ=>k_is);(case QE=>k_is)
  (case a21=>k_is);(case WK=>k_is);(case WL=>k_is);(case QF=>k_is)
  (case a22=>k_is);(case WM=>k_is);(case WN=>k_is);(case Ma=>k_is)
  (case a23=>k_is);(case WO=>k_is);(case WQ=>k_is);(case QG=>k_is)
  (case a24=>k_is);(case WR=>k_is);(case WS=>k_is);(case O9=>k_is)
  (case a25=>k_is);(case WT=>k_is);(case WU=>k_is);(case WV=>k_is)
  (case kX=>k_is)
  (case vP=>k_is)
  (case jc=>k_is)
  (case yY=>k_is)
  (case yZ=>k_is);(case za=>decide);(case zb=>exact⟨⟨rfl,⟨_,rfl⟩,_,rfl⟩,⟨⟨rfl,⟨_,rfl⟩,_,rfl⟩,⟨⟨rfl,⟨_,rfl⟩,_,rfl⟩,⟨⟨rfl,⟨_,rfl⟩,_,rfl⟩,⟨⟨rfl,⟨_,rfl⟩,_,rfl⟩,⟨⟨rfl,⟨_,rfl⟩,_,rfl⟩,⟨⟨rfl,⟨_,rfl⟩,_,rfl⟩,⟨⟨rfl,⟨_,rfl⟩,_,rfl⟩,⟨⟨rfl,⟨_,rfl⟩,_,rfl⟩,⟨⟨rfl,⟨_,rfl⟩,_,rfl⟩,⟨⟨rfl,⟨_,rfl⟩,_,rfl⟩,⟨⟨rfl,⟨_,rfl⟩,_,rfl⟩,⟨⟨rfl,⟨_,rfl⟩,_,rfl⟩,True.intro⟩⟩⟩⟩⟩⟩⟩⟩⟩⟩⟩⟩⟩)
  (case vQ=>k_is)
  (case vR=>k_is);(case vU=>decide);(case vV=>exact⟨⟨_,rfl⟩,⟨⟨_,rfl⟩,True.intro⟩⟩)
  (case vW=>k_is)
  (case vX=>k_is);(case vY=>decide);(case vZ=>exact⟨⟨rfl,⟨_,rfl⟩,_,rfl⟩,⟨⟨rfl,⟨_,rfl⟩,_,rfl⟩,⟨⟨rfl,⟨_,rfl⟩,_,rfl⟩,⟨⟨rfl,⟨_,rfl⟩,_,rfl⟩,⟨⟨rfl,⟨_,rfl⟩,_,rfl⟩,⟨⟨rfl,⟨_,rfl⟩,_,rfl⟩,⟨⟨rfl,⟨_,rfl⟩,_,rfl⟩,⟨⟨rfl,⟨_,rfl⟩,_,rfl⟩,⟨⟨rfl,⟨_,rfl⟩,_,rfl⟩,⟨⟨rfl,⟨_,rfl⟩,_,rfl⟩,⟨⟨rfl,⟨_,rfl⟩,_,rfl⟩,⟨⟨rfl,⟨_,rfl⟩,_,rfl⟩,⟨⟨rfl,⟨_,rfl⟩,_,rfl⟩,True.intro⟩⟩⟩⟩⟩⟩⟩⟩⟩⟩⟩⟩⟩)
  (case jd=>k_is)
  (case mV=>k_is)
  (case kY=>k_is)
  (case kZ=>k_is)
  (case nY=>k_is);(case Lx=>k_is);(case Gk=>k_is);(case BY=>k_is);(case Ly=>k_is);(case Lz=>k_is);(case LA=>k_is);(case zc=>k_is);(case LB=>k_is);(case LC=>k_is);(case Gm=>k_is);(case BZ=>k_is);(case Gn=>k_is)
theorem PySem.Challenge.cw_surewatch_k07_put_for_variables_holds : PySem.Challenge.rw_surewatch_k07_put_for_variables.Holds :=
 K07.holds
