import PyProof.Rows.All
import Wide.All
import OpenK.AllK
import Wide.FinOn
import PyProof.EqAt
import PyProof.EqKinds
import PyProof.TupleCall
import Lean
import PySem.Challenge.RW_surewatch_k19_what_is_a_stand
section
set_option Elab.async false
set_option linter.all false
set_option maxRecDepth 100000
namespace L2
open PySem PySem.Spec PyProof.Rows
noncomputable abbrev Key:=Sum Int Str
noncomputable def zj:Key→Value→Bool
 | .inl k,v=>Value.isInt k v
 | .inr x,v=>Value.isStrOf x v
noncomputable def We (w:World):Key→Int
 | .inl k=>hashInt k
 | .inr x=>hashStr w x
theorem fJ:∀{k:Key}{v:Value},zj k v=true→(∃i t,k=Sum.inl i∧v=Value.int i t)∨(∃x t,k=Sum.inr x∧v=Value.str x t)
 | .inl i,v,h=>by
  obtain⟨t,e⟩:=Value.isInt_shape (k:=i) (v:=v) h
  exact .inl ⟨i,t,rfl,e⟩
 | .inr x,v,h=>by
  obtain⟨t,e⟩:=Value.isStrOf_shape (x:=x) (v:=v) h
  exact .inr ⟨x,t,rfl,e⟩
theorem Fo (i:Int) (t:Tok):zj (.inl i) (.int i t)=true:=by simp[zj,Value.isInt]
theorem Fp (x:Str) (t:Tok):zj (.inr x) (.str x t)=true:=by simp[zj,Value.isStrOf]
theorem M5 (a b:Int):decide ((Sum.inl a:Key)=Sum.inl b)=(a == b):=by
 by_cases e:a=b
 ·subst e;simp
 ·have h:¬(Sum.inl a:Key)=Sum.inl b:=fun q=>e (Sum.inl.inj q)
  rw[decide_eq_false h]
  exact(beq_eq_false_iff_ne.mpr e).symm
theorem M6 (a b:Str):decide ((Sum.inr a:Key)=Sum.inr b)=decide (a=b):=by
 by_cases e:a=b
 ·subst e;simp
 ·have h:¬(Sum.inr a:Key)=Sum.inr b:=fun q=>e (Sum.inr.inj q)
  rw[decide_eq_false h,decide_eq_false e]
theorem M7 (a:Int) (b:Str):decide ((Sum.inl a:Key)=Sum.inr b)=false:=decide_eq_false (fun q=>nomatch q)
theorem M8 (a:Str) (b:Int):decide ((Sum.inr a:Key)=Sum.inl b)=false:=decide_eq_false (fun q=>nomatch q)
noncomputable def cZ (prog:Program) (w:World):PySem.KeyKind prog w Key where
  is:=zj
  hash:=We w
  inj := fun v a b ha hb => by
    rcases fJ ha with⟨i,t,rfl,rfl⟩ | ⟨x,t,rfl,rfl⟩
    · rcases fJ hb with⟨j,u,rfl,e⟩ | ⟨y,u,rfl,e⟩
      · injection e with e1 _;rw[e1]
      · exact nomatch e
    · rcases fJ hb with⟨j,u,rfl,e⟩ | ⟨y,u,rfl,e⟩
      · exact nomatch e
      · injection e with e1 _;rw[e1]
  byValue:=fun k v h=>by
    rcases fJ h with⟨i,t,rfl,rfl⟩ | ⟨x,t,rfl,rfl⟩ <;> rfl
  pyHash:=fun hv h=>by
    rcases fJ hv with⟨i,t,rfl,rfl⟩ | ⟨x,t,rfl,rfl⟩
    · exact wpAny_pyHash_int h
    · exact wpAny_pyHash_str h
  eqBool:=fun hu hv h=>by
    rcases fJ hu with⟨i,t,rfl,rfl⟩ | ⟨x,t,rfl,rfl⟩
    · rcases fJ hv with⟨j,u,rfl,rfl⟩ | ⟨y,u,rfl,rfl⟩
      · rw[M5] at h;exact wpAny_eqBool_int h
      · rw[M7] at h;exact SeqAt.EqAt.int_str i t y u _ _ _ _ h
    · rcases fJ hv with⟨j,u,rfl,rfl⟩ | ⟨y,u,rfl,rfl⟩
      · rw[M8] at h;exact SeqAt.EqAt.str_int x t j u _ _ _ _ h
      · rw[M6] at h;exact wpAny_eqBool_str h
  «strs»:=fun k x t v h=>by
    rcases fJ h with⟨i,u,rfl,e⟩ | ⟨y,u,rfl,e⟩
    · exact nomatch e
    · injection e with e1 _
      subst e1
      cases v <;> rfl
theorem Bu (prog:Program) (w:World) (i:Int) (t:Tok):(cZ prog w).is (.inl i) (.int i t)=true:=Fo i t
theorem pT (prog:Program) (w:World) (x:Str) (t:Tok):(cZ prog w).is (.inr x) (.str x t)=true:=Fp x t
end L2
namespace L2
open PySem PySem.Spec PyProof.Rows
inductive V where
 | cW | bl (b:Bool) | int (i:Int) | str (x:Str) | Wf (b:Array UInt8) | flt (b:UInt64) | ref (a:Addr) | ty (n:String)
 deriving DecidableEq
noncomputable def RelV:V→Value→Prop
 | .cW,u=>u=Value.none
 | .bl b,u=>u=Value.bool b
 | .int i,u=>∃t,u=Value.int i t
 | .str x,u=>∃t,u=Value.str x t
 | .Wf b,u=>∃t,u=Value.bytes b t
 | .flt b,u=>∃t,u=Value.float b t
 | .ref a,u=>u=Value.ref a
 | .ty n,u=>u=Value.type n
noncomputable abbrev Vals:List V→List Value→Prop:=Paired RelV
theorem Vals.length {xs:List V}{us:List Value}(r:Vals xs us):xs.length=us.length:=Paired.length r
theorem Vals.get:∀{xs:List V}{us:List Value}{i:Nat}{x:V},Vals xs us→xs[i]? =some x→∃u,us[i]? =some u∧RelV x u
 | _,_,_,_,.nil,e=>by simp at e
 | _,_,0,_,.cons r _,e=>by simp at e;subst e;exact⟨_,rfl,r⟩
 | _,_,i+1,x,.cons _ t,e=>by
  obtain⟨u,h1,h2⟩:=Vals.get (i:=i) (x:=x) t (by simpa using e)
  exact⟨u,by simpa using h1,h2⟩
theorem Vals.set {x:V}{u:Value}(r:RelV x u):∀{xs:List V}{us:List Value}(i:Nat),Vals xs us→Vals (xs.set i x) (us.set i u)
 | _,_,_,.nil=>.nil
 | _,_,0,.cons _ t=>.cons r t
 | _,_,i+1,.cons q t=>.cons q (Vals.set r i t)
theorem Vals.append:∀{xs ys:List V}{us ws:List Value},Vals xs us→Vals ys ws→Vals (xs++ys) (us++ws)
 | _,_,_,_,.nil,s=>s
 | _,_,_,_,.cons r t,s=>.cons r (Vals.append t s)
theorem Vals.take:∀{xs:List V}{us:List Value}(n:Nat),Vals xs us→Vals (xs.take n) (us.take n)
 | _,_,0,_=>.nil
 | _,_,_+1,.nil=>.nil
 | _,_,n+1,.cons r t=>.cons r (Vals.take n t)
theorem Vals.drop:∀{xs:List V}{us:List Value}(n:Nat),Vals xs us→Vals (xs.drop n) (us.drop n)
 | _,_,0,r=>r
 | _,_,_+1,.nil=>.nil
 | _,_,n+1,.cons _ t=>Vals.drop n t
noncomputable def vX:Option V→Option Value→Prop
 | some v,some u=>RelV v u
 | none,none=>True
 | _,_=>False
noncomputable def KV {κ:Type}:List (κ×V)→List (κ×Value)→Prop:=Paired fun(p:κ×V) (q:κ×Value)=>p.1=q.1∧RelV p.2 q.2
noncomputable def kV:Key→V
 | .inl i=>.int i
 | .inr x=>.str x
inductive HO where
 | lst (xs:List V)
 | tup (xs:List V)
 | dK (kvs:List (Key×V)) | dT (kvs:List (List Key×V))
 | set (S:Int→Bool) (n:Nat)
 | ins (C dx:Addr) (fs:List (Str×V))
 | own (x:Addr)
 | xd (fs:List (Str×V))
 | met (f x:Addr)
 | jZ (lo hi:Int)
 | kW (o:Obj) (u:HO)
 | M9 (ps:Array Value)
 | ext (φ:Heap→Prop)
noncomputable abbrev Hp:=Addr→Option HO
noncomputable def upd (H:Hp) (a:Addr) (o:HO):Hp:=fun b=>if b=a then some o else H b
theorem bJ {H:Hp}{a:Addr}{o:HO}:upd H a o a=some o:=by unfold upd;rw[if_pos rfl]
theorem bI {H:Hp}{a b:Addr}{o:HO}(h:b≠a):upd H a o b=H b:=by unfold upd;rw[if_neg h]
theorem Qt {H:Hp}{a b:Addr}{o u:HO}(h:H a=some o) (h':H b=some u) (d:o≠u):a≠b:=by
 intro e;subst e;rw[h] at h';exact d (Option.some.inj h')
theorem cP {H:Hp}{a b:Addr}{o:HO}(h:H a=some o) (h':H b=none):a≠b:=by
 intro e;subst e;rw[h] at h';cases h'
section
variable (P:Program) (w:World)
noncomputable def gR (H:Hp) (h:Heap) (a:Addr):HO→Prop
 | .lst xs=>xs.length≤sizeLine∧∃(its:List Value) (n:Nat),Vals xs its∧h.get? a=some {cls:=.type "list",data:=.seq its.toArray n}
 | .tup xs=>xs.length≤sizeLine∧∃its:List Value,Vals xs its∧IsTup h a its.toArray
 | .dK kvs=>kvs.length≤sizeLine∧(a == sysModules)=false∧∃vs,KV kvs vs∧h.DictOf (cZ P w) a vs
 | .dT kvs=>kvs.length≤sizeLine∧(a == sysModules)=false∧∃xs:List (List Key×Addr×Value),
   Paired (fun(p:List Key×V) (q:List Key×Addr×Value)=>p.1=q.1∧H q.2.1=some (.tup (p.1.map kV))∧RelV p.2 q.2.2) kvs xs∧
   ∃o es ep,h.get? a=some o∧o.ExactDict∧o.data= .dict es ep∧es.toList=xs.map (entryOfKey (tupleKind (cZ P w)))∧(xs.map (·.1)).Nodup
 | .set S n=>h.SetOf (intKind P w) a S n
 | .ins C dx fs=>H dx=some (.own a)∧fs.length≤1000∧dx≠a∧h.get? a=some (PySem.W.instObj C dx)∧
   ∃mA,h.Ns1 dx mA∧(∀f,vX (fs.lookup f) (mA f))∧PySem.Within mA (fs.map (·.1))
 | .own _=>∃o,h.get? a=some o
 | .xd fs=>∃mA,h.Ns1 a mA∧∀f,vX (fs.lookup f) (mA f)
 | .jZ lo hi=>∃t u v,h.get? a=some {cls:=.type "range",data:=.fields #[.int lo t,.int hi u,.int 1 v]}
 | .kW o u=>h.get? a=some o∧gR H h a u
 | .M9 ps=>h.get? a=some {cls:=.none,data:=.fields ps}
 | .met f x=>h.get? a=some (PySem.W.methodObj (.ref f) (.ref x))
 | .ext φ=>φ h∧(∃o,h.get? a=some o)∧∀h1 h2:Heap,φ h1→(∀o,h1.get? a=some o→h2.get? a=some o)→φ h2
noncomputable def rS (H:Hp) (h:Heap):Prop:=∀a o,H a=some o→gR P w H h a o
end
section
variable {P:Program}{w:World}{H H':Hp}{h h':Heap}{a:Addr}{o:HO}
theorem gR.lt (x:gR P w H h a o):a < h.objs.size:=by
 cases o with
 | lst xs=>obtain⟨_,_,_,_,e⟩:=x;exact Heap.lt_size e
 | tup xs=>obtain⟨_,_,_,p⟩:=x;exact p.lt
 | dK kvs=>obtain⟨_,_,_,_,o,_,_,e,_⟩:=x;exact Heap.lt_size e
 | dT kvs=>obtain⟨_,_,_,_,o,_,_,e,_⟩:=x;exact Heap.lt_size e
 | set S n=>obtain⟨o,_,_,_,e,_⟩:=x;exact Heap.lt_size e
 | ins C dx fs=>obtain⟨_,_,_,e,_⟩:=x;exact Heap.lt_size e
 | own y=>obtain⟨_,e⟩:=x;exact Heap.lt_size e
 | xd fs=>obtain⟨_,⟨_,_,_,e,_⟩,_⟩:=x;exact Heap.lt_size e
 | jZ lo hi=>obtain⟨_,_,_,e⟩:=x;exact Heap.lt_size e
 | kW ob u=>obtain⟨e,_⟩:=x;exact Heap.lt_size e
 | M9 ps=>exact Heap.lt_size (show h.get? a=some _ from x)
 | met f y=>exact Heap.lt_size (show h.get? a=some _ from x)
 | ext φ=>obtain⟨_,⟨_,e⟩,_⟩:=x;exact Heap.lt_size e
theorem Paired.Fq {α β:Type}{F G:α→β→Prop}:∀{l₁:List α}{l₂:List β},Paired F l₁ l₂→(∀a b,F a b→G a b)→Paired G l₁ l₂
 | _,_,.nil,_=>.nil
 | _,_,.cons r t,f=>.cons (f _ _ r) (Paired.Fq t f)
theorem gR.stay (x:gR P w H h a o) (k:∀b u,(b=a∨H b=some (.own a))→h.get? b=some u→h'.get? b=some u)
  (ho:∀b,H b=some (.own a)→H' b=some (.own a)) (ht:∀b xs,H b=some (.tup xs)→H' b=some (.tup xs)):gR P w H' h' a o:=by
 induction o with
 | lst xs=>obtain⟨z,its,n,r,e⟩:=x;exact⟨z,its,n,r,k _ _ (.inl rfl) e⟩
 | tup xs=>obtain⟨z,its,r,ob,e,c⟩:=x;exact⟨z,its,r,ob,k _ _ (.inl rfl) e,c⟩
 | dK kvs=>obtain⟨z,y,vs,r,ob,es,ep,e,c⟩:=x;exact⟨z,y,vs,r,ob,es,ep,k _ _ (.inl rfl) e,c⟩
 | dT kvs=>
  obtain⟨z,y,xs,r,ob,es,ep,e,c⟩:=x
  exact⟨z,y,xs,Paired.Fq r fun p q z=>⟨z.1,ht _ _ z.2.1,z.2.2⟩,ob,es,ep,k _ _ (.inl rfl) e,c⟩
 | set S n=>obtain⟨ob,es,ep,t,e,c⟩:=x;exact⟨ob,es,ep,t,k _ _ (.inl rfl) e,c⟩
 | ins C dx fs=>
  obtain⟨d,z,ne,e,mA,⟨od,es,ep,e2,c⟩,r⟩:=x
  exact⟨ho _ d,z,ne,k _ _ (.inl rfl) e,mA,⟨od,es,ep,k _ _ (.inr d) e2,c⟩,r⟩
 | own y=>obtain⟨ob,e⟩:=x;exact⟨ob,k _ _ (.inl rfl) e⟩
 | xd fs=>obtain⟨mA,⟨od,es,ep,e,c⟩,r⟩:=x;exact⟨mA,⟨od,es,ep,k _ _ (.inl rfl) e,c⟩,r⟩
 | jZ lo hi=>obtain⟨t,u,v,e⟩:=x;exact⟨t,u,v,k _ _ (.inl rfl) e⟩
 | kW ob u ih=>obtain⟨e,q⟩:=x;exact⟨k _ _ (.inl rfl) e,ih q⟩
 | M9 ps=>
  have e:h.get? a=some {cls:=.none,data:=.fields ps}:=x
  show h'.get? a=some {cls:=.none,data:=.fields ps}
  exact k a _ (.inl rfl) e
 | met f y=>
  have e:h.get? a=some (PySem.W.methodObj (.ref f) (.ref y)):=x
  show h'.get? a=some (PySem.W.methodObj (.ref f) (.ref y))
  exact k a _ (.inl rfl) e
 | ext φ=>obtain⟨p,⟨o,e⟩,st⟩:=x;exact⟨st _ _ p fun o q=>k _ _ (.inl rfl) q,⟨o,k _ _ (.inl rfl) e⟩,st⟩
theorem rS.lt (x:rS P w H h) (e:H a=some o):a < h.objs.size:=(x a o e).lt
theorem rS.fresh (x:rS P w H h) (e:h.objs.size≤a):H a=none:=by
 cases q:H a with
 | none=>rfl
 | some u=>exact absurd (Nat.lt_of_lt_of_le (x.lt q) e) (Nat.lt_irrefl _)
theorem rS.kept (x:rS P w H h) (k:∀b u,h.get? b=some u→h'.get? b=some u):rS P w H h':=fun a o e=>
 (x a o e).stay (fun b u _ q=>k b u q) (fun _ q=>q) fun _ _ q=>q
theorem rS.laid (x:rS P w H h) (k:∀b u,h.get? b=some u→h'.get? b=some u) (hp:h.objs.size≤a) (new:gR P w (upd H a o) h' a o):rS P w (upd H a o) h':=fun b u e=>by
 have hn:=x.fresh hp
 by_cases hb:b=a
 ·subst hb;rw[bJ] at e;cases e;exact new
 ·rw[bI hb] at e
  exact(x b u e).stay (fun c v _ q=>k c v q) (fun c q=>by rw[bI (cP q hn)];exact q) fun c xs q=>by rw[bI (cP q hn)];exact q
end
noncomputable def Rd (H:Hp) (a:Addr) (u:HO):Prop:=H a=some u∨∃o,H a=some (.kW o u)
theorem Rd.of {H:Hp}{a:Addr}{u:HO}(h:H a=some u):Rd H a u:=.inl h
theorem Rd.ok {P:Program}{w:World}{H:Hp}{h:Heap}{a:Addr}{u:HO}(r:Rd H a u) (x:rS P w H h):gR P w H h a u:=by
 rcases r with r | ⟨o,r⟩
 ·exact x a u r
 ·obtain⟨_,q⟩:=x a _ r
  exact q
noncomputable def Qu:Option HO→Prop
 | some (.lst _)=>True
 | some (.dK _)=>True
 | some (.dT _)=>True
 | some (.set _ _)=>True
 | some (.ins _ _ _)=>True
 | some (.ext _)=>True
 | _=>False
section
variable {P:Program}{w:World}{H:Hp}{h h':Heap}{x e:Addr}{o':HO}
theorem rS.write (ok : rS P w H h) (mu : Qu (H x)) (he : e = x ∨ H e = some (.own x)) (k : ∀ b u, b ≠ e → h.get? b = some u → h'.get? b = some u) (PK : ∃ u, h'.get? e = some u)
    (new:gR P w (upd H x o') h' x o'):rS P w (upd H x o') h':=fun b u q=>by
  have Qv:∀c y,H c=some (.own y)→c≠x:=fun c y r z=>by subst z;rw[r] at mu;exact mu
  have Wg:∀c xs,H c=some (.tup xs)→c≠x:=fun c xs r z=>by subst z;rw[r] at mu;exact mu
  by_cases hb:b=x
  · subst hb;rw[bJ] at q;cases q;exact new
  · rw[bI hb] at q
    by_cases Na:b=e
    · have q':H b=some (.own x):=by
        rcases he with z | z
        · exact absurd (Na.trans z) hb
        · rw[Na];exact z
      rw[q] at q';cases q'
      obtain⟨v,hv⟩:=PK
      exact⟨v,by rw[Na];exact hv⟩
    · refine(ok b u q).stay (fun c v hc r=>k c v ?_ r) (fun c r=>by rw[bI (Qv c b r)];exact r) fun c xs r=>by rw[bI (Wg c xs r)];exact r
      rcases hc with rfl | hc
      · exact Na
      · rintro rfl
        rcases he with z | z
        · exact Qv c b hc z
        · rw[hc] at z;cases z;exact hb rfl
end
structure Un (fs ex:List Addr) (H H':Hp) (h h':Heap):Prop where
 keep:∀b o,h.get? b=some o→H b=none→b∉fs→b∉ex→h'.get? b=some o
 slot:∀b o,h.get? b=some o→H b=none→b∈fs→b∉ex→∃sl,h'.get? b=some {o with slots:=sl}
 free:∀b o,h.get? b=some o→H b=none→b∉ex→H' b=none
 there:∀b o,h.get? b=some o→b∉ex→∃o',h'.get? b=some o'
 tups:∀b xs,H b=some (.tup xs)→H' b=some (.tup xs)
 tM:∀b o u,H b=some (.kW o u)→H' b=some (.kW o u)
 uO:∀b ps,H b=some (.M9 ps)→∃more,H' b=some (.M9 (ps++more))
section
variable {fs fs' ex ex':List Addr}{H H1 H2:Hp}{h h1 h2 h':Heap}{a x e:Addr}{o:HO}
theorem Un.any (u:Un fs ex H H1 h h1){b:Addr}{ob:Obj}(q:h.get? b=some ob) (n:H b=none) (hx:b∉ex):∃sl,h1.get? b=some {ob with slots:=sl}:=by
 by_cases hb:b∈fs
 ·exact u.slot b ob q n hb hx
 ·exact⟨ob.slots,u.keep b ob q n hb hx⟩
theorem Un.trans (a:Un fs ex H H1 h h1) (b:Un fs ex H1 H2 h1 h2):Un fs ex H H2 h h2 where
 keep:=fun c ob q n hc hx=>b.keep c ob (a.keep c ob q n hc hx) (a.free c ob q n hx) hc hx
 slot:=fun c ob q n hc hx=>by
  obtain⟨sl,e1⟩:=a.slot c ob q n hc hx
  obtain⟨Wh,e2⟩:=b.slot c _ e1 (a.free c ob q n hx) hc hx
  exact⟨Wh,e2⟩
 free:=fun c ob q n hx=>by
  obtain⟨o',e1⟩:=a.there c ob q hx
  exact b.free c o' e1 (a.free c ob q n hx) hx
 there:=fun c ob q hx=>by
  obtain⟨o',e1⟩:=a.there c ob q hx
  exact b.there c o' e1 hx
 tups:=fun c xs q=>b.tups c xs (a.tups c xs q)
 tM:=fun c ob xs q=>b.tM c ob xs (a.tM c ob xs q)
 uO:=fun c ps q=>by
  obtain⟨m1,e1⟩:=a.uO c ps q
  obtain⟨m2,e2⟩:=b.uO c _ e1
  exact⟨m1++m2,by rw[e2,Array.append_assoc]⟩
theorem Un.kept (k:∀b u,h.get? b=some u→h'.get? b=some u):Un fs ex H H h h':=
 ⟨fun b ob q _ _ _=>k b ob q,fun b ob q _ _ _=>⟨ob.slots,k b ob q⟩,fun _ _ _ n _=>n,fun b ob q _=>⟨ob,k b ob q⟩,fun _ _ q=>q,fun _ _ _ q=>q,fun _ ps q=>⟨#[],by rw[q];simp⟩⟩
theorem Un.refl:Un fs ex H H h h:=Un.kept fun _ _ q=>q
theorem Un.laid (k:∀b u,h.get? b=some u→h'.get? b=some u) (hp:h.objs.size≤a) (hn:H a=none):Un fs ex H (upd H a o) h h' where
 keep:=fun b u q _ _ _=>k b u q
 slot:=fun b u q _ _ _=>⟨u.slots,k b u q⟩
 free:=fun b u q n _=>by rw[bI (Nat.ne_of_lt (Nat.lt_of_lt_of_le (Heap.lt_size q) hp))];exact n
 there:=fun b u q _=>⟨u,k b u q⟩
 tups:=fun b xs q=>by rw[bI (cP q hn)];exact q
 tM:=fun b u xs q=>by rw[bI (cP q hn)];exact q
 uO:=fun b ps q=>⟨#[],by rw[bI (cP q hn),q];simp⟩
theorem Un.write (mu:Qu (H x)) (he:e=x∨H e=some (.own x)) (k:∀b u,b≠e→h.get? b=some u→h'.get? b=some u) (PK:∃u,h'.get? e=some u):Un fs ex H (upd H x o) h h':=by
 have hx:∀b,H b=none→b≠x:=fun b n z=>by subst z;rw[n] at mu;exact mu
 have hb:∀b,H b=none→b≠e:=fun b n z=>by
  subst z
  rcases he with r | r
  ·exact hx b n r
  ·rw[n] at r;cases r
 have hm:∀b u,H b=some u→¬Qu (some u)→b≠x:=fun b u q nm z=>by subst z;rw[q] at mu;exact nm mu
 refine⟨fun b u q n _ _=>k b u (hb b n) q,fun b u q n _ _=>⟨u.slots,k b u (hb b n) q⟩,fun b u q n _=>by rw[bI (hx b n)];exact n,fun b u q _=>?_,
  fun b xs q=>by rw[bI (hm b _ q fun z=>z)];exact q,fun b u xs q=>by rw[bI (hm b _ q fun z=>z)];exact q,fun b ps q=>⟨#[],by rw[bI (hm b _ q fun z=>z),q];simp⟩⟩
 by_cases Na:b=e
 ·subst Na;exact PK
 ·exact⟨u,k b u Na q⟩
theorem Un.mono (u:Un fs ex H H1 h h1) (hs:∀b∈fs,b∈fs') (hx:∀b∈ex,b∈ex'):Un fs' ex' H H1 h h1:=
 ⟨fun b ob q n hb he=>u.keep b ob q n (fun z=>hb (hs b z)) fun z=>he (hx b z),fun _ _ q n _ he=>u.any q n fun z=>he (hx _ z),fun b ob q n he=>u.free b ob q n fun z=>he (hx b z),fun b ob q he=>u.there b ob q fun z=>he (hx b z),u.tups,u.tM,u.uO⟩
end
noncomputable def UU (h:Heap) (H:Hp):List Addr:=(List.range h.objs.size).filter fun a=>(H a).isSome
noncomputable def Ad (h:Heap) (H:Hp):Heap:=PySem.W.hideAll h (UU h H)
theorem Ft (h:Heap) (H:Hp):(Ad h H).objs.size=h.objs.size:=PySem.W.hideAll_size _ _
theorem HJ {h:Heap}{H:Hp}{b:Addr}{o:Obj}(e:h.get? b=some o) (n:H b=none):(Ad h H).get? b=some o:=
 PySem.W.hideAll_get _ e fun hm=>by
  have q:(H b).isSome=true:=(List.mem_filter.mp hm).2
  rw[n] at q;simp at q
theorem KI {h:Heap}{H:Hp}{b:Addr}{o:Obj}(e:(Ad h H).get? b=some o):h.get? b=some o∧H b=none:=by
 have e':h.get? b=some o:=PySem.W.of_hideAll (UU h H) e
 refine⟨e',?_⟩
 cases q:H b with
 | none=>rfl
 | some x=>
  have hm:b∈UU h H:=List.mem_filter.mpr ⟨List.mem_range.mpr (Heap.lt_size e'),by simp[q]⟩
  have z:(Ad h H).get? b=none:=PySem.W.hideAll_none (UU h H) hm
  rw[z] at e;cases e
noncomputable def KJ (g h:Heap) (L:Addr):List (Addr×Obj):=(List.range h.objs.size).filterMap fun a=>if a=L∨(g.get? a).isSome=true then none else(h.get? a).map fun o=>(a,o)
noncomputable def rest (g h:Heap) (L d:Addr):List (Addr×Obj):=(KJ g h L).filter fun p=>decide (p.1≠d)
end L2
namespace L2
open PySem PySem.Spec PyProof.Rows
structure Mod (K:PySem.W.Frag) (mg:Str→Option Value) (base:Heap):Prop where
 Wi:K.In base
 glob:base.Ns mainGlobals mg
 blt:∃mb,base.Ns builtinsNs mb∧∀x:Str,x≠"__name__"→mb x=bootBuiltins x
 nolimit:base.NoLimit
structure Cx where
 prog:Program
 w:World
 K:PySem.W.Frag
 mg:Str→Option Value
 base:Heap
 A:Around
 N:List Str
 s₀:Shared
 H₀:Hp
 env:Env
 outer:List Env
 stack:List Env
 ex:List Addr
 fn:Str→Bool
 calm:Bool
 pn:List (Addr×Obj)
 xe:Value→Shared→Prop
noncomputable def frs (l:List Env):List Addr:=l.filterMap (·.frame)
noncomputable abbrev Cx.fs (X:Cx):List Addr:=frs X.outer
noncomputable def HC (sc:Scope) (x:Str):Prop:=sc.names.lookup x=some .local∨sc.names.lookup x=some .cell∨sc.names.lookup x=some .free
noncomputable def Loc (sc:Scope) (x:Str):Prop:=sc.names.lookup x=some .local∨sc.names.lookup x=some .cell
noncomputable def Look (env:Env) (h:Heap) (m:Str→Option Value) (x:Str) (u:Value):Prop:=
 (env.kindOf x=some .local∧m x=some u)∨((env.kindOf x=some .cell∨env.kindOf x=some .free)∧∃c,env.cells.lookup x=some c∧h.IsCell c (some u))
structure Cx.Ok (X:Cx):Prop where
 mod:Mod X.K X.mg X.base
 kind:X.env.scope.kind= .function
 glob:X.env.globals=mainGlobals
 blt:X.env.builtins=builtinsNs
 above:X.s₀.heap.objs.size≤X.env.locals
 inj:∀x y c,X.env.cells.lookup x=some c→X.env.cells.lookup y=some c→x=y
 has:∀x,(X.env.kindOf x=some .cell∨X.env.kindOf x=some .free)→∃c,X.env.cells.lookup x=some c
 Qw:∀x c,X.fn x=true→X.env.cells.lookup x=some c→X.s₀.heap.objs.size≤c
 hd:X.calm=true→X.A.handled=none
 frames:X.A.frames=some X.stack
 stk:X.stack=X.outer∨(X.stack=X.env :: X.outer∧X.env.frame=some X.env.locals)
 Wj:∀b∈X.ex,b≠X.env.locals∧∀x c,X.env.cells.lookup x=some c→c≠b
 bs:∀b o,X.base.get? b=some o→X.s₀.heap.get? b=some o∧X.H₀ b=none
 KL:X.base.objs.size≤X.s₀.heap.objs.size
 HK:∀b o,X.base.get? b=some o→b∉X.ex
 HM:∀b∈X.ex,b∉X.fs
 vY:X.s₀.heap.FunFrames X.base X.outer
 Nb:∀b∈X.fs,X.H₀ b=none
structure Inv (X:Cx) (pins:List (Addr×Obj)) (σ:List (Option V)) (H:Hp) (s:Shared):Prop where
 ok:X.Ok
 os:s.os=X.s₀.os
 bare:AllBare s.gens
 base:Un X.fs X.ex X.H₀ H X.s₀.heap s.heap
 loc:∃m,s.heap.Ns X.env.locals m∧∀(i:Nat) (x:Str) (v:V),X.N[i]? =some x→σ[i]? =some (some v)→HC X.env.scope x→∃u,RelV v u∧Look X.env s.heap m x u
 cell:∀x c,X.env.cells.lookup x=some c→∃v,s.heap.IsCell c v
 free:H X.env.locals=none
 pU:∀x c,X.env.cells.lookup x=some c→H c=none
 pin:∀p∈X.pn++pins,s.heap.get? p.1=some p.2∧H p.1=none∧p.1≠X.env.locals∧p.1∉X.fs∧∀v,p.2.data≠.cell v
 hok:rS X.prog X.w H s.heap
 len:σ.length=X.N.length
section
variable {X:Cx}{pins:List (Addr×Obj)}{σ:List (Option V)}{H H':Hp}{s:Shared}{h':Heap}
theorem Cx.Ok.kX (ok:X.Ok){b:Addr}{o:Obj}(e:X.base.get? b=some o):b∉X.fs:=fun hb=>by
 have:=(ok.vY.mem hb).1
 rw[e] at this;cases this
theorem Inv.bs (I:Inv X pins σ H s):∀b o,X.base.get? b=some o→s.heap.get? b=some o∧H b=none:=fun b o e=>
 ⟨I.base.keep b o (I.ok.bs b o e).1 (I.ok.bs b o e).2 (I.ok.kX e) (I.ok.HK b o e),I.base.free b o (I.ok.bs b o e).1 (I.ok.bs b o e).2 (I.ok.HK b o e)⟩
theorem Inv.bk (I:Inv X pins σ H s):∀b o,X.base.get? b=some o→s.heap.get? b=some o:=fun b o e=>(I.bs b o e).1
theorem Inv.mod (I:Inv X pins σ H s):Mod X.K X.mg X.base:=I.ok.mod
theorem Inv.Et (I:Inv X pins σ H s):X.K.In s.heap:=I.ok.mod.Wi.keeps I.bk
theorem Inv.nolimit (I:Inv X pins σ H s):s.heap.NoLimit:=I.ok.mod.nolimit.keeps I.bk
theorem Inv.lt (I:Inv X pins σ H s):X.env.locals < s.heap.objs.size:=let⟨_,hn,_⟩:=I.loc;hn.lt
theorem Inv.sz (I:Inv X pins σ H s):X.s₀.heap.objs.size≤s.heap.objs.size:=Nat.le_trans I.ok.above (Nat.le_of_lt I.lt)
theorem Inv.Qx (I:Inv X pins σ H s){a:Addr}(h:s.heap.objs.size≤a):a∉X.fs:=fun hb=>by
 obtain⟨_,o,ho,_⟩:=I.ok.vY.mem hb
 exact absurd (Nat.lt_of_lt_of_le (Heap.lt_size ho) (Nat.le_trans I.sz h)) (Nat.lt_irrefl _)
theorem Inv.Nc (I:Inv X pins σ H s):∀x c,X.env.cells.lookup x=some c→c≠X.env.locals:=fun x c e z=>by
 obtain⟨v,o,ho,hd⟩:=I.cell x c e
 obtain⟨m,⟨o',es,ep,ho',hd',_⟩,_⟩:=I.loc
 rw[z,ho'] at ho;cases ho;rw[hd'] at hd;cases hd
theorem Inv.vY (I:Inv X pins σ H s):s.heap.FunFrames X.base X.outer:=by
 have all:∀(l:List Env),(∀b∈frs l,b∈X.fs)→X.s₀.heap.FunFrames X.base l→s.heap.FunFrames X.base l:=by
  intro l
  induction l with
  | nil=>intro _ _;trivial
  | cons env r ih=>
   intro hs hl
   obtain⟨hk,⟨L,o,hf,hn,ho,hd⟩,hr⟩:=hl
   have hL:L∈X.fs:=hs L (by unfold frs;rw[List.filterMap_cons,hf];exact List.mem_cons_self)
   obtain⟨sl,e⟩:=I.base.slot L o ho (I.ok.Nb L hL) hL fun z=>I.ok.HM L z hL
   exact⟨hk,⟨L,_,hf,hn,e,hd⟩,ih (fun b hb=>hs b (by unfold frs;rw[List.filterMap_cons,hf];exact List.mem_cons_of_mem _ hb)) hr⟩
 exact all X.outer (fun _ hb=>hb) I.ok.vY
theorem Inv.stack (I:Inv X pins σ H s):s.heap.FunFrames X.base X.stack:=by
 rcases I.ok.stk with e | ⟨e,hf⟩
 ·rw[e];exact I.vY
 ·rw[e]
  obtain⟨m,hn,_⟩:=I.loc
  refine .cons (by rw[I.ok.kind];decide) hf hn ?_ I.vY
  exact Heap.get?_none_of_le (Nat.le_trans I.ok.KL I.ok.above)
theorem Inv.Ae (I:Inv X pins σ H s):∀b∈frs X.stack,b∈X.env.locals :: X.fs:=fun b hb=>by
 rcases I.ok.stk with e | ⟨e,hf⟩
 ·rw[e] at hb;exact List.mem_cons_of_mem _ hb
 ·rw[e] at hb
  unfold frs at hb
  rw[List.filterMap_cons,hf] at hb
  exact hb
theorem Inv.Eu (I:Inv X pins σ H s):∀b∈frs X.stack,H b=none:=fun b hb=>by
 rcases List.mem_cons.mp (I.Ae b hb) with e | hb
 ·rw[e];exact I.free
 ·obtain⟨_,o,ho,_⟩:=I.ok.vY.mem hb
  exact I.base.free b o ho (I.ok.Nb b hb) fun z=>I.ok.HM b z hb
theorem Inv.step {g':Array GenState}{t':Nat}{d':Drawn}{ch:List Addr}(I:Inv X pins σ H s)
  (hch:∀b∈ch,(b∈X.ex∨X.s₀.heap.objs.size≤b)∧b≠X.env.locals∧(∀x c,X.env.cells.lookup x=some c→c≠b)∧∀p∈X.pn++pins,p.1≠b)
  (keep:∀b o,b≠X.env.locals→b∉X.fs→b∉ch→s.heap.get? b=some o→H b=none→h'.get? b=some o)
  (slot:∀b o,b≠X.env.locals→b∈X.fs→b∉ch→s.heap.get? b=some o→H b=none→∃sl,h'.get? b=some {o with slots:=sl}) (free:∀b o,b∉ch→s.heap.get? b=some o→H b=none→H' b=none)
  (there:∀b o,b∉ch→s.heap.get? b=some o→∃o',h'.get? b=some o')
  (tups:∀b xs,H b=some (.tup xs)→H' b=some (.tup xs)) (tM:∀b o u,H b=some (.kW o u)→H' b=some (.kW o u)) (uO:∀b ps,H b=some (.M9 ps)→∃more,H' b=some (.M9 (ps++more)))
  (ns:∀m,s.heap.Ns X.env.locals m→h'.Ns X.env.locals m) (hok:rS X.prog X.w H' h') (hg:AllBare g'):
  Inv X pins σ H' {s with heap:=h',gens:=g',drawn:=d',toks:=t'}:=by
 have neL:∀b o,X.s₀.heap.get? b=some o→b≠X.env.locals:=fun b o e=>Nat.ne_of_lt (Nat.lt_of_lt_of_le (Heap.lt_size e) I.ok.above)
 have UW:∀b o,X.s₀.heap.get? b=some o→b∉X.ex→b∉ch:=fun b o e hx hb=>by
  rcases(hch b hb).1 with z | z
  ·exact hx z
  ·exact absurd (Nat.lt_of_lt_of_le (Heap.lt_size e) z) (Nat.lt_irrefl _)
 have cellK:∀x c,X.env.cells.lookup x=some c→∀v,s.heap.IsCell c v→h'.IsCell c v:=fun x c e v ⟨o,ho,hd⟩=>by
  have Qy:c∉ch:=fun z=>(hch c z).2.2.1 x c e rfl
  by_cases hc:c∈X.fs
  ·obtain⟨sl,q⟩:=slot c o (I.Nc x c e) hc Qy ho (I.pU x c e)
   exact⟨_,q,hd⟩
  ·exact⟨o,keep c o (I.Nc x c e) hc Qy ho (I.pU x c e),hd⟩
 refine⟨I.ok,I.os,hg,⟨fun b o e n hb hx=>?_,fun b o e n hb hx=>?_,fun b o e n hx=>?_,fun b o e hx=>?_,fun b xs e=>tups b xs (I.base.tups b xs e),fun b o xs e=>tM b o xs (I.base.tM b o xs e),fun b ps e=>?_⟩,?_,fun x c e=>?_,?_,fun x c e=>?_,fun p hp=>?_,hok,I.len⟩
 ·exact keep b o (neL b o e) hb (UW b o e hx) (I.base.keep b o e n hb hx) (I.base.free b o e n hx)
 ·obtain⟨sl,e1⟩:=I.base.slot b o e n hb hx
  obtain⟨Wh,e2⟩:=slot b _ (neL b o e) hb (UW b o e hx) e1 (I.base.free b o e n hx)
  exact⟨Wh,e2⟩
 ·obtain⟨o',e1⟩:=I.base.there b o e hx
  exact free b o' (UW b o e hx) e1 (I.base.free b o e n hx)
 ·obtain⟨o',e1⟩:=I.base.there b o e hx
  exact there b o' (UW b o e hx) e1
 ·obtain⟨m1,e1⟩:=I.base.uO b ps e
  obtain⟨m2,e2⟩:=uO b _ e1
  exact⟨m1++m2,by rw[e2,Array.append_assoc]⟩
 ·obtain⟨m,hn,hl⟩:=I.loc
  refine⟨m,ns m hn,fun i x v e1 e2 e3=>?_⟩
  obtain⟨u,r,l⟩:=hl i x v e1 e2 e3
  refine⟨u,r,?_⟩
  rcases l with l | ⟨k,c,e,z⟩
  ·exact .inl l
  ·exact .inr ⟨k,c,e,cellK x c e _ z⟩
 ·obtain⟨v,z⟩:=I.cell x c e
  exact⟨v,cellK x c e v z⟩
 ·obtain⟨m,⟨o,_,_,ho,_⟩,_⟩:=I.loc
  exact free _ o (fun z=>(hch _ z).2.1 rfl) ho I.free
 ·obtain⟨v,o,ho,hd⟩:=I.cell x c e
  exact free c o (fun z=>(hch c z).2.2.1 x c e rfl) ho (I.pU x c e)
 ·obtain⟨e,n,ne,nf,d⟩:=I.pin p hp
  have Qy:p.1∉ch:=fun z=>(hch p.1 z).2.2.2 p hp rfl
  exact⟨keep p.1 p.2 ne nf Qy e n,free p.1 p.2 Qy e n,ne,nf,d⟩
theorem Inv.un {t':Nat}(I:Inv X pins σ H s) (u:Un X.fs [] H H' s.heap h') (hok:rS X.prog X.w H' h'):Inv X pins σ H' {s with heap:=h',toks:=t'}:=by
 obtain⟨m,⟨o,es,ep,ho,r⟩,_⟩:=id I.loc
 obtain⟨sl,hL⟩:=u.any ho I.free (by simp)
 exact I.step (g':=s.gens) (d':=s.drawn) (ch:=[]) (fun _ z=>nomatch z) (fun b o _ hb _ e n=>u.keep b o e n hb (by simp)) (fun b o _ hb _ e n=>u.slot b o e n hb (by simp)) (fun b o _ e n=>u.free b o e n (by simp)) (fun b o _ e=>u.there b o e (by simp)) u.tups u.tM u.uO (fun m' hm=>by
  obtain⟨o',es',Wk,ho',r'⟩:=hm
  rw[ho] at ho';cases ho'
  exact⟨_,es',Wk,hL,r'⟩) hok I.bare
theorem Inv.call {g':Array GenState}{t':Nat}{d':Drawn}{ch:List Addr}(I:Inv X pins σ H s) (u:Un (frs X.stack) ch H H' s.heap h') (hok:rS X.prog X.w H' h') (hg:AllBare g')
  (hch:∀b∈ch,(b∈X.ex∨X.s₀.heap.objs.size≤b)∧b≠X.env.locals∧(∀x c,X.env.cells.lookup x=some c→c≠b)∧∀p∈X.pn++pins,p.1≠b):
  Inv X pins σ H' {s with heap:=h',gens:=g',drawn:=d',toks:=t'}:=by
 obtain⟨m,⟨o,es,ep,ho,r⟩,_⟩:=id I.loc
 obtain⟨sl,hL⟩:=u.any ho I.free fun z=>(hch _ z).2.1 rfl
 exact I.step (ch:=ch) hch (fun b o hL hb hc e n=>u.keep b o e n (fun z=>(List.mem_cons.mp (I.Ae b z)).elim hL hb) hc) (fun b o _ _ hc e n=>u.any e n hc) (fun b o hc e n=>u.free b o e n hc) (fun b o hc e=>u.there b o e hc) u.tups u.tM u.uO (fun m' hm=>by
  obtain⟨o',es',Wk,ho',r'⟩:=hm
  rw[ho] at ho';cases ho'
  exact⟨_,es',Wk,hL,r'⟩) hok hg
theorem Inv.turned {t':Nat}{it:Addr}(I:Inv X pins σ H s) (k:∀b o,b≠it→s.heap.get? b=some o→h'.get? b=some o) (hn:H it=none) (hL:it≠X.env.locals)
  (h1:it∈X.ex∨X.s₀.heap.objs.size≤it) (h2:∀x c,X.env.cells.lookup x=some c→c≠it) (h3:∀p∈X.pn++pins,p.1≠it):Inv X pins σ H {s with heap:=h',toks:=t'}:=by
 have nit:∀b u,H b=some u→b≠it:=fun b u e z=>by rw[z,hn] at e;cases e
 refine I.step (g':=s.gens) (d':=s.drawn) (ch:=[it]) (fun b hb=>?_) (fun b o _ _ hc e _=>k b o (fun z=>hc (by simp[z])) e) (fun b o _ _ hc e _=>⟨o.slots,k b o (fun z=>hc (by simp[z])) e⟩) (fun _ _ _ _ n=>n)
  (fun b o hc e=>⟨o,k b o (fun z=>hc (by simp[z])) e⟩) (fun _ _ e=>e) (fun _ _ _ e=>e) (fun b ps e=>⟨#[],by rw[e];simp⟩) (fun m hm=>?_) (fun b u e=>?_) I.bare
 ·have e:b=it:=by simpa using hb
  subst e
  exact⟨h1,hL,h2,h3⟩
 ·obtain⟨o,es,ep,ho,r⟩:=hm
  exact⟨o,es,ep,k _ o (Ne.symm hL) ho,r⟩
 ·refine(I.hok b u e).stay (fun c v hc q=>k c v ?_ q) (fun _ q=>q) fun _ _ q=>q
  rcases hc with z | z
  ·rw[z];exact nit b u e
  ·exact nit c _ z
theorem Inv.tok (I:Inv X pins σ H s) (t:Nat):Inv X pins σ H {s with toks:=t}:=I.un (h':=s.heap) (t':=t) Un.refl I.hok
theorem Inv.kept {t':Nat}(I:Inv X pins σ H s) (k:∀b u,s.heap.get? b=some u→h'.get? b=some u):Inv X pins σ H {s with heap:=h',toks:=t'}:=I.un (Un.kept k) (I.hok.kept k)
theorem Inv.laid {a:Addr}{o:HO}{t':Nat}(I:Inv X pins σ H s) (k:∀b u,s.heap.get? b=some u→h'.get? b=some u) (hp:s.heap.objs.size≤a) (new:gR X.prog X.w (upd H a o) h' a o):
  Inv X pins σ (upd H a o) {s with heap:=h',toks:=t'}:=I.un (Un.laid k hp (I.hok.fresh hp)) (I.hok.laid k hp new)
theorem Inv.write {x e:Addr}{o:HO}{t':Nat}(I:Inv X pins σ H s) (mu:Qu (H x)) (he:e=x∨H e=some (.own x)) (k:∀b u,b≠e→s.heap.get? b=some u→h'.get? b=some u) (PK:∃u,h'.get? e=some u)
  (new:gR X.prog X.w (upd H x o) h' x o):Inv X pins σ (upd H x o) {s with heap:=h',toks:=t'}:=I.un (Un.write mu he k PK) (I.hok.write mu he k PK new)
theorem Inv.weak {σ':List (Option V)}(I:Inv X pins σ H s) (hl:σ'.length=σ.length) (w:∀(i:Nat) v,σ'[i]? =some (some v)→σ[i]? =some (some v)):Inv X pins σ' H s:=
 ⟨I.ok,I.os,I.bare,I.base,let⟨m,hn,hl'⟩:=I.loc;⟨m,hn,fun i x v e1 e2 e3=>hl' i x v e1 (w i v e2) e3⟩,I.cell,I.free,I.pU,I.pin,I.hok,hl.trans I.len⟩
theorem Inv.Ew {MC:List (Addr×Obj)}(I:Inv X pins σ H s) (h:∀p∈MC,s.heap.get? p.1=some p.2∧H p.1=none∧p.1≠X.env.locals∧p.1∉X.fs∧∀v,p.2.data≠.cell v):Inv X MC σ H s:=
 ⟨I.ok,I.os,I.bare,I.base,I.loc,I.cell,I.free,I.pU,fun p hp=>(List.mem_append.mp hp).elim (fun z=>I.pin p (List.mem_append_left _ z)) (h p),I.hok,I.len⟩
theorem Bv {N:List Str}(hN:N.Nodup){i j:Nat}{x:Str}(a:N[i]? =some x) (b:N[j]? =some x):i=j:=by
 obtain⟨h1,e1⟩:=List.getElem?_eq_some_iff.mp a
 obtain⟨h2,e2⟩:=List.getElem?_eq_some_iff.mp b
 exact(List.getElem_inj hN).mp (e1.trans e2.symm)
theorem zl {M : Model} {A : Around} {E : Value → Shared → Prop} {i : Nat} {x : Str} {v : V} {u : Value} {Q : Unit → Shared → Prop} (I : Inv X pins σ H s) (hN : X.N.Nodup) (hi : X.N[i]? = some x) (hx : Loc X.env.scope x) (r : RelV v u)
    (h:∀s',Inv X pins (σ.set i (some v)) H s'→(∃a,Heap.SameBut a s.heap s'.heap∧(a=X.env.locals∨X.env.cells.lookup x=some a))→Q () s') (hf:X.fn x=true∨X.env.scope.names.lookup x=some .local:=by first | exact .inl rfl | exact .inr rfl | assumption):wpAny M A (storeName X.env x u) Q E s:=by
  obtain⟨m,hn,hl⟩:=id I.loc
  have hcls:(X.env.scope.kind == .class || (X.env.scope.kind == .module && X.env.locals != X.env.globals))=false:=by rw[I.ok.kind];rfl
  have Qz:i < σ.length:=by rw[I.len];exact(List.getElem?_eq_some_iff.mp hi).1
  have Nc:=I.Nc
  have tracked:∀{a:Addr}{h':Heap},(∃o,s.heap.get? a=some o∧H a=none)→Heap.SameBut a s.heap h'→rS X.prog X.w H h':=fun {a h'} ha hs b ob e=>by
    obtain⟨_,_,hfree⟩:=ha
    refine(I.hok b ob e).stay (fun c w' hc q=>(hs.2 c ?_).trans q) (fun _ q=>q) fun _ _ q=>q
    rintro rfl
    rcases hc with rfl | hc
    · rw[hfree] at e;cases e
    · rw[hfree] at hc;cases hc
  rcases hx with hk | hk
  · refine wpAny_storeName_local hk hn (fun h' hn' hs=>?_) hcls
    obtain⟨oL,_,_,hoL,_⟩:=id hn
    refine h _ ⟨I.ok,I.os,I.bare,⟨fun b o e n hb hx=>?_,fun b o e n hb hx=>?_,I.base.free,fun b o e hx=>?_,I.base.tups,I.base.tM,I.base.uO⟩,⟨_,hn',fun j y v' e1 e2 e3=>?_⟩,fun y c e=>?_,I.free,I.pU,fun p hp=>?_,tracked ⟨oL,hoL,I.free⟩ hs,by simpa using I.len⟩ ⟨_,hs,.inl rfl⟩
    · exact(hs.2 b (Nat.ne_of_lt (Nat.lt_of_lt_of_le (Heap.lt_size e) I.ok.above))).trans (I.base.keep b o e n hb hx)
    · obtain⟨sl,e1⟩:=I.base.slot b o e n hb hx
      exact⟨sl,(hs.2 b (Nat.ne_of_lt (Nat.lt_of_lt_of_le (Heap.lt_size e) I.ok.above))).trans e1⟩
    · obtain⟨o',e1⟩:=I.base.there b o e hx
      exact⟨o',(hs.2 b (Nat.ne_of_lt (Nat.lt_of_lt_of_le (Heap.lt_size e) I.ok.above))).trans e1⟩
    · by_cases hj:j=i
      · subst hj
        rw[hi] at e1;cases e1
        rw[List.getElem?_set_self Qz] at e2
        cases e2
        exact⟨u,r,.inl ⟨hk,by simp⟩⟩
      · rw[List.getElem?_set_ne (Ne.symm hj)] at e2
        obtain⟨u',r',q⟩:=hl j y v' e1 e2 e3
        refine⟨u',r',?_⟩
        rcases q with⟨k,e⟩ | ⟨k,c,e,z⟩
        · refine .inl ⟨k,?_⟩
          have:y≠x:=fun e=>hj (Bv hN e1 (e▸hi))
          simp[this,e]
        · exact .inr ⟨k,c,e,z.sameBut hs (Nc y c e)⟩
    · obtain⟨w',z⟩:=I.cell y c e
      exact⟨w',z.sameBut hs (Nc y c e)⟩
    · obtain⟨e,n,ne,nf,d⟩:=I.pin p hp
      exact⟨(hs.2 p.1 ne).trans e,n,ne,nf,d⟩
  · have hfn:X.fn x=true:=by
      rcases hf with z | z
      · exact z
      · rw[z] at hk;cases hk
    obtain⟨c,hc⟩:=I.ok.has x (.inl hk)
    obtain⟨w',z⟩:=I.cell x c hc
    refine wpAny_storeName_cell I.ok.kind hk hc z (fun h' hc' hs=>?_)
    obtain⟨oc,hoc,Wl⟩:=id z
    refine h {s with heap:=h'} ⟨I.ok,I.os,I.bare,⟨fun b o e n hb hx=>?_,fun b o e n hb hx=>?_,I.base.free,fun b o e hx=>?_,I.base.tups,I.base.tM,I.base.uO⟩,⟨m,hn.sameBut hs (Ne.symm (Nc x c hc)),fun j y v' e1 e2 e3=>?_⟩,fun y c' e=>?_,I.free,I.pU,fun p hp=>?_,tracked ⟨oc,hoc,I.pU x c hc⟩ hs,by simpa using I.len⟩ ⟨c,hs,.inr hc⟩
    · exact(hs.2 b (Nat.ne_of_lt (Nat.lt_of_lt_of_le (Heap.lt_size e) (I.ok.Qw x c hfn hc)))).trans (I.base.keep b o e n hb hx)
    · obtain⟨sl,e1⟩:=I.base.slot b o e n hb hx
      exact⟨sl,(hs.2 b (Nat.ne_of_lt (Nat.lt_of_lt_of_le (Heap.lt_size e) (I.ok.Qw x c hfn hc)))).trans e1⟩
    · obtain⟨o',e1⟩:=I.base.there b o e hx
      exact⟨o',(hs.2 b (Nat.ne_of_lt (Nat.lt_of_lt_of_le (Heap.lt_size e) (I.ok.Qw x c hfn hc)))).trans e1⟩
    · by_cases hj:j=i
      · subst hj
        rw[hi] at e1;cases e1
        rw[List.getElem?_set_self Qz] at e2
        cases e2
        exact⟨u,r,.inr ⟨.inl hk,c,hc,hc'⟩⟩
      · rw[List.getElem?_set_ne (Ne.symm hj)] at e2
        obtain⟨u',r',q⟩:=hl j y v' e1 e2 e3
        refine⟨u',r',?_⟩
        rcases q with q | ⟨k,c',e,z'⟩
        · exact .inl q
        · refine .inr ⟨k,c',e,z'.sameBut hs ?_⟩
          rintro rfl
          exact hj (Bv hN e1 (I.ok.inj _ _ _ e hc▸hi))
    · by_cases hcc:c'=c
      · subst hcc;exact⟨_,hc'⟩
      · obtain⟨w2,z2⟩:=I.cell y c' e
        exact⟨w2,z2.sameBut hs hcc⟩
    · obtain⟨e,n,ne,nf,d⟩:=I.pin p hp
      refine⟨(hs.2 p.1 ?_).trans e,n,ne,nf,d⟩
      intro q
      rw[q,hoc] at e
      have q':oc=p.2:=Option.some.inj e
      exact d w' (by rw[←q'];exact Wl)
theorem Bw {M:Model}{A:Around}{E:Value→Shared→Prop}{i:Nat}{x:Str}{v:V}{u:Value}{Q:Unit→Shared→Prop}(I:Inv X pins σ H s) (hN:X.N.Nodup) (hi:X.N[i]? =some x) (hx:Loc X.env.scope x) (r:RelV v u)
  (h:∀s',Inv X pins (σ.set i (some v)) H s'→Q () s') (hf:X.fn x=true∨X.env.scope.names.lookup x=some .local:=by first | exact .inl rfl | exact .inr rfl | assumption):wpAny M A (storeName X.env x u) Q E s:=
 zl I hN hi hx r (fun s' I' _=>h s' I') hf
theorem Inv.QA {s':Shared}{ch:List Addr}(I:Inv X pins σ H s) (ho:s'.os=s.os) (u:Un (frs X.stack) ch H H' s.heap s'.heap) (hok:rS X.prog X.w H' s'.heap) (hg:AllBare s'.gens)
  (hch:∀b∈ch,(b∈X.ex∨X.s₀.heap.objs.size≤b)∧b≠X.env.locals∧(∀x c,X.env.cells.lookup x=some c→c≠b)∧∀p∈X.pn++pins,p.1≠b):Inv X pins σ H' s':=by
 obtain⟨h',g',d',t',o'⟩:=s'
 have e:o'=s.os:=ho
 subst e
 exact I.call (g':=g') (t':=t') (d':=d') u hok hg hch
end
noncomputable abbrev XK:=Value→Option Addr→Hp→Prop
noncomputable abbrev St:=List (Option V)
noncomputable abbrev VK:=V→Hp→Prop
noncomputable abbrev TE:=St→Hp→VK→Prop
noncomputable abbrev TT:=St→Hp→(Bool→Hp→Prop)→Prop
noncomputable abbrev TA:=St→Hp→(List V→Hp→Prop)→Prop
structure Ends where
 nx:St→Hp→Prop
 rt:VK
 bk:St→Hp→Prop:=fun _ _=>False
 ct:St→Hp→Prop:=fun _ _=>False
noncomputable abbrev TS:=Ends→St→Hp→Prop
noncomputable def EP (X:Cx) (pins:List (Addr×Obj)) (σ:St) (Q:VK) (u:Value) (s':Shared):Prop:=∃v H',Inv X pins σ H' s'∧RelV v u∧Q v H'
noncomputable def TP (X:Cx) (pins:List (Addr×Obj)) (σ:St) (Q:Bool→Hp→Prop) (b:Bool) (s':Shared):Prop:=∃H',Inv X pins σ H' s'∧Q b H'
noncomputable def AP (X:Cx) (pins:List (Addr×Obj)) (σ:St) (Q:List V→Hp→Prop) (us:List Value) (s':Shared):Prop:=∃vs H',Inv X pins σ H' s'∧Vals vs us∧Q vs H'
noncomputable def SP (X:Cx) (pins:List (Addr×Obj)) (D:Ends) (f:Flow) (s':Shared):Prop:=
 match f with
 | .next=>∃σ' H',Inv X pins σ' H' s'∧D.nx σ' H'
 | .brk=>∃σ' H',Inv X pins σ' H' s'∧D.bk σ' H'
 | .cont=>∃σ' H',Inv X pins σ' H' s'∧D.ct σ' H'
 | .ret u=>∃v σ' H',Inv X pins σ' H' s'∧RelV v u∧D.rt v H'
noncomputable def PE (X:Cx) (e:Expr) (t:TE):Prop:=
 ∀(pins:List (Addr×Obj)) (s:Shared) (σ:St) (H:Hp) (Q:VK),Inv X pins σ H s→t σ H Q→wpAny (model X.prog X.w) X.A (eval e X.env) (EP X pins σ Q) X.xe s
noncomputable def PT (X:Cx) (e:Expr) (t:TT):Prop:=
 ∀(pins:List (Addr×Obj)) (s:Shared) (σ:St) (H:Hp) (Q:Bool→Hp→Prop),Inv X pins σ H s→t σ H Q→wpAny (model X.prog X.w) X.A (isTrue e X.env (eval e X.env)) (TP X pins σ Q) X.xe s
noncomputable def PW (X:Cx) (e:Expr) (t:TT):Prop:=
 ∀(whole:Sem Value) (pins:List (Addr×Obj)) (s:Shared) (σ:St) (H:Hp) (Q:Bool→Hp→Prop),Inv X pins σ H s→t σ H Q→wpAny (model X.prog X.w) X.A (isTrue e X.env whole) (TP X pins σ Q) X.xe s
theorem PW.pt {X:Cx}{e:Expr}{t:TT}(h:PW X e t):PT X e t:=h _
noncomputable def PA (X:Cx) (es:List Expr) (t:TA):Prop:=
 ∀(pos:Pos) (pins:List (Addr×Obj)) (s:Shared) (σ:St) (H:Hp) (Q:List V→Hp→Prop),Inv X pins σ H s→t σ H Q→wpAny (model X.prog X.w) X.A (spliced (backTo pos (starEach es X.env))) (AP X pins σ Q) X.xe s
noncomputable def PS (X:Cx) (st:Stmt) (t:TS):Prop:=
 ∀(pins:List (Addr×Obj)) (s:Shared) (σ:St) (H:Hp) (D:Ends),Inv X pins σ H s→t D σ H→wpAny (model X.prog X.w) X.A (exec st X.env) (SP X pins D) X.xe s
noncomputable def C6 (X:Cx) (st:List Stmt) (t:TS):Prop:=
 ∀(pins:List (Addr×Obj)) (s:Shared) (σ:St) (H:Hp) (D:Ends),Inv X pins σ H s→t D σ H→wpAny (model X.prog X.w) X.A (execs st X.env) (SP X pins D) X.xe s
theorem fR {α:Type}{t:Sem α}{Q Q':α→Shared→Prop}{M:Model}{A:Around}{E:Value→Shared→Prop}{s:Shared}(h:wpAny M A t Q E s) (hQ:∀a s,Q a s→Q' a s):wpAny M A t Q' E s:=wpAny_mono h hQ fun _ _ x=>x
end L2
namespace L2
open PySem PySem.Spec PyProof.Rows
section
variable {X:Cx}
theorem bin {a b:Expr}{ta tb:TE}(ha:PE X a ta) (hb:PE X b tb){pins:List (Addr×Obj)}{s:Shared}{σ:St}{H:Hp}{R:V→V→Hp→Prop}(I:Inv X pins σ H s) (h:ta σ H fun x H1=>tb σ H1 fun y H2=>R x y H2)
  {α:Type}{Q:α→Shared→Prop}{f:Value→Value→Sem α}
  (hf:∀v u s2 x y H2,Inv X pins σ H2 s2→RelV x v→RelV y u→R x y H2→wpAny (model X.prog X.w) X.A (f v u) Q X.xe s2):
  wpAny (model X.prog X.w) X.A (eval a X.env) (fun v s₁=>wpAny (model X.prog X.w) X.A (eval b X.env) (fun u s₂=>wpAny (model X.prog X.w) X.A (f v u) Q X.xe s₂) X.xe s₁) X.xe s:=by
 refine fR (ha pins s σ H _ I h) fun v s1 ⟨x,H1,I1,r1,q1⟩=>?_
 refine fR (hb pins s1 σ H1 _ I1 q1) fun u s2 ⟨y,H2,I2,r2,q2⟩=>?_
 exact hf v u s2 x y H2 I2 r1 r2 q2
noncomputable def KN (i:Nat):TE:=fun σ H Q=>∃v,σ[i]? =some (some v)∧Q v H
noncomputable def tC (v:V):TE:=fun _ H Q=>Q v H
theorem jD {i:Nat}{x:Str}{pos:Pos}(hN:X.N[i]? =some x) (hv:HC X.env.scope x) (hd:(x == ("__debug__":Str))=false:=by decide) (hcd:(x == ("__classdict__":Str))=false:=by decide):PE X (.Name x pos) (KN i):=by
 intro pins s σ H Q I h
 obtain⟨v,e,h⟩:=h
 obtain⟨m,hn,hl⟩:=I.loc
 obtain⟨u,r,l⟩:=hl i x v hN e hv
 have fin:EP X pins σ Q u s:=⟨v,H,I,r,h⟩
 rcases l with⟨hk,hm⟩ | ⟨hk,c,hc,hcell⟩
 ·exact wpAny_Name (wpAny_loadName_local I.ok.kind hk hn hm fin) hd
 ·rcases hk with hk | hk
  ·exact wpAny_Name (wpAny_loadName_cell I.ok.kind hk hc hcell fin) hd
  ·exact wpAny_Name (wpAny_loadName_free I.ok.kind hk hc hcell fin hcd) hd
theorem Nd {i j pos}:PE X (.Constant (.int i) j pos) (tC (.int i)):=fun _ _ _ H _ I h=>wpAny_Constant_int ⟨.int i,H,I.tok _,⟨_,rfl⟩,h⟩
theorem QB {b j pos}:PE X (.Constant (.bool b) j pos) (tC (.bl b)):=fun _ _ _ H _ I h=>Constant_bool ⟨.bl b,H,I,rfl,h⟩
theorem Nf {j pos}:PE X (.Constant .none j pos) (tC .cW):=fun _ _ _ H _ I h=>Constant_none ⟨.cW,H,I,rfl,h⟩
theorem HN {x j pos}:PE X (.Constant (.str x) j pos) (tC (.str x)):=fun _ _ _ H _ I h=>Calls.Constant_str ⟨.str x,H,I.tok _,⟨_,rfl⟩,h⟩
noncomputable def Gl (X:Cx) (x:Str):Prop:=X.env.kindOf x=some .globalImplicit
theorem Ex {E:Value→Shared→Prop}{pins:List (Addr×Obj)}{s:Shared}{σ:St}{H:Hp}{x:Str}{u:Value}{pos:Pos}{Q:Value→Shared→Prop}(I:Inv X pins σ H s) (hg:Gl X x) (hm:X.mg x=some u) (h:Q u s)
  (hd:(x == ("__debug__":Str))=false:=by decide):wpAny (model X.prog X.w) X.A (eval (.Name x pos) X.env) Q E s:=
 Calls.Name_function_global I.ok.kind hg (Calls.loadGlobal_global (by rw[I.ok.glob];exact I.mod.glob.keeps I.bk) hm h) hd
theorem Af {E:Value→Shared→Prop}{pins:List (Addr×Obj)}{s:Shared}{σ:St}{H:Hp}{x:Str}{u:Value}{pos:Pos}{Q:Value→Shared→Prop}(I:Inv X pins σ H s) (hg:Gl X x) (hm:X.mg x=none) (hv:bootBuiltins x=some u) (h:Q u s)
  (hn:x≠"__name__":=by decide) (hd:(x == ("__debug__":Str))=false:=by decide):wpAny (model X.prog X.w) X.A (eval (.Name x pos) X.env) Q E s:=by
 obtain⟨mb,h1,h2⟩:=I.mod.blt
 exact Calls.Name_function_global I.ok.kind hg (Calls.loadGlobal_builtin (by rw[I.ok.glob];exact I.mod.glob.keeps I.bk) hm (by rw[I.ok.blt];exact h1.keeps I.bk) ((h2 x hn).trans hv) h) hd
theorem tN {x:Str}{v:V}{u:Value}{pos:Pos}(hg:Gl X x) (hm:X.mg x=some u) (r:RelV v u) (hd:(x == ("__debug__":Str))=false:=by decide):PE X (.Name x pos) (tC v):=
 fun _ _ _ H _ I h=>Ex I hg hm ⟨v,H,I,r,h⟩ hd
theorem KO {x:Str}{v:V}{u:Value}{pos:Pos}(hg:Gl X x) (hm:X.mg x=none) (hv:bootBuiltins x=some u) (r:RelV v u) (hn:x≠"__name__":=by decide) (hd:(x == ("__debug__":Str))=false:=by decide):PE X (.Name x pos) (tC v):=
 fun _ _ _ H _ I h=>Af I hg hm hv ⟨v,H,I,r,h⟩ hn hd
variable {a b:Expr}{ta tb:TE}{pos:Pos}
noncomputable def PC (X:Cx) (op:CmpOp) (a b:Expr) (t:TE):Prop:=
 ∀(pins:List (Addr×Obj)) (s:Shared) (σ:St) (H:Hp) (Q:VK),Inv X pins σ H s→t σ H Q→
  wpAny (model X.prog X.w) X.A (eval a X.env) (fun v s₁=>wpAny (model X.prog X.w) X.A (eval b X.env) (fun u s₂=>wpAny (model X.prog X.w) X.A (compareOp op v u) (EP X pins σ Q) X.xe s₂) X.xe s₁) X.xe s
theorem Bx (b:Expr){op:CmpOp}(h:op≠.In) (h2:op≠.NotIn):behindInMarks op b=false:=by
 have e1:(op == CmpOp.In)=false:=by cases op <;> first | rfl | exact absurd rfl h
 have e2:(op == CmpOp.NotIn)=false:=by cases op <;> first | rfl | exact absurd rfl h2
 cases b <;> simp[behindInMarks,e1,e2]
noncomputable def tB (t:TE):TT:=fun σ H Q=>t σ H fun x H1=>∃c,x= .bl c∧Q c H1
theorem Ng {op:CmpOp}{t:TE}(h:PC X op a b t) (h1:behindInMarks op b=false:=by first | exact Bx _ (by decide) (by decide) | rfl):PE X (.Compare a [op] [b] pos) t:=fun pins s σ H Q I hw=>wpAny_Compare1 (h pins s σ H Q I hw) h1
theorem Nh {op:CmpOp}{t:TE}(h:PC X op a b t) (h1:behindInMarks op b=false:=by first | exact Bx _ (by decide) (by decide) | rfl):PT X (.Compare a [op] [b] pos) (tB t):=by
 intro pins s σ H Q I hw
 refine wpAny_isTrue_Compare1 (fR (h pins s σ H _ I hw) fun v s1 h1=>fR h1 fun u s2 h2=>fR h2 fun c s3 ⟨x,H1,I1,r1,q1⟩=>?_) h1
 obtain⟨d,rfl,q⟩:=q1
 cases r1
 exact wpAny_truthy_bool ⟨H1,I1,q⟩
theorem Ni {e:Expr}{t:TE}(h:PE X e t) (he:∀whole,isTrue e X.env whole=(do let v ←whole;standAt e.pos;holding [v] (truthy v)):=by intro _;rfl):PT X e (tB t):=by
 intro pins s σ H Q I hw
 refine isTrue_plain (fR (h pins s σ H _ I hw) fun v s1 ⟨x,H1,I1,r1,q1⟩=>?_) (he _)
 obtain⟨d,rfl,q⟩:=q1
 cases r1
 exact wpAny_truthy_bool ⟨H1,I1,q⟩
variable {tA UX:TT}{rest:List Expr}
noncomputable def Wm (t u:TT):TT:=fun σ H Q=>t σ H fun c H1=>if c=true then u σ H1 Q else Q false H1
noncomputable def tOr (t u:TT):TT:=fun σ H Q=>t σ H fun c H1=>if c=true then Q true H1 else u σ H1 Q
noncomputable def Wn (t:TT):TT:=fun σ H Q=>t σ H fun c H1=>Q (!c) H1
theorem pw_and1 (ha:PT X a tA):PW X (.BoolOp .And [a] pos) tA:=by
 intro wh pins s σ H Q I h
 refine isTrue_and (fR (ha pins s σ H Q I h) fun c s1 e=>?_)
 cases c with
 | true=>exact isTrue_and_nil e
 | false=>exact e
theorem pw_or1 (ha:PT X a tA):PW X (.BoolOp .Or [a] pos) tA:=by
 intro wh pins s σ H Q I h
 refine isTrue_or (fR (ha pins s σ H Q I h) fun c s1 e=>?_)
 cases c with
 | false=>exact isTrue_or_nil e
 | true=>exact e
theorem pw_and (ha:PT X a tA) (hb:PW X (.BoolOp .And (b :: rest) pos) UX):PW X (.BoolOp .And (a :: b :: rest) pos) (Wm tA UX):=by
 intro wh pins s σ H Q I h
 refine isTrue_and (fR (ha pins s σ H _ I h) fun c s1 ⟨H1,I1,q1⟩=>?_)
 cases c with
 | true=>exact hb wh pins s1 σ H1 Q I1 q1
 | false=>exact⟨H1,I1,q1⟩
theorem pw_or (ha:PT X a tA) (hb:PW X (.BoolOp .Or (b :: rest) pos) UX):PW X (.BoolOp .Or (a :: b :: rest) pos) (tOr tA UX):=by
 intro wh pins s σ H Q I h
 refine isTrue_or (fR (ha pins s σ H _ I h) fun c s1 ⟨H1,I1,q1⟩=>?_)
 cases c with
 | true=>exact⟨H1,I1,q1⟩
 | false=>exact hb wh pins s1 σ H1 Q I1 q1
theorem Nj (ha:PT X a tA):PT X (.UnaryOp .Not a pos) (Wn tA):=by
 intro pins s σ H Q I h
 exact isTrue_not (ha pins s σ H (fun c H1=>Q (!c) H1) I h)
noncomputable def QC (ta tb:TE):TE:=fun σ H Q=>ta σ H fun x H1=>∃c,x= .bl c∧if c=true then tb σ H1 Q else Q (.bl false) H1
noncomputable def Wo (ta tb:TE):TE:=fun σ H Q=>ta σ H fun x H1=>∃c,x= .bl c∧if c=true then Q (.bl true) H1 else tb σ H1 Q
noncomputable def QD (ta:TE):TE:=fun σ H Q=>ta σ H fun x H1=>∃c,x= .bl c∧Q (.bl (!c)) H1
theorem Nk {op}{t:TE}(h:PE X a t):PE X (.BoolOp op [a] pos) t:=fun pins s σ H Q I hw=>BoolOp_one (h pins s σ H Q I hw)
theorem Nl (ha:PE X a ta) (hb:PE X (.BoolOp .And (b :: rest) pos) tb):PE X (.BoolOp .And (a :: b :: rest) pos) (QC ta tb):=by
 intro pins s σ H Q I h
 refine BoolOp_and (fR (ha pins s σ H _ I h) fun v s1 ⟨x,H1,I1,r1,q1⟩=>?_)
 obtain⟨c,rfl,q1⟩:=q1
 cases r1
 refine wpAny_truthy_bool ?_
 cases c with
 | true=>exact hb pins s1 σ H1 Q I1 q1
 | false=>exact⟨.bl false,H1,I1,rfl,q1⟩
theorem QE (ha:PE X a ta) (hb:PE X (.BoolOp .Or (b :: rest) pos) tb):PE X (.BoolOp .Or (a :: b :: rest) pos) (Wo ta tb):=by
 intro pins s σ H Q I h
 refine BoolOp_or (fR (ha pins s σ H _ I h) fun v s1 ⟨x,H1,I1,r1,q1⟩=>?_)
 obtain⟨c,rfl,q1⟩:=q1
 cases r1
 refine wpAny_truthy_bool ?_
 cases c with
 | false=>exact hb pins s1 σ H1 Q I1 q1
 | true=>exact⟨.bl true,H1,I1,rfl,q1⟩
theorem Nn (ha:PE X a ta):PE X (.UnaryOp .Not a pos) (QD ta):=by
 intro pins s σ H Q I h
 refine UnaryOp_ (fR (ha pins s σ H _ I h) fun v s1 ⟨x,H1,I1,r1,q1⟩=>?_)
 obtain⟨c,rfl,q1⟩:=q1
 cases r1
 exact not_of (wpAny_truthy_bool ⟨.bl (!c),H1,I1,rfl,q1⟩)
noncomputable def tIf (t:TT) (ta tb:TE):TE:=fun σ H Q=>t σ H fun c H1=>if c=true then ta σ H1 Q else tb σ H1 Q
theorem HP {c:Expr}(hc:PT X c tA) (ha:PE X a ta) (hb:PE X b tb):PE X (.IfExp c a b pos) (tIf tA ta tb):=by
 intro pins s σ H Q I h
 refine wpAny_IfExp (fR (hc pins s σ H _ I h) fun d s1 ⟨H1,I1,q1⟩=>?_)
 cases d with
 | true=>exact ha pins s1 σ H1 Q I1 q1
 | false=>exact hb pins s1 σ H1 Q I1 q1
end
end L2
namespace L2
open PySem PySem.Spec PyProof.Rows
noncomputable def qZ (K:PySem.W.Frag) (H:Hp) (a:Addr) (xs:List V):Prop:=
 Rd H a (.lst xs)∨
  ∃(o:Obj) (its:Array Value) (n:Nat),K.lookup a=some o∧o.cls= .type "list"∧o.dict=none∧o.data= .seq its n∧its.size≤sizeLine∧Vals xs its.toList
noncomputable def Ag (K:PySem.W.Frag) (H:Hp) (a:Addr) (xs:List V):Prop:=
 Rd H a (.tup xs)∨
  ∃(o:Obj) (its:Array Value) (n:Nat),K.lookup a=some o∧o.cls= .type "tuple"∧o.data= .seq its n∧its.size≤sizeLine∧Vals xs its.toList
noncomputable def Wq:Value→Option V
 | .none=>some .cW
 | .bool b=>some (.bl b)
 | .int i _=>some (.int i)
 | .str x _=>some (.str x)
 | .bytes b _=>some (.Wf b)
 | .float b _=>some (.flt b)
 | .ref a=>some (.ref a)
 | .type n=>some (.ty n)
 | _=>none
theorem RelV.abs {x:V}{u:Value}(r:RelV x u):Wq u=some x:=by
 cases x with
 | cW=>cases r;rfl
 | bl _=>cases r;rfl
 | int _=>obtain⟨t,rfl⟩:=r;rfl
 | str _=>obtain⟨t,rfl⟩:=r;rfl
 | Wf _=>obtain⟨t,rfl⟩:=r;rfl
 | flt _=>obtain⟨t,rfl⟩:=r;rfl
 | ref _=>cases r;rfl
 | ty _=>cases r;rfl
theorem RelV.inj {x y:V}{u:Value}(r:RelV x u) (q:RelV y u):x=y:=Option.some.inj (r.abs.symm.trans q.abs)
theorem Vals.inj:∀{xs ys:List V}{us:List Value},Vals xs us→Vals ys us→xs=ys
 | _,_,_,.nil,.nil=>rfl
 | _,_,_,.cons r t,.cons r' t'=>by rw[r.inj r',Vals.inj t t']
section
variable {X:Cx}{pins:List (Addr×Obj)}{σ:St}{H:Hp}{s:Shared}{a:Addr}{xs ys:List V}
theorem qZ.of {K:PySem.W.Frag}(h:H a=some (.lst xs)):qZ K H a xs:=.inl (.inl h)
theorem Ag.of {K:PySem.W.Frag}(h:H a=some (.tup xs)):Ag K H a xs:=.inl (.inl h)
theorem Inv.list (I:Inv X pins σ H s) (h:qZ X.K H a xs):∃its:List Value,Vals xs its∧PlainL s.heap a its.toArray∧xs.length≤sizeLine:=by
 rcases h with h | ⟨o,its,n,hk,hc,hd,hs,hz,r⟩
 ·obtain⟨z,its,n,r,e⟩:=h.ok I.hok
  exact⟨its,r,⟨_,n,e,rfl,rfl,rfl⟩,z⟩
 ·refine⟨its.toList,r,⟨o,n,I.Et a o hk,hc,hd,by simpa using hs⟩,?_⟩
  have e:=r.length
  simp only[Array.length_toList] at e
  omega
theorem Inv.tuple (I:Inv X pins σ H s) (h:Ag X.K H a xs):∃its:List Value,Vals xs its∧IsTup s.heap a its.toArray∧xs.length≤sizeLine:=by
 rcases h with h | ⟨o,its,n,hk,hc,hs,hz,r⟩
 ·obtain⟨z,its,r,p⟩:=h.ok I.hok
  exact⟨its,r,p,z⟩
 ·refine⟨its.toList,r,⟨o,I.Et a o hk,hc,n,by simpa using hs⟩,?_⟩
  have e:=r.length
  simp only[Array.length_toList] at e
  omega
theorem Inv.HQ (I:Inv X pins σ H s) (h:qZ X.K H a xs) (h':qZ X.K H a ys):xs=ys:=by
 obtain⟨its,r,⟨o,n,e,_,_,d⟩,_⟩:=I.list h
 obtain⟨its',r',⟨o',n',e',_,_,d'⟩,_⟩:=I.list h'
 rw[e] at e';cases e'
 rw[d] at d'
 injection d' with d1 _
 have:its=its':=by simpa using congrArg Array.toList d1
 subst this
 exact r.inj r'
theorem Inv.Fv (I:Inv X pins σ H s) (h:Ag X.K H a xs) (h':Ag X.K H a ys):xs=ys:=by
 obtain⟨its,r,⟨o,e,_,n,d⟩,_⟩:=I.tuple h
 obtain⟨its',r',⟨o',e',_,n',d'⟩,_⟩:=I.tuple h'
 rw[e] at e';cases e'
 rw[d] at d'
 injection d' with d1 _
 have:its=its':=by simpa using congrArg Array.toList d1
 subst this
 exact r.inj r'
end
noncomputable abbrev Cx.vZ (X:Cx) (E:Value→Shared→Prop):Cx:={X with xe:=E}
noncomputable abbrev Cx.KP (X:Cx):Cx:=X.vZ fun _ _=>False
theorem Cx.Ok.vZ {X:Cx}(ok:X.Ok) (E:Value→Shared→Prop):(X.vZ E).Ok:=
 ⟨ok.mod,ok.kind,ok.glob,ok.blt,ok.above,ok.inj,ok.has,ok.Qw,ok.hd,ok.frames,ok.stk,ok.Wj,ok.bs,ok.KL,ok.HK,ok.HM,ok.vY,ok.Nb⟩
theorem Cx.Ok.mU {X:Cx}{E:Value→Shared→Prop}(ok:(X.vZ E).Ok):X.Ok:=
 ⟨ok.mod,ok.kind,ok.glob,ok.blt,ok.above,ok.inj,ok.has,ok.Qw,ok.hd,ok.frames,ok.stk,ok.Wj,ok.bs,ok.KL,ok.HK,ok.HM,ok.vY,ok.Nb⟩
section
variable {X:Cx}{pins:List (Addr×Obj)}{σ:St}{H:Hp}{s:Shared}{E:Value→Shared→Prop}
theorem Inv.vZ (I:Inv X pins σ H s) (E:Value→Shared→Prop):Inv (X.vZ E) pins σ H s:=⟨I.ok.vZ E,I.os,I.bare,I.base,I.loc,I.cell,I.free,I.pU,I.pin,I.hok,I.len⟩
theorem Inv.mU (I:Inv (X.vZ E) pins σ H s):Inv X pins σ H s:=⟨I.ok.mU,I.os,I.bare,I.base,I.loc,I.cell,I.free,I.pU,I.pin,I.hok,I.len⟩
theorem SP.mU {D:Ends}{f:Flow}{s':Shared}(h:SP (X.vZ E) pins D f s'):SP X pins D f s':=by
 cases f with
 | next=>obtain⟨σ',H',I,q⟩:=h;exact⟨σ',H',I.mU,q⟩
 | brk=>obtain⟨σ',H',I,q⟩:=h;exact⟨σ',H',I.mU,q⟩
 | cont=>obtain⟨σ',H',I,q⟩:=h;exact⟨σ',H',I.mU,q⟩
 | ret u=>obtain⟨v,σ',H',I,r,q⟩:=h;exact⟨v,σ',H',I.mU,r,q⟩
theorem PE.KP {e:Expr}{t:TE}(h:PE X.KP e t):PE X e t:=fun pins s σ H Q I hw=>
 wpAny_mono (h pins s σ H Q (I.vZ _) hw) (fun _ _ ⟨v,H',I',r,q⟩=>⟨v,H',I'.mU,r,q⟩) fun _ _ z=>False.elim z
theorem PT.KP {e:Expr}{t:TT}(h:PT X.KP e t):PT X e t:=fun pins s σ H Q I hw=>
 wpAny_mono (h pins s σ H Q (I.vZ _) hw) (fun _ _ ⟨H',I',q⟩=>⟨H',I'.mU,q⟩) fun _ _ z=>False.elim z
theorem C6.KP {st:List Stmt}{t:TS}(h:C6 X.KP st t):C6 X st t:=fun pins s σ H D I hw=>
 wpAny_mono (h pins s σ H D (I.vZ _) hw) (fun _ _ q=>q.mU) fun _ _ z=>False.elim z
end
section
variable {X:Cx}{st:Stmt}{rest:List Stmt}{t u:TS}{e:Expr}{te:TE}{pos:Pos}
noncomputable def QF:TS:=fun D σ H=>D.nx σ H
noncomputable def Wr (t u:TS):TS:=fun D σ H=>t {D with nx:=u D} σ H
theorem KQ:C6 X [] QF:=fun _ _ σ H _ I h=>wpAny_execs_nil ⟨σ,H,I,h⟩
theorem HR (h1:PS X st t) (h2:C6 X rest u):C6 X (st :: rest) (Wr t u):=by
 intro pins s σ H D I h
 refine wpAny_execs_cons (fR (h1 pins s σ H {D with nx:=u D} I h) fun f s1 q=>?_)
 cases f with
 | next=>
  obtain⟨σ',H',I',q⟩:=q
  exact h2 pins s1 σ' H' D I' q
 | ret v=>exact q
 | brk=>exact q
 | cont=>exact q
theorem KR (h1:PS X st t):C6 X [st] t:=by
 intro pins s σ H D I h
 refine wpAny_execs_cons (fR (h1 pins s σ H D I h) fun f s1 q=>?_)
 cases f with
 | next=>exact wpAny_execs_nil q
 | ret v=>exact q
 | brk=>exact q
 | cont=>exact q
theorem Inv.quiet {pins:List (Addr×Obj)}{σ:St}{H:Hp}{s:Shared}(I:Inv X pins σ H s):interactive X.env=false:=by simp[interactive,I.ok.kind]
noncomputable def QG (te:TE):TS:=fun D σ H=>te σ H fun _ H1=>D.nx σ H1
theorem KS (he:PE X e te) (hs:swapsWith e none pos.line X.env=pure false:=by rfl):PS X (.Expr e pos) (QG te):=by
 intro pins s σ H D I h
 exact wpAny_Expr_any (fR (he pins s σ H _ I h) fun v s1 ⟨x,H1,I1,r1,q1⟩=>⟨σ,H1,I1,q1⟩) I.quiet hs
noncomputable def Ws (te:TE):TS:=fun D σ H=>te σ H D.rt
theorem Np (he:PE X e te):PS X (.Return (some e) pos) (Ws te):=by
 intro pins s σ H D I h
 exact wpAny_Return_some (fR (he pins s σ H _ I h) fun v s1 ⟨x,H1,I1,r1,q1⟩=>⟨x,σ,H1,I1,r1,q1⟩)
noncomputable def Wt (c:TT) (t u:TS):TS:=fun D σ H=>c σ H fun b H1=>if b=true then t D σ H1 else u D σ H1
theorem QH {c:Expr}{a b:List Stmt}{tc:TT}(hc:PT X c tc) (ha:C6 X a t) (hb:C6 X b u):PS X (.If c a b pos) (Wt tc t u):=by
 intro pins s σ H D I h
 refine wpAny_If (fR (hc pins s σ H _ I h) fun d s1 ⟨H1,I1,q1⟩=>?_)
 cases d with
 | true=>exact ha pins s1 σ H1 D I1 q1
 | false=>exact hb pins s1 σ H1 D I1 q1
end
noncomputable abbrev TG:=V→St→Hp→(St→Hp→Prop)→Prop
noncomputable abbrev KU:=List V→St→Hp→(St→Hp→Prop)→Prop
noncomputable def PG (X:Cx) (target:Expr) (t:TG):Prop:=
 ∀(pins:List (Addr×Obj)) (s:Shared) (σ:St) (H:Hp) (v:V) (u:Value) (Q:St→Hp→Prop),Inv X pins σ H s→RelV v u→t v σ H Q→
  wpAny (model X.prog X.w) X.A (assign target X.env u) (fun _ s'=>∃σ' H',Inv X pins σ' H' s'∧Q σ' H') X.xe s
noncomputable def MD (X:Cx) (ts:List Expr) (t:KU):Prop:=
 ∀(pins:List (Addr×Obj)) (s:Shared) (σ:St) (H:Hp) (vs:List V) (us:List Value) (Q:St→Hp→Prop),Inv X pins σ H s→Vals vs us→t vs σ H Q→
  wpAny (model X.prog X.w) X.A (assignInOrder ((assignEach ts X.env).map (·.2)) us) (fun _ s'=>∃σ' H',Inv X pins σ' H' s'∧Q σ' H') X.xe s
noncomputable abbrev Nq:=V→V→V→Hp→(Hp→Prop)→Prop
noncomputable def QI (X:Cx) (t:Nq):Prop:=
 ∀(pins:List (Addr×Obj)) (s:Shared) (σ:St) (H:Hp) (o i v:V) (ov iv u:Value) (Q:Hp→Prop),Inv X pins σ H s→RelV o ov→RelV i iv→RelV v u→t o i v H Q→
  wpAny (model X.prog X.w) X.A (setItem ov iv u) (fun _ s'=>∃H',Inv X pins σ H' s'∧Q H') X.xe s
section
variable {X:Cx}{pos:Pos}
noncomputable def zo (i:Nat):TG:=fun v σ H Q=>Q (σ.set i (some v)) H
theorem Ey {i:Nat}{x:Str}(hN:X.N.Nodup) (hi:X.N[i]? =some x) (hx:Loc X.env.scope x) (hf:X.fn x=true∨X.env.scope.names.lookup x=some .local:=by first | exact .inl rfl | exact .inr rfl | assumption):PG X (.Name x pos) (zo i):=by
 intro pins s σ H v u Q I r h
 exact wpAny_assign_Name (Bw I hN hi hx r (fun s' I'=>⟨_,H,I',h⟩) hf)
noncomputable def Wu:KU:=fun vs σ H Q=>vs=[]∧Q σ H
noncomputable def QJ (t:TG) (u:KU):KU:=fun vs σ H Q=>∃v r,vs=v :: r∧t v σ H fun σ' H'=>u r σ' H' Q
theorem KW:MD X [] Wu:=by
 intro pins s σ H vs us Q I r h
 obtain⟨e,h⟩:=h
 subst e
 cases r
 exact assignInOrder_nil ⟨σ,H,I,h⟩
theorem HS {e:Expr}{es:List Expr}{t:TG}{u:KU}(h1:PG X e t) (h2:MD X es u)
  (hs:(assignEach (e :: es) X.env).map (·.2)=assign e X.env :: (assignEach es X.env).map (·.2):=by rfl):MD X (e :: es) (QJ t u):=by
 intro pins s σ H vs us Q I r h
 obtain⟨v,vr,e1,h⟩:=h
 subst e1
 cases r with
 | cons r rr=>
  rw[hs]
  refine assignInOrder_cons (fR (h1 pins s σ H _ _ _ I r h) fun _ s1 ⟨σ1,H1,I1,q1⟩=>?_)
  exact h2 pins s1 σ1 H1 _ _ Q I1 rr q1
noncomputable def Wv (to ti:TE) (t:Nq):TG:=fun v σ H Q=>to σ H fun o H1=>ti σ H1 fun i H2=>t o i v H2 fun H3=>Q σ H3
theorem Nr {o i:Expr}{to ti:TE}{t:Nq}(ho:PE X o to) (hi:PE X i ti) (hs:QI X t)
  (ha:∀v,assign (.Subscript o i pos) X.env v=(do
   let ov ←holding [v] (eval o X.env)
   let iv ←holding [v,ov] (eval i X.env)
   standAt pos
   holding [v,ov,iv] (setItem ov iv v)
   release [v,ov,iv] []):=by intro _;rfl):PG X (.Subscript o i pos) (Wv to ti t):=by
 intro pins s σ H v u Q I r h
 rw[ha]
 refine wpAny_bind (wpAny_holding (fR (ho pins s σ H _ I h) fun ov s1 ⟨x,H1,I1,r1,q1⟩=>?_))
 refine wpAny_bind (wpAny_holding (fR (hi pins s1 σ H1 _ I1 q1) fun iv s2 ⟨y,H2,I2,r2,q2⟩=>?_))
 refine wpAny_bind (wpAny_standAt (wpAny_bind (wpAny_holding (fR (hs pins s2 σ H2 x y v ov iv u _ I2 r1 r2 r q2) fun _ s3 ⟨H3,I3,q3⟩=>?_))))
 exact wpAny_release ⟨σ,H3,I3,q3⟩
noncomputable def KY (te:TE) (g:TG):TS:=fun D σ H=>te σ H fun x H1=>g x σ H1 D.nx
theorem HU {tg e:Expr}{te:TE}{g:TG}(he:PE X e te) (hg:PG X tg g) (hs:swapsWithSole [tg] e pos.line X.env=pure false:=by rfl) (hw:swappedStores [tg] e X.env=pure none:=by rfl)
  (h1:(assignEach [tg] X.env).map (·.2)=[assign tg X.env]:=by rfl):PS X (.Assign [tg] e pos) (KY te g):=by
 intro pins s σ H D I h
 refine wpAny_Assign_stores (fR (he pins s σ H _ I h) fun v s1 ⟨x,H1,I1,r1,q1⟩=>?_) hs hw
 rw[h1]
 exact fR (hg pins s1 σ H1 x v _ I1 r1 q1) fun _ s2 q=>q
theorem Nt {i:Nat}{x:Str}{e:Expr}{te:TE}{pos':Pos}(hN:X.N.Nodup) (hi:X.N[i]? =some x) (hx:Loc X.env.scope x) (he:PE X e te) (hs:swapsWith e (some (.Name x pos')) pos.line X.env=pure false:=by rfl) (hf:X.fn x=true∨X.env.scope.names.lookup x=some .local:=by first | exact .inl rfl | exact .inr rfl | assumption):
  PS X (.Assign [.Name x pos'] e pos) (KY te (zo i)):=by
 intro pins s σ H D I h
 refine wpAny_Assign_Name (fR (he pins s σ H _ I h) fun v s1 ⟨y,H1,I1,r1,q1⟩=>?_) hs
 exact Bw I1 hN hi hx r1 (fun s2 I2=>⟨_,H1,I2,q1⟩) hf
end
section
variable {X:Cx}{pos:Pos}
end
structure It where
 go:Nat→Hp→Prop
 UY:Nat→Hp→V→Hp→Prop
 stop:Nat→Hp→Prop
noncomputable def wM (X:Cx) (pins:List (Addr×Obj)) (H:Hp) (b:Addr):Prop:=
 H b=none∧b≠X.env.locals∧b∉X.fs∧(b∈X.ex∨X.s₀.heap.objs.size≤b)∧(∀x c,X.env.cells.lookup x=some c→c≠b)∧∀p∈X.pn++pins,p.1≠b
theorem Inv.HV {X:Cx}{pins:List (Addr×Obj)}{σ:St}{H H':Hp}{s:Shared}{b:Addr}(I:Inv X pins σ H s) (hb:s.heap.objs.size≤b) (hn:H' b=none):wM X pins H' b:=by
 refine⟨hn,Nat.ne_of_gt (Nat.lt_of_lt_of_le I.lt hb),I.Qx hb,.inr (Nat.le_trans I.sz hb),fun x c e z=>?_,fun p hp z=>?_⟩
 ·obtain⟨v,q⟩:=I.cell x c e
  exact absurd (Nat.lt_of_lt_of_le q.lt (by rw[z];exact hb)) (Nat.lt_irrefl _)
 ·exact absurd (Nat.lt_of_lt_of_le (Heap.lt_size (I.pin p hp).1) (by rw[z];exact hb)) (Nat.lt_irrefl _)
structure Turn (P:Program) (w:World) (K:PySem.W.Frag) (tg:Expr) (J:It) (fp:List Addr) (it:Addr) (tn:Nat→Heap→Prop):Prop where
 mem:it∈fp
 obj:∀i h,tn i h→∀b∈fp,∃o,h.get? b=some o∧∀v,o.data≠.cell v
 keep:∀i h h',tn i h→(∀b∈fp,∀o,h.get? b=some o→h'.get? b=some o)→tn i h'
 item:∀(X:Cx),X.prog=P→X.w=w→X.K=K→X.calm=true→∀(i:Nat) (pins:List (Addr×Obj)) (s:Shared) (σ:St) (H:Hp) (E:Value→Shared→Prop),Inv X pins σ H s→(∀b∈fp,wM X pins H b)→tn i s.heap→J.go i H→
  wpAny (model P w) X.A (pyNext (.ref it)) (fun r s1=>∃u,r=some u∧
   wpAny (model P w) X.A (letOwnedTupleGo tg (.ref it) u) (fun _ s2=>∃x H',Inv X pins σ H' s2∧RelV x u∧J.UY i H x H'∧tn (i+1) s2.heap∧∀b∈fp,H' b=none) E s1) E s
 done:∀(X:Cx),X.prog=P→X.w=w→X.K=K→X.calm=true→∀(i:Nat) (pins:List (Addr×Obj)) (s:Shared) (σ:St) (H:Hp) (E:Value→Shared→Prop),Inv X pins σ H s→(∀b∈fp,wM X pins H b)→tn i s.heap→J.stop i H→
  wpAny (model P w) X.A (pyNext (.ref it)) (fun r s1=>r=none∧Inv X pins σ H s1) E s
 self:∀(A:Around) (i:Nat) (s:Shared) (Q:Value→Shared→Prop) (E:Value→Shared→Prop),tn i s.heap→Q (.ref it) s→wpAny (model P w) A (pyIter (.ref it)) Q E s
noncomputable abbrev TI:=St→Hp→(It→Hp→Prop)→Prop
noncomputable def Ww (X:Cx) (pins:List (Addr×Obj)) (σ:St) (tg:Expr) (R:It→Hp→Prop) (itv:Value) (s2:Shared):Prop:=
 ∃(it:Addr) (fp:List Addr) (tn:Nat→Heap→Prop) (J:It) (H':Hp),itv= .ref it∧Inv X pins σ H' s2∧Turn X.prog X.w X.K tg J fp it tn∧tn 0 s2.heap∧(∀b∈fp,wM X pins H' b)∧R J H'
noncomputable def PI (X:Cx) (tg iter:Expr) (wi:TI):Prop:=
 ∀(pins:List (Addr×Obj)) (s:Shared) (σ:St) (H:Hp) (R:It→Hp→Prop),Inv X pins σ H s→wi σ H R→
  wpAny (model X.prog X.w) X.A (eval iter X.env) (fun v s1=>wpAny (model X.prog X.w) X.A (pyIter v) (Ww X pins σ tg R) X.xe s1) X.xe s
theorem HW {M : Model} {A : Around} {E : Value → Shared → Prop} {s : Shared} {tg : Expr} {it : Addr} {u : Value} {o : Obj} {n : String} {vs : Array Value} {Q : Unit → Shared → Prop} (ho : s.heap.get? it = some o) (hc : o.cls = .type n) (hd : o.data = .fields vs)
    (hn:["enumerate","zip","dict_itemiterator","dict_reverseitemiterator","odict_iterator","itertools.zip_longest","itertools.pairwise"].contains n=false) (hQ:Q () s):wpAny M A (letOwnedTupleGo tg (.ref it) u) Q E s:=by
  unfold letOwnedTupleGo
  cases tg <;> first
    | exact wpAny_pure hQ
    | (cases u <;> first
        | exact wpAny_pure hQ
        | (refine wpAny_bind (wpAny_load ho ?_)
           rw[hc,hd]
           show wpAny M A (if(["enumerate","zip","dict_itemiterator","dict_reverseitemiterator","odict_iterator","itertools.zip_longest","itertools.pairwise"].contains n && vs[0]? == some (rawInt _))=true then _ else _) Q E s
           rw[if_neg (by intro h;rw[hn,Bool.false_and] at h;cases h)]
           exact wpAny_pure hQ))
noncomputable def Wx (K:PySem.W.Frag) (a:Addr):It:=
 ⟨fun i H=>∃xs x,qZ K H a xs∧xs[i]? =some x,fun i H x H'=>H'=H∧∀xs,qZ K H a xs→xs[i]? =some x,fun i H=>∃xs,qZ K H a xs∧xs.length≤i⟩
noncomputable def Wy (K:PySem.W.Frag) (a:Addr):It:=
 ⟨fun i H=>∃xs x,Ag K H a xs∧xs[i]? =some x,fun i H x H'=>H'=H∧∀xs,Ag K H a xs→xs[i]? =some x,fun i H=>∃xs,Ag K H a xs∧xs.length≤i⟩
noncomputable def UZ (lo:Int) (n:Nat):It:=⟨fun i _=>i < n,fun i H x H'=>H'=H∧x= .int (lo+i),fun i _=>n≤i⟩
theorem Fw {P:Program}{w:World}{K:PySem.W.Frag}{tg:Expr}(a it:Addr):Turn P w K tg (Wx K a) [it] it (fun i h=>h.IsListIter it a i) where
 mem:=by simp
 obj:=fun i h st b hb=>by
  have e:b=it:=by simpa using hb
  subst e
  obtain⟨o,e,c,d⟩:=st
  exact⟨o,e,fun v z=>by rw[d] at z;cases z⟩
 keep:=fun i h h' st k=>st.at fun o e=>k it (by simp) o e
 item:=by
  intro X hP hw hK hc i pins s σ H E I hf st hg
  subst hP hw hK
  obtain⟨xs,x,hq,hx⟩:=hg
  obtain⟨its,rv,p,hz⟩:=I.list hq
  obtain⟨u,hu,ru⟩:=rv.get hx
  obtain⟨f0,f1,f2,f3,f4,f5⟩:=hf it (by simp)
  refine wpAny_pyNext_list_item st p.isList (x:=u) (by simpa using hu) fun h' st' sb=>?_
  have I1:Inv X pins σ H {s with heap:=h'}:=I.turned (t':=s.toks) (fun b o hb e=>(sb.2 b hb).trans e) f0 f1 f3 f4 f5
  obtain⟨o,e,c,d⟩:=id st'
  exact⟨u,rfl,HW (s:={s with heap:=h'}) e c d (by decide) ⟨x,H,I1,ru,⟨rfl,fun ys hy=>by rw[I.HQ hy hq];exact hx⟩,st',fun b hb=>(hf b hb).1⟩⟩
 done:=by
  intro X hP hw hK hc i pins s σ H E I hf st hg
  subst hP hw hK
  obtain⟨xs,hq,hx⟩:=hg
  obtain⟨its,rv,p,hz⟩:=I.list hq
  obtain⟨f0,f1,f2,f3,f4,f5⟩:=hf it (by simp)
  have hl:=rv.length
  exact wpAny_pyNext_list_end (I.ok.hd hc) st p.isList (by simp;omega) fun h' eb=>⟨rfl,I.turned (t':=s.toks) (fun b o hb e=>eb b o hb e) f0 f1 f3 f4 f5⟩
 self:=fun _ _ _ _ _ st h=>wpAny_pyIter_listiter st h
theorem C7 {P:Program}{w:World}{K:PySem.W.Frag}{tg:Expr}(a it:Addr):Turn P w K tg (Wy K a) [it] it (fun i h=>h.IsTupleIter it a i) where
 mem:=by simp
 obj:=fun i h st b hb=>by
  have e:b=it:=by simpa using hb
  subst e
  obtain⟨o,e,c,d⟩:=st
  exact⟨o,e,fun v z=>by rw[d] at z;cases z⟩
 keep:=fun i h h' st k=>st.at fun o e=>k it (by simp) o e
 item:=by
  intro X hP hw hK hc i pins s σ H E I hf st hg
  subst hP hw hK
  obtain⟨xs,x,hq,hx⟩:=hg
  obtain⟨its,rv,p,hz⟩:=I.tuple hq
  obtain⟨u,hu,ru⟩:=rv.get hx
  obtain⟨f0,f1,f2,f3,f4,f5⟩:=hf it (by simp)
  refine wpAny_pyNext_tuple_item st (show s.heap.IsTuple a its.toArray from p) (x:=u) (by simpa using hu) fun h' st' sb=>?_
  have I1:Inv X pins σ H {s with heap:=h'}:=I.turned (t':=s.toks) (fun b o hb e=>(sb.2 b hb).trans e) f0 f1 f3 f4 f5
  obtain⟨o,e,c,d⟩:=id st'
  exact⟨u,rfl,HW (s:={s with heap:=h'}) e c d (by decide) ⟨x,H,I1,ru,⟨rfl,fun ys hy=>by rw[I.Fv hy hq];exact hx⟩,st',fun b hb=>(hf b hb).1⟩⟩
 done:=by
  intro X hP hw hK hc i pins s σ H E I hf st hg
  subst hP hw hK
  obtain⟨xs,hq,hx⟩:=hg
  obtain⟨its,rv,p,hz⟩:=I.tuple hq
  obtain⟨f0,f1,f2,f3,f4,f5⟩:=hf it (by simp)
  have hl:=rv.length
  exact wpAny_pyNext_tuple_end (I.ok.hd hc) st (show s.heap.IsTuple a its.toArray from p) (by simp;omega) fun h' eb=>⟨rfl,I.turned (t':=s.toks) (fun b o hb e=>eb b o hb e) f0 f1 f3 f4 f5⟩
 self:=fun _ _ _ _ _ st h=>wpAny_pyIter_tupleiter st h
theorem C8 {P:Program}{w:World}{K:PySem.W.Frag}{tg:Expr}(it:Addr) (lo:Int) (n:Nat):Turn P w K tg (UZ lo n) [it] it (fun i h=>IsRangeIter h it (lo+(i:Nat) * 1) ((n:Int) - (i:Nat)) 1) where
  mem:=by simp
  obj := fun i h st b hb => by
    have e:b=it:=by simpa using hb
    subst e
    exact⟨_,st,fun v z=>by
      have z':Data.fields _=Data.cell v:=z
      cases z'⟩
  keep:=fun i h h' st k=>k it (by simp) _ st
  item:=by
    intro X hP hw hK hc i pins s σ H E I hf st hg
    subst hP hw hK
    obtain⟨f0,f1,f2,f3,f4,f5⟩:=hf it (by simp)
    have W:=Walks.range (prog:=X.prog) (w:=X.w) (I.ok.hd hc) it lo 1 n
    refine W.item i s _ _ hg st fun v h' tk hv st' kk=>?_
    obtain⟨t,rfl⟩:=hv
    have I1:Inv X pins σ H {s with heap:=h',toks:=tk}:=I.turned (fun b o hb e=>kk b o (by simpa using hb) e) f0 f1 f3 f4 f5
    refine⟨_,rfl,HW (s:={s with heap:=h',toks:=tk}) (n:="range_iterator") st' rfl rfl (by decide) ⟨.int (lo+i),H,I1,⟨t,?_⟩,⟨rfl,rfl⟩,st',fun b hb=>(hf b hb).1⟩⟩
    rw[Int.mul_one]
  done:=by
    intro X hP hw hK hc i pins s σ H E I hf st hg
    subst hP hw hK
    obtain⟨f0,f1,f2,f3,f4,f5⟩:=hf it (by simp)
    exact wpAny_pyNext_range_end (I.ok.hd hc) st (by have:n≤i:=hg;omega) fun h' eb=>⟨rfl,I.turned (t':=s.toks) (fun b o hb e=>eb b o hb e) f0 f1 f3 f4 f5⟩
  self:=fun _ _ _ _ _ st h=>wpAny_pyIter_rangeiter st h
end L2
namespace L2
open PySem PySem.Spec PyProof.Rows
section
variable {X:Cx}{tg:Expr}
noncomputable def QK (K:PySem.W.Frag) (tl:TE):TI:=fun σ H R=>tl σ H fun x H1=>∃a,x= .ref a∧(∃xs,qZ K H1 a xs)∧R (Wx K a) H1
noncomputable def Wz (K:PySem.W.Frag) (tl:TE):TI:=fun σ H R=>tl σ H fun x H1=>∃a,x= .ref a∧(∃xs,Ag K H1 a xs)∧R (Wy K a) H1
theorem KZ {l:Expr}{tl:TE}(hl:PE X l tl):PI X tg l (QK X.K tl):=by
 intro pins s σ H R I h
 refine fR (hl pins s σ H _ I h) fun v s1 ⟨x,H1,I1,r1,q1⟩=>?_
 obtain⟨a,e,⟨xs,hq⟩,q⟩:=q1
 subst e
 cases r1
 obtain⟨its,rv,p,hz⟩:=I1.list hq
 refine wpAny_pyIter_list p.isList ?_
 refine⟨s1.heap.objs.size,[s1.heap.objs.size],_,_,H1,rfl,I1.kept (t':=s1.toks) fun b o e=>Heap.get?_push_of_some _ e,Fw a _,⟨_,Heap.get?_push_size _ rfl,rfl,rfl⟩,fun b hb=>?_,q⟩
 have e:b=s1.heap.objs.size:=by simpa using hb
 subst e
 exact I1.HV (Nat.le_refl _) (I1.hok.fresh (Nat.le_refl _))
theorem Nu {l:Expr}{tl:TE}(hl:PE X l tl):PI X tg l (Wz X.K tl):=by
 intro pins s σ H R I h
 refine fR (hl pins s σ H _ I h) fun v s1 ⟨x,H1,I1,r1,q1⟩=>?_
 obtain⟨a,e,⟨xs,hq⟩,q⟩:=q1
 subst e
 cases r1
 obtain⟨its,rv,p,hz⟩:=I1.tuple hq
 refine wpAny_pyIter_tuple (show s1.heap.IsTuple a its.toArray from p) ?_
 refine⟨s1.heap.objs.size,[s1.heap.objs.size],_,_,H1,rfl,I1.kept (t':=s1.toks) fun b o e=>Heap.get?_push_of_some _ e,C7 a _,⟨_,Heap.get?_push_size _ rfl,rfl,rfl⟩,fun b hb=>?_,q⟩
 have e:b=s1.heap.objs.size:=by simpa using hb
 subst e
 exact I1.HV (Nat.le_refl _) (I1.hok.fresh (Nat.le_refl _))
theorem HX {pins:List (Addr×Obj)}{σ:St}{H:Hp}{s:Shared}{R:It→Hp→Prop}{E:Value→Shared→Prop}{lo hi:Int}{t u v:Tok}{tk:Nat}(I:Inv X pins σ H s) (h1:-(2 ^ 62)≤lo) (h2:lo < 2 ^ 62) (h3:-(2 ^ 62)≤hi) (h4:hi < 2 ^ 62)
  (q:R (UZ lo (hi - lo).toNat) H):wpAny (model X.prog X.w) X.A (pyIter (.ref s.heap.objs.size)) (Ww X pins σ tg R) E {s with heap:=s.heap.push {cls:=.type "range",data:=.fields #[.int lo t,.int hi u,.int 1 v]},toks:=tk}:=by
 refine wpAny_pyIter_range (IsRange.new ..) (small_one h1 h2 h3 h4) ?_
 have I1:Inv X pins σ H {s with heap:=s.heap.push {cls:=.type "range",data:=.fields #[.int lo t,.int hi u,.int 1 v]},toks:=tk}:=I.kept fun b o e=>Heap.get?_push_of_some _ e
 refine⟨(s.heap.push {cls:=.type "range",data:=.fields #[.int lo t,.int hi u,.int 1 v]}).objs.size,[(s.heap.push {cls:=.type "range",data:=.fields #[.int lo t,.int hi u,.int 1 v]}).objs.size],_,_,H,rfl,
  I1.kept (t':=tk) fun b o e=>Heap.get?_push_of_some _ e,C8 _ lo (hi - lo).toNat,?_,fun b hb=>?_,q⟩
 ·have e1:lo+((0:Nat):Int) * 1=lo:=by simp
  have e2:(((hi - lo).toNat:Nat):Int) - ((0:Nat):Int)=Builtin.Range.rangeSize lo hi 1:=by rw[rangeSize_one];split <;> omega
  show IsRangeIter _ _ (lo+((0:Nat):Int) * 1) ((((hi - lo).toNat:Nat):Int) - ((0:Nat):Int)) 1
  rw[e1,e2]
  exact Heap.get?_push_size _ rfl
 ·have e:b=(s.heap.push {cls:=.type "range",data:=.fields #[.int lo t,.int hi u,.int 1 v]}).objs.size:=by simpa using hb
  subst e
  exact I1.HV (Nat.le_refl _) (I1.hok.fresh (Nat.le_refl _))
noncomputable def QL (ta:TA):TI:=fun σ H R=>ta σ H fun vs H1=>∃j:Int,vs=[.int j]∧-(2 ^ 62)≤j∧j < 2 ^ 62∧R (UZ 0 j.toNat) H1
theorem Fx {a:Expr}{ta:TA}{p pos:Pos}(hg:Gl X "range") (hm:X.mg "range" =none) (ha:PA X [a] ta) (hs:starEach [a] X.env=[(false,eval a X.env)]:=by rfl):PI X tg (.Call (.Name "range" p) [a] [] pos) (QL ta):=by
 intro pins s σ H R I h
 refine Call_ (Af I hg hm boot_range (PyProof.Rows.callWith_type1 (fR (ha pos pins s σ H _ I h) fun us s1 ⟨vs,H1,I1,r1,q1⟩=>?_) hs rfl))
 obtain⟨j,e,q1,q2,q⟩:=q1
 subst e
 cases r1 with
 | cons r rr=>
  cases rr
  obtain⟨t,rfl⟩:=r
  exact call_range_1 (HX I1 (by omega) (by omega) q1 q2 (by simpa using q))
noncomputable def WA (wi:TI) (g:TG) (tb:TS):TS:=fun D σ H=>wi σ H fun J H1=>∃W:Nat→Nat→St→Hp→Prop,(∃m,W 0 m σ H1)∧∀i m σ H,W i m σ H→
 (J.stop i H∧D.nx σ H)∨(J.go i H∧∃N:St→Hp→Prop,(∀σ' H',N σ' H'→∃m',m' < m∧W (i+1) m' σ' H')∧∀x H',J.UY i H x H'→g x σ H' fun σ2 H2=>tb {D with nx:=N,ct:=N,bk:=D.nx} σ2 H2)
noncomputable def sF (fp:List Addr) (h:Heap):List (Addr×Obj):=fp.filterMap fun b=>(h.get? b).map fun o=>(b,o)
theorem jc {fp:List Addr}{h:Heap}{b:Addr}{o:Obj}(hb:b∈fp) (e:h.get? b=some o):(b,o)∈sF fp h:=List.mem_filterMap.mpr ⟨b,hb,by rw[e];rfl⟩
theorem uP {fp:List Addr}{h:Heap}{p:Addr×Obj}(hp:p∈sF fp h):p.1∈fp∧h.get? p.1=some p.2:=by
 obtain⟨b,hb,e⟩:=List.mem_filterMap.mp hp
 cases q:h.get? b with
 | none=>rw[q] at e;cases e
 | some o=>
  rw[q] at e
  have e':(b,o)=p:=Option.some.inj e
  subst e'
  exact⟨hb,q⟩
theorem Inv.pinned {pins:List (Addr×Obj)}{σ:St}{H:Hp}{s:Shared}{fp:List Addr}(I:Inv X pins σ H s) (hf:∀b∈fp,wM X pins H b) (ho:∀b∈fp,∃o,s.heap.get? b=some o∧∀v,o.data≠.cell v):Inv X (pins++sF fp s.heap) σ H s:=
 I.Ew fun p hp=>(List.mem_append.mp hp).elim (fun z=>I.pin p (List.mem_append_right _ z)) fun z=>by
  obtain⟨hb,e⟩:=uP z
  obtain⟨f0,f1,f2,_⟩:=hf p.1 hb
  obtain⟨o,e',d⟩:=ho p.1 hb
  rw[e] at e';cases e'
  exact⟨e,f0,f1,f2,d⟩
theorem Inv.pW {pins pl:List (Addr×Obj)}{σ:St}{H:Hp}{s:Shared}(I:Inv X (pins++pl) σ H s):Inv X pins σ H s:=I.Ew fun p hp=>I.pin p (List.mem_append_right _ (List.mem_append_left _ hp))
theorem Nv {iter:Expr}{body:List Stmt}{wi:TI}{g:TG}{tb:TS}{pos:Pos}(hp:PassesOwn (model X.prog X.w) X.A X.env X.xe) (hc:X.calm=true) (hi:PI X tg iter wi) (hg:PG X tg g) (hb:C6 X body tb)
  (hs:∀x,foldedSetIterable iter X.env x=pure x:=by intro _;rfl):PS X (.For tg iter body [] pos) (WA wi g tb):=by
 intro pins s σ H D I h
 refine wpAny_For (fR (hi pins s σ H _ I h) fun v s1 h1=>fR h1 fun itv s2 h2=>?_) hs
 obtain⟨it,fp,tn,J,H2,e,I2,T,st2,f2,W,⟨m0,w0⟩,turn⟩:=h2
 subst e
 have Nx:∀{H':Hp},(∀b∈fp,H' b=none)→∀b∈fp,wM X pins H' b:=fun hn b hb=>⟨hn b hb,(f2 b hb).2⟩
 refine codeAny_forLoop_any (fun n s'=>∃i σ' H',Inv X pins σ' H' s'∧tn i s'.heap∧(∀b∈fp,H' b=none)∧W i n σ' H') ?_ m0 ⟨0,σ,H2,I2,st2,fun b hb=>(f2 b hb).1,w0⟩
 rintro n s3 ⟨i,σ3,H3,I3,st3,fr3,w3⟩
 rcases turn i n σ3 H3 w3 with⟨stop,qn⟩ | ⟨go,N,hN,step⟩
 ·refine wpAny_passesOwn hp (fR (T.done X rfl rfl rfl hc i pins s3 σ3 H3 X.xe I3 (Nx fr3) st3 stop) fun r s4 ⟨hr,I4⟩=>?_)
  subst hr
  exact wpAny_execs_nil ⟨σ3,H3,I4,qn⟩
 ·refine wpAny_passesOwn hp (fR (T.item X rfl rfl rfl hc i pins s3 σ3 H3 X.xe I3 (Nx fr3) st3 go) fun r s4 ⟨u,hr,h4⟩=>?_)
  subst hr
  refine wpAny_passesOwn hp (fR h4 fun _ s5 ⟨x,H5,I5,r5,y5,WB,fr5⟩=>?_)
  have I5':=I5.pinned (Nx fr5) (T.obj _ _ WB)
  refine wpAny_passesOwn hp (fR (hg _ s5 σ3 H5 x u _ I5' r5 (step x H5 y5)) fun _ s6 ⟨σ6,H6,I6,q6⟩=>?_)
  refine wpAny_passesOwn hp (fR (hb _ s6 σ6 H6 _ I6 q6) fun f s7 q7=>?_)
  have again:∀{HY:St}{H7:Hp},Inv X (pins++sF fp s5.heap) HY H7 s7→N HY H7→∃m,m < n∧∃i σ' H',Inv X pins σ' H' s7∧tn i s7.heap∧(∀b∈fp,H' b=none)∧W i m σ' H':=fun {HY H7} I7 n7=>by
   obtain⟨m',hm,w7⟩:=hN HY H7 n7
   refine⟨m',hm,i+1,HY,H7,I7.pW,T.keep _ _ _ WB fun b hb o e=>(I7.pin (b,o) (List.mem_append_right _ (List.mem_append_right _ (jc hb e)))).1,fun b hb=>?_,w7⟩
   obtain⟨o,e,d⟩:=T.obj _ _ WB b hb
   exact(I7.pin (b,o) (List.mem_append_right _ (List.mem_append_right _ (jc hb e)))).2.1
  cases f with
  | next=>obtain⟨HY,H7,I7,n7⟩:=q7;exact again I7 n7
  | cont=>obtain⟨HY,H7,I7,n7⟩:=q7;exact again I7 n7
  | brk=>obtain⟨HY,H7,I7,q7⟩:=q7;exact⟨HY,H7,I7.pW,q7⟩
  | ret v=>obtain⟨x7,HY,H7,I7,r7,q7⟩:=q7;exact⟨x7,HY,H7,I7.pW,r7,q7⟩
end
end L2
namespace L2
open PySem PySem.Spec PyProof.Rows
noncomputable abbrev R2:=V→V→Hp→VK→Prop
noncomputable def uN (X:Cx) (f:Value→Value→Sem Value) (r:R2):Prop:=
 ∀(pins:List (Addr×Obj)) (s:Shared) (σ:St) (H:Hp) (x y:V) (v u:Value) (Q:VK),Inv X pins σ H s→RelV x v→RelV y u→r x y H Q→
  wpAny (model X.prog X.w) X.A (f v u) (EP X pins σ Q) X.xe s
noncomputable def QM (X:Cx) (f:Value→Sem Value) (r:V→Hp→VK→Prop):Prop:=
 ∀(pins:List (Addr×Obj)) (s:Shared) (σ:St) (H:Hp) (x:V) (v:Value) (Q:VK),Inv X pins σ H s→RelV x v→r x H Q→
  wpAny (model X.prog X.w) X.A (f v) (EP X pins σ Q) X.xe s
noncomputable def gY (X:Cx) (f:Value) (r:List V→Hp→VK→Prop):Prop:=
 ∀(pins:List (Addr×Obj)) (s:Shared) (σ:St) (H:Hp) (xs:List V) (us:List Value) (Q:VK),Inv X pins σ H s→Vals xs us→r xs H Q→
  wpAny (model X.prog X.w) X.A (call f us) (EP X pins σ Q) X.xe s
noncomputable def Ny (r:R2) (ta tb:TE):TE:=fun σ H Q=>ta σ H fun x H1=>tb σ H1 fun y H2=>r x y H2 Q
noncomputable def tUn (r:V→Hp→VK→Prop) (ta:TE):TE:=fun σ H Q=>ta σ H fun x H1=>r x H1 Q
noncomputable def rI (C:Int→Int→Prop) (g:Int→Int→V):R2:=fun x y H Q=>∃i j,x= .int i∧y= .int j∧C i j∧Q (g i j) H
noncomputable def ME (g:Int→Int→V):R2:=fun x y H Q=>∃i j,x= .int i∧y= .int j∧Q (g i j) H
noncomputable def rU (g:Int→V):V→Hp→VK→Prop:=fun x H Q=>∃i,x= .int i∧Q (g i) H
section
variable {X:Cx}{a b c:Expr}{ta tb tc:TE}{pos:Pos}
theorem Nz (ha:PE X a ta) (hb:PE X b tb){pins:List (Addr×Obj)}{s:Shared}{σ:St}{H:Hp}{R:V→V→Hp→Prop}(I:Inv X pins σ H s)
  (h:ta σ H fun x H1=>tb σ H1 fun y H2=>R x y H2){Q:Value→Shared→Prop}{f:Value→Value→Sem Value}
  (hf:∀v u s2 x y H2,Inv X pins σ H2 s2→RelV x v→RelV y u→R x y H2→wpAny (model X.prog X.w) X.A (f v u) Q X.xe s2):
  wpAny (model X.prog X.w) X.A (eval a X.env) (fun v s₁=>wpAny (model X.prog X.w) X.A (eval b X.env) (fun u s₂=>wpAny (model X.prog X.w) X.A (f v u) Q X.xe s₂) X.xe s₁) X.xe s:=by
 refine fR (ha pins s σ H _ I h) fun v s1 ⟨x,H1,I1,r1,q1⟩=>?_
 refine fR (hb pins s1 σ H1 _ I1 q1) fun u s2 ⟨y,H2,I2,r2,q2⟩=>?_
 exact hf v u s2 x y H2 I2 r1 r2 q2
theorem QN {op:Operator}{r:R2}(ho:uN X (binaryOp op) r) (ha:PE X a ta) (hb:PE X b tb):PE X (.BinOp a op b pos) (Ny r ta tb):=by
 intro pins s σ H Q I h
 exact wpAny_BinOp (Nz ha hb I h fun v u s2 x y H2 I2 rx ry q=>ho pins s2 σ H2 x y v u Q I2 rx ry q)
theorem QO {op:UnaryOp}{r:V→Hp→VK→Prop}(ho:QM X (unaryOp op) r) (ha:PE X a ta):PE X (.UnaryOp op a pos) (tUn r ta):=by
 intro pins s σ H Q I h
 exact UnaryOp_ (fR (ha pins s σ H _ I h) fun v s1 ⟨x,H1,I1,r1,q1⟩=>ho pins s1 σ H1 x v Q I1 r1 q1)
theorem U0 {f:Value→Value→Sem Value}{C:Int→Int→Prop}{g:Int→Int→Int}
  (rule:∀(i j:Int) (t u:Tok) (s:Shared) (Q:Value→Shared→Prop) (E:Value→Shared→Prop),C i j→Q (.int (g i j) s.toks) {s with toks:=s.toks+1}→wpAny (model X.prog X.w) X.A (f (.int i t) (.int j u)) Q E s):
  uN X f (rI C fun i j=>.int (g i j)):=by
 intro pins s σ H x y v u Q I rx ry h
 obtain⟨i,j,rfl,rfl,hc,q⟩:=h
 obtain⟨t,rfl⟩:=rx
 obtain⟨t',rfl⟩:=ry
 exact rule i j t t' s _ _ hc ⟨.int (g i j),H,I.tok _,⟨_,rfl⟩,q⟩
theorem QS {f:Value→Value→Sem Value}{g:Int→Int→Int}
  (rule:∀(i j:Int) (t u:Tok) (s:Shared) (Q:Value→Shared→Prop) (E:Value→Shared→Prop),Q (.int (g i j) s.toks) {s with toks:=s.toks+1}→wpAny (model X.prog X.w) X.A (f (.int i t) (.int j u)) Q E s):
  uN X f (ME fun i j=>.int (g i j)):=by
 intro pins s σ H x y v u Q I rx ry h
 obtain⟨i,j,rfl,rfl,q⟩:=h
 obtain⟨t,rfl⟩:=rx
 obtain⟨t',rfl⟩:=ry
 exact rule i j t t' s _ _ ⟨.int (g i j),H,I.tok _,⟨_,rfl⟩,q⟩
theorem K0 {f:Value→Value→Sem Value}{g:Int→Int→Bool}
  (rule:∀(i j:Int) (t u:Tok) (s:Shared) (Q:Value→Shared→Prop) (E:Value→Shared→Prop),Q (.bool (g i j)) s→wpAny (model X.prog X.w) X.A (f (.int i t) (.int j u)) Q E s):
  uN X f (ME fun i j=>.bl (g i j)):=by
 intro pins s σ H x y v u Q I rx ry h
 obtain⟨i,j,rfl,rfl,q⟩:=h
 obtain⟨t,rfl⟩:=rx
 obtain⟨t',rfl⟩:=ry
 exact rule i j t t' s _ _ ⟨.bl (g i j),H,I,rfl,q⟩
noncomputable def QT (i j:Int):Prop:=0 < j∧j < 1073741824
noncomputable def WC (i j:Int):Prop:=0≤j∧j≤1000000∧i.natAbs < 2 ^ 64
noncomputable def NB (i j:Int):Prop:=(-(2 ^ 64) < i∧i < 2 ^ 64)∨(-(2 ^ 64) < j∧j < 2 ^ 64)
theorem NB.ok {i j:Int}(h:NB i j):IntMulOk i j:=by
 rcases h with⟨h1,h2⟩ | ⟨h1,h2⟩
 ·exact .of_left (intBits_le_64 h1 h2)
 ·exact .of_right (intBits_le_64 h1 h2)
theorem NC:uN X (binaryOp .Add) (ME fun i j=>.int (i+j)):=QS fun _ _ _ _ _ _ _ q=>add_int q
theorem ND:uN X (binaryOp .Sub) (ME fun i j=>.int (i - j)):=QS fun _ _ _ _ _ _ _ q=>sub_int q
theorem NF:uN X (binaryOp .Mult) (rI NB fun i j=>.int (i * j)):=U0 fun _ _ _ _ _ _ _ hc q=>mul_int q hc.ok
theorem K1:uN X (binaryOp .FloorDiv) (rI QT fun i j=>.int (i / j)):=U0 fun i j _ _ _ _ _ hc q=>by
 have h1:(0:Int) < j:=hc.1
 have h2:j < 1073741824:=hc.2
 exact floordiv_int (by omega) (by rw[Int.fdiv_eq_ediv_of_nonneg i (by omega)];exact q) (.inl (PyProof.noPylong_small (by omega)))
theorem NG:uN X (binaryOp .Mod) (rI (fun _ j=>0 < j) fun i j=>.int (i % j)):=U0 fun i j _ _ _ _ _ hc q=>by
 have h1:(0:Int) < j:=hc
 exact mod_int' (by omega) (by rw[Int.fmod_eq_emod_of_nonneg i (by omega)];exact q)
theorem NH:uN X (binaryOp .Pow) (rI WC fun i j=>.int (i ^ j.toNat)):=U0 fun _ _ _ _ _ _ _ hc q=>pow_int_small hc.1 hc.2.1 hc.2.2 q
theorem unI {f:Value→Sem Value}{g:Int→Int}
  (rule:∀(i:Int) (t:Tok) (s:Shared) (Q:Value→Shared→Prop) (E:Value→Shared→Prop),Q (.int (g i) s.toks) {s with toks:=s.toks+1}→wpAny (model X.prog X.w) X.A (f (.int i t)) Q E s):
  QM X f (rU fun i=>.int (g i)):=by
 intro pins s σ H x v Q I rx h
 obtain⟨i,rfl,q⟩:=h
 obtain⟨t,rfl⟩:=rx
 exact rule i t s _ _ ⟨.int (g i),H,I.tok _,⟨_,rfl⟩,q⟩
theorem NI:QM X (unaryOp .USub) (rU fun i=>.int (-i)):=unI fun _ _ _ _ _ q=>neg_int q
end
section
variable {X:Cx}{a b c:Expr}{ta tb tc:TE}{pos:Pos}
theorem HZ {pins:List (Addr×Obj)}{σ:St}{H:Hp}{s:Shared}{Q:VK}{k k':Bool}(I:Inv X pins σ H s) (q:Q (.bl k) H) (e:k=k'):EP X pins σ Q (.bool k') s:=by
 subst e
 exact⟨.bl k,H,I,rfl,q⟩
theorem QU:uN X (compareOp .Lt) (ME fun i j=>.bl (decide (i < j))):=K0 fun _ _ _ _ _ _ _ q=>lt_int q
theorem QV:uN X (compareOp .LtE) (ME fun i j=>.bl (decide (i≤j))):=K0 fun _ _ _ _ _ _ _ q=>le_int q
theorem QW:uN X (compareOp .Gt) (ME fun i j=>.bl (decide (j < i))):=K0 fun _ _ _ _ _ _ _ q=>gt_int q
theorem QX:uN X (compareOp .GtE) (ME fun i j=>.bl (decide (j≤i))):=K0 fun _ _ _ _ _ _ _ q=>ge_int q
theorem Fy:uN X (compareOp .In) (fun x y H Q=>∃i j,x= .str i∧y= .str j∧Q (.bl (!(Builtin.Str.occurrences j i 0 j.length 1).isEmpty)) H):=by
 intro pins s σ H x y v u Q I rx ry h
 obtain⟨i,j,rfl,rfl,q⟩:=h
 obtain⟨t,rfl⟩:=rx
 obtain⟨t',rfl⟩:=ry
 exact in_str (HZ I q rfl)
theorem Ah:uN X (compareOp .NotIn) (fun x y H Q=>∃i j,x= .str i∧y= .str j∧Q (.bl (!(!(Builtin.Str.occurrences j i 0 j.length 1).isEmpty))) H):=by
 intro pins s σ H x y v u Q I rx ry h
 obtain⟨i,j,rfl,rfl,q⟩:=h
 obtain⟨t,rfl⟩:=rx
 obtain⟨t',rfl⟩:=ry
 exact notIn_str (HZ I q rfl)
theorem uN.or {f:Value→Value→Sem Value}{r r':R2}(h:uN X f r) (h':uN X f r'):uN X f (fun x y H Q=>r x y H Q∨r' x y H Q):=by
 intro pins s σ H x y v u Q I rx ry q
 rcases q with q | q
 ·exact h pins s σ H x y v u Q I rx ry q
 ·exact h' pins s σ H x y v u Q I rx ry q
theorem C9 (b:Expr){op:CmpOp}(h:op≠.In:=by decide) (h2:op≠.NotIn:=by decide):behindInMarks op b=false:=by
 have e1:(op == CmpOp.In)=false:=by cases op <;> first | rfl | exact absurd rfl h
 have e2:(op == CmpOp.NotIn)=false:=by cases op <;> first | rfl | exact absurd rfl h2
 cases b <;> simp[behindInMarks,e1,e2]
theorem K2 {op:CmpOp}{r:R2}(ho:uN X (compareOp op) r) (ha:PE X a ta) (hb:PE X b tb) (hm:behindInMarks op b=false):PE X (.Compare a [op] [b] pos) (Ny r ta tb):=by
 intro pins s σ H Q I h
 exact wpAny_Compare1 (Nz ha hb I h fun v u s2 x y H2 I2 rx ry q=>ho pins s2 σ H2 x y v u Q I2 rx ry q) hm
noncomputable def QY (t:TE):TT:=fun σ H Q=>t σ H fun x H'=>∃k,x= .bl k∧Q k H'
theorem Ez {op:CmpOp}{r:R2}(ho:uN X (compareOp op) r) (ha:PE X a ta) (hb:PE X b tb) (hm:behindInMarks op b=false):PT X (.Compare a [op] [b] pos) (QY (Ny r ta tb)):=by
 intro pins s σ H Q I h
 refine wpAny_isTrue_Compare1 (fR (ha pins s σ H _ I h) fun v s1 ⟨x,H1,I1,r1,q1⟩=>fR (hb pins s1 σ H1 _ I1 q1) fun u s2 ⟨y,H2,I2,r2,q2⟩=>
  fR (ho pins s2 σ H2 x y v u _ I2 r1 r2 q2) fun c s3 ⟨z,H3,I3,r3,k,e,q3⟩=>?_) hm
 subst e
 cases r3
 exact wpAny_truthy_bool ⟨H3,I3,q3⟩
noncomputable def Ia (r r':R2) (ta tb tc:TE):TE:=fun σ H Q=>ta σ H fun x H1=>tb σ H1 fun y H2=>r x y H2 fun z H3=>∃k,z= .bl k∧
 (if k=true then tc σ H3 fun w' H4=>r' y w' H4 Q else Q (.bl false) H3)
theorem Ib {op op':CmpOp}{r r':R2}(ho:uN X (compareOp op) r) (ho':uN X (compareOp op') r') (ha:PE X a ta) (hb:PE X b tb) (hc:PE X c tc)
  (hm:lastMarks [op,op'] [b,c]=false:=by with_unfolding_all rfl):PE X (.Compare a [op,op'] [b,c] pos) (Ia r r' ta tb tc):=by
 intro pins s σ H Q I h
 refine Compare_chain (fR (ha pins s σ H _ I h) fun v s1 ⟨x,H1,I1,r1,q1⟩=>chain_link (fR (hb pins s1 σ H1 _ I1 q1) fun u s2 ⟨y,H2,I2,r2,q2⟩=>
  fR (ho pins s2 σ H2 x y v u _ I2 r1 r2 q2) fun d s3 ⟨z,H3,I3,r3,k,e,q3⟩=>?_)) hm
 subst e
 cases r3
 refine wpAny_truthy_bool ?_
 cases k with
 | false=>exact ite_ff ⟨.bl false,H3,I3,rfl,q3⟩
 | true=>exact ite_tt (chain_last (fR (hc pins s3 σ H3 _ I3 q3) fun w' s4 ⟨z',H4,I4,r4,q4⟩=>ho' pins s4 σ H4 y z' u w' Q I4 r2 r4 q4))
theorem uQ:(sizeLine:Nat) < 2 ^ 63:=by rw[sizeLine_eq];decide
theorem Dc:uN X (binaryOp .Add) (fun x y H Q=>∃i j,x= .str i∧y= .str j∧i.length+j.length≤sizeLine∧Q (.str (i++j)) H):=by
 intro pins s σ H x y v u Q I rx ry h
 obtain⟨i,j,rfl,rfl,hz,q⟩:=h
 obtain⟨t,rfl⟩:=rx
 obtain⟨t',rfl⟩:=ry
 exact add_str (fun t' tk=>⟨.str (i++j),H,I.tok _,⟨_,rfl⟩,q⟩) hz
theorem vals1 {x:V}{us:List Value}(r:Vals [x] us):∃u,us=[u]∧RelV x u:=by
 cases r with
 | cons r1 r2=>cases r2;exact⟨_,rfl,r1⟩
theorem vals2 {x y:V}{us:List Value}(r:Vals [x,y] us):∃u w',us=[u,w']∧RelV x u∧RelV y w':=by
 cases r with
 | cons r1 r2=>
  cases r2 with
  | cons r3 r4=>cases r4;exact⟨_,_,rfl,r1,r3⟩
theorem Fz (hc:X.calm=true):gY X (.builtin "min") (fun xs H Q=>∃i j,xs=[.int i,.int j]∧Q (.int (if j < i then j else i)) H):=by
 intro pins s σ H xs us Q I r h
 obtain⟨i,j,rfl,q⟩:=h
 obtain⟨u,w',rfl,⟨t,rfl⟩,⟨t',rfl⟩⟩:=vals2 r
 refine min_two_ints (I.ok.hd hc) fun h' tk k=>⟨_,H,I.kept k,?_,q⟩
 by_cases hj:j < i
 ·rw[if_pos hj,if_pos hj];exact⟨_,rfl⟩
 ·rw[if_neg hj,if_neg hj];exact⟨_,rfl⟩
end
end L2
namespace L2
open PySem PySem.Spec PyProof.Rows
section
variable {prog:Program}{w:World}{A:Around}{E:Value→Shared→Prop}{s:Shared}{K:PySem.W.Frag}{x dx C f:Addr}{mA:Str→Option Value}{name:Str}{v:Value}
end
theorem vX.some_of {v:V}{o:Option Value}(r:vX (some v) o):∃u,o=some u∧RelV v u:=by
 cases o with
 | none=>exact(show False from r).elim
 | some u=>exact⟨u,rfl,r⟩
section
variable {P:Program}{w:World}{H H':Hp}{h h':Heap}{a C dx:Addr}{fs fs':List (Str×V)}
end
structure WD (K:PySem.W.Frag) (C:Addr):Prop where
 pg:PySem.W.plainGet K C Str.empty=true
 hd:PySem.W.hasDictIn K C=true
 po:PySem.W.plainOver K C=true
 sa:PySem.W.findIn K (.ref C) "__setattr__" =some (some (.builtin "object.__setattr__"))
theorem WD.get {K:PySem.W.Frag}{C:Addr}(c:WD K C) (f:Str):PySem.W.plainGet K C f=true:=c.pg
section
variable {X:Cx}{pins:List (Addr×Obj)}{σ:St}{H:Hp}{s:Shared}{a C dx:Addr}{fs:List (Str×V)}{f:Str}{v:V}{A:Around}{E:Value→Shared→Prop}
end
section
variable {X:Cx}{o e value:Expr}{f:Str}{pos pos' tpos:Pos}{ta tv:TE}
end
section
variable {X:Cx}{pins:List (Addr×Obj)}{σ:St}{H:Hp}{s:Shared}{A:Around}{E:Value→Shared→Prop}{Q:Value→Shared→Prop}{c:Value}{b:Bool}
inductive v5 (K:PySem.W.Frag) (H:Hp):V→Value→Prop where
 | cW:v5 K H .cW (.type "NoneType")
 | bl (x:Bool):v5 K H (.bl x) (.type "bool")
 | int (i:Int):v5 K H (.int i) (.type "int")
 | str (x:Str):v5 K H (.str x) (.type "str")
 | flt (x:UInt64):v5 K H (.flt x) (.type "float")
 | lst {a:Addr}{xs:List V}(e:H a=some (.lst xs)):v5 K H (.ref a) (.type "list")
 | kW {a:Addr}{o:Obj}{xs:List V}(e:H a=some (.kW o (.lst xs))):v5 K H (.ref a) (.type "list")
 | tup {a:Addr}{xs:List V}(e:H a=some (.tup xs)):v5 K H (.ref a) (.type "tuple")
 | dK {a:Addr}{kvs:List (Key×V)}(e:H a=some (.dK kvs)):v5 K H (.ref a) (.type "dict")
 | dT {a:Addr}{kvs:List (List Key×V)}(e:H a=some (.dT kvs)):v5 K H (.ref a) (.type "dict")
 | ins {a C dx:Addr}{fs:List (Str×V)}(e:H a=some (.ins C dx fs)) (cl:WD K C) (ha:PySem.W.findIn K (.ref C) "__class__" =some (some (.builtin "object.__class__")))
   (hn:PySem.W.specialIn K (.builtin "object.__class__") "__get__" =some (some (.builtin "getset_descriptor.__get__"))) (htk:PySem.W.takesIn K (.builtin "object.__class__")=some true)
   (hm:PySem.W.mroIn K C (.type "object")=some true):v5 K H (.ref a) (.ref C)
end
end L2
namespace L2
open PySem PySem.Spec PyProof.Rows
structure lM (k:Nat) (A:Around):Prop where
 hd:A.handled=none
 dp:A.depth+3 * k+5 < recursionLimit
 un:A.units+16 * k+200 < cLine
 gd:A.guards=some []
theorem lM.mono {j k:Nat}{A:Around}(r:lM k A) (h:j≤k):lM j A:=⟨r.hd,by have:=r.dp;omega,by have:=r.un;omega,r.gd⟩
theorem lM.deeper {k:Nat}{A:Around}(r:lM (k+1) A) (env:Env):lM k (A.deeper env):=
 ⟨r.hd,by have:=r.dp;show A.depth+1+3 * k+5 < _;omega,by have:=r.un;show A.units+3+16 * k+200 < _;omega,r.gd⟩
theorem lM.in1 {k:Nat}{A:Around}(r:lM (k+1) A):lM k A.in1:=
 ⟨r.hd,by have:=r.dp;show A.depth+3 * k+5 < _;omega,by have:=r.un;show A.units+1+16 * k+200 < _;omega,r.gd⟩
theorem lM.depth {k:Nat}{A:Around}(r:lM k A):A.depth < recursionLimit:=by have:=r.dp;omega
theorem lM.units {k:Nat}{A:Around}(r:lM k A):A.units+64 < cLine:=by have:=r.un;omega
noncomputable def QZ:TA:=fun _ H Q=>Q [] H
noncomputable def MF (ta:TE) (tr:TA):TA:=fun σ H Q=>ta σ H fun x H1=>tr σ H1 fun xs H2=>Q (x :: xs) H2
section
variable {X:Cx}{e:Expr}{es:List Expr}{te:TE}{t:TA}{pos:Pos}
theorem Ai:PA X [] QZ:=fun _ _ _ _ H Q I h=>Calls.spliced_nil ⟨[],H,I,.nil,h⟩
theorem q8 (ha:PE X e te) (hr:PA X es t) (hs:starEach (e :: es) X.env=(false,eval e X.env) :: starEach es X.env:=by rfl):PA X (e :: es) (MF te t):=by
 intro pos pins s σ H Q I h
 rw[hs]
 show wpAny _ _ (spliced ((false,eval e X.env) :: backTo pos (starEach es X.env))) _ _ s
 refine Calls.spliced_cons (fR (ha pins s σ H _ I h) fun u s1 ⟨x,H1,I1,r1,q1⟩=>?_)
 exact fR (hr pos pins s1 σ H1 _ I1 q1) fun us s2 ⟨xs,H2,I2,r2,q2⟩=>⟨x :: xs,H2,I2,.cons r1 r2,q2⟩
noncomputable def WE (t:TA):TE:=fun σ H Q=>t σ H fun xs H1=>xs.length≤sizeLine∧∀p,H1 p=none→Q (.ref p) (upd H1 p (.tup xs))
noncomputable def WG (t:TA):TE:=fun σ H Q=>t σ H fun xs H1=>xs.length≤sizeLine∧∀p,H1 p=none→Q (.ref p) (upd H1 p (.lst xs))
theorem NJ {x1}(h:PA X es t):PE X (.Tuple es x1 pos) (WE t):=by
 intro pins s σ H Q I hq
 refine wpAny_Tuple_spliced (fR (h pos pins s σ H _ I hq) fun us s1 ⟨xs,H1,I1,r,z,q⟩=>⟨by rw[←r.length];exact z,?_⟩)
 have hf:H1 s1.heap.objs.size=none:=I1.hok.fresh (Nat.le_refl _)
 refine⟨.ref s1.heap.objs.size,upd H1 s1.heap.objs.size (.tup xs),I1.laid (t':=s1.toks) (fun b u e=>Heap.get?_push_of_some _ e) (Nat.le_refl _) ?_,rfl,q _ hf⟩
 exact⟨z,us,r,⟨_,Heap.get?_push_size _ rfl,rfl,_,rfl⟩⟩
theorem NK (h:PA X es t):PE X (.List es pos) (WG t):=by
 intro pins s σ H Q I hq
 refine wpAny_List_spliced (fR (h pos pins s σ H _ I hq) fun us s1 ⟨xs,H1,I1,r,z,q⟩=>⟨by rw[←r.length];exact z,?_⟩)
 have hf:H1 s1.heap.objs.size=none:=I1.hok.fresh (Nat.le_refl _)
 refine⟨.ref s1.heap.objs.size,upd H1 s1.heap.objs.size (.lst xs),I1.laid (t':=s1.toks) (fun b u e=>Heap.get?_push_of_some _ e) (Nat.le_refl _) ?_,rfl,q _ hf⟩
 exact⟨z,us,0,r,Heap.get?_push_size _ rfl⟩
end
noncomputable abbrev Sp:=List V→Hp→VK→XK→Prop
noncomputable abbrev FA:=List Env→Hp→Shared→XK→Value→Shared→Prop
structure Dd (P:Program) (w:World) (K:PySem.W.Frag) (mg:Str→Option Value) (base:Heap) (A:Around) (outer:List Env) (s:Shared) (H:Hp):Prop where
 frames:A.frames=some outer
 mod:Mod K mg base
 bs:∀b o,base.get? b=some o→s.heap.get? b=some o∧H b=none
 KL:base.objs.size≤s.heap.objs.size
 vY:s.heap.FunFrames base outer
 Nb:∀b∈frs outer,H b=none
 hok:rS P w H s.heap
 bare:AllBare s.gens
noncomputable def CE (outer:List Env) (P:Program) (w:World) (H:Hp) (s:Shared) (Q:VK) (u:Value) (s':Shared):Prop:=
 ∃v H',s'.os=s.os∧AllBare s'.gens∧Un (frs outer) [] H H' s.heap s'.heap∧rS P w H' s'.heap∧RelV v u∧Q v H'
noncomputable def CR (CX:FA) (outer:List Env) (P:Program) (w:World) (H:Hp) (s:Shared) (Q:VK) (E:XK) (r:Result) (s':Shared):Prop:=
 match r with
 | .ok (.ret u)=>CE outer P w H s Q u s'
 | .ok _=>False
 | .error e=>CX outer H s E e s'
structure bT (P:Program) (w:World) (K:PySem.W.Frag) (mg:Str→Option Value) (base:Heap) (CX:FA) (k:Nat) (f:Addr) (fd:FuncData) (ps:List Str) (sp:Sp):Prop where
 len:∀vs H Q E,sp vs H Q E→vs.length=ps.length
 run:∀(A:Around) (outer:List Env) (s:Shared) (H:Hp) (args:Args) (us:List Value) (vs:List V) (Q:VK) (E:XK),lM k A→Dd P w K mg base A outer s H→BindsTo s fd args (ps.zip us)→Vals vs us→sp vs H Q E→
  codeAny (model P w) A (.call (.ref f) args) (CR CX outer P w H s Q E) s
theorem bT.mono {P:Program}{w:World}{K:PySem.W.Frag}{mg:Str→Option Value}{base:Heap}{CX:FA}{j k:Nat}{f:Addr}{fd:FuncData}{ps:List Str}{sp:Sp}(F:bT P w K mg base CX j f fd ps sp) (h:j≤k):
  bT P w K mg base CX k f fd ps sp:=⟨F.len,fun A outer s H args us vs Q E hr=>F.run A outer s H args us vs Q E (hr.mono h)⟩
theorem bT.imp {P:Program}{w:World}{K:PySem.W.Frag}{mg:Str→Option Value}{base:Heap}{CX:FA}{k:Nat}{f:Addr}{fd:FuncData}{ps:List Str}{sp sp':Sp}(F:bT P w K mg base CX k f fd ps sp)
  (h:∀vs H Q E,sp' vs H Q E→sp vs H Q E):bT P w K mg base CX k f fd ps sp':=
 ⟨fun vs H Q E q=>F.len vs H Q E (h _ _ _ _ q),fun A outer s H args us vs Q E hr he hb hv hs=>F.run A outer s H args us vs Q E hr he hb hv (h _ _ _ _ hs)⟩
theorem Dd.in1 {P:Program}{w:World}{K:PySem.W.Frag}{mg:Str→Option Value}{base:Heap}{A:Around}{outer:List Env}{s:Shared}{H:Hp}(e:Dd P w K mg base A outer s H):
  Dd P w K mg base A.in1 outer s H:=⟨e.frames,e.mod,e.bs,e.KL,e.vY,e.Nb,e.hok,e.bare⟩
section
variable {X:Cx}{pins:List (Addr×Obj)}{σ:St}{H:Hp}{s s':Shared}
theorem Inv.WH (I:Inv X pins σ H s):Dd X.prog X.w X.K X.mg X.base X.A X.stack s H:=
 ⟨I.ok.frames,I.ok.mod,I.bs,Nat.le_trans I.ok.KL I.sz,I.stack,I.Eu,I.hok,I.bare⟩
theorem Inv.after {Q:VK}{u:Value}(I:Inv X pins σ H s) (h:CE X.stack X.prog X.w H s Q u s'):EP X pins σ Q u s':=by
 obtain⟨v,H',os,bare,un,hok,r,q⟩:=h
 obtain⟨hh,g,d,t,os'⟩:=s'
 obtain rfl:os'=s.os:=os
 exact⟨v,H',I.call (h':=hh) (g':=g) (d':=d) (t':=t) (ch:=[]) un hok bare (fun b z=>absurd z (by simp)),r,q⟩
end
noncomputable def Q0 (sp:Sp) (MG:List V) (E:XK) (t:TA):TE:=fun σ H Q=>t σ H fun vs H1=>sp (vs++MG) H1 Q E
noncomputable def Binds (K:PySem.W.Frag) (fd:FuncData) (ps:List Str) (ds:List Value):Prop:=
 ∀(s:Shared) (us:List Value),K.In s.heap→(us++ds).length=ps.length→BindsTo s fd ⟨us,[]⟩ (ps.zip (us++ds))
theorem Binds.all {K:PySem.W.Frag}{fd:FuncData}{ps:List Str}(h:∀us:List Value,us.length=ps.length→bindArgs fd ⟨us,[]⟩=pure (ps.zip us)):Binds K fd ps []:=fun s us _ hl=>by
 rw[List.append_nil] at hl ⊢
 exact .of_eq (h us hl)
noncomputable def Passes (CX:FA) (X:Cx) (E:XK):Prop:=∀(pins:List (Addr×Obj)) (σ:St) (H:Hp) (s:Shared) (e:Value) (s':Shared),Inv X pins σ H s→CX X.stack H s E e s'→X.xe e s'
section
variable {X:Cx}{CX:FA}{k:Nat}{f C:Addr}{fd:FuncData}{ps:List Str}{sp:Sp}{MG:List V}{ds:List Value}{E:XK}{x m:Str}{p pos apos:Pos}{e o:Expr}{es:List Expr}{ta:TE}{t:TA}
theorem NL {pins:List (Addr×Obj)}{σ:St}{H:Hp}{s:Shared}{Q:VK}{us:List Value}{vs:List V}(F:bT X.prog X.w X.K X.mg X.base CX k f fd ps sp) (hr:lM k X.A) (hb:Binds X.K fd ps ds) (hd:Vals MG ds) (hx:Passes CX X E)
  (I:Inv X pins σ H s) (r:Vals vs us) (h:sp (vs++MG) H Q E):wpAny (model X.prog X.w) X.A (call (.ref f) us) (EP X pins σ Q) X.xe s:=by
 have r2:Vals (vs++MG) (us++ds):=r.append hd
 have hl:(us++ds).length=ps.length:=by rw[←r2.length];exact F.len _ _ _ _ h
 refine wpAny_call (codeAny_mono (F.run X.A X.stack s H ⟨us,[]⟩ (us++ds) (vs++MG) Q E hr I.WH (hb s us I.Et hl) r2 h) fun r s' hq=>?_)
 cases r with
 | error e=>exact hx pins σ H s e s' I hq
 | ok fl=>
  cases fl with
  | ret u=>exact I.after hq
  | next=>exact False.elim hq
  | brk=>exact False.elim hq
  | cont=>exact False.elim hq
theorem K3 (F:bT X.prog X.w X.K X.mg X.base CX k f fd ps sp) (hr:lM k X.A) (hg:Gl X x) (hm:X.mg x=some (.ref f)) (hk:PySem.W.keepIn X.K (.ref f)=true) (hb:Binds X.K fd ps ds) (hd:Vals MG ds) (hx:Passes CX X E)
  (ha:PA X (e :: es) t) (hdb:(x == ("__debug__":Str))=false:=by decide) (he:starEach (e :: es) X.env=(false,eval e X.env) :: starEach es X.env:=by rfl) (hpl:(backTo pos (starEach es X.env)).any (·.1)=false:=by rfl):
  PE X (.Call (.Name x p) (e :: es) [] pos) (Q0 sp MG E t):=by
 intro pins s σ H Q I h
 refine wpAny_Call_Name_kw (Ex I hg hm ?_ hdb)
 refine PySem.W.callWith_K (h₀:=X.base) I.ok.mod.Wi hk (fR (ha pos pins s σ H _ I h) fun us s1 ⟨vs,H1,I1,r,q⟩=>⟨I1.Et,?_⟩) he hpl
 exact NL F hr hb hd hx I1 r q
end
section
variable {X:Cx}{CX:FA}{k:Nat}{f C:Addr}{fd:FuncData}{ps ks:List Str}{sp:Sp}{E:XK}{x m:Str}{p pos apos kpos:Pos}{e o:Expr}{es:List Expr}{kws:List Keyword}{te ta:TE}{t tk:TA}{nm:Option Str}
variable {g:List Value→List Value→List Value}{gV:List V→List V→List V}
end
structure cE (N P:List Str) (sc:Scope):Prop where
 kind:sc.kind= .function
 co:sc.isCoroutine=false
 gen:sc.isGenerator=false
 nd:N.Nodup
 pre:N.take P.length=P
 par:∀x∈P,sc.names.lookup x=some .local∨sc.names.lookup x=some .cell
 NN:∀y∈sc.names,y.2≠.free
theorem zp {kindOf:Str→Option NameKind}{x:Str}:∀{binds:List (Str×Value)}{m:Str→Option Value},(∀v,(x,v)∉binds)→bindL kindOf binds m x=m x
 | [],_,_=>rfl
 | (n,v) :: r,m,h=>by
  unfold bindL
  rw[zp fun w hw=>h w (List.mem_cons_of_mem _ hw)]
  split
  ·have:x≠n:=by rintro rfl;exact h v List.mem_cons_self
   simp[this]
  ·rfl
theorem zq {kindOf:Str→Option NameKind}{x:Str}:∀{binds:List (Str×Value)}{m:Str→Option Value},(∀v,(x,v)∉binds)→bindC kindOf binds m x=m x
 | [],_,_=>rfl
 | (n,v) :: r,m,h=>by
  unfold bindC
  rw[zq fun w hw=>h w (List.mem_cons_of_mem _ hw)]
  split
  ·rfl
  ·have:x≠n:=by rintro rfl;exact h v List.mem_cons_self
   simp[this]
theorem zu {kindOf:Str→Option NameKind}{x:Str}{v:Value}:∀{P:List Str}{vs:List Value}{i:Nat}{m:Str→Option Value},P.Nodup→P[i]? =some x→vs[i]? =some v→kindOf x=some .local→
  bindL kindOf (P.zip vs) m x=some v
 | [],_,_,_,_,h,_,_=>by simp at h
 | _ :: _,[],_,_,_,_,h,_=>by simp at h
 | p :: P,w :: vs,0,m,nd,h1,h2,hk=>by
  simp at h1 h2;subst h1;subst h2
  show bindL kindOf ((p,w) :: P.zip vs) m p=_
  unfold bindL
  rw[zp fun v hv=>(List.nodup_cons.mp nd).1 (List.of_mem_zip hv).1,if_pos hk]
  simp
 | p :: P,w :: vs,i+1,m,nd,h1,h2,hk=>by
  show bindL kindOf ((p,w) :: P.zip vs) m x=_
  unfold bindL
  exact zu (i:=i) (List.nodup_cons.mp nd).2 (by simpa using h1) (by simpa using h2) hk
theorem zx {kindOf:Str→Option NameKind}{x:Str}{v:Value}:∀{P:List Str}{vs:List Value}{i:Nat}{m:Str→Option Value},P.Nodup→P[i]? =some x→vs[i]? =some v→kindOf x≠some .local→
  bindC kindOf (P.zip vs) m x=some v
 | [],_,_,_,_,h,_,_=>by simp at h
 | _ :: _,[],_,_,_,_,h,_=>by simp at h
 | p :: P,w :: vs,0,m,nd,h1,h2,hk=>by
  simp at h1 h2;subst h1;subst h2
  show bindC kindOf ((p,w) :: P.zip vs) m p=_
  unfold bindC
  rw[zq fun v hv=>(List.nodup_cons.mp nd).1 (List.of_mem_zip hv).1,if_neg hk]
  simp
 | p :: P,w :: vs,i+1,m,nd,h1,h2,hk=>by
  show bindC kindOf ((p,w) :: P.zip vs) m x=_
  unfold bindC
  exact zx (i:=i) (List.nodup_cons.mp nd).2 (by simpa using h1) (by simpa using h2) hk
noncomputable def start (N:List Str) (vs:List V):St:=vs.map some++List.replicate (N.length - vs.length) none
noncomputable def De (CX:FA) (P:Program) (w:World) (K:PySem.W.Frag) (mg:Str→Option Value) (base:Heap) (N:List Str) (qual:Str) (scope:Scope) (f:Addr) (cd:Value) (A:Around) (outer:List Env) (s:Shared) (H:Hp) (E:XK):Cx where
 prog:=P
 w:=w
 K:=K
 mg:=mg
 base:=base
 A:=A.deeper (envOfC qual scope s.heap.objs.size f cd)
 N:=N
 s₀:=s
 H₀:=H
 env:=envOfC qual scope s.heap.objs.size f cd
 outer:=outer
 stack:=envOfC qual scope s.heap.objs.size f cd :: outer
 ex:=[]
 calm:=true
 fn:=fun _=>true
 pn:=[]
 xe:=fun e s'=>wpAny (model P w) (A.deeper (envOfC qual scope s.heap.objs.size f cd)) (leaving (envOfC qual scope s.heap.objs.size f cd) e) (fun _ s''=>CX outer H s E e s'') (fun e' s''=>CX outer H s E e' s'') s'
theorem By {sc:Scope}{n:Nat}{x:Str}(h:sc.names.lookup x=some .cell):∃c,(cellsFrom n sc.names []).lookup x=some c:=by
 have q:=PySem.W.cellsFrom_some sc.names n [] (.inl h)
 exact Option.isSome_iff_exists.mp q
theorem FD {CX : FA} {P : Program} {w : World} {K : PySem.W.Frag} {mg : Str → Option Value} {base : Heap} {N ps : List Str} {qual : Str} {scope : Scope} {f : Addr} {cd : Value} {A : Around} {outer : List Env} {s s1 : Shared} {H : Hp} {E : XK} {us : List Value} {vs : List V}
    (S:cE N ps scope) (hd:A.handled=none) (e0:Dd P w K mg base A outer s H) (hl:vs.length=ps.length) (r:Vals vs us)
    (x:InCallC s s.heap.objs.size (bindL (envOfC qual scope s.heap.objs.size f cd).kindOf (ps.zip us) fun _=>none) (cellsFrom (s.heap.objs.size+1) scope.names []) (bindC (envOfC qual scope s.heap.objs.size f cd).kindOf (ps.zip us) fun _=>none) s1):
    Inv (De CX P w K mg base N qual scope f cd A outer s H E) [] (start N vs) H s1:=by
  have hpl:ps.length≤N.length:=by have:=congrArg List.length S.pre;rw[List.length_take] at this;omega
  obtain⟨h1,tk,rfl,hk⟩:=x.done
  have Q2:∀b:Addr,b∉(De CX P w K mg base N qual scope f cd A outer s H E).ex:=fun b z=>absurd (show b∈([]:List Addr) from z) (by simp)
  refine⟨⟨e0.mod,S.kind,rfl,rfl,Nat.le_refl _,fun y z c h1 h2=>?_,fun y hy=>?_,fun y c _ h=>?_,fun _=>hd,Around.frames_deeper e0.frames,.inr ⟨rfl,rfl⟩,fun b z=>absurd z (Q2 b),e0.bs,e0.KL,fun b _ _=>Q2 b,fun b z=>absurd z (Q2 b),e0.vY,e0.Nb⟩,
    rfl,e0.bare,Un.kept hk,⟨_,x.toInCall.ns,fun i y v h1 h2 h3=>?_⟩,fun y c h=>⟨_,x.cell y c h⟩,e0.hok.fresh (Nat.le_refl _),fun y c h=>?_,fun p hp=>absurd (show p∈([]:List (Addr×Obj)) from hp) (by simp),e0.hok.kept hk,?_⟩
  · exact name_of_addr x.apart (PySem.mem_of_lookup h1) (PySem.mem_of_lookup h2)
  · have hy:scope.names.lookup y=some .cell∨scope.names.lookup y=some .free:=hy
    rcases hy with hy | hy
    · exact By hy
    · exact absurd rfl (S.NN _ (PySem.mem_of_lookup hy))
  · exact Nat.le_of_lt (x.above y c (PySem.mem_of_lookup h))
  · have hi:i < vs.length:=by
      unfold start at h2
      by_cases hi:i < vs.length
      · exact hi
      · rw[List.getElem?_append_right (by simpa using hi)] at h2
        rw[List.getElem?_replicate] at h2
        split at h2 <;> cases h2
    have ha:vs[i]? =some v:=by
      unfold start at h2
      rw[List.getElem?_append_left (by simpa using hi),List.getElem?_map] at h2
      cases e:vs[i]? with
      | none=>rw[e] at h2;cases h2
      | some a=>rw[e] at h2;cases h2;rfl
    obtain⟨u,hu,rv⟩:=r.get ha
    have hp:ps[i]? =some y:=by
      rw[←S.pre,List.getElem?_take_of_lt (by omega)];exact h1
    have ndP:ps.Nodup:=by rw[←S.pre];exact S.nd.sublist (List.take_sublist _ _)
    refine⟨u,rv,?_⟩
    rcases S.par y (List.mem_of_getElem? hp) with k | k
    · exact .inl ⟨k,zu ndP hp hu k⟩
    · obtain⟨c,e⟩:=By (n:=s.heap.objs.size+1) k
      refine .inr ⟨.inl k,c,e,?_⟩
      have q:=x.cell y c e
      rw[zx ndP hp hu (by show scope.names.lookup y≠_;rw[k];decide)] at q
      exact q
  · exact e0.hok.fresh (Nat.le_of_lt (x.above y c (PySem.mem_of_lookup h)))
  · unfold start
    show _=N.length
    rw[List.length_append,List.length_map,List.length_replicate]
    omega
theorem Q3 {CX:FA}{P:Program}{w:World}{K:PySem.W.Frag}{mg:Str→Option Value}{base:Heap}{k:Nat}{f:Addr}{name qual:Str}{params:Arguments}{body:List Stmt}{scope:Scope}{dV kV doc pm cdv ct oc:Value}{an od:Option Addr}
  {osl:Array (Option Value)}{N ps:List Str}{sp:Sp}(lk:K.lookup f=some ⟨oc,od,.func (PySem.W.fnOf name qual params body scope dV kV doc pm an cdv ct),osl⟩) (hcd:PySem.W.codeIn K cdv qual=true) (S:cE N ps scope)
  (len:∀vs H Q E,sp vs H Q E→vs.length=ps.length)
  (hbody:∀(A:Around) (outer:List Env) (s:Shared) (H:Hp) (vs:List V) (Q:VK) (E:XK),lM k (A.deeper (envOfC qual scope s.heap.objs.size f cdv))→sp vs H Q E→
   ∃t,C6 (De CX P w K mg base N qual scope f cdv A outer s H E) body t∧t {nx:=fun _ H'=>Q .cW H',rt:=Q} (start N vs) H):
  bT P w K mg base CX (k+1) f (PySem.W.fnOf name qual params body scope dV kV doc pm an cdv ct) ps sp:=by
 refine⟨len,fun A outer s H args us vs Q E hr e0 hb r MH=>?_⟩
 have hl:=len _ _ _ _ MH
 have KX:K.In s.heap:=e0.mod.Wi.keeps fun b o e=>(e0.bs b o e).1
 have lim:s.heap.NoLimit:=e0.mod.nolimit.keeps fun b o e=>(e0.bs b o e).1
 have hkind:∀y∈ps.zip us,scope.names.lookup y.1=some .local∨(scope.names.lookup y.1=some .cell∧((cellsFrom (s.heap.objs.size+1) scope.names []).lookup y.1).isSome=true):=fun⟨n,v⟩ hy=>by
  rcases S.par n (List.of_mem_zip hy).1 with q | q
  ·exact .inl q
  ·exact .inr ⟨q,PySem.W.cellsFrom_some _ _ _ (.inl q)⟩
 refine codeAny_call_function hr.depth (KX _ _ lk) rfl S.co S.gen rfl (PySem.W.codeRec_of KX hcd) (hb _ _ _ _ ?_)
 refine wpAny_newFunctionEnv_cells S.kind hkind fun env he s1 x=>?_
 subst he
 refine⟨lim.keeps x.toInCall.keep,codeAny_func ?_⟩
 obtain⟨t,ht,hq⟩:=hbody A outer s H vs Q E (hr.deeper _) MH
 have I:Inv (De CX P w K mg base N qual scope f cdv A outer s H E) [] (start N vs) H s1:=FD S hr.hd e0 hl r x
 refine wpAny_mono (ht [] s1 (start N vs) H _ I hq) (fun fl s' hs=>?_) fun e s' hs=>hs
 have fin:∀{σ':St}{H':Hp}{v:V}{u:Value},Inv (De CX P w K mg base N qual scope f cdv A outer s H E) [] σ' H' s'→RelV v u→Q v H'→CE outer P w H s Q u s':=
  fun {σ' H' v u} J rv q=>⟨v,H',J.os,J.bare,J.base,J.hok,rv,q⟩
 cases fl with
 | ret u=>
  obtain⟨v,σ',H',J,rv,q⟩:=hs
  exact fin J rv q
 | next=>
  obtain⟨σ',H',J,q⟩:=hs
  exact fin (v:=V.cW) (u:=Value.none) J rfl q
 | brk=>
  obtain⟨_,_,_,q⟩:=hs
  exact False.elim q
 | cont=>
  obtain⟨_,_,_,q⟩:=hs
  exact False.elim q
end L2
namespace L2
open PySem PySem.Spec PyProof.Rows
section
variable {X:Cx}{x:Str}{p pos:Pos}{e:Expr}{es:List Expr}{t:TA}{id T:String}{r:List V→Hp→VK→Prop}
noncomputable def tCB (r:List V→Hp→VK→Prop) (t:TA):TE:=fun σ H Q=>t σ H fun vs H1=>r vs H1 Q
theorem pX (hc:gY X (.builtin id) r) (hg:Gl X x) (hm:X.mg x=none) (hv:bootBuiltins x=some (.builtin id)) (ha:PA X (e :: es) t) (hn:x≠"__name__":=by decide) (hdb:(x == ("__debug__":Str))=false:=by decide)
  (he:starEach (e :: es) X.env=(false,eval e X.env) :: starEach es X.env:=by rfl) (hpl:(backTo pos (starEach es X.env)).any (·.1)=false:=by rfl):PE X (.Call (.Name x p) (e :: es) [] pos) (tCB r t):=by
 intro pins s σ H Q I h
 refine wpAny_Call_Name_kw (Af I hg hm hv ?_ hn hdb)
 exact PyProof.Rows.callWith_builtin1 (fR (ha pos pins s σ H _ I h) fun us s1 ⟨vs,H1,I1,r1,q1⟩=>hc pins s1 σ H1 vs us Q I1 r1 q1) he hpl
theorem FE (hc:gY X (.type T) r) (hg:Gl X x) (hm:X.mg x=none) (hv:bootBuiltins x=some (.type T)) (ha:PA X (e :: es) t) (hn:x≠"__name__":=by decide) (hdb:(x == ("__debug__":Str))=false:=by decide)
  (he:starEach (e :: es) X.env=(false,eval e X.env) :: starEach es X.env:=by rfl) (hpl:(backTo pos (starEach es X.env)).any (·.1)=false:=by rfl):PE X (.Call (.Name x p) (e :: es) [] pos) (tCB r t):=by
 intro pins s σ H Q I h
 refine wpAny_Call_Name_kw (Af I hg hm hv ?_ hn hdb)
 exact PyProof.Rows.callWith_type1 (fR (ha pos pins s σ H _ I h) fun us s1 ⟨vs,H1,I1,r1,q1⟩=>hc pins s1 σ H1 vs us Q I1 r1 q1) he hpl
end
end L2
namespace L2
open PySem PySem.Spec PyProof.Rows
section
variable {κ:Type} [DecidableEq κ]
noncomputable def sG (kvs:List (κ×V)) (k:κ):Option V:=(kvs.find? fun kv=>decide (kv.1=k)).map (·.2)
noncomputable def putK (kvs:List (κ×V)) (k:κ) (v:V):List (κ×V):=
 if(kvs.any fun kv=>decide (kv.1=k))=true then kvs.map (fun kv=>if kv.1=k then(kv.1,v) else kv) else kvs++[(k,v)]
noncomputable def MI (kvs:List (κ×V)) (k:κ):List (κ×V):=kvs.filter fun kv=>decide (kv.1≠k)
theorem tR {p:κ×V}{r:List (κ×V)}{k:κ}(e:p.1=k):sG (p :: r) k=some p.2:=by simp[sG,List.find?_cons,e]
theorem pY {p:κ×V}{r:List (κ×V)}{k:κ}(e:¬p.1=k):sG (p :: r) k=sG r k:=by simp[sG,List.find?_cons,e]
theorem BA (k:κ):∀kvs:List (κ×V),(kvs.any fun kv=>decide (kv.1=k))=(sG kvs k).isSome
 | []=>rfl
 | p :: r=>by
  rw[List.any_cons]
  by_cases e:p.1=k
  ·simp only[tR e,decide_eq_true e,Bool.true_or,Option.isSome_some]
  ·rw[pY e,decide_eq_false e,Bool.false_or];exact BA k r
theorem pZ (kvs:List (κ×V)) (k:κ) (v:V):(putK kvs k v).length≤kvs.length+1:=by
 unfold putK
 split
 ·rw[List.length_map];omega
 ·rw[List.length_append,List.length_cons,List.length_nil];omega
theorem vX.FF {o:Option V}{u:Option Value}(r:vX o u):o.isSome=u.isSome:=by
 cases o with
 | none=>cases u with
  | none=>rfl
  | some _=>exact(show False from r).elim
 | some _=>cases u with
  | none=>exact(show False from r).elim
  | some _=>rfl
theorem vX.getD {o:Option V}{u:Option Value}{d:V}{d':Value}(r:vX o u) (rd:RelV d d'):RelV (o.getD d) (u.getD d'):=by
 cases o with
 | none=>cases u with
  | none=>exact rd
  | some _=>exact(show False from r).elim
 | some _=>cases u with
  | none=>exact(show False from r).elim
  | some _=>exact r
theorem KV.val {kvs:List (κ×V)}{vs:List (κ×Value)}(r:KV kvs vs) (k:κ):vX (sG kvs k) (valueAt vs k):=by
 unfold KV at r
 induction r with
 | nil=>exact True.intro
 | @cons p q ps qs h t ih=>
  obtain⟨h1,h2⟩:=h
  by_cases e:p.1=k
  ·have e':q.1=k:=h1.symm.trans e
   have b:valueAt (q :: qs) k=some q.2:=by simp[valueAt,List.find?_cons,e']
   rw[tR e,b];exact h2
  ·have e':¬q.1=k:=fun z=>e (h1.trans z)
   have b:valueAt (q :: qs) k=valueAt qs k:=by simp[valueAt,List.find?_cons,e']
   rw[pY e,b];exact ih
theorem KV.any {kvs:List (κ×V)}{vs:List (κ×Value)}(r:KV kvs vs) (k:κ):(kvs.any fun kv=>decide (kv.1=k))=vs.any fun kv=>decide (kv.1=k):=by
 unfold KV at r
 induction r with
 | nil=>rfl
 | cons h t ih=>rw[List.any_cons,List.any_cons,ih,h.1]
theorem KV.repl {kvs:List (κ×V)}{vs:List (κ×Value)}(r:KV kvs vs) (k:κ){y:V}{u:Value}(ry:RelV y u):
  KV (kvs.map fun kv=>if kv.1=k then(kv.1,y) else kv) (vs.map fun kv=>if kv.1=k then(kv.1,u) else kv):=by
 unfold KV at r ⊢
 induction r with
 | nil=>exact .nil
 | @cons p q ps qs h t ih=>
  rw[List.map_cons,List.map_cons]
  refine .cons ?_ ih
  obtain⟨h1,h2⟩:=h
  by_cases e:p.1=k
  ·rw[if_pos e,if_pos (h1.symm.trans e)];exact⟨h1,ry⟩
  ·rw[if_neg e,if_neg (fun z=>e (h1.trans z))];exact⟨h1,h2⟩
theorem KV.put {kvs:List (κ×V)}{vs:List (κ×Value)}(r:KV kvs vs) (k:κ){y:V}{u:Value}(ry:RelV y u):KV (putK kvs k y) (stored vs k u):=by
 unfold putK stored
 rw[r.any k]
 by_cases e:(vs.any fun kv=>decide (kv.1=k))=true
 ·rw[if_pos e,if_pos e];exact r.repl k ry
 ·rw[if_neg e,if_neg e];exact Paired.snoc r ⟨rfl,ry⟩
theorem KV.drop {kvs:List (κ×V)}{vs:List (κ×Value)}(r:KV kvs vs) (k:κ):KV (MI kvs k) (without vs k):=by
 unfold KV at r ⊢
 unfold MI without
 induction r with
 | nil=>exact .nil
 | @cons p q ps qs h t ih=>
  obtain⟨h1,h2⟩:=h
  rw[List.filter_cons,List.filter_cons]
  by_cases e:p.1=k
  ·have a:¬decide (p.1≠k)=true:=by simp[e]
   have b:¬decide (q.1≠k)=true:=by simp[h1.symm.trans e]
   rw[if_neg a,if_neg b];exact ih
  ·have e':¬q.1=k:=fun z=>e (h1.trans z)
   have a:decide (p.1≠k)=true:=by simp[e]
   have b:decide (q.1≠k)=true:=by simp[e']
   rw[if_pos a,if_pos b];exact .cons ⟨h1,h2⟩ ih
theorem KV.length {kvs:List (κ×V)}{vs:List (κ×Value)}(r:KV kvs vs):kvs.length=vs.length:=Paired.length r
end
theorem wN {P:Program}{w:World}{k:Key}{u:Value}(r:RelV (kV k) u):(cZ P w).is k u=true:=by
 cases k with
 | inl i=>obtain⟨t,e⟩:=(show ∃t,u=Value.int i t from r);subst e;exact Bu P w i t
 | inr x=>obtain⟨t,e⟩:=(show ∃t,u=Value.str x t from r);subst e;exact pT P w x t
theorem zy {P:Program}{w:World}:∀{ks:List Key}{us:List Value},Vals (ks.map kV) us→ItemsAre (cZ P w) ks us
 | [],_,r=>by rw[List.map_nil] at r;cases r;exact .nil
 | k :: ks,_,r=>by
  rw[List.map_cons] at r
  cases r with
  | cons h t=>exact .cons (wN h) (zy t)
noncomputable abbrev KT (H:Hp):List (List Key×V)→List (List Key×Addr×Value)→Prop:=Paired fun p q=>p.1=q.1∧H q.2.1=some (.tup (p.1.map kV))∧RelV p.2 q.2.2
theorem KT.val {H:Hp}{kvs:List (List Key×V)}{xs:List (List Key×Addr×Value)}(r:KT H kvs xs) (k:List Key):vX (sG kvs k) ((atKey xs k).map (·.2)):=by
 induction r with
 | nil=>exact True.intro
 | @cons p q ps qs h t ih=>
  obtain⟨h1,_,h2⟩:=h
  by_cases e:p.1=k
  ·have e':q.1=k:=h1.symm.trans e
   have b:atKey (q :: qs) k=some q.2:=by simp[atKey,List.find?_cons,e']
   rw[tR e,b];exact h2
  ·have e':¬q.1=k:=fun z=>e (h1.trans z)
   have b:atKey (q :: qs) k=atKey qs k:=by simp[atKey,List.find?_cons,e']
   rw[pY e,b];exact ih
theorem KT.repl {H:Hp}{kvs:List (List Key×V)}{xs:List (List Key×Addr×Value)}(r:KT H kvs xs) (k:List Key){y:V}{u:Value}(ry:RelV y u):
  KT H (kvs.map fun kv=>if kv.1=k then(kv.1,y) else kv) (xs.map (putAt k u)):=by
 induction r with
 | nil=>exact .nil
 | @cons p q ps qs h t ih=>
  rw[List.map_cons,List.map_cons]
  refine .cons ?_ ih
  obtain⟨h1,h2,h3⟩:=h
  unfold putAt
  by_cases e:p.1=k
  ·rw[if_pos e,if_pos (h1.symm.trans e)];exact⟨h1,h2,ry⟩
  ·rw[if_neg e,if_neg (fun z=>e (h1.trans z))];exact⟨h1,h2,h3⟩
theorem KT.put {H:Hp}{kvs:List (List Key×V)}{xs:List (List Key×Addr×Value)}(r:KT H kvs xs) (k:List Key){b:Addr}{y:V}{u:Value}(hb:H b=some (.tup (k.map kV))) (ry:RelV y u):
  KT H (putK kvs k y) (storedH xs k b u):=by
 have e:(kvs.any fun kv=>decide (kv.1=k))=(atKey xs k).isSome:=by
  rw[BA,(r.val k).FF,Option.isSome_map]
 unfold putK storedH
 rw[e]
 by_cases q:(atKey xs k).isSome=true
 ·rw[if_pos q,if_pos q];exact r.repl k ry
 ·rw[if_neg q,if_neg q];exact Paired.snoc r ⟨rfl,hb,ry⟩
theorem KT.keeps {H H':Hp}{kvs:List (List Key×V)}{xs:List (List Key×Addr×Value)}(r:KT H kvs xs) (ht:∀b ys,H b=some (.tup ys)→H' b=some (.tup ys)):KT H' kvs xs:=
 Paired.Fq r fun _ _ z=>⟨z.1,ht _ _ z.2.1,z.2.2⟩
section
variable {P:Program}{w:World}{H:Hp}{h:Heap}{a:Addr}
theorem MJ {u:HO}(ok:rS P w H h) (e:Rd H a u):gR P w H h a u:=e.ok ok
theorem zz {kvs:List (Key×V)}(ok:rS P w H h) (e:Rd H a (.dK kvs)):kvs.length≤sizeLine∧(a == sysModules)=false∧∃vs,KV kvs vs∧h.DictOf (cZ P w) a vs:=
 show gR P w H h a (.dK kvs) from MJ ok e
theorem EA {kvs:List (Key×V)}(ok:rS P w H h) (e:H a=some (.dK kvs)):kvs.length≤sizeLine∧(a == sysModules)=false∧∃vs,KV kvs vs∧h.DictOf (cZ P w) a vs:=zz ok (.inl e)
theorem Aj {ks:List Key}(ok:rS P w H h) (e:H a=some (.tup (ks.map kV))):(tupleKind (cZ P w)).is h ks a:=by
 obtain⟨_,its,r,o,h1,h2,n,h3⟩:=(show gR P w H h a (.tup (ks.map kV)) from ok a _ e)
 exact⟨o,its.toArray,n,h1,h2,h3,by simpa using zy r⟩
theorem BB {kvs : List (List Key × V)} (ok : rS P w H h) (e : Rd H a (.dT kvs)) : kvs.length ≤ sizeLine ∧ (a == sysModules) = false ∧
    ∃xs,KT H kvs xs∧h.DictOfH (tupleKind (cZ P w)) a xs:=by
  obtain⟨z,y,xs,r,o,es,ep,h1,h2,h3,h4,h5⟩:=(show gR P w H h a (.dT kvs) from MJ ok e)
  refine⟨z,y,xs,r,o,es,ep,h1,h2,h3,h4,fun x hx=>?_,h5⟩
  have all:∀{l:List (List Key×V)}{m:List (List Key×Addr×Value)},KT H l m→∀x∈m,(tupleKind (cZ P w)).is h x.1 x.2.1:=by
    intro l m q
    induction q with
    | nil=>intro x hx;exact nomatch hx
    | @cons p q ps qs hq t ih=>
      intro x hx
      rcases List.mem_cons.mp hx with e | hx
      · subst e
        exact Aj ok (by rw[←hq.1];exact hq.2.1)
      · exact ih x hx
  exact all r x hx
theorem Q4 {kvs:List (List Key×V)}(ok:rS P w H h) (e:H a=some (.dT kvs)):kvs.length≤sizeLine∧(a == sysModules)=false∧
  ∃xs,KT H kvs xs∧h.DictOfH (tupleKind (cZ P w)) a xs:=BB ok (.inl e)
end
noncomputable def rT (H:Hp) (a:Addr) (y:V) (r:Option V):Prop:=
 (∃kvs k,Rd H a (.dK kvs)∧y=kV k∧r=sG kvs k)∨∃kvs k b,Rd H a (.dT kvs)∧y= .ref b∧H b=some (.tup (k.map kV))∧r=sG kvs k
noncomputable def BC (H:Hp) (a:Addr) (y v:V) (H':Hp):Prop:=
 (∃kvs k,H a=some (.dK kvs)∧y=kV k∧kvs.length < sizeLine∧H'=upd H a (.dK (putK kvs k v)))∨
 ∃kvs k b,H a=some (.dT kvs)∧y= .ref b∧H b=some (.tup (k.map kV))∧kvs.length < sizeLine∧H'=upd H a (.dT (putK kvs k v))
theorem rT.k {H:Hp}{a:Addr}{kvs:List (Key×V)}{k:Key}(e:H a=some (.dK kvs)):rT H a (kV k) (sG kvs k):=.inl ⟨kvs,k,.inl e,rfl,rfl⟩
theorem rT.t {H:Hp}{a b:Addr}{kvs:List (List Key×V)}{k:List Key}(e:H a=some (.dT kvs)) (eb:H b=some (.tup (k.map kV))):rT H a (.ref b) (sG kvs k):=.inr ⟨kvs,k,b,.inl e,rfl,eb,rfl⟩
theorem BC.k {H:Hp}{a:Addr}{kvs:List (Key×V)}{k:Key}{v:V}(e:H a=some (.dK kvs)) (hl:kvs.length < sizeLine):BC H a (kV k) v (upd H a (.dK (putK kvs k v))):=.inl ⟨kvs,k,e,rfl,hl,rfl⟩
theorem BC.t {H:Hp}{a b:Addr}{kvs:List (List Key×V)}{k:List Key}{v:V}(e:H a=some (.dT kvs)) (eb:H b=some (.tup (k.map kV))) (hl:kvs.length < sizeLine):
  BC H a (.ref b) v (upd H a (.dT (putK kvs k v))):=.inr ⟨kvs,k,b,e,rfl,eb,hl,rfl⟩
section
variable {X:Cx}{pins:List (Addr×Obj)}{σ:St}{H:Hp}{s:Shared}{a:Addr}{y v:V}{u r:Value}{o:Option V}{A:Around}{E:Value→Shared→Prop}
theorem Inv.big (I:Inv X pins σ H s):sysModules < s.heap.objs.size:=by
 have h:mainGlobals < s.heap.objs.size:=(I.mod.glob.keeps I.bk).lt
 exact Nat.lt_trans (by decide) h
theorem FG {Q:Value→Shared→Prop}(hu:A.units+1 < cLine) (I:Inv X pins σ H s) (g:rT H a y (some v)) (ry:RelV y u) (h:∀w' s',Inv X pins σ H s'→RelV v w'→Q w' s'):
  wpAny (model X.prog X.w) A (getItem (.ref a) u) Q E s:=by
 rcases g with⟨kvs,k,e,ey,l⟩ | ⟨kvs,k,b,e,ey,eb,l⟩
 ·subst ey
  obtain⟨z,hd,vs,rel,dd⟩:=zz I.hok e
  obtain⟨w',hw,rw'⟩:=vX.some_of (v:=v) (o:=valueAt vs k) (by rw[l];exact rel.val k)
  exact wpAny_getItem_of (wN ry) dd.mapOf hw (h w' _ (I.tok _) rw')
 ·subst ey
  cases(show u=Value.ref b from ry)
  obtain⟨z,hd,xs,rel,dd⟩:=BB I.hok e
  obtain⟨w',hw,rw'⟩:=vX.some_of (v:=v) (o:=(atKey xs k).map (·.2)) (by rw[l];exact rel.val k)
  obtain⟨p,hp,hp2⟩:=Option.map_eq_some_iff.mp hw
  refine wpAny_getItem_heap (tupleKind_room_in1 hu) (Aj I.hok eb) dd hp ?_
  rw[hp2]
  exact h w' _ (I.tok _) rw'
theorem wC {h':Heap}{t':Nat}{ob:HO}(I:Inv X pins σ H s) (mu:Qu (H a)) (hs:Heap.SameBut a s.heap h') (he:∃q,h'.get? a=some q) (new:gR X.prog X.w (upd H a ob) h' a ob):
  Inv X pins σ (upd H a ob) {s with heap:=h',toks:=t'}:=
 I.write (x:=a) (e:=a) mu (.inl rfl) (fun b q hb z=>(hs.2 b hb).trans z) he new
theorem Df {P:Program}{w:World}{H':Hp}{h':Heap}{kvs:List (Key×V)}{vs:List (Key×Value)}(z:kvs.length≤sizeLine) (hd:(a == sysModules)=false) (rel:KV kvs vs) (dd:h'.DictOf (cZ P w) a vs):
  gR P w H' h' a (.dK kvs):=⟨z,hd,vs,rel,dd⟩
theorem FH {H':Hp}{Q:Unit→Shared→Prop}(hu:A.units+1 < cLine) (I:Inv X pins σ H s) (g:BC H a y v H') (ry:RelV y u) (rv:RelV v r) (h:∀s',Inv X pins σ H' s'→Q () s'):
  wpAny (model X.prog X.w) A (setItem (.ref a) u r) Q E s:=by
 rcases g with⟨kvs,k,e,ey,l,eH⟩ | ⟨kvs,k,b,e,ey,eb,l,eH⟩
 ·subst ey eH
  obtain⟨z,hd,vs,rel,dd⟩:=EA I.hok e
  have hz:vs.length≤sizeLine:=by rw[←rel.length];exact z
  have hl:(putK kvs k v).length≤sizeLine:=by have:=pZ kvs k v;omega
  refine wpAny_setItem_pairs (hsz:=hz) (wN ry) dd fun h' Kv hs=>h _ ?_
  have he:∃q,h'.get? a=some q:=let⟨q,_,_,hq,_⟩:=Kv;⟨q,hq⟩
  exact wC I (by rw[e];exact True.intro) hs he (Df hl hd (rel.put k rv) Kv)
 ·subst ey eH
  cases(show u=Value.ref b from ry)
  obtain⟨z,hd,xs,rel,dd⟩:=Q4 I.hok e
  have hz:xs.length≤sizeLine:=by rw[←Paired.length rel];exact z
  have hl:(putK kvs k v).length≤sizeLine:=by have:=pZ kvs k v;omega
  refine wpAny_setItem_heap (hsz:=hz) (tupleKind_room_in1 hu) (Aj I.hok eb) dd fun h' Kv hs=>h _ ?_
  obtain⟨q,es,ep,hq,h2,h3,h4,_,h5⟩:=Kv
  refine wC I (by rw[e];exact True.intro) hs ⟨q,hq⟩ ⟨hl,hd,_,(rel.put k eb rv).keeps fun c ys ec=>?_,q,es,ep,hq,h2,h3,h4,h5⟩
  rw[bI (Qt ec e (fun z=>nomatch z))]
  exact ec
end
section
variable {X:Cx}{pins:List (Addr×Obj)}{σ:St}{H:Hp}{s:Shared}{a:Addr}{kvs:List (Key×V)}{k:Key}{u:Value}{A:Around}{E:Value→Shared→Prop}
theorem Q5 {Q:Value→Shared→Prop}(I:Inv X pins σ H s) (e:Rd H a (.dK kvs)) (h:∀t s',Inv X pins σ H s'→Q (.int kvs.length t) s'):wpAny (model X.prog X.w) A (call (.builtin "len") [.ref a]) Q E s:=by
 obtain⟨z,hd,vs,rel,dd⟩:=zz I.hok e
 refine call_len_dict hd dd (by rw[←rel.length];rw[sizeLine_eq] at z;omega) ?_
 rw[←rel.length]
 exact h _ _ (I.tok _)
end
noncomputable def K4 (i:Expr):Prop:=∀ov iv,subscripted i false ov iv=operate [ov,iv] (getItem ov iv)
theorem EB {prog:Program}{w:World}{A:Around}{E:Value→Shared→Prop}{s:Shared}{env:Env}{value slice:Expr}{pos:Pos}{T id:String}{Q:Value→Shared→Prop}
  (hl:typeLookup (.type T) "__getitem__" =pure (some (.builtin id))) (hs:K4 slice)
  (h:wpAny (model prog w) A (eval value env) (fun o s₁=>wpAny (model prog w) A (eval slice env) (fun i s₂=>s₂.TypeIs o T∧wpAny (model prog w) A (getItem o i) Q E s₂) E s₁) E s):
  wpAny (model prog w) A (eval (.Subscript value slice pos) env) Q E s:=by
 refine Subscript_ (wpAny_mono h (fun o s₁ h₁=>wpAny_mono h₁ (fun i s₂ h₂=>?_) fun _ _ x=>x) fun _ _ x=>x)
 obtain⟨hT,h₂⟩:=h₂
 unfold subscriptTail
 refine wpAny_bind ?_
 rw[getitemInPython_of_ne hT.not_modules]
 refine wpAny_bind (wpAny_specialOf hT hl ?_)
 have fin:wpAny (model prog w) A (subscripted slice false o i) (fun r s₃=>wpAny (model prog w) A (letTemporaryGo value o r >>= fun _=>pure r) Q E s₃) E s₂:=by
  rw[hs o i]
  exact wpAny_operating (wpAny_mono h₂ (fun r s₃ h₃=>wpAny_bind (wpAny_letTemporaryGo (wpAny_pure h₃))) fun _ _ x=>x)
 first
  | exact wpAny_pure (wpAny_bind fin)
  | exact wpAny_bind (wpAny_pure (wpAny_bind fin))
  | exact wpAny_bind fin
theorem BD {X:Cx}{pins:List (Addr×Obj)}{σ:St}{H:Hp}{s:Shared}{a:Addr}{y:V}{o:Option V}(I:Inv X pins σ H s) (g:rT H a y o):s.TypeIs (.ref a) "dict":=by
 rcases g with⟨kvs,k,e,_,_⟩ | ⟨kvs,k,b,e,_,_,_⟩
 ·obtain⟨_,_,vs,_,dd⟩:=zz I.hok e
  exact dd.typeIs
 ·obtain⟨_,_,xs,_,dd⟩:=BB I.hok e
  exact dd.typeIs
noncomputable def Q6 (td ty:TE):TE:=fun σ H Q=>td σ H fun x H1=>ty σ H1 fun y H2=>∃a v,x= .ref a∧rT H2 a y (some v)∧Q v H2
noncomputable def Q7 (td ty tv:TE):TS:=fun D σ H=>tv σ H fun v H1=>td σ H1 fun x H2=>ty σ H2 fun y H3=>∃a H4,x= .ref a∧BC H3 a y v H4∧D.nx σ H4
section
variable {X:Cx}{o i e value:Expr}{pos pos' tpos:Pos}{td ty tv:TE}
theorem EC (hu:X.A.units+1 < cLine) (ho:PE X o td) (hi:PE X i ty) (hs:K4 i):PE X (.Subscript o i pos) (Q6 td ty):=by
 intro pins s σ H Q I h
 refine EB PySem.F.slot_dict_getitem.lookup hs (fR (ho pins s σ H _ I h) fun u s1 ⟨x,H1,I1,rx,q1⟩=>fR (hi pins s1 σ H1 _ I1 q1) fun iv s2 ⟨y,H2,I2,ry,a,v,ex,g,q2⟩=>?_)
 subst ex
 obtain rfl:u=Value.ref a:=rx
 exact⟨BD I2 g,FG hu I2 g ry fun w' s3 I3 rw'=>⟨v,H2,I3,rw',q2⟩⟩
theorem ED (hu:X.A.units+1 < cLine) (ho:PE X o td) (hi:PE X i ty) (hv:PE X value tv) (hs:swapsWith value (some (.Subscript o i pos')) pos.line X.env=pure false):
  PS X (.Assign [.Subscript o i pos'] value pos) (Q7 td ty tv):=by
 intro pins s σ H D I h
 refine wpAny_Assign_Subscript (fR (hv pins s σ H _ I h) fun r s1 ⟨v,H1,I1,rv,q1⟩=>fR (ho pins s1 σ H1 _ I1 q1) fun u s2 ⟨x,H2,I2,rx,q2⟩=>fR (hi pins s2 σ H2 _ I2 q2) fun iv s3 ⟨y,H3,I3,ry,a,H4,ex,g,q3⟩=>?_) hs
 subst ex
 obtain rfl:u=Value.ref a:=rx
 exact FH hu I3 g ry rv fun s4 I4=>⟨σ,H4,I4,q3⟩
end
theorem Ic {P:Program}{w:World}{H:Hp}(h:Heap) (hb:sysModules < h.objs.size):gR P w H (h.push {cls:=.type "dict",data:=.dict #[]}) h.objs.size (.dK []):=
 ⟨Nat.zero_le _,beq_eq_false_iff_ne.mpr (Ne.symm (Nat.ne_of_lt hb)),[],.nil,Heap.DictOf.new h⟩
section
variable {X:Cx}{pos:Pos}
end
noncomputable def wO:List (TE×TE)→St→Hp→(List (V×V)→Hp→Prop)→Prop
 | [],_,H,Q=>Q [] H
 | (tk,tv) :: r,σ,H,Q=>tk σ H fun x H1=>tv σ H1 fun y H2=>wO r σ H2 fun ps H3=>Q ((x,y) :: ps) H3
noncomputable abbrev VV:List (V×V)→List (Value×Value)→Prop:=Paired fun p q=>RelV p.1 q.1∧RelV p.2 q.2
noncomputable def Q8 (X:Cx) (pos:Pos) (keys:List (Option Expr)) (values:List Expr) (K5:List (TE×TE)):Prop:=
 ∀(pins:List (Addr×Obj)) (s:Shared) (σ:St) (H:Hp) (Q:List (V×V)→Hp→Prop),Inv X pins σ H s→wO K5 σ H Q→
  wpAny (model X.prog X.w) X.A (evalPairs (pairTrees keys values X.env pos)) (fun vs s'=>∃ps H',Inv X pins σ H' s'∧VV ps vs∧Q ps H') X.xe s
theorem K6 {X:Cx}{pos:Pos}:Q8 X pos [] [] []:=fun pins s σ H Q I h=>pairTrees_nil_walk ⟨[],H,I,.nil,h⟩
theorem Ie {X:Cx}{pos:Pos}{k v:Expr}{ks:List (Option Expr)}{vs:List Expr}{tk tv:TE}{K5:List (TE×TE)}(hk:PE X k tk) (hv:PE X v tv) (hr:Q8 X pos ks vs K5):
  Q8 X pos (some k :: ks) (v :: vs) ((tk,tv) :: K5):=fun pins s σ H Q I h=>
 pairTrees_cons_walk (fR (hk pins s σ H _ I h) fun u s1 ⟨x,H1,I1,rx,q1⟩=>fR (hv pins s1 σ H1 _ I1 q1) fun w2 s2 ⟨y,H2,I2,ry,q2⟩=>
  fR (hr pins s2 σ H2 _ I2 q2) fun ws s3 ⟨ps,H3,I3,rel,q3⟩=>⟨(x,y) :: ps,H3,I3,.cons ⟨rx,ry⟩ rel,q3⟩)
noncomputable def lN (kvs more:List (Key×V)):List (Key×V):=more.foldl (fun acc kv=>putK acc kv.1 kv.2) kvs
theorem KV.merge:∀{more:List (Key×V)}{rs:List (Key×Value)}{kvs:List (Key×V)}{vs:List (Key×Value)},KV more rs→KV kvs vs→KV (lN kvs more) (merged vs rs):=by
 intro more rs kvs vs r
 unfold KV at r
 induction r generalizing kvs vs with
 | nil=>intro q;exact q
 | @cons p q ps qs h t ih=>
  intro r0
  have e:KV (putK kvs p.1 p.2) (stored vs q.1 q.2):=by
   have:=r0.put p.1 h.2
   rw[←h.1];exact this
  exact ih e
theorem mV:∀(more kvs:List (Key×V)),(lN kvs more).length≤kvs.length+more.length
 | [],kvs=>by show kvs.length≤kvs.length+0;omega
 | p :: r,kvs=>by
  have h1:=mV r (putK kvs p.1 p.2)
  have h2:=pZ kvs p.1 p.2
  show(lN (putK kvs p.1 p.2) r).length≤_
  rw[List.length_cons];omega
theorem wQ {P:Program}{w:World}:∀{kvs:List (Key×V)}{ws:List (Value×Value)},VV (kvs.map fun kv=>(kV kv.1,kv.2)) ws→∃rs,Carries (cZ P w) ws rs∧KV kvs rs
  | [],_,r=>by rw[List.map_nil] at r;cases r;exact⟨[],True.intro,.nil⟩
  | p :: kvs, _, r => by
    rw[List.map_cons] at r
    cases r with
    | @cons a b as bs h t=>
      obtain⟨rs,c,q⟩:=wQ (P:=P) (w:=w) t
      obtain⟨b1,b2⟩:=b
      exact⟨(p.1,b2) :: rs,⟨wN h.1,rfl,c⟩,.cons ⟨rfl,h.2⟩ q⟩
noncomputable def Q9 (K5:List (TE×TE)):TE:=fun σ H Q=>∀p,H p=none→wO K5 σ (upd H p (.dK [])) fun ps H2=>H2 p=some (.dK [])∧∃kvs:List (Key×V),ps=kvs.map (fun kv=>(kV kv.1,kv.2))∧kvs.length≤15∧Q (.ref p) (upd H2 p (.dK (lN [] kvs)))
theorem K7 {X:Cx}{pos:Pos}{keys:List (Option Expr)}{values:List Expr}{K5:List (TE×TE)}(h:Q8 X pos keys values K5) (hall:keys.all (·.isSome)=true) (hl:keys.length=values.length) (h0:keys≠[])
  (WI:keys.length≤15):PE X (.Dict keys values pos) (Q9 K5):=by
 intro pins s σ H Q I q
 have hn:=I.hok.fresh (Nat.le_refl s.heap.objs.size)
 have I1:=I.laid (a:=s.heap.objs.size) (o:=.dK []) (h':=s.heap.push {cls:=.type "dict",data:=.dict #[]}) (t':=s.toks) (fun _ _ q=>Heap.get?_push_of_some _ q) (Nat.le_refl _) (Ic s.heap I.big)
 refine wpAny_Dict_walk (knd:=cZ X.prog X.w) hall hl h0 WI (fR (h pins _ σ _ _ I1 (q _ hn)) fun ws s2 ⟨ps,H2,I2,rel,e,kvs,ep,lk,q2⟩=>?_)
 subst ep
 obtain⟨rs,c,rk⟩:=wQ (P:=X.prog) (w:=X.w) rel
 obtain⟨z,hd,vs0,r0,dd⟩:=EA I2.hok e
 cases r0
 refine⟨rs,c,dd,fun h' Kv hs=>⟨.ref s.heap.objs.size,_,?_,rfl,q2⟩⟩
 have hz:(lN [] kvs).length≤sizeLine:=by
  have h1:=mV kvs []
  rw[List.length_nil] at h1
  rw[sizeLine_eq];omega
 have he:∃q,h'.get? s.heap.objs.size=some q:=let⟨q,_,_,hq,_⟩:=Kv;⟨q,hq⟩
 exact wC I2 (by rw[e];exact True.intro) hs he (Df hz hd (rk.merge .nil) Kv)
structure M1 (X:Cx) (o:Expr) (m:Str) (apos:Pos) (e:Expr) (cpos:Pos):Prop where
 base:attributeBase o m X.env (eval o X.env)=eval o X.env
 few:((backTo cpos (starEach [e] X.env)).all (fun x=>!x.1) && (backToKw cpos (keywordEach [] X.env)).all (fun x=>x.1.isSome)
  && decide (([e]:List Expr).length+([]:List Keyword).length+(if([]:List Keyword).isEmpty then 0 else 1) < 30))=true
 line:(apos.endLine == cpos.line)=true
 trees:backTo cpos (starEach [e] X.env)=[(false,eval e X.env)]
structure M2 (X:Cx) (o:Expr) (m:Str) (apos:Pos) (e f:Expr) (cpos:Pos):Prop where
 base:attributeBase o m X.env (eval o X.env)=eval o X.env
 few:((backTo cpos (starEach [e,f] X.env)).all (fun x=>!x.1) && (backToKw cpos (keywordEach [] X.env)).all (fun x=>x.1.isSome)
  && decide (([e,f]:List Expr).length+([]:List Keyword).length+(if([]:List Keyword).isEmpty then 0 else 1) < 30))=true
 line:(apos.endLine == cpos.line)=true
 trees:backTo cpos (starEach [e,f] X.env)=[(false,eval e X.env),(false,eval f X.env)]
noncomputable def U1 (H:Hp) (a:Addr):Prop:=(∃kvs,Rd H a (.dK kvs))∨∃kvs,Rd H a (.dT kvs)
theorem Ig {X:Cx}{pins:List (Addr×Obj)}{σ:St}{H:Hp}{s:Shared}{a:Addr}(I:Inv X pins σ H s) (d:U1 H a):
  s.TypeIs (.ref a) "dict"∧(∀b,Value.ref a= .ref b→∃ob,s.heap.get? b=some ob∧ob.dict=none)∧(a == sysModules)=false:=by
 rcases d with⟨kvs,e⟩ | ⟨kvs,e⟩
 ·obtain⟨_,hd,vs,_,dd⟩:=zz I.hok e
  refine⟨dd.typeIs,fun b q=>?_,hd⟩
  cases q
  obtain⟨ob,_,_,h1,h2,_⟩:=dd
  exact⟨ob,h1,h2.2.1⟩
 ·obtain⟨_,hd,xs,_,dd⟩:=BB I.hok e
  refine⟨dd.typeIs,fun b q=>?_,hd⟩
  cases q
  obtain⟨ob,_,_,h1,h2,_⟩:=dd
  exact⟨ob,h1,h2.2.1⟩
section
variable {X:Cx}{pins:List (Addr×Obj)}{σ:St}{H:Hp}{s:Shared}{a:Addr}{y d:V}{u r:Value}{o:Option V}{A:Around}{E:Value→Shared→Prop}
theorem NP {Q:Value→Shared→Prop}(hu:A.units+1 < cLine) (I:Inv X pins σ H s) (g:rT H a y o) (ry:RelV y u) (rd:RelV d r) (h:∀w' s',Inv X pins σ H s'→RelV (o.getD d) w'→Q w' s'):
  wpAny (model X.prog X.w) A (call (.builtin "dict.get") [.ref a,u,r]) Q E s:=by
 rcases g with⟨kvs,k,e,ey,l⟩ | ⟨kvs,k,b,e,ey,eb,l⟩
 ·subst ey
  obtain⟨z,hd,vs,rel,dd⟩:=zz I.hok e
  refine call_meetsIn PySem.F.slot_dict_get dd.typeIs PySem.F.entry_dict_get (PySem.F.args_dict_get_3 _ _ _) (meets_dict_get_default (cZ X.prog X.w) a (wN ry) hd r) ⟨_,dd.mapOf,h _ _ (I.tok _) ?_⟩
  rw[l]
  exact(rel.val k).getD rd
 ·subst ey
  cases(show u=Value.ref b from ry)
  obtain⟨z,hd,xs,rel,dd⟩:=BB I.hok e
  refine call_meetsIn PySem.F.slot_dict_get dd.typeIs PySem.F.entry_dict_get (PySem.F.args_dict_get_3 _ _ _) (meetsH_dict_get_default (tupleKind (cZ X.prog X.w)) a b hd r) ⟨tupleKind_room_in1 hu,k,xs,Aj I.hok eb,dd,h _ _ (I.tok _) ?_⟩
  rw[l]
  exact(rel.val k).getD rd
end
noncomputable def NQ (td ty tx:TE):TE:=fun σ H Q=>td σ H fun x H1=>∃a,x= .ref a∧U1 H1 a∧ty σ H1 fun y H2=>tx σ H2 fun z H3=>∃o,rT H3 a y o∧Q (o.getD z) H3
section
variable {X:Cx}{o e f:Expr}{apos cpos:Pos}{td ty tx:TE}
theorem Ih (hu:X.A.units+1 < cLine) (ho:PE X o td) (he:PE X e ty) (hf:PE X f tx) (m:M2 X o "get" apos e f cpos):PE X (.Call (.Attribute o "get" apos) [e,f] [] cpos) (NQ td ty tx):=by
 intro pins s σ H Q I h
 refine wpAny_Call_method m.base m.few m.line PySem.F.plainAttrs_dict PySem.F.slot_dict_get PySem.F.type_dict_get (fR (ho pins s σ H _ I h) fun u s1 ⟨x,H1,I1,rx,a,ex,d,q1⟩=>?_)
 subst ex
 obtain rfl:u=Value.ref a:=rx
 obtain⟨t1,t2,_⟩:=Ig I1 d
 refine⟨t1,t2,?_⟩
 rw[m.trees]
 refine Calls.callWith_builtin rfl (Calls.evalArgs_plain (Calls.spliced_cons (fR (he pins s1 σ H1 _ I1 q1) fun iv s2 ⟨y,H2,I2,ry,q2⟩=>
  Calls.spliced_cons (fR (hf pins s2 σ H2 _ I2 q2) fun fv s3 ⟨z,H3,I3,rz,ov,g,q3⟩=>Calls.spliced_nil ?_))))
 exact NP hu I3 g ry rz fun w' s4 I4 rw'=>⟨_,H3,I4,rw',q3⟩
end
section
variable {X:Cx}{pins:List (Addr×Obj)}{σ:St}{H:Hp}{s:Shared}{a:Addr}{kvs:List (Key×V)}{A:Around}{E:Value→Shared→Prop}
end
section
variable {X:Cx}{pins:List (Addr×Obj)}{σ:St}{H:Hp}{s:Shared}{a:Addr}{y:V}{u:Value}{A:Around}{E:Value→Shared→Prop}
end
end L2
namespace HT
open PySem PyProof.Rows
section
open PySem.SeqAt
open PySem.AutoSeq1 (wpAny_loadPart')
open PySem.MeetsSeq PySem.MeetsSeq2 PySem.MeetsSeq3
end
section
variable {prog:Program}{w:World}{A:Around}{E:Value→Shared→Prop}{s:Shared}
theorem K8 {t b:Addr}{vs ws:List Value}{Q:Value→Shared→Prop}(ht:IsTup s.heap t vs.toArray) (hb:IsTup s.heap b ws.toArray) (hv:vs≠[])
  (h1:ws=[]→Q (.ref t) s) (h2:ws≠[]→Q (.ref s.heap.objs.size) {s with heap:=s.heap.push {cls:=.type "tuple",data:=.seq (vs++ws).toArray}})
  (hsz:vs.length+ws.length≤sizeLine):wpAny (model prog w) A (binaryOp .Add (.ref t) (.ref b)) Q E s:=by
 obtain⟨⟨cls,dd,data,sl⟩,ho,hc,n,hd⟩:=id ht
 obtain⟨⟨WJ,dd2,data2,sl2⟩,ho2,hc2,n2,hd2⟩:=id hb
 simp only at hc hd hc2 hd2
 subst hc hd hc2 hd2
 have e:vs.toArray++ws.toArray=(vs++ws).toArray:=by simp
 by_cases hw:ws=[]
 ·exact concat_meets ⟨_,ho,rfl⟩ ⟨_,ho2,rfl⟩ noFill_tuple_add seq_tuple_add PySem.F.slot_tuple_add PySem.F.entry_tuple_add (PySem.F.args_tuple_add_2 _ _)
   (tuple_addW1 t b vs.toArray ws.toArray n n2 dd dd2 sl sl2 (by simpa using hv) (by simp[hw])) ⟨ho,ho2,h1 hw⟩
 ·refine concat_meets ⟨_,ho,rfl⟩ ⟨_,ho2,rfl⟩ noFill_tuple_add seq_tuple_add PySem.F.slot_tuple_add PySem.F.entry_tuple_add (PySem.F.args_tuple_add_2 _ _)
   (tuple_addW2 t b vs.toArray ws.toArray n n2 dd dd2 sl sl2 (by simpa using hv) (by simpa using hw) (by rw[List.size_toArray,List.size_toArray];exact hsz)) ⟨ho,ho2,?_⟩
  rw[e]
  exact h2 hw
noncomputable def iD (n d:Nat):Option Int→Nat
 | none=>d
 | some v=>if v < 0 then(v+(n:Int)).toNat else min v.toNat n
theorem BE (n d:Nat):iD n d none=d:=rfl
theorem EE (n d k:Nat):iD n d (some (k:Int))=min k n:=by
 show(if(k:Int) < 0 then((k:Int)+(n:Int)).toNat else min (k:Int).toNat n)=min k n
 rw[if_neg (by omega),Int.toNat_natCast]
theorem NR (n d:Nat) (hd:d≤n) (o:Option Int):iD n d o≤n:=by
 cases o with
 | none=>exact hd
 | some v=>
  show(if v < 0 then(v+(n:Int)).toNat else min v.toNat n)≤n
  by_cases hv:v < 0
  ·rw[if_pos hv];omega
  ·rw[if_neg hv];exact Nat.min_le_right _ _
theorem EF (v:Int) (n d:Nat):(if v < 0 then max (v+(n:Int)) 0 else min v (n:Int))=((iD n d (some v):Nat):Int):=by
 show(if v < 0 then max (v+(n:Int)) 0 else min v (n:Int))=(((if v < 0 then(v+(n:Int)).toNat else min v.toNat n):Nat):Int)
 by_cases hv:v < 0
 ·simp only[if_pos hv];omega
 ·simp only[if_neg hv];omega
theorem Dg (lo hi:Option Int) (n:Nat):Builtin.Slice.sliceAdjust lo hi 1 (n:Int)=(((iD n 0 lo:Nat):Int),((iD n n hi:Nat):Int)):=by
 have h1:¬((1:Int) < 0):=by omega
 unfold Builtin.Slice.sliceAdjust
 simp only[h1,if_false]
 refine Prod.ext ?_ ?_
 ·cases lo with
  | none=>rfl
  | some v=>exact EF v n 0
 ·cases hi with
  | none=>rfl
  | some v=>exact EF v n n
theorem Dh (i j:Nat):Builtin.Slice.slicePlaces (i:Int) (j:Int) 1=j - i:=by
 unfold Builtin.Slice.slicePlaces
 have h1:(1:Int) > 0:=by omega
 simp only[h1,if_true,Int.ediv_one]
 split <;> omega
theorem sH {v:Value}{o:Option Int}{Q:Option Int→Shared→Prop}(p:IsPart v o) (h:Q o s):wpAny (model prog w) A (Builtin.Slice.slicePartIndex v) Q E s:=by
 cases p with
 | none=>exact slicePart_none h
 | int i t=>exact slicePart_int h
theorem nC {sl:Addr}{vl vu:Value}{lo hi:Option Int}{n:Nat}{Q:Int×Int×Nat→Shared→Prop}(hs:s.heap.IsSliceOf sl vl vu .none) (pl:IsPart vl lo) (pu:IsPart vu hi)
  (h:Q (((iD n 0 lo:Nat):Int),1,iD n n hi - iD n 0 lo) s):wpAny (model prog w) A (Builtin.Slice.sliceApplied (.ref sl) (pure (n:Int))) Q E s:=by
 obtain⟨os,hos,hcs,hds⟩:=id hs
 unfold Builtin.Slice.sliceApplied Builtin.Slice.sliceFields
 refine wpAny_bind (wpAny_bind (wpAny_field hos hds (x:=vl) rfl (wpAny_bind (wpAny_field hos hds (x:=vu) rfl (wpAny_bind (wpAny_field hos hds (x:=.none) rfl (wpAny_pure ?_)))))))
 refine wpAny_bind (slicePart_none ?_)
 show wpAny _ _ (if((1:Int) == 0)=true then _ else _) _ _ s
 rw[if_neg (by decide)]
 refine wpAny_bind (sH pl (wpAny_bind (sH pu (wpAny_bind (wpAny_pure ?_)))))
 show wpAny _ _ (match Builtin.Slice.sliceAdjust lo hi 1 (n:Int) with | (lo,hi)=>pure (lo,(1:Int),Builtin.Slice.slicePlaces lo hi 1)) _ _ s
 rw[Dg lo hi n]
 show wpAny _ _ (pure (((iD n 0 lo:Nat):Int),(1:Int),Builtin.Slice.slicePlaces ((iD n 0 lo:Nat):Int) ((iD n n hi:Nat):Int) 1)) _ _ s
 rw[Dh]
 exact wpAny_pure h
theorem Ii (xs:Array Value) (i k:Nat):((List.range k).filterMap fun(m:Nat)=>xs[((i:Int)+(m:Int) * 1).toNat]?).toArray=((xs.toList.drop i).take k).toArray:=by
 have e:(fun(m:Nat)=>xs[((i:Int)+(m:Int) * 1).toNat]?)=fun m=>xs[i+m]?:=by
  funext m
  have:((i:Int)+(m:Int) * 1).toNat=i+m:=by omega
  rw[this]
 rw[e]
 have:=pick_run xs i k
 rw[List.filterMap_map] at this
 have e2:((fun x=>xs[x]?) ∘ fun x=>i+x)=fun m=>xs[i+m]?:=rfl
 rw[e2] at this
 rw[this]
theorem tT {t sl:Addr}{items:Array Value}{vl vu:Value}{lo hi:Option Int}{Q:Value→Shared→Prop}(ht:IsTup s.heap t items) (hs:s.heap.IsSliceOf sl vl vu .none) (pl:IsPart vl lo) (pu:IsPart vu hi)
  (hw:¬(iD items.size 0 lo=0∧iD items.size items.size hi=items.size))
  (h:Q (.ref s.heap.objs.size) {s with heap:=s.heap.push {cls:=.type "tuple",data:=.seq ((items.toList.drop (iD items.size 0 lo)).take (iD items.size items.size hi - iD items.size 0 lo)).toArray}})
  (hsz:items.size≤sizeLine):wpAny (model prog w) A (getItem (.ref t) (.ref sl)) Q E s:=by
 have tU:sizeOk (.seq ((items.toList.drop (iD items.size 0 lo)).take (iD items.size items.size hi - iD items.size 0 lo)).toArray):=by
  show((items.toList.drop (iD items.size 0 lo)).take (iD items.size items.size hi - iD items.size 0 lo)).toArray.size≤sizeLine
  rw[List.size_toArray,List.length_take,List.length_drop,Array.length_toList]
  omega
 have hj:iD items.size items.size hi≤items.size:=NR _ _ (Nat.le_refl _) hi
 obtain⟨os,hos,hcs,hds⟩:=id hs
 have Rb:s.TypeIs (.ref sl) "slice":=⟨os,hos,hcs⟩
 unfold getItem
 try with_reducible refine wpAny_holding ?_
 first | refine wpAny_bind (wpAny_pure ?_) | skip
 refine wpAny_bind (wpAny_sequenceKey ht.typeIs (by decide) ?_)
 refine wpAny_bind (wpAny_callSpecial?_slot (name:=Str.ofString "__getitem__") ht.typeIs PyProof.Rows.slot_tuple_getitem
  (wpAny_call_entry PyProof.Rows.slot_tuple_getitem ht.typeIs entry_tuple_getitem ?_ (args_tuple_getitem _ _)))
 show wpAny _ _ (Builtin.Tuple.tupleItemsOf (.ref t) >>= _) _ _ s
 refine wpAny_bind (tupleItemsOf_ ht ?_)
 refine wpAny_bind (wpAny_typeOf Rb ?_)
 rw[if_pos (by decide)]
 refine wpAny_bind (nC hs pl pu ?_)
 have hno:¬((((iD items.size 0 lo:Nat):Int) == 0 && (1:Int) == 1 && (iD items.size items.size hi - iD items.size 0 lo) == items.size)=true):=by
  intro q
  rw[Bool.and_eq_true,Bool.and_eq_true] at q
  have q1:((iD items.size 0 lo:Nat):Int)=0:=eq_of_beq q.1.1
  have q2:iD items.size items.size hi - iD items.size 0 lo=items.size:=eq_of_beq q.2
  exact hw ⟨by omega,by omega⟩
 show wpAny _ _ (if(((iD items.size 0 lo:Nat):Int) == 0 && (1:Int) == 1 && (iD items.size items.size hi - iD items.size 0 lo) == items.size)=true then _ else _) _ _ s
 rw[if_neg hno,Ii]
 first
  | exact wpAny_bind (m:=Builtin.Tuple.tupleExact _) (wpAny_newObj_type (wpAny_pure ⟨_,rfl,wpAny_pure h⟩) tU)
  | exact wpAny_bind (m:=Builtin.Tuple.tupleExact _) (wpAny_newObj_type (wpAny_bind (wpAny_pure (wpAny_pure ⟨_,rfl,wpAny_pure h⟩))) tU)
  | exact wpAny_bind (wpAny_bind (m:=Builtin.Tuple.tupleExact _) (wpAny_newObj_type (wpAny_pure (wpAny_pure ⟨_,rfl,wpAny_pure h⟩)) tU))
  | exact wpAny_bind (wpAny_bind (m:=Builtin.Tuple.tupleExact _) (wpAny_newObj_type (wpAny_pure ⟨_,rfl,wpAny_pure h⟩) tU))
end
end HT
namespace L2
open PySem PySem.Spec PyProof.Rows
noncomputable abbrev TO:=St→Hp→(Option Int→Hp→Prop)→Prop
noncomputable def PO (X:Cx) (e:Option Expr) (t:TO):Prop:=
 ∀(pins:List (Addr×Obj)) (s:Shared) (σ:St) (H:Hp) (Q:Option Int→Hp→Prop),Inv X pins σ H s→t σ H Q→
  wpAny (model X.prog X.w) X.A (evalPart e X.env) (fun u s'=>∃o H',Inv X pins σ H' s'∧IsPart u o∧Q o H') X.xe s
noncomputable def K9:TO:=fun _ H Q=>Q none H
noncomputable def MK (t:TE):TO:=fun σ H Q=>t σ H fun x H1=>∃i,x= .int i∧Q (some i) H1
theorem intsAre_of {ns:List Int}:∀{us:List Value},Vals (ns.map V.int) us→IntsAre us ns:=by
 induction ns with
 | nil=>intro us r;rw[List.map_nil] at r;cases r;exact .nil
 | cons n ns ih=>
  intro us r
  rw[List.map_cons] at r
  cases r with
  | cons r1 r2=>
   obtain⟨t,e⟩:=r1
   subst e
   exact .cons n t (ih r2)
section
variable {X:Cx}{e:Expr}{te:TE}{lo hi:Option Expr}{tl th:TO}{pos p2:Pos}
theorem La:PO X none K9:=by
 intro pins s σ H Q I h
 rw[evalPart_none]
 exact wpAny_pure ⟨none,H,I,.none,h⟩
theorem EG (h:PE X e te):PO X (some e) (MK te):=by
 intro pins s σ H Q I hw
 rw[evalPart_some]
 refine fR (h pins s σ H _ I hw) fun u s1 ⟨x,H1,I1,r1,q1⟩=>?_
 obtain⟨i,rfl,q⟩:=q1
 obtain⟨t,rfl⟩:=r1
 exact⟨some i,H1,I1,.int i t,q⟩
noncomputable def Lb (X:Cx) (r:V→Option Int→Option Int→Hp→VK→Prop):Prop:=
 ∀(pins:List (Addr×Obj)) (s:Shared) (σ:St) (H:Hp) (x:V) (v vl vu:Value) (lo hi:Option Int) (sl:Addr) (Q:VK),Inv X pins σ H s→RelV x v→s.heap.IsSliceOf sl vl vu .none→IsPart vl lo→IsPart vu hi→r x lo hi H Q→
  ∃T id,typeLookup (.type T) "__getitem__" =pure (some (.builtin id))∧s.TypeIs v T∧wpAny (model X.prog X.w) X.A (getItem v (.ref sl)) (EP X pins σ Q) X.xe s
theorem Lb.or {r r':V→Option Int→Option Int→Hp→VK→Prop}(h:Lb X r) (h':Lb X r'):Lb X (fun x lo hi H Q=>r x lo hi H Q∨r' x lo hi H Q):=by
 intro pins s σ H x v vl vu lo hi sl Q I rx hs pl pu q
 rcases q with q | q
 ·exact h pins s σ H x v vl vu lo hi sl Q I rx hs pl pu q
 ·exact h' pins s σ H x v vl vu lo hi sl Q I rx hs pl pu q
noncomputable def tSl (r:V→Option Int→Option Int→Hp→VK→Prop) (te:TE) (tl th:TO):TE:=fun σ H Q=>te σ H fun x H1=>tl σ H1 fun l H2=>th σ H2 fun u H3=>r x l u H3 Q
theorem BF {r:V→Option Int→Option Int→Hp→VK→Prop}(hr:Lb X r) (he:PE X e te) (hl:PO X lo tl) (hu:PO X hi th):PE X (.Subscript e (.Slice lo hi none p2) pos) (tSl r te tl th):=by
 intro pins s σ H Q I h
 refine Subscript_ (fR (he pins s σ H _ I h) fun v s1 ⟨x,H1,I1,r1,q1⟩=>?_)
 refine wpAny_Slice (fR (hl pins s1 σ H1 _ I1 q1) fun vl s2 ⟨l,H2,I2,pl,q2⟩=>fR (hu pins s2 σ H2 _ I2 q2) fun vu s3 ⟨u,H3,I3,pu,q3⟩=>?_)
 rw[evalPart_none]
 refine wpAny_pure ?_
 have I4:Inv X pins σ H3 {s3 with heap:=s3.heap.push {cls:=.type "slice",data:=.fields #[vl,vu,.none]}}:=I3.kept (t':=s3.toks) fun b ob q=>Heap.get?_push_of_some _ q
 obtain⟨T,id,hT,ht,hg⟩:=hr pins {s3 with heap:=s3.heap.push {cls:=.type "slice",data:=.fields #[vl,vu,.none]}} σ H3 x v vl vu l u s3.heap.objs.size Q I4 r1 (Heap.IsSliceOf.new ..) pl pu q3
 show wpAny (model X.prog X.w) X.A (subscriptTail e (.Slice lo hi none p2) v (.ref s3.heap.objs.size)) (EP X pins σ Q) X.xe {s3 with heap:=s3.heap.push {cls:=.type "slice",data:=.fields #[vl,vu,.none]}}
 exact tail_any (ops:=[.ref s3.heap.objs.size,v]) ht hT hg (by with_unfolding_all rfl)
noncomputable def yG (xs:List V) (lo hi:Option Int):List V:=(xs.drop (HT.iD xs.length 0 lo)).take (HT.iD xs.length xs.length hi - HT.iD xs.length 0 lo)
theorem vJ (xs:List V) (lo hi:Option Int):(yG xs lo hi).length≤xs.length:=by
 unfold yG
 rw[List.length_take,List.length_drop]
 omega
noncomputable def WK (K:PySem.W.Frag):V→Option Int→Option Int→Hp→VK→Prop:=fun x lo hi H Q=>∃a xs,x= .ref a∧Ag K H a xs∧
 ¬(HT.iD xs.length 0 lo=0∧HT.iD xs.length xs.length hi=xs.length)∧∀p,H p=none→Q (.ref p) (upd H p (.tup (yG xs lo hi)))
theorem NS:Lb X (WK X.K):=by
 intro pins s σ H x v vl vu lo hi sl Q I rx hs pl pu h
 obtain⟨a,xs,rfl,hx,hw,q⟩:=h
 cases rx
 obtain⟨its,r,ht,hz⟩:=I.tuple hx
 have hlen:its.toArray.size=xs.length:=by rw[List.size_toArray];exact r.length.symm
 refine⟨"tuple",_,PyProof.Rows.slot_tuple_getitem.lookup,ht.typeIs,?_⟩
 refine HT.tT ht hs pl pu (by rw[hlen];exact hw) ?_ (by rw[hlen];exact hz)
 rw[hlen]
 refine⟨.ref s.heap.objs.size,_,I.laid (t':=s.toks) (o:=.tup (yG xs lo hi)) (fun b ob q=>Heap.get?_push_of_some _ q) (Nat.le_refl _) ?_,rfl,q _ (I.hok.fresh (Nat.le_refl _))⟩
 exact⟨Nat.le_trans (vJ xs lo hi) hz,_,(r.drop (HT.iD xs.length 0 lo)).take (HT.iD xs.length xs.length hi - HT.iD xs.length 0 lo),IsTup.new _ _⟩
noncomputable def Rc (K:PySem.W.Frag):R2:=fun x y H Q=>∃a b xs ys,x= .ref a∧y= .ref b∧Ag K H a xs∧Ag K H b ys∧xs≠[]∧xs.length+ys.length≤sizeLine∧
 (ys=[]→Q (.ref a) H)∧(ys≠[]→∀p,H p=none→Q (.ref p) (upd H p (.tup (xs++ys))))
theorem Vals.Ak {xs:List V}{us:List Value}(r:Vals xs us):us=[]↔xs=[]:=by
 cases r with
 | nil=>simp
 | cons _ _=>simp
theorem Lc:uN X (binaryOp .Add) (Rc X.K):=by
 intro pins s σ H x y v u Q I rx ry h
 obtain⟨a,b,xs,ys,rfl,rfl,ha,hb,hx,hz,q1,q2⟩:=h
 cases rx
 cases ry
 obtain⟨its,r1,p1,_⟩:=I.tuple ha
 obtain⟨its2,r2,p2,_⟩:=I.tuple hb
 refine HT.K8 p1 p2 (fun z=>hx (r1.Ak.mp z)) (fun z=>⟨.ref a,H,I,rfl,q1 (r2.Ak.mp z)⟩) (fun z=>?_) (by rw[←r1.length,←r2.length];exact hz)
 refine⟨.ref s.heap.objs.size,_,I.laid (t':=s.toks) (o:=.tup (xs++ys)) (fun b ob q=>Heap.get?_push_of_some _ q) (Nat.le_refl _) ?_,rfl,q2 (fun w=>z (r2.Ak.mpr w)) _ (I.hok.fresh (Nat.le_refl _))⟩
 exact⟨by rw[List.length_append];exact hz,_,r1.append r2,IsTup.new _ _⟩
end
end L2
namespace L2
open PySem PySem.Spec PyProof.Rows
noncomputable def Di (n:Nat) (i:Int):Option Nat:=if 0≤i then(if i < n then some i.toNat else none) else if -(n:Int)≤i then some (i+n).toNat else none
noncomputable def gZ {α:Type}(xs:List α) (i:Int):Option α:=(Di xs.length i).bind fun j=>xs[j]?
theorem EH {n:Nat}{i:Int}{j:Nat}(h:Di n i=some j):seqIndex? i n=some j∧j < n∧-(n:Int)≤i∧i < n:=by
 unfold Di at h
 by_cases h0:0≤i
 ·rw[if_pos h0] at h
  by_cases h1:i < n
  ·rw[if_pos h1] at h
   have e:i.toNat=j:=Option.some.inj h
   exact⟨by rw[seqIndex_of h0 h1,e],by omega,by omega,h1⟩
  ·rw[if_neg h1] at h;cases h
 ·rw[if_neg h0] at h
  by_cases h1:-(n:Int)≤i
  ·rw[if_pos h1] at h
   have e:(i+n).toNat=j:=Option.some.inj h
   exact⟨by rw[seqIndex_neg (by omega) h1,e],by omega,h1,by omega⟩
  ·rw[if_neg h1] at h;cases h
theorem Al {α:Type}{xs:List α}{i:Int}{v:α}(h:gZ xs i=some v):∃j,seqIndex? i xs.length=some j∧xs[j]? =some v∧j < xs.length∧-(xs.length:Int)≤i∧i < xs.length:=by
 unfold gZ at h
 cases e:Di xs.length i with
 | none=>rw[e] at h;cases h
 | some j=>
  rw[e] at h
  obtain⟨h1,h2,h3,h4⟩:=EH e
  exact⟨j,h1,h,h2,h3,h4⟩
noncomputable def Am (b:Expr):Prop:=∀o i,subscripted b false o i=operate [o,i] (getItem o i)
noncomputable def Ij (X:Cx) (r:R2):Prop:=
 ∀(value slice:Expr) (pins:List (Addr×Obj)) (s:Shared) (σ:St) (H:Hp) (x y:V) (v u:Value) (Q:VK),Inv X pins σ H s→RelV x v→RelV y u→r x y H Q→
  subscripted slice false v u=operate [v,u] (getItem v u)→wpAny (model X.prog X.w) X.A (subscriptTail value slice v u) (EP X pins σ Q) X.xe s
noncomputable def NT (X:Cx) (id:String) (r:V→List V→Hp→VK→Prop):Prop:=
 ∀(pins:List (Addr×Obj)) (s:Shared) (σ:St) (H:Hp) (x:V) (xs:List V) (v:Value) (us:List Value) (Q:VK),Inv X pins σ H s→RelV x v→Vals xs us→r x xs H Q→
  wpAny (model X.prog X.w) X.A (call (.builtin id) (v :: us)) (EP X pins σ Q) X.xe s
section
variable {X:Cx}{a b:Expr}{ta tb:TE}{pos:Pos}
theorem Ij.or {r r':R2}(h:Ij X r) (h':Ij X r'):Ij X (fun x y H Q=>r x y H Q∨r' x y H Q):=by
 intro value slice pins s σ H x y v u Q I rx ry q hs
 rcases q with q | q
 ·exact h value slice pins s σ H x y v u Q I rx ry q hs
 ·exact h' value slice pins s σ H x y v u Q I rx ry q hs
theorem NT.or {id:String}{r r':V→List V→Hp→VK→Prop}(h:NT X id r) (h':NT X id r'):NT X id (fun x xs H Q=>r x xs H Q∨r' x xs H Q):=by
 intro pins s σ H x xs v us Q I rx rs q
 rcases q with q | q
 ·exact h pins s σ H x xs v us Q I rx rs q
 ·exact h' pins s σ H x xs v us Q I rx rs q
theorem Ik {r:R2}(hr:Ij X r) (ha:PE X a ta) (hb:PE X b tb) (hs:Am b):PE X (.Subscript a b pos) (Ny r ta tb):=by
 intro pins s σ H Q I h
 exact Subscript_ (Nz ha hb I h fun v u s2 x y H2 I2 rx ry q=>hr a b pins s2 σ H2 x y v u Q I2 rx ry q (hs _ _))
noncomputable def Rf (K:PySem.W.Frag):R2:=fun x y H Q=>∃p xs i v,x= .ref p∧y= .int i∧qZ K H p xs∧gZ xs i=some v∧Q v H
noncomputable def Rg (K:PySem.W.Frag):R2:=fun x y H Q=>∃p xs i v,x= .ref p∧y= .int i∧Ag K H p xs∧gZ xs i=some v∧Q v H
noncomputable def Rh:R2:=fun x y H Q=>∃z i c,x= .str z∧y= .int i∧z.length≤sizeLine∧gZ z.cps.toList i=some c∧Q (.str ⟨#[c]⟩) H
theorem EI:Ij X (Rf X.K):=by
 intro value slice pins s σ H x y v u Q I rx ry h hs
 obtain⟨p,xs,i,z,rfl,rfl,hq,he,q⟩:=h
 cases rx
 obtain⟨t,rfl⟩:=ry
 obtain⟨its,r,pl,hz⟩:=I.list hq
 obtain⟨j,h1,h2,h3,h4,h5⟩:=Al he
 obtain⟨w,ew,rw'⟩:=r.get h2
 have hl:=r.length
 have hn:=uQ
 have fin:EP X pins σ Q w s:=⟨z,H,I,rw',q⟩
 by_cases h0:0≤i
 ·have hj:i.toNat=j:=by
   rw[seqIndex_of h0 h5] at h1
   exact Option.some.inj h1
  exact item_listR pl.isList h0 (by omega) (by rw[hj];simpa using ew) fin hs
 ·have hj:(i+(its.toArray.size:Int)).toNat=j:=by
   rw[seqIndex_neg (by omega) h4] at h1
   rw[List.size_toArray,←hl]
   exact Option.some.inj h1
  exact subscriptTail_builtinR (x:=w) pl.isList.typeIs slot_list_getitem.lookup
   (wpAny_getItem_list_neg (Q:=fun r s'=>r=w∧EP X pins σ Q r s') pl.isList (by omega) (by rw[List.size_toArray] <;> omega) (by omega) (by rw[hj];simpa using ew) ⟨rfl,fin⟩) hs
theorem Il:Ij X (Rg X.K):=by
 intro value slice pins s σ H x y v u Q I rx ry h hs
 obtain⟨p,xs,i,z,rfl,rfl,hq,he,q⟩:=h
 cases rx
 obtain⟨t,rfl⟩:=ry
 obtain⟨its,r,pl,hz⟩:=I.tuple hq
 obtain⟨j,h1,h2,h3,h4,h5⟩:=Al he
 obtain⟨w,ew,rw'⟩:=r.get h2
 have hl:=r.length
 have hn:=uQ
 have fin:EP X pins σ Q w s:=⟨z,H,I,rw',q⟩
 exact subscriptTail_builtinR (x:=w) pl.typeIs slot_tuple_getitem.lookup
  (getItem_tuple (j:=j) (Q:=fun r s'=>r=w∧EP X pins σ Q r s') pl (by omega) (by omega) (by rw[List.size_toArray,←hl];exact h1) (by simpa using ew) ⟨rfl,fin⟩) hs
theorem Im:Ij X Rh:=by
 intro value slice pins s σ H x y v u Q I rx ry h hs
 obtain⟨z,i,c,rfl,rfl,hz,he,q⟩:=h
 obtain⟨t,rfl⟩:=rx
 obtain⟨t',rfl⟩:=ry
 obtain⟨j,h1,h2,h3,h4,h5⟩:=Al he
 have hl:z.cps.toList.length=z.length:=by simp[Str.length]
 rw[hl] at h1 h4 h5
 have hn:=uQ
 exact tail_any (typeIs_str s z t) slot_str_getitem.lookup (getItem_str (c:=c) (by
  have e1:decide (i < -(2 ^ 63:Int))=false:=decide_eq_false (by omega)
  have e2:decide (i≥2 ^ 63)=false:=decide_eq_false (by omega)
  rw[e1,e2,Bool.or_false]) (by rw[h1];simpa using h2) ⟨.str ⟨#[c]⟩,H,I.tok _,⟨_,rfl⟩,q⟩) hs
noncomputable def rIx (K:PySem.W.Frag):R2:=fun x y H Q=>Rf K x y H Q∨Rg K x y H Q∨Rh x y H Q
theorem Io:Ij X (rIx X.K):=EI.or (Il.or Im)
theorem Dj (its:List Value) (n j:Nat) (u:Value):Obj.mapSeq (·.setIfInBounds j u) {cls:=.type "list",data:=.seq its.toArray n}={cls:=.type "list",data:=.seq (its.set j u).toArray n}:=by
 simp[Obj.mapSeq]
theorem Inv.lst {pins:List (Addr×Obj)}{σ:St}{H:Hp}{s:Shared}{p:Addr}{xs:List V}(I:Inv X pins σ H s) (h:H p=some (.lst xs)):
  ∃(its:List Value) (n:Nat),Vals xs its∧s.heap.get? p=some {cls:=.type "list",data:=.seq its.toArray n}∧xs.length≤sizeLine:=by
 obtain⟨z,its,n,r,e⟩:=I.hok p _ h
 exact⟨its,n,r,e,z⟩
theorem Inv.NU {pins:List (Addr×Obj)}{σ:St}{H:Hp}{s:Shared}{p:Addr}{xs ys:List V}{its its':List Value}{n n':Nat}{f:Obj→Obj}(I:Inv X pins σ H s) (h:H p=some (.lst xs))
  (ho:s.heap.get? p=some {cls:=.type "list",data:=.seq its.toArray n}) (hf:f {cls:=.type "list",data:=.seq its.toArray n}={cls:=.type "list",data:=.seq its'.toArray n'}) (r:Vals ys its') (hz:ys.length≤sizeLine) (t:Nat):
  Inv X pins σ (upd H p (.lst ys)) {s with heap:=s.heap.update p f,toks:=t}:=by
 have e:(s.heap.update p f).get? p=some {cls:=.type "list",data:=.seq its'.toArray n'}:=by
  rw[Heap.get?_update_self f ho (by rw[hf] <;> rfl),hf]
 refine I.write (x:=p) (e:=p) (by rw[h];trivial) (.inl rfl) (fun b u hb q=>(Heap.get?_update_other _ _ (Ne.symm hb)).trans q) ⟨_,e⟩ ?_
 exact⟨hz,its',n',r,e⟩
noncomputable def Ri:V→V→V→Hp→(Hp→Prop)→Prop:=fun o i v H Q=>∃p xs k j,o= .ref p∧i= .int k∧H p=some (.lst xs)∧Di xs.length k=some j∧Q (upd H p (.lst (xs.set j v)))
theorem set_list:QI X Ri:=by
 intro pins s σ H o i v ov iv u Q I ro ri rv h
 obtain⟨p,xs,k,j,rfl,rfl,hp,hj,q⟩:=h
 cases ro
 obtain⟨t,rfl⟩:=ri
 obtain⟨its,n,r,ho,hz⟩:=I.lst hp
 obtain⟨h1,h2,h3,h4⟩:=EH hj
 have hl:=r.length
 have hn:=uQ
 have I':Inv X pins σ (upd H p (.lst (xs.set j v))) {s with heap:=s.heap.update p (Obj.mapSeq (·.setIfInBounds j u))}:=
  I.NU hp ho (Dj its n j u) (r.set rv j) (by rw[List.length_set];exact hz) s.toks
 by_cases h0:0≤k
 ·have hk:k.toNat=j:=by
   rw[seqIndex_of h0 h4] at h1
   exact Option.some.inj h1
  exact PySem.W.ki_setAt ho h0 (by omega) (by rw[List.size_toArray,←hl];exact h4) (by rw[hk];exact⟨_,I',q⟩)
 ·have hk:(k+(its.toArray.size:Int)).toNat=j:=by
   rw[seqIndex_neg (by omega) h3] at h1
   rw[List.size_toArray,←hl]
   exact Option.some.inj h1
  exact PySem.W.ki_setBack ho (by omega) (by rw[List.size_toArray,←hl];exact h3) (by omega) (by rw[hk];exact⟨_,I',q⟩)
theorem An (lo hi:Option Int) (n:Nat):(sliceBounds lo hi none n).1=((HT.iD n 0 lo:Nat):Int)∧(sliceBounds lo hi none n).2.1=((HT.iD n n hi:Nat):Int)∧(sliceBounds lo hi none n).2.2=1:=by
 refine⟨?_,?_,rfl⟩
 ·cases lo with
  | none=>simp[sliceBounds,HT.iD]
  | some i=>
   simp only[sliceBounds,HT.iD,Option.getD_none,show(1:Int) > 0 by decide,if_true]
   by_cases h:i < 0
   ·simp only[h,if_true] <;> omega
   ·simp only[h,if_false] <;> omega
 ·cases hi with
  | none=>simp[sliceBounds,HT.iD]
  | some i=>
   simp only[sliceBounds,HT.iD,Option.getD_none,show(1:Int) > 0 by decide,if_true]
   by_cases h:i < 0
   ·simp only[h,if_true] <;> omega
   ·simp only[h,if_false] <;> omega
theorem yH (its:List Value) (lo hi:Option Int):slicePick its.toArray lo hi none=((its.drop (HT.iD its.length 0 lo)).take (HT.iD its.length its.length hi - HT.iD its.length 0 lo)).toArray:=by
 obtain⟨h1,h2,h3⟩:=An lo hi its.toArray.size
 unfold slicePick
 rw[h1,h2,h3]
 simp only[sliceRange_one,pick_run,List.size_toArray] <;> rfl
noncomputable def WL (K:PySem.W.Frag):V→Option Int→Option Int→Hp→VK→Prop:=fun x lo hi H Q=>∃a xs,x= .ref a∧qZ K H a xs∧∀p,H p=none→Q (.ref p) (upd H p (.lst (yG xs lo hi)))
theorem EJ:Lb X (WL X.K):=by
 intro pins s σ H x v vl vu lo hi sl Q I rx hs pl pu h
 obtain⟨a,xs,rfl,hx,q⟩:=h
 cases rx
 obtain⟨its,r,ht,hz⟩:=I.list hx
 have hlen:=r.length
 refine⟨"list",_,slot_list_getitem.lookup,ht.isList.typeIs,?_⟩
 refine wpAny_getItem_list_slice ht.isList hs pl pu .none (by simp) ?_ (by rw[List.size_toArray] <;> omega)
 rw[yH,←hlen]
 refine⟨.ref s.heap.objs.size,_,I.laid (t':=s.toks) (o:=.lst (yG xs lo hi)) (fun b ob q=>Heap.get?_push_of_some _ q) (Nat.le_refl _) ?_,rfl,q _ (I.hok.fresh (Nat.le_refl _))⟩
 exact⟨Nat.le_trans (vJ xs lo hi) hz,_,0,(r.drop (HT.iD xs.length 0 lo)).take (HT.iD xs.length xs.length hi - HT.iD xs.length 0 lo),Heap.get?_push_size _ rfl⟩
theorem oE:gY X (.builtin "len") (fun xs H Q=>∃p ys,xs=[.ref p]∧(qZ X.K H p ys∨Ag X.K H p ys)∧Q (.int ys.length) H):=by
 intro pins s σ H xs us Q I r h
 obtain⟨p,ys,rfl,hq,q⟩:=h
 obtain⟨u,rfl,rx⟩:=vals1 r
 cases rx
 have hn:=uQ
 rcases hq with hq | hq
 ·obtain⟨its,r',pl,hz⟩:=I.list hq
  have hlen:=r'.length
  exact Calls.call_len_list pl.isList (by simp only[List.size_toArray] <;> omega) ⟨.int ys.length,H,I.tok _,⟨s.toks+1,by rw[List.size_toArray,hlen]⟩,q⟩
 ·obtain⟨its,r',pl,hz⟩:=I.tuple hq
  have hlen:=r'.length
  exact len_tuple pl (by simp only[List.size_toArray] <;> omega) ⟨.int ys.length,H,I.tok _,⟨s.toks+1,by rw[List.size_toArray,hlen]⟩,q⟩
theorem tV:gY X (.builtin "len") (fun xs H Q=>∃z,xs=[.str z]∧z.length≤sizeLine∧Q (.int z.length) H):=by
 intro pins s σ H xs us Q I r h
 obtain⟨z,rfl,hz,q⟩:=h
 obtain⟨u,rfl,t,rfl⟩:=vals1 r
 have hn:=uQ
 exact len_str (by omega) ⟨.int z.length,H,I.tok _,⟨_,rfl⟩,q⟩
theorem gY.or {f:Value}{r r':List V→Hp→VK→Prop}(h:gY X f r) (h':gY X f r'):gY X f (fun xs H Q=>r xs H Q∨r' xs H Q):=by
 intro pins s σ H xs us Q I rs q
 rcases q with q | q
 ·exact h pins s σ H xs us Q I rs q
 ·exact h' pins s σ H xs us Q I rs q
theorem tW:gY X (.type "list") (fun xs H Q=>∃p ys,xs=[.ref p]∧(qZ X.K H p ys∨Ag X.K H p ys)∧∀l,H l=none→Q (.ref l) (upd H l (.lst ys))):=by
 intro pins s σ H xs us Q I r h
 obtain⟨p,ys,rfl,hq,q⟩:=h
 obtain⟨u,rfl,rx⟩:=vals1 r
 cases rx
 have fin:∀(its:List Value),Vals ys its→ys.length≤sizeLine→∀(h':Heap) (c':Nat),(∀b o',s.heap.get? b=some o'→h'.get? b=some o')→
   h'.get? s.heap.objs.size=some {cls:=.type "list",dict:=none,data:=.seq its.toArray c',slots:=#[]}→EP X pins σ Q (.ref s.heap.objs.size) {s with heap:=h'}:=fun its r' hz h' c' kp e=>
  ⟨.ref s.heap.objs.size,_,I.laid (t':=s.toks) kp (Nat.le_refl _) (show gR X.prog X.w _ h' _ (.lst ys) from⟨hz,its,c',r',e⟩),rfl,q _ (I.hok.fresh (Nat.le_refl _))⟩
 rcases hq with hq | hq
 ·obtain⟨its,r',pl,hz⟩:=I.list hq
  have hlen:=r'.length
  obtain⟨o,ho,hc,n,hd⟩:=pl.isList
  exact call_list_seq p (.inl rfl) ho hc hd (fun h' c' kp e=>fin its r' hz h' c' kp e) (by simp only[List.size_toArray] <;> omega)
 ·obtain⟨its,r',pl,hz⟩:=I.tuple hq
  have hlen:=r'.length
  obtain⟨o,ho,hc,n,hd⟩:=pl
  exact call_list_seq p (.inr rfl) ho hc hd (fun h' c' kp e=>fin its r' hz h' c' kp e) (by simp only[List.size_toArray] <;> omega)
theorem se:gY X (.type "tuple") (fun xs H Q=>∃p ys,xs=[.ref p]∧((qZ X.K H p ys∧∀l,H l=none→Q (.ref l) (upd H l (.tup ys)))∨(Ag X.K H p ys∧Q (.ref p) H))):=by
 intro pins s σ H xs us Q I r h
 obtain⟨p,ys,rfl,h⟩:=h
 obtain⟨u,rfl,rx⟩:=vals1 r
 cases rx
 rcases h with⟨hq,q⟩ | ⟨hq,q⟩
 ·obtain⟨its,r',pl,hz⟩:=I.list hq
  have hlen:=r'.length
  refine call_tuple_list pl.isList (fun h' kp=>?_) (by simp only[List.size_toArray] <;> omega)
  have I1:Inv X pins σ H {s with heap:=h'}:=I.kept (t':=s.toks) kp
  have I2:Inv X pins σ (upd H h'.objs.size (.tup ys)) {s with heap:=h'.push {cls:=.type "tuple",data:=.seq its.toArray}}:=
   I1.laid (t':=s.toks) (fun b o e=>Heap.get?_push_of_some _ e) (Nat.le_refl _) (show gR X.prog X.w _ _ _ (.tup ys) from⟨hz,its,r',IsTup.new _ _⟩)
  exact⟨.ref h'.objs.size,_,I2,rfl,q _ (I1.hok.fresh (Nat.le_refl _))⟩
 ·obtain⟨its,r',pl,hz⟩:=I.tuple hq
  exact call_tuple_same pl ⟨.ref p,H,I,rfl,q⟩
noncomputable def tyV (K:PySem.W.Frag) (T:String) (x:V) (H:Hp):Prop:=match x with
 | .str _=>T="str"
 | .int _=>T="int"
 | .ref p=>(T="list"∧∃xs,qZ K H p xs)∨(T="tuple"∧∃o,K.lookup p=some o∧o.cls= .type "tuple"∧o.dict=none)∨
   (T="dict"∧((∃kvs,H p=some (.dK kvs))∨∃kvs,H p=some (.dT kvs)))∨(T="set"∧∃S n,H p=some (.set S n))
 | _=>False
theorem NV {pins : List (Addr × Obj)} {σ : St} {H : Hp} {s : Shared} {T : String} {x : V} {v : Value} (I : Inv X pins σ H s) (r : RelV x v) (ty : tyV X.K T x H) :
    s.TypeIs v T∧∀a,v= .ref a→∃ob,s.heap.get? a=some ob∧ob.dict=none:=by
  cases x with
  | str z=>
    obtain⟨t,rfl⟩:=r
    cases(show T="str" from ty)
    exact⟨typeIs_str s z t,fun _ e=>nomatch e⟩
  | int i=>
    obtain⟨t,rfl⟩:=r
    cases(show T="int" from ty)
    exact⟨typeIs_int s i t,fun _ e=>nomatch e⟩
  | ref p =>
    cases r
    rcases ty with⟨rfl,xs,hq⟩ | ⟨rfl,o,hk,hc,hd⟩ | ⟨rfl,hk⟩ | ⟨rfl,S,n,hk⟩
    · obtain⟨its,_,pl,_⟩:=I.list hq
      refine⟨pl.isList.typeIs,fun a e=>?_⟩
      cases e
      obtain⟨o,n,e,c,hd,_⟩:=pl
      exact⟨o,e,hd⟩
    · refine⟨⟨o,I.Et p o hk,hc⟩,fun a e=>?_⟩
      cases e
      exact⟨o,I.Et _ o hk,hd⟩
    · have z:∃o,s.heap.get? p=some o∧o.ExactDict:=by
        rcases hk with⟨kvs,hk⟩ | ⟨kvs,hk⟩
        · obtain⟨_,_,_,_,o,_,_,e,ex,_⟩:=I.hok p _ hk
          exact⟨o,e,ex⟩
        · obtain⟨_,_,_,_,o,_,_,e,ex,_⟩:=I.hok p _ hk
          exact⟨o,e,ex⟩
      obtain⟨o,e,ex⟩:=z
      refine⟨⟨o,e,ex.1⟩,fun a e2=>?_⟩
      cases e2
      exact⟨o,e,ex.2.1⟩
    · obtain⟨o,_,_,_,e,ex,_⟩:=I.hok p _ hk
      refine⟨⟨o,e,ex.1⟩,fun a e2=>?_⟩
      cases e2
      exact⟨o,e,ex.2.1⟩
  | _=>exact False.elim ty
noncomputable def tBM (K:PySem.W.Frag) (T:String) (r:V→List V→Hp→VK→Prop) (to:TE) (t:TA):TE:=fun σ H Q=>to σ H fun x H1=>tyV K T x H1∧t σ H1 fun xs H2=>r x xs H2 Q
variable {o e:Expr}{es:List Expr}{to:TE}{t:TA}{name:Str}{apos cpos:Pos}{T id:String}{r:V→List V→Hp→VK→Prop}
theorem Rj (pa:PlainAttrs T) (slot:Slot T name id) (hty:typeOf (.builtin id)=pure (.type "method_descriptor")) (hm:NT X id r) (ho:PE X o to) (ha:PA X (e :: es) t)
  (hbase:attributeBase o name X.env (eval o X.env)=eval o X.env:=by rfl)
  (hfew:((backTo cpos (starEach (e :: es) X.env)).all (fun x=>!x.1) && (backToKw cpos (keywordEach [] X.env)).all (fun x=>x.1.isSome)
   && decide ((e :: es).length+([]:List Keyword).length+(if([]:List Keyword).isEmpty then 0 else 1) < 30))=true:=by rfl)
  (hline:(apos.endLine == cpos.line)=true:=by rfl) (hs:starEach (e :: es) X.env=(false,eval e X.env) :: starEach es X.env:=by rfl) (hplain:(backTo cpos (starEach es X.env)).any (·.1)=false:=by rfl):
  PE X (.Call (.Attribute o name apos) (e :: es) [] cpos) (tBM X.K T r to t):=by
 intro pins s σ H Q I h
 refine wpAny_Call_method_late hbase hfew hline rfl (fR (ho pins s σ H _ I h) fun v s1 ⟨x,H1,I1,r1,ty,q1⟩=>?_)
 obtain⟨h1,h2⟩:=NV I1 r1 ty
 refine⟨T,id,pa,slot,hty,h1,h2,?_⟩
 have hA:=ha cpos pins s1 σ H1 _ I1 q1
 rw[hs] at hA ⊢
 refine Calls.callWith_builtin (by show(false || (backTo cpos (starEach es X.env)).any (·.1))=false;rw[hplain] <;> rfl) (Calls.evalArgs_plain ?_)
 exact fR hA fun us s2 ⟨vs,H2,I2,r2,q2⟩=>hm pins s2 σ H2 x vs v us Q I2 r1 r2 q2
end
end L2
namespace L2
open PySem PySem.Spec PyProof.Rows
noncomputable def MtM (X:Cx) (id:String) (r:V→List V→Hp→VK→Prop):Prop:=
 ∀(pins:List (Addr×Obj)) (s:Shared) (σ:St) (H:Hp) (x:V) (xs:List V) (v:Value) (us:List Value) (Q:VK),Inv X pins σ H s→RelV x v→Vals xs us→r x xs H Q→
  wpAny (model X.prog X.w) X.A (call (.builtin id) (v :: us)) (EP X pins σ Q) X.xe s
theorem Vals.one:∀{x:V}{us:List Value},Vals [x] us→∃u,us=[u]∧RelV x u
 | _,_,.cons r .nil=>⟨_,rfl,r⟩
theorem Vals.two:∀{x y:V}{us:List Value},Vals [x,y] us→∃u v,us=[u,v]∧RelV x u∧RelV y v
 | _,_,_,.cons r (.cons q .nil)=>⟨_,_,rfl,r,q⟩
theorem Vals.eraseIdx:∀{xs:List V}{us:List Value}(i:Nat),Vals xs us→Vals (xs.eraseIdx i) (us.eraseIdx i)
 | _,_,_,.nil=>.nil
 | _,_,0,.cons _ t=>t
 | _,_,i+1,.cons r t=>.cons r (Vals.eraseIdx i t)
theorem Vals.reverse {xs:List V}{us:List Value}(h:Vals xs us):Vals xs.reverse us.reverse:=by
 induction h with
 | nil=>exact .nil
 | cons r t ih=>rw[List.reverse_cons,List.reverse_cons];exact Vals.append ih (.cons r .nil)
theorem Vals.rep {xs:List V}{us:List Value}(h:Vals xs us):∀k:Nat,Vals (List.replicate k xs).flatten (List.replicate k us).flatten
 | 0=>.nil
 | k+1=>by
  rw[List.replicate_succ,List.replicate_succ,List.flatten_cons,List.flatten_cons]
  exact Vals.append h (Vals.rep h k)
theorem zA {α:Type}:∀(l:List α) (i:Nat),(l.eraseIdx i).length≤l.length
 | [],_=>Nat.le_refl _
 | _ :: _,0=>Nat.le_succ _
 | _ :: r,i+1=>Nat.succ_le_succ (zA r i)
section
variable {X:Cx}{pins:List (Addr×Obj)}{σ:St}{H:Hp}{s:Shared}{l b:Addr}{xs ys zs:List V}
theorem Inv.NW {its its':List Value}{n:Nat}{f:Array Value→Array Value}{t':Nat}(I:Inv X pins σ H s) (hH:H l=some (.lst xs))
  (e:s.heap.get? l=some {cls:=.type "list",data:=.seq its.toArray n}) (hf:f its.toArray=its'.toArray) (hv:Vals ys its') (hz:ys.length≤sizeLine):
  Inv X pins σ (upd H l (.lst ys)) {s with heap:=s.heap.update l (Obj.mapSeq f),toks:=t'}:=by
 have q:=PySem.IsL.update e f
 rw[hf] at q
 refine I.write (x:=l) (e:=l) (by rw[hH];exact trivial) (.inl rfl) (fun b' u hb hu=>(Heap.get?_update_other s.heap (Obj.mapSeq f) (Ne.symm hb)).trans hu) ⟨_,q⟩ ?_
 exact⟨hz,its',_,hv,q⟩
theorem Inv.WM {its:List Value}{t':Nat}(I:Inv X pins σ H s) (hv:Vals ys its) (hz:ys.length≤sizeLine):
  Inv X pins σ (upd H s.heap.objs.size (.lst ys)) {s with heap:=s.heap.push {cls:=.type "list",data:=.seq its.toArray},toks:=t'}:=
 I.laid (fun _ _ q=>Heap.get?_push_of_some _ q) (Nat.le_refl _) ⟨hz,its,0,hv,Heap.get?_push_size _ rfl⟩
theorem Inv.fresh (I:Inv X pins σ H s):H s.heap.objs.size=none:=I.hok.fresh (Nat.le_refl _)
theorem Inv.Dk (I:Inv X pins σ H s) (hH:H l=some (.lst xs)):xs.length≤sizeLine∧∃(its:List Value) (n:Nat),Vals xs its∧xs.length=its.length∧s.heap.get? l=some {cls:=.type "list",data:=.seq its.toArray n}:=by
 obtain⟨z,its,n,r,e⟩:=I.hok l _ hH
 exact⟨z,its,n,r,r.length,e⟩
theorem Ip {n:Nat}(h:n≤sizeLine):Builtin.List.listTooLong n=false:=by
 unfold Builtin.List.listTooLong
 exact decide_eq_false (by omega)
end
section
variable {X:Cx}
noncomputable def EK:V→List V→Hp→VK→Prop:=fun x vs H Q=>∃l xs y,x= .ref l∧vs=[y]∧H l=some (.lst xs)∧xs.length < sizeLine∧Q .cW (upd H l (.lst (xs++[y])))
theorem q9:MtM X "list.append" EK:=by
 intro pins s σ H x vs v us Q I rx rv h
 obtain⟨l,xs,y,rfl,rfl,hH,hz,q⟩:=h
 cases rx
 obtain⟨u,rfl,ru⟩:=rv.one
 obtain⟨z,its,n,r,hl,e⟩:=I.Dk hH
 refine call_meets F.slot_list_append ⟨_,e,rfl⟩ F.entry_list_append (F.args_list_append_2 _ _) (PySem.list_append l its.toArray n u (by rw[List.size_toArray];omega)) ⟨e,?_⟩
 refine⟨.cW,_,I.NW (its':=its++[u]) hH e (by simp) (r.append (.cons ru .nil)) ?_,rfl,q⟩
 rw[List.length_append,List.length_singleton]
 omega
noncomputable def Iq:V→List V→Hp→VK→Prop:=fun x vs H Q=>∃l xs i k y,x= .ref l∧vs=[.int i]∧H l=some (.lst xs)∧-(2 ^ 63)≤i∧i < 2 ^ 63∧seqIndex? i xs.length=some k∧xs[k]? =some y∧Q y (upd H l (.lst (xs.eraseIdx k)))
theorem Ir:MtM X "list.pop" Iq:=by
 intro pins s σ H x vs v us Q I rx rv h
 obtain⟨l,xs,i,k,y,rfl,rfl,hH,h1,h2,hk,hy,q⟩:=h
 cases rx
 obtain⟨u,rfl,ru⟩:=rv.one
 obtain⟨t,rfl⟩:=ru
 obtain⟨z,its,n,r,hl,e⟩:=I.Dk hH
 obtain⟨w,hw,rw'⟩:=r.get hy
 refine call_meets F.slot_list_pop ⟨_,e,rfl⟩ F.entry_list_pop (F.args_list_pop_2 _ _)
  (MeetsSeq.list_pop_at l its.toArray n i t k w (fitsIndex_both h1 h2) (by rw[List.size_toArray,←hl];exact hk) (by rw[←Array.getElem?_toList];exact hw) (by rw[List.size_toArray];omega)) ⟨e,?_⟩
 refine⟨y,_,I.NW (its':=its.eraseIdx k) hH e ?_ (r.eraseIdx k) ?_,rw',q⟩
 ·show its.toArray.eraseIdxIfInBounds k=(its.eraseIdx k).toArray
  rw[List.eraseIdxIfInBounds_toArray]
 ·have:=zA xs k
  omega
end
section
variable {prog:Program}{w:World}{A:Around}{E:Value→Shared→Prop}{s:Shared}
end
section
variable {X:Cx}
end
end L2
namespace Att
open PySem PySem.W PySem.Calls PyProof.Rows
theorem v7 {P:Params}{h:Heap}:∀(ns:List Int) (vs:List Value),WellAll P h vs (ns.map WData.int)→IntsAre vs ns:=by
 intro ns
 induction ns with
 | nil=>
  intro vs w
  rw[List.map_nil] at w
  cases w
  exact .nil
 | cons n ns ih=>
  intro vs w
  rw[List.map_cons] at w
  cases w with
  | cons a b=>
   cases a
   exact .cons _ _ (ih _ b)
theorem FI {l:OpenLaw}{n:Nat}(hn:l.most=some n){P:Params}{h:Heap}{args:List WData}{vals:List Value}
  (hpre:l.row.toRowW.claim.pre args=true) (hwl:WellAll P h vals args):
  ∃a vs ns,vals=[Value.ref a]∧args=[WData.list (ns.map WData.int)]∧h.get? a=some {cls:=.type "list",data:=.seq vs.toArray}∧IntsAre vs ns∧ns.length≤n:=by
 have hsh:WShape.hasAll [] args [.list .int]=true:=(pre_splitW hpre).1
 have hc:l.pre.holds [] {args:=args}=true:=(pre_splitW hpre).2
 obtain⟨d,r,rfl,h1,h2⟩:=hasAllW_cons hsh
 obtain rfl:=hasAllW_nil h2
 obtain⟨xs,rfl,h3⟩:=hasW_list h1
 obtain⟨ns,rfl⟩:=items_int h3
 have hlen:ns.length≤n:=by
  unfold OpenLaw.pre at hc
  have h4:(WTm.not (.lt (.lit (.int (n:Int))) (.len (.arg 0)))).holds [] {args:=[.list (ns.map .int)]}=true:=by
   have h4:=(holds_andW hc).1
   rw[hn] at h4
   exact h4
  have h5:=condW_of h4 (w_not (w_lt w_lit (w_len_list (w_arg rfl))))
  rw[List.length_map] at h5
  refine Nat.le_of_not_lt fun q=>?_
  have q':(n:Int) < ((ns.length:Nat):Int):=by omega
  first
   | (rw[decide_eq_true q'] at h5;exact absurd h5 (by decide))
   | (simp at h5;omega)
 cases hwl with
 | cons w1 w2=>
  cases w2
  cases w1 with
  | list ho hall=>exact⟨_,_,ns,rfl,rfl,ho,v7 ns _ hall,hlen⟩
theorem FJ (l:OpenLaw) (args:List WData):l.row.toRowW.claim.post args (.bool true) args=true:=
 postW_of (r:=l.row.toRowW) (X:=(true == true))
  (show WShape.has [] (.bool true) .bool=true by first | rfl | decide | simp[WShape.has,WShape.arms,WShape.armsAll])
  (show(WTm.eq .res (.lit (.bool true))).value [] {args:=args,res:=some (.bool true),after:=args}=some (.bool (true == true)) from w_eq_bool (w_res rfl) w_lit) rfl
theorem BG {l:OpenLaw}{n:Nat}{q:Program}{loose:List Str}{XP:(Str→Option Value)→Heap→Prop}{YP:World→Heap→Prop}{d:DefRec}
  (hn:l.most=some n) (hdf:d.params.defaults=[])
  (call:∀(w:World) (s₀ s₁:Shared) (mg mb:Str→Option Value) (fa:Addr) (o:Obj) (pm cd doc:Value) (a:Addr) (vs:List Value) (ns:List Int),
   Ground q loose [] XP w s₀ mg mb s₁.heap→YP w s₁.heap→
   s₁.heap.get? fa=some o→o.data= .func (docDef d.name d.params d.body d.scope pm cd doc)→s₁.heap.CodeRec cd d.name→mg d.name=some (.ref fa)→
   s₁.heap.get? a=some {cls:=.type "list",data:=.seq vs.toArray}→IntsAre vs ns→ns.length≤n→s₁.gens=#[]→
   codeAny (model l.prog w) callerA (.call (.ref fa) ⟨[.ref a],[]⟩) (fun r s'=>r= .ok (.ret (.bool true))∧OldK s₁.heap s'.heap∧s'.os=s₁.os∧AllBare s'.gens) s₁):
  WalkO q loose XP YP l.row.toRowW d [] (fun f vs=>PySem.call f vs):=by
 intro w s₀ s₁ mg mb G Y fa o pm cd doc dV kV ho hd hcd hD hmg hg args vals as hpre hlay hrd hwl hlo
 obtain rfl:dV= .none:=Dflts.none hD hdf
 obtain rfl:kV= .none:=Dflts.noKw hD
 obtain⟨a,vs,ns,rfl,rfl,hobj,hints,hlen⟩:=FI hn hpre hwl
 refine enter_call (codeAny_mono (call w s₀ s₁ mg mb fa o pm cd doc a vs ns G Y ho (fd_plain hd) hcd hmg hobj hints hlen hg) fun r s' hq=>?_)
 obtain⟨rfl,h2,h3,h4⟩:=hq
 exact⟨.inl ⟨.bool true,.bool true,[],rfl,fun _=>rfl,.bool true,FJ l _,fun _=>⟨List.Pairwise.nil,fun _ hm=>(nomatch hm)⟩⟩,h2,h3,h4⟩
section
variable {prog:Program}{w:World}{A:Around}{E:Value→Shared→Prop}{s:Shared}{K:Frag}
end
end Att
namespace L2
open PySem PySem.Spec PyProof.Rows
theorem zB:∀{vs:List Value}{ns:List Int},IntsAre vs ns→Vals (ns.map V.int) vs
 | _,_,.nil=>.nil
 | _,_,.cons n t h=>.cons ⟨t,rfl⟩ (zB h)
noncomputable def Ld (H:Hp):Prop:=∀b,H b=none∨∃o xs,H b=some (.kW o (.lst xs))
theorem Iu {P : Program} {w : World} {K : PySem.W.Frag} {mg mb : Str → Option Value} {CX : FA} {k : Nat} {fa a : Addr} {fd : FuncData} {x : Str} {sp : Sp} {s₁ : Shared} {vs : List Value} {ns : List Int}
    (KX:K.In s₁.heap) (hns:s₁.heap.Ns mainGlobals mg) (hb:s₁.heap.Ns builtinsNs mb) (hbb:∀x:Str,x≠"__name__"→mb x=bootBuiltins x) (hlim:s₁.heap.NoLimit) (hg:s₁.gens=#[])
    (ha:s₁.heap.get? a=some {cls:=.type "list",data:=.seq vs.toArray}) (hi:IntsAre vs ns) (hl:ns.length≤sizeLine) (hr:lM k callerA)
    (F:∀base:Heap,K.In base→base.Ns mainGlobals mg→bT P w K mg base CX k fa fd [x] sp) (hbind:∀(s:Shared) (u:Value),BindsTo s fd ⟨[u],[]⟩ [(x,u)])
    (MH:∀H:Hp,Ld H→qZ K H a (ns.map V.int)→sp [.ref a] H (fun v _=>v= .bl true) fun _ _ _=>False)
    (WN:∀H e s',CX [] H s₁ (fun _ _ _=>False) e s'→False):
    codeAny (model P w) callerA (.call (.ref fa) ⟨[.ref a],[]⟩) (fun r s'=>r= .ok (.ret (.bool true))∧OldK s₁.heap s'.heap∧s'.os=s₁.os∧AllBare s'.gens) s₁:=by
  have rv:=zB hi
  have lenV:=hi.length
  have core : ∀ H : Hp, Ld H → qZ K H a (ns.map V.int) → rS P w H s₁.heap → (∀ b, H b ≠ none → b = a) → (H a ≠ none → K.lookup a = none) →
      codeAny (model P w) callerA (.call (.ref fa) ⟨[.ref a],[]⟩) (fun r s'=>r= .ok (.ret (.bool true))∧OldK s₁.heap s'.heap∧s'.os=s₁.os∧AllBare s'.gens) s₁:=by
    intro H hO hS hok hA hK
    have EL:∀{b:Addr}{o:Obj},s₁.heap.get? b=some o→H b=none→(Ad s₁.heap H).get? b=some o:=fun e n=>HJ e n
    have Q2:∀{b:Addr}{o:Obj}{es:Array DictEntry}{ep:Nat},s₁.heap.get? b=some o→o.data= .dict es ep→H b=none:=fun {b o es ep} e d=>by
      cases q:H b with
      | none=>rfl
      | some u=>
        have e':b=a:=hA b (by rw[q];simp)
        subst e'
        rw[ha] at e;cases e
        have d':Data.seq vs.toArray _=Data.dict es ep:=d
        cases d'
    have U3:∀{b:Addr}{m:Str→Option Value},s₁.heap.Ns b m→(Ad s₁.heap H).Ns b m:=fun {b m} ⟨o,es,ep,e,d,r⟩=>⟨o,es,ep,EL e (Q2 e d),d,r⟩
    have hKb:K.In (Ad s₁.heap H):=fun b o e=>EL (KX b o e) (by
      cases q:H b with
      | none=>rfl
      | some u=>
        have e':b=a:=hA b (by rw[q];simp)
        subst e'
        rw[hK (by rw[q];simp)] at e;cases e)
    have hM:Mod K mg (Ad s₁.heap H):=⟨hKb,U3 hns,⟨mb,U3 hb,hbb⟩,let⟨mc,h1,h2⟩:=hlim;⟨mc,U3 h1,h2⟩⟩
    have e0:Dd P w K mg (Ad s₁.heap H) callerA [] s₁ H:=⟨rfl,hM,fun b o e=>KI e,Nat.le_of_eq (Ft _ _),trivial,fun b hb=>absurd (show b∈([]:List Addr) from hb) (by simp),hok,.of_eq hg⟩
    refine codeAny_mono ((F _ hKb (U3 hns)).run callerA [] s₁ H ⟨[.ref a],[]⟩ [.ref a] [.ref a] _ _ hr e0 (hbind s₁ (.ref a)) (.cons rfl .nil) (MH H hO hS)) fun r s' h=>?_
    cases r with
    | error e=>exact(WN H e s' h).elim
    | ok fl =>
      cases fl with
      | next=>exact False.elim h
      | brk=>exact False.elim h
      | cont=>exact False.elim h
      | ret u =>
        obtain⟨v,H',os,bare,un,WO,r',q⟩:=h
        have q':v= .bl true:=q
        subst q'
        obtain rfl:u=Value.bool true:=r'
        refine⟨rfl,OldK.of_keep fun b o e=>?_,os,bare⟩
        cases q:H b with
        | none=>exact un.keep b o e q (by intro z;exact absurd (show b∈([]:List Addr) from z) (by simp)) (by simp)
        | some u=>
          rcases hO b with z | ⟨ob,xs,z⟩
          · rw[q] at z;cases z
          · have z2:=un.tM b ob _ z
            obtain⟨e1,_⟩:=hok b _ z
            obtain⟨e2,_⟩:=WO b _ z2
            rw[e] at e1;cases e1
            exact e2
  cases hk:K.lookup a with
  | some o=>
    have e:=KX a o hk
    rw[ha] at e
    cases e
    refine core (fun _=>none) (fun _=>.inl rfl) (.inr ⟨_,vs.toArray,_,hk,rfl,rfl,rfl,by rw[List.size_toArray,lenV];exact hl,by simpa using rv⟩) (fun b u z=>by have z':(none:Option HO)=some u:=z;cases z') (fun b z=>absurd rfl z) fun z=>absurd rfl z
  | none=>
    refine core (fun b=>if b=a then some (.kW {cls:=.type "list",data:=.seq vs.toArray} (.lst (ns.map V.int))) else none) (fun b=>?_) (.inl (.inr ⟨{cls:=.type "list",data:=.seq vs.toArray},if_pos rfl⟩)) (fun b u z=>?_) (fun b z=>?_) fun _=>hk
    · by_cases hb:b=a
      · exact .inr ⟨_,_,if_pos hb⟩
      · exact .inl (if_neg hb)
    · by_cases hb:b=a
      · have z':=(if_pos hb).symm.trans z
        cases z'
        subst hb
        exact⟨ha,by rw[List.length_map];exact hl,vs,_,rv,ha⟩
      · have z':=(if_neg hb).symm.trans z
        cases z'
    · by_cases hb:b=a
      · exact hb
      · exact absurd (if_neg hb) z
end L2
namespace L2
open PySem PySem.Spec PyProof.Rows
noncomputable abbrev KOf {K:PySem.W.Frag}{h:Heap}(_:K.In h):PySem.W.Frag:=K
theorem Le {l : PySem.W.OpenLaw} {n k : Nat} {q : Program} {loose : List Str} {XP : (Str → Option Value) → Heap → Prop} {YP : World → Heap → Prop} {d : DefRec} {K : Params → PySem.W.Frag} {CX : World → FA} {sp : World → Sp} {x : Str}
    (hn:l.most=some n) (hn2:n≤sizeLine) (hdf:d.params.defaults=[]) (hr:lM k callerA)
    (hY:∀(w:World) (h:Heap),YP w h→(K w.params).In h)
    (F:∀(w:World) (mg:Str→Option Value) (fa:Addr) (h:Heap),(K w.params).In h→h.Ns mainGlobals mg→mg d.name=some (.ref fa)→
      ∃fd:FuncData,(∀(s:Shared) (u:Value),BindsTo s fd ⟨[u],[]⟩ [(x,u)])∧
        ∀base:Heap,(K w.params).In base→base.Ns mainGlobals mg→bT l.prog w (K w.params) mg base (CX w) k fa fd [x] (sp w))
    (MH:∀(w:World) (H:Hp) (a:Addr) (ns:List Int),ns.length≤n→Ld H→qZ (K w.params) H a (ns.map V.int)→sp w [.ref a] H (fun v _=>v= .bl true) fun _ _ _=>False)
    (WN:∀(w:World) (H:Hp) (s:Shared) (e:Value) (s':Shared),CX w [] H s (fun _ _ _=>False) e s'→False):
    PySem.W.WalkO q loose XP YP l.row.toRowW d [] (fun f vs=>PySem.call f vs):=by
  refine Att.BG hn hdf fun w s₀ s₁ mg mb fa o pm cd doc a vs ns G Y ho hd hcd hmg hobj hints hlen hg=>?_
  have KX:=hY w _ Y
  obtain⟨fd,hb,hF⟩:=F w mg fa _ KX G.T.g hmg
  exact Iu KX G.T.g G.T.b G.T.builtins G.T.nolimit hg hobj hints (Nat.le_trans hlen hn2) hr hF hb (fun H hO hS=>MH w H a ns hlen hO hS) fun H e s'=>WN w H s₁ e s'
end L2
namespace L2
open PySem PySem.Spec PyProof.Rows
noncomputable def bS (s:Stmt):Arguments:=match s with
 | .FunctionDef _ a _ _ _ _ _ _ _ _=>a
 | _=>{posonlyargs:=[],args:=[],vararg:=none,kwonlyargs:=[],kw_defaults:=[],kwarg:=none,defaults:=[]}
noncomputable def bN (s:Stmt):List Stmt:=match s with
 | .FunctionDef _ _ b _ _ _ _ _ _ _=>b
 | _=>[]
noncomputable def aH (s:Stmt):Scope:=match s with
 | .FunctionDef _ _ _ _ _ _ sc _ _ _=>sc
 | _=>{kind:=.function,names:=[],isGenerator:=false,isCoroutine:=false}
noncomputable abbrev ff:FA:=fun _ _ _ _ _ _=>False
noncomputable abbrev E0:XK:=fun _ _ _=>False
theorem Rk {X:Cx}:Passes ff X E0:=fun _ _ _ _ _ _ _ h=>h.elim
structure pQ (K:PySem.W.Frag) (x qual:Str) (st:Stmt) (f:Addr) (fd:FuncData):Prop where
 ex:∃(oc:Value) (od:Option Addr) (kV doc pm:Value) (an:Option Addr) (cdv ct:Value) (osl:Array (Option Value)),
  fd=PySem.W.fnOf x qual (bS st) (bN st) (aH st) .none kV doc pm an cdv ct∧K.lookup f=some ⟨oc,od,.func fd,osl⟩∧PySem.W.codeIn K cdv qual=true
 kp:PySem.W.keepIn K (.ref f)=true
section
variable {P:Program}{w:World}{K:PySem.W.Frag}{mg:Str→Option Value}{base:Heap}
theorem pQ.ok {x qual:Str}{st:Stmt}{f:Addr}{fd:FuncData}{N ps:List Str}{k:Nat}{sp:Sp}(F:pQ K x qual st f fd) (S:cE N ps (aH st)) (len:∀vs H Q E,sp vs H Q E→vs.length=ps.length)
  (hbody:∀(cdv:Value) (A:Around) (outer:List Env) (s:Shared) (H:Hp) (vs:List V) (Q:VK) (E:XK),lM k (A.deeper (envOfC qual (aH st) s.heap.objs.size f cdv))→sp vs H Q E→
   ∃t,C6 (De ff P w K mg base N qual (aH st) f cdv A outer s H E).KP (bN st) t∧t {nx:=fun _ H'=>Q .cW H',rt:=Q} (start N vs) H):bT P w K mg base ff (k+1) f fd ps sp:=by
 obtain⟨oc,od,kV,doc,pm,an,cdv,ct,osl,rfl,lk,hcd⟩:=F.ex
 refine Q3 lk hcd S len fun A outer s H vs Q E hr MH=>?_
 obtain⟨t,h,q⟩:=hbody cdv A outer s H vs Q E hr MH
 exact⟨t,h.KP,q⟩
theorem pQ.binds {x qual:Str}{st:Stmt}{f:Addr}{fd:FuncData}{ps:List Str}(F:pQ K x qual st f fd)
  (h:∀(kV doc pm:Value) (an:Option Addr) (cdv ct:Value) (us:List Value),us.length=ps.length→bindArgs (PySem.W.fnOf x qual (bS st) (bN st) (aH st) .none kV doc pm an cdv ct) ⟨us,[]⟩=pure (ps.zip us)):Binds K fd ps []:=by
 obtain⟨oc,od,kV,doc,pm,an,cdv,ct,osl,rfl,lk,hcd⟩:=F.ex
 exact .all (h kV doc pm an cdv ct)
theorem dw {x qual:Str}{st:Stmt}{f:Addr}{oc:Value}{od an:Option Addr}{osl:Array (Option Value)}{kV doc pm cdv ct:Value}(l:K.lookup f=some ⟨oc,od,.func (PySem.W.fnOf x qual (bS st) (bN st) (aH st) .none kV doc pm an cdv ct),osl⟩)
  (c:PySem.W.codeIn K cdv qual=true) (k:PySem.W.keepIn K (.ref f)=true):pQ K x qual st f (PySem.W.fnOf x qual (bS st) (bN st) (aH st) .none kV doc pm an cdv ct):=⟨⟨oc,od,kV,doc,pm,an,cdv,ct,osl,rfl,l,c⟩,k⟩
end
theorem bG {A:Around}{k:Nat}(hr:lM k A):A.units+1 < cLine:=Nat.lt_of_le_of_lt (Nat.add_le_add_left (by decide:1≤64) _) hr.units
section
variable {X:Cx}
theorem FL:gY X (.builtin "len") (fun xs H Q=>∃a kvs,xs=[V.ref a]∧H a=some (.dK kvs)∧Q (.int kvs.length) H):=by
 intro pins s σ H xs us Q I r h
 obtain⟨a,kvs,rfl,ha,q⟩:=h
 obtain⟨u,rfl,ru⟩:=vals1 r
 cases ru
 exact Q5 I (.inl ha) fun t s' I'=>⟨.int kvs.length,H,I',⟨t,rfl⟩,q⟩
end
theorem BH {A B:Prop}(h:B):if false=true then A else B:=by
 rw[if_neg Bool.false_ne_true]
 exact h
theorem BI {A B:Prop}(h:A):if true=true then A else B:=by
 rw[if_pos rfl]
 exact h
noncomputable def wR (H H':Hp):Prop:=∀b o,H b=some o→H' b=some o
theorem wR.refl (H:Hp):wR H H:=fun _ _ h=>h
theorem wR.trans {H H1 H2:Hp}(a:wR H H1) (b:wR H1 H2):wR H H2:=fun c o h=>b c o (a c o h)
theorem wR.free {H H':Hp}(e:wR H H'){l:Addr}(h:H' l=Option.none):H l=Option.none:=by
 cases q:H l with
 | none=>rfl
 | some o=>
  rw[e l o q] at h
  cases h
theorem wR.seq {K:PySem.W.Frag}{H H':Hp}{a:Addr}{xs:List V}(e:wR H H') (h:qZ K H a xs):qZ K H' a xs:=by
 rcases h with(h | ⟨o,h⟩) | h
 ·exact .inl (.inl (e _ _ h))
 ·exact .inl (.inr ⟨o,e _ _ h⟩)
 ·exact .inr h
section
variable {κ:Type} [DecidableEq κ]
end
end L2
end
section
set_option Elab.async false
set_option linter.all false
set_option maxRecDepth 100000
namespace L2
open PySem PySem.Spec PyProof.Rows
theorem rS.Rl {P:Program}{w:World}{H:Hp}{h:Heap}{a:Addr}{o:HO}(x:rS P w H h) (hn:H a=none) (new:gR P w (upd H a o) h a o):rS P w (upd H a o) h:=fun b u e=>by
 by_cases hb:b=a
 ·subst hb;rw[bJ] at e;cases e;exact new
 ·rw[bI hb] at e
  exact(x b u e).stay (fun c v _ q=>q) (fun c q=>by rw[bI (cP q hn)];exact q) fun c xs q=>by rw[bI (cP q hn)];exact q
noncomputable def jE (X:Cx) (N':List Str) (scope:Scope) (cl:List (Str×Addr)) (C:Addr) (s:Shared) (H:Hp) (fp:List Addr):Cx:=
 {X with N:=N',s₀:=s,H₀:=H,env:=compEnvC scope cl C X.env,outer:=X.stack,stack:=X.stack,ex:=fp,fn:=fun _=>false,pn:=[],xe:=fun _ _=>False}
noncomputable def g6 (cap:List Nat) (σ:St):St:=cap.map fun i=>(σ[i]?).join
structure lE (X:Cx) (x:Str) (eY:List Str) (cap:List Nat) (scope:Scope) (cl:List (Str×Addr)):Prop where
 clos:closureFor scope X.env=pure cl
 sI:∀y∈scope.names,y.2≠.cell
 kind:scope.kind= .function
 names:∀y∈scope.names,y.2= .local→scope.names.lookup y.1=some .local
 loc:scope.names.lookup x=some .local
 cells:∀n c,cl.lookup n=some c→X.env.cells.lookup n=some c
 has:∀n,((relabel scope X.env).names.lookup n=some .cell∨(relabel scope X.env).names.lookup n=some .free)→∃c,cl.lookup n=some c
 nd:(x :: eY).Nodup
 len:cap.length=eY.length
 slot:∀(j:Nat) n,eY[j]? =some n→∃i:Nat,cap[j]? =some i∧X.N[i]? =some n∧HC X.env.scope n
 vis:∀n,n∈eY→((relabel scope X.env).names.lookup n=some .cell∨(relabel scope X.env).names.lookup n=some .free)∧(∃c,cl.lookup n=some c)∧X.env.scope.names.lookup n≠some .local
noncomputable def U4 (wi:TI) (cap:List Nat) (tc:TT) (te:TE):TE:=fun σ H Q=>wi σ H fun J H1=>∃W:Nat→Nat→List V→Hp→Prop,(∃m,W 0 m [] H1)∧∀i m ys H,W i m ys H→ys.length < sizeLine∧
  ((J.stop i H∧∀p,H p=none→Q (.ref p) (upd H p (.lst ys)))∨
   (J.go i H∧∀x H',J.UY i H x H'→tc (some x :: g6 cap σ) H' fun b H2=>if b=true then te (some x :: g6 cap σ) H2 fun y H3=>∃m',m' < m∧W (i+1) m' (ys++[y]) H3 else ∃m',m' < m∧W (i+1) m' ys H2))
noncomputable def WQ:TT:=fun _ H Q=>Q true H
noncomputable def NX (X:Cx) (ifs:List Expr) (tc:TT):Prop:=
 ∀(pins:List (Addr×Obj)) (s:Shared) (σ:St) (H:Hp) (Q:Bool→Hp→Prop),Inv X pins σ H s→tc σ H Q→
  wpAny (model X.prog X.w) X.A (forIn ifs true fun c r=>if r=true then do let ok ←isTrue c X.env (eval c X.env);pure (ForInStep.yield ok) else pure (ForInStep.yield r)) (TP X pins σ Q) X.xe s
theorem Lf {X:Cx}:NX X [] WQ:=fun pins s σ H Q I h=>wpAny_tests_nil ⟨H,I,h⟩
theorem Lg {X:Cx}{c:Expr}{tc:TT}(h:PT X c tc):NX X [c] tc:=fun pins s σ H Q I q=>wpAny_tests_one (h pins s σ H Q I q)
theorem NY (ys:List Value) (y:Value):({cls:=.type "list",data:=.seq (ys.toArray.push y) (ys.length+1)}:Obj)={cls:=.type "list",data:=.seq (ys++[y]).toArray (ys++[y]).length}:=by
 rw[List.length_append,List.length_singleton,List.push_toArray]
theorem Iv {X : Cx} {pins : List (Addr × Obj)} {σ : St} {H : Hp} {s s4 : Shared} {x : Str} {eY : List Str} {cap : List Nat} {scope : Scope} {cl : List (Str × Addr)} {C : Addr} {fp : List Addr} {m' : Str → Option Value}
    (I:Inv X pins σ H s) (T:lE X x eY cap scope cl) (hfp:∀b∈fp,wM X pins H b) (hfo:∀b∈fp,∃o,s.heap.get? b=some o)
    (hC:s.heap.objs.size≤C) (hns:s4.heap.Ns C m') (hos:s4.os=s.os) (hg:s4.gens=s.gens)
    (kept:∀b o,s.heap.get? b=some o→s4.heap.get? b=some o):
    Inv (jE X (x :: eY) scope cl C s H fp) [] (none :: g6 cap σ) H s4:=by
  have fr:∀b,s.heap.objs.size≤b→H b=none:=fun b hb=>I.hok.fresh hb
  refine⟨⟨I.ok.mod,T.kind,I.ok.glob,I.ok.blt,hC,fun y z c h1 h2=>I.ok.inj y z c (T.cells _ _ h1) (T.cells _ _ h2),fun y hy=>T.has y hy,fun y c h=>(by cases h),I.ok.hd,I.ok.frames,.inl rfl,fun b hb=>⟨?_,fun y c e z=>?_⟩,I.bs,Nat.le_trans I.ok.KL I.sz,fun b o e hb=>?_,fun b hb z=>?_,I.stack,I.Eu⟩,
    hos,by rw[hg];exact I.bare,Un.kept kept,⟨m',hns,fun i y v h1 h2 h3=>?_⟩,fun y c h=>?_,fr C hC,fun y c h=>I.pU y c (T.cells _ _ h),fun p hp=>?_,I.hok.kept kept,?_⟩
  · obtain⟨o,e⟩:=hfo b hb
    exact Nat.ne_of_lt (Nat.lt_of_lt_of_le (Heap.lt_size e) hC)
  · exact(hfp b hb).2.2.2.2.1 y c (T.cells _ _ e) z
  · rcases(hfp b hb).2.2.2.1 with z | z
    · exact I.ok.HK b o e z
    · exact absurd (Nat.lt_of_lt_of_le (Heap.lt_size e) (Nat.le_trans I.ok.KL z)) (Nat.lt_irrefl _)
  · rcases List.mem_cons.mp (I.Ae b z) with q | q
    · exact(hfp b hb).2.1 q
    · exact(hfp b hb).2.2.1 q
  · cases i with
    | zero=>cases h2
    | succ j=>
      have h1:eY[j]? =some y:=by simpa[jE] using h1
      have h2:(g6 cap σ)[j]? =some (some v):=by simpa using h2
      obtain⟨i,e1,e2,e3⟩:=T.slot j y h1
      have e4:σ[i]? =some (some v):=by
        unfold g6 at h2
        rw[List.getElem?_map,e1] at h2
        have h2:some ((σ[i]?).join)=some (some v):=h2
        have h2:=Option.some.inj h2
        cases q:σ[i]? with
        | none=>rw[q] at h2;cases h2
        | some o=>rw[q] at h2;cases h2;rfl
      obtain⟨m,hn,hl⟩:=I.loc
      obtain⟨u,r,l⟩:=hl i y v e2 e4 e3
      obtain⟨k1,⟨c,hc⟩,k3⟩:=T.vis y (List.mem_of_getElem? h1)
      refine⟨u,r,.inr ⟨k1,c,hc,?_⟩⟩
      rcases l with⟨hk,_⟩ | ⟨hk,c',hc',z⟩
      · exact absurd hk k3
      · rw[T.cells _ _ hc] at hc'
        cases hc'
        obtain⟨o,ho,hd⟩:=z
        exact⟨o,kept _ _ ho,hd⟩
  · obtain⟨v,o,ho,hd⟩:=I.cell y c (T.cells _ _ h)
    exact⟨v,o,kept _ _ ho,hd⟩
  · exact absurd (show p∈([]:List (Addr×Obj)) from hp) (by simp)
  · show(none :: g6 cap σ).length=(x :: eY).length
    simp[g6,T.len]
end L2
end
section
set_option Elab.async false
set_option linter.all false
set_option maxRecDepth 100000
namespace L2
open PySem PySem.Spec PyProof.Rows
theorem Iw {α:Type}{M:Model}{A:Around}{E E':Value→Shared→Prop}{s:Shared}{t:Sem α}{Q:Unit→Shared→Prop}{Q':α→Shared→Prop}(h:wpAny M A (pure ():Sem Unit) Q E s) (k:Q () s→wpAny M A t Q' E' s):wpAny M A t Q' E' s:=
 fun Γ p hΓ=>k (h Γ p hΓ) Γ p hΓ
theorem wU {X:Cx}{elt iter:Expr}{ifs:List Expr}{x:Str}{px pos:Pos}{scope:Scope}{cl:List (Str×Addr)}{eY:List Str}{cap:List Nat}{wi:TI}{tc:TT}{te:TE}{pins:List (Addr×Obj)}{s:Shared}{σ:St}{H:Hp}{Q:VK}{use:Option (Value→Sem Unit)}{Qf:Value→Shared→Prop}{pos2:Pos}
    (T:lE X x eY cap scope cl) (hc:X.calm=true) (hi:PI X (.Name x px) iter wi)
    (ht:∀C s H fp,NX (jE X (x :: eY) scope cl C s H fp) ifs tc) (he:∀C s H fp,PE (jE X (x :: eY) scope cl C s H fp) elt te)
    (hs:∀x,foldedSetIterable iter X.env x=pure x) (I:Inv X pins σ H s) (h:U4 wi cap tc te σ H Q)
    (hend:∀(D C:Addr) (s7:Shared) (H6:Hp) (ys:List V),Inv X pins σ (upd H6 D (.lst ys)) s7→(∃m,s7.heap.Ns C m)→wM X pins (upd H6 D (.lst ys)) C→Q (.ref D) (upd H6 D (.lst ys))→compPost (model X.prog X.w) X.A X.xe use Qf (.ref D) C (.ok .next) s7):
    wpAny (model X.prog X.w) X.A (comprehension (.ListComp elt [⟨.Name x px,iter,ifs,0⟩] scope pos) scope X.env pos2 (newList []) false (eval iter X.env) use) Qf X.xe s:=by
  refine wpAny_comprehension_free (use:=use) rfl hs T.clos T.kind T.names (fR (hi pins s σ H _ I h) fun v s1 h1=>fR h1 fun itv s2 h2=>?_)
  obtain⟨it,fp,tn,J,H2,rfl,I2,Kw,st2,f2,W,⟨m0,w0⟩,turn⟩:=h2
  refine wpAny_newObj_type (wpAny_newFunctionEnv T.sI (by intro y hy;simp at hy) (fun h4 Lh Iz=>?_) T.kind)
  dsimp only at Lh Iz ⊢
  generalize WR:s2.heap.push {cls:=.type "list",dict:=none,data:=.seq ([]:List Value).toArray}=H3 at Lh Iz ⊢
  have eC:H3.objs.size=s2.heap.objs.size+1:=by rw[←WR,Heap.size_push]
  generalize eC':H3.objs.size=C at eC Lh Iz ⊢
  generalize eD:s2.heap.objs.size=D at eC ⊢
  have Rm:C=D+1:=eC
  have hDC:D≠C:=by rw[Rm];exact Nat.ne_of_lt (Nat.lt_succ_self D)
  have hC:s2.heap.objs.size≤C:=by rw[eD,Rm];exact Nat.le_succ D
  have hD:s2.heap.objs.size≤D:=by rw[eD];exact Nat.le_refl D
  have kept:∀b o,s2.heap.get? b=some o→h4.get? b=some o:=fun b o e=>Iz.extBut b o (Nat.ne_of_lt (Nat.lt_of_lt_of_le (Heap.lt_size e) hC)) (Heap.get?_push_of_some _ (WR▸Heap.get?_push_of_some _ e))
  have hacc:h4.get? D=some {cls:=.type "list",data:=.seq ([]:List Value).toArray ([]:List Value).length}:=Iz.extBut _ _ hDC (Heap.get?_push_of_some _ (WR▸eD▸Heap.get?_push_size _ rfl))
  have fo2:∀b∈fp,∃o,s2.heap.get? b=some o:=fun b hb=>let⟨o,e,_⟩:=Kw.obj _ _ st2 b hb;⟨o,e⟩
  have hDf:D∉fp:=fun hb=>by
    obtain⟨o,e⟩:=fo2 D hb
    exact absurd (Nat.lt_of_lt_of_le (Heap.lt_size e) hD) (Nat.lt_irrefl _)
  have Rn:tn 0 h4:=Kw.keep _ _ _ st2 fun b _ o e=>kept b o e
  have key : ∀ s5 : Shared, s5 = { s2 with heap := h4, toks := s2.toks + ([] : List (Str × Value)).length } →
      codeAny (model X.prog X.w) X.A (.compLoop (.ListComp elt [⟨.Name x px,iter,ifs,0⟩] scope pos) 0 (.ref it) (.ref D) (compEnvC scope cl C X.env)) (compPost (model X.prog X.w) X.A X.xe use Qf (.ref D) C) s5:=by
    rintro s5 rfl
    have I4:Inv (jE X (x :: eY) scope cl C s2 H2 fp) [] (none :: g6 cap σ) H2 {s2 with heap:=h4,toks:=s2.toks+([]:List (Str×Value)).length}:=
      Iv (s4:={s2 with heap:=h4,toks:=s2.toks+([]:List (Str×Value)).length}) I2 T f2 fo2 hC Lh rfl rfl kept
    generalize hY:jE X (x :: eY) scope cl C s2 H2 fp=Y at I4
    have fD:∀{H':Hp},H' D=none→wM Y [] H' D:=fun {H'} hn=>by
      subst hY
      refine⟨hn,hDC,fun z=>(List.mem_cons.mp (I2.Ae D z)).elim (fun q=>absurd (Nat.lt_of_lt_of_le (q▸I2.lt) hD) (Nat.lt_irrefl _)) fun q=>I2.Qx hD q,.inr hD,fun y c e z=>?_,fun p hp=>absurd (show p∈([]:List (Addr×Obj)) from hp) (by simp)⟩
      obtain⟨v,q⟩:=I2.cell y c (T.cells _ _ e)
      exact absurd (Nat.lt_of_lt_of_le q.lt (by rw[z];exact hD)) (Nat.lt_irrefl _)
    have fF:∀{H':Hp},(∀b∈fp,H' b=none)→∀b∈fp,wM Y [] H' b:=fun {H'} hn b hb=>by
      have q:=I4.ok.Wj b (by subst hY;exact hb)
      exact⟨hn b hb,fun z=>q.1 z,I4.ok.HM b (by subst hY;exact hb),.inl (by subst hY;exact hb),fun y c e z=>q.2 y c e z,fun p hp=>absurd (show p∈([]:List (Addr×Obj)) from(by subst hY;exact hp)) (by simp)⟩
    have eA:Y.A=X.A:=by subst hY;rfl
    have eP:Y.prog=X.prog:=by subst hY;rfl
    have eW:Y.w=X.w:=by subst hY;rfl
    have eK:Y.K=X.K:=by subst hY;rfl
    have eE:Y.env=compEnvC scope cl C X.env:=by subst hY;rfl
    have eX:Y.xe=fun _ _=>False:=by subst hY;rfl
    have eN:Y.N=x :: eY:=by subst hY;rfl
    have WS:Y.calm=true:=by subst hY;exact hc
    have htY:NX Y ifs tc:=by subst hY;exact ht _ _ _ _
    have heY:PE Y elt te:=by subst hY;exact he _ _ _ _
    have hgY:PG Y (.Name x px) (zo 0):=Ey (by rw[eN];exact T.nd) (by rw[eN];rfl) (by rw[eE];exact .inl (lookup_relabel_local T.loc)) (.inr (by rw[eE];exact lookup_relabel_local T.loc))
    have Dl:∀(E':Value→Shared→Prop) (e:Value) (s':Shared),Y.xe e s'→E' e s':=fun E' e s' z=>by rw[eX] at z;exact z.elim
    refine codeAny_compLoop_tests (fun n s'=>∃i ys us H' o,Inv Y [] (o :: g6 cap σ) H' s'∧tn i s'.heap∧(∀b∈fp,H' b=none)∧H' D=none∧s'.heap.get? D=some {cls:=.type "list",data:=.seq us.toArray us.length}∧Vals ys us∧W i n ys H') ?_ m0
      ⟨0,[],[],H2,none,I4,Rn,fun b hb=>(f2 b hb).1,I2.hok.fresh hD,hacc,.nil,w0⟩
    rintro n s6 ⟨i,ys,us,H6,o6,I6,WT,WU,d6,a6,v6,w6⟩
    have hul:us.length=ys.length:=v6.length.symm
    obtain⟨hz,Ro⟩:=turn i n ys H6 w6
    rcases Ro with⟨stop,qn⟩ | ⟨go,step⟩
    · have q := Kw.done Y eP eW eK WS i [] s6 (o6 :: g6 cap σ) H6 (notedBy (model X.prog X.w) X.A (compEnvC scope cl C X.env) fun e s' => compPost (model X.prog X.w) X.A X.xe use Qf (.ref D) C (.error e) s') I6 (fF WU) WT stop
      rw[eA] at q
      have WV:=I6.pinned (fp:=[D]) (fun b hb=>by rw[List.mem_singleton.mp hb];exact fD d6) (fun b hb=>by rw[List.mem_singleton.mp hb];exact⟨_,a6,fun v z=>by cases z⟩)
      have q:=Kw.done Y eP eW eK WS i _ s6 (o6 :: g6 cap σ) H6 (notedBy (model X.prog X.w) X.A (compEnvC scope cl C X.env) fun e s'=>compPost (model X.prog X.w) X.A X.xe use Qf (.ref D) C (.error e) s') WV (fun b hb=>?_) WT stop
      · rw [eA] at q
        refine fR q fun r s7 ⟨hr,I7⟩=>?_
        subst hr
        have a7:s7.heap.get? D=_:=(I7.pin (D,{cls:=.type "list",data:=.seq us.toArray us.length}) (List.mem_append_right _ (List.mem_append_right _ (jc (List.mem_singleton.mpr rfl) a6)))).1
        obtain⟨m7,PL,_⟩:=I7.loc
        rw[eE] at PL
        have Rp:H6 D=none:=d6
        have hCn:H6 C=none:=by have:=I7.free;rw[eE] at this;exact this
        have WW:rS X.prog X.w H6 s7.heap:=by have q:=I7.hok;rw[eP,eW] at q;exact q
        have new:gR X.prog X.w (upd H6 D (.lst ys)) s7.heap D (.lst ys):=⟨Nat.le_of_lt hz,us,us.length,v6,a7⟩
        have u7:Un (frs X.stack) fp H2 H6 s2.heap s7.heap:=by have:=I7.base;subst hY;exact this
        have neD:∀b o,s2.heap.get? b=some o→b≠D:=fun b o e=>Nat.ne_of_lt (Nat.lt_of_lt_of_le (Heap.lt_size e) hD)
        have u8:Un (frs X.stack) fp H2 (upd H6 D (.lst ys)) s2.heap s7.heap:=
          ⟨u7.keep,u7.slot,fun b o e n hx=>by rw[bI (neD b o e)];exact u7.free b o e n hx,u7.there,
           fun b xs e=>by have z:=u7.tups b xs e;rw[bI (cP z Rp)];exact z,fun b o u e=>by have z:=u7.tM b o u e;rw[bI (cP z Rp)];exact z,
           fun b ps e=>by obtain⟨more,z⟩:=u7.uO b ps e;exact⟨more,by rw[bI (cP z Rp)];exact z⟩⟩
        have os7:s7.os=s2.os:=by have:=I7.os;subst hY;exact this
        have I9:Inv X pins σ (upd H6 D (.lst ys)) s7:=I2.QA (ch:=fp) os7 u8 (WW.Rl Rp new) I7.bare fun b hb=>⟨(f2 b hb).2.2.2.1,(f2 b hb).2.1,(f2 b hb).2.2.2.2.1,(f2 b hb).2.2.2.2.2⟩
        exact hend D C s7 H6 ys I9 ⟨m7,PL⟩ (I2.HV hC (by rw[bI (Ne.symm hDC)];exact hCn)) (qn D Rp)
      · obtain⟨f0,f1,WX,f3,f4,f5⟩:=fF WU b hb
        refine⟨f0,f1,WX,f3,f4,fun p hp z=>?_⟩
        rcases List.mem_append.mp hp with q' | q'
        · exact f5 p (List.mem_append_left _ q') z
        · rcases List.mem_append.mp q' with q' | q'
          · exact absurd q' (by simp)
          · have:=(uP q').1
            rw[List.mem_singleton.mp this] at z
            exact hDf (z▸hb)
    · have WV:=I6.pinned (fp:=[D]) (fun b hb=>by rw[List.mem_singleton.mp hb];exact fD d6) (fun b hb=>by rw[List.mem_singleton.mp hb];exact⟨_,a6,fun v z=>by cases z⟩)
      have fF':∀{H':Hp},(∀b∈fp,H' b=none)→∀b∈fp,wM Y ([]++sF [D] s6.heap) H' b:=fun {H'} hn b hb=>by
        obtain⟨f0,f1,WX,f3,f4,f5⟩:=fF hn b hb
        refine⟨f0,f1,WX,f3,f4,fun p hp z=>?_⟩
        rcases List.mem_append.mp hp with q' | q'
        · exact f5 p (List.mem_append_left _ q') z
        · rcases List.mem_append.mp q' with q' | q'
          · exact absurd q' (by simp)
          · have:=(uP q').1
            rw[List.mem_singleton.mp this] at z
            exact hDf (z▸hb)
      have q:=Kw.item Y eP eW eK WS i _ s6 (o6 :: g6 cap σ) H6 (notedBy (model X.prog X.w) X.A (compEnvC scope cl C X.env) fun e s'=>compPost (model X.prog X.w) X.A X.xe use Qf (.ref D) C (.error e) s') WV (fF' WU) WT go
      rw[eA] at q
      refine fR q fun r s7 ⟨u,hr,h7⟩=>?_
      subst hr
      refine Iw h7 fun⟨xv,H8,I8,r8,y8,WY,fr8⟩=>?_
      have I8':=I8.pinned (fF' fr8) (Kw.obj _ _ WY)
      have qa:=hgY _ s7 (o6 :: g6 cap σ) H8 xv u _ I8' r8 (show zo 0 xv (o6 :: g6 cap σ) H8 (fun σ' H'=>σ'=some xv :: g6 cap σ∧H'=H8) from⟨rfl,rfl⟩)
      rw[eP,eW,eA,eE] at qa
      refine wpAny_mono qa (fun _ s9 h9=>?_) (Dl _)
      obtain⟨σ9,H9,I9,e9,e9'⟩:=h9
      subst e9 e9'
      have qt:=htY _ s9 _ _ _ I9 (step xv _ y8)
      rw[eP,eW,eA,eE] at qt
      refine wpAny_mono qt (fun ok s10 h10=>?_) (Dl _)
      obtain⟨H10,I10,U5⟩:=h10
      have back:∀{s':Shared}{H':Hp},Inv Y (([]++sF [D] s6.heap)++sF fp s7.heap) (some xv :: g6 cap σ) H' s'→Inv Y [] (some xv :: g6 cap σ) H' s'∧tn (i+1) s'.heap∧(∀b∈fp,H' b=none)∧H' D=none∧s'.heap.get? D=some {cls:=.type "list",data:=.seq us.toArray us.length}:=fun {s' H'} J=>by
        refine⟨J.pW.pW,Kw.keep _ _ _ WY fun b hb o e=>(J.pin (b,o) (List.mem_append_right _ (List.mem_append_right _ (jc hb e)))).1,fun b hb=>?_,?_,?_⟩
        · obtain⟨o,e,d⟩:=Kw.obj _ _ WY b hb
          exact(J.pin (b,o) (List.mem_append_right _ (List.mem_append_right _ (jc hb e)))).2.1
        · exact(J.pin (D,_) (List.mem_append_right _ (List.mem_append_left _ (List.mem_append_right _ (jc (List.mem_singleton.mpr rfl) a6))))).2.1
        · exact(J.pin (D,_) (List.mem_append_right _ (List.mem_append_left _ (List.mem_append_right _ (jc (List.mem_singleton.mpr rfl) a6))))).1
      cases ok with
      | false=>
        rw[if_neg (by decide)] at U5 ⊢
        obtain⟨m',hm,w10⟩:=U5
        obtain⟨b1,b2,b3,b4,b5⟩:=back I10
        exact⟨m',hm,i+1,ys,us,H10,some xv,b1,b2,b3,b4,b5,v6,w10⟩
      | true=>
        rw[if_pos rfl] at U5 ⊢
        have qe:=heY _ s10 _ _ _ I10 U5
        rw[eP,eW,eA,eE] at qe
        refine wpAny_mono qe (fun y WZ h11=>?_) (Dl _)
        obtain⟨yv,H11,I11,r11,m',hm,w11⟩:=h11
        obtain⟨b1,b2,b3,b4,b5⟩:=back I11
        refine append_at (hsz:=by rw[List.size_toArray,hul];exact Nat.le_of_lt hz) b5 fun h12 W0 W2=>?_
        have NZ:∀b o,b≠D→WZ.heap.get? b=some o→h12.get? b=some o:=fun b o hb e=>W0.extBut b o hb e
        obtain⟨g0,g1,g2,g3,g4,g5⟩:=fD b4
        have I12:Inv Y [] (some xv :: g6 cap σ) H11 {WZ with heap:=h12}:=b1.turned (t':=WZ.toks) NZ g0 g1 g3 g4 g5
        refine⟨m',hm,i+1,ys++[yv],us++[y],H11,some xv,I12,Kw.keep _ _ _ b2 fun b hb o e=>NZ b o (fun z=>hDf (z▸hb)) e,b3,b4,W2.trans (congrArg some (NY us y)),v6.append (.cons r11 .nil),w11⟩
  exact codeAny_compStart_list (key _ rfl) (Kw.self _ 0 _ _ _ Rn (key _ rfl))
theorem IA {X:Cx}{elt iter:Expr}{ifs:List Expr}{x:Str}{px pos:Pos}{scope:Scope}{cl:List (Str×Addr)}{eY:List Str}{cap:List Nat}{wi:TI}{tc:TT}{te:TE}
  (T:lE X x eY cap scope cl) (hc:X.calm=true) (hi:PI X (.Name x px) iter wi)
  (ht:∀C s H fp,NX (jE X (x :: eY) scope cl C s H fp) ifs tc) (he:∀C s H fp,PE (jE X (x :: eY) scope cl C s H fp) elt te)
  (hs:∀x,foldedSetIterable iter X.env x=pure x:=by intro _;rfl):
  PE X (.ListComp elt [⟨.Name x px,iter,ifs,0⟩] scope pos) (U4 wi cap tc te):=by
 intro pins s σ H Q I h
 rw[eval_ListComp]
 refine wU T hc hi ht he hs I h ?_
 rintro p C s7 H6 ys I9 ⟨m7,PL⟩ ⟨g0,g1,g2,g3,g4,g5⟩ q
 exact⟨m7,PL,fun h' hs'=>⟨.ref p,_,I9.turned (t':=s7.toks) (fun b o hb e=>hs'.extBut b o hb e) g0 g1 g3 g4 g5,rfl,q⟩⟩
theorem IB {X:Cx}{elt iter:Expr}{ifs:List Expr}{x:Str}{px pos:Pos}{scope:Scope}{cl:List (Str×Addr)}{eY:List Str}{cap:List Nat}{wi:TI}{tc:TT}{te:TE}{i:Nat}{y:Str}{py spos:Pos}
  (T:lE X x eY cap scope cl) (hc:X.calm=true) (hi:PI X (.Name x px) iter wi)
  (ht:∀C s H fp,NX (jE X (x :: eY) scope cl C s H fp) ifs tc) (he:∀C s H fp,PE (jE X (x :: eY) scope cl C s H fp) elt te)
  (hs:∀x,foldedSetIterable iter X.env x=pure x) (hN:X.N.Nodup) (hy:X.N[i]? =some y) (hx:Loc X.env.scope y)
  (hsw:swapsWith (.ListComp elt [⟨.Name x px,iter,ifs,0⟩] scope pos) (some (.Name y py)) spos.line X.env=pure true) (hf:X.fn y=true∨X.env.scope.names.lookup y=some .local):
  PS X (.Assign [.Name y py] (.ListComp elt [⟨.Name x px,iter,ifs,0⟩] scope pos) spos) (KY (U4 wi cap tc te) (zo i)):=by
 intro pins s σ H D I h
 rw[exec_Assign_Name_used _ _ _ _ hsw]
 refine wpAny_bind (wpAny_standAt (wpAny_bind ?_))
 show wpAny _ X.A (do let _ ←comprehension (.ListComp elt [⟨.Name x px,iter,ifs,0⟩] scope pos) scope X.env _ (newList []) false (eval iter X.env) (some (assign (.Name y py) X.env))) _ _ s
 refine wpAny_bind (wpAny_mono (wU (Qf:=fun _ s'=>SP X pins D .next s') T hc hi ht he hs I h ?_) (fun _ s' hq=>wpAny_pure (wpAny_pure hq)) fun _ _ e=>e)
 rintro p C s7 H6 ys I9 ⟨m7,PL⟩ ⟨g0,g1,g2,g3,g4,g5⟩ q
 refine wpAny_assign_Name (zl I9 hN hy hx (v:=.ref p) (show RelV (.ref p) (.ref p) from rfl) (fun s8 I8 ⟨a,hsb,ha⟩=>?_) hf)
 have hne:C≠a:=ha.elim (fun z=>by rw[z];exact g1) fun z=>Ne.symm (g4 _ _ z)
 refine⟨m7,PL.sameBut hsb hne,fun h' hs'=>?_⟩
 exact⟨_,_,I8.turned (t':=s8.toks) (fun b o hb e=>hs'.extBut b o hb e) g0 g1 g3 g4 g5,q⟩
end L2
end
section
set_option Elab.async false
set_option linter.all false
set_option maxRecDepth 100000
namespace L2
open PySem PySem.Spec PyProof.Rows
noncomputable def W3 (z:Str):It:=⟨fun i _=>i < z.cps.size,fun i H x H'=>H'=H∧∃c,z.cps[i]? =some c∧x= .str ⟨#[c]⟩,fun i _=>z.cps.size≤i⟩
theorem IC {P:Program}{w:World}{K:PySem.W.Frag}{x:Str}{px:Pos}(z:Str) (it:Addr) (t:Tok) (ty:String) (hW:∀A':Around,A'.handled=none→Walks P w A' it [it] [it] z.cps.size (SignAt z) fun i h=>h.IsStrIter it ty z t i)
  (hself:∀(A:Around) (i:Nat) (s:Shared) (Q:Value→Shared→Prop) (E:Value→Shared→Prop),s.heap.IsStrIter it ty z t i→Q (.ref it) s→wpAny (model P w) A (pyIter (.ref it)) Q E s):
  Turn P w K (.Name x px) (W3 z) [it] it (fun i h=>i≤z.cps.size∧h.IsStrIter it ty z t i) where
 mem:=by simp
 obj:=fun i h st b hb=>by
  obtain rfl:b=it:=by simpa using hb
  obtain⟨o,e,c,d⟩:=st.2
  exact⟨o,e,fun v q=>by rw[d] at q;cases q⟩
 keep:=fun i h h' st k=>by
  obtain⟨o,e,r⟩:=st.2
  exact⟨st.1,o,k it (by simp) o e,r⟩
 item:=by
  intro X hP hw hK hc i pins s σ H E I hf st hg
  subst hP hw hK
  obtain⟨f0,f1,f2,f3,f4,f5⟩:=hf it (by simp)
  refine(hW X.A (I.ok.hd hc)).item i s _ _ hg st.2 fun v h' tk hv st' kk=>?_
  obtain⟨c,u,hc',rfl⟩:=hv
  exact⟨_,rfl,wpAny_pure ⟨.str ⟨#[c]⟩,H,I.turned (fun b o hb e=>kk b o (by simpa using hb) e) f0 f1 f3 f4 f5,⟨u,rfl⟩,⟨rfl,c,hc',rfl⟩,⟨hg,st'⟩,fun b hb=>(hf b hb).1⟩⟩
 done:=by
  intro X hP hw hK hc i pins s σ H E I hf st hg
  subst hP hw hK
  obtain⟨f0,f1,f2,f3,f4,f5⟩:=hf it (by simp)
  obtain⟨s1,s2⟩:=st
  have e:i=z.cps.size:=Nat.le_antisymm s1 hg
  subst e
  exact(hW X.A (I.ok.hd hc)).done s _ _ s2 fun h' tk kk=>⟨rfl,I.turned (fun b o hb e=>kk b o (by simpa using hb) e) f0 f1 f3 f4 f5⟩
 self:=fun A i s Q E st h=>hself A i s Q E st.2 h
noncomputable def W4 (tl:TE):TI:=fun σ H R=>tl σ H fun x H1=>∃z,x= .str z∧R (W3 z) H1
theorem N1 {X:Cx}{x:Str}{px:Pos}{l:Expr}{tl:TE}(hl:PE X l tl):PI X (.Name x px) l (W4 tl):=by
 intro pins s σ H R I h
 refine fR (hl pins s σ H _ I h) fun v s1 ⟨y,H1,I1,r1,q1⟩=>?_
 obtain⟨z,rfl,q⟩:=q1
 obtain⟨t,rfl⟩:=r1
 refine wpAny_pyIter_strU ?_
 have hst:∀ty,strIterType z=ty→(s1.heap.push {cls:=.type (strIterType z),data:=.fields #[.str z t,.int 0 0]}).IsStrIter s1.heap.objs.size ty z t 0:=fun ty e=>⟨_,Heap.get?_push_size _ rfl,by rw[←e],rfl⟩
 have go:∀ty,strIterType z=ty→(∀A':Around,A'.handled=none→Walks X.prog X.w A' s1.heap.objs.size [s1.heap.objs.size] [s1.heap.objs.size] z.cps.size (SignAt z) fun i h=>h.IsStrIter s1.heap.objs.size ty z t i)→
   (∀(A:Around) (i:Nat) (s:Shared) (Q:Value→Shared→Prop) (E:Value→Shared→Prop),s.heap.IsStrIter s1.heap.objs.size ty z t i→Q (.ref s1.heap.objs.size) s→wpAny (model X.prog X.w) A (pyIter (.ref s1.heap.objs.size)) Q E s)→
   Ww X pins σ (.Name x px) R (.ref s1.heap.objs.size) {s1 with heap:=s1.heap.push {cls:=.type (strIterType z),data:=.fields #[.str z t,.int 0 0]}}:=fun ty e hW hself=>by
  refine⟨s1.heap.objs.size,[s1.heap.objs.size],_,_,H1,rfl,I1.kept (t':=s1.toks) fun b o e=>Heap.get?_push_of_some _ e,IC z _ t ty hW hself,⟨Nat.zero_le _,hst ty e⟩,fun b hb=>?_,q⟩
  obtain rfl:b=s1.heap.objs.size:=by simpa using hb
  exact I1.HV (Nat.le_refl _) (I1.hok.fresh (Nat.le_refl _))
 cases ha:z.cps.all (· < 128)
 ·exact go "str_iterator" (by simp[strIterType,ha]) (fun A' hA=>Walks.strWide hA _ z t) fun A i s Q E st h=>wpAny_pyIter_striter_wide st h
 ·exact go "str_ascii_iterator" (by simp[strIterType,ha]) (fun A' hA=>Walks.strAscii hA _ z t) fun A i s Q E st h=>wpAny_pyIter_striter_ascii st h
theorem ID {bs:List Bool}:∀{us:List Value},Vals (bs.map V.bl) us→us=bs.map Value.bool:=by
 induction bs with
 | nil=>intro us r;cases r;rfl
 | cons b bs ih=>
  intro us r
  cases r with
  | cons r1 r2=>
   cases r1
   rw[ih r2]
   rfl
theorem Dm (bs:List Bool):((List.range bs.length).all fun i=>(bs[i]?).getD true)=bs.all id:=by
 rw[Bool.eq_iff_iff,List.all_eq_true,List.all_eq_true]
 constructor
 ·intro h b hb
  obtain⟨i,hi,rfl⟩:=List.mem_iff_getElem.mp hb
  have:=h i (List.mem_range.mpr hi)
  simpa[hi] using this
 ·intro h i hi
  have hi:=List.mem_range.mp hi
  simp only[List.getElem?_eq_getElem hi,Option.getD_some]
  exact h _ (List.getElem_mem hi)
theorem FN {X:Cx}(hc:X.calm=true):gY X (.builtin "all") (fun xs H Q=>∃(p:Addr) (bs:List Bool),xs=[.ref p]∧qZ X.K H p (bs.map V.bl)∧Q (.bl (bs.all id)) H):=by
 intro pins s σ H xs us Q I r h
 obtain⟨p,bs,rfl,hp,q⟩:=h
 obtain⟨u,rfl,ru⟩:=vals1 r
 cases ru
 obtain⟨its,rv,pl,hz⟩:=I.list hp
 obtain rfl:=ID rv
 have hlt:p < s.heap.objs.size:=by obtain⟨_,e,_⟩:=pl.isList;exact Heap.lt_size e
 refine call_all_walk (wpAny_pyIter_list pl.isList ?_)
 refine⟨s.heap.objs.size,[s.heap.objs.size,p],[s.heap.objs.size],_,_,_,fun i=>(bs[i]?).getD true,rfl,Walks.list (A:=X.A.in1) (I.ok.hd hc) _ p (Nat.ne_of_lt hlt) _,
  ⟨⟨_,Heap.get?_push_size _ rfl,rfl,rfl⟩,pl.isList.push _⟩,fun i v s' Q' E' hP hQ=>?_,fun h' tk hk=>?_⟩
 ·have hP:(bs.map Value.bool)[i]? =some v:=by simpa using hP
  rw[List.getElem?_map] at hP
  cases e:bs[i]? with
  | none=>rw[e] at hP;cases hP
  | some b=>
   rw[e] at hP
   cases hP
   simp only[e,Option.getD_some] at hQ
   exact wpAny_truthy_bool hQ
 ·have e:((List.range (bs.map Value.bool).toArray.size).all fun i=>(bs[i]?).getD true)=bs.all id:=by
   rw[List.size_toArray,List.length_map];exact Dm bs
  rw[e]
  exact⟨.bl (bs.all id),H,I.kept (t':=tk) fun b o e=>hk b o (fun hm=>by rw[List.mem_singleton.mp hm] at e;exact Nat.lt_irrefl _ (Heap.lt_size e)) (Heap.get?_push_of_some _ e),rfl,q⟩
noncomputable def W5:V→Option Int→Option Int→Hp→VK→Prop:=fun x lo hi H Q=>∃z,x= .str z∧z.length≤sizeLine∧((Txt.slice z lo hi).length≤z.length→Q (.str (Txt.slice z lo hi)) H)
theorem N2 {X:Cx}:Lb X W5:=by
 intro pins s σ H x v vl vu lo hi sl Q I rx hs pl pu h
 obtain⟨z,rfl,hz,q⟩:=h
 obtain⟨t,rfl⟩:=rx
 have q:=q (Txt.slice_le z _ _)
 refine⟨"str",_,F.slot_str_getitem.lookup,typeIs_str _ _ _,?_⟩
 cases pl with
 | none=>
  cases pu with
  | none=>exact wpAny_getItem_str_slice (l:=none) (u:=none) (st:=none) hs rfl (post_val_or_str ⟨Nat.le_trans (Txt.slice_le z _ _) hz,fun t' k=>⟨V.str (Txt.slice z none none),H,I.tok k,⟨t',rfl⟩,q⟩⟩)
  | int j u=>exact wpAny_getItem_str_slice (l:=none) (u:=some (j,u)) (st:=none) hs rfl (post_val_or_str ⟨Nat.le_trans (Txt.slice_le z _ _) hz,fun t' k=>⟨V.str (Txt.slice z none (some j)),H,I.tok k,⟨t',rfl⟩,q⟩⟩)
 | int i u'=>
  cases pu with
  | none=>exact wpAny_getItem_str_slice (l:=some (i,u')) (u:=none) (st:=none) hs rfl (post_val_or_str ⟨Nat.le_trans (Txt.slice_le z _ _) hz,fun t' k=>⟨V.str (Txt.slice z (some i) none),H,I.tok k,⟨t',rfl⟩,q⟩⟩)
  | int j u=>exact wpAny_getItem_str_slice (l:=some (i,u')) (u:=some (j,u)) (st:=none) hs rfl (post_val_or_str ⟨Nat.le_trans (Txt.slice_le z _ _) hz,fun t' k=>⟨V.str (Txt.slice z (some i) (some j)),H,I.tok k,⟨t',rfl⟩,q⟩⟩)
end L2
end
section
set_option Elab.async false
set_option linter.all false
set_option maxRecDepth 100000
namespace L2
open PySem PySem.Spec PyProof.Rows
inductive D where
 | cW | bl (b:Bool) | int (i:Int) | str (z:Str) | tup (ds:List D) | lst (ds:List D)
mutual
inductive Rep (H:Hp):V→D→Prop
 | cW:Rep H .cW .cW
 | bl (b:Bool):Rep H (.bl b) (.bl b)
 | int (i:Int):Rep H (.int i) (.int i)
 | str (z:Str):Rep H (.str z) (.str z)
 | tup {a:Addr}{vs:List V}{ds:List D}(e:H a=some (.tup vs)) (r:bW H vs ds):Rep H (.ref a) (.tup ds)
 | lst {a:Addr}{vs:List V}{ds:List D}(e:H a=some (.lst vs)) (r:bW H vs ds):Rep H (.ref a) (.lst ds)
inductive bW (H:Hp):List V→List D→Prop
 | nil:bW H [] []
 | cons {v:V}{d:D}{vs:List V}{ds:List D}(r:Rep H v d) (rs:bW H vs ds):bW H (v :: vs) (d :: ds)
end
noncomputable def W6:HO→Bool
 | .lst _=>true
 | .tup _=>true
 | .kW _ _=>true
 | _=>false
noncomputable def yI (H H':Hp):Prop:=∀b o,W6 o=true→H b=some o→H' b=some o
theorem yI.refl (H:Hp):yI H H:=fun _ _ _ h=>h
theorem yI.trans {H H1 H2:Hp}(x:yI H H1) (y:yI H1 H2):yI H H2:=fun b o s h=>y b o s (x b o s h)
theorem yI.seq {K:PySem.W.Frag}{H H':Hp}{a:Addr}{xs:List V}(e:yI H H') (h:qZ K H a xs):qZ K H' a xs:=by
 rcases h with(h | ⟨o,h⟩) | h
 ·exact .inl (.inl (e _ _ rfl h))
 ·exact .inl (.inr ⟨o,e _ _ rfl h⟩)
 ·exact .inr h
theorem yI.of {H H':Hp}(x:wR H H'):yI H H':=fun b o _ h=>x b o h
theorem bW.length {H:Hp}:∀{vs:List V}{ds:List D},bW H vs ds→vs.length=ds.length
 | _,_,.nil=>rfl
 | _,_,.cons _ rs=>congrArg Nat.succ (bW.length rs)
theorem bW.get {H:Hp}:∀{vs:List V}{ds:List D}{i:Nat}{d:D},bW H vs ds→ds[i]? =some d→∃v,vs[i]? =some v∧Rep H v d
 | _,_,_,_,.nil,e=>by simp at e
 | _,_,0,_,.cons r _,e=>by simp at e;subst e;exact⟨_,rfl,r⟩
 | _,_,i+1,_,.cons _ rs,e=>by
  obtain⟨v,h1,h2⟩:=bW.get (i:=i) rs (by simpa using e)
  exact⟨v,by simpa using h1,h2⟩
theorem bW.append {H:Hp}:∀{vs ws:List V}{ds es:List D},bW H vs ds→bW H ws es→bW H (vs++ws) (ds++es)
 | _,_,_,_,.nil,s=>s
 | _,_,_,_,.cons r rs,s=>.cons r (bW.append rs s)
theorem bW.take {H:Hp}:∀{vs:List V}{ds:List D}(n:Nat),bW H vs ds→bW H (vs.take n) (ds.take n)
 | _,_,0,_=>.nil
 | _,_,_+1,.nil=>.nil
 | _,_,n+1,.cons r rs=>.cons r (bW.take n rs)
theorem bW.drop {H:Hp}:∀{vs:List V}{ds:List D}(n:Nat),bW H vs ds→bW H (vs.drop n) (ds.drop n)
 | _,_,0,rs=>rs
 | _,_,_+1,.nil=>.nil
 | _,_,n+1,.cons _ rs=>bW.drop n rs
noncomputable def ML:D→String
 | .cW=>"NoneType" | .bl _=>"bool" | .int _=>"int" | .str _=>"str" | .tup _=>"tuple" | .lst _=>"list"
open PySem.W in
noncomputable def jB (T U:String):Option Bool:=if(Value.type T == Value.type U)=true then some true else if kitMeta U=true then(fastBuiltinMro T).map (·.contains (Value.type U)) else none
theorem Rep.ty {K:PySem.W.Frag}{H:Hp}{v:V}{d:D}(r:Rep H v d):v5 K H v (.type (ML d)):=by
 cases r with
 | cW=>exact .cW
 | bl b=>exact .bl b
 | int i=>exact .int i
 | str z=>exact .str z
 | tup e _=>exact .tup e
 | lst e _=>exact .lst e
noncomputable def bU:D→Bool
 | .tup _=>true
 | _=>false
noncomputable def IE:D→Bool
 | .lst _=>true
 | _=>false
noncomputable def iN:D→Bool
 | .str _=>true
 | _=>false
noncomputable def p6:D→Bool
 | .bl _=>true
 | _=>false
noncomputable def Ao:D→Bool
 | .int _=>true
 | .bl _=>true
 | _=>false
theorem Li {K:PySem.W.Frag}(d:D):PySem.W.kitOne K (.type (ML d)) (.type "tuple")=some (bU d):=by
 cases d with
 | cW=>exact(show jB "NoneType" "tuple" =some false by decide +kernel)
 | bl b=>exact(show jB "bool" "tuple" =some false by decide +kernel)
 | int i=>exact(show jB "int" "tuple" =some false by decide +kernel)
 | str z=>exact(show jB "str" "tuple" =some false by decide +kernel)
 | tup ds=>exact(show jB "tuple" "tuple" =some true by decide +kernel)
 | lst ds=>exact(show jB "list" "tuple" =some false by decide +kernel)
theorem Lj {K:PySem.W.Frag}(d:D):PySem.W.kitOne K (.type (ML d)) (.type "list")=some (IE d):=by
 cases d with
 | cW=>exact(show jB "NoneType" "list" =some false by decide +kernel)
 | bl b=>exact(show jB "bool" "list" =some false by decide +kernel)
 | int i=>exact(show jB "int" "list" =some false by decide +kernel)
 | str z=>exact(show jB "str" "list" =some false by decide +kernel)
 | tup ds=>exact(show jB "tuple" "list" =some false by decide +kernel)
 | lst ds=>exact(show jB "list" "list" =some true by decide +kernel)
theorem IF {K:PySem.W.Frag}(d:D):PySem.W.kitOne K (.type (ML d)) (.type "str")=some (iN d):=by
 cases d with
 | cW=>exact(show jB "NoneType" "str" =some false by decide +kernel)
 | bl b=>exact(show jB "bool" "str" =some false by decide +kernel)
 | int i=>exact(show jB "int" "str" =some false by decide +kernel)
 | str z=>exact(show jB "str" "str" =some true by decide +kernel)
 | tup ds=>exact(show jB "tuple" "str" =some false by decide +kernel)
 | lst ds=>exact(show jB "list" "str" =some false by decide +kernel)
theorem N3 {K:PySem.W.Frag}(d:D):PySem.W.kitOne K (.type (ML d)) (.type "bool")=some (p6 d):=by
 cases d with
 | cW=>exact(show jB "NoneType" "bool" =some false by decide +kernel)
 | bl b=>exact(show jB "bool" "bool" =some true by decide +kernel)
 | int i=>exact(show jB "int" "bool" =some false by decide +kernel)
 | str z=>exact(show jB "str" "bool" =some false by decide +kernel)
 | tup ds=>exact(show jB "tuple" "bool" =some false by decide +kernel)
 | lst ds=>exact(show jB "list" "bool" =some false by decide +kernel)
theorem Lk {K:PySem.W.Frag}(d:D):PySem.W.kitOne K (.type (ML d)) (.type "int")=some (Ao d):=by
 cases d with
 | cW=>exact(show jB "NoneType" "int" =some false by decide +kernel)
 | bl b=>exact(show jB "bool" "int" =some true by decide +kernel)
 | int i=>exact(show jB "int" "int" =some true by decide +kernel)
 | str z=>exact(show jB "str" "int" =some false by decide +kernel)
 | tup ds=>exact(show jB "tuple" "int" =some false by decide +kernel)
 | lst ds=>exact(show jB "list" "int" =some false by decide +kernel)
end L2
end
section
set_option Elab.async false
set_option linter.all false
set_option maxRecDepth 100000
namespace HT
open PySem PySem.Spec PyProof.Rows
section
variable {prog:Program}{w:World}{A:Around}{E:Value→Shared→Prop}{s:Shared}
theorem FO {t sl:Addr}{items:Array Value}{vl vu:Value}{lo hi:Option Int}{Q:Value→Shared→Prop}(ht:IsTup s.heap t items) (hs:s.heap.IsSliceOf sl vl vu .none) (pl:IsPart vl lo) (pu:IsPart vu hi)
  (hw:iD items.size 0 lo=0∧iD items.size items.size hi=items.size) (h:Q (.ref t) s):wpAny (model prog w) A (getItem (.ref t) (.ref sl)) Q E s:=by
 obtain⟨os,hos,hcs,hds⟩:=id hs
 have Rb:s.TypeIs (.ref sl) "slice":=⟨os,hos,hcs⟩
 unfold getItem
 try with_reducible refine wpAny_holding ?_
 first | refine wpAny_bind (wpAny_pure ?_) | skip
 refine wpAny_bind (wpAny_sequenceKey ht.typeIs (by decide) ?_)
 refine wpAny_bind (wpAny_callSpecial?_slot (name:=Str.ofString "__getitem__") ht.typeIs PyProof.Rows.slot_tuple_getitem
  (wpAny_call_entry PyProof.Rows.slot_tuple_getitem ht.typeIs entry_tuple_getitem ?_ (args_tuple_getitem _ _)))
 show wpAny _ _ (Builtin.Tuple.tupleItemsOf (.ref t) >>= _) _ _ s
 refine wpAny_bind (tupleItemsOf_ ht ?_)
 refine wpAny_bind (wpAny_typeOf Rb ?_)
 rw[if_pos (by decide)]
 refine wpAny_bind (nC hs pl pu ?_)
 have hyes:(((iD items.size 0 lo:Nat):Int) == 0 && (1:Int) == 1 && (iD items.size items.size hi - iD items.size 0 lo) == items.size)=true:=by
  rw[hw.1,hw.2];simp
 show wpAny _ _ (if(((iD items.size 0 lo:Nat):Int) == 0 && (1:Int) == 1 && (iD items.size items.size hi - iD items.size 0 lo) == items.size)=true then _ else _) _ _ s
 rw[if_pos hyes]
 have hex:∀{α:Type}{k:Bool→Sem α}{Q':α→Shared→Prop}{E':Value→Shared→Prop}{A':Around},wpAny (model prog w) A' (k true) Q' E' s→wpAny (model prog w) A' (Builtin.Tuple.tupleIsExact (.ref t) >>= k) Q' E' s:=fun {α k Q' E' A'} hk=>by
  refine wpAny_bind ?_
  unfold Builtin.Tuple.tupleIsExact
  exact wpAny_bind (wpAny_typeOf ht.typeIs (wpAny_pure hk))
 first
  | (refine hex ?_;exact wpAny_rule (wpAny_pure ⟨_,rfl,wpAny_pure h⟩))
  | (refine hex ?_;refine wpAny_bind (wpAny_rule ?_);exact wpAny_pure ⟨_,rfl,wpAny_pure h⟩)
end
end HT
end
section
set_option Elab.async false
set_option linter.all false
set_option maxRecDepth 100000
namespace L2
open PySem PySem.Spec PyProof.Rows
section
variable {X:Cx}
theorem Rep.mJ {H:Hp}{v:V}{ds:List D}(r:Rep H v (.tup ds)):∃a vs,v= .ref a∧H a=some (.tup vs)∧bW H vs ds:=by
 cases r with
 | tup e rs=>exact⟨_,_,rfl,e,rs⟩
theorem Rep.jF {H:Hp}{v:V}{ds:List D}(r:Rep H v (.lst ds)):∃a vs,v= .ref a∧H a=some (.lst vs)∧bW H vs ds:=by
 cases r with
 | lst e rs=>exact⟨_,_,rfl,e,rs⟩
noncomputable def cutD (ds:List D) (lo hi:Option Int):List D:=(ds.drop (HT.iD ds.length 0 lo)).take (HT.iD ds.length ds.length hi - HT.iD ds.length 0 lo)
theorem bW.gZ {H:Hp}{vs:List V}{ds:List D}{i:Int}{d:D}(r:bW H vs ds) (h:L2.gZ ds i=some d):∃v,L2.gZ vs i=some v∧Rep H v d:=by
 have hl:=r.length
 unfold L2.gZ at h ⊢
 rw[hl]
 cases e:Di ds.length i with
 | none=>rw[e] at h;cases h
 | some j=>
  rw[e] at h
  exact r.get h
end
end L2
end
section
set_option Elab.async false
set_option linter.all false
set_option maxRecDepth 100000
namespace L2
open PySem PySem.Spec PyProof.Rows
theorem BJ {scope:Scope}{env:Env}{n:Str}{k:NameKind}(h:(relabel scope env).names.lookup n=some k):(n,k)∈(relabel scope env).names:=PySem.mem_of_lookup h
theorem fS {X:Cx}{x:Str}{scope:Scope}(h1:∀y∈scope.names,y.2≠.free) (h2:∀y∈scope.names,y.2≠.cell) (h3:scope.kind= .function) (h4:∀y∈scope.names,y.2= .local→scope.names.lookup y.1=some .local) (h5:scope.names.lookup x=some .local):
  lE X x [] [] scope []:=by
 refine⟨closureFor_none h1,h2,h3,h4,h5,fun n c h=>(by cases h),fun n h=>?_,by simp,rfl,fun j n h=>(by simp at h),fun n h=>(by simp at h)⟩
 have no:∀k,(k=NameKind.cell∨k=NameKind.free)→(relabel scope X.env).names.lookup n≠some k:=fun k hk e=>by
  have m:=BJ e
  unfold relabel at m
  obtain⟨⟨n',k'⟩,hm,q⟩:=List.mem_map.mp m
  have z:(k' == NameKind.free)=false:=by simpa using h1 _ hm
  simp only[z,Bool.false_and,if_false] at q
  have q2:k'=k:=by
   have:=congrArg Prod.snd q
   simpa using this
  rcases hk with rfl | rfl
  ·exact h2 _ hm q2
  ·exact h1 _ hm q2
 rcases h with h | h
 ·exact absurd h (no _ (.inl rfl))
 ·exact absurd h (no _ (.inr rfl))
mutual
noncomputable def sr (n:Nat):D→Prop
 | .str z=>z.length≤n
 | .tup ds=>ds.length≤n∧Fits n ds
 | .lst ds=>ds.length≤n∧Fits n ds
 | .cW=>True
 | .bl _=>True
 | .int _=>True
noncomputable def Fits (n:Nat):List D→Prop
 | []=>True
 | d :: ds=>sr n d∧Fits n ds
end
mutual
theorem sr.mono {n m:Nat}(l:n≤m):∀{d:D},sr n d→sr m d
 | .str _,h=>Nat.le_trans h l
 | .tup _,h=>⟨Nat.le_trans h.1 l,Fits.mono l h.2⟩
 | .lst _,h=>⟨Nat.le_trans h.1 l,Fits.mono l h.2⟩
 | .cW,_=>True.intro
 | .bl _,_=>True.intro
 | .int _,_=>True.intro
theorem Fits.mono {n m:Nat}(l:n≤m):∀{ds:List D},Fits n ds→Fits m ds
 | [],_=>True.intro
 | _ :: _,h=>⟨sr.mono l h.1,Fits.mono l h.2⟩
end
theorem Fits.append {n:Nat}:∀{ds es:List D},Fits n ds→Fits n es→Fits n (ds++es)
 | [],_,_,h=>h
 | _ :: _,_,h,k=>⟨h.1,Fits.append h.2 k⟩
theorem Fits.take {n:Nat}:∀{ds:List D}(k:Nat),Fits n ds→Fits n (ds.take k)
 | _,0,_=>True.intro
 | [],_+1,_=>True.intro
 | _ :: _,k+1,h=>⟨h.1,Fits.take k h.2⟩
theorem Fits.drop {n:Nat}:∀{ds:List D}(k:Nat),Fits n ds→Fits n (ds.drop k)
 | _,0,h=>h
 | [],_+1,_=>True.intro
 | _ :: _,k+1,h=>Fits.drop k h.2
theorem Fits.get {n:Nat}:∀{ds:List D}{i:Nat}{d:D},Fits n ds→ds[i]? =some d→sr n d
 | [],_,_,_,e=>by simp at e
 | _ :: _,0,_,h,e=>by simp at e;subst e;exact h.1
 | _ :: _,i+1,_,h,e=>Fits.get (i:=i) h.2 (by simpa using e)
theorem Fits.cut {n:Nat}{ds:List D}(h:Fits n ds) (lo hi:Option Int):Fits n (cutD ds lo hi):=(h.drop _).take _
noncomputable def gP (d:D) (l m:Int):Bool:=match d with
 | .int i=>decide (l≤i) && decide (i≤m)
 | _=>false
noncomputable def fT (d:D) (l m:Int):Bool:=match d with
 | .tup ds=>decide (l≤(ds.length:Int)) && decide ((ds.length:Int)≤m)
 | _=>false
end L2
end
section
set_option Elab.async false
set_option linter.all false
set_option maxRecDepth 100000
namespace L2
open PySem PySem.Spec PyProof.Rows
theorem lookup_some {α : Type} : ∀ {l : List (Str × α)} {n : Str}, n ∈ l.map (·.1) → ∃ c, l.lookup n = some c
  | [],_,h=>by simp at h
  | (m, c) :: l, n, h => by
    rw[List.lookup_cons]
    cases e:n == m with
    | true=>exact⟨c,rfl⟩
    | false=>
      rcases List.mem_cons.mp h with h | h
      · have h:n=m:=h
        rw[h,beq_self_eq_true] at e
        cases e
      · exact lookup_some h
end L2
end
section
set_option Elab.async false
set_option linter.all false
set_option maxRecDepth 100000
namespace L2
open PySem PySem.Spec PyProof.Rows
end L2
end
section
set_option Elab.async false
set_option linter.all false
set_option maxRecDepth 100000
namespace L2
open PySem PySem.Spec PyProof.Rows
mutual
noncomputable def toPy:D→PyData
 | .cW=>.none
 | .bl b=>.bool b
 | .int i=>.int i
 | .str z=>.str z
 | .tup ds=>.tuple (iS ds)
 | .lst ds=>.list (iS ds)
noncomputable def iS:List D→List PyData
 | []=>[]
 | d :: ds=>toPy d :: iS ds
end
section
variable {X:Cx}{pins:List (Addr×Obj)}{σ:St}{H:Hp}{s:Shared}
end
mutual
theorem vK:∀d:D,(toPy d).hasDict=false
 | .cW=>rfl
 | .bl _=>rfl
 | .int _=>rfl
 | .str _=>rfl
 | .tup ds=>oF ds
 | .lst ds=>oF ds
theorem oF:∀ds:List D,PyData.hasDictAll (iS ds)=false
 | []=>rfl
 | d :: ds=>by
  show((toPy d).hasDict || PyData.hasDictAll (iS ds))=false
  rw[vK d,oF ds]
  rfl
end
end L2
end
section
set_option Elab.async false
set_option linter.all false
set_option maxRecDepth 100000
namespace L2
open PySem PySem.Spec PyProof.Rows
inductive MO where
 | lst (ds:List D)
 | dct (kvs:List (Key×D))
 | yJ (kvs:List (List Key×D))
inductive U where
 | t (d:D) | m (o:MO) | b (o:MO) | v (i:Nat) | s (ns:List Int)
noncomputable abbrev SS:=List (Option U)
noncomputable def Sub (F H:Hp):Prop:=∀a o,F a=some o→H a=some o
noncomputable def jk {κ:Type}(F:Hp) (p:κ×V) (q:κ×D):Prop:=p.1=q.1∧Rep F p.2 q.2
noncomputable def At (F H:Hp) (a:Addr):MO→Prop
 | .lst ds=>∃vs,H a=some (.lst vs)∧bW F vs ds
 | .dct kvs=>∃ws,H a=some (.dK ws)∧Paired (jk F) ws kvs
 | .yJ kvs=>∃ws,H a=some (.dT ws)∧Paired (jk F) ws kvs
noncomputable def g7:U→Bool
 | .m _=>true
 | .b _=>true
 | _=>false
noncomputable def eO (S:SS) (σ:St) (a:Addr):Prop:=∃(i:Nat) (u:U),S[i]? =some (some u)∧g7 u=true∧σ[i]? =some (some (.ref a))
noncomputable def Ll (K:PySem.W.Frag) (H:Hp) (a:Addr) (ns:List Int):Prop:=
 (∃o,H a=some (.kW o (.lst (ns.map V.int))))∨∃(o:Obj) (its:Array Value) (n:Nat),K.lookup a=some o∧o.cls= .type "list"∧o.dict=none∧o.data= .seq its n∧its.size≤sizeLine∧Vals (ns.map V.int) its.toList
theorem Ll.sq {K:PySem.W.Frag}{H:Hp}{a:Addr}{ns:List Int}:Ll K H a ns→qZ K H a (ns.map V.int)
 | .inl h=>.inl (.inr h)
 | .inr h=>.inr h
noncomputable def yK (K:PySem.W.Frag) (F H:Hp) (v:V):U→Prop
 | .t d=>Rep F v d
 | .m o=>∃a,v= .ref a∧F a=none∧At F H a o
 | .b o=>∃a,v= .ref a∧F a=none∧At F H a o
 | .v _=>False
 | .s ns=>∃a,v= .ref a∧Ll K H a ns
structure Ext (M:Addr→Prop) (F H F' H':Hp):Prop where
 le:∀b o,F b=some o→F' b=some o
 keep:∀b o,H b=some o→¬M b→H' b=some o
 kX:∀b o,H b=some o→¬M b→F b=none→F' b=none
 there:∀b o,H b=some o→∃o',H' b=some o'
 kW:∀b o u,H b=some (.kW o u)→H' b=some (.kW o u)
structure Base where
 P:List (Option Addr)
 F:Hp
 H:Hp
noncomputable def Base.M (B:Base) (a:Addr):Prop:=some a∈B.P
structure Rel (K:PySem.W.Frag) (B:Base) (S:SS) (σ:St) (F H:Hp):Prop where
 sub:Sub F H
 len:S.length=σ.length
 rep:∀(i:Nat) u,S[i]? =some (some u)→∃v,σ[i]? =some (some v)∧yK K F H v u
 EM:∀(i j:Nat) u w a,S[i]? =some (some u)→g7 u=true→S[j]? =some (some w)→g7 w=true→σ[i]? =some (some (.ref a))→σ[j]? =some (some (.ref a))→i=j
 own:∀(i:Nat) o a,S[i]? =some (some (.m o))→σ[i]? =some (some (.ref a))→B.H a=none
 bor:∀(i:Nat) o a,S[i]? =some (some (.b o))→σ[i]? =some (some (.ref a))→B.M a
 par:∀(i:Nat) a,B.P[i]? =some (some a)→σ[i]? =some (some (.ref a))∧∃o,S[i]? =some (some (.b o))
 ext:Ext B.M B.F B.H F H
structure Step (S S':SS) (σ:St) (F H F' H':Hp):Prop where
 ext:Ext (eO S σ) F H F' H'
 mu:∀a,eO S' σ a→eO S σ a
 slots:∀(i:Nat) u,S[i]? =some (some u)→∃u',S'[i]? =some (some u')
theorem Ext.refl (M:Addr→Prop) (F H:Hp):Ext M F H F H:=⟨fun _ _ h=>h,fun _ _ h _=>h,fun _ _ _ _ h=>h,fun _ o h=>⟨o,h⟩,fun _ _ _ h=>h⟩
theorem Ext.trans {M M':Addr→Prop}{F H F1 H1 F2 H2:Hp}(x:Ext M F H F1 H1) (y:Ext M' F1 H1 F2 H2) (s:∀b,M' b→M b∨H b=none):Ext M F H F2 H2 where
 le:=fun b o h=>y.le b o (x.le b o h)
 keep:=fun b o h n=>y.keep b o (x.keep b o h n) fun q=>(s b q).elim n fun z=>by rw[h] at z;cases z
 kX:=fun b o h n f=>y.kX b o (x.keep b o h n) (fun q=>(s b q).elim n fun z=>by rw[h] at z;cases z) (x.kX b o h n f)
 there:=fun b o h=>let⟨o',h'⟩:=x.there b o h;y.there b o' h'
 kW:=fun b o u h=>y.kW b o u (x.kW b o u h)
theorem Step.refl (S:SS) (σ:St) (F H:Hp):Step S S σ F H F H:=⟨Ext.refl _ _ _,fun _ h=>h,fun _ u h=>⟨u,h⟩⟩
theorem Step.trans {S S1 S2:SS}{σ:St}{F H F1 H1 F2 H2:Hp}(x:Step S S1 σ F H F1 H1) (y:Step S1 S2 σ F1 H1 F2 H2):Step S S2 σ F H F2 H2:=
 ⟨x.ext.trans y.ext fun b q=>.inl (x.mu b q),fun a q=>x.mu a (y.mu a q),fun i u h=>let⟨u',h'⟩:=x.slots i u h;y.slots i u' h'⟩
mutual
theorem Rep.le {F F':Hp}(g:∀b o,F b=some o→F' b=some o):∀{v:V}{d:D},Rep F v d→Rep F' v d
 | _,_,.cW=>.cW
 | _,_,.bl b=>.bl b
 | _,_,.int i=>.int i
 | _,_,.str z=>.str z
 | _,_,.tup e r=>.tup (g _ _ e) (bW.le g r)
 | _,_,.lst e r=>.lst (g _ _ e) (bW.le g r)
theorem bW.le {F F':Hp}(g:∀b o,F b=some o→F' b=some o):∀{vs:List V}{ds:List D},bW F vs ds→bW F' vs ds
 | _,_,.nil=>.nil
 | _,_,.cons r rs=>.cons (Rep.le g r) (bW.le g rs)
end
theorem BK {κ:Type}{F F':Hp}(g:∀b o,F b=some o→F' b=some o){ws:List (κ×V)}{kvs:List (κ×D)}(r:Paired (jk F) ws kvs):Paired (jk F') ws kvs:=
 Paired.Fq r fun _ _ z=>⟨z.1,z.2.le g⟩
theorem At.le {F F' H H':Hp}{a:Addr}(g:∀b o,F b=some o→F' b=some o) (k:∀o,H a=some o→H' a=some o):∀{o:MO},At F H a o→At F' H' a o
 | .lst _,⟨vs,e,r⟩=>⟨vs,k _ e,r.le g⟩
 | .dct _,⟨ws,e,r⟩=>⟨ws,k _ e,BK g r⟩
 | .yJ _,⟨ws,e,r⟩=>⟨ws,k _ e,BK g r⟩
theorem At.has {F H:Hp}{a:Addr}:∀{o:MO},At F H a o→∃u,H a=some u
 | .lst _,⟨_,e,_⟩=>⟨_,e⟩
 | .dct _,⟨_,e,_⟩=>⟨_,e⟩
 | .yJ _,⟨_,e,_⟩=>⟨_,e⟩
noncomputable def mG (K:PySem.W.Frag) (B:Base) (S:SS) (σ:St) (H0 F H:Hp) (v:V):U→Prop
 | .t d=>Rep F v d
 | .m o=>∃a,v= .ref a∧H0 a=none∧F a=none∧At F H a o∧¬eO S σ a∧B.H a=none
 | .v i=>σ[i]? =some (some v)∧∃u,S[i]? =some (some u)
 | .b _=>False
 | .s ns=>∃a,v= .ref a∧Ll K H a ns
theorem PE.imp {X:Cx}{e:Expr}{t t':TE}(h:PE X e t) (k:∀σ H Q,t' σ H Q→t σ H Q):PE X e t':=fun pins s σ H Q I q=>h pins s σ H Q I (k σ H Q q)
theorem PT.imp {X:Cx}{e:Expr}{t t':TT}(h:PT X e t) (k:∀σ H Q,t' σ H Q→t σ H Q):PT X e t':=fun pins s σ H Q I q=>h pins s σ H Q I (k σ H Q q)
theorem PW.imp {X:Cx}{e:Expr}{t t':TT}(h:PW X e t) (k:∀σ H Q,t' σ H Q→t σ H Q):PW X e t':=fun w pins s σ H Q I q=>h w pins s σ H Q I (k σ H Q q)
theorem PA.imp {X:Cx}{e:List Expr}{t t':TA}(h:PA X e t) (k:∀σ H Q,t' σ H Q→t σ H Q):PA X e t':=fun p pins s σ H Q I q=>h p pins s σ H Q I (k σ H Q q)
theorem PS.imp {X:Cx}{e:Stmt}{t t':TS}(h:PS X e t) (k:∀D σ H,t' D σ H→t D σ H):PS X e t':=fun pins s σ H Q I q=>h pins s σ H Q I (k Q σ H q)
theorem C6.imp {X:Cx}{e:List Stmt}{t t':TS}(h:C6 X e t) (k:∀D σ H,t' D σ H→t D σ H):C6 X e t':=fun pins s σ H Q I q=>h pins s σ H Q I (k Q σ H q)
theorem PE.orelse {X:Cx}{e:Expr}{t:TE}(h:∀σ H Q,t σ H Q→∃t',PE X e t'∧t' σ H Q):PE X e t:=fun pins s σ H Q I q=>let⟨_,h1,h2⟩:=h σ H Q q;h1 pins s σ H Q I h2
theorem PS.orelse {X:Cx}{e:Stmt}{t:TS}(h:∀D σ H,t D σ H→∃t',PS X e t'∧t' D σ H):PS X e t:=fun pins s σ H Q I q=>let⟨_,h1,h2⟩:=h Q σ H q;h1 pins s σ H Q I h2
noncomputable abbrev GE:=SS→Option (U×SS)
noncomputable abbrev GD:=SS→Option (D×SS)
noncomputable abbrev GT:=SS→Option (Bool×SS)
noncomputable abbrev GA:=SS→Option (List D×SS)
inductive Out where
 | nx (S:SS) | rt (u:U) (S:SS) | bk (S:SS) | ct (S:SS)
noncomputable abbrev GS:=SS→Option Out
noncomputable def tE (K:PySem.W.Frag) (B:Base) (g:GE):TE:=fun σ H Q=>∃S F u S',Rel K B S σ F H∧g S=some (u,S')∧∀v F' H',Rel K B S' σ F' H'→Step S S' σ F H F' H'→mG K B S' σ H F' H' v u→Q v H'
noncomputable def tD (K:PySem.W.Frag) (B:Base) (g:GD):TE:=fun σ H Q=>∃S F d S',Rel K B S σ F H∧g S=some (d,S')∧∀v F' H',Rel K B S' σ F' H'→Step S S' σ F H F' H'→Rep F' v d→Q v H'
noncomputable def tQ (K:PySem.W.Frag) (B:Base) (g:GT):TT:=fun σ H Q=>∃S F b S',Rel K B S σ F H∧g S=some (b,S')∧∀F' H',Rel K B S' σ F' H'→Step S S' σ F H F' H'→Q b H'
noncomputable def tAs (K:PySem.W.Frag) (B:Base) (g:GA):TA:=fun σ H Q=>∃S F ds S',Rel K B S σ F H∧g S=some (ds,S')∧∀vs F' H',Rel K B S' σ F' H'→Step S S' σ F H F' H'→bW F' vs ds→Q vs H'
noncomputable def EN (K:PySem.W.Frag) (B:Base) (F:Hp) (D:Ends):Out→Prop
 | .nx S=>∀σ' F' H',Rel K B S σ' F' H'→(∀b o,F b=some o→F' b=some o)→D.nx σ' H'
 | .bk S=>∀σ' F' H',Rel K B S σ' F' H'→(∀b o,F b=some o→F' b=some o)→D.bk σ' H'
 | .ct S=>∀σ' F' H',Rel K B S σ' F' H'→(∀b o,F b=some o→F' b=some o)→D.ct σ' H'
 | .rt u S=>∀v σ' F' H',Rel K B S σ' F' H'→(∀b o,F b=some o→F' b=some o)→mG K B S σ' B.H F' H' v u→D.rt v H'
noncomputable def tO (K:PySem.W.Frag) (B:Base) (g:GS):TS:=fun D σ H=>∃S F o,Rel K B S σ F H∧g S=some o∧EN K B F D o
structure JE (X:Cx) (e:Expr) (g:GE):Prop where
 h:∀B,PE X e (tE X.K B g)
structure JD (X:Cx) (e:Expr) (g:GD):Prop where
 h:∀B,PE X e (tD X.K B g)
structure JT (X:Cx) (e:Expr) (g:GT):Prop where
 h:∀B,PT X e (tQ X.K B g)
structure JW (X:Cx) (e:Expr) (g:GT):Prop where
 h:∀B,PW X e (tQ X.K B g)
structure JA (X:Cx) (es:List Expr) (g:GA):Prop where
 h:∀B,PA X es (tAs X.K B g)
structure JS (X:Cx) (st:Stmt) (g:GS):Prop where
 h:∀B,PS X st (tO X.K B g)
structure JB (X:Cx) (st:List Stmt) (g:GS):Prop where
 h:∀B,C6 X st (tO X.K B g)
noncomputable def fz:U→SS→Option (D×SS)
 | .t d,S=>some (d,S)
 | .m (.lst ds),S=>some (.lst ds,S)
 | .v i,S=>match S[i]? with
  | some (some (.t d))=>some (d,S)
  | some (some (.m (.lst ds)))=>some (.lst ds,S.set i (some (.t (.lst ds))))
  | _=>none
 | _,_=>none
theorem get_set {α:Type}{l:List α}{i j:Nat}{x y:α}(h:(l.set i x)[j]? =some y):(i=j∧x=y∧i < l.length)∨(i≠j∧l[j]? =some y):=by
 by_cases e:i=j
 ·subst e
  by_cases hl:i < l.length
  ·rw[List.getElem?_set_self hl] at h;exact .inl ⟨rfl,Option.some.inj h,hl⟩
  ·rw[List.getElem?_eq_none (by simpa using hl)] at h;cases h
 ·rw[List.getElem?_set_ne e] at h;exact .inr ⟨e,h⟩
theorem Sub.kW {F H:Hp}{a:Addr}{o:HO}(s:Sub F H) (h:H a=some o):Sub (upd F a o) H:=fun b u e=>by
 by_cases hb:b=a
 ·subst hb;rw[bJ] at e;cases e;exact h
 ·rw[bI hb] at e;exact s b u e
theorem Sub.fresh {F H:Hp}{p:Addr}(s:Sub F H) (h:H p=Option.none):F p=Option.none:=by
 cases e:F p with
 | none=>rfl
 | some o=>have q:=s p o e;rw[h] at q;cases q
theorem kY {F:Hp}{a:Addr}{o:HO}(h:F a=none):∀b u,F b=some u→upd F a o b=some u:=fun b u e=>by rw[bI (cP e h)];exact e
theorem Ll.le {K:PySem.W.Frag}{H H':Hp}{a:Addr}{ns:List Int}(k:∀b o u,H b=some (.kW o u)→H' b=some (.kW o u)):Ll K H a ns→Ll K H' a ns
 | .inl ⟨o,h⟩=>.inl ⟨o,k _ _ _ h⟩
 | .inr h=>.inr h
theorem yK.le {K:PySem.W.Frag}{F F' H H':Hp}{v:V}(g:∀b o,F b=some o→F' b=some o) (kf:∀b o u,H b=some (.kW o u)→H' b=some (.kW o u)):∀{u:U},yK K F H v u→(∀a,g7 u=true→v= .ref a→(∀o,H a=some o→H' a=some o)∧F' a=none)→yK K F' H' v u
 | .t _,h,_=>Rep.le g h
 | .m _,⟨a,e,_,h⟩,k=>let⟨k1,k2⟩:=k a rfl e;⟨a,e,k2,h.le g k1⟩
 | .b _,⟨a,e,_,h⟩,k=>let⟨k1,k2⟩:=k a rfl e;⟨a,e,k2,h.le g k1⟩
 | .v _,h,_=>h
 | .s _,⟨a,e,h⟩,_=>⟨a,e,h.le kf⟩
theorem IG {K : PySem.W.Frag} {B : Base} {S S' : SS} {σ : St} {H0 F0 F H : Hp} {v : V} {u : U} {d : D} {S0 : SS} (R : Rel K B S σ F H) (st : Step S0 S σ F0 H0 F H) (r : mG K B S σ H0 F H v u) (e : fz u S = some (d, S')) :
    ∃F',Rel K B S' σ F' H∧Step S0 S' σ F0 H0 F' H∧Rep F' v d:=by
  cases u with
  | t d'=>cases e;exact⟨F,R,st,r⟩
  | b o=>cases r
  | s o=>cases e
  | m o =>
    cases o with
    | dct kvs=>cases e
    | yJ kvs=>cases e
    | lst ds=>
      cases e
      obtain⟨a,rfl,h0,hf,⟨vs,ha,rs⟩,nm,hB⟩:=r
      have g:=kY (o:=.lst vs) hf
      refine⟨upd F a (.lst vs),⟨R.sub.kW ha,R.len,fun i u h=>?_,R.EM,R.own,R.bor,R.par,?_⟩,⟨⟨fun b o h=>g b o (st.ext.le b o h),st.ext.keep,fun b o h n f=>?_,st.ext.there,st.ext.kW⟩,st.mu,st.slots⟩,.lst bJ (rs.le g)⟩
      · obtain⟨w,h1,h2⟩:=R.rep i u h
        refine⟨w,h1,h2.le g (fun _ _ _ z=>z) fun c hm hc=>⟨fun o q=>q,?_⟩⟩
        have hca:c≠a:=fun z=>nm ⟨i,u,h,hm,by rw[h1,hc,z]⟩
        rw[bI hca]
        cases u with
        | m o=>obtain⟨c',e',f',_⟩:=h2;rw[hc] at e';cases e';exact f'
        | b o=>obtain⟨c',e',f',_⟩:=h2;rw[hc] at e';cases e';exact f'
        | t d=>cases hm
        | v j=>cases hm
        | s j=>cases hm
      · exact⟨fun b o h=>g b o (R.ext.le b o h),R.ext.keep,fun b o h n f=>by rw[bI (fun z=>by rw[z,hB] at h;cases h)];exact R.ext.kX b o h n f,R.ext.there,R.ext.kW⟩
      · rw[bI (fun z=>by rw[z,h0] at h;cases h)]
        exact st.ext.kX b o h n f
  | v i =>
    obtain⟨hv,u,hu⟩:=r
    unfold fz at e
    simp only[hu] at e
    cases u with
    | t d'=>
      cases e
      obtain⟨w,h1,h2⟩:=R.rep i _ hu
      rw[hv] at h1
      cases h1
      exact⟨F,R,st,h2⟩
    | b o=>cases e
    | v j=>cases e
    | s j=>cases e
    | m o =>
      cases o with
      | dct kvs=>cases e
      | yJ kvs=>cases e
      | lst ds =>
        cases e
        obtain⟨w,h1,a,rfl,hf,⟨vs,ha,rs⟩⟩:=R.rep i _ hu
        have hiv:σ[i]? =some (some (.ref a)):=h1
        rw[hv] at h1
        cases h1
        have hB:=R.own i _ a hu hiv
        have g:=kY (o:=.lst vs) hf
        have back:∀j w,(S.set i (some (.t (.lst ds))))[j]? =some (some w)→g7 w=true→i≠j∧S[j]? =some (some w):=fun j w h hm=>by
          rcases get_set h with⟨_,q,_⟩ | q
          · cases q;cases hm
          · exact q
        have mu:∀c,eO (S.set i (some (.t (.lst ds)))) σ c→eO S σ c:=fun c ⟨j,w,h,hm,z⟩=>⟨j,w,(back j w h hm).2,hm,z⟩
        refine⟨upd F a (.lst vs),⟨R.sub.kW ha,by rw[List.length_set];exact R.len,fun j u h=>?_,fun j k u w c h1 m1 h2 m2=>R.EM j k u w c (back j u h1 m1).2 m1 (back k w h2 m2).2 m2,fun j o c h=>R.own j o c (back j _ h rfl).2,fun j o c h=>R.bor j o c (back j _ h rfl).2,fun j c h=>?_,?_⟩,
          ⟨⟨fun b o h=>g b o (st.ext.le b o h),st.ext.keep,fun b o h n f=>?_,st.ext.there,st.ext.kW⟩,fun c q=>st.mu c (mu c q),fun j u h=>?_⟩,.lst bJ (rs.le g)⟩
        · rcases get_set h with⟨rfl,q,_⟩ | ⟨ne,q⟩
          · cases q
            exact⟨.ref a,hiv,.lst bJ (rs.le g)⟩
          · obtain⟨w,h1,h2⟩:=R.rep j u q
            refine⟨w,h1,h2.le g (fun _ _ _ z=>z) fun c hm hc=>⟨fun o q=>q,?_⟩⟩
            have hca:c≠a:=fun z=>ne (R.EM i j _ u a hu rfl q hm hiv (by rw[h1,hc,z]))
            rw[bI hca]
            cases u with
            | m o=>obtain⟨c',e',f',_⟩:=h2;rw[hc] at e';cases e';exact f'
            | b o=>obtain⟨c',e',f',_⟩:=h2;rw[hc] at e';cases e';exact f'
            | t d=>cases hm
            | v j=>cases hm
            | s j=>cases hm
        · obtain⟨h1,o,h2⟩:=R.par j c h
          refine⟨h1,o,?_⟩
          have ne:i≠j:=fun z=>by subst z;rw[hu] at h2;cases h2
          rw[List.getElem?_set_ne ne]
          exact h2
        · exact⟨fun b o h=>g b o (R.ext.le b o h),R.ext.keep,fun b o h n f=>by rw[bI (fun z=>by rw[z,hB] at h;cases h)];exact R.ext.kX b o h n f,R.ext.there,R.ext.kW⟩
        · have hb:b≠a:=fun z=>n (st.mu b ⟨i,_,hu,rfl,by rw[z];exact hiv⟩)
          rw[bI hb]
          exact st.ext.kX b o h n f
        · obtain⟨u',h'⟩:=st.slots j u h
          by_cases hj:i=j
          · subst hj
            exact⟨.t (.lst ds),List.getElem?_set_self (List.getElem?_eq_some_iff.mp h').1⟩
          · exact⟨u',by rw[List.getElem?_set_ne hj];exact h'⟩
noncomputable def eF (g:GE):GD:=fun S=>(g S).bind fun p=>fz p.1 p.2
theorem JE.d {X:Cx}{e:Expr}{g:GE}(h:JE X e g):JD X e (eF g):=⟨fun B=>(h.h B).imp fun σ H Q ⟨S,F,d,S',R,hg,q⟩=>by
 unfold eF at hg
 cases e1:g S with
 | none=>rw[e1] at hg;cases hg
 | some p=>
  obtain⟨u,S1⟩:=p
  rw[e1] at hg
  refine⟨S,F,u,S1,R,e1,fun v F1 H1 R1 st1 r1=>?_⟩
  obtain⟨F2,R2,st2,r2⟩:=IG R1 st1 r1 hg
  exact q v F2 H1 R2 st2 r2⟩
noncomputable def eT (g:GD):GE:=fun S=>(g S).map fun p=>(.t p.1,p.2)
theorem JD.e {X:Cx}{e:Expr}{g:GD}(h:JD X e g):JE X e (eT g):=⟨fun B=>(h.h B).imp fun σ H Q ⟨S,F,u,S',R,hg,q⟩=>by
 unfold eT at hg
 cases e1:g S with
 | none=>rw[e1] at hg;cases hg
 | some p=>
  obtain⟨d,S1⟩:=p
  rw[e1] at hg
  cases hg
  exact⟨S,F,d,S1,R,e1,fun v F1 H1 R1 st1 r1=>q v F1 H1 R1 st1 r1⟩⟩
end L2
end
section
set_option Elab.async false
set_option linter.all false
set_option maxRecDepth 100000
namespace L2
open PySem PySem.Spec PyProof.Rows
structure iO (F H F' H':Hp):Prop where
 le:∀b o,F b=some o→F' b=some o
 same:∀b o,H b=some o→H' b=some o
 kX:∀b o,H b=some o→F b=none→F' b=none
theorem iO.refl (F H:Hp):iO F H F H:=⟨fun _ _ h=>h,fun _ _ h=>h,fun _ _ _ h=>h⟩
theorem iO.trans {F H F1 H1 F2 H2:Hp}(x:iO F H F1 H1) (y:iO F1 H1 F2 H2):iO F H F2 H2:=
 ⟨fun b o h=>y.le b o (x.le b o h),fun b o h=>y.same b o (x.same b o h),fun b o h f=>y.kX b o (x.same b o h) (x.kX b o h f)⟩
theorem iO.step {S:SS}{σ:St}{F H F' H':Hp}(n:iO F H F' H'):Step S S σ F H F' H':=
 ⟨⟨n.le,fun b o h _=>n.same b o h,fun b o h _ f=>n.kX b o h f,fun b o h=>⟨o,n.same b o h⟩,fun b o u h=>n.same b _ h⟩,fun _ h=>h,fun _ u h=>⟨u,h⟩⟩
theorem iO.obj {F H:Hp}{p:Addr}(h:H p=none) (o:HO):iO F H F (upd H p o):=
 ⟨fun _ _ q=>q,fun b u q=>by rw[bI (cP q h)];exact q,fun _ _ _ q=>q⟩
theorem Rd.same {H H':Hp}{a:Addr}{u:HO}(k:∀b o,H b=some o→H' b=some o):Rd H a u→Rd H' a u
 | .inl h=>.inl (k _ _ h)
 | .inr ⟨o,h⟩=>.inr ⟨o,k _ _ h⟩
theorem Sub.same {F H H':Hp}(s:Sub F H) (k:∀b o,H b=some o→H' b=some o):Sub F H':=fun a o e=>k a o (s a o e)
theorem Sub.wV {F H:Hp}{p:Addr}{o:HO}(s:Sub F H) (h:H p=none):Sub (upd F p o) (upd H p o):=fun b u e=>by
 by_cases hb:b=p
 ·subst hb;rw[bJ] at e;cases e;exact bJ
 ·rw[bI hb] at e;have q:=s b u e;rw[bI (cP q h)];exact q
theorem iO.root {F H:Hp}{p:Addr}(s:Sub F H) (h:H p=none) (o:HO):iO F H (upd F p o) (upd H p o):=
 ⟨kY (s.fresh h),fun b u q=>by rw[bI (cP q h)];exact q,fun b u q f=>by rw[bI (cP q h)];exact f⟩
theorem Rel.has {K:PySem.W.Frag}{B:Base}{S:SS}{σ:St}{F H:Hp}(R:Rel K B S σ F H){a:Addr}(m:eO S σ a):∃o,H a=some o:=by
 obtain⟨i,u,h,hm,hv⟩:=m
 obtain⟨v,h1,h2⟩:=R.rep i u h
 rw[hv] at h1
 cases h1
 cases u with
 | t d=>cases hm
 | v j=>cases hm
 | s j=>cases hm
 | m o=>obtain⟨b,e,_,h⟩:=h2;cases e;exact h.has
 | b o=>obtain⟨b,e,_,h⟩:=h2;cases e;exact h.has
theorem Rel.new {K:PySem.W.Frag}{B:Base}{S:SS}{σ:St}{F H F' H':Hp}(R:Rel K B S σ F H) (n:iO F H F' H') (s:Sub F' H'):Rel K B S σ F' H' where
 sub:=s
 len:=R.len
 rep:=fun i u h=>by
  obtain⟨v,h1,h2⟩:=R.rep i u h
  refine⟨v,h1,h2.le n.le (fun b o u z=>n.same b _ z) fun a hm ha=>⟨fun o q=>n.same a o q,?_⟩⟩
  obtain⟨o,ho⟩:=R.has ⟨i,u,h,hm,by rw[h1,ha]⟩
  refine n.kX a o ho ?_
  cases u with
  | t d=>cases hm
  | v j=>cases hm
  | s j=>cases hm
  | m o=>obtain⟨b,e,f,_⟩:=h2;rw[ha] at e;cases e;exact f
  | b o=>obtain⟨b,e,f,_⟩:=h2;rw[ha] at e;cases e;exact f
 EM:=R.EM
 own:=R.own
 bor:=R.bor
 par:=R.par
 ext:=⟨fun b o h=>n.le b o (R.ext.le b o h),fun b o h m=>n.same b o (R.ext.keep b o h m),fun b o h m f=>n.kX b o (R.ext.keep b o h m) (R.ext.kX b o h m f),fun b o h=>let⟨o',h'⟩:=R.ext.there b o h;⟨o',n.same b o' h'⟩,fun b o u h=>n.same b _ (R.ext.kW b o u h)⟩
noncomputable def Dn (H0 F H:Hp) (v:V):U→Prop
 | .t d=>Rep F v d
 | .m o=>∃a,v= .ref a∧H0 a=none∧F a=none∧At F H a o
 | _=>False
theorem none_of {H H':Hp}{a:Addr}(t:∀b o,H b=some o→∃o',H' b=some o') (h:H' a=none):H a=none:=by
 cases e:H a with
 | none=>rfl
 | some o=>obtain⟨o',h'⟩:=t a o e;rw[h] at h';cases h'
theorem Dn.FP {K:PySem.W.Frag}{B:Base}{S S0:SS}{σ:St}{H0 F0 F1 H1 F H:Hp}{v:V}{u:U}(R:Rel K B S σ F1 H1) (st:Step S0 S σ F0 H0 F1 H1) (r:Dn H1 F H v u):mG K B S σ H0 F H v u:=by
 cases u with
 | t d=>exact r
 | b o=>cases r
 | v i=>cases r
 | s i=>cases r
 | m o=>
  obtain⟨a,e,h0,f,h⟩:=r
  refine⟨a,e,none_of st.ext.there h0,f,h,fun m=>?_,none_of R.ext.there h0⟩
  obtain⟨o,ho⟩:=R.has m
  rw[h0] at ho
  cases ho
noncomputable def rP (f:List D→Option U):List V→Hp→VK→Prop:=fun xs H Q=>∃F ds u,Sub F H∧bW F xs ds∧f ds=some u∧∀v F' H',iO F H F' H'→Sub F' H'→Dn H F' H' v u→Q v H'
noncomputable def su:D→Bool
 | .tup _=>false
 | .lst _=>false
 | _=>true
noncomputable def toV:D→V
 | .bl b=>.bl b
 | .int i=>.int i
 | .str z=>.str z
 | _=>.cW
theorem BL {F:Hp}:∀{d:D},su d=true→Rep F (toV d) d
 | .cW,_=>.cW
 | .bl b,_=>.bl b
 | .int i,_=>.int i
 | .str z,_=>.str z
 | .tup _,h=>by cases h
 | .lst _,h=>by cases h
noncomputable def aq (i:Nat):GE:=fun S=>match S[i]? with
 | some (some (.t d))=>some (.t d,S)
 | some (some (.s d))=>some (.s d,S)
 | some (some _)=>some (.v i,S)
 | _=>none
noncomputable def eC (d:D):GD:=fun S=>some (d,S)
noncomputable def ak:GA:=fun S=>some ([],S)
noncomputable def aa (g:GD) (ga:GA):GA:=fun S=>(g S).bind fun p=>(ga p.2).map fun q=>(p.1 :: q.1,q.2)
noncomputable def eP (f:List D→Option U) (ga:GA):GE:=fun S=>(ga S).bind fun p=>(f p.1).map fun u=>(u,p.2)
section
variable {X:Cx}{a b c e:Expr}{es:List Expr}{pos p p2:Pos}{x:Str}{g ga gb gc:GD}{gA:GA}{f f':List D→Option U}
theorem ao (i:Nat) (hN:X.N[i]? =some x:=by rfl) (hv:HC X.env.scope x:=by first | exact Or.inl rfl | exact Or.inr (Or.inl rfl) | exact Or.inr (Or.inr rfl)) (hd:(x == ("__debug__":Str))=false:=by decide)
  (hcd:(x == ("__classdict__":Str))=false:=by decide):JE X (.Name x pos) (aq i):=⟨fun B=>(jD hN hv hd hcd).imp fun σ H Q ⟨S,F,u,S',R,hg,q⟩=>by
 unfold aq at hg
 cases hs:S[i]? with
 | none=>rw[hs] at hg;cases hg
 | some o=>
  cases o with
  | none=>rw[hs] at hg;cases hg
  | some w=>
   rw[hs] at hg
   obtain⟨v,h1,h2⟩:=R.rep i w hs
   refine⟨v,h1,?_⟩
   cases w with
   | t d=>cases hg;exact q v F H R (Step.refl ..) h2
   | m o=>cases hg;exact q v F H R (Step.refl ..) ⟨h1,_,hs⟩
   | b o=>cases hg;exact q v F H R (Step.refl ..) ⟨h1,_,hs⟩
   | s j=>cases hg;exact q v F H R (Step.refl ..) h2
   | v j=>cases hg;exact q v F H R (Step.refl ..) ⟨h1,_,hs⟩⟩
theorem FQ {d:D}(hf:su d=true) (h:PE X e (tC (toV d))):JD X e (eC d):=⟨fun B=>h.imp fun σ H Q ⟨S,F,u,S',R,hg,q⟩=>by
 cases hg
 exact q _ F H R (Step.refl ..) (BL hf)⟩
theorem au {i j}:JD X (.Constant (.int i) j pos) (eC (.int i)):=FQ rfl Nd
theorem gT {i j}:JD X (.Constant (.bool i) j pos) (eC (.bl i)):=FQ rfl QB
theorem N4 {j}:JD X (.Constant .none j pos) (eC .cW):=FQ rfl Nf
theorem aC {i j}:JD X (.Constant (.str i) j pos) (eC (.str i)):=FQ rfl HN
theorem aA:JA X [] ak:=⟨fun B=>Ai.imp fun σ H Q ⟨S,F,u,S',R,hg,q⟩=>by
 cases hg
 exact q [] F H R (Step.refl ..) .nil⟩
theorem az {α β:Type}{o:Option α}{f:α→Option β}{y:β}(h:o.bind f=some y):∃z,o=some z∧f z=some y:=by
 cases o with
 | none=>cases h
 | some z=>exact⟨z,rfl,h⟩
theorem aG {α β:Type}{o:Option α}{f:α→β}{y:β}(h:o.map f=some y):∃z,o=some z∧f z=y:=by
 cases o with
 | none=>cases h
 | some z=>exact⟨z,rfl,Option.some.inj h⟩
theorem aj (h:JD X e g) (hr:JA X es gA) (hs:starEach (e :: es) X.env=(false,eval e X.env) :: starEach es X.env:=by rfl):JA X (e :: es) (aa g gA):=
 ⟨fun B=>(q8 (h.h B) (hr.h B) hs).imp fun σ H Q ⟨S,F,u,S',R,hg,q⟩=>by
 obtain⟨⟨d,S1⟩,h1,hg⟩:=az hg
 obtain⟨⟨ds,S2⟩,h2,hg⟩:=aG hg
 cases hg
 exact⟨S,F,d,S1,R,h1,fun v F1 H1 R1 st1 r1=>⟨S1,F1,ds,S2,R1,h2,fun vs F2 H2 R2 st2 r2=>q _ F2 H2 R2 (st1.trans st2) (.cons (r1.le st2.ext.le) r2)⟩⟩⟩
theorem oG {K:PySem.W.Frag}{B:Base}{σ:St}{H:Hp}{Q:VK}{r:List V→Hp→VK→Prop}(hr:∀vs H1 Q1,rP f vs H1 Q1→r vs H1 Q1) (h:tE K B (eP f gA) σ H Q):tAs K B gA σ H fun vs H1=>r vs H1 Q:=by
 obtain⟨S,F,u,S',R,hg,q⟩:=h
 obtain⟨⟨ds,S1⟩,h1,hg⟩:=az hg
 obtain⟨u',h2,hg⟩:=aG hg
 cases hg
 exact⟨S,F,ds,S1,R,h1,fun vs F1 H1 R1 st1 r1=>hr _ _ _ ⟨F1,ds,_,R1.sub,r1,h2,fun v F2 H2 n s2 r2=>q v F2 H2 (R1.new n s2) (st1.trans n.step) (r2.FP R1 st1)⟩⟩
theorem fV {id:String}(hc:gY X (.builtin id) (rP f)) (hg:Gl X x) (hm:X.mg x=none) (hv:bootBuiltins x=some (.builtin id)) (ha:JA X (e :: es) gA) (hn:x≠"__name__":=by decide) (hdb:(x == ("__debug__":Str))=false:=by decide)
  (he:starEach (e :: es) X.env=(false,eval e X.env) :: starEach es X.env:=by rfl) (hpl:(backTo pos (starEach es X.env)).any (·.1)=false:=by rfl):JE X (.Call (.Name x p) (e :: es) [] pos) (eP f gA):=
 ⟨fun B=>(pX hc hg hm hv (ha.h B) hn hdb he hpl).imp fun σ H Q h=>oG (fun _ _ _ z=>z) h⟩
theorem lJ {T:String}(hc:gY X (.type T) (rP f)) (hg:Gl X x) (hm:X.mg x=none) (hv:bootBuiltins x=some (.type T)) (ha:JA X (e :: es) gA) (hn:x≠"__name__":=by decide) (hdb:(x == ("__debug__":Str))=false:=by decide)
  (he:starEach (e :: es) X.env=(false,eval e X.env) :: starEach es X.env:=by rfl) (hpl:(backTo pos (starEach es X.env)).any (·.1)=false:=by rfl):JE X (.Call (.Name x p) (e :: es) [] pos) (eP f gA):=
 ⟨fun B=>(FE hc hg hm hv (ha.h B) hn hdb he hpl).imp fun σ H Q h=>oG (fun _ _ _ z=>z) h⟩
noncomputable abbrev wW (X:Cx) (o:Value→Value→Sem Value) (f:List D→Option U):Prop:=uN X o (fun x y H Q=>rP f [x,y] H Q)
theorem tX {K:PySem.W.Frag}{B:Base}{σ:St}{H:Hp}{Q:VK}(h:tE K B (eP f (aa ga (aa gb ak))) σ H Q):Ny (fun x y H Q=>rP f [x,y] H Q) (tD K B ga) (tD K B gb) σ H Q:=by
 obtain⟨S,F,u,S',R,hg,q⟩:=h
 obtain⟨⟨ds,S1⟩,h1,hg⟩:=az hg
 obtain⟨u',h2,hg⟩:=aG hg
 cases hg
 obtain⟨⟨d1,T1⟩,k1,h1⟩:=az h1
 obtain⟨⟨ds2,T2⟩,k2,h1⟩:=aG h1
 cases h1
 obtain⟨⟨d2,T3⟩,k3,k2⟩:=az k2
 obtain⟨⟨ds3,T4⟩,k4,k2⟩:=aG k2
 cases k2
 cases k4
 exact⟨S,F,d1,T1,R,k1,fun v1 F1 H1 R1 st1 r1=>⟨T1,F1,d2,_,R1,k3,fun v2 F2 H2 R2 st2 r2=>⟨F2,_,_,R2.sub,.cons (r1.le st2.ext.le) (.cons r2 .nil),h2,fun v F3 H3 n s3 r3=>q v F3 H3 (R2.new n s3) ((st1.trans st2).trans n.step) (r3.FP R2 (st1.trans st2))⟩⟩⟩
theorem bX {op:Operator}(ho:wW X (binaryOp op) f) (ha:JD X a ga) (hb:JD X b gb):JE X (.BinOp a op b pos) (eP f (aa ga (aa gb ak))):=
 ⟨fun B=>(QN ho (ha.h B) (hb.h B)).imp fun σ H Q h=>tX h⟩
theorem gB {op:CmpOp}(ho:wW X (compareOp op) f) (ha:JD X a ga) (hb:JD X b gb) (hm:behindInMarks op b=false:=by first | exact C9 _ | rfl):JE X (.Compare a [op] [b] pos) (eP f (aa ga (aa gb ak))):=
 ⟨fun B=>(K2 ho (ha.h B) (hb.h B) hm).imp fun σ H Q h=>tX h⟩
theorem Rq {op:UnaryOp}(ho:QM X (unaryOp op) (fun x H Q=>rP f [x] H Q)) (ha:JD X a ga):JE X (.UnaryOp op a pos) (eP f (aa ga ak)):=
 ⟨fun B=>(QO ho (ha.h B)).imp fun σ H Q h=>by
 obtain⟨S,F,u,S',R,hg,q⟩:=h
 obtain⟨⟨ds,S1⟩,h1,hg⟩:=az hg
 obtain⟨u',h2,hg⟩:=aG hg
 cases hg
 obtain⟨⟨d1,T1⟩,k1,h1⟩:=az h1
 obtain⟨⟨ds2,T2⟩,k2,h1⟩:=aG h1
 cases h1
 cases k2
 exact⟨S,F,d1,_,R,k1,fun v1 F1 H1 R1 st1 r1=>⟨F1,_,_,R1.sub,.cons r1 .nil,h2,fun v F3 H3 n s3 r3=>q v F3 H3 (R1.new n s3) (st1.trans n.step) (r3.FP R1 st1)⟩⟩⟩
theorem sy (hr:Ij X (fun x y H Q=>rP f [x,y] H Q)) (ha:JD X a ga) (hb:JD X b gb) (hs:Am b):JE X (.Subscript a b pos) (eP f (aa ga (aa gb ak))):=
 ⟨fun B=>(Ik hr (ha.h B) (hb.h B) hs).imp fun σ H Q h=>tX h⟩
noncomputable def bf:List D→Option U:=fun ds=>if ds.length≤100000 then some (.t (.tup ds)) else none
noncomputable def dg:List D→Option U:=fun ds=>if ds.length≤100000 then some (.m (.lst ds)) else none
theorem lF {n:Nat}(h:n≤100000):n≤sizeLine:=Nat.le_trans h (by decide)
end
end L2
end
section
set_option Elab.async false
set_option linter.all false
set_option maxRecDepth 100000
namespace L2
open PySem PySem.Spec PyProof.Rows
section
variable {X:Cx}{a b c e:Expr}{es:List Expr}{pos p p2:Pos}{x:Str}{g ga gb gc:GD}{gA:GA}{f f':List D→Option U}
theorem aT {x1}(h:JA X es gA):JE X (.Tuple es x1 pos) (eP bf gA):=
 ⟨fun B=>(NJ (h.h B)).imp fun σ H Q z=>oG (r:=fun xs H1 Q=>xs.length≤sizeLine∧∀p,H1 p=none→Q (.ref p) (upd H1 p (.tup xs))) (fun vs H1 Q1 ⟨F,ds,u,sb,rs,hf,q⟩=>by
 unfold bf at hf
 split at hf
 ·rename_i hl
  cases hf
  refine⟨by rw[rs.length];exact lF hl,fun p hp=>?_⟩
  exact q _ _ _ (iO.root sb hp _) (sb.wV hp) (.tup bJ (rs.le (kY (sb.fresh hp))))
 ·cases hf) z⟩
theorem cT (h:JA X es gA):JE X (.List es pos) (eP dg gA):=
 ⟨fun B=>(NK (h.h B)).imp fun σ H Q z=>oG (r:=fun xs H1 Q=>xs.length≤sizeLine∧∀p,H1 p=none→Q (.ref p) (upd H1 p (.lst xs))) (fun vs H1 Q1 ⟨F,ds,u,sb,rs,hf,q⟩=>by
 unfold dg at hf
 split at hf
 ·rename_i hl
  cases hf
  refine⟨by rw[rs.length];exact lF hl,fun p hp=>?_⟩
  exact q _ F _ (iO.obj hp _) (sb.same (iO.obj (F:=F) hp _).same) ⟨p,rfl,hp,sb.fresh hp,vs,bJ,rs⟩
 ·cases hf) z⟩
noncomputable def qB (g:GD):GT:=fun S=>(g S).bind fun p=>match p.1 with
 | .bl k=>some (k,p.2)
 | _=>none
noncomputable def gM (g:GT):GT:=fun S=>(g S).map fun p=>(!p.1,p.2)
noncomputable def gC (g h:GT):GT:=fun S=>(g S).bind fun p=>if p.1 then h p.2 else some (false,p.2)
noncomputable def oH (g h:GT):GT:=fun S=>(g S).bind fun p=>if p.1 then some (true,p.2) else h p.2
noncomputable def eQ (g:GT):GD:=fun S=>(g S).map fun p=>(.bl p.1,p.2)
theorem mK {S:SS}{k:Bool}{S':SS}(h:qB g S=some (k,S')):g S=some (.bl k,S'):=by
 obtain⟨⟨d,S1⟩,h1,h⟩:=az h
 cases d <;> cases h
 exact h1
theorem jG {F:Hp}{v:V}{k:Bool}(r:Rep F v (.bl k)):v= .bl k:=by cases r;rfl
theorem kK {F:Hp}{v:V}{i:Int}(r:Rep F v (.int i)):v= .int i:=by cases r;rfl
theorem EO {F:Hp}{v:V}{i:Str}(r:Rep F v (.str i)):v= .str i:=by cases r;rfl
theorem d7 (h:JD X e g) (he:∀whole,isTrue e X.env whole=(do let v ←whole;standAt e.pos;holding [v] (truthy v)):=by intro _;rfl):JT X e (qB g):=
 ⟨fun B=>(Ni (h.h B) he).imp fun σ H Q ⟨S,F,k,S',R,hg,q⟩=>⟨S,F,.bl k,S',R,mK hg,fun v F' H' R' st r=>⟨k,jG r,q F' H' R' st⟩⟩⟩
theorem Rr {K:PySem.W.Frag}{B:Base}{gE:GE}{σ:St}{H:Hp}{Q:VK}(h:tD K B (eF gE) σ H Q):tE K B gE σ H Q:=by
 obtain⟨S,F,d,S',R,hg,q⟩:=h
 obtain⟨⟨u,S1⟩,h1,hg⟩:=az hg
 refine⟨S,F,u,S1,R,h1,fun v F1 H1 R1 st1 r1=>?_⟩
 obtain⟨F2,R2,st2,r2⟩:=IG R1 st1 r1 hg
 exact q v F2 H1 R2 st2 r2
theorem bO {op:CmpOp}(ho:wW X (compareOp op) f) (ha:JD X a ga) (hb:JD X b gb) (hm:behindInMarks op b=false:=by first | exact C9 _ | rfl):JT X (.Compare a [op] [b] pos) (qB (eF (eP f (aa ga (aa gb ak))))):=
 ⟨fun B=>(Ez ho (ha.h B) (hb.h B) hm).imp fun σ H Q ⟨S,F,k,S',R,hg,q⟩=>tX (Rr ⟨S,F,.bl k,S',R,mK hg,fun v F' H' R' st r=>⟨k,jG r,q F' H' R' st⟩⟩)⟩
theorem fC {q1:GT}(h:JT X a q1):JT X (.UnaryOp .Not a pos) (gM q1):=
 ⟨fun B=>(Nj (h.h B)).imp fun σ H Q ⟨S,F,k,S',R,hg,q⟩=>by
 obtain⟨⟨d,S1⟩,h1,hg⟩:=aG hg
 cases hg
 exact⟨S,F,d,_,R,h1,fun F' H' R' st=>q F' H' R' st⟩⟩
theorem j0 {q1:GT}(h:JT X a q1):JW X (.BoolOp .And [a] pos) q1:=⟨fun B=>pw_and1 (h.h B)⟩
theorem dQ {q1:GT}(h:JT X a q1):JW X (.BoolOp .Or [a] pos) q1:=⟨fun B=>pw_or1 (h.h B)⟩
theorem p7 {r:List Expr}{q1 q2:GT}(h:JT X a q1) (hr:JW X (.BoolOp .And (b :: r) pos) q2):JW X (.BoolOp .And (a :: b :: r) pos) (gC q1 q2):=
 ⟨fun B=>(pw_and (h.h B) (hr.h B)).imp fun σ H Q ⟨S,F,k,S',R,hg,q⟩=>by
 obtain⟨⟨d,S1⟩,h1,hg⟩:=az hg
 refine⟨S,F,d,S1,R,h1,fun F1 H1 R1 st1=>?_⟩
 cases d with
 | true=>exact BI ⟨S1,F1,k,S',R1,hg,fun F2 H2 R2 st2=>q F2 H2 R2 (st1.trans st2)⟩
 | false=>cases hg;exact BH (q F1 H1 R1 st1)⟩
theorem gU {r:List Expr}{q1 q2:GT}(h:JT X a q1) (hr:JW X (.BoolOp .Or (b :: r) pos) q2):JW X (.BoolOp .Or (a :: b :: r) pos) (oH q1 q2):=
 ⟨fun B=>(pw_or (h.h B) (hr.h B)).imp fun σ H Q ⟨S,F,k,S',R,hg,q⟩=>by
 obtain⟨⟨d,S1⟩,h1,hg⟩:=az hg
 refine⟨S,F,d,S1,R,h1,fun F1 H1 R1 st1=>?_⟩
 cases d with
 | false=>exact BH ⟨S1,F1,k,S',R1,hg,fun F2 H2 R2 st2=>q F2 H2 R2 (st1.trans st2)⟩
 | true=>cases hg;exact BI (q F1 H1 R1 st1)⟩
theorem JW.t {q1:GT}(h:JW X e q1):JT X e q1:=⟨fun B=>(h.h B).pt⟩
theorem jH {op}(h:JD X a g):JD X (.BoolOp op [a] pos) (eQ (qB g)):=⟨fun B=>(Nk (h.h B)).imp fun σ H Q ⟨S,F,k,S',R,hg,q⟩=>by
 obtain⟨⟨d,S1⟩,h1,hg⟩:=aG hg
 cases hg
 exact⟨S,F,.bl d,_,R,mK h1,q⟩⟩
theorem iP {r:List Expr}{q2:GT}(h:JD X a g) (hr:JD X (.BoolOp .And (b :: r) pos) (eQ q2)):JD X (.BoolOp .And (a :: b :: r) pos) (eQ (gC (qB g) q2)):=
 ⟨fun B=>(Nl (h.h B) (hr.h B)).imp fun σ H Q ⟨S,F,k,S',R,hg,q⟩=>by
 obtain⟨⟨d,S1⟩,h1,hg⟩:=aG hg
 cases hg
 obtain⟨⟨d1,S2⟩,h1,h2⟩:=az h1
 refine⟨S,F,.bl d1,S2,R,mK h1,fun v F1 H1 R1 st1 r1=>⟨d1,jG r1,?_⟩⟩
 cases d1 with
 | true=>
  have h2:q2 S2=some (d,S1):=h2
  exact BI ⟨S2,F1,.bl d,S1,R1,by show(q2 S2).map _=_;rw[h2];rfl,fun v F2 H2 R2 st2 r2=>q v F2 H2 R2 (st1.trans st2) r2⟩
 | false=>cases h2;exact BH (q _ F1 H1 R1 st1 (.bl false))⟩
theorem MM {r:List Expr}{q2:GT}(h:JD X a g) (hr:JD X (.BoolOp .Or (b :: r) pos) (eQ q2)):JD X (.BoolOp .Or (a :: b :: r) pos) (eQ (oH (qB g) q2)):=
 ⟨fun B=>(QE (h.h B) (hr.h B)).imp fun σ H Q ⟨S,F,k,S',R,hg,q⟩=>by
 obtain⟨⟨d,S1⟩,h1,hg⟩:=aG hg
 cases hg
 obtain⟨⟨d1,S2⟩,h1,h2⟩:=az h1
 refine⟨S,F,.bl d1,S2,R,mK h1,fun v F1 H1 R1 st1 r1=>⟨d1,jG r1,?_⟩⟩
 cases d1 with
 | false=>
  have h2:q2 S2=some (d,S1):=h2
  exact BH ⟨S2,F1,.bl d,S1,R1,by show(q2 S2).map _=_;rw[h2];rfl,fun v F2 H2 R2 st2 r2=>q v F2 H2 R2 (st1.trans st2) r2⟩
 | true=>cases h2;exact BI (q _ F1 H1 R1 st1 (.bl true))⟩
theorem N5 (h:JD X a g):JD X (.UnaryOp .Not a pos) (eQ (gM (qB g))):=⟨fun B=>(Nn (h.h B)).imp fun σ H Q ⟨S,F,k,S',R,hg,q⟩=>by
 obtain⟨⟨d,S1⟩,h1,hg⟩:=aG hg
 cases hg
 obtain⟨⟨d1,S2⟩,h3,h2⟩:=aG h1
 cases h2
 exact⟨S,F,.bl d1,_,R,mK h3,fun v F1 H1 R1 st1 r1=>⟨d1,jG r1,q _ F1 H1 R1 st1 (.bl _)⟩⟩⟩
noncomputable def PM (q:GT) (g h:GE):GE:=fun S=>(q S).bind fun p=>if p.1 then g p.2 else h p.2
theorem mG.weak {K:PySem.W.Frag}{B:Base}{S:SS}{σ:St}{H0 H1 F H:Hp}{v:V}(t:∀b o,H0 b=some o→∃o',H1 b=some o'):∀{u:U},mG K B S σ H1 F H v u→mG K B S σ H0 F H v u
 | .t _,h=>h
 | .s _,h=>h
 | .m _,⟨a,e,h0,h⟩=>⟨a,e,none_of t h0,h⟩
 | .v _,h=>h
 | .b _,h=>h
theorem MN {q1:GT}{g1 g2:GE}(hc:JT X c q1) (ha:JE X a g1) (hb:JE X b g2):JE X (.IfExp c a b pos) (PM q1 g1 g2):=
 ⟨fun B=>(HP (hc.h B) (ha.h B) (hb.h B)).imp fun σ H Q ⟨S,F,u,S',R,hg,q⟩=>by
 obtain⟨⟨d,S1⟩,h1,hg⟩:=az hg
 refine⟨S,F,d,S1,R,h1,fun F1 H1 R1 st1=>?_⟩
 cases d with
 | true=>exact BI ⟨S1,F1,u,S',R1,hg,fun v F2 H2 R2 st2 r2=>q v F2 H2 R2 (st1.trans st2) (r2.weak st1.ext.there)⟩
 | false=>exact BH ⟨S1,F1,u,S',R1,hg,fun v F2 H2 R2 st2 r2=>q v F2 H2 R2 (st1.trans st2) (r2.weak st1.ext.there)⟩⟩
noncomputable def Rt (f f':List D→Option U) (ga gb gc:GD):GD:=fun S=>(ga S).bind fun p=>(gb p.2).bind fun q=>match f [p.1,q.1] with
 | some (.t (.bl k))=>if k then(gc q.2).bind fun r=>match f' [q.1,r.1] with
   | some (.t (.bl k'))=>some (.bl k',r.2)
   | _=>none
  else some (.bl false,q.2)
 | _=>none
theorem Ru {K : PySem.W.Frag} {B : Base} {σ : St} {H : Hp} {Q : VK} (h : tD K B (Rt f f' ga gb gc) σ H Q) : Ia (fun x y H Q => rP f [x, y] H Q) (fun x y H Q => rP f' [x, y] H Q) (tD K B ga) (tD K B gb) (tD K B gc) σ H Q := by
  obtain⟨S,F,d,S',R,hg,q⟩:=h
  obtain⟨⟨d1,S1⟩,h1,hg⟩:=az hg
  obtain⟨⟨d2,S2⟩,h2,hg⟩:=az hg
  refine⟨S,F,d1,S1,R,h1,fun v1 F1 H1 R1 st1 r1=>⟨S1,F1,d2,S2,R1,h2,fun v2 F2 H2 R2 st2 r2=>?_⟩⟩
  dsimp only at hg
  split at hg
  · rename_i k hk
    refine⟨F2,_,_,R2.sub,.cons (r1.le st2.ext.le) (.cons r2 .nil),hk,fun v F3 H3 n s3 r3=>⟨k,jG r3,?_⟩⟩
    have R3:=R2.new n s3
    have st3:Step S S2 σ F H F3 H3:=(st1.trans st2).trans n.step
    cases k with
    | false=>cases hg;exact BH (q _ F3 H3 R3 st3 (.bl false))
    | true=>
      obtain⟨⟨d3,S3⟩,h3,hg⟩:=az hg
      refine BI ⟨S2,F3,d3,S3,R3,h3,fun v3 F4 H4 R4 Rn r4=>?_⟩
      dsimp only at hg
      split at hg
      · rename_i k' hk'
        cases hg
        exact⟨F4,_,_,R4.sub,.cons (r2.le fun b o z=>Rn.ext.le b o (n.le b o z)) (.cons r4 .nil),hk',fun v F5 H5 n5 s5 r5=>q v F5 H5 (R4.new n5 s5) ((st3.trans Rn).trans n5.step) r5⟩
      · cases hg
  · cases hg
theorem II {op op':CmpOp}(ho:wW X (compareOp op) f) (ho':wW X (compareOp op') f') (ha:JD X a ga) (hb:JD X b gb) (hc:JD X c gc) (hm:lastMarks [op,op'] [b,c]=false:=by with_unfolding_all rfl):
  JD X (.Compare a [op,op'] [b,c] pos) (Rt f f' ga gb gc):=⟨fun B=>(Ib ho ho' (ha.h B) (hb.h B) (hc.h B) hm).imp fun σ H Q h=>Ru h⟩
end
end L2
end
section
set_option Elab.async false
set_option linter.all false
set_option maxRecDepth 100000
namespace L2
open PySem PySem.Spec PyProof.Rows
theorem cX {α:Type}{c:Prop}{i:Decidable c}{x w:α}(h:(@ite _ c i (some x) none)=some w):c∧x=w:=by
 by_cases hc:c
 ·rw[if_pos hc] at h;exact⟨hc,Option.some.inj h⟩
 ·rw[if_neg hc] at h;cases h
theorem zC {α:Type}{c:Prop}{i:Decidable c}{x:Option α}{w:α}(h:(@ite _ c i x none)=some w):c∧x=some w:=by
 by_cases hc:c
 ·rw[if_pos hc] at h;exact⟨hc,h⟩
 ·rw[if_neg hc] at h;cases h
theorem IJ {F:Hp}{x:V}{ds:List D}(r:bW F [x] ds):∃d,ds=[d]∧Rep F x d:=by
 cases r with
 | cons r rs=>cases rs;exact⟨_,rfl,r⟩
theorem tY {F:Hp}{x y:V}{ds:List D}(r:bW F [x,y] ds):∃d e,ds=[d,e]∧Rep F x d∧Rep F y e:=by
 cases r with
 | cons r rs=>obtain⟨e,rfl,r2⟩:=IJ rs;exact⟨_,e,rfl,r,r2⟩
noncomputable def HD (C:Int→Int→Bool) (h:Int→Int→D):List D→Option U
 | [.int i,.int j]=>if C i j then some (.t (h i j)) else none
 | _=>none
section
variable {X:Cx}
theorem tZ {o:Value→Value→Sem Value}{C:Int→Int→Bool}{h:Int→Int→D}{r:R2}(hr:uN X o r) (k:∀i j H Q,C i j=true→Q (toV (h i j)) H→r (.int i) (.int j) H Q) (hf:∀i j,su (h i j)=true):wW X o (HD C h):=by
 intro pins s σ H x y v u Q I rx ry ⟨F,ds,w,sb,rs,hw,q⟩
 obtain⟨d,e,rfl,r1,r2⟩:=tY rs
 cases r1 <;> cases r2 <;> try (simp[HD] at hw;done)
 rename_i i j
 obtain⟨hc,rfl⟩:=cX hw
 exact hr pins s σ H _ _ v u Q I rx ry (k i j H Q hc (q _ F H (iO.refl ..) sb (BL (hf i j))))
noncomputable abbrev kZ:=HD (fun _ _=>true) fun i j=>.int (i - j)
noncomputable abbrev ER:=HD (fun _ _=>true) fun i j=>.bl (decide (i < j))
noncomputable abbrev IK:=HD (fun _ _=>true) fun i j=>.bl (decide (i≤j))
noncomputable abbrev Dp:=HD (fun _ _=>true) fun i j=>.bl (decide (j < i))
noncomputable abbrev W7:=HD (fun _ _=>true) fun i j=>.bl (decide (j≤i))
noncomputable abbrev FT:=HD (fun _ j=>decide (0 < j) && decide (j < 1073741824)) fun i j=>.int (i / j)
noncomputable abbrev nD:=HD (fun _ j=>decide (0 < j)) fun i j=>.int (i % j)
noncomputable abbrev Dq:=HD (fun i j=>decide (0≤j) && (decide (j≤1000) && decide (i.natAbs < 2 ^ 64))) fun i j=>.int (i ^ j.toNat)
theorem jI:wW X (binaryOp .Sub) kZ:=tZ ND (fun i j H Q _ q=>⟨i,j,rfl,rfl,q⟩) fun _ _=>rfl
theorem p8:wW X (compareOp .Lt) ER:=tZ QU (fun i j H Q _ q=>⟨i,j,rfl,rfl,q⟩) fun _ _=>rfl
theorem p9:wW X (compareOp .LtE) IK:=tZ QV (fun i j H Q _ q=>⟨i,j,rfl,rfl,q⟩) fun _ _=>rfl
theorem mW:wW X (compareOp .Gt) Dp:=tZ QW (fun i j H Q _ q=>⟨i,j,rfl,rfl,q⟩) fun _ _=>rfl
theorem N6:wW X (compareOp .GtE) W7:=tZ QX (fun i j H Q _ q=>⟨i,j,rfl,rfl,q⟩) fun _ _=>rfl
theorem Aq:wW X (binaryOp .FloorDiv) FT:=tZ K1 (fun i j H Q c q=>⟨i,j,rfl,rfl,by simpa[QT] using c,q⟩) fun _ _=>rfl
theorem kL:wW X (binaryOp .Mod) nD:=tZ NG (fun i j H Q c q=>⟨i,j,rfl,rfl,by simpa using c,q⟩) fun _ _=>rfl
theorem ES:wW X (binaryOp .Pow) Dq:=tZ NH (fun i j H Q c q=>⟨i,j,rfl,rfl,by
 simp only[Bool.and_eq_true,decide_eq_true_eq] at c
 exact⟨c.1,Int.le_trans c.2.1 (by decide),c.2.2⟩,q⟩) fun _ _=>rfl
theorem Sub.mJ {F H:Hp}{v:V}{ds:List D}(s:Sub F H) (r:Rep F v (.tup ds)):∃a vs,v= .ref a∧F a=some (.tup vs)∧Rd H a (.tup vs)∧bW F vs ds:=by
 cases r with
 | tup e rs=>exact⟨_,_,rfl,e,Rd.of (s _ _ e),rs⟩
theorem Sub.jF {F H:Hp}{v:V}{ds:List D}(s:Sub F H) (r:Rep F v (.lst ds)):∃a vs,v= .ref a∧F a=some (.lst vs)∧Rd H a (.lst vs)∧bW F vs ds:=by
 cases r with
 | lst e rs=>exact⟨_,_,rfl,e,Rd.of (s _ _ e),rs⟩
theorem _root_.L2.Rd.Dk {pins:List (Addr×Obj)}{σ:St}{H:Hp}{s:Shared}(I:Inv X pins σ H s){l:Addr}{xs:List V}(h:Rd H l (.lst xs)):
  xs.length≤sizeLine∧∃its n,Vals xs its∧xs.length=its.length∧s.heap.get? l=some {cls:=.type "list",data:=.seq its.toArray n}:=by
 obtain⟨z,its,n,r,e⟩:=(h.ok I.hok:gR X.prog X.w H s.heap l (.lst xs))
 exact⟨z,its,n,r,r.length,e⟩
noncomputable def cK:List D→Option U
 | [.int i,.int j]=>some (.t (.int (i+j)))
 | [.str i,.str j]=>if i.length+j.length≤100000 then some (.t (.str (i++j))) else none
 | [.tup i,.tup j]=>if i.length+j.length≤100000 then some (.t (.tup (i++j))) else none
 | [.lst i,.lst j]=>if i.length+j.length≤100000 then some (.m (.lst (i++j))) else none
 | _=>none
theorem cH : wW X (binaryOp .Add) cK := by
  intro pins s σ H x y v u Q I rx ry ⟨F,ds,w,sb,rs,hw,q⟩
  obtain⟨d,e,rfl,r1,r2⟩:=tY rs
  cases d <;> cases e <;> try (simp[cK] at hw;done)
  · rename_i i j
    cases hw
    cases r1
    cases r2
    exact NC pins s σ H _ _ v u Q I rx ry ⟨i,j,rfl,rfl,q _ F H (iO.refl ..) sb (.int _)⟩
  · rename_i i j
    obtain⟨hl,rfl⟩:=cX hw
    cases r1
    cases r2
    exact Dc pins s σ H _ _ v u Q I rx ry ⟨i,j,rfl,rfl,lF hl,q _ F H (iO.refl ..) sb (.str _)⟩
  · rename_i i j
    obtain⟨hl,rfl⟩:=cX hw
    have rb2:=r2
    have rb1:=r1
    obtain⟨a,xs,rfl,fa,ha,uR⟩:=sb.mJ r1
    obtain⟨b,ys,rfl,fb,hb,Lm⟩:=sb.mJ r2
    by_cases hx:xs=[]
    · subst hx
      cases uR
      cases rx
      cases ry
      obtain⟨its,r1',p1,_⟩:=I.tuple (.inl ha)
      obtain⟨its2,r2',p2,_⟩:=I.tuple (.inl hb)
      cases r1'
      obtain⟨⟨cls,dd,data,sl⟩,ho,hc,n,hd⟩:=id p1
      obtain⟨⟨WJ,dd2,data2,sl2⟩,ho2,hc2,n2,hd2⟩:=id p2
      simp only at hc hd hc2 hd2
      subst hc hd hc2 hd2
      exact concat_meets ⟨_,ho,rfl⟩ ⟨_,ho2,rfl⟩ noFill_tuple_add seq_tuple_add PySem.F.slot_tuple_add PySem.F.entry_tuple_add (PySem.F.args_tuple_add_2 _ _)
        (tuple_addW0 a b _ _ n n2 dd dd2 sl sl2 (by simp)) ⟨ho,ho2,⟨.ref b,H,I,rfl,q _ F H (iO.refl ..) sb rb2⟩⟩
    · refine Lc pins s σ H (.ref a) (.ref b) v u Q I rx ry ⟨a,b,xs,ys,rfl,rfl,.inl ha,.inl hb,hx,?_,fun hy=>?_,fun hy p hp=>?_⟩
      · rw[uR.length,Lm.length];exact lF hl
      · subst hy
        cases Lm
        exact q _ F H (iO.refl ..) sb (by show Rep F (.ref a) (.tup (i++[]));rw[List.append_nil];exact rb1)
      · exact q _ _ _ (iO.root sb hp _) (sb.wV hp) (.tup bJ ((uR.append Lm).le (kY (sb.fresh hp))))
  · rename_i i j
    obtain⟨hl,rfl⟩:=cX hw
    obtain⟨a,xs,rfl,fa,ha,uR⟩:=sb.jF r1
    obtain⟨b,ys,rfl,fb,hb,Lm⟩:=sb.jF r2
    cases rx
    cases ry
    obtain⟨z,its,n,r,hl1,e⟩:=Rd.Dk I ha
    obtain⟨z2,its2,n2,r2,hl2,e2⟩:=Rd.Dk I hb
    have hlen:xs.length+ys.length≤sizeLine:=by rw[uR.length,Lm.length];exact lF hl
    refine PySem.P.add_list e e2 ?_ (by rw[List.size_toArray,List.size_toArray];omega)
    have ea:its.toArray++its2.toArray=(its++its2).toArray:=by simp
    rw[ea]
    have hp:H s.heap.objs.size=none:=I.fresh
    refine⟨.ref _,_,I.WM (t':=s.toks) (r.append r2) (by rw[List.length_append];omega),rfl,?_⟩
    exact q _ F _ (iO.obj hp _) (sb.same (iO.obj (F:=F) hp _).same) ⟨_,rfl,hp,sb.fresh hp,_,bJ,uR.append Lm⟩
noncomputable def mX:List D→Option U:=HD (fun i j=>(decide (-(2 ^ 64) < i) && decide (i < 2 ^ 64)) || (decide (-(2 ^ 64) < j) && decide (j < 2 ^ 64))) fun i j=>.int (i * j)
theorem oJ:wW X (binaryOp .Mult) mX:=tZ NF (fun i j H Q c q=>⟨i,j,rfl,rfl,by
 simp only[Bool.or_eq_true,Bool.and_eq_true,decide_eq_true_eq] at c
 exact c,q⟩) fun _ _=>rfl
noncomputable def IL:List D→Option U
 | [.int i]=>some (.t (.int (-i)))
 | _=>none
theorem Ln:QM X (unaryOp .USub) (fun x H Q=>rP IL [x] H Q):=by
 intro pins s σ H x v Q I rx ⟨F,ds,w,sb,rs,hw,q⟩
 obtain⟨d,rfl,r1⟩:=IJ rs
 cases r1 <;> try (simp[IL] at hw;done)
 rename_i i
 cases hw
 exact NI pins s σ H _ v Q I rx ⟨i,rfl,q _ F H (iO.refl ..) sb (.int _)⟩
noncomputable def zD:List D→Option U
 | [.tup ds,.int i]=>(gZ ds i).map .t
 | [.lst ds,.int i]=>(gZ ds i).map .t
 | [.str z,.int i]=>if z.length≤100000 then(gZ z.cps.toList i).map fun c=>.t (.str ⟨#[c]⟩) else none
 | _=>none
theorem yL:Ij X (fun x y H Q=>rP zD [x,y] H Q):=by
 intro value slice pins s σ H x y v u Q I rx ry ⟨F,ds,w,sb,rs,hw,q⟩ hsb
 obtain⟨d,e,rfl,r1,r2⟩:=tY rs
 cases d <;> cases e <;> try (simp[zD] at hw;done)
 ·rename_i z i
  obtain⟨hl,hw⟩:=zC hw
  obtain⟨c,hc,hw⟩:=aG hw
  subst hw
  cases r1
  cases r2
  exact Im value slice pins s σ H _ _ v u Q I rx ry ⟨z,i,c,rfl,rfl,lF hl,hc,q _ F H (iO.refl ..) sb (.str _)⟩ hsb
 ·rename_i ds i
  obtain⟨c,hc,hw⟩:=aG (show(gZ ds i).map U.t=some w from hw)
  subst hw
  obtain⟨a,xs,rfl,fa,ha,uR⟩:=sb.mJ r1
  cases r2
  obtain⟨w',h1,h2⟩:=uR.gZ hc
  exact Il value slice pins s σ H _ _ v u Q I rx ry ⟨a,xs,i,w',rfl,rfl,.inl ha,h1,q _ F H (iO.refl ..) sb h2⟩ hsb
 ·rename_i ds i
  obtain⟨c,hc,hw⟩:=aG (show(gZ ds i).map U.t=some w from hw)
  subst hw
  obtain⟨a,xs,rfl,fa,ha,uR⟩:=sb.jF r1
  cases r2
  obtain⟨w',h1,h2⟩:=uR.gZ hc
  exact EI value slice pins s σ H _ _ v u Q I rx ry ⟨a,xs,i,w',rfl,rfl,.inl ha,h1,q _ F H (iO.refl ..) sb h2⟩ hsb
noncomputable def Ar:List D→Option U
 | [.tup ds]=>some (.t (.int ds.length))
 | [.lst ds]=>some (.t (.int ds.length))
 | [.str z]=>if z.length≤100000 then some (.t (.int z.length)) else none
 | _=>none
theorem uS:gY X (.builtin "len") (rP Ar):=by
 intro pins s σ H xs us Q I r ⟨F,ds,w,sb,rs,hw,q⟩
 match xs,ds,rs with
 | [],[],_=>exact absurd hw (by simp[Ar])
 | [x],_,rs=>
  obtain⟨d,rfl,r1⟩:=IJ rs
  cases d <;> try (simp[Ar] at hw;done)
  ·rename_i z
   obtain⟨hl,rfl⟩:=cX hw
   cases r1
   exact tV pins s σ H _ us Q I r ⟨z,rfl,lF hl,q _ F H (iO.refl ..) sb (.int _)⟩
  ·cases hw
   obtain⟨a,xs,rfl,fa,ha,uR⟩:=sb.mJ r1
   exact oE pins s σ H _ us Q I r ⟨a,xs,rfl,.inr (.inl ha),by rw[uR.length];exact q _ F H (iO.refl ..) sb (.int _)⟩
  ·cases hw
   obtain⟨a,xs,rfl,fa,ha,uR⟩:=sb.jF r1
   exact oE pins s σ H _ us Q I r ⟨a,xs,rfl,.inl (.inl ha),by rw[uR.length];exact q _ F H (iO.refl ..) sb (.int _)⟩
 | _ :: _ :: _,[],rs=>cases rs
 | _ :: _ :: _,[_],rs=>cases rs with | cons _ rs=>cases rs
 | _ :: _ :: _,_ :: _ :: _,_=>exact absurd hw (by simp[Ar])
end
end L2
end
section
set_option Elab.async false
set_option linter.all false
set_option maxRecDepth 100000
namespace L2
open PySem PySem.Spec PyProof.Rows
noncomputable def rW (i:Nat) (u:U) (S:SS):Option SS:=match S[i]? with
 | some (some (.b _))=>none
 | some _=>some (S.set i (some u))
 | none=>none
theorem FU {i:Nat}{u:U}{S S':SS}(h:rW i u S=some S'):S'=S.set i (some u)∧i < S.length∧∀o,S[i]?≠some (some (.b o)):=by
 unfold rW at h
 cases e:S[i]? with
 | none=>rw[e] at h;cases h
 | some w=>
  have hl:i < S.length:=(List.getElem?_eq_some_iff.mp e).1
  rw[e] at h
  cases w with
  | none=>cases h;exact⟨rfl,hl,fun o z=>by cases z⟩
  | some w=>
   cases w with
   | b o=>cases h
   | t d=>cases h;exact⟨rfl,hl,fun o z=>by cases z⟩
   | m d=>cases h;exact⟨rfl,hl,fun o z=>by cases z⟩
   | v d=>cases h;exact⟨rfl,hl,fun o z=>by cases z⟩
   | s d=>cases h;exact⟨rfl,hl,fun o z=>by cases z⟩
noncomputable def MP (B:Base) (S:SS) (σ:St) (F H:Hp) (v:V):U→Prop
 | .t d=>Rep F v d
 | .m o=>∃a,v= .ref a∧F a=none∧At F H a o∧¬eO S σ a∧B.H a=none
 | _=>False
theorem Rel.put {K : PySem.W.Frag} {B : Base} {S S' : SS} {σ : St} {F H : Hp} {i : Nat} {u : U} {v : V} (R : Rel K B S σ F H) (h : rW i u S = some S') (p : MP B S σ F H v u) : Rel K B S' (σ.set i (some v)) F H := by
  obtain⟨rfl,hl,nb⟩:=FU h
  have hl':i < σ.length:=by rw[←R.len];exact hl
  have out:∀{j:Nat},i≠j→(σ.set i (some v))[j]? =σ[j]?:=fun ne=>List.getElem?_set_ne ne
  have FW:(σ.set i (some v))[i]? =some (some v):=List.getElem?_set_self hl'
  have MQ:∀j w a,i≠j→S[j]? =some (some w)→g7 w=true→g7 u=true→σ[j]? =some (some (.ref a))→v≠.ref a:=fun j w a ne hj hm hu hv z=>by
    cases u with
    | t d=>cases hu
    | v k=>cases hu
    | s k=>cases hu
    | b o=>exact p
    | m o=>
      obtain⟨c,e,_,_,nm,_⟩:=p
      rw[z] at e
      cases e
      exact nm ⟨j,w,hj,hm,hv⟩
  refine⟨R.sub,by rw[List.length_set,List.length_set];exact R.len,fun j w hj=>?_,fun j k w1 w2 a h1 m1 h2 m2 v1 v2=>?_,fun j o a hj hv=>?_,fun j o a hj hv=>?_,fun j a hj=>?_,R.ext⟩
  · rcases get_set hj with⟨rfl,q,_⟩ | ⟨ne,q⟩
    · cases q
      refine⟨v,FW,?_⟩
      cases u with
      | t d=>exact p
      | m o=>obtain⟨a,e,f,h,_⟩:=p;exact⟨a,e,f,h⟩
      | b o=>cases p
      | v k=>cases p
      | s k=>cases p
    · rw[out ne];exact R.rep j w q
  · rcases get_set h1 with⟨rfl,q1,_⟩ | ⟨ne1,q1⟩
    · rcases get_set h2 with⟨rfl,q2,_⟩ | ⟨ne2,q2⟩
      · rfl
      · cases q1
        rw[FW] at v1
        rw[out ne2] at v2
        cases v1
        exact absurd rfl (MQ k w2 a ne2 q2 m2 m1 v2)
    · rcases get_set h2 with⟨rfl,q2,_⟩ | ⟨ne2,q2⟩
      · cases q2
        rw[FW] at v2
        rw[out ne1] at v1
        cases v2
        exact absurd rfl (MQ j w1 a ne1 q1 m1 m2 v1)
      · rw[out ne1] at v1
        rw[out ne2] at v2
        exact R.EM j k w1 w2 a q1 m1 q2 m2 v1 v2
  · rcases get_set hj with⟨rfl,q,_⟩ | ⟨ne,q⟩
    · cases q
      rw[FW] at hv
      cases hv
      obtain⟨c,e,_,_,_,hB⟩:=p
      cases e
      exact hB
    · rw[out ne] at hv;exact R.own j o a q hv
  · rcases get_set hj with⟨rfl,q,_⟩ | ⟨ne,q⟩
    · cases q;cases p
    · rw[out ne] at hv;exact R.bor j o a q hv
  · obtain⟨h1,o,h2⟩:=R.par j a hj
    have ne:i≠j:=fun z=>by subst z;exact nb o h2
    exact⟨by rw[out ne];exact h1,o,by rw[List.getElem?_set_ne ne];exact h2⟩
noncomputable def cS:GS:=fun S=>some (.nx S)
noncomputable def aJ (a b:GS):GS:=fun S=>(a S).bind fun o=>match o with
 | .nx S1=>b S1
 | o=>some o
noncomputable def bH (i:Nat) (g:GE):GS:=fun S=>(g S).bind fun p=>match p.1 with
 | .m o=>(rW i (.m o) p.2).map .nx
 | u=>(fz u p.2).bind fun q=>(rW i (.t q.1) q.2).map .nx
noncomputable def sA (g:GE):GS:=fun S=>(g S).map fun p=>.nx p.2
noncomputable def bR (g:GE):GS:=fun S=>(g S).bind fun p=>match p.1 with
 | .v i=>match p.2[i]? with
  | some (some (.t d))=>some (.rt (.t d) p.2)
  | some (some (.m o))=>some (.rt (.m o) (p.2.set i none))
  | _=>none
 | .s _=>none
 | u=>some (.rt u p.2)
noncomputable def Rv:GS:=fun S=>some (.rt (.t .cW) S)
noncomputable def gQ (q:GT) (a b:GS):GS:=fun S=>(q S).bind fun p=>if p.1 then a p.2 else b p.2
theorem EN.mono {K:PySem.W.Frag}{B:Base}{F F1:Hp}{D:Ends}(g:∀b o,F b=some o→F1 b=some o):∀{o:Out},EN K B F D o→EN K B F1 D o
 | .nx _,h=>fun σ' F' H' R le=>h σ' F' H' R fun b o z=>le b o (g b o z)
 | .bk _,h=>fun σ' F' H' R le=>h σ' F' H' R fun b o z=>le b o (g b o z)
 | .ct _,h=>fun σ' F' H' R le=>h σ' F' H' R fun b o z=>le b o (g b o z)
 | .rt _ _,h=>fun v σ' F' H' R le=>h v σ' F' H' R fun b o z=>le b o (g b o z)
section
variable {X:Cx}{a b c e:Expr}{pos p p2:Pos}{x:Str}{st:Stmt}{rest b1 b2 body:List Stmt}{g:GE}{s1 s2:GS}{q1:GT}
theorem cA:JB X [] cS:=⟨fun B=>KQ.imp fun D σ H ⟨S,F,o,R,h,k⟩=>by cases h;exact k σ F H R fun _ _ z=>z⟩
theorem aD (h1:JS X st s1) (h2:JB X rest s2):JB X (st :: rest) (aJ s1 s2):=⟨fun B=>(HR (h1.h B) (h2.h B)).imp fun D σ H ⟨S,F,o,R,h,k⟩=>by
 obtain⟨o1,e1,h⟩:=az h
 refine⟨S,F,o1,R,e1,?_⟩
 cases o1 with
 | nx S1=>exact fun σ' F' H' R' le=>⟨S1,F',o,R',h,k.mono le⟩
 | rt u S1=>cases h;exact k
 | bk S1=>cases h;exact k
 | ct S1=>cases h;exact k⟩
theorem aU (h1:JS X st s1):JB X [st] s1:=⟨fun B=>KR (h1.h B)⟩
theorem mG.put {K:PySem.W.Frag}{B:Base}{S:SS}{σ:St}{H0 F H:Hp}{v:V}{o:MO}(r:mG K B S σ H0 F H v (.m o)):MP B S σ F H v (.m o):=by
 obtain⟨a,e,_,f,h,n,hB⟩:=r
 exact⟨a,e,f,h,n,hB⟩
theorem ET {i:Nat}{K:PySem.W.Frag}{B:Base}{D:Ends}{σ:St}{H:Hp}(h:tO K B (bH i g) D σ H):KY (tE K B g) (zo i) D σ H:=by
 obtain⟨S,F,o,R,h,k⟩:=h
 obtain⟨⟨u,S1⟩,h1,h⟩:=az h
 refine⟨S,F,u,S1,R,h1,fun v F1 H1 R1 st1 r1=>?_⟩
 have go:(∀o',u≠.m o')→(fz u S1).bind (fun q=>(rW i (.t q.1) q.2).map Out.nx)=some o→D.nx (σ.set i (some v)) H1:=fun _ h=>by
  obtain⟨⟨d,S2⟩,h2,h⟩:=az h
  obtain⟨S3,h3,h⟩:=aG h
  subst h
  obtain⟨F2,R2,st2,r2⟩:=IG R1 st1 r1 h2
  exact k _ F2 H1 (R2.put h3 r2) st2.ext.le
 cases u with
 | m o'=>
  obtain⟨S3,h3,h⟩:=aG (show(rW i (.m o') S1).map Out.nx=some o from h)
  subst h
  exact k _ F1 H1 (R1.put h3 r1.put) st1.ext.le
 | t d=>exact go (fun _ z=>by cases z) h
 | b d=>exact go (fun _ z=>by cases z) h
 | s d=>exact go (fun _ z=>by cases z) h
 | v d=>exact go (fun _ z=>by cases z) h
theorem bF {i:Nat}{pos':Pos}(hN:X.N.Nodup) (hi:X.N[i]? =some x) (hx:Loc X.env.scope x) (he:JE X e g) (hs:swapsWith e (some (.Name x pos')) pos.line X.env=pure false:=by rfl)
  (hf:X.fn x=true∨X.env.scope.names.lookup x=some .local:=by first | exact .inl rfl | exact .inr rfl | assumption):JS X (.Assign [.Name x pos'] e pos) (bH i g):=
 ⟨fun B=>(Nt hN hi hx (he.h B) hs hf).imp fun D σ H h=>ET h⟩
theorem rq (he:JE X e g) (hs:swapsWith e none pos.line X.env=pure false:=by rfl):JS X (.Expr e pos) (sA g):=⟨fun B=>(KS (he.h B) hs).imp fun D σ H ⟨S,F,o,R,h,k⟩=>by
 obtain⟨⟨u,S1⟩,h1,h⟩:=aG h
 subst h
 exact⟨S,F,u,S1,R,h1,fun v F1 H1 R1 st1 r1=>k σ F1 H1 R1 st1.ext.le⟩⟩
theorem Rel.drop {K:PySem.W.Frag}{B:Base}{S:SS}{σ:St}{F H:Hp}{i:Nat}{o:MO}(R:Rel K B S σ F H) (h:S[i]? =some (some (.m o))):Rel K B (S.set i none) σ F H:=by
 have back:∀{j w},(S.set i none)[j]? =some (some w)→i≠j∧S[j]? =some (some w):=fun {j w} z=>by
  rcases get_set z with⟨_,q,_⟩ | q
  ·cases q
  ·exact q
 refine⟨R.sub,by rw[List.length_set];exact R.len,fun j w z=>R.rep j w (back z).2,fun j k w1 w2 a h1 m1 h2 m2=>R.EM j k w1 w2 a (back h1).2 m1 (back h2).2 m2,fun j o a z=>R.own j o a (back z).2,fun j o a z=>R.bor j o a (back z).2,fun j a z=>?_,R.ext⟩
 obtain⟨k1,o',k2⟩:=R.par j a z
 have ne:i≠j:=fun z=>by subst z;rw[h] at k2;cases k2
 exact⟨k1,o',by rw[List.getElem?_set_ne ne];exact k2⟩
theorem bw (he:JE X e g):JS X (.Return (some e) pos) (bR g):=⟨fun B=>(Np (he.h B)).imp fun D σ H ⟨S,F,o,R,h,k⟩=>by
  obtain⟨⟨u,S1⟩,h1,h⟩:=az h
  refine⟨S,F,u,S1,R,h1,fun v F1 H1 R1 st1 r1=>?_⟩
  cases u with
  | t d=>cases h;exact k v σ F1 H1 R1 st1.ext.le r1
  | b d=>cases h;cases r1
  | s d=>cases h
  | m o'=>cases h;exact k v σ F1 H1 R1 st1.ext.le (by obtain⟨a,e,h0,f,h,n,hB⟩:=r1;exact⟨a,e,hB,f,h,n,hB⟩)
  | v i =>
    obtain⟨hv,w,hw⟩:=r1
    dsimp only at h
    rw[hw] at h
    obtain⟨v',z1,z2⟩:=R1.rep i w hw
    rw[hv] at z1
    cases z1
    cases w with
    | t d=>cases h;exact k v σ F1 H1 R1 st1.ext.le z2
    | b d=>cases h
    | v d=>cases h
    | s d=>cases h
    | m o'=>
      cases h
      obtain⟨a,rfl,f,ha⟩:=z2
      have hB:=R1.own i o' a hw hv
      refine k _ σ F1 H1 (R1.drop hw) st1.ext.le ⟨a,rfl,hB,f,ha,fun⟨j,w,z,hm,hj⟩=>?_,hB⟩
      rcases get_set z with⟨_,q,_⟩ | ⟨ne,q⟩
      · cases q
      · exact ne (R1.EM i j _ w a hw rfl q hm hv hj)⟩
theorem cY (hc:JT X c q1) (ha:JB X b1 s1) (hb:JB X b2 s2):JS X (.If c b1 b2 pos) (gQ q1 s1 s2):=⟨fun B=>(QH (hc.h B) (ha.h B) (hb.h B)).imp fun D σ H ⟨S,F,o,R,h,k⟩=>by
 obtain⟨⟨d,S1⟩,h1,h⟩:=az h
 refine⟨S,F,d,S1,R,h1,fun F1 H1 R1 st1=>?_⟩
 cases d with
 | true=>exact BI ⟨S1,F1,o,R1,h,k.mono st1.ext.le⟩
 | false=>exact BH ⟨S1,F1,o,R1,h,k.mono st1.ext.le⟩⟩
noncomputable abbrev GB:=D→SS→Option SS
noncomputable def tBd (K:PySem.W.Frag) (B:Base) (bd:GB):TG:=fun v σ H Q=>∃S F d S',Rel K B S σ F H∧Rep F v d∧bd d S=some S'∧∀σ',Rel K B S' σ' F H→Q σ' H
structure JG (X:Cx) (tg:Expr) (bd:GB):Prop where
 h:∀B,PG X tg (tBd X.K B bd)
noncomputable abbrev HE:=List D→SS→Option SS
noncomputable def W8 (K:PySem.W.Frag) (B:Base) (bd:HE):KU:=fun vs σ H Q=>∃S F ds S',Rel K B S σ F H∧bW F vs ds∧bd ds S=some S'∧∀σ',Rel K B S' σ' F H→Q σ' H
structure U6 (X:Cx) (IM:List Expr) (bd:HE):Prop where
 h:∀B,MD X IM (W8 X.K B bd)
theorem PG.imp {tg:Expr}{t t':TG}(h:PG X tg t) (k:∀v σ H Q,t' v σ H Q→t v σ H Q):PG X tg t':=fun pins s σ H v u Q I r q=>h pins s σ H v u Q I r (k v σ H Q q)
theorem MD.imp {tg:List Expr}{t t':KU}(h:MD X tg t) (k:∀v σ H Q,t' v σ H Q→t v σ H Q):MD X tg t':=fun pins s σ H v u Q I r q=>h pins s σ H v u Q I r (k v σ H Q q)
noncomputable def bName (i:Nat):GB:=fun d S=>rW i (.t d) S
theorem gD {i:Nat}(hN:X.N.Nodup) (hi:X.N[i]? =some x) (hx:Loc X.env.scope x) (hf:X.fn x=true∨X.env.scope.names.lookup x=some .local:=by first | exact .inl rfl | exact .inr rfl | assumption):JG X (.Name x pos) (bName i):=
 ⟨fun B=>(Ey hN hi hx hf).imp fun v σ H Q ⟨S,F,d,S',R,r,h,k⟩=>k _ (R.put h r)⟩
noncomputable def N7:HE:=fun ds S=>match ds with
 | []=>some S
 | _=>none
noncomputable def BN (b:GB) (bs:HE):HE:=fun ds S=>match ds with
 | d :: r=>(b d S).bind fun S1=>bs r S1
 | []=>none
theorem Lo:U6 X [] N7:=⟨fun B=>KW.imp fun vs σ H Q ⟨S,F,ds,S',R,r,h,k⟩=>by
 cases r with
 | nil=>cases h;exact⟨rfl,k σ R⟩
 | cons _ _=>cases h⟩
theorem wX {tg:Expr}{IM:List Expr}{bd:GB}{Rw:HE}(h1:JG X tg bd) (h2:U6 X IM Rw) (hs:(assignEach (tg :: IM) X.env).map (·.2)=assign tg X.env :: (assignEach IM X.env).map (·.2):=by rfl):U6 X (tg :: IM) (BN bd Rw):=
 ⟨fun B=>(HS (h1.h B) (h2.h B) hs).imp fun vs σ H Q ⟨S,F,ds,S',R,r,h,k⟩=>by
 cases r with
 | nil=>cases h
 | cons r rs=>
  obtain⟨S1,e1,h⟩:=az h
  exact⟨_,_,rfl,S,F,_,S1,R,r,e1,fun σ1 R1=>⟨S1,F,_,S',R1,rs,h,k⟩⟩⟩
noncomputable def W9 (n:Nat) (bs:HE):GB:=fun d S=>match d with
 | .tup ds=>if ds.length=n then bs ds S else none
 | _=>none
noncomputable def N8 (bd:GB) (g:GD):GS:=fun S=>(g S).bind fun p=>(bd p.1 p.2).map .nx
theorem N9 {tg:Expr}{bd:GB}{gd:GD}(he:JD X e gd) (hg:JG X tg bd) (hs:swapsWithSole [tg] e pos.line X.env=pure false:=by rfl) (hw:swappedStores [tg] e X.env=pure none:=by rfl)
  (h1:(assignEach [tg] X.env).map (·.2)=[assign tg X.env]:=by rfl):JS X (.Assign [tg] e pos) (N8 bd gd):=
 ⟨fun B=>(HU (he.h B) (hg.h B) hs hw h1).imp fun D σ H ⟨S,F,o,R,h,k⟩=>by
 obtain⟨⟨d,S1⟩,e1,h⟩:=az h
 obtain⟨S2,e2,h⟩:=aG h
 subst h
 exact⟨S,F,d,S1,R,e1,fun v F1 H1 R1 st1 r1=>⟨S1,F1,d,S2,R1,r1,e2,fun σ' R2=>k σ' F1 H1 R2 st1.ext.le⟩⟩⟩
noncomputable def Walk (J:It) (F:Hp) (ds:List D):Prop:=∀F' H',(∀b o,F b=some o→F' b=some o)→Sub F' H'→∀i,(∀d,ds[i]? =some d→J.go i H'∧∀x H2,J.UY i H' x H2→H2=H'∧Rep F' x d)∧(ds.length≤i→J.stop i H')
noncomputable abbrev GI:=SS→Option (List D×SS)
noncomputable def tIt (K:PySem.W.Frag) (B:Base) (gi:GI):TI:=fun σ H R=>∃S F ds S',Rel K B S σ F H∧gi S=some (ds,S')∧∀J F' H',Rel K B S' σ F' H'→Step S S' σ F H F' H'→Walk J F' ds→R J H'
structure JI (X:Cx) (tg e:Expr) (gi:GI):Prop where
 h:∀B,PI X tg e (tIt X.K B gi)
theorem PI.orelse {tg:Expr}{wi:TI}(h:∀σ H R,wi σ H R→∃wi',PI X tg e wi'∧wi' σ H R):PI X tg e wi:=fun pins s σ H R I q=>let⟨_,h1,h2⟩:=h σ H R q;h1 pins s σ H R I h2
noncomputable def Xa (g:GD):GI:=fun S=>(g S).bind fun p=>match p.1 with
 | .tup ds=>some (ds,p.2)
 | .lst ds=>some (ds,p.2)
 | _=>none
noncomputable def iT (g:GD):GI:=fun S=>(g S).bind fun p=>match p.1 with
 | .tup ds=>some (ds,p.2)
 | .lst ds=>some (ds,p.2)
 | .str z=>some (z.cps.toList.map fun c=>.str ⟨#[c]⟩,p.2)
 | _=>none
theorem FY {K:PySem.W.Frag}{F:Hp}{a:Addr}{vs:List V}{ds:List D}(fa:F a=some (.lst vs)) (rs:bW F vs ds):Walk (Wx K a) F ds:=fun F' H' le sb i=>by
 have ha:qZ K H' a vs:=.inl (Rd.of (sb a _ (le _ _ fa)))
 refine⟨fun d hd=>?_,fun hl=>⟨vs,ha,by rw[rs.length];exact hl⟩⟩
 obtain⟨v,h1,h2⟩:=rs.get hd
 refine⟨⟨vs,v,ha,h1⟩,fun x H2 y=>⟨y.1,?_⟩⟩
 have:=y.2 vs ha
 rw[h1] at this
 cases this
 exact h2.le le
theorem IP {K:PySem.W.Frag}{F:Hp}{a:Addr}{vs:List V}{ds:List D}(fa:F a=some (.tup vs)) (rs:bW F vs ds):Walk (Wy K a) F ds:=fun F' H' le sb i=>by
 have ha:Ag K H' a vs:=.inl (Rd.of (sb a _ (le _ _ fa)))
 refine⟨fun d hd=>?_,fun hl=>⟨vs,ha,by rw[rs.length];exact hl⟩⟩
 obtain⟨v,h1,h2⟩:=rs.get hd
 refine⟨⟨vs,v,ha,h1⟩,fun x H2 y=>⟨y.1,?_⟩⟩
 have:=y.2 vs ha
 rw[h1] at this
 cases this
 exact h2.le le
theorem IQ {F:Hp}{z:Str}:Walk (W3 z) F (z.cps.toList.map fun c=>.str ⟨#[c]⟩):=fun F' H' le sb i=>by
 refine⟨fun d hd=>?_,fun hl=>(show z.cps.size≤i by simpa using hl)⟩
 rw[List.getElem?_map] at hd
 obtain⟨c,hc,rfl⟩:=aG hd
 have hc':z.cps[i]? =some c:=by rw[←Array.getElem?_toList];exact hc
 refine⟨(Array.getElem?_eq_some_iff.mp hc').1,fun x H2 y=>⟨y.1,?_⟩⟩
 obtain⟨c2,k1,rfl⟩:=y.2
 rw[hc'] at k1
 cases k1
 exact .str _
theorem iQ {gd:GD}(h:JD X e gd):JI X (.Name x pos) e (iT gd):=⟨fun B=>PI.orelse fun σ H R0 ⟨S,F,ds,S',R,hg,k⟩=>by
 obtain⟨⟨d,S1⟩,h1,hg⟩:=az hg
 cases d <;> try (cases hg)
 ·refine⟨_,N1 (h.h B),S,F,_,_,R,h1,fun v F1 H1 R1 st1 r1=>?_⟩
  exact⟨_,EO r1,k _ F1 H1 R1 st1 IQ⟩
 ·refine⟨_,Nu (h.h B),S,F,_,_,R,h1,fun v F1 H1 R1 st1 r1=>?_⟩
  obtain⟨a,vs,rfl,fa,ha,rs⟩:=R1.sub.mJ r1
  exact⟨a,rfl,⟨vs,.inl ha⟩,k _ F1 H1 R1 st1 (IP fa rs)⟩
 ·refine⟨_,KZ (h.h B),S,F,_,_,R,h1,fun v F1 H1 R1 st1 r1=>?_⟩
  obtain⟨a,vs,rfl,fa,ha,rs⟩:=R1.sub.jF r1
  exact⟨a,rfl,⟨vs,.inl ha⟩,k _ F1 H1 R1 st1 (FY fa rs)⟩⟩
noncomputable def jZ (lo:Int) (n:Nat):List D:=(List.range n).map fun(k:Nat)=>D.int (lo+(k:Int))
noncomputable def jJ (gA:GA):GI:=fun S=>(gA S).bind fun p=>match p.1 with
 | [.int j]=>if j < 1000000∧-1000000 < j then some (jZ 0 j.toNat,p.2) else none
 | _=>none
noncomputable def Rx (gA:GA):GI:=fun S=>(gA S).bind fun p=>match p.1 with
 | [.int i,.int j]=>if i < 1000000∧-1000000 < i∧j < 1000000∧-1000000 < j then some (jZ i (j - i).toNat,p.2) else none
 | _=>none
theorem IS {F:Hp}{lo:Int}{n:Nat}:Walk (UZ lo n) F (jZ lo n):=fun F' H' le sb i=>by
 refine⟨fun d hd=>?_,fun hl=>(show n≤i by simpa[jZ] using hl)⟩
 unfold jZ at hd
 rw[List.getElem?_map] at hd
 obtain⟨c,hc,rfl⟩:=aG hd
 obtain⟨hl,e⟩:=List.getElem?_eq_some_iff.mp hc
 rw[List.getElem_range] at e
 subst e
 refine⟨show i < n by simpa using hl,fun x H2 y=>⟨y.1,?_⟩⟩
 rw[y.2]
 exact .int _
theorem iE {tg : Expr} {gA : GA} (hg : Gl X "range") (hm : X.mg "range" = none) (ha : JA X [a] gA) (hs : starEach [a] X.env = [(false, eval a X.env)] := by rfl) : JI X tg (.Call (.Name "range" p) [a] [] pos) (jJ gA) :=
  ⟨fun B=>PI.orelse fun σ H R0 ⟨S,F,ds,S',R,hg',k⟩=>by
  obtain⟨⟨d,S1⟩,h1,hg'⟩:=az hg'
  refine⟨_,Fx hg hm (ha.h B) hs,S,F,d,S1,R,h1,fun vs F1 H1 R1 st1 r1=>?_⟩
  dsimp only at hg'
  split at hg'
  · split at hg'
    · rename_i j hj
      cases hg'
      cases r1 with
      | cons r rs=>
        cases rs
        exact⟨j,by rw[kK r],by omega,by omega,k _ F1 H1 R1 st1 IS⟩
    · cases hg'
  · cases hg'⟩
noncomputable def loop (bd:GB) (body:GS):List D→SS→Option Out
 | [],S=>some (.nx S)
 | d :: ds,S=>(bd d S).bind fun S1=>(body S1).bind fun o=>match o with
  | .nx S2=>loop bd body ds S2
  | .ct S2=>loop bd body ds S2
  | .bk S2=>some (.nx S2)
  | .rt u S2=>some (.rt u S2)
noncomputable def iF (bd:GB) (gi:GI) (body:GS):GS:=fun S=>(gi S).bind fun p=>loop bd body p.1 p.2
theorem lq {tg iter:Expr}{bd:GB}{gi:GI}(hp:PassesOwn (model X.prog X.w) X.A X.env X.xe) (hc:X.calm=true) (hi:JI X tg iter gi) (hg:JG X tg bd) (hb:JB X body s1) (hs:∀x,foldedSetIterable iter X.env x=pure x:=by intro _;rfl):
  JS X (.For tg iter body [] pos) (iF bd gi s1):=⟨fun B=>(Nv hp hc (hi.h B) (hg.h B) (hb.h B) hs).imp fun D σ H ⟨S,F,o,R,h,k⟩=>by
 obtain⟨⟨ds,S1⟩,h1,h⟩:=az h
 refine⟨S,F,ds,S1,R,h1,fun J F1 H1 R1 st1 w=>?_⟩
 refine⟨fun i m σ' H'=>∃S' F',Rel X.K B S' σ' F' H'∧(∀b o,F1 b=some o→F' b=some o)∧i≤ds.length∧m=ds.length - i∧loop bd s1 (ds.drop i) S'=some o,⟨_,S1,F1,R1,fun _ _ z=>z,Nat.zero_le _,rfl,h⟩,?_⟩
 rintro i m σ' H' ⟨S',F',R',le,hl,rfl,qb⟩
 have w':=w F' H' le R'.sub i
 by_cases hlt:i < ds.length
 ·have hd:ds[i]? =some ds[i]:=List.getElem?_eq_getElem hlt
  obtain⟨go,yl⟩:=w'.1 _ hd
  rw[List.drop_eq_getElem_cons hlt] at qb
  obtain⟨S2,e2,qb⟩:=az qb
  obtain⟨o2,e3,qb⟩:=az qb
  refine .inr ⟨go,_,fun σ2 H2 n=>⟨ds.length - (i+1),by omega,n⟩,fun x H2 y=>?_⟩
  obtain⟨rfl,rx⟩:=yl x H2 y
  refine⟨S',F',_,S2,R',rx,e2,fun σ3 R3=>⟨S2,F',o2,R3,e3,?_⟩⟩
  cases o2 with
  | nx S3=>exact fun Ry F4 H4 R4 Oa=>⟨S3,F4,R4,fun b o z=>Oa b o (le b o z),hlt,rfl,qb⟩
  | ct S3=>exact fun Ry F4 H4 R4 Oa=>⟨S3,F4,R4,fun b o z=>Oa b o (le b o z),hlt,rfl,qb⟩
  | bk S3=>cases qb;exact fun Ry F4 H4 R4 Oa=>k Ry F4 H4 R4 fun b o z=>Oa b o (le b o (st1.ext.le b o z))
  | rt u S3=>cases qb;exact fun v Ry F4 H4 R4 Oa=>k v Ry F4 H4 R4 fun b o z=>Oa b o (le b o (st1.ext.le b o z))
 ·have e:i=ds.length:=by omega
  subst e
  rw[List.drop_length] at qb
  cases qb
  exact .inl ⟨w'.2 (Nat.le_refl _),k σ' F' H' R' fun b o z=>le b o (st1.ext.le b o z)⟩⟩
end
end L2
end
section
set_option Elab.async false
set_option linter.all false
set_option maxRecDepth 100000
namespace L2
open PySem PySem.Spec PyProof.Rows
noncomputable def PN:U→MO→Option U
 | .m _,o=>some (.m o)
 | .b _,o=>some (.b o)
 | _,_=>none
noncomputable def PR:U→Option MO
 | .m o=>some o
 | .b o=>some o
 | _=>none
noncomputable def qc (S:SS) (i:Nat) (f:MO→Option (D×MO)):Option (D×SS):=match S[i]? with
 | some (some (.m o))=>(f o).map fun r=>(r.1,S.set i (some (.m r.2)))
 | some (some (.b o))=>(f o).map fun r=>(r.1,S.set i (some (.b r.2)))
 | _=>none
theorem At.Rz {F H:Hp}{a:Addr}{o:MO}{ob:Obj}{u:HO}(h:At F H a o):H a≠some (.kW ob u):=fun z=>by
 cases o with
 | lst ds=>obtain⟨vs,e,_⟩:=h;rw[z] at e;cases e
 | dct ds=>obtain⟨vs,e,_⟩:=h;rw[z] at e;cases e
 | yJ ds=>obtain⟨vs,e,_⟩:=h;rw[z] at e;cases e
theorem yK.eO {K:PySem.W.Frag}{F H:Hp}{v:V}{u:U}(r:yK K F H v u) (hm:g7 u=true):∃a o,v= .ref a∧F a=none∧PR u=some o∧At F H a o:=by
 cases u with
 | t d=>cases hm
 | v d=>cases hm
 | s d=>cases hm
 | m o=>obtain⟨a,e,f,h⟩:=r;exact⟨a,o,e,f,rfl,h⟩
 | b o=>obtain⟨a,e,f,h⟩:=r;exact⟨a,o,e,f,rfl,h⟩
theorem Rel.write {K : PySem.W.Frag} {B : Base} {S : SS} {σ : St} {F H : Hp} {i : Nat} {u u' : U} {a : Addr} {ho : HO} {o : MO} (R : Rel K B S σ F H) (hS : S[i]? = some (some u)) (hu : PN u o = some u') (hv : σ[i]? = some (some (.ref a))) (ha : At F (upd H a ho) a o) :
    Rel K B (S.set i (some u')) σ F (upd H a ho)∧Step S (S.set i (some u')) σ F H F (upd H a ho):=by
  have hm:g7 u=true∧g7 u'=true:=by cases u <;> cases hu <;> exact⟨rfl,rfl⟩
  have RA:F a=none∧∀b ob w,H b=some (.kW ob w)→b≠a:=by
    obtain⟨v,h1,h2⟩:=R.rep i u hS
    rw[hv] at h1
    cases h1
    obtain⟨b,_,e,f,_,k⟩:=h2.eO hm.1
    cases e
    exact⟨f,fun b ob w z e=>k.Rz (by rw[e] at z;exact z)⟩
  have RB:=RA.1
  have PU:∀b ob w,H b=some (.kW ob w)→upd H a ho b=some (.kW ob w):=fun b ob w z=>by rw[bI (RA.2 b ob w z)];exact z
  have mAt:L2.eO S σ a:=⟨i,u,hS,hm.1,hv⟩
  have hl:i < S.length:=(List.getElem?_eq_some_iff.mp hS).1
  have kb:∀{j w},(S.set i (some u'))[j]? =some (some w)→(i=j∧u'=w)∨(i≠j∧S[j]? =some (some w)):=fun {j w} z=>by
    rcases get_set z with⟨e,q,_⟩ | q
    · exact .inl ⟨e,Option.some.inj q⟩
    · exact .inr q
  have orig:∀{j w},(S.set i (some u'))[j]? =some (some w)→g7 w=true→∃w0,S[j]? =some (some w0)∧g7 w0=true:=fun {j w} z hw=>by
    rcases kb z with⟨rfl,rfl⟩ | ⟨_,q⟩
    · exact⟨u,hS,hm.1⟩
    · exact⟨w,q,hw⟩
  have keepR:∀b o,b≠a→Rd H b o→Rd (upd H a ho) b o:=fun b o ne r=>by
    rcases r with r | ⟨ob,r⟩
    · exact .inl (by rw[bI ne];exact r)
    · exact .inr ⟨ob,by rw[bI ne];exact r⟩
  refine⟨⟨fun b o z=>by rw[bI (fun e=>by rw[e,RB] at z;cases z)];exact R.sub b o z,by rw[List.length_set];exact R.len,fun j w z=>?_,fun j k w1 w2 c z1 m1 z2 m2=>?_,fun j o' c z hc=>?_,fun j o' c z hc=>?_,fun j c z=>?_,?_⟩,⟨?_,fun c ⟨j,w,z,hw,hc⟩=>?_,fun j w z=>?_⟩⟩
  · rcases kb z with⟨rfl,rfl⟩ | ⟨ne,q⟩
    · refine⟨.ref a,hv,?_⟩
      cases u <;> cases hu
      · exact⟨a,rfl,RB,ha⟩
      · exact⟨a,rfl,RB,ha⟩
    · obtain⟨v,h1,h2⟩:=R.rep j w q
      refine⟨v,h1,?_⟩
      by_cases hw:g7 w=true
      · obtain⟨c,o',rfl,f,e,h⟩:=h2.eO hw
        have hca:c≠a:=fun z=>ne (R.EM i j u w a hS hm.1 q hw hv (by rw[h1,z]))
        have h':At F (upd H a ho) c o':=h.le (fun _ _ z=>z) fun o z=>by rw[bI hca];exact z
        cases w <;> cases hw <;> cases e
        · exact⟨c,rfl,f,h'⟩
        · exact⟨c,rfl,f,h'⟩
      · cases w with
        | t d=>exact h2
        | v d=>exact h2
        | s d=>obtain⟨c,e,h⟩:=h2;exact⟨c,e,h.le PU⟩
        | m o=>exact absurd rfl hw
        | b o=>exact absurd rfl hw
  · obtain⟨Xb,q1,n1⟩:=orig z1 m1
    obtain⟨Xc,q2,n2⟩:=orig z2 m2
    exact R.EM j k Xb Xc c q1 n1 q2 n2
  · rcases kb z with⟨rfl,rfl⟩ | ⟨_,q⟩
    · cases u <;> cases hu
      exact R.own _ _ c hS hc
    · exact R.own j o' c q hc
  · rcases kb z with⟨rfl,rfl⟩ | ⟨_,q⟩
    · cases u <;> cases hu
      exact R.bor _ _ c hS hc
    · exact R.bor j o' c q hc
  · obtain⟨k1,o',k2⟩:=R.par j c z
    refine⟨k1,?_⟩
    by_cases e:i=j
    · subst e
      rw[hS] at k2
      cases k2
      cases hu
      exact⟨o,List.getElem?_set_self hl⟩
    · exact⟨o',by rw[List.getElem?_set_ne e];exact k2⟩
  · refine⟨R.ext.le,fun b o z n=>?_,R.ext.kX,fun b o z=>?_,fun b o w z=>PU b o w (R.ext.kW b o w z)⟩
    · have hb:b≠a:=fun e=>by
        subst e
        cases u with
        | m o'=>rw[R.own i o' b hS hv] at z;cases z
        | b o'=>exact n (R.bor i o' b hS hv)
        | t d=>cases hu
        | v d=>cases hu
        | s d=>cases hu
      rw[bI hb]
      exact R.ext.keep b o z n
    · by_cases hb:b=a
      · exact⟨ho,by rw[hb,bJ]⟩
      · rw[bI hb];exact R.ext.there b o z
  · refine⟨fun _ _ z=>z,fun b o z n=>?_,fun _ _ _ _ z=>z,fun b o z=>?_,PU⟩
    · rw[bI (fun e=>n (by rw[e];exact mAt))];exact z
    · by_cases hb:b=a
      · exact⟨ho,by rw[hb,bJ]⟩
      · exact⟨o,by rw[bI hb];exact z⟩
  · obtain⟨w0,q,n⟩:=orig z hw
    exact⟨j,w0,q,n,hc⟩
  · by_cases e:i=j
    · subst e;exact⟨u',List.getElem?_set_self hl⟩
    · exact⟨w,by rw[List.getElem?_set_ne e];exact z⟩
theorem uT {S S':SS}{i:Nat}{f:MO→Option (D×MO)}{d:D}(h:qc S i f=some (d,S')):∃u u' o o',S[i]? =some (some u)∧g7 u=true∧PR u=some o∧f o=some (d,o')∧PN u o'=some u'∧S'=S.set i (some u'):=by
 unfold qc at h
 split at h
 ·rename_i o e
  obtain⟨⟨d',o'⟩,h1,h⟩:=aG h
  cases h
  exact⟨_,_,o,o',e,rfl,rfl,h1,rfl,rfl⟩
 ·rename_i o e
  obtain⟨⟨d',o'⟩,h1,h⟩:=aG h
  cases h
  exact⟨_,_,o,o',e,rfl,rfl,h1,rfl,rfl⟩
 ·cases h
noncomputable def U7 (r:V→List V→Hp→VK→Prop) (h:List D→MO→Option (D×MO)):Prop:=
 ∀F H a vs xs ds args res o',Sub F H→H a=some (.lst vs)→F a=none→bW F vs ds→bW F xs args→h args (.lst ds)=some (res,o')→
  ∀Q:VK,(∀rv ho,Rep F rv res→At F (upd H a ho) a o'→Q rv (upd H a ho))→r (.ref a) xs H Q
noncomputable def fy:MO→Bool
 | .lst _=>true
 | _=>false
noncomputable def RC (S:SS) (i:Nat):Bool:=match S[i]? with
 | some (some (.m (.lst _)))=>true
 | some (some (.b (.lst _)))=>true
 | _=>false
theorem Ob {K:PySem.W.Frag}{B:Base}{S:SS}{σ:St}{F H:Hp}{i:Nat}(R:Rel K B S σ F H) (h:RC S i=true):∃u a vs ds,S[i]? =some (some u)∧g7 u=true∧PR u=some (.lst ds)∧σ[i]? =some (some (.ref a))∧F a=none∧H a=some (.lst vs)∧bW F vs ds:=by
 unfold RC at h
 split at h
 ·rename_i ds e
  obtain⟨v,k1,a,rfl,f,vs,k2,k3⟩:=R.rep i _ e
  exact⟨_,a,vs,ds,e,rfl,rfl,k1,f,k2,k3⟩
 ·rename_i ds e
  obtain⟨v,k1,a,rfl,f,vs,k2,k3⟩:=R.rep i _ e
  exact⟨_,a,vs,ds,e,rfl,rfl,k1,f,k2,k3⟩
 ·cases h
noncomputable def eM (i:Nat) (h:List D→MO→Option (D×MO)) (gA:GA):GD:=fun S=>if RC S i then(gA S).bind fun p=>qc p.2 i (h p.1) else none
theorem IT {K:PySem.W.Frag}{B:Base}{S:SS}{σ:St}{F H:Hp}{i:Nat}{a:Addr}{u:U}{ds:List D}(R:Rel K B S σ F H) (hS:S[i]? =some (some u)) (hm:g7 u=true) (hi:PR u=some (.lst ds)) (hv:σ[i]? =some (some (.ref a))):F a=none∧∃vs,H a=some (.lst vs)∧bW F vs ds:=by
 obtain⟨v,k1,k2⟩:=R.rep i u hS
 rw[hv] at k1
 cases k1
 obtain⟨b,o2,e1,f,e2,k⟩:=k2.eO hm
 cases e1
 rw[hi] at e2
 cases e2
 exact⟨f,k⟩
section
variable {X:Cx}{a b c e:Expr}{es:List Expr}{pos p p2 apos cpos px:Pos}{x name:Str}{g ga gb gc:GD}{gA:GA}{id:String}
theorem rA {i:Nat}{r:V→List V→Hp→VK→Prop}{h:List D→MO→Option (D×MO)}(slot:Slot "list" name id) (hty:typeOf (.builtin id)=pure (.type "method_descriptor")) (hm:NT X id r) (hh:U7 r h) (hl:∀args o,fy o=false→h args o=none) (ha:JA X (e :: es) gA)
  (hN:X.N[i]? =some x:=by rfl) (hv:HC X.env.scope x:=by first | exact Or.inl rfl | exact Or.inr (Or.inl rfl) | exact Or.inr (Or.inr rfl))
  (hbase:attributeBase (.Name x px) name X.env (eval (.Name x px) X.env)=eval (.Name x px) X.env:=by rfl)
  (hfew:((backTo cpos (starEach (e :: es) X.env)).all (fun x=>!x.1) && (backToKw cpos (keywordEach [] X.env)).all (fun x=>x.1.isSome)
   && decide ((e :: es).length+([]:List Keyword).length+(if([]:List Keyword).isEmpty then 0 else 1) < 30))=true:=by rfl)
  (hline:(apos.endLine == cpos.line)=true:=by rfl) (hs:starEach (e :: es) X.env=(false,eval e X.env) :: starEach es X.env:=by rfl) (hplain:(backTo cpos (starEach es X.env)).any (·.1)=false:=by rfl)
  (hd:(x == ("__debug__":Str))=false:=by decide) (hcd:(x == ("__classdict__":Str))=false:=by decide):
  JD X (.Call (.Attribute (.Name x px) name apos) (e :: es) [] cpos) (eM i h gA):=
 ⟨fun B=>(Rj PySem.F.plainAttrs_list slot hty hm (jD hN hv hd hcd) (ha.h B) hbase hfew hline hs hplain).imp fun σ H Q ⟨S,F,d,S',R,hg,q⟩=>by
 unfold eM at hg
 split at hg
 ·rename_i hL
  obtain⟨⟨args,S1⟩,h1,hg⟩:=az hg
  obtain⟨u,u',o,o',hS,MR,hio,hf,Oc,rfl⟩:=uT hg
  obtain⟨u0,a,vs0,ds0,_,_,_,hv0,_,hH,_⟩:=Ob R hL
  cases o with
  | dct kvs=>rw[hl _ _ rfl] at hf;cases hf
  | yJ kvs=>rw[hl _ _ rfl] at hf;cases hf
  | lst ds=>
   refine⟨.ref a,hv0,.inl ⟨rfl,vs0,qZ.of hH⟩,S,F,args,S1,R,h1,fun xs F1 H1 R1 st1 r1=>?_⟩
   obtain⟨hf1,vs,hH1,rs⟩:=IT R1 hS MR hio hv0
   refine hh F1 H1 a vs xs ds args d o' R1.sub hH1 hf1 rs r1 hf Q fun rv ho rr ha=>?_
   obtain⟨R2,st2⟩:=R1.write hS Oc hv0 ha
   exact q rv F1 _ R2 (st1.trans st2) rr
 ·cases hg⟩
noncomputable def hAppend:List D→MO→Option (D×MO)
 | [d],.lst ds=>if ds.length < 100000 then some (.cW,.lst (ds++[d])) else none
 | _,_=>none
theorem rB : U7 EK hAppend := by
  intro F H a vs xs ds args res o' sb hH fa rs rx hw Q q
  unfold hAppend at hw
  split at hw
  · rename_i d ds' e2
    cases e2
    split at hw
    · rename_i hl
      cases hw
      cases rx with
      | cons r rr=>
        cases rr
        exact⟨a,vs,_,rfl,rfl,hH,by rw[rs.length];exact Nat.lt_of_lt_of_le hl (by decide),q .cW _ .cW ⟨_,bJ,rs.append (.cons r .nil)⟩⟩
    · cases hw
  · cases hw
noncomputable def oK:List D→MO→Option (D×MO)
 | [.int i],.lst ds=>if -(2 ^ 63)≤i∧i < 2 ^ 63 then(seqIndex? i ds.length).bind fun k=>(ds[k]?).map fun d=>(d,.lst (ds.eraseIdx k)) else none
 | _,_=>none
theorem bW.eraseIdx {F:Hp}:∀{vs:List V}{ds:List D}(k:Nat),bW F vs ds→bW F (vs.eraseIdx k) (ds.eraseIdx k)
 | _,_,_,.nil=>.nil
 | _,_,0,.cons _ rs=>rs
 | _,_,k+1,.cons r rs=>.cons r (bW.eraseIdx k rs)
theorem IU : U7 Iq oK := by
  intro F H a vs xs ds args res o' sb hH fa rs rx hw Q q
  unfold oK at hw
  split at hw
  · rename_i i ds' e2
    cases e2
    split at hw
    · rename_i hb
      obtain⟨k,hk,hw⟩:=az hw
      obtain⟨d,hd,hw⟩:=aG hw
      cases hw
      cases rx with
      | cons r rr=>
        cases rr
        obtain⟨v,k1,k2⟩:=rs.get hd
        exact⟨a,vs,i,k,v,rfl,by rw[kK r],hH,hb.1,hb.2,by rw[rs.length];exact hk,k1,q v _ k2 ⟨_,bJ,rs.eraseIdx k⟩⟩
    · cases hw
  · cases hw
noncomputable def BO:List D→MO→Option (D×MO)
 | [],.lst ds=>some (.cW,.lst ds.reverse)
 | _,_=>none
theorem bW.reverse {F:Hp}:∀{vs:List V}{ds:List D},bW F vs ds→bW F vs.reverse ds.reverse
 | _,_,.nil=>.nil
 | _,_,.cons r rs=>by rw[List.reverse_cons,List.reverse_cons];exact(bW.reverse rs).append (.cons r .nil)
end
end L2
end
section
set_option Elab.async false
set_option linter.all false
set_option maxRecDepth 100000
namespace L2
open PySem PySem.Spec PyProof.Rows
theorem mG.step {K:PySem.W.Frag}{B:Base}{S S':SS}{σ:St}{H0 F H F' H':Hp}{v:V}{u:U}(r:mG K B S σ H0 F H v u) (st:Step S S' σ F H F' H'):mG K B S' σ H0 F' H' v u:=by
 cases u with
 | t d=>exact r.le st.ext.le
 | b o=>exact r
 | v i=>obtain⟨h1,u,h2⟩:=r;exact⟨h1,st.slots i u h2⟩
 | s i=>obtain⟨a,e,h⟩:=r;exact⟨a,e,h.le st.ext.kW⟩
 | m o=>
  obtain⟨a,e,h0,f,h,n,hB⟩:=r
  obtain⟨ho,hh⟩:=h.has
  exact⟨a,e,h0,st.ext.kX a ho hh n f,h.le st.ext.le fun o z=>st.ext.keep a o z n,fun m=>n (st.mu a m),hB⟩
noncomputable abbrev GU:=SS→Option (List U×SS)
noncomputable def tAU (K:PySem.W.Frag) (B:Base) (gu:GU):TA:=fun σ H Q=>∃S F us S',Rel K B S σ F H∧gu S=some (us,S')∧∀vs F' H',Rel K B S' σ F' H'→Step S S' σ F H F' H'→Paired (fun v u=>mG K B S' σ H F' H' v u) vs us→Q vs H'
structure JU (X:Cx) (es:List Expr) (gu:GU):Prop where
 h:∀B,PA X es (tAU X.K B gu)
 len:∀S us S',gu S=some (us,S')→us.length=es.length
noncomputable def br:GU:=fun S=>some ([],S)
noncomputable def aP (g:GD) (gu:GU):GU:=fun S=>(g S).bind fun p=>(gu p.2).map fun q=>(.t p.1 :: q.1,q.2)
noncomputable def cy (g:GE) (gu:GU):GU:=fun S=>(g S).bind fun p=>(gu p.2).map fun q=>(p.1 :: q.1,q.2)
section
variable {X:Cx}{e:Expr}{es:List Expr}{g:GD}{ge:GE}{gu:GU}
theorem aV:JU X [] br:=⟨fun B=>Ai.imp fun σ H Q ⟨S,F,us,S',R,hg,q⟩=>by
 cases hg
 exact q [] F H R (Step.refl ..) .nil,fun S us S' h=>by cases h;rfl⟩
theorem aF (h:JD X e g) (hr:JU X es gu) (hs:starEach (e :: es) X.env=(false,eval e X.env) :: starEach es X.env:=by rfl):JU X (e :: es) (aP g gu):=
 ⟨fun B=>(q8 (h.h B) (hr.h B) hs).imp fun σ H Q ⟨S,F,us,S',R,hg,q⟩=>by
 obtain⟨⟨d,S1⟩,h1,hg⟩:=az hg
 obtain⟨⟨Od,S2⟩,h2,hg⟩:=aG hg
 cases hg
 exact⟨S,F,d,S1,R,h1,fun v F1 H1 R1 st1 r1=>⟨S1,F1,Od,S2,R1,h2,fun vs F2 H2 R2 st2 r2=>q _ F2 H2 R2 (st1.trans st2) (.cons (r1.le st2.ext.le) (Paired.Fq r2 fun _ _ z=>z.weak st1.ext.there))⟩⟩,
 fun S us S' hg=>by
  obtain⟨⟨d,S1⟩,h1,hg⟩:=az hg
  obtain⟨⟨Od,S2⟩,h2,hg⟩:=aG hg
  cases hg
  show Od.length+1=es.length+1
  rw[hr.len _ _ _ h2]⟩
theorem bK (h:JE X e ge) (hr:JU X es gu) (hs:starEach (e :: es) X.env=(false,eval e X.env) :: starEach es X.env:=by rfl):JU X (e :: es) (cy ge gu):=
 ⟨fun B=>(q8 (h.h B) (hr.h B) hs).imp fun σ H Q ⟨S,F,us,S',R,hg,q⟩=>by
 obtain⟨⟨d,S1⟩,h1,hg⟩:=az hg
 obtain⟨⟨Od,S2⟩,h2,hg⟩:=aG hg
 cases hg
 exact⟨S,F,d,S1,R,h1,fun v F1 H1 R1 st1 r1=>⟨S1,F1,Od,S2,R1,h2,fun vs F2 H2 R2 st2 r2=>q _ F2 H2 R2 (st1.trans st2) (.cons (r1.step st2) (Paired.Fq r2 fun _ _ z=>z.weak st1.ext.there))⟩⟩,
 fun S us S' hg=>by
  obtain⟨⟨d,S1⟩,h1,hg⟩:=az hg
  obtain⟨⟨Od,S2⟩,h2,hg⟩:=aG hg
  cases hg
  show Od.length+1=es.length+1
  rw[hr.len _ _ _ h2]⟩
end
noncomputable def resolve (S:SS):U→Option U
 | .t d=>some (.t d)
 | .v i=>match S[i]? with
  | some (some (.m o))=>some (.b o)
  | some (some (.b o))=>some (.b o)
  | _=>none
 | .m o=>some (.b o)
 | .b _=>none
 | .s ns=>some (.s ns)
noncomputable def dU (S:SS):List U→Option (List U)
 | []=>some []
 | u :: us=>(resolve S u).bind fun w=>(dU S us).map fun ws=>w :: ws
noncomputable def slotsOf:List U→List Nat
 | []=>[]
 | .v i :: us=>i :: slotsOf us
 | _ :: us=>slotsOf us
noncomputable def eu:List U→Nat
 | []=>0
 | .m _ :: us=>eu us+1
 | _ :: us=>eu us
noncomputable def wb:List U→List MO→SS→Option SS
 | [],[],S=>some S
 | .v i :: us,o :: outs,S=>match S[i]? with
  | some (some (.m _))=>wb us outs (S.set i (some (.m o)))
  | some (some (.b _))=>wb us outs (S.set i (some (.b o)))
  | _=>none
 | .m _ :: us,_ :: outs,S=>wb us outs S
 | .t _ :: us,outs,S=>wb us outs S
 | .s _ :: us,outs,S=>wb us outs S
 | _,_,_=>none
noncomputable abbrev FM:=List U→Option (U×List MO)
noncomputable def aL (f:FM) (gu:GU):GE:=fun S=>(gu S).bind fun p=>
 if(slotsOf p.1).Nodup∧eu p.1≤1 then(dU p.2 p.1).bind fun us=>(f us).bind fun r=>(wb p.1 r.2 p.2).map fun S2=>(r.1,S2) else none
noncomputable def IV (K:PySem.W.Frag) (F H:Hp) (v:V):U→Prop
 | .s ns=>∃a,v= .ref a∧Ll K H a ns
 | .t d=>Rep F v d
 | .b o=>∃a,v= .ref a∧F a=none∧At F H a o
 | _=>False
noncomputable def addrs:List V→List U→List Addr
 | .ref a :: vs,.b _ :: us=>a :: addrs vs us
 | _ :: vs,_ :: us=>addrs vs us
 | _,_=>[]
structure Post (F H F' H':Hp) (as:List Addr) (outs:List MO):Prop where
 sub:Sub F' H'
 ext:Ext (fun a=>a∈as) F H F' H'
 out:Paired (fun a o=>F' a=none∧At F' H' a o) as outs
noncomputable def spT (K:PySem.W.Frag) (n:Nat) (f:FM):Sp:=fun vs H Q _=>vs.length=n∧∃F us r outs,Sub F H∧Paired (IV K F H) vs us∧(addrs vs us).Nodup∧f us=some (r,outs)∧∀v F' H',Post F H F' H' (addrs vs us) outs→Dn H F' H' v r→Q v H'
section
variable {K:PySem.W.Frag}{B:Base}{S S1 S2:SS}{σ:St}{H0 F H F' H':Hp}
theorem rC {i:Nat}{w:U}(h:resolve S (.v i)=some w):∃u o,S[i]? =some (some u)∧g7 u=true∧PR u=some o∧w= .b o:=by
 unfold resolve at h
 dsimp only at h
 split at h
 ·rename_i o e;cases h;exact⟨_,o,e,rfl,rfl,rfl⟩
 ·rename_i o e;cases h;exact⟨_,o,e,rfl,rfl,rfl⟩
 ·cases h
theorem As (R:Rel K B S σ F H):∀{vs:List V}{us ws:List U},Paired (fun v u=>mG K B S σ H0 F H v u) vs us→dU S us=some ws→Paired (IV K F H) vs ws
 | _,_,_,.nil,h=>by cases h;exact .nil
 | _,_,_,@Paired.cons _ _ _ v u vs us r rs,h=>by
  obtain⟨w,h1,h⟩:=az h
  obtain⟨ws,h2,h⟩:=aG h
  subst h
  refine .cons ?_ (As R rs h2)
  cases u with
  | t d=>cases h1;exact r
  | s d=>cases h1;exact r
  | b o=>cases h1
  | m o=>cases h1;obtain⟨a,e,_,f,k,_⟩:=r;exact⟨a,e,f,k⟩
  | v i=>
   obtain⟨u,o,hu,hm,hi,rfl⟩:=rC h1
   obtain⟨hv,_⟩:=r
   obtain⟨v',k1,k2⟩:=R.rep i u hu
   rw[hv] at k1
   cases k1
   obtain⟨a,o2,e,f,e2,k⟩:=k2.eO hm
   rw[hi] at e2
   cases e2
   exact⟨a,e,f,k⟩
theorem uc (R : Rel K B S σ F H) : ∀ {vs : List V} {us ws : List U}, Paired (fun v u => mG K B S σ H0 F H v u) vs us → dU S us = some ws → ∀ a ∈ addrs vs ws,
    (∃i u,i∈slotsOf us∧S[i]? =some (some u)∧g7 u=true∧σ[i]? =some (some (.ref a)))∨(0 < eu us∧H0 a=none∧B.H a=none∧¬eO S σ a)
  | _,_,_,.nil,h,a,ha=>by cases h;cases ha
  | _,_,_,@Paired.cons _ _ _ v u vs us r rs,h,a,ha=>by
    obtain⟨w,h1,h⟩:=az h
    obtain⟨ws,h2,h⟩:=aG h
    subst h
    have ih:=uc R rs h2
    cases u with
    | t d=>
      cases h1
      have ha:a∈addrs vs ws:=by cases v <;> exact ha
      exact ih a ha
    | s d=>
      cases h1
      have ha:a∈addrs vs ws:=by cases v <;> exact ha
      exact ih a ha
    | b o=>cases h1
    | m o =>
      cases h1
      obtain⟨c,rfl,k0,f,k,n,hB⟩:=r
      rcases List.mem_cons.mp (show a∈c :: addrs vs ws from ha) with rfl | ha
      · exact .inr ⟨Nat.succ_pos _,k0,hB,n⟩
      · rcases ih a ha with z | ⟨_,z⟩
        · exact .inl z
        · exact .inr ⟨Nat.succ_pos _,z⟩
    | v i =>
      obtain⟨u,o,hu,hm,hi,rfl⟩:=rC h1
      obtain⟨hv,_⟩:=r
      obtain⟨v',k1,k2⟩:=R.rep i u hu
      rw[hv] at k1
      cases k1
      obtain⟨c,o2,rfl,f,e2,k⟩:=k2.eO hm
      rcases List.mem_cons.mp (show a∈c :: addrs vs ws from ha) with rfl | ha
      · exact .inl ⟨i,u,List.mem_cons_self,hu,hm,hv⟩
      · rcases ih a ha with⟨j,w,z,z2⟩ | z
        · exact .inl ⟨j,w,List.mem_cons_of_mem _ z,z2⟩
        · exact .inr z
theorem jl (R : Rel K B S σ F H) : ∀ {vs : List V} {us ws : List U}, Paired (fun v u => mG K B S σ H0 F H v u) vs us → dU S us = some ws → (slotsOf us).Nodup → eu us ≤ 1 → (addrs vs ws).Nodup
  | _,_,_,.nil,h,_,_=>by cases h;exact List.nodup_nil
  | _,_,_,@Paired.cons _ _ _ v u vs us r rs,h,nd,fr=>by
    obtain⟨w,h1,h⟩:=az h
    obtain⟨ws,h2,h⟩:=aG h
    subst h
    cases u with
    | t d=>
      cases h1
      have:=jl R rs h2 nd fr
      cases v <;> exact this
    | s d=>
      cases h1
      have:=jl R rs h2 nd fr
      cases v <;> exact this
    | b o=>cases h1
    | m o=>
      cases h1
      have fr0:eu us=0:=by have:eu us+1≤1:=fr;omega
      obtain⟨c,rfl,k0,f,k,n,hB⟩:=r
      refine List.nodup_cons.mpr ⟨fun hc=>?_,jl R rs h2 nd (by omega)⟩
      rcases uc R rs h2 c hc with⟨j,w,_,z1,z2,z3⟩ | ⟨z,_⟩
      · exact n ⟨j,w,z1,z2,z3⟩
      · omega
    | v i =>
      obtain⟨u,o,hu,hm,hi,rfl⟩:=rC h1
      obtain⟨hv,_⟩:=r
      obtain⟨v',k1,k2⟩:=R.rep i u hu
      rw[hv] at k1
      cases k1
      obtain⟨c,o2,rfl,f,e2,k⟩:=k2.eO hm
      obtain⟨Xd,Xe⟩:=List.nodup_cons.mp (show(i :: slotsOf us).Nodup from nd)
      refine List.nodup_cons.mpr ⟨fun hc=>?_,jl R rs h2 Xe fr⟩
      rcases uc R rs h2 c hc with⟨j,w,z0,z1,z2,z3⟩ | ⟨_,_,_,z⟩
      · have:=R.EM i j u w c hu hm z1 z2 hv z3
        subst this
        exact Xd z0
      · exact z ⟨i,u,hu,hm,hv⟩
theorem ud (R : Rel K B S σ F H) (P : Addr → MO → Prop) : ∀ {vs : List V} {us ws : List U} {outs : List MO} {S1 S2 : SS}, Paired (fun v u => mG K B S σ H0 F H v u) vs us → dU S us = some ws → wb us outs S1 = some S2 → (slotsOf us).Nodup → Paired P (addrs vs ws) outs →
    S2.length=S1.length∧(∀j,j∉slotsOf us→S2[j]? =S1[j]?)∧∀j∈slotsOf us,∃u u' o a,S1[j]? =some (some u)∧PN u o=some u'∧S2[j]? =some (some u')∧σ[j]? =some (some (.ref a))∧P a o
  | _,_,_,_,_,_,.nil,h,hw,_,hp=>by
    cases h
    cases hp
    cases hw
    exact⟨rfl,fun _ _=>rfl,fun j hj=>by cases hj⟩
  | _, _, _, outs, S1, S2, @Paired.cons _ _ _ v u vs us r rs, h, hw, nd, hp => by
    obtain⟨w,h1,h⟩:=az h
    obtain⟨ws,h2,h⟩:=aG h
    subst h
    cases u with
    | t d =>
      cases h1
      have hp:Paired P (addrs vs ws) outs:=by cases v <;> exact hp
      have hw:wb us outs S1=some S2:=by
        cases outs <;> exact hw
      have ih:=ud R P rs h2 hw nd hp
      exact ih
    | s d =>
      cases h1
      have hp:Paired P (addrs vs ws) outs:=by cases v <;> exact hp
      have hw:wb us outs S1=some S2:=by
        cases outs <;> exact hw
      have ih:=ud R P rs h2 hw nd hp
      exact ih
    | b o=>cases h1
    | m o =>
      cases h1
      obtain⟨c,rfl,k0,f,k,n,hB⟩:=r
      cases hp with
      | cons p1 p2=>
        have ih:=ud R P rs h2 (show wb us _ S1=some S2 from hw) nd p2
        exact ih
    | v i =>
      obtain⟨u0,o0,hu,hm,hi,rfl⟩:=rC h1
      obtain⟨hv,_⟩:=r
      obtain⟨v',k1,k2⟩:=R.rep i u0 hu
      rw[hv] at k1
      cases k1
      obtain⟨c,o2,rfl,f,e2,k⟩:=k2.eO hm
      obtain⟨Xd,Xe⟩:=List.nodup_cons.mp (show(i :: slotsOf us).Nodup from nd)
      cases hp with
      | @cons _ o _ outs p1 p2 =>
        have go : ∀ u u', S1[i]? = some (some u) → PN u o = some u' → wb us outs (S1.set i (some u')) = some S2 → S2.length = S1.length ∧ (∀ j, j ∉ i :: slotsOf us → S2[j]? = S1[j]?) ∧ ∀ j ∈ i :: slotsOf us, ∃ u u' o a, S1[j]? = some (some u) ∧ PN u o = some u' ∧ S2[j]? = some (some u') ∧ σ[j]? = some (some (.ref a)) ∧ P a o := fun u u' e1 e2 hw => by
          obtain⟨l,out,FW⟩:=ud R P rs h2 hw Xe p2
          refine⟨by rw[l,List.length_set],fun j hj=>?_,fun j hj=>?_⟩
          · rw[out j fun z=>hj (List.mem_cons_of_mem _ z),List.getElem?_set_ne fun z=>hj (by rw[z];exact List.mem_cons_self)]
          · by_cases e:i=j
            · subst e
              exact⟨u,u',o,c,e1,e2,by rw[out i Xd];exact List.getElem?_set_self (List.getElem?_eq_some_iff.mp e1).1,hv,p1⟩
            · rcases List.mem_cons.mp hj with z | z
              · exact absurd z.symm e
              · obtain⟨w,w',o',a',q1,q2,q3,q4,q5⟩:=FW j z
                rw[List.getElem?_set_ne e] at q1
                exact⟨w,w',o',a',q1,q2,q3,q4,q5⟩
        unfold wb at hw
        split at hw
        · rename_i o' e;exact go _ _ e rfl hw
        · rename_i o' e;exact go _ _ e rfl hw
        · cases hw
end
theorem wY {K : PySem.W.Frag} {B : Base} {S0 S S2 : SS} {σ : St} {F0 H0 F H F' H' : Hp} {vs : List V} {us ws : List U} {outs : List MO} (R : Rel K B S σ F H) (st : Step S0 S σ F0 H0 F H) (rr : Paired (fun v u => mG K B S σ H0 F H v u) vs us) (hr : dU S us = some ws) (hw : wb us outs S = some S2) (nd : (slotsOf us).Nodup) (p : Post F H F' H' (addrs vs ws) outs) :
    Rel K B S2 σ F' H'∧Step S0 S2 σ F0 H0 F' H'∧∀a,eO S2 σ a→eO S σ a:=by
  obtain⟨hl,out,FW⟩:=ud R (fun a o=>F' a=none∧At F' H' a o) rr hr hw nd p.out
  have reM:∀{u:U}{o:MO}{u':U},PN u o=some u'→g7 u=true∧g7 u'=true∧PR u'=some o:=fun {u o u'} h=>by cases u <;> cases h <;> exact⟨rfl,rfl,rfl⟩
  have orig:∀{j w},S2[j]? =some (some w)→g7 w=true→∃w0,S[j]? =some (some w0)∧g7 w0=true:=fun {j w} z hm=>by
    by_cases hj:j∈slotsOf us
    · obtain⟨u,u',o,a,q1,q2,q3,q4,q5⟩:=FW j hj
      exact⟨u,q1,(reM q2).1⟩
    · rw[out j hj] at z;exact⟨w,z,hm⟩
  have mu:∀a,eO S2 σ a→eO S σ a:=fun a ⟨j,w,z,hm,hv⟩=>let⟨w0,q,n⟩:=orig z hm;⟨j,w0,q,n,hv⟩
  have EU:=uc R rr hr
  refine⟨⟨p.sub,by rw[hl];exact R.len,fun j w z=>?_,fun j k w1 w2 c z1 m1 z2 m2=>?_,fun j o a z hv=>?_,fun j o a z hv=>?_,fun j a z=>?_,?_⟩,⟨⟨?_,?_,?_,?_,fun b o u z=>p.ext.kW b o u (st.ext.kW b o u z)⟩,fun a m=>st.mu a (mu a m),fun j u z=>?_⟩,mu⟩
  · by_cases hj:j∈slotsOf us
    · obtain⟨u,u',o,a,q1,q2,q3,q4,q5,q6⟩:=FW j hj
      rw[q3] at z
      cases z
      refine⟨.ref a,q4,?_⟩
      cases u <;> cases q2
      · exact⟨a,rfl,q5,q6⟩
      · exact⟨a,rfl,q5,q6⟩
    · rw[out j hj] at z
      obtain⟨v,h1,h2⟩:=R.rep j w z
      refine⟨v,h1,h2.le p.ext.le p.ext.kW fun a hm ha=>?_⟩
      have hna:a∉addrs vs ws:=fun hc=>by
        rcases EU a hc with⟨i,u,q0,q1,q2,q3⟩ | ⟨_,_,_,q⟩
        · have:=R.EM i j u w a q1 q2 z hm q3 (by rw[h1,ha])
          subst this
          exact hj q0
        · exact q ⟨j,w,z,hm,by rw[h1,ha]⟩
      obtain⟨c,o,e,f,_,k⟩:=h2.eO hm
      rw[ha] at e
      cases e
      obtain⟨ho,hh⟩:=k.has
      exact⟨fun o q=>p.ext.keep a o q hna,p.ext.kX a ho hh hna f⟩
  · obtain⟨Xb,q1,n1⟩:=orig z1 m1
    obtain⟨Xc,q2,n2⟩:=orig z2 m2
    exact R.EM j k Xb Xc c q1 n1 q2 n2
  · by_cases hj:j∈slotsOf us
    · obtain⟨u,u',o',a',q1,q2,q3,q4,q5⟩:=FW j hj
      rw[q3] at z
      cases z
      cases u <;> cases q2
      exact R.own j _ a q1 hv
    · rw[out j hj] at z;exact R.own j o a z hv
  · by_cases hj:j∈slotsOf us
    · obtain⟨u,u',o',a',q1,q2,q3,q4,q5⟩:=FW j hj
      rw[q3] at z
      cases z
      cases u <;> cases q2
      exact R.bor j _ a q1 hv
    · rw[out j hj] at z;exact R.bor j o a z hv
  · obtain⟨k1,o,k2⟩:=R.par j a z
    refine⟨k1,?_⟩
    by_cases hj:j∈slotsOf us
    · obtain⟨u,u',o',a',q1,q2,q3,q4,q5⟩:=FW j hj
      rw[k2] at q1
      cases q1
      cases q2
      exact⟨_,q3⟩
    · exact⟨o,by rw[out j hj];exact k2⟩
  · refine R.ext.trans p.ext fun b hb=>?_
    rcases EU b hb with⟨i,u,q0,q1,q2,q3⟩ | ⟨_,_,q,_⟩
    · cases u with
      | t d=>cases q2
      | v d=>cases q2
      | s d=>cases q2
      | m o=>exact .inr (R.own i o b q1 q3)
      | b o=>exact .inl (R.bor i o b q1 q3)
    · exact .inr q
  · exact fun b o h=>p.ext.le b o (st.ext.le b o h)
  · intro b o h n
    refine p.ext.keep b o (st.ext.keep b o h n) fun hb=>?_
    rcases EU b hb with⟨i,u,q0,q1,q2,q3⟩ | ⟨_,q,_⟩
    · exact n (st.mu b ⟨i,u,q1,q2,q3⟩)
    · rw[h] at q;cases q
  · intro b o h n f
    refine p.ext.kX b o (st.ext.keep b o h n) (fun hb=>?_) (st.ext.kX b o h n f)
    rcases EU b hb with⟨i,u,q0,q1,q2,q3⟩ | ⟨_,q,_⟩
    · exact n (st.mu b ⟨i,u,q1,q2,q3⟩)
    · rw[h] at q;cases q
  · intro b o h
    obtain⟨o',h'⟩:=st.ext.there b o h
    exact p.ext.there b o' h'
  · obtain⟨u',h'⟩:=st.slots j u z
    by_cases hj:j∈slotsOf us
    · obtain⟨_,u2,_,_,_,_,q3,_⟩:=FW j hj
      exact⟨u2,q3⟩
    · exact⟨u',by rw[out j hj];exact h'⟩
section
variable {X:Cx}{e:Expr}{es:List Expr}{gu:GU}{x:Str}{p pos:Pos}{f:FM}{fa:Addr}{fd:FuncData}{ps:List Str}{k n:Nat}
theorem aK (F:bT X.prog X.w X.K X.mg X.base ff k fa fd ps (spT X.K n f)) (hr:lM k X.A) (hg:Gl X x) (hm:X.mg x=some (.ref fa)) (hk:PySem.W.keepIn X.K (.ref fa)=true) (hb:Binds X.K fd ps []) (ha:JU X (e :: es) gu) (hn:(e :: es).length=n:=by rfl)
  (hdb:(x == ("__debug__":Str))=false:=by decide) (he:starEach (e :: es) X.env=(false,eval e X.env) :: starEach es X.env:=by rfl) (hpl:(backTo pos (starEach es X.env)).any (·.1)=false:=by rfl):
  JE X (.Call (.Name x p) (e :: es) [] pos) (aL f gu):=⟨fun B=>(K3 F hr hg hm hk hb .nil Rk (ha.h B) hdb he hpl).imp fun σ H Q ⟨S,F0,u,S',R,hg,q⟩=>by
 obtain⟨⟨us,S1⟩,h1,hg⟩:=az hg
 dsimp only at hg
 split at hg
 ·rename_i hc
  obtain⟨ws,h2,hg⟩:=az hg
  obtain⟨⟨r,outs⟩,h3,hg⟩:=az hg
  obtain⟨S2,h4,hg⟩:=aG hg
  cases hg
  refine⟨S,F0,us,S1,R,h1,fun vs F1 H1 R1 st1 rr=>?_⟩
  show spT X.K n f (vs++[]) H1 Q E0
  rw[List.append_nil]
  have hlen:vs.length=n:=by rw[rr.length,ha.len _ _ _ h1];exact hn
  refine⟨hlen,F1,ws,r,outs,R1.sub,As R1 rr h2,jl R1 rr h2 hc.1 hc.2,h3,fun v F2 H2 po rn=>?_⟩
  obtain⟨R2,st2,mu⟩:=wY R1 st1 rr h2 h4 hc.1 po
  refine q v F2 H2 R2 st2 ?_
  cases r with
  | t d=>exact rn
  | b o=>cases rn
  | v i=>cases rn
  | s i=>cases rn
  | m o=>
   obtain⟨a,e,h0,f,h⟩:=rn
   refine⟨a,e,none_of st1.ext.there h0,f,h,fun m=>?_,none_of R1.ext.there h0⟩
   obtain⟨o',ho⟩:=R1.has (mu a m)
   rw[h0] at ho
   cases ho
 ·cases hg⟩
end
end L2
end
section
set_option Elab.async false
set_option linter.all false
set_option maxRecDepth 100000
namespace L2
open PySem PySem.Spec PyProof.Rows
noncomputable def aE:List U→SS→Option (List MO)
 | [],_=>some []
 | .b _ :: us,some (.b o) :: S=>(aE us S).map fun os=>o :: os
 | .b _ :: _,_=>none
 | _ :: us,_ :: S=>aE us S
 | _ :: _,[]=>none
noncomputable def aQ (n:Nat) (g:GS):FM:=fun us=>(g (us.map some++List.replicate (n - us.length) none)).bind fun o=>match o with
 | .rt (.t d) S=>(aE us S).map fun os=>(.t d,os)
 | .rt (.m o) S=>(aE us S).map fun os=>(.m o,os)
 | .nx S=>(aE us S).map fun os=>(.t .cW,os)
 | _=>none
noncomputable def lent:List V→List U→List (Option Addr)
 | .ref a :: vs,.b _ :: us=>some a :: lent vs us
 | _ :: vs,_ :: us=>none :: lent vs us
 | _,_=>[]
theorem qd:∀(vs:List V) (us:List U) (a:Addr),some a∈lent vs us↔a∈addrs vs us
 | [],us,a=>by cases us <;> simp[lent,addrs]
 | v :: vs,[],a=>by cases v <;> simp[lent,addrs]
 | v :: vs,u :: us,a=>by
  have ih:=qd vs us a
  cases v <;> cases u <;> simp[lent,addrs,ih]
theorem BP:∀{vs:List V}{us:List U}{i:Nat}{a:Addr},(lent vs us)[i]? =some (some a)→vs[i]? =some (.ref a)∧∃o,us[i]? =some (.b o)
 | [],us,i,a,h=>by cases us <;> simp[lent] at h
 | v :: vs,[],i,a,h=>by cases v <;> simp[lent] at h
 | v :: vs,u :: us,0,a,h=>by
  cases v <;> cases u <;> simp[lent] at h
  subst h
  exact⟨rfl,_,rfl⟩
 | v :: vs,u :: us,i+1,a,h=>by
  have h':(lent vs us)[i]? =some (some a):=by cases v <;> cases u <;> simpa[lent] using h
  simpa using BP h'
theorem Au {K:PySem.W.Frag}:∀{F H:Hp}{vs:List V}{us:List U}{i:Nat}{o:MO},Paired (IV K F H) vs us→us[i]? =some (.b o)→∃a,vs[i]? =some (.ref a)∧(lent vs us)[i]? =some (some a)∧F a=none∧At F H a o
 | _,_,_,_,_,_,.nil,h=>by simp at h
 | _,_,_,_,0,o,@Paired.cons _ _ _ v u vs us r rs,h=>by
  simp at h
  subst h
  obtain⟨a,rfl,f,k⟩:=r
  exact⟨a,rfl,rfl,f,k⟩
 | _,_,_,_,i+1,o,@Paired.cons _ _ _ v u vs us r rs,h=>by
  obtain⟨a,h1,h2,h3⟩:=Au (i:=i) rs (by simpa using h)
  refine⟨a,by simpa using h1,?_,h3⟩
  cases v <;> cases u <;> simpa[lent] using h2
theorem zE : ∀ {vs : List V} {us : List U} {i j : Nat} {a : Addr}, (addrs vs us).Nodup → (lent vs us)[i]? = some (some a) → (lent vs us)[j]? = some (some a) → i = j
  | [],us,i,j,a,_,h,_=>by cases us <;> simp[lent] at h
  | v :: vs,[],i,j,a,_,h,_=>by cases v <;> simp[lent] at h
  | v :: vs, u :: us, i, j, a, nd, h1, h2 => by
    have ih:∀{i j},(addrs vs us).Nodup→(lent vs us)[i]? =some (some a)→(lent vs us)[j]? =some (some a)→i=j:=fun {i j}=>zE (i:=i) (j:=j)
    by_cases Xf:∃c o,v= .ref c∧u= .b o
    · obtain⟨c,o,rfl,rfl⟩:=Xf
      obtain⟨n1,n2⟩:=List.nodup_cons.mp (show(c :: addrs vs us).Nodup from nd)
      cases i with
      | zero=>
        cases j with
        | zero=>rfl
        | succ j=>
          have e1:c=a:=by simpa[lent] using h1
          have e2:(lent vs us)[j]? =some (some a):=by simpa[lent] using h2
          subst e1
          exact absurd ((qd vs us c).mp (List.mem_of_getElem? e2)) n1
      | succ i=>
        have e1:(lent vs us)[i]? =some (some a):=by simpa[lent] using h1
        cases j with
        | zero=>
          have e2:c=a:=by simpa[lent] using h2
          subst e2
          exact absurd ((qd vs us c).mp (List.mem_of_getElem? e1)) n1
        | succ j=>exact congrArg Nat.succ (ih n2 e1 (by simpa[lent] using h2))
    · have e1:lent (v :: vs) (u :: us)=none :: lent vs us:=by cases v <;> cases u <;> first | rfl | exact absurd ⟨_,_,rfl,rfl⟩ Xf
      have e2:addrs (v :: vs) (u :: us)=addrs vs us:=by cases v <;> cases u <;> first | rfl | exact absurd ⟨_,_,rfl,rfl⟩ Xf
      rw[e1] at h1 h2
      rw[e2] at nd
      cases i with
      | zero=>simp at h1
      | succ i=>
        cases j with
        | zero=>simp at h2
        | succ j=>exact congrArg Nat.succ (ih nd (by simpa using h1) (by simpa using h2))
theorem sJ {α β:Type}{P:α→β→Prop}:∀{l:List α}{r:List β}{i:Nat}{y:β},Paired P l r→r[i]? =some y→∃x,l[i]? =some x∧P x y
 | _,_,_,_,.nil,h=>by simp at h
 | _,_,0,_,.cons p _,h=>by simp at h;subst h;exact⟨_,rfl,p⟩
 | _,_,i+1,_,.cons _ ps,h=>by
  obtain⟨x,h1,h2⟩:=sJ (i:=i) ps (by simpa using h)
  exact⟨x,by simpa using h1,h2⟩
theorem zF {K:PySem.W.Frag}{F H:Hp}{vs:List V}{us:List U}{n:Nat}(sb:Sub F H) (ar:Paired (IV K F H) vs us) (nd:(addrs vs us).Nodup) (N:List Str) (hN:N.length=n):
  Rel K ⟨lent vs us,F,H⟩ (us.map some++List.replicate (n - us.length) none) (start N vs) F H:=by
 have hl:vs.length=us.length:=ar.length
 have gS:∀{i:Nat}{u:U},(us.map some++List.replicate (n - us.length) none)[i]? =some (some u)→us[i]? =some u:=fun {i u} h=>by
  rw[List.getElem?_append] at h
  split at h
  ·rw[List.getElem?_map] at h
   obtain⟨w,h1,h2⟩:=aG h
   cases h2
   exact h1
  ·rw[List.getElem?_replicate] at h
   split at h <;> cases h
 have Xg:∀{i:Nat}{v:V},vs[i]? =some v→(start N vs)[i]? =some (some v):=fun {i v} h=>by
  unfold start
  have hi:=(List.getElem?_eq_some_iff.mp h).1
  rw[List.getElem?_append_left (by simpa using hi),List.getElem?_map,h]
  rfl
 have vb:∀{i:Nat}{v w:V},vs[i]? =some v→(start N vs)[i]? =some (some w)→v=w:=fun {i v w} h k=>by
  rw[Xg h] at k
  cases k
  rfl
 have Lp:∀{i:Nat}{u:U},us[i]? =some u→g7 u=true→∃o a,u= .b o∧vs[i]? =some (.ref a)∧(lent vs us)[i]? =some (some a)∧F a=none∧At F H a o:=fun {i u} h hm=>by
  obtain⟨v,h1,h2⟩:=sJ ar h
  cases u with
  | t d=>cases hm
  | v d=>cases hm
  | s d=>cases hm
  | m o=>cases h2
  | b o=>obtain⟨a,k1,k2,k3,k4⟩:=Au ar h;exact⟨o,a,rfl,k1,k2,k3,k4⟩
 refine⟨sb,?_,fun i u h=>?_,fun i j u w a h1 m1 h2 m2 v1 v2=>?_,fun i o a h hv=>?_,fun i o a h hv=>?_,fun i a h=>?_,Ext.refl ..⟩
 ·unfold start;simp[hl,hN]
 ·obtain⟨v,h1,h2⟩:=sJ ar (gS h)
  refine⟨v,Xg h1,?_⟩
  cases u with
  | t d=>exact h2
  | s d=>exact h2
  | v d=>cases h2
  | m o=>cases h2
  | b o=>exact h2
 ·obtain⟨_,a1,_,k1,k2,_⟩:=Lp (gS h1) m1
  obtain⟨_,a2,_,l1,l2,_⟩:=Lp (gS h2) m2
  have e1:=vb k1 v1
  have e2:=vb l1 v2
  cases e1
  cases e2
  exact zE nd k2 l2
 ·obtain⟨_,_,e,_⟩:=Lp (gS h) rfl
  cases e
 ·obtain⟨_,a1,_,k1,k2,_⟩:=Lp (gS h) rfl
  have e1:=vb k1 hv
  cases e1
  exact List.mem_of_getElem? k2
 ·obtain⟨k1,o,k2⟩:=BP h
  refine⟨Xg k1,o,?_⟩
  have hi:=(List.getElem?_eq_some_iff.mp k2).1
  rw[List.getElem?_append_left (by simpa using hi),List.getElem?_map,k2]
  rfl
theorem Av {F' H' : Hp} : ∀ {vs : List V} {us : List U} {S : SS} {os : List MO}, aE us S = some os → vs.length = us.length → (∀ (i : Nat) (o : MO) (a : Addr), (lent vs us)[i]? = some (some a) → S[i]? = some (some (.b o)) → F' a = none ∧ At F' H' a o) → (∀ (i : Nat) (o : MO), us[i]? = some (.b o) → ∃ a, vs[i]? = some (.ref a)) →
    Paired (fun a o=>F' a=none∧At F' H' a o) (addrs vs us) os
  | [],[],S,os,h,_,_,_=>by cases S <;> (simp[aE] at h;subst h;exact .nil)
  | [],_ :: _,_,_,_,l,_,_=>by cases l
  | _ :: _,[],_,_,_,l,_,_=>by cases l
  | v :: vs, u :: us, S, os, h, l, k, kb => by
    have l':vs.length=us.length:=by simpa using l
    have kb':∀(i:Nat) (o:MO),us[i]? =some (.b o)→∃a,vs[i]? =some (.ref a):=fun i o z=>by simpa using kb (i+1) o (by simpa using z)
    by_cases hu:∃o,u= .b o
    · obtain⟨o,rfl⟩:=hu
      obtain⟨a,ha⟩:=kb 0 o rfl
      have ha:v= .ref a:=by simpa using ha
      subst ha
      cases S with
      | nil=>simp[aE] at h
      | cons s S=>
        cases s with
        | none=>simp[aE] at h
        | some s=>
          cases s with
          | b o'=>
            obtain⟨os',h1,h2⟩:=aG (show(aE us S).map (fun os=>o' :: os)=some os from h)
            subst h2
            exact .cons (k 0 o' a rfl rfl) (Av h1 l' (fun i o a z1 z2=>k (i+1) o a (by simpa[lent] using z1) (by simpa using z2)) kb')
          | t d=>simp[aE] at h
          | m d=>simp[aE] at h
          | v d=>simp[aE] at h
          | s d=>simp[aE] at h
    · cases S with
      | nil=>cases u <;> first | (simp[aE] at h;done) | exact absurd ⟨_,rfl⟩ hu
      | cons s S=>
        have h':aE us S=some os:=by cases u <;> first | exact absurd ⟨_,rfl⟩ hu | simpa[aE] using h
        have e2:addrs (v :: vs) (u :: us)=addrs vs us:=by cases v <;> cases u <;> first | rfl | exact absurd ⟨_,rfl⟩ hu
        have e1:lent (v :: vs) (u :: us)=none :: lent vs us:=by cases v <;> cases u <;> first | rfl | exact absurd ⟨_,rfl⟩ hu
        rw[e2]
        exact Av h' l' (fun i o a z1 z2=>k (i+1) o a (by rw[e1];simpa using z1) (by simpa using z2)) kb'
theorem post_of {K:PySem.W.Frag}{F0 H:Hp}{vs:List V}{us:List U}(ar:Paired (IV K F0 H) vs us) (S':SS) (σ':St) (F' H':Hp) (os:List MO) (R':Rel K ⟨lent vs us,F0,H⟩ S' σ' F' H') (ho':aE us S'=some os):Post F0 H F' H' (addrs vs us) os:=by
 refine⟨R'.sub,⟨R'.ext.le,fun b o z n=>R'.ext.keep b o z fun m=>n ((qd vs us b).mp m),fun b o z n=>R'.ext.kX b o z fun m=>n ((qd vs us b).mp m),R'.ext.there,R'.ext.kW⟩,Av ho' ar.length (fun i o a z1 z2=>?_) fun i o z=>?_⟩
 ·obtain⟨k1,o2,k2⟩:=R'.par i a z1
  obtain⟨v,j1,j2⟩:=R'.rep i _ z2
  rw[k1] at j1
  cases j1
  obtain⟨c,e,f,k⟩:=j2
  cases e
  exact⟨f,k⟩
 ·obtain⟨a,h1,_⟩:=Au ar z
  exact⟨a,h1⟩
section
variable {P:Program}{w:World}{K:PySem.W.Frag}{mg:Str→Option Value}{base:Heap}
theorem sL {x qual:Str}{st:Stmt}{f:Addr}{fd:FuncData}{N ps:List Str}{k:Nat}{fm:FM}{g:GS}(F:pQ K x qual st f fd) (Sc:cE N ps (aH st))
  (hb:∀(cdv:Value) (A:Around) (outer:List Env) (s:Shared) (H:Hp) (E:XK),lM k (A.deeper (envOfC qual (aH st) s.heap.objs.size f cdv))→JB (De ff P w K mg base N qual (aH st) f cdv A outer s H E).KP (bN st) g)
  (hf:∀us r,fm us=some r→aQ N.length g us=some r):bT P w K mg base ff (k+1) f fd ps (spT K ps.length fm):=by
 refine F.ok Sc (fun vs H Q E h=>h.1) fun cdv A outer s H vs Q E hr h=>?_
 obtain⟨hlen,F0,us,r,outs,sb,ar,nd,hfm,q⟩:=h
 have hrun:=hf us (r,outs) hfm
 have J:=hb cdv A outer s H E hr
 refine⟨_,J.h ⟨lent vs us,F0,H⟩,?_⟩
 have R0:=zF sb ar nd N rfl
 obtain⟨o,ho,hrun⟩:=az hrun
 refine⟨_,F0,o,R0,ho,?_⟩
 have post:=post_of ar
 cases o with
 | bk S'=>cases hrun
 | ct S'=>cases hrun
 | nx S'=>
  obtain⟨os,h1,h2⟩:=aG (show(aE us S').map _=some (r,outs) from hrun)
  cases h2
  exact fun σ' F' H' R' le=>q .cW F' H' (post S' σ' F' H' outs R' h1) .cW
 | rt u S'=>
  cases u with
  | b o=>cases hrun
  | v i=>cases hrun
  | s i=>cases hrun
  | t d=>
   obtain⟨os,h1,h2⟩:=aG (show(aE us S').map _=some (r,outs) from hrun)
   cases h2
   exact fun v σ' F' H' R' le rr=>q v F' H' (post S' σ' F' H' outs R' h1) rr
  | m o=>
   obtain⟨os,h1,h2⟩:=aG (show(aE us S').map _=some (r,outs) from hrun)
   cases h2
   exact fun v σ' F' H' R' le rr=>q v F' H' (post S' σ' F' H' outs R' h1) (by obtain⟨a,e,h0,f,h,n,hB⟩:=rr;exact⟨a,e,hB,f,h⟩)
end
end L2
end
section
set_option Elab.async false
set_option linter.all false
set_option maxRecDepth 100000
namespace L2
open PySem PySem.Spec PyProof.Rows
noncomputable def Ds (S:SS) (i:Nat):Option U:=match S[i]? with
 | some (some (.t d))=>some (.t d)
 | some (some (.s d))=>some (.s d)
 | some (some (.m _))=>some (.v i)
 | some (some (.b _))=>some (.v i)
 | _=>none
noncomputable def oM (S:SS):List Nat→Option (List U)
 | []=>some []
 | i :: cap=>(Ds S i).bind fun u=>(oM S cap).map fun us=>u :: us
noncomputable def dP:GT:=fun S=>some (true,S)
noncomputable def gW (cap:List Nat) (q:GT) (g:GD):List D→SS→List D→Option (List D×SS)
  | [],S,acc=>some (acc,S)
  | d :: ds, S, acc => (oM S cap).bind fun us =>
    if(slotsOf us).Nodup∧eu us≤1 then(dU S us).bind fun ws=>(q (some (.t d) :: ws.map some)).bind fun p=>
      if p.1 then(g p.2).bind fun r=>(aE (.t d :: ws) r.2).bind fun outs=>(wb us outs S).bind fun S'=>gW cap q g ds S' (acc++[r.1])
      else(aE (.t d :: ws) p.2).bind fun outs=>(wb us outs S).bind fun S'=>gW cap q g ds S' acc
    else none
noncomputable def fB (cap:List Nat) (gi:GI) (q:GT) (g:GD):GE:=fun S=>(gi S).bind fun p=>if p.1.length≤100000 then(gW cap q g p.1 p.2 []).map fun r=>(.m (.lst r.1),r.2) else none
structure U8 (X:Cx) (es:List Expr) (q:GT):Prop where
 h:∀B,NX X es (tQ X.K B q)
theorem jK {X:Cx}:U8 X [] dP:=⟨fun B pins s σ H Q I ⟨S,F,b,S',R,hg,q⟩=>by cases hg;exact Lf pins s σ H Q I (q F H R (Step.refl ..))⟩
theorem EV {X:Cx}{c:Expr}{q:GT}(h:JT X c q):U8 X [c] q:=⟨fun B=>Lg (h.h B)⟩
theorem IW {K:PySem.W.Frag}{B:Base}{S:SS}{σ:St}{F H:Hp}(R:Rel K B S σ F H):∀{cap:List Nat}{us:List U},oM S cap=some us→∃vs:List V,g6 cap σ=vs.map some∧Paired (fun v u=>mG K B S σ H F H v u) vs us
  | [],us,h=>by cases h;exact⟨[],rfl,.nil⟩
  | i :: cap, us, h => by
    obtain⟨u,h1,h⟩:=az h
    obtain⟨us',h2,h⟩:=aG h
    subst h
    obtain⟨vs,k1,k2⟩:=IW R h2
    have one:∀w,S[i]? =some (some w)→∃v,σ[i]? =some (some v)∧yK K F H v w:=R.rep i
    unfold Ds at h1
    have fin:∀v,σ[i]? =some (some v)→mG K B S σ H F H v u→∃vs:List V,g6 (i :: cap) σ=vs.map some∧Paired (fun v u=>mG K B S σ H F H v u) vs (u :: us'):=fun v e r=>
      ⟨v :: vs,by show(σ[i]?).join :: g6 cap σ=_;rw[e,k1];rfl,.cons r k2⟩
    split at h1
    · rename_i d e
      cases h1
      obtain⟨v,e1,r⟩:=one _ e
      exact fin v e1 r
    · rename_i d e
      cases h1
      obtain⟨v,e1,r⟩:=one _ e
      exact fin v e1 r
    · rename_i o e
      cases h1
      obtain⟨v,e1,r⟩:=one _ e
      exact fin v e1 ⟨e1,_,e⟩
    · rename_i o e
      cases h1
      obtain⟨v,e1,r⟩:=one _ e
      exact fin v e1 ⟨e1,_,e⟩
    · cases h1
theorem IX {K:PySem.W.Frag}{B:Base}{S:SS}{σ:St}{F H:Hp}(R:Rel K B S σ F H) (d:D){us ws:List U}(h:dU S us=some ws):dU S (.t d :: us)=some (.t d :: ws):=by
 show(some (U.t d)).bind _=_
 show(dU S us).map _=_
 rw[h]
 rfl
theorem BQ {K : PySem.W.Frag} {B : Base} {cap : List Nat} {gi : GI} {q : GT} {g : GD} {σ : St} {H : Hp} {Q : VK} (h : tE K B (fB cap gi q g) σ H Q) : U4 (tIt K B gi) cap (fun σ H Q => ∃ B, tQ K B q σ H Q) (fun σ H Q => ∃ B, tD K B g σ H Q) σ H Q := by
  obtain⟨x,_⟩:∃x:Str,True:=⟨"",trivial⟩
  obtain⟨S,F,u,S',R,hg,k⟩:=h
  obtain⟨⟨ds,S1⟩,h1,hg⟩:=az hg
  dsimp only at hg
  split at hg
  · rename_i hlen
    obtain⟨⟨res,Sf⟩,h2,hg⟩:=aG hg
    cases hg
    refine⟨S,F,ds,S1,R,h1,fun J F1 H1 R1 st1 w=>?_⟩
    refine⟨fun i m ys H'=>∃S2 F2 acc,Rel K B S2 σ F2 H'∧Step S S2 σ F H F2 H'∧(∀b o,F1 b=some o→F2 b=some o)∧bW F2 ys acc∧acc.length≤i∧i≤ds.length∧m=ds.length - i∧gW cap q g (ds.drop i) S2 acc=some (res,Sf),
      ⟨_,S1,F1,[],R1,st1,fun _ _ z=>z,.nil,Nat.le_refl _,Nat.zero_le _,rfl,h2⟩,?_⟩
    rintro i m ys H' ⟨S2,F2,acc,R2,st2,le,ry,ha,hl,rfl,qb⟩
    refine⟨by rw[ry.length];exact Nat.lt_of_le_of_lt (Nat.le_trans ha (Nat.le_trans hl hlen)) (by decide),?_⟩
    have w':=w F2 H' le R2.sub i
    by_cases hlt:i < ds.length
    · have hd:ds[i]? =some ds[i]:=List.getElem?_eq_getElem hlt
      obtain⟨go,yl⟩:=w'.1 _ hd
      rw[List.drop_eq_getElem_cons hlt] at qb
      refine .inr ⟨go,fun xv H3 y=>?_⟩
      obtain⟨rfl,rx⟩:=yl xv H3 y
      obtain⟨us,e1,qb⟩:=az qb
      skip
      split at qb
      · rename_i hnd
        obtain⟨ws,e2,qb⟩:=az qb
        obtain⟨⟨bk,T1⟩,e3,qb⟩:=az qb
        obtain⟨vs,k1,k2⟩:=IW R2 e1
        have rr:Paired (fun v u=>mG K B S2 σ H3 F2 H3 v u) (xv :: vs) (.t ds[i] :: us):=.cons rx k2
        have er:=IX R2 ds[i] e2
        have ar:=As R2 rr er
        have nd:=jl R2 rr er hnd.1 hnd.2
        have R3:=zF (n:=ws.length+1) R2.sub ar nd (List.replicate (ws.length+1) x) (by simp)
        have hvl:vs.length=ws.length:=by have:=ar.length;simpa using this
        have es:start (List.replicate (ws.length+1) x) (xv :: vs)=some xv :: g6 cap σ:=by
          unfold start;rw[k1];simp[hvl]
        have eS:(U.t ds[i] :: ws).map some++List.replicate (ws.length+1 - (U.t ds[i] :: ws).length) none=some (U.t ds[i]) :: ws.map some:=by simp
        rw[es,eS] at R3
        have back:∀(T2:SS) (F3 H4:Hp) (outs:List MO) (S3:SS),Rel K ⟨lent (xv :: vs) (U.t ds[i] :: ws),F2,H3⟩ T2 (some xv :: g6 cap σ) F3 H4→aE (U.t ds[i] :: ws) T2=some outs→wb us outs S2=some S3→Rel K B S3 σ F3 H4∧Step S S3 σ F H F3 H4∧(∀b o,F2 b=some o→F3 b=some o):=fun T2 F3 H4 outs S3 RT ho hw=>by
          have po:=post_of ar T2 _ F3 H4 outs RT ho
          obtain⟨Ra,MS,_⟩:=wY (S0:=S2) (F0:=F2) (H0:=H3) R2 (Step.refl ..) rr er (show wb (U.t ds[i] :: us) outs S2=some S3 by cases outs <;> exact hw) hnd.1 po
          exact⟨Ra,st2.trans MS,MS.ext.le⟩
        refine⟨_,_,F2,bk,T1,R3,e3,fun F3 H4 RT1 aeP=>?_⟩
        cases bk with
        | true=>
          obtain⟨⟨yd,T2⟩,e4,qb⟩:=az (show(g T1).bind _=_ from qb)
          obtain⟨outs,e5,qb⟩:=az qb
          obtain⟨S3,e6,qb⟩:=az qb
          refine BI ⟨_,T1,F3,yd,T2,RT1,e4,fun yv F4 H5 RT2 aeR Xh=>?_⟩
          obtain⟨Ra,MS,RD⟩:=back T2 F4 H5 outs S3 RT2 e5 e6
          refine⟨ds.length - (i+1),by omega,S3,F4,acc++[yd],Ra,MS,fun b o z=>RD b o (le b o z),(ry.le RD).append (.cons Xh .nil),by simp;omega,hlt,rfl,qb⟩
        | false=>
          obtain⟨outs,e5,qb⟩:=az (show(aE (U.t ds[i] :: ws) T1).bind _=_ from qb)
          obtain⟨S3,e6,qb⟩:=az qb
          obtain⟨Ra,MS,RD⟩:=back T1 F3 H4 outs S3 RT1 e5 e6
          exact BH ⟨ds.length - (i+1),by omega,S3,F3,acc,Ra,MS,fun b o z=>RD b o (le b o z),ry.le RD,by omega,hlt,rfl,qb⟩
      · cases qb
    · have e:i=ds.length:=by omega
      subst e
      rw[List.drop_length] at qb
      cases qb
      refine .inl ⟨w'.2 (Nat.le_refl _),fun p hp=>?_⟩
      have n:=iO.obj (F:=F2) hp (.lst ys)
      refine k (.ref p) F2 _ (R2.new n (R2.sub.same n.same)) (st2.trans n.step) ⟨p,rfl,none_of st2.ext.there hp,R2.sub.fresh hp,⟨ys,bJ,ry⟩,fun m=>?_,none_of R2.ext.there hp⟩
      obtain⟨o,ho⟩:=R2.has m
      rw[hp] at ho
      cases ho
  · cases hg
theorem jL {X:Cx}{elt iter:Expr}{ifs:List Expr}{x:Str}{px pos:Pos}{scope:Scope}{cl:List (Str×Addr)}{eY:List Str}{cap:List Nat}{gi:GI}{q:GT}{g:GD}(T:lE X x eY cap scope cl) (hc:X.calm=true) (hi:JI X (.Name x px) iter gi)
  (ht:∀C s H fp,U8 (jE X (x :: eY) scope cl C s H fp) ifs q) (he:∀C s H fp,JD (jE X (x :: eY) scope cl C s H fp) elt g)
  (hs:∀x,foldedSetIterable iter X.env x=pure x:=by intro _;rfl):JE X (.ListComp elt [⟨.Name x px,iter,ifs,0⟩] scope pos) (fB cap gi q g):=⟨fun B=>by
 exact(IA (tc:=fun σ H Q=>∃B,tQ X.K B q σ H Q) (te:=fun σ H Q=>∃B,tD X.K B g σ H Q) T hc (hi.h B) (fun C s H fp pins s' σ H' Q I ⟨B',z⟩=>(ht C s H fp).h B' pins s' σ H' Q I z) (fun C s H fp pins s' σ H' Q I ⟨B',z⟩=>(he C s H fp).h B' pins s' σ H' Q I z) hs).imp fun σ H Q h=>BQ h⟩
theorem BR {X:Cx}{elt iter:Expr}{ifs:List Expr}{x y:Str}{px pos py spos:Pos}{scope:Scope}{cl:List (Str×Addr)}{eY:List Str}{cap:List Nat}{gi:GI}{q:GT}{g:GD}{i:Nat}(hN:X.N.Nodup) (hy:X.N[i]? =some y) (hx:Loc X.env.scope y) (T:lE X x eY cap scope cl) (hc:X.calm=true) (hi:JI X (.Name x px) iter gi)
  (ht:∀C s H fp,U8 (jE X (x :: eY) scope cl C s H fp) ifs q) (he:∀C s H fp,JD (jE X (x :: eY) scope cl C s H fp) elt g)
  (hsw:swapsWith (.ListComp elt [⟨.Name x px,iter,ifs,0⟩] scope pos) (some (.Name y py)) spos.line X.env=pure true:=by rfl) (hf:X.fn y=true∨X.env.scope.names.lookup y=some .local:=by first | exact .inl rfl | exact .inr rfl | assumption)
  (hs:∀x,foldedSetIterable iter X.env x=pure x:=by intro _;rfl):JS X (.Assign [.Name y py] (.ListComp elt [⟨.Name x px,iter,ifs,0⟩] scope pos) spos) (bH i (fB cap gi q g)):=⟨fun B=>
 (IB (tc:=fun σ H Q=>∃B,tQ X.K B q σ H Q) (te:=fun σ H Q=>∃B,tD X.K B g σ H Q) T hc (hi.h B) (fun C s H fp pins s' σ H' Q I ⟨B',z⟩=>(ht C s H fp).h B' pins s' σ H' Q I z) (fun C s H fp pins s' σ H' Q I ⟨B',z⟩=>(he C s H fp).h B' pins s' σ H' Q I z) hs hN hy hx hsw hf).imp fun D σ H h=>BQ (ET h)⟩
end L2
end
section
set_option Elab.async false
set_option linter.all false
set_option maxRecDepth 100000
namespace L2
open PySem PySem.Spec PyProof.Rows
mutual
noncomputable def jC:D→D→Bool
 | .cW,.cW=>true
 | .bl a,.bl b=>a == b
 | .int a,.int b=>a == b
 | .bl a,.int b=>(if a then 1 else 0) == b
 | .int a,.bl b=>a == (if b then 1 else 0)
 | .str a,.str b=>a == b
 | .tup a,.tup b=>qg a b
 | .lst a,.lst b=>qg a b
 | _,_=>false
noncomputable def qg:List D→List D→Bool
 | [],[]=>true
 | a :: as,b :: bs=>jC a b && qg as bs
 | _,_=>false
end
mutual
noncomputable def bZ:D→Nat
 | .tup ds=>bM ds+1
 | .lst ds=>bM ds+1
 | _=>0
noncomputable def bM:List D→Nat
 | []=>0
 | d :: ds=>max (bZ d) (bM ds)
end
mutual
theorem lO:∀d:D,jC d d=true
 | .cW=>rfl
 | .bl a=>by simp[jC]
 | .int a=>by simp[jC]
 | .str a=>by simp[jC]
 | .tup a=>by unfold jC;exact nF a
 | .lst a=>by unfold jC;exact nF a
theorem nF:∀ds:List D,qg ds ds=true
 | []=>rfl
 | d :: ds=>by unfold qg;rw[lO d,nF ds];rfl
end
noncomputable def qh (as bs:List D) (j:Nat):Bool:=match as[j]?,bs[j]? with
 | some a,some b=>jC a b
 | _,_=>true
theorem wZ (n:Nat) (e:Nat→Bool):(List.range (n+1)).all e=(e 0 && (List.range n).all fun j=>e (j+1)):=by
 rw[List.range_succ_eq_map,List.all_cons,List.all_map]
 rfl
theorem qi:∀{as bs:List D},as.length≠bs.length→qg as bs=false
 | [],[],h=>absurd rfl h
 | [],_ :: _,_=>rfl
 | _ :: _,[],_=>rfl
 | a :: as,b :: bs,h=>by
  unfold qg
  rw[qi (as:=as) (bs:=bs) (fun z=>h (by simp[z])),Bool.and_false]
theorem lP:∀{as bs:List D},as.length=bs.length→(List.range as.length).all (qh as bs)=qg as bs
 | [],[],_=>rfl
 | [],_ :: _,h=>by cases h
 | _ :: _,[],h=>by cases h
 | a :: as,b :: bs,h=>by
  have h':as.length=bs.length:=by simpa using h
  show(List.range (as.length+1)).all _=_
  rw[wZ]
  unfold qg
  have ih:=lP h'
  have e:(fun j=>qh (a :: as) (b :: bs) (j+1))=qh as bs:=by funext j;simp[qh]
  rw[e,ih]
  rfl
mutual
theorem Rep.uniq {F:Hp}:∀{v:V}{d e:D},Rep F v d→Rep F v e→d=e
 | _,_,_,.cW,r=>by cases r;rfl
 | _,_,_,.bl b,r=>by cases r;rfl
 | _,_,_,.int b,r=>by cases r;rfl
 | _,_,_,.str b,r=>by cases r;rfl
 | _,_,_,.tup e1 r1,r=>by
  cases r with
  | tup e2 r2=>rw[e1] at e2;cases e2;rw[bW.uniq r1 r2]
  | lst e2 r2=>rw[e1] at e2;cases e2
 | _,_,_,.lst e1 r1,r=>by
  cases r with
  | tup e2 r2=>rw[e1] at e2;cases e2
  | lst e2 r2=>rw[e1] at e2;cases e2;rw[bW.uniq r1 r2]
theorem bW.uniq {F:Hp}:∀{vs:List V}{ds es:List D},bW F vs ds→bW F vs es→ds=es
 | _,_,_,.nil,r=>by cases r;rfl
 | _,_,_,.cons r1 s1,r=>by
  cases r with
  | cons r2 s2=>rw[Rep.uniq r1 r2,bW.uniq s1 s2]
end
section
variable {X:Cx}{pins:List (Addr×Obj)}{σ:St}{F H:Hp}{s:Shared}
theorem Sub.isTup (I:Inv X pins σ H s) (sb:Sub F H){a:Addr}{vs:List V}(h:F a=some (.tup vs)):∃its:List Value,Vals vs its∧s.heap.IsTuple a its.toArray:=by
 obtain⟨its,rv,p,_⟩:=I.tuple (.inl (Rd.of (sb a _ h)))
 exact⟨its,rv,p⟩
theorem Sub.fy (I:Inv X pins σ H s) (sb:Sub F H){a:Addr}{vs:List V}(h:F a=some (.lst vs)):∃its:List Value,Vals vs its∧s.heap.IsList a its.toArray:=by
 obtain⟨its,rv,p,_⟩:=I.list (.inl (Rd.of (sb a _ h)))
 exact⟨its,rv,p.isList⟩
noncomputable def kM (A:Around) (s:Shared) (its dm:List Value) (ds es:List D):Prop:=∀j (h1:j < its.toArray.size) (h2:j < dm.toArray.size),SeqAt.EqAt A.in1 s its.toArray[j] dm.toArray[j] (qh ds es j)
theorem EW {n m:Nat}(h:n=m) (e:Nat→Bool):((List.range (min n m)).all e && n == m)=(List.range n).all e:=by
 subst h;simp
theorem ue {A:Around}{ca cb:Addr}{iR dm:List Value}{ds es:List D}(hu:A.units < cLine) (pa:s.heap.IsTuple ca iR.toArray) (pb:s.heap.IsTuple cb dm.toArray) (la:iR.length=ds.length) (lb:dm.length=es.length) (h:kM A s iR dm ds es):
  SeqAt.RcAt A s (.ref ca) (.ref cb) (qg ds es):=by
 have q:=SeqAt.RcAt.tuples (e:=qh ds es) pa pb hu h
 rw[List.size_toArray,List.size_toArray,la,lb] at q
 by_cases hl:ds.length=es.length
 ·rw[EW hl,lP hl] at q;exact q
 ·rw[qi hl]
  have:(ds.length == es.length)=false:=by simpa using hl
  rw[this,Bool.and_false] at q
  exact q
theorem w4 {A:Around}{ca cb:Addr}{iR dm:List Value}{ds es:List D}(hu:A.units < cLine) (pa:s.heap.IsTuple ca iR.toArray) (pb:s.heap.IsTuple cb dm.toArray) (la:iR.length=ds.length) (lb:dm.length=es.length) (h:kM A s iR dm ds es):
  SeqAt.RcNeAt A s (.ref ca) (.ref cb) (!qg ds es):=by
 have q:=SeqAt.RcNeAt.tuples (e:=qh ds es) pa pb hu h
 rw[List.size_toArray,List.size_toArray,la,lb] at q
 by_cases hl:ds.length=es.length
 ·rw[EW hl,lP hl] at q;exact q
 ·rw[qi hl]
  have:(ds.length == es.length)=false:=by simpa using hl
  rw[this,Bool.and_false] at q
  exact q
theorem vL {A:Around}{ca cb:Addr}{iR dm:List Value}{ds es:List D}(hu:A.units < cLine) (pa:s.heap.IsList ca iR.toArray) (pb:s.heap.IsList cb dm.toArray) (la:iR.length=ds.length) (lb:dm.length=es.length) (h:kM A s iR dm ds es):
  SeqAt.RcAt A s (.ref ca) (.ref cb) (qg ds es):=by
 by_cases hl:ds.length=es.length
 ·have q:=SeqAt.RcAt.lists (e:=qh ds es) pa pb (by rw[List.size_toArray,List.size_toArray,la,lb];exact hl) hu h
  rw[List.size_toArray,la,lP hl] at q;exact q
 ·rw[qi hl]
  exact SeqAt.RcAt.lists_lengths pa pb (by rw[List.size_toArray,List.size_toArray,la,lb];simpa using hl) hu
theorem yM {A:Around}{ca cb:Addr}{iR dm:List Value}{ds es:List D}(hu:A.units < cLine) (pa:s.heap.IsList ca iR.toArray) (pb:s.heap.IsList cb dm.toArray) (la:iR.length=ds.length) (lb:dm.length=es.length) (h:kM A s iR dm ds es):
  SeqAt.RcNeAt A s (.ref ca) (.ref cb) (!qg ds es):=by
 by_cases hl:ds.length=es.length
 ·have q:=SeqAt.RcNeAt.lists (e:=qh ds es) pa pb (by rw[List.size_toArray,List.size_toArray,la,lb];exact hl) hu h
  rw[List.size_toArray,la,lP hl] at q;exact q
 ·rw[qi hl]
  exact SeqAt.RcNeAt.lists_lengths pa pb (by rw[List.size_toArray,List.size_toArray,la,lb];simpa using hl) hu
theorem fE {α:Type}(l:List α) (j:Nat) (h:j < l.toArray.size):l[j]? =some l.toArray[j]:=by
 have z:j < l.length:=by simpa using h
 simp[z]
mutual
theorem MT (I : Inv X pins σ H s) (sb : Sub F H) : ∀ (d : D) {e : D} {A : Around} {x y : V} {u w' : Value}, Rep F x d → Rep F y e → RelV x u → RelV y w' → A.units + bZ d < cLine → SeqAt.EqAt A s u w' (jC d e) := fun d {e A x y u w'} r1 r2 rx ry hu => by
  cases r1 with
  | cW=>
    cases rx
    cases r2 with
    | cW=>cases ry;exact SeqAt.EqAt.same _
    | bl b=>cases ry;exact SeqAt.EqAt.none_bool b
    | int b=>obtain⟨tb,rfl⟩:=ry;exact SeqAt.EqAt.none_int b tb
    | str b=>obtain⟨tb,rfl⟩:=ry;exact SeqAt.EqAt.none_str b tb
    | @tup cb qj nG eb rb=>cases ry;obtain⟨dm,lQ,pb⟩:=sb.isTup I eb;exact SeqAt.EqAt.none_tuple pb (by omega)
    | @lst cb qj nG eb rb=>cases ry;obtain⟨dm,lQ,pb⟩:=sb.fy I eb;exact SeqAt.EqAt.none_list pb (by omega)
  | bl a=>
    cases rx
    cases r2 with
    | cW=>cases ry;exact SeqAt.EqAt.bool_none a
    | bl b=>cases ry;exact SeqAt.EqAt.bool_bool a b
    | int b=>obtain⟨tb,rfl⟩:=ry;exact SeqAt.EqAt.bool_int a b tb
    | str b=>obtain⟨tb,rfl⟩:=ry;exact SeqAt.EqAt.bool_str a b tb
    | @tup cb qj nG eb rb=>cases ry;obtain⟨dm,lQ,pb⟩:=sb.isTup I eb;exact SeqAt.EqAt.bool_tuple a pb (by omega)
    | @lst cb qj nG eb rb=>cases ry;obtain⟨dm,lQ,pb⟩:=sb.fy I eb;exact SeqAt.EqAt.bool_list a pb (by omega)
  | int a=>
    obtain⟨ta,rfl⟩:=rx
    cases r2 with
    | cW=>cases ry;exact SeqAt.EqAt.int_none a ta
    | bl b=>cases ry;exact SeqAt.EqAt.int_bool a ta b
    | int b=>obtain⟨tb,rfl⟩:=ry;exact SeqAt.EqAt.int_int a ta b tb
    | str b=>obtain⟨tb,rfl⟩:=ry;exact SeqAt.EqAt.int_str a ta b tb
    | @tup cb qj nG eb rb=>cases ry;obtain⟨dm,lQ,pb⟩:=sb.isTup I eb;exact SeqAt.EqAt.int_tuple a ta pb (by omega)
    | @lst cb qj nG eb rb=>cases ry;obtain⟨dm,lQ,pb⟩:=sb.fy I eb;exact SeqAt.EqAt.int_list a ta pb (by omega)
  | str a=>
    obtain⟨ta,rfl⟩:=rx
    cases r2 with
    | cW=>cases ry;exact SeqAt.EqAt.str_none a ta
    | bl b=>cases ry;exact SeqAt.EqAt.str_bool a ta b
    | int b=>obtain⟨tb,rfl⟩:=ry;exact SeqAt.EqAt.str_int a ta b tb
    | str b=>obtain⟨tb,rfl⟩:=ry;exact SeqAt.EqAt.str_str a ta b tb
    | @tup cb qj nG eb rb=>cases ry;obtain⟨dm,lQ,pb⟩:=sb.isTup I eb;exact SeqAt.EqAt.str_tuple a ta pb (by omega)
    | @lst cb qj nG eb rb=>cases ry;obtain⟨dm,lQ,pb⟩:=sb.fy I eb;exact SeqAt.EqAt.str_list a ta pb (by omega)
  | @tup ca RE rX ea ra=>
    cases rx;obtain⟨iR,BS,pa⟩:=sb.isTup I ea
    cases r2 with
    | cW=>cases ry;exact SeqAt.EqAt.tuple_none pa (by omega)
    | bl b=>cases ry;exact SeqAt.EqAt.tuple_bool b pa (by omega)
    | int b=>obtain⟨tb,rfl⟩:=ry;exact SeqAt.EqAt.tuple_int b tb pa (by omega)
    | str b=>obtain⟨tb,rfl⟩:=ry;exact SeqAt.EqAt.tuple_str b tb pa (by omega)
    | @tup cb qj nG eb rb=>cases ry;obtain⟨dm,lQ,pb⟩:=sb.isTup I eb;exact(by
      have hd:A.units+(bM rX+1) < cLine:=hu
      have items:kM A s iR dm rX nG:=fun j h1 h2=>lR I sb rX (A:=A.in1) ra rb BS lQ (by show A.units+1+bM rX < cLine;omega) (fE iR j h1) (fE dm j h2)
      by_cases hc:ca=cb
      · subst hc
        rw[ea] at eb
        cases eb
        obtain rfl:=bW.uniq ra rb
        show SeqAt.EqAt A s _ _ (qg rX rX)
        rw[nF]
        exact SeqAt.EqAt.same _
      · exact SeqAt.EqAt.of_refs hc (ue (by omega) pa pb (BS.length.symm.trans ra.length) (lQ.length.symm.trans rb.length) items))
    | @lst cb qj nG eb rb=>cases ry;obtain⟨dm,lQ,pb⟩:=sb.fy I eb;exact SeqAt.EqAt.tuple_list pa pb (by omega)
  | @lst ca RE rX ea ra=>
    cases rx;obtain⟨iR,BS,pa⟩:=sb.fy I ea
    cases r2 with
    | cW=>cases ry;exact SeqAt.EqAt.list_none pa (by omega)
    | bl b=>cases ry;exact SeqAt.EqAt.list_bool b pa (by omega)
    | int b=>obtain⟨tb,rfl⟩:=ry;exact SeqAt.EqAt.list_int b tb pa (by omega)
    | str b=>obtain⟨tb,rfl⟩:=ry;exact SeqAt.EqAt.list_str b tb pa (by omega)
    | @tup cb qj nG eb rb=>cases ry;obtain⟨dm,lQ,pb⟩:=sb.isTup I eb;exact SeqAt.EqAt.list_tuple pa pb (by omega)
    | @lst cb qj nG eb rb=>cases ry;obtain⟨dm,lQ,pb⟩:=sb.fy I eb;exact(by
      have hd:A.units+(bM rX+1) < cLine:=hu
      have items:kM A s iR dm rX nG:=fun j h1 h2=>lR I sb rX (A:=A.in1) ra rb BS lQ (by show A.units+1+bM rX < cLine;omega) (fE iR j h1) (fE dm j h2)
      by_cases hc:ca=cb
      · subst hc
        rw[ea] at eb
        cases eb
        obtain rfl:=bW.uniq ra rb
        show SeqAt.EqAt A s _ _ (qg rX rX)
        rw[nF]
        exact SeqAt.EqAt.same _
      · exact SeqAt.EqAt.of_refs hc (vL (by omega) pa pb (BS.length.symm.trans ra.length) (lQ.length.symm.trans rb.length) items))
theorem lR (I : Inv X pins σ H s) (sb : Sub F H) : ∀ (ds : List D) {es : List D} {A : Around} {vs ws : List V} {us us' : List Value} {j : Nat} {u w' : Value}, bW F vs ds → bW F ws es → Vals vs us → Vals ws us' → A.units + bM ds < cLine → us[j]? = some u → us'[j]? = some w' → SeqAt.EqAt A s u w' (qh ds es j) := fun ds {es A vs ws us us' j u w'} r1 r2 v1 v2 hu h1 h2 => by
  cases r1 with
  | nil=>cases v1;simp at h1
  | @cons v d vs ds r rs =>
    cases v1 with
    | cons q qs=>
      cases r2 with
      | nil=>cases v2;simp at h2
      | @cons w e ws es r' rs'=>
        cases v2 with
        | cons q' qs'=>
          have hd:A.units+max (bZ d) (bM ds) < cLine:=hu
          cases j with
          | zero=>
            simp at h1 h2
            subst h1 h2
            exact MT I sb d r r' q q' (by omega)
          | succ j=>
            simp at h1 h2
            have:=lR I sb ds (A:=A) rs rs' qs qs' (j:=j) (by omega) h1 h2
            simpa[qh] using this
end
end
end L2
end
section
set_option Elab.async false
set_option linter.all false
set_option maxRecDepth 100000
namespace L2
open PySem PySem.Spec PyProof.Rows
section
variable {X:Cx}{pins:List (Addr×Obj)}{σ:St}{F H:Hp}{s:Shared}
theorem RG (I:Inv X pins σ H s) (sb:Sub F H){d e:D}{A:Around}{x y:V}{u w':Value}(r1:Rep F x d) (r2:Rep F y e) (rx:RelV x u) (ry:RelV y w') (hu:A.units+bZ d < cLine):SeqAt.RcAt A s u w' (jC d e):=by
 cases r1 with
 | cW=>
  cases rx
  cases r2 with
  | cW=>cases ry;exact SeqAt.RcAt.none_none
  | bl b=>cases ry;exact SeqAt.RcAt.none_bool b
  | int b=>obtain⟨tb,rfl⟩:=ry;exact SeqAt.RcAt.none_int b tb
  | str b=>obtain⟨tb,rfl⟩:=ry;exact SeqAt.RcAt.none_str b tb
  | @tup cb qj nG eb rb=>cases ry;obtain⟨dm,lQ,pb⟩:=sb.isTup I eb;exact SeqAt.RcAt.none_tuple pb (by omega)
  | @lst cb qj nG eb rb=>cases ry;obtain⟨dm,lQ,pb⟩:=sb.fy I eb;exact SeqAt.RcAt.none_list pb (by omega)
 | bl a=>
  cases rx
  cases r2 with
  | cW=>cases ry;exact SeqAt.RcAt.bool_none a
  | bl b=>cases ry;exact SeqAt.RcAt.bool_bool a b
  | int b=>obtain⟨tb,rfl⟩:=ry;exact SeqAt.RcAt.bool_int a b tb
  | str b=>obtain⟨tb,rfl⟩:=ry;exact SeqAt.RcAt.bool_str a b tb
  | @tup cb qj nG eb rb=>cases ry;obtain⟨dm,lQ,pb⟩:=sb.isTup I eb;exact SeqAt.RcAt.bool_tuple a pb (by omega)
  | @lst cb qj nG eb rb=>cases ry;obtain⟨dm,lQ,pb⟩:=sb.fy I eb;exact SeqAt.RcAt.bool_list a pb (by omega)
 | int a=>
  obtain⟨ta,rfl⟩:=rx
  cases r2 with
  | cW=>cases ry;exact SeqAt.RcAt.int_none a ta
  | bl b=>cases ry;exact SeqAt.RcAt.int_bool a ta b
  | int b=>obtain⟨tb,rfl⟩:=ry;exact SeqAt.RcAt.int_int a ta b tb
  | str b=>obtain⟨tb,rfl⟩:=ry;exact SeqAt.RcAt.int_str a ta b tb
  | @tup cb qj nG eb rb=>cases ry;obtain⟨dm,lQ,pb⟩:=sb.isTup I eb;exact SeqAt.RcAt.int_tuple a ta pb (by omega)
  | @lst cb qj nG eb rb=>cases ry;obtain⟨dm,lQ,pb⟩:=sb.fy I eb;exact SeqAt.RcAt.int_list a ta pb (by omega)
 | str a=>
  obtain⟨ta,rfl⟩:=rx
  cases r2 with
  | cW=>cases ry;exact SeqAt.RcAt.str_none a ta
  | bl b=>cases ry;exact SeqAt.RcAt.str_bool a ta b
  | int b=>obtain⟨tb,rfl⟩:=ry;exact SeqAt.RcAt.str_int a ta b tb
  | str b=>obtain⟨tb,rfl⟩:=ry;exact SeqAt.RcAt.str_str a ta b tb
  | @tup cb qj nG eb rb=>cases ry;obtain⟨dm,lQ,pb⟩:=sb.isTup I eb;exact SeqAt.RcAt.str_tuple a ta pb (by omega)
  | @lst cb qj nG eb rb=>cases ry;obtain⟨dm,lQ,pb⟩:=sb.fy I eb;exact SeqAt.RcAt.str_list a ta pb (by omega)
 | @tup ca RE rX ea ra=>
  cases rx;obtain⟨iR,BS,pa⟩:=sb.isTup I ea
  cases r2 with
  | cW=>cases ry;exact SeqAt.RcAt.tuple_none pa (by omega)
  | bl b=>cases ry;exact SeqAt.RcAt.tuple_bool b pa (by omega)
  | int b=>obtain⟨tb,rfl⟩:=ry;exact SeqAt.RcAt.tuple_int b tb pa (by omega)
  | str b=>obtain⟨tb,rfl⟩:=ry;exact SeqAt.RcAt.tuple_str b tb pa (by omega)
  | @tup cb qj nG eb rb=>cases ry;obtain⟨dm,lQ,pb⟩:=sb.isTup I eb;exact(by
   have hd:A.units+(bM rX+1) < cLine:=hu
   have items:kM A s iR dm rX nG:=fun j h1 h2=>lR I sb rX (A:=A.in1) ra rb BS lQ (by show A.units+1+bM rX < cLine;omega) (fE iR j h1) (fE dm j h2)
   exact ue (by omega) pa pb (BS.length.symm.trans ra.length) (lQ.length.symm.trans rb.length) items)
  | @lst cb qj nG eb rb=>cases ry;obtain⟨dm,lQ,pb⟩:=sb.fy I eb;exact SeqAt.RcAt.tuple_list pa pb (by omega)
 | @lst ca RE rX ea ra=>
  cases rx;obtain⟨iR,BS,pa⟩:=sb.fy I ea
  cases r2 with
  | cW=>cases ry;exact SeqAt.RcAt.list_none pa (by omega)
  | bl b=>cases ry;exact SeqAt.RcAt.list_bool b pa (by omega)
  | int b=>obtain⟨tb,rfl⟩:=ry;exact SeqAt.RcAt.list_int b tb pa (by omega)
  | str b=>obtain⟨tb,rfl⟩:=ry;exact SeqAt.RcAt.list_str b tb pa (by omega)
  | @tup cb qj nG eb rb=>cases ry;obtain⟨dm,lQ,pb⟩:=sb.isTup I eb;exact SeqAt.RcAt.list_tuple pa pb (by omega)
  | @lst cb qj nG eb rb=>cases ry;obtain⟨dm,lQ,pb⟩:=sb.fy I eb;exact(by
   have hd:A.units+(bM rX+1) < cLine:=hu
   have items:kM A s iR dm rX nG:=fun j h1 h2=>lR I sb rX (A:=A.in1) ra rb BS lQ (by show A.units+1+bM rX < cLine;omega) (fE iR j h1) (fE dm j h2)
   exact vL (by omega) pa pb (BS.length.symm.trans ra.length) (lQ.length.symm.trans rb.length) items)
theorem Lq (I:Inv X pins σ H s) (sb:Sub F H){d e:D}{A:Around}{x y:V}{u w':Value}(r1:Rep F x d) (r2:Rep F y e) (rx:RelV x u) (ry:RelV y w') (hu:A.units+bZ d < cLine):SeqAt.RcNeAt A s u w' (!jC d e):=by
 cases r1 with
 | cW=>
  cases rx
  cases r2 with
  | cW=>cases ry;exact SeqAt.RcNeAt.none_none
  | bl b=>cases ry;exact SeqAt.RcNeAt.none_bool b
  | int b=>obtain⟨tb,rfl⟩:=ry;exact SeqAt.RcNeAt.none_int b tb
  | str b=>obtain⟨tb,rfl⟩:=ry;exact SeqAt.RcNeAt.none_str b tb
  | @tup cb qj nG eb rb=>cases ry;obtain⟨dm,lQ,pb⟩:=sb.isTup I eb;exact SeqAt.RcNeAt.none_tuple pb (by omega)
  | @lst cb qj nG eb rb=>cases ry;obtain⟨dm,lQ,pb⟩:=sb.fy I eb;exact SeqAt.RcNeAt.none_list pb (by omega)
 | bl a=>
  cases rx
  cases r2 with
  | cW=>cases ry;exact SeqAt.RcNeAt.bool_none a
  | bl b=>cases ry;exact SeqAt.RcNeAt.bool_bool a b
  | int b=>obtain⟨tb,rfl⟩:=ry;exact SeqAt.RcNeAt.bool_int a b tb
  | str b=>obtain⟨tb,rfl⟩:=ry;exact SeqAt.RcNeAt.bool_str a b tb
  | @tup cb qj nG eb rb=>cases ry;obtain⟨dm,lQ,pb⟩:=sb.isTup I eb;exact SeqAt.RcNeAt.bool_tuple a pb (by omega)
  | @lst cb qj nG eb rb=>cases ry;obtain⟨dm,lQ,pb⟩:=sb.fy I eb;exact SeqAt.RcNeAt.bool_list a pb (by omega)
 | int a=>
  obtain⟨ta,rfl⟩:=rx
  cases r2 with
  | cW=>cases ry;exact SeqAt.RcNeAt.int_none a ta
  | bl b=>cases ry;exact SeqAt.RcNeAt.int_bool a ta b
  | int b=>obtain⟨tb,rfl⟩:=ry;exact SeqAt.RcNeAt.int_int a ta b tb
  | str b=>obtain⟨tb,rfl⟩:=ry;exact SeqAt.RcNeAt.int_str a ta b tb
  | @tup cb qj nG eb rb=>cases ry;obtain⟨dm,lQ,pb⟩:=sb.isTup I eb;exact SeqAt.RcNeAt.int_tuple a ta pb (by omega)
  | @lst cb qj nG eb rb=>cases ry;obtain⟨dm,lQ,pb⟩:=sb.fy I eb;exact SeqAt.RcNeAt.int_list a ta pb (by omega)
 | str a=>
  obtain⟨ta,rfl⟩:=rx
  cases r2 with
  | cW=>cases ry;exact SeqAt.RcNeAt.str_none a ta
  | bl b=>cases ry;exact SeqAt.RcNeAt.str_bool a ta b
  | int b=>obtain⟨tb,rfl⟩:=ry;exact SeqAt.RcNeAt.str_int a ta b tb
  | str b=>obtain⟨tb,rfl⟩:=ry;exact SeqAt.RcNeAt.str_str a ta b tb
  | @tup cb qj nG eb rb=>cases ry;obtain⟨dm,lQ,pb⟩:=sb.isTup I eb;exact SeqAt.RcNeAt.str_tuple a ta pb (by omega)
  | @lst cb qj nG eb rb=>cases ry;obtain⟨dm,lQ,pb⟩:=sb.fy I eb;exact SeqAt.RcNeAt.str_list a ta pb (by omega)
 | @tup ca RE rX ea ra=>
  cases rx;obtain⟨iR,BS,pa⟩:=sb.isTup I ea
  cases r2 with
  | cW=>cases ry;exact SeqAt.RcNeAt.tuple_none pa (by omega)
  | bl b=>cases ry;exact SeqAt.RcNeAt.tuple_bool b pa (by omega)
  | int b=>obtain⟨tb,rfl⟩:=ry;exact SeqAt.RcNeAt.tuple_int b tb pa (by omega)
  | str b=>obtain⟨tb,rfl⟩:=ry;exact SeqAt.RcNeAt.tuple_str b tb pa (by omega)
  | @tup cb qj nG eb rb=>cases ry;obtain⟨dm,lQ,pb⟩:=sb.isTup I eb;exact(by
   have hd:A.units+(bM rX+1) < cLine:=hu
   have items:kM A s iR dm rX nG:=fun j h1 h2=>lR I sb rX (A:=A.in1) ra rb BS lQ (by show A.units+1+bM rX < cLine;omega) (fE iR j h1) (fE dm j h2)
   exact w4 (by omega) pa pb (BS.length.symm.trans ra.length) (lQ.length.symm.trans rb.length) items)
  | @lst cb qj nG eb rb=>cases ry;obtain⟨dm,lQ,pb⟩:=sb.fy I eb;exact SeqAt.RcNeAt.tuple_list pa pb (by omega)
 | @lst ca RE rX ea ra=>
  cases rx;obtain⟨iR,BS,pa⟩:=sb.fy I ea
  cases r2 with
  | cW=>cases ry;exact SeqAt.RcNeAt.list_none pa (by omega)
  | bl b=>cases ry;exact SeqAt.RcNeAt.list_bool b pa (by omega)
  | int b=>obtain⟨tb,rfl⟩:=ry;exact SeqAt.RcNeAt.list_int b tb pa (by omega)
  | str b=>obtain⟨tb,rfl⟩:=ry;exact SeqAt.RcNeAt.list_str b tb pa (by omega)
  | @tup cb qj nG eb rb=>cases ry;obtain⟨dm,lQ,pb⟩:=sb.isTup I eb;exact SeqAt.RcNeAt.list_tuple pa pb (by omega)
  | @lst cb qj nG eb rb=>cases ry;obtain⟨dm,lQ,pb⟩:=sb.fy I eb;exact(by
   have hd:A.units+(bM rX+1) < cLine:=hu
   have items:kM A s iR dm rX nG:=fun j h1 h2=>lR I sb rX (A:=A.in1) ra rb BS lQ (by show A.units+1+bM rX < cLine;omega) (fE iR j h1) (fE dm j h2)
   exact yM (by omega) pa pb (BS.length.symm.trans ra.length) (lQ.length.symm.trans rb.length) items)
noncomputable def pS:List D→Option U
 | [a,b]=>if bZ a≤40 then some (.t (.bl (jC a b))) else none
 | _=>none
noncomputable def Bt:List D→Option U
 | [a,b]=>if bZ a≤40 then some (.t (.bl (!jC a b))) else none
 | _=>none
theorem fU (hu:X.A.units+64 < cLine):wW X (compareOp .Eq) pS:=by
 intro pins s σ H x y v u Q I rx ry ⟨F,ds,w,sb,rs,hw,q⟩
 obtain⟨d,e,rfl,r1,r2⟩:=tY rs
 obtain⟨hd,rfl⟩:=cX (show(if bZ d≤40 then some (U.t (.bl (jC d e))) else none)=some w from hw)
 exact RG I sb r1 r2 rx ry (by omega) _ _ _ _ ⟨.bl _,H,I,rfl,q _ F H (iO.refl ..) sb (.bl _)⟩
theorem mY (hu:X.A.units+64 < cLine):wW X (compareOp .NotEq) Bt:=by
 intro pins s σ H x y v u Q I rx ry ⟨F,ds,w,sb,rs,hw,q⟩
 obtain⟨d,e,rfl,r1,r2⟩:=tY rs
 obtain⟨hd,rfl⟩:=cX (show(if bZ d≤40 then some (U.t (.bl (!jC d e))) else none)=some w from hw)
 exact Lq I sb r1 r2 rx ry (by omega) _ _ _ _ ⟨.bl _,H,I,rfl,q _ F H (iO.refl ..) sb (.bl _)⟩
noncomputable def inD (x:D) (ds:List D):Bool:=ds.any fun y=>jC y x
noncomputable def rY:List D→Option U
 | [x,.tup ds]=>if bM ds≤40 then some (.t (.bl (inD x ds))) else none
 | [x,.lst ds]=>if bM ds≤40 then some (.t (.bl (inD x ds))) else none
 | [.str i,.str j]=>some (.t (.bl (!(Builtin.Str.occurrences j i 0 j.length 1).isEmpty)))
 | _=>none
noncomputable def lu:List D→Option U
 | [x,.tup ds]=>if bM ds≤40 then some (.t (.bl (!inD x ds))) else none
 | [x,.lst ds]=>if bM ds≤40 then some (.t (.bl (!inD x ds))) else none
 | [.str i,.str j]=>some (.t (.bl (!(!(Builtin.Str.occurrences j i 0 j.length 1).isEmpty))))
 | _=>none
theorem iG:∀{ds:List D}{d:D},d∈ds→bZ d≤bM ds
 | d :: ds,e,h=>by
  show bZ e≤max (bZ d) (bM ds)
  rcases List.mem_cons.mp h with rfl | h
  ·exact Nat.le_max_left _ _
  ·exact Nat.le_trans (iG h) (Nat.le_max_right _ _)
theorem RelV.uniq {v w':V}{u:Value}(a:RelV v u) (b:RelV w' u):v=w':=by
 cases v <;> cases w' <;> simp only[RelV] at a b <;> first
  | rfl
  | (subst a;cases b;done)
  | (subst a;cases b;rfl)
  | (obtain⟨t,rfl⟩:=a;obtain⟨t',e⟩:=b;cases e;done)
  | (obtain⟨t,rfl⟩:=a;obtain⟨t',e⟩:=b;cases e;rfl)
  | (obtain⟨t,rfl⟩:=a;cases b;done)
  | (obtain⟨t,rfl⟩:=b;cases a;done)
open Classical in
noncomputable def yN (F:Hp) (d:D) (y:Value):Bool:=if h:∃(v:V) (dd:D),RelV v y∧Rep F v dd then jC (Classical.choose (Classical.choose_spec h)) d else false
theorem IY {v:V}{dd d:D}{y:Value}(a:RelV v y) (r:Rep F v dd):yN F d y=jC dd d:=by
 unfold yN
 have h:∃(v:V) (dd:D),RelV v y∧Rep F v dd:=⟨v,dd,a,r⟩
 rw[dif_pos h]
 have k:=Classical.choose_spec (Classical.choose_spec h)
 have e1:=RelV.uniq k.1 a
 have r':Rep F (Classical.choose h) dd:=by rw[e1];exact r
 rw[Rep.uniq k.2 r']
theorem nH (I:Inv X pins σ H s) (sb:Sub F H){A:Around}{x:V}{u:Value}{d:D}(r:Rep F x d) (rx:RelV x u):∀{vs:List V}{ds:List D}{its:List Value},bW F vs ds→Vals vs its→A.units+bM ds < cLine→
  (∀y∈its,SeqAt.EqAt A s y u (yN F d y))∧its.any (yN F d)=inD d ds
 | _,_,_,.nil,.nil,_=>⟨(fun y hy=>absurd hy (by simp)),rfl⟩
 | _,_,_,@bW.cons _ v dd vs ds r1 rs,.cons q qs,hu=>by
  have hd:A.units+max (bZ dd) (bM ds) < cLine:=hu
  obtain⟨h1,h2⟩:=nH I sb (A:=A) r rx rs qs (by omega)
  refine⟨fun y hy=>?_,?_⟩
  ·rcases List.mem_cons.mp hy with rfl | hy
   ·rw[IY q r1];exact MT I sb dd r1 r q rx (by omega)
   ·exact h1 y hy
  ·rw[List.any_cons,h2,IY q r1]
   rfl
theorem lT (hu:X.A.units+64 < cLine):wW X (compareOp .In) rY:=by
 intro pins s σ H x y v u Q I rx ry ⟨F,ds,w,sb,rs,hw,q⟩
 obtain⟨d,e,rfl,r1,r2⟩:=tY rs
 cases e with
 | tup ds=>
  obtain⟨hd,rfl⟩:=cX (show(if bM ds≤40 then some (U.t (.bl (inD d ds))) else none)=some w by cases d <;> exact hw)
  obtain⟨a,vs,rfl,fa,ha,rs⟩:=sb.mJ r2
  cases ry
  obtain⟨its,rv,p⟩:=sb.isTup I fa
  obtain⟨h1,h2⟩:=nH I sb (A:=X.A.in1) r1 rx rs rv (by show X.A.units+1+bM ds < cLine;omega)
  refine SeqAt.in_tupleAt (yN F d) p (fun y hy=>h1 y (by simpa using hy)) ⟨.bl _,H,I,rfl,?_⟩
  rw[show its.toArray.any (yN F d)=its.any (yN F d) by simp,h2]
  exact q _ F H (iO.refl ..) sb (.bl _)
 | lst ds=>
  obtain⟨hd,rfl⟩:=cX (show(if bM ds≤40 then some (U.t (.bl (inD d ds))) else none)=some w by cases d <;> exact hw)
  obtain⟨a,vs,rfl,fa,ha,rs⟩:=sb.jF r2
  cases ry
  obtain⟨its,rv,p⟩:=sb.fy I fa
  obtain⟨h1,h2⟩:=nH I sb (A:=X.A.in1) r1 rx rs rv (by show X.A.units+1+bM ds < cLine;omega)
  refine SeqAt.in_listAt (yN F d) p (fun y hy=>h1 y (by simpa using hy)) ⟨.bl _,H,I,rfl,?_⟩
  rw[show its.toArray.any (yN F d)=its.any (yN F d) by simp,h2]
  exact q _ F H (iO.refl ..) sb (.bl _)
 | str j=>
  cases d <;> try (simp[rY] at hw;done)
  rename_i i
  cases hw
  cases r1
  cases r2
  exact Fy pins s σ H _ _ v u Q I rx ry ⟨i,j,rfl,rfl,q _ F H (iO.refl ..) sb (.bl _)⟩
 | cW=>cases d <;> (simp[rY] at hw;done)
 | bl b=>cases d <;> (simp[rY] at hw;done)
 | int b=>cases d <;> (simp[rY] at hw;done)
theorem uU (hu:X.A.units+64 < cLine):wW X (compareOp .NotIn) lu:=by
 intro pins s σ H x y v u Q I rx ry ⟨F,ds,w,sb,rs,hw,q⟩
 obtain⟨d,e,rfl,r1,r2⟩:=tY rs
 cases e with
 | tup ds=>
  obtain⟨hd,rfl⟩:=cX (show(if bM ds≤40 then some (U.t (.bl (!inD d ds))) else none)=some w by cases d <;> exact hw)
  obtain⟨a,vs,rfl,fa,ha,rs⟩:=sb.mJ r2
  cases ry
  obtain⟨its,rv,p⟩:=sb.isTup I fa
  obtain⟨h1,h2⟩:=nH I sb (A:=X.A.in1) r1 rx rs rv (by show X.A.units+1+bM ds < cLine;omega)
  refine SeqAt.notIn_tupleAt (yN F d) p (fun y hy=>h1 y (by simpa using hy)) ⟨.bl _,H,I,rfl,?_⟩
  rw[show its.toArray.any (yN F d)=its.any (yN F d) by simp,h2]
  exact q _ F H (iO.refl ..) sb (.bl _)
 | lst ds=>
  obtain⟨hd,rfl⟩:=cX (show(if bM ds≤40 then some (U.t (.bl (!inD d ds))) else none)=some w by cases d <;> exact hw)
  obtain⟨a,vs,rfl,fa,ha,rs⟩:=sb.jF r2
  cases ry
  obtain⟨its,rv,p⟩:=sb.fy I fa
  obtain⟨h1,h2⟩:=nH I sb (A:=X.A.in1) r1 rx rs rv (by show X.A.units+1+bM ds < cLine;omega)
  refine SeqAt.notIn_listAt (yN F d) p (fun y hy=>h1 y (by simpa using hy)) ⟨.bl _,H,I,rfl,?_⟩
  rw[show its.toArray.any (yN F d)=its.any (yN F d) by simp,h2]
  exact q _ F H (iO.refl ..) sb (.bl _)
 | str j=>
  cases d <;> try (simp[lu] at hw;done)
  rename_i i
  cases hw
  cases r1
  cases r2
  exact Ah pins s σ H _ _ v u Q I rx ry ⟨i,j,rfl,rfl,q _ F H (iO.refl ..) sb (.bl _)⟩
 | cW=>cases d <;> (simp[lu] at hw;done)
 | bl b=>cases d <;> (simp[lu] at hw;done)
 | int b=>cases d <;> (simp[lu] at hw;done)
end
end L2
end
section
set_option Elab.async false
set_option linter.all false
set_option maxRecDepth 100000
namespace L2
open PySem PySem.Spec PyProof.Rows
noncomputable def dj (T:String) (d:D):Option Bool:=match T with
 | "tuple"=>some (bU d)
 | "list"=>some (IE d)
 | "str"=>some (iN d)
 | "bool"=>some (p6 d)
 | "int"=>some (Ao d)
 | _=>none
theorem IZ {K:PySem.W.Frag}{T:String}{d:D}{b:Bool}(h:dj T d=some b):PySem.W.kitOne K (.type (ML d)) (.type T)=some b:=by
 unfold dj at h
 split at h
 ·cases h;exact Li d
 ·cases h;exact Lj d
 ·cases h;exact IF d
 ·cases h;exact N3 d
 ·cases h;exact Lk d
 ·cases h
noncomputable def bV:List String→D→Option Bool
 | [],_=>some false
 | T :: Ts,d=>match dj T d with
  | some true=>some true
  | some false=>bV Ts d
  | none=>none
section
variable {X:Cx}{pins:List (Addr×Obj)}{σ:St}{F H:Hp}{s:Shared}
theorem Lr (I:Inv X pins σ H s) (sb:Sub F H){A:Around}{E:Value→Shared→Prop}{Q:Value→Shared→Prop}{x:V}{u:Value}{d:D}{c:Value}{b:Bool}(r:Rep F x d) (rx:RelV x u) (e:PySem.W.kitOne X.K (.type (ML d)) c=some b) (h:∀tk,Q (.bool b) {s with toks:=tk}):
  wpAny (model X.prog X.w) A (call (.builtin "isinstance") [u,c]) Q E s:=by
 cases r with
 | cW=>cases rx;exact PySem.W.kia_one PySem.W.kitx_none I.Et True.intro e (fun z=>nomatch z) h
 | bl y=>cases rx;exact PySem.W.kia_one PySem.W.kitx_bool I.Et True.intro e (fun z=>nomatch z) h
 | int i=>obtain⟨t,rfl⟩:=rx;exact PySem.W.kia_one PySem.W.kitx_int I.Et True.intro e (fun z=>nomatch z) h
 | str y=>obtain⟨t,rfl⟩:=rx;exact PySem.W.kia_one PySem.W.kitx_str I.Et True.intro e (fun z=>nomatch z) h
 | tup ea _=>
  cases rx
  obtain⟨its,_,o,h1,h2,_⟩:=sb.isTup I ea
  exact PySem.W.kia_one PySem.W.kitx_tuple I.Et ⟨o,h1,h2⟩ e (fun z=>nomatch z) h
 | lst ea _=>
  cases rx
  obtain⟨its,_,o,h1,h2,_⟩:=sb.fy I ea
  exact PySem.W.kia_one PySem.W.kitx_list I.Et ⟨o,h1,h2⟩ e (fun z=>nomatch z) h
end
noncomputable def rZ (Ts:List String) (g:GD):GD:=fun S=>(g S).bind fun p=>(bV Ts p.1).map fun b=>(.bl b,p.2)
section
variable {X:Cx}{a b c e:Expr}{es:List Expr}{pos p p2 px:Pos}{x y:Str}{g ga gb gc:GD}{gA:GA}
theorem FZ {T:String}{d:D}{b:Bool}(h:bV [T] d=some b):dj T d=some b:=by
 unfold bV at h
 cases e:dj T d with
 | none=>rw[e] at h;cases h
 | some k=>rw[e] at h;cases k <;> exact h
theorem cL {T:String}(hg:Gl X "isinstance") (hm:X.mg "isinstance" =none) (U9:Gl X y) (hm2:X.mg y=none) (hv2:bootBuiltins y=some (.type T)) (ha:JD X a ga) (hn2:y≠"__name__":=by decide) (hd2:(y == ("__debug__":Str))=false:=by decide)
    (hs:starEach [a,.Name y px] X.env=(false,eval a X.env) :: starEach [.Name y px] X.env:=by rfl) (hs2:starEach [.Name y px] X.env=(false,eval (.Name y px) X.env) :: starEach [] X.env:=by rfl) (hpl:(backTo pos (starEach [.Name y px] X.env)).any (·.1)=false:=by rfl):
    JD X (.Call (.Name "isinstance" p) [a,.Name y px] [] pos) (rZ [T] ga):=⟨fun B=>
  (pX (r := fun xs H Q => ∃ x F d b, xs = [x, .ty T] ∧ Sub F H ∧ Rep F x d ∧ dj T d = some b ∧ Q (.bl b) H) (fun pins s σ H xs us Q I r ⟨x, F, d, b, e1, sb, rd, hk, q⟩ => by
      subst e1
      obtain⟨u,w',rfl,ru,rw'⟩:=vals2 r
      cases rw'
      exact Lr I sb rd ru (IZ hk) fun tk=>⟨.bl b,H,I.tok tk,rfl,q⟩) hg hm PyProof.Rows.Boot.isinstance (q8 (ha.h B) (q8 (KO (v:=.ty T) U9 hm2 hv2 rfl hn2 hd2) Ai hs2) hs) (by decide) (by decide) hs hpl).imp fun σ H Q ⟨S,F,d,S',R,hg,q⟩=>by
  obtain⟨⟨d1,S1⟩,h1,hg⟩:=az hg
  obtain⟨k,h2,hg⟩:=aG hg
  cases hg
  exact⟨S,F,d1,_,R,h1,fun v F1 H1 R1 st1 r1=>⟨v,F1,d1,k,rfl,R1.sub,r1,FZ h2,q _ F1 H1 R1 st1 (.bl k)⟩⟩⟩
noncomputable def lz:List D→Option (List Bool)
 | []=>some []
 | .bl b :: ds=>(lz ds).map fun bs=>b :: bs
 | _=>none
theorem vM {F:Hp}:∀{vs:List V}{ds:List D}{bs:List Bool},bW F vs ds→lz ds=some bs→vs=bs.map V.bl
 | _,_,_,.nil,h=>by cases h;rfl
 | _,_,_,@bW.cons _ v d vs ds r rs,h=>by
  cases d <;> try (simp[lz] at h;done)
  obtain⟨bs,h1,h2⟩:=aG (show(lz ds).map _=_ from h)
  subst h2
  rw[jG r,vM rs h1]
  rfl
noncomputable def Dt:List D→Option U
 | [.lst ds]=>(lz ds).map fun bs=>.t (.bl (bs.all id))
 | _=>none
noncomputable def Xi:List D→Option U
 | [.lst ds]=>(lz ds).map fun bs=>.t (.bl (bs.any id))
 | _=>none
theorem rD {P:D→Prop}{F:Hp}{xs:List V}{ds:List D}{f:List D→Option U}{w':U}(rs:bW F xs ds) (h:f ds=some w') (hn:f []=none) (h2:∀a b r,f (a :: b :: r)=none):∃x d,xs=[x]∧ds=[d]∧Rep F x d:=by
 cases rs with
 | nil=>rw[hn] at h;cases h
 | cons r rs=>
  cases rs with
  | nil=>exact⟨_,_,rfl,rfl,r⟩
  | cons _ _=>rw[h2] at h;cases h
theorem rE (hc:X.calm=true):gY X (.builtin "all") (rP Dt):=by
 intro pins s σ H xs us Q I r ⟨F,ds,w,sb,rs,hw,q⟩
 obtain⟨x,d,rfl,rfl,r1⟩:=rD (P:=fun _=>True) rs hw rfl (fun d _ _=>by cases d <;> rfl)
 cases d <;> try (simp[Dt] at hw;done)
 rename_i ds
 obtain⟨bs,h1,rfl⟩:=aG (show(lz ds).map _=some w from hw)
 obtain⟨a,vs,rfl,fa,ha,uR⟩:=sb.jF r1
 obtain rfl:=vM uR h1
 exact FN hc pins s σ H _ us Q I r ⟨a,bs,rfl,.inl ha,q _ F H (iO.refl ..) sb (.bl _)⟩
noncomputable def RH:List D→Option U
 | [.int i,.int j,.int k]=>some (.t (.int (if j < i then(if k < j then k else j) else if k < i then k else i)))
 | _=>none
noncomputable def BU:List D→Option U
 | [.int i,.int j]=>some (.t (.int (if j < i then j else i)))
 | _=>none
noncomputable def RI:List D→Option U
 | [.int i,.int j]=>some (.t (.int (if j > i then j else i)))
 | _=>none
theorem Du (hc : X.calm = true) : gY X (.builtin "min") (rP BU) := by
  intro pins s σ H xs us Q I r ⟨F,ds,w,sb,rs,hw,q⟩
  unfold BU at hw
  split at hw
  · rename_i i j
    cases hw
    cases rs with
    | cons r1 rs=>cases rs with
      | cons r2 rs=>
        cases rs
        rw[kK r1,kK r2] at r
        exact Fz hc pins s σ H _ us Q I r ⟨i,j,rfl,q _ F H (iO.refl ..) sb (.int _)⟩
  · cases hw
noncomputable def pM:List D→Option U
 | [.tup ds]=>some (.m (.lst ds))
 | [.lst ds]=>some (.m (.lst ds))
 | _=>none
noncomputable def lU:List D→Option U
 | [.tup ds]=>some (.t (.tup ds))
 | [.lst ds]=>some (.t (.tup ds))
 | _=>none
theorem sM:gY X (.type "list") (rP pM):=by
 intro pins s σ H xs us Q I r ⟨F,ds,w,sb,rs,hw,q⟩
 obtain⟨x,d,rfl,rfl,r1⟩:=rD (P:=fun _=>True) rs hw rfl (fun d _ _=>by cases d <;> rfl)
 cases d <;> try (simp[pM] at hw;done)
 ·cases hw
  obtain⟨a,vs,rfl,fa,ha,uR⟩:=sb.mJ r1
  exact tW pins s σ H _ us Q I r ⟨a,vs,rfl,.inr (.inl ha),fun p hp=>q _ F _ (iO.obj hp _) (sb.same (iO.obj (F:=F) hp _).same) ⟨p,rfl,hp,sb.fresh hp,vs,bJ,uR⟩⟩
 ·cases hw
  obtain⟨a,vs,rfl,fa,ha,uR⟩:=sb.jF r1
  exact tW pins s σ H _ us Q I r ⟨a,vs,rfl,.inl (.inl ha),fun p hp=>q _ F _ (iO.obj hp _) (sb.same (iO.obj (F:=F) hp _).same) ⟨p,rfl,hp,sb.fresh hp,vs,bJ,uR⟩⟩
theorem qk:gY X (.type "tuple") (rP lU):=by
 intro pins s σ H xs us Q I r ⟨F,ds,w,sb,rs,hw,q⟩
 obtain⟨x,d,rfl,rfl,r1⟩:=rD (P:=fun _=>True) rs hw rfl (fun d _ _=>by cases d <;> rfl)
 cases d <;> try (simp[lU] at hw;done)
 ·cases hw
  have r0:=r1
  obtain⟨a,vs,rfl,fa,ha,uR⟩:=sb.mJ r1
  exact se pins s σ H _ us Q I r ⟨a,vs,rfl,.inr ⟨.inl ha,q _ F H (iO.refl ..) sb r0⟩⟩
 ·cases hw
  obtain⟨a,vs,rfl,fa,ha,uR⟩:=sb.jF r1
  exact se pins s σ H _ us Q I r ⟨a,vs,rfl,.inl ⟨.inl ha,fun p hp=>q _ _ _ (iO.root sb hp _) (sb.wV hp) (.tup bJ (uR.le (kY (sb.fresh hp))))⟩⟩
end
end L2
end
section
set_option Elab.async false
set_option linter.all false
set_option maxRecDepth 100000
namespace L2
open PySem PySem.Spec PyProof.Rows
noncomputable def keyOf:D→Option Key
 | .int i=>some (.inl i)
 | .str z=>some (.inr z)
 | _=>none
theorem nI {F:Hp}{v:V}{d:D}{k:Key}(r:Rep F v d) (h:keyOf d=some k):v=kV k:=by
 cases r <;> cases h <;> rfl
noncomputable def dh {κ:Type} [DecidableEq κ] (kvs:List (κ×D)) (k:κ):Option D:=(kvs.find? fun kv=>decide (kv.1=k)).map (·.2)
noncomputable def putD {κ:Type} [DecidableEq κ] (kvs:List (κ×D)) (k:κ) (d:D):List (κ×D):=
 if(kvs.any fun kv=>decide (kv.1=k))=true then kvs.map (fun kv=>if kv.1=k then(kv.1,d) else kv) else kvs++[(k,d)]
theorem rF {κ:Type} [DecidableEq κ] {F:Hp}{k:κ}{d:D}:∀{ws:List (κ×V)}{kvs:List (κ×D)},Paired (jk F) ws kvs→dh kvs k=some d→∃v,sG ws k=some v∧Rep F v d
 | _,_,.nil,h=>by cases h
 | _,_,@Paired.cons _ _ _ p q ws kvs r rs,h=>by
  by_cases e:q.1=k
  ·have e':p.1=k:=r.1.trans e
   refine⟨p.2,tR e',?_⟩
   have:dh (q :: kvs) k=some q.2:=by simp[dh,List.find?_cons,e]
   rw[this] at h
   cases h
   exact r.2
  ·have e':¬p.1=k:=fun z=>e (r.1.symm.trans z)
   have:dh (q :: kvs) k=dh kvs k:=by simp[dh,List.find?_cons,e]
   rw[this] at h
   obtain⟨v,h1,h2⟩:=rF rs h
   exact⟨v,by rw[pY e'];exact h1,h2⟩
theorem zG {κ:Type} [DecidableEq κ] {F:Hp}{k:κ}:∀{ws:List (κ×V)}{kvs:List (κ×D)},Paired (jk F) ws kvs→dh kvs k=none→sG ws k=none
 | _,_,.nil,h=>rfl
 | _,_,@Paired.cons _ _ _ p q ws kvs r rs,h=>by
  by_cases e:q.1=k
  ·have:dh (q :: kvs) k=some q.2:=by simp[dh,List.find?_cons,e]
   rw[this] at h
   cases h
  ·have e':¬p.1=k:=fun z=>e (r.1.symm.trans z)
   have:dh (q :: kvs) k=dh kvs k:=by simp[dh,List.find?_cons,e]
   rw[this] at h
   rw[pY e']
   exact zG rs h
theorem BV {κ:Type} [DecidableEq κ] {F:Hp}{k:κ}:∀{ws:List (κ×V)}{kvs:List (κ×D)},Paired (jk F) ws kvs→(ws.any fun kv=>decide (kv.1=k))=(kvs.any fun kv=>decide (kv.1=k))
 | _,_,.nil=>rfl
 | _,_,.cons r rs=>by rw[List.any_cons,List.any_cons,BV rs,r.1]
theorem BW {κ:Type} [DecidableEq κ] {F:Hp}{k:κ}{v:V}{d:D}(r:Rep F v d):∀{ws:List (κ×V)}{kvs:List (κ×D)},Paired (jk F) ws kvs→Paired (jk F) (ws.map fun kv=>if kv.1=k then(kv.1,v) else kv) (kvs.map fun kv=>if kv.1=k then(kv.1,d) else kv)
 | _,_,.nil=>.nil
 | _,_,@Paired.cons _ _ _ p q ws kvs h hs=>by
  refine .cons ?_ (BW r hs)
  show jk F (if p.1=k then(p.1,v) else p) (if q.1=k then(q.1,d) else q)
  rw[h.1]
  by_cases e:q.1=k
  ·rw[if_pos e,if_pos e];exact⟨rfl,r⟩
  ·rw[if_neg e,if_neg e];exact h
theorem vN {α β:Type}{P:α→β→Prop}{x:α}{y:β}(p:P x y):∀{l:List α}{r:List β},Paired P l r→Paired P (l++[x]) (r++[y])
 | _,_,.nil=>.cons p .nil
 | _,_,.cons q qs=>.cons q (vN p qs)
theorem w5 {κ:Type} [DecidableEq κ] {F:Hp}{k:κ}{v:V}{d:D}{ws:List (κ×V)}{kvs:List (κ×D)}(h:Paired (jk F) ws kvs) (r:Rep F v d):Paired (jk F) (putK ws k v) (putD kvs k d):=by
 unfold putK putD
 rw[BV h]
 by_cases e:(kvs.any fun kv=>decide (kv.1=k))=true
 ·rw[if_pos e,if_pos e];exact BW r h
 ·rw[if_neg e,if_neg e];exact vN ⟨rfl,r⟩ h
noncomputable def keysOf:List D→Option (List Key)
 | []=>some []
 | d :: ds=>(keyOf d).bind fun k=>(keysOf ds).map fun ks=>k :: ks
noncomputable def Dv:D→Option (List Key)
 | .tup ds=>keysOf ds
 | _=>none
theorem vO {F:Hp}:∀{vs:List V}{ds:List D}{ks:List Key},bW F vs ds→keysOf ds=some ks→vs=ks.map kV
 | _,_,_,.nil,h=>by cases h;rfl
 | _,_,_,.cons r rs,h=>by
  obtain⟨k,h1,h⟩:=az h
  obtain⟨ks,h2,rfl⟩:=aG h
  rw[nI r h1,vO rs h2]
  rfl
theorem uf {F H:Hp}{v:V}{d:D}{ks:List Key}(sb:Sub F H) (r:Rep F v d) (h:Dv d=some ks):∃b,v= .ref b∧H b=some (.tup (ks.map kV)):=by
 cases r with
 | tup e rs=>exact⟨_,rfl,by rw[←vO rs h];exact sb _ _ e⟩
 | cW=>cases h
 | bl _=>cases h
 | int _=>cases h
 | str _=>cases h
 | lst _ _=>cases h
noncomputable def ug:U→D→Option D
 | .t (.tup ds),.int i=>gZ ds i
 | .t (.lst ds),.int i=>gZ ds i
 | .m (.lst ds),.int i=>gZ ds i
 | .b (.lst ds),.int i=>gZ ds i
 | .s ns,.int i=>(gZ ns i).map D.int
 | .m (.dct kvs),k=>(keyOf k).bind (dh kvs)
 | .b (.dct kvs),k=>(keyOf k).bind (dh kvs)
 | .m (.yJ kvs),k=>(Dv k).bind (dh kvs)
 | .b (.yJ kvs),k=>(Dv k).bind (dh kvs)
 | _,_=>none
noncomputable def bC (i:Nat) (gb:GD):GD:=fun S=>match S[i]? with
 | some (some _)=>(gb S).bind fun p=>match p.2[i]? with
  | some (some u)=>(ug u p.1).map fun d=>(d,p.2)
  | _=>none
 | _=>none
theorem Ls {α β:Type}(f:α→β){l:List α}{i:Int}{x:α}(h:gZ l i=some x):gZ (l.map f) i=some (f x):=by
 unfold gZ at h ⊢
 rw[List.length_map]
 obtain⟨j,h1,h2⟩:=az h
 rw[h1]
 show(l.map f)[j]? =_
 rw[List.getElem?_map,h2]
 rfl
section
variable {X:Cx}{a b c e value:Expr}{es:List Expr}{pos p p2 px pos':Pos}{x y:Str}{g ga gb gc gk gv:GD}{gA:GA}
theorem bq {i : Nat} (hu : X.A.units + 1 < cLine) (hb : JD X b gb) (hs : Am b := by first | (intro _ _; rfl)) (hN : X.N[i]? = some x := by rfl) (hv : HC X.env.scope x := by first | exact Or.inl rfl | exact Or.inr (Or.inl rfl) | exact Or.inr (Or.inr rfl))
    (hd:(x == ("__debug__":Str))=false:=by decide) (hcd:(x == ("__classdict__":Str))=false:=by decide):JD X (.Subscript (.Name x px) b pos) (bC i gb):=⟨fun B=>PE.orelse fun σ H Q ⟨S,F,d,S',R,hg,q⟩=>by
  unfold bC at hg
  split at hg
  · rename_i u0 RJ
    obtain⟨v0,hv0,_⟩:=R.rep i u0 RJ
    obtain⟨⟨k,S1⟩,h1,hg⟩:=az hg
    dsimp only at hg
    split at hg
    · rename_i u hS
      obtain⟨d',hr,hg⟩:=aG hg
      cases hg
      have EU:∀F1 H1,Rel X.K B S' σ F1 H1→yK X.K F1 H1 v0 u:=fun F1 H1 R1=>by
        obtain⟨v,k1,k2⟩:=R1.rep i u hS
        rw[hv0] at k1
        cases k1
        exact k2
      have seq:∀(Y:V→V→Hp→VK→Prop),PE X (.Subscript (.Name x px) b pos) (Ny Y (KN i) (tD X.K B gb))→(∀v F1 H1,Rel X.K B S' σ F1 H1→Step S S' σ F H F1 H1→Rep F1 v k→Y v0 v H1 Q)→∃t',PE X (.Subscript (.Name x px) b pos) t'∧t' σ H Q:=fun Y hY h=>
        ⟨_,hY,v0,hv0,S,F,k,S',R,h1,fun v F1 H1 R1 st1 r1=>h v F1 H1 R1 st1 r1⟩
      have dict:∀kvs,(∀F1 H1,Rel X.K B S' σ F1 H1→∃a ws,v0= .ref a∧H1 a=some (.dK ws)∧Paired (jk F1) ws kvs)→(keyOf k).bind (dh kvs)=some d→∃t',PE X (.Subscript (.Name x px) b pos) t'∧t' σ H Q:=fun kvs hat hr=>by
        obtain⟨kk,e1,e2⟩:=az hr
        refine⟨_,EC hu (jD hN hv hd hcd) (hb.h B) hs,v0,hv0,S,F,k,S',R,h1,fun v F1 H1 R1 st1 r1=>?_⟩
        obtain⟨a,ws,rfl,ha,pr⟩:=hat F1 H1 R1
        obtain⟨w',z1,z2⟩:=rF pr e2
        rw[nI r1 e1]
        exact⟨a,w',rfl,by rw[←z1];exact rT.k ha,q w' F1 H1 R1 st1 z2⟩
      have MU:∀kvs,(∀F1 H1,Rel X.K B S' σ F1 H1→∃a ws,v0= .ref a∧H1 a=some (.dT ws)∧Paired (jk F1) ws kvs)→(Dv k).bind (dh kvs)=some d→∃t',PE X (.Subscript (.Name x px) b pos) t'∧t' σ H Q:=fun kvs hat hr=>by
        obtain⟨kk,e1,e2⟩:=az hr
        refine⟨_,EC hu (jD hN hv hd hcd) (hb.h B) hs,v0,hv0,S,F,k,S',R,h1,fun v F1 H1 R1 st1 r1=>?_⟩
        obtain⟨a,ws,rfl,ha,pr⟩:=hat F1 H1 R1
        obtain⟨w',z1,z2⟩:=rF pr e2
        obtain⟨b',rfl,hb'⟩:=uf R1.sub r1 e1
        exact⟨a,w',rfl,by rw[←z1];exact rT.t ha hb',q w' F1 H1 R1 st1 z2⟩
      have list:∀ds ii,k= .int ii→gZ ds ii=some d→(∀F1 H1,Rel X.K B S' σ F1 H1→∃a vs,v0= .ref a∧(qZ X.K H1 a vs∨Ag X.K H1 a vs)∧bW F1 vs ds)→∃t',PE X (.Subscript (.Name x px) b pos) t'∧t' σ H Q:=fun ds ii ek hrr hat=>by
        subst ek
        refine seq _ (Ik Io (jD hN hv hd hcd) (hb.h B) hs) fun v F1 H1 R1 st1 r1=>?_
        obtain⟨a,vs,rfl,ha,rs⟩:=hat F1 H1 R1
        obtain⟨w',z1,z2⟩:=rs.gZ hrr
        rw[kK r1]
        rcases ha with ha | ha
        · exact .inl ⟨a,vs,ii,w',rfl,rfl,ha,z1,q w' F1 H1 R1 st1 z2⟩
        · exact .inr (.inl ⟨a,vs,ii,w',rfl,rfl,ha,z1,q w' F1 H1 R1 st1 z2⟩)
      unfold ug at hr
      split at hr
      · rename_i ds ii
        exact list ds ii rfl hr fun F1 H1 R1=>let⟨a,vs,e1,fa,ha,rs⟩:=R1.sub.mJ (EU F1 H1 R1);⟨a,vs,e1,.inr (.inl ha),rs⟩
      · rename_i ds ii
        exact list ds ii rfl hr fun F1 H1 R1=>let⟨a,vs,e1,fa,ha,rs⟩:=R1.sub.jF (EU F1 H1 R1);⟨a,vs,e1,.inl (.inl ha),rs⟩
      · rename_i ds ii
        exact list ds ii rfl hr fun F1 H1 R1=>let⟨a,e1,fa,vs,ha,rs⟩:=EU F1 H1 R1;⟨a,vs,e1,.inl (qZ.of ha),rs⟩
      · rename_i ds ii
        exact list ds ii rfl hr fun F1 H1 R1=>let⟨a,e1,fa,vs,ha,rs⟩:=EU F1 H1 R1;⟨a,vs,e1,.inl (qZ.of ha),rs⟩
      · rename_i ns ii
        obtain⟨n,z1,z2⟩:=aG hr
        subst z2
        refine seq _ (Ik Io (jD hN hv hd hcd) (hb.h B) hs) fun v F1 H1 R1 st1 r1=>?_
        obtain⟨a,e1,ha⟩:=EU F1 H1 R1
        rw[kK r1]
        exact .inl ⟨a,ns.map V.int,ii,.int n,e1,rfl,ha.sq,Ls V.int z1,q _ F1 H1 R1 st1 (.int n)⟩
      · rename_i kvs
        exact dict kvs (fun F1 H1 R1=>let⟨a,e1,fa,ws,ha,pr⟩:=EU F1 H1 R1;⟨a,ws,e1,ha,pr⟩) hr
      · rename_i kvs
        exact dict kvs (fun F1 H1 R1=>let⟨a,e1,fa,ws,ha,pr⟩:=EU F1 H1 R1;⟨a,ws,e1,ha,pr⟩) hr
      · rename_i kvs
        exact MU kvs (fun F1 H1 R1=>let⟨a,e1,fa,ws,ha,pr⟩:=EU F1 H1 R1;⟨a,ws,e1,ha,pr⟩) hr
      · rename_i kvs
        exact MU kvs (fun F1 H1 R1=>let⟨a,e1,fa,ws,ha,pr⟩:=EU F1 H1 R1;⟨a,ws,e1,ha,pr⟩) hr
      · cases hr
    · cases hg
  · cases hg⟩
noncomputable def Aw:U→Option Nat
 | .t (.tup ds)=>some ds.length
 | .t (.lst ds)=>some ds.length
 | .t (.str z)=>if z.length≤100000 then some z.length else none
 | .m (.lst ds)=>some ds.length
 | .b (.lst ds)=>some ds.length
 | .m (.dct ds)=>some ds.length
 | .b (.dct ds)=>some ds.length
 | .s ns=>some ns.length
 | _=>none
noncomputable def gn (i:Nat):GD:=fun S=>match S[i]? with
 | some (some u)=>(Aw u).map fun n=>(.int (n:Nat),S)
 | _=>none
theorem eU {α β:Type}{P:α→β→Prop}:∀{l:List α}{r:List β},Paired P l r→l.length=r.length
 | _,_,.nil=>rfl
 | _,_,.cons _ ps=>congrArg Nat.succ (eU ps)
theorem fh {i:Nat}(hg:Gl X "len") (hm:X.mg "len" =none) (hN:X.N[i]? =some x:=by rfl) (hv:HC X.env.scope x:=by first | exact Or.inl rfl | exact Or.inr (Or.inl rfl) | exact Or.inr (Or.inr rfl))
  (hd:(x == ("__debug__":Str))=false:=by decide) (hcd:(x == ("__classdict__":Str))=false:=by decide) (he:starEach [.Name x px] X.env=(false,eval (.Name x px) X.env) :: starEach [] X.env:=by rfl) (hpl:(backTo pos (starEach [] X.env)).any (·.1)=false:=by rfl):
  JD X (.Call (.Name "len" p) [.Name x px] [] pos) (gn i):=⟨fun B=>PE.orelse fun σ H Q ⟨S,F,d,S',R,hg',q⟩=>by
 unfold gn at hg'
 split at hg'
 ·rename_i u hS
  obtain⟨n,hn,hg'⟩:=aG hg'
  cases hg'
  obtain⟨v0,hv0,r0⟩:=R.rep i u hS
  have fin:=q (.int n) F H R (Step.refl ..) (.int _)
  have arg:PA X [.Name x px] (MF (KN i) QZ):=q8 (jD hN hv hd hcd) Ai he
  have list:∀a vs,v0= .ref a→(qZ X.K H a vs∨Ag X.K H a vs)→vs.length=n→∃t',PE X (.Call (.Name "len" p) [.Name x px] [] pos) t'∧t' σ H Q:=fun a vs e1 ha hl=>
   ⟨_,pX oE hg hm PySem.boot_len arg (by decide) (by decide) he hpl,v0,hv0,a,vs,by rw[e1],ha,by rw[hl];exact fin⟩
  have dict:∀a ws,v0= .ref a→H a=some (.dK ws)→ws.length=n→∃t',PE X (.Call (.Name "len" p) [.Name x px] [] pos) t'∧t' σ H Q:=fun a vs e1 ha hl=>
   ⟨_,pX FL hg hm PySem.boot_len arg (by decide) (by decide) he hpl,v0,hv0,a,vs,by rw[e1],ha,by rw[hl];exact fin⟩
  unfold Aw at hn
  split at hn
  ·cases hn;obtain⟨a,vs,e1,fa,ha,rs⟩:=R.sub.mJ r0;exact list a vs e1 (.inr (.inl ha)) rs.length
  ·cases hn;obtain⟨a,vs,e1,fa,ha,rs⟩:=R.sub.jF r0;exact list a vs e1 (.inl (.inl ha)) rs.length
  ·rename_i z
   obtain⟨hl,rfl⟩:=cX hn
   exact⟨_,pX tV hg hm PySem.boot_len arg (by decide) (by decide) he hpl,v0,hv0,z,by rw[EO r0],lF hl,fin⟩
  ·cases hn;obtain⟨a,e1,fa,vs,ha,rs⟩:=r0;exact list a vs e1 (.inl (qZ.of ha)) rs.length
  ·cases hn;obtain⟨a,e1,fa,vs,ha,rs⟩:=r0;exact list a vs e1 (.inl (qZ.of ha)) rs.length
  ·cases hn;obtain⟨a,e1,fa,ws,ha,pr⟩:=r0;exact dict a ws e1 ha (eU pr)
  ·cases hn;obtain⟨a,e1,fa,ws,ha,pr⟩:=r0;exact dict a ws e1 ha (eU pr)
  ·cases hn;obtain⟨a,e1,ha⟩:=r0;exact list a _ e1 (.inl ha.sq) (by simp)
  ·cases hn
 ·cases hg'⟩
end
end L2
end
section
set_option Elab.async false
set_option linter.all false
set_option maxRecDepth 100000
namespace L2
open PySem PySem.Spec PyProof.Rows
noncomputable def xg (o:MO) (k d:D):Option MO:=match o with
 | .dct kvs=>(keyOf k).bind fun kk=>if kvs.length < 100000 then some (.dct (putD kvs kk d)) else none
 | .yJ kvs=>(Dv k).bind fun kk=>if kvs.length < 100000 then some (.yJ (putD kvs kk d)) else none
 | .lst ds=>match k with
  | .int i=>(Di ds.length i).map fun j=>.lst (ds.set j d)
  | _=>none
noncomputable def sN (i:Nat) (gk gv:GD):GS:=fun S=>(gv S).bind fun p=>match p.2[i]? with
 | some (some _)=>(gk p.2).bind fun r=>(qc r.2 i fun o=>(xg o r.1 p.1).map fun o'=>(.cW,o')).map fun z=>.nx z.2
 | _=>none
theorem bW.set {F:Hp}{v:V}{d:D}(r:Rep F v d):∀{vs:List V}{ds:List D}(j:Nat),bW F vs ds→bW F (vs.set j v) (ds.set j d)
 | _,_,_,.nil=>.nil
 | _,_,0,.cons _ rs=>.cons r rs
 | _,_,j+1,.cons q rs=>.cons q (bW.set r j rs)
section
variable {X:Cx}{a b c e value k:Expr}{es:List Expr}{pos p p2 px pos':Pos}{x y:Str}{g ga gb gc gk gv:GD}{gA:GA}
theorem sO {i:Nat}(hu:X.A.units+1 < cLine) (hk:JD X k gk) (hval:JD X value gv) (hN:X.N[i]? =some x:=by rfl) (hv:HC X.env.scope x:=by first | exact Or.inl rfl | exact Or.inr (Or.inl rfl) | exact Or.inr (Or.inr rfl))
  (hd:(x == ("__debug__":Str))=false:=by decide) (hcd:(x == ("__classdict__":Str))=false:=by decide)
  (hs:swapsWith value (some (.Subscript (.Name x px) k pos')) pos.line X.env=pure false:=by rfl)
  (hs1:swapsWithSole [.Subscript (.Name x px) k pos'] value pos.line X.env=pure false:=by rfl) (hs2:swappedStores [.Subscript (.Name x px) k pos'] value X.env=pure none:=by rfl)
  (hs3:(assignEach [.Subscript (.Name x px) k pos'] X.env).map (·.2)=[assign (.Subscript (.Name x px) k pos') X.env]:=by rfl)
  (hs4:∀v,assign (.Subscript (.Name x px) k pos') X.env v=(do
   let ov ←holding [v] (eval (.Name x px) X.env)
   let iv ←holding [v,ov] (eval k X.env)
   standAt pos'
   holding [v,ov,iv] (setItem ov iv v)
   release [v,ov,iv] []):=by intro _;rfl):
  JS X (.Assign [.Subscript (.Name x px) k pos'] value pos) (sN i gk gv):=⟨fun B=>PS.orelse fun D σ H ⟨S,F,o,R,hg,q⟩=>by
 obtain⟨⟨d,S1⟩,h1,hg⟩:=az hg
 dsimp only at hg
 split at hg
 ·rename_i u0 RJ
  obtain⟨⟨kd,S2⟩,h2,hg⟩:=az hg
  obtain⟨⟨nd,S3⟩,h3,hg⟩:=aG hg
  subst hg
  obtain⟨u,u',mo,mo',hS,MR,hio,hf,Oc,rfl⟩:=uT h3
  obtain⟨mo2,hw,hf2⟩:=aG hf
  cases hf2
  have hv0:∀F1 H1,Rel X.K B S1 σ F1 H1→∃v,σ[i]? =some (some v):=fun F1 H1 R1=>let⟨v,k1,_⟩:=R1.rep i u0 RJ;⟨v,k1⟩
  cases mo with
  | dct kvs=>
   obtain⟨kk,e1,hw⟩:=az hw
   obtain⟨hl,rfl⟩:=cX hw
   refine⟨_,ED hu (jD hN hv hd hcd) (hk.h B) (hval.h B) hs,S,F,d,S1,R,h1,fun v F1 H1 R1 st1 r1=>?_⟩
   obtain⟨v0,hv0⟩:=hv0 F1 H1 R1
   refine⟨v0,hv0,S1,F1,kd,S2,R1,h2,fun y F2 H2 R2 st2 r2=>?_⟩
   obtain⟨v',k1,k2⟩:=R2.rep i u hS
   rw[hv0] at k1
   cases k1
   obtain⟨a,o2,rfl,fa,eo,k3⟩:=k2.eO MR
   rw[hio] at eo
   cases eo
   obtain⟨ws,ha,pr⟩:=k3
   rw[nI r2 e1]
   refine⟨a,_,rfl,BC.k ha (by rw[eU pr];exact Nat.lt_of_lt_of_le hl (by decide)),?_⟩
   obtain⟨R3,st3⟩:=R2.write (ho:=.dK (putK ws kk v)) hS Oc hv0 ⟨_,bJ,w5 pr (r1.le st2.ext.le)⟩
   exact q σ F2 _ R3 fun b o z=>st2.ext.le b o (st1.ext.le b o z)
  | yJ kvs=>
   obtain⟨kk,e1,hw⟩:=az hw
   obtain⟨hl,rfl⟩:=cX hw
   refine⟨_,ED hu (jD hN hv hd hcd) (hk.h B) (hval.h B) hs,S,F,d,S1,R,h1,fun v F1 H1 R1 st1 r1=>?_⟩
   obtain⟨v0,hv0⟩:=hv0 F1 H1 R1
   refine⟨v0,hv0,S1,F1,kd,S2,R1,h2,fun y F2 H2 R2 st2 r2=>?_⟩
   obtain⟨v',k1,k2⟩:=R2.rep i u hS
   rw[hv0] at k1
   cases k1
   obtain⟨a,o2,rfl,fa,eo,k3⟩:=k2.eO MR
   rw[hio] at eo
   cases eo
   obtain⟨ws,ha,pr⟩:=k3
   obtain⟨b',rfl,hb'⟩:=uf R2.sub r2 e1
   refine⟨a,_,rfl,BC.t ha hb' (by rw[eU pr];exact Nat.lt_of_lt_of_le hl (by decide)),?_⟩
   obtain⟨R3,st3⟩:=R2.write (ho:=.dT (putK ws kk v)) hS Oc hv0 ⟨_,bJ,w5 pr (r1.le st2.ext.le)⟩
   exact q σ F2 _ R3 fun b o z=>st2.ext.le b o (st1.ext.le b o z)
  | lst ds=>
   unfold xg at hw
   dsimp only at hw
   split at hw
   ·rename_i ii
    obtain⟨j,e1,rfl⟩:=aG hw
    refine⟨_,HU (hval.h B) (Nr (jD hN hv hd hcd) (hk.h B) set_list hs4) hs1 hs2 hs3,S,F,d,S1,R,h1,fun v F1 H1 R1 st1 r1=>?_⟩
    obtain⟨v0,hv0⟩:=hv0 F1 H1 R1
    refine⟨v0,hv0,S1,F1,_,S2,R1,h2,fun y F2 H2 R2 st2 r2=>?_⟩
    obtain⟨v',k1,k2⟩:=R2.rep i u hS
    rw[hv0] at k1
    cases k1
    obtain⟨a,o2,rfl,fa,eo,k3⟩:=k2.eO MR
    rw[hio] at eo
    cases eo
    obtain⟨vs,ha,rs⟩:=k3
    rw[kK r2]
    refine⟨a,vs,_,j,rfl,rfl,ha,by rw[rs.length];exact e1,?_⟩
    obtain⟨R3,st3⟩:=R2.write (ho:=.lst (vs.set j v)) hS Oc hv0 ⟨_,bJ,rs.set (r1.le st2.ext.le) j⟩
    exact q σ F2 _ R3 fun b o z=>st2.ext.le b o (st1.ext.le b o z)
   ·cases hw
 ·cases hg⟩
theorem Rel.Xj {K:PySem.W.Frag}{B:Base}{S:SS}{σ:St}{F H:Hp}{a:Addr}{o o':HO}(R:Rel K B S σ F H) (hn:¬eO S σ a) (hf:F a=none) (hB:B.H a=none) (hh:H a=some o) (hz:∀ob u,o≠.kW ob u):Rel K B S σ F (upd H a o'):=by
 have PU:∀b ob w,H b=some (.kW ob w)→upd H a o' b=some (.kW ob w):=fun b ob w z=>by
  rw[bI (fun e=>by rw[e,hh] at z;cases z;exact hz _ _ rfl)];exact z
 refine⟨fun b u z=>?_,R.len,fun j w z=>?_,R.EM,R.own,R.bor,R.par,⟨R.ext.le,fun b u z n=>?_,R.ext.kX,fun b u z=>?_,fun b ob w z=>PU b ob w (R.ext.kW b ob w z)⟩⟩
 ·have hb:b≠a:=fun e=>by rw[e,hf] at z;cases z
  rw[bI hb];exact R.sub b u z
 ·obtain⟨v,h1,h2⟩:=R.rep j w z
  refine⟨v,h1,h2.le (fun _ _ z=>z) PU fun c hm hc=>?_⟩
  have hca:c≠a:=fun e=>hn ⟨j,w,z,hm,by rw[h1,hc,e]⟩
  obtain⟨c',_,e,f,_⟩:=h2.eO hm
  rw[hc] at e
  cases e
  exact⟨fun o z=>by rw[bI hca];exact z,f⟩
 ·rw[bI (fun e=>by rw[e,hB] at z;cases z)];exact R.ext.keep b u z n
 ·by_cases hb:b=a
  ·exact⟨o',by rw[hb,bJ]⟩
  ·rw[bI hb];exact R.ext.there b u z
noncomputable def qm:List (Str×GD)→SS→Option (List (Key×D)×SS)
 | [],S=>some ([],S)
 | (z,g) :: r,S=>(g S).bind fun p=>(qm r p.2).map fun q=>((.inr z,p.1) :: q.1,q.2)
noncomputable def fW (kvs more:List (Key×D)):List (Key×D):=more.foldl (fun acc kv=>putD acc kv.1 kv.2) kvs
theorem sP {F:Hp}:∀{more:List (Key×V)}{MV:List (Key×D)}{ws:List (Key×V)}{kvs:List (Key×D)},Paired (jk F) more MV→Paired (jk F) ws kvs→Paired (jk F) (lN ws more) (fW kvs MV)
 | _,_,_,_,.nil,h=>h
 | _,_,ws,kvs,@Paired.cons _ _ _ p q _ _ r rs,h=>by
  have e:=w5 (k:=q.1) h r.2
  show Paired (jk F) (lN (putK ws p.1 p.2) _) (fW (putD kvs q.1 q.2) _)
  rw[r.1]
  exact sP rs e
noncomputable def xh (yO:List (Str×GD)):GE:=fun S=>(qm yO S).map fun p=>(.m (.dct (fW [] p.1)),p.2)
structure Va (X:Cx) (pos:Pos) (keys:List (Option Expr)) (values:List Expr) (yO:List (Str×GD)):Prop where
 h:∀B,Q8 X pos keys values (yO.map fun p=>(tC (.str p.1),tD X.K B p.2))
theorem Ax:Va X pos [] [] []:=⟨fun B=>K6⟩
theorem d8 {z:Str}{j:Nat}{pk:Pos}{v:Expr}{ks:List (Option Expr)}{vs:List Expr}{yO:List (Str×GD)}(hv:JD X v g) (hr:Va X pos ks vs yO):Va X pos (some (.Constant (.str z) j pk) :: ks) (v :: vs) ((z,g) :: yO):=⟨fun B=>Ie HN (hv.h B) (hr.h B)⟩
theorem BX {B:Base}{σ:St}:∀{yO:List (Str×GD)}{S0 S:SS}{F0 H0 F H:Hp}{kvs:List (Key×D)}{S':SS}{Q:List (V×V)→Hp→Prop},Rel X.K B S σ F H→Step S0 S σ F0 H0 F H→qm yO S=some (kvs,S')→
  (∀(ws:List (Key×V)) (F' H':Hp),Rel X.K B S' σ F' H'→Step S0 S' σ F0 H0 F' H'→Paired (jk F') ws kvs→Q (ws.map fun kv=>(kV kv.1,kv.2)) H')→wO (yO.map fun p=>(tC (.str p.1),tD X.K B p.2)) σ H Q
 | [],S0,S,F0,H0,F,H,kvs,S',Q,R,st,h,q=>by cases h;exact q [] F H R st .nil
 | (z,g) :: r,S0,S,F0,H0,F,H,kvs,S',Q,R,st,h,q=>by
  obtain⟨⟨d,S1⟩,h1,h⟩:=az h
  obtain⟨⟨aeV,S2⟩,h2,h⟩:=aG h
  cases h
  show tC (.str z) σ H fun x H1=>tD X.K B g σ H1 fun y H2=>wO _ σ H2 fun ps H3=>Q ((x,y) :: ps) H3
  refine⟨S,F,d,S1,R,h1,fun v F1 H1 R1 st1 r1=>?_⟩
  refine BX (S0:=S1) (F0:=F1) (H0:=H1) R1 (Step.refl ..) h2 fun ws F2 H2 R2 st2 pr=>?_
  exact q ((.inr z,v) :: ws) F2 H2 R2 ((st.trans st1).trans st2) (.cons ⟨rfl,r1.le st2.ext.le⟩ pr)
theorem Ay {keys : List (Option Expr)} {values : List Expr} {yO : List (Str × GD)} (h : Va X pos keys values yO) (hall : keys.all (·.isSome) = true := by rfl) (hl : keys.length = values.length := by rfl) (h0 : keys ≠ [] := by decide) (WI : keys.length ≤ 15 := by decide) (hk : yO.length ≤ 15 := by decide) :
    JE X (.Dict keys values pos) (xh yO):=⟨fun B=>(K7 (h.h B) hall hl h0 WI).imp fun σ H Q ⟨S,F,u,S',R,hg,q⟩=>by
  obtain⟨⟨kvs,S1⟩,h1,hg⟩:=aG hg
  cases hg
  intro p hp
  have n:=iO.obj (F:=F) hp (.dK [])
  have hn:¬eO S σ p:=fun m=>by obtain⟨o,ho⟩:=R.has m;rw[hp] at ho;cases ho
  refine BX (S0:=S) (F0:=F) (H0:=upd H p (.dK [])) (R.new n (R.sub.same n.same)) (Step.refl ..) h1 fun ws F1 H1 R1 st1 pr=>?_
  have hp1:H1 p=some (.dK []):=st1.ext.keep p _ bJ hn
  have hf1:F1 p=none:=st1.ext.kX p _ bJ hn (R.sub.fresh hp)
  have hn1:¬eO S1 σ p:=fun m=>hn (st1.mu p m)
  have hB:B.H p=none:=none_of R.ext.there hp
  have len:ws.length≤15:=by
    rw[eU pr]
    have:∀{yO:List (Str×GD)}{S:SS}{kvs:List (Key×D)}{S':SS},qm yO S=some (kvs,S')→kvs.length=yO.length:=fun {yO}=>by
      induction yO with
      | nil=>intro S kvs S' h;cases h;rfl
      | cons p r ih=>
        intro S kvs S' h
        obtain⟨⟨d,T1⟩,k1,h⟩:=az (show(p.2 S).bind _=_ from h)
        obtain⟨⟨kv2,T2⟩,k2,h⟩:=aG h
        cases h
        show kv2.length+1=r.length+1
        rw[ih k2]
    rw[this h1]
    exact hk
  refine⟨hp1,ws,rfl,len,?_⟩
  have R2:=R1.Xj (o':=.dK (lN [] ws)) hn1 hf1 hB hp1 (fun _ _ z=>by cases z)
  refine q (.ref p) F1 _ R2 ⟨⟨st1.ext.le,fun b o z m=>?_,fun b o z m f=>?_,fun b o z=>?_,fun b ob w z=>?_⟩,st1.mu,st1.slots⟩ ⟨p,rfl,hp,hf1,⟨_,bJ,sP pr .nil⟩,hn1,hB⟩
  · have hb:b≠p:=cP z hp
    rw[bI hb]
    exact st1.ext.keep b o (by rw[bI hb];exact z) m
  · have hb:b≠p:=cP z hp
    exact st1.ext.kX b o (by rw[bI hb];exact z) m f
  · have hb:b≠p:=cP z hp
    rw[bI hb]
    exact st1.ext.there b o (by rw[bI hb];exact z)
  · have hb:b≠p:=cP z hp
    rw[bI hb]
    exact st1.ext.kW b ob w (by rw[bI hb];exact z)⟩
end
end L2
end
section
set_option Elab.async false
set_option linter.all false
set_option maxRecDepth 100000
namespace L2
open PySem PySem.Spec PyProof.Rows
noncomputable def nJ (g:Option GD) (S:SS):Option (Option Int×SS):=match g with
 | none=>some (none,S)
 | some g=>(g S).bind fun p=>match p.1 with
  | .int i=>some (some i,p.2)
  | _=>none
noncomputable def tPO (K:PySem.W.Frag) (B:Base) (g:Option GD):TO:=fun σ H Q=>∃S F o S',Rel K B S σ F H∧nJ g S=some (o,S')∧∀F' H',Rel K B S' σ F' H'→Step S S' σ F H F' H'→Q o H'
structure JO (X:Cx) (e:Option Expr) (g:Option GD):Prop where
 h:∀B,PO X e (tPO X.K B g)
theorem PO.imp {X:Cx}{e:Option Expr}{t t':TO}(h:PO X e t) (k:∀σ H Q,t' σ H Q→t σ H Q):PO X e t':=fun pins s σ H Q I q=>h pins s σ H Q I (k σ H Q q)
theorem iZ {X:Cx}:JO X none none:=⟨fun B=>La.imp fun σ H Q ⟨S,F,o,S',R,h,q⟩=>by cases h;exact q F H R (Step.refl ..)⟩
theorem i8 {X:Cx}{e:Expr}{g:GD}(h:JD X e g):JO X (some e) (some g):=⟨fun B=>(EG (h.h B)).imp fun σ H Q ⟨S,F,o,S',R,h,q⟩=>by
 obtain⟨⟨d,S1⟩,h1,h⟩:=az (show(g S).bind _=_ from h)
 cases d <;> try (cases h)
 exact⟨S,F,_,_,R,h1,fun v F1 H1 R1 st1 r1=>⟨_,kK r1,q F1 H1 R1 st1⟩⟩⟩
noncomputable def Lu (d:D) (lo hi:Option Int):Option U:=match d with
 | .tup ds=>some (.t (.tup (cutD ds lo hi)))
 | .lst ds=>some (.m (.lst (cutD ds lo hi)))
 | .str z=>if z.length≤100000 then some (.t (.str (Txt.slice z lo hi))) else none
 | _=>none
theorem bW.cut {F:Hp}{vs:List V}{ds:List D}(rs:bW F vs ds) (lo hi:Option Int):bW F (yG vs lo hi) (cutD ds lo hi):=by
 unfold yG cutD
 rw[rs.length]
 exact(rs.drop _).take _
noncomputable def Xk:V→Option Int→Option Int→Hp→VK→Prop:=fun x lo hi H Q=>∃F d u,Sub F H∧Rep F x d∧Lu d lo hi=some u∧∀v F' H',iO F H F' H'→Sub F' H'→Dn H F' H' v u→Q v H'
theorem Xl {X : Cx} : Lb X Xk := by
  intro pins s σ H x v vl vu lo hi sl Q I rx hs pl pu ⟨F,d,u,sb,r,hf,q⟩
  cases d with
  | tup ds =>
    cases hf
    have r0:=r
    obtain⟨a,xs,rfl,fa,ha,rs⟩:=sb.mJ r
    have hl:=rs.length
    by_cases hw:HT.iD xs.length 0 lo=0∧HT.iD xs.length xs.length hi=xs.length
    · cases rx
      obtain⟨its,rv,ht,hz⟩:=I.tuple (.inl ha)
      have hlen:its.toArray.size=xs.length:=by rw[List.size_toArray];exact rv.length.symm
      refine⟨"tuple",_,PyProof.Rows.slot_tuple_getitem.lookup,ht.typeIs,?_⟩
      refine HT.FO ht hs pl pu (by rw[hlen];exact hw) ⟨.ref a,H,I,rfl,q _ F H (iO.refl ..) sb ?_⟩
      have e:cutD ds lo hi=ds:=by
        unfold cutD
        rw[←hl,hw.1,hw.2,List.drop_zero,Nat.sub_zero,List.take_of_length_le (by rw[hl];exact Nat.le_refl _)]
      show Rep F _ (.tup (cutD ds lo hi))
      rw[e]
      exact r0
    · exact NS pins s σ H (.ref a) v vl vu lo hi sl Q I rx hs pl pu ⟨a,xs,rfl,.inl ha,hw,fun p hp=>q _ _ _ (iO.root sb hp _) (sb.wV hp) (.tup bJ ((rs.cut lo hi).le (kY (sb.fresh hp))))⟩
  | lst ds=>
    cases hf
    obtain⟨a,xs,rfl,fa,ha,rs⟩:=sb.jF r
    exact EJ pins s σ H (.ref a) v vl vu lo hi sl Q I rx hs pl pu ⟨a,xs,rfl,.inl ha,fun p hp=>q _ F _ (iO.obj hp _) (sb.same (iO.obj (F:=F) hp _).same) ⟨p,rfl,hp,sb.fresh hp,_,bJ,rs.cut lo hi⟩⟩
  | str z=>
    obtain⟨hl,rfl⟩:=cX hf
    cases r
    exact N2 pins s σ H _ v vl vu lo hi sl Q I rx hs pl pu ⟨z,rfl,lF hl,fun _=>q _ F H (iO.refl ..) sb (.str _)⟩
  | cW=>cases hf
  | bl b=>cases hf
  | int b=>cases hf
noncomputable def yF (g:GD) (lo hi:Option GD):GE:=fun S=>(g S).bind fun p=>(nJ lo p.2).bind fun l=>(nJ hi l.2).bind fun h=>(Lu p.1 l.1 h.1).map fun u=>(u,h.2)
section
variable {X:Cx}{a b c e:Expr}{lo hi:Option Expr}{pos p p2 px:Pos}{x y:Str}{g ga:GD}{gA:GA}{gl gh:Option GD}
theorem g8 (he:JD X e g) (hl:JO X lo gl) (hh:JO X hi gh):JE X (.Subscript e (.Slice lo hi none p2) pos) (yF g gl gh):=⟨fun B=>(BF Xl (he.h B) (hl.h B) (hh.h B)).imp fun σ H Q ⟨S,F,u,S',R,hg,q⟩=>by
 obtain⟨⟨d,S1⟩,h1,hg⟩:=az hg
 obtain⟨⟨l,S2⟩,h2,hg⟩:=az hg
 obtain⟨⟨h,S3⟩,h3,hg⟩:=az hg
 obtain⟨u',h4,hg⟩:=aG hg
 cases hg
 exact⟨S,F,d,S1,R,h1,fun v F1 H1 R1 st1 r1=>⟨S1,F1,l,S2,R1,h2,fun F2 H2 R2 st2=>⟨S2,F2,h,_,R2,h3,fun F3 H3 R3 st3=>⟨F3,d,_,R3.sub,r1.le (fun b o z=>st3.ext.le b o (st2.ext.le b o z)),h4,fun v F4 H4 n s4 r4=>q v F4 H4 (R3.new n s4) (((st1.trans st2).trans st3).trans n.step) (r4.FP R3 ((st1.trans st2).trans st3))⟩⟩⟩⟩⟩
noncomputable def yP (ns:List Int) (lo hi:Option Int):List Int:=(ns.drop (HT.iD ns.length 0 lo)).take (HT.iD ns.length ns.length hi - HT.iD ns.length 0 lo)
noncomputable def Lv (i:Nat) (lo hi:Option GD):GE:=fun S=>match S[i]? with
 | some (some (.s ns))=>(nJ lo S).bind fun l=>(nJ hi l.2).map fun h=>(.m (.lst ((yP ns l.1 h.1).map D.int)),h.2)
 | _=>none
theorem zH {F:Hp}:∀ns:List Int,bW F (ns.map V.int) (ns.map D.int)
 | []=>.nil
 | n :: ns=>.cons (.int n) (zH ns)
theorem Ga (ns:List Int) (lo hi:Option Int):yG (ns.map V.int) lo hi=(yP ns lo hi).map V.int:=by
 unfold yG yP
 rw[List.length_map,List.map_take,List.map_drop]
theorem Gb {i:Nat}(hl:JO X lo gl) (hh:JO X hi gh) (hN:X.N[i]? =some x:=by rfl) (hv:HC X.env.scope x:=by first | exact Or.inl rfl | exact Or.inr (Or.inl rfl) | exact Or.inr (Or.inr rfl))
  (hd:(x == ("__debug__":Str))=false:=by decide) (hcd:(x == ("__classdict__":Str))=false:=by decide):JE X (.Subscript (.Name x px) (.Slice lo hi none p2) pos) (Lv i gl gh):=⟨fun B=>(BF EJ (jD hN hv hd hcd) (hl.h B) (hh.h B)).imp fun σ H Q ⟨S,F,u,S',R,hg,q⟩=>by
 unfold Lv at hg
 split at hg
 ·rename_i ns hS
  obtain⟨⟨l,S1⟩,h1,hg⟩:=az hg
  obtain⟨⟨h,S2⟩,h2,hg⟩:=aG hg
  cases hg
  obtain⟨v0,hv0,a,rfl,sc⟩:=R.rep i _ hS
  refine⟨_,hv0,S,F,l,S1,R,h1,fun F1 H1 R1 st1=>⟨S1,F1,h,_,R1,h2,fun F2 H2 R2 st2=>?_⟩⟩
  have sc2:=(sc.le st1.ext.kW).le st2.ext.kW
  refine⟨a,_,rfl,sc2.sq,fun p hp=>?_⟩
  rw[Ga]
  have n:=iO.obj (F:=F2) hp (.lst ((yP ns l h).map V.int))
  have st:=st1.trans st2
  exact q _ F2 _ (R2.new n (R2.sub.same n.same)) (st.trans n.step) (Dn.FP (u:=.m (.lst ((yP ns l h).map D.int))) R2 st ⟨p,rfl,hp,R2.sub.fresh hp,_,bJ,zH _⟩)
 ·cases hg⟩
noncomputable def EX (d:D):Prop:=(toPy d).showable=true∧(toPy d).depth≤20∧(toPy d).shown.length≤sizeLine
noncomputable instance (d:D):Decidable (EX d):=by unfold EX;infer_instance
noncomputable def BY:List D→Option U
 | [d]=>if EX d then some (.t (.str (toPy d).shown)) else none
 | _=>none
mutual
theorem Rep.uV {pins:List (Addr×Obj)}{σ:St}{F H:Hp}{s:Shared}(I:Inv X pins σ H s) (sb:Sub F H):∀{v:V}{d:D}{u:Value},Rep F v d→RelV v u→∃as,Reads s.heap u (toPy d) as
 | _,_,_,.cW,r=>by cases r;exact⟨[],.none⟩
 | _,_,_,.bl b,r=>by cases r;exact⟨[],.bool b⟩
 | _,_,_,.int i,r=>by obtain⟨t,rfl⟩:=r;exact⟨[],.int i t⟩
 | _,_,_,.str z,r=>by obtain⟨t,rfl⟩:=r;exact⟨[],.str z t⟩
 | _,_,_,.tup e rs,r=>by
  cases r
  obtain⟨its,rv,p⟩:=sb.isTup I e
  obtain⟨as,h⟩:=bW.uV I sb rs rv
  obtain⟨o,ho,hc,n,hd⟩:=p
  exact⟨as,.tuple ho hc hd (by simpa using h)⟩
 | _,_,_,.lst e rs,r=>by
  cases r
  obtain⟨its,rv,p⟩:=sb.fy I e
  obtain⟨as,h⟩:=bW.uV I sb rs rv
  obtain⟨o,ho,hc,n,hd⟩:=p
  exact⟨_ :: as,.list ho hc hd (by simpa using h)⟩
theorem bW.uV {pins:List (Addr×Obj)}{σ:St}{F H:Hp}{s:Shared}(I:Inv X pins σ H s) (sb:Sub F H):∀{vs:List V}{ds:List D}{us:List Value},bW F vs ds→Vals vs us→∃as,ReadsAll s.heap us (iS ds) as
 | _,_,_,.nil,r=>by cases r;exact⟨[],.nil⟩
 | _,_,_,.cons q qs,r=>by
  cases r with
  | cons r rs=>
   obtain⟨as,h⟩:=Rep.uV I sb q r
   obtain⟨bs,k⟩:=bW.uV I sb qs rs
   exact⟨as++bs,.cons h k⟩
end
theorem xj (hg:X.A.guards=some []) (hu:X.A.units+64 < cLine):gY X (.builtin "repr") (rP BY):=by
 intro pins s σ H xs us Q I r ⟨F,ds,w,sb,rs,hw,q⟩
 obtain⟨x,d,rfl,rfl,r1⟩:=rD (P:=fun _=>True) rs hw rfl (fun d _ _=>rfl)
 obtain⟨hok,rfl⟩:=cX (show(if EX d then some (U.t (.str (toPy d).shown)) else none)=some w from hw)
 have fin:=q (.str (toPy d).shown) F H (iO.refl ..) sb (.str _)
 obtain⟨u,rfl,ru⟩:=vals1 r
 obtain⟨h1,h2,h3⟩:=hok
 have seq:∀a,x= .ref a→wpAny (model X.prog X.w) X.A (call (.builtin "repr") [u]) (EP X pins σ Q) X.xe s:=fun a e1=>by
  subst e1
  cases ru
  obtain⟨as,hr⟩:=Rep.uV I sb r1 (u:=.ref a) rfl
  exact repr_of_reads' hr h1 (fun z=>by rw[vK] at z;cases z) hg (by omega) (fun _ _ e=>e) (fun h' u tk hk=>⟨.str _,H,I.kept (t':=tk) hk,⟨u,rfl⟩,fin⟩) h3
 cases r1 with
 | cW=>cases ru;exact PySem.P.repr_of_none ⟨.str _,H,I.tok _,⟨_,rfl⟩,fin⟩
 | bl b=>cases ru;exact PySem.P.repr_of_bool ⟨.str _,H,I.tok _,⟨_,rfl⟩,fin⟩
 | int i=>obtain⟨t,rfl⟩:=ru;exact PySem.P.repr_of_int (by simpa[toPy,PyData.showable] using h1) ⟨.str _,H,I.tok _,⟨_,rfl⟩,fin⟩
 | str z=>obtain⟨t,rfl⟩:=ru;exact PySem.P.repr_of_str ⟨.str _,H,I.tok _,⟨_,rfl⟩,fin⟩ h3
 | tup e rs=>exact seq _ rfl
 | lst e rs=>exact seq _ rfl
theorem Lw {z:Str}{t:Tok}(hg:Gl X x) (hm:X.mg x=some (.str z t)) (hd:(x == ("__debug__":Str))=false:=by decide):JD X (.Name x pos) (eC (.str z)):=FQ rfl (tN (v:=.str z) hg hm ⟨t,rfl⟩ hd)
theorem rG {i:Int}{t:Tok}(hg:Gl X x) (hm:X.mg x=some (.int i t)) (hd:(x == ("__debug__":Str))=false:=by decide):JD X (.Name x pos) (eC (.int i)):=FQ rfl (tN (v:=.int i) hg hm ⟨t,rfl⟩ hd)
end
end L2
end
section
set_option Elab.async false
set_option linter.all false
set_option maxRecDepth 100000
namespace L2
open PySem PySem.Spec PyProof.Rows
theorem BZ {X : Cx} {x y : Str} {scope : Scope} {c : Addr} {i : Nat} (clos : closureFor scope X.env = pure [(y, c)]) (sI : ∀ z ∈ scope.names, z.2 ≠ .cell) (kind : scope.kind = .function) (names : ∀ z ∈ scope.names, z.2 = .local → scope.names.lookup z.1 = some .local)
    (loc:scope.names.lookup x=some .local) (hc:X.env.cells.lookup y=some c) (only:∀z∈scope.names,z.2= .free→z.1=y) (ne:x≠y) (hN:X.N[i]? =some y) (vis:X.env.scope.names.lookup y=some .cell) (rel:(relabel scope X.env).names.lookup y=some .cell):
    lE X x [y] [i] scope [(y,c)]:=by
  have look:∀n c',([(y,c)]:List (Str×Addr)).lookup n=some c'→n=y∧c'=c:=fun n c' h=>by
    rw[List.lookup_cons] at h
    cases e:n == y with
    | true=>rw[e] at h;cases h;exact⟨eq_of_beq e,rfl⟩
    | false=>rw[e] at h;cases h
  have self:([(y,c)]:List (Str×Addr)).lookup y=some c:=by rw[List.lookup_cons,beq_self_eq_true]
  refine⟨clos,sI,kind,names,loc,fun n c' h=>?_,fun n h=>?_,?_,rfl,fun j n h=>?_,fun n h=>?_⟩
  · obtain⟨rfl,rfl⟩:=look n c' h
    exact hc
  · have key:n=y:=by
      have go:∀k,(k=NameKind.cell∨k=NameKind.free)→(relabel scope X.env).names.lookup n=some k→n=y:=fun k hk e=>by
        have m:=PySem.mem_of_lookup e
        unfold relabel at m
        obtain⟨⟨n',k'⟩,hm,q⟩:=List.mem_map.mp m
        by_cases hf:k'= .free
        · have h0:n'=y:=only _ hm hf
          have e1:n'=n:=by
            have h1:=congrArg Prod.fst q
            dsimp only at h1
            split at h1 <;> exact h1
          exact e1.symm.trans h0
        · have z:(k' == NameKind.free)=false:=by simpa using hf
          simp only[z,Bool.false_and] at q
          have q2:k'=k:=by
            have:=congrArg Prod.snd q
            simpa using this
          rcases hk with rfl | rfl
          · exact absurd q2 (sI _ hm)
          · exact absurd q2 hf
      rcases h with h | h
      · exact go _ (.inl rfl) h
      · exact go _ (.inr rfl) h
    subst key
    exact⟨c,self⟩
  · simp[ne]
  · cases j with
    | zero=>cases h;exact⟨i,rfl,hN,.inr (.inl vis)⟩
    | succ j=>simp at h
  · have e:n=y:=by simpa using h
    subst e
    exact⟨.inl rel,⟨c,self⟩,by rw[vis];decide⟩
end L2
end
section
set_option Elab.async false
set_option linter.all false
set_option maxRecDepth 100000
namespace L2
open PySem PySem.Spec PyProof.Rows
section
variable {X:Cx}{a b c e:Expr}{es:List Expr}{pos p p2 px:Pos}{x y:Str}{f:FM}{fa:Addr}{fd:FuncData}{ps:List Str}{k n:Nat}
theorem rH (a:List D) (o:MO) (h:fy o=false):hAppend a o=none:=by
 cases o with
 | lst ds=>cases h
 | dct k=>unfold hAppend;split <;> first | rfl | (rename_i e;cases e)
 | yJ k=>unfold hAppend;split <;> first | rfl | (rename_i e;cases e)
theorem I0 (a:List D) (o:MO) (h:fy o=false):oK a o=none:=by
 cases o with
 | lst ds=>cases h
 | dct k=>unfold oK;split <;> first | rfl | (rename_i e;cases e)
 | yJ k=>unfold oK;split <;> first | rfl | (rename_i e;cases e)
noncomputable def aeZ:List D→Option U
 | [.bl a,.bl b]=>some (.t (.bl (a == b)))
 | _=>none
noncomputable def uh:List D→Option U
 | [.bl a,.bl b]=>some (.t (.bl (a != b)))
 | _=>none
theorem Gd:wW X (compareOp .IsNot) uh:=by
 intro pins s σ H x y v u Q I rx ry ⟨F,ds,w,sb,rs,hw,q⟩
 obtain⟨d,e,rfl,r1,r2⟩:=tY rs
 cases d <;> cases e <;> try (simp[uh] at hw;done)
 cases hw
 rw[jG r1] at rx
 rw[jG r2] at ry
 cases rx
 cases ry
 exact isnot_bool ⟨.bl _,H,I,rfl,q _ F H (iO.refl ..) sb (.bl _)⟩
end
end L2
end
section
set_option Elab.async false
set_option linter.all false
set_option maxRecDepth 100000
namespace L2
open PySem PySem.Spec PyProof.Rows
noncomputable def nK:List D→Option (List Int)
 | []=>some []
 | .int b :: ds=>(nK ds).map fun bs=>b :: bs
 | _=>none
theorem sQ {F:Hp}:∀{vs:List V}{ds:List D}{bs:List Int},bW F vs ds→nK ds=some bs→vs=bs.map V.int
 | _,_,_,.nil,h=>by cases h;rfl
 | _,_,_,@bW.cons _ v d vs ds r rs,h=>by
  cases d <;> try (simp[nK] at h;done)
  obtain⟨bs,h1,h2⟩:=aG (show(nK ds).map _=_ from h)
  subst h2
  rw[kK r,sQ rs h1]
  rfl
noncomputable def v8:List D→Option U
 | [.lst ds]=>(nK ds).map fun bs=>.t (.int (preSum (fun i=>bs.getD i 0) bs.length))
 | _=>none
theorem Lx {bs:List Int}{its:List Value}(r:Vals (bs.map V.int) its){i:Nat}{v:Value}(h:its[i]? =some v):∃t,v= .int (bs.getD i 0) t:=by
 induction bs generalizing its i with
 | nil=>cases r;cases h
 | cons b bs ih=>
  cases r with
  | cons r rs=>
   obtain⟨t,rfl⟩:=r
   cases i with
   | zero=>cases h;exact⟨t,rfl⟩
   | succ i=>exact ih rs h
section
variable {X:Cx}
theorem zI (hc:X.calm=true):gY X (.builtin "sum") (rP v8):=by
 intro pins s σ H xs us Q I r ⟨F,ds,w,sb,rs,hw,q⟩
 obtain⟨x,d,rfl,rfl,r1⟩:=rD (P:=fun _=>True) rs hw rfl (fun d _ _=>by cases d <;> rfl)
 cases d <;> try (simp[v8] at hw;done)
 rename_i ds
 obtain⟨bs,h1,rfl⟩:=aG (show(nK ds).map _=some w from hw)
 obtain⟨a,vs,rfl,fa,ha,uR⟩:=sb.jF r1
 obtain rfl:=sQ uR h1
 obtain⟨u,rfl,ru⟩:=vals1 r
 cases ru
 obtain⟨its,rv,pl,hz⟩:=I.list (.inl ha)
 have hlt:a < s.heap.objs.size:=by obtain⟨_,e,_⟩:=pl.isList;exact Heap.lt_size e
 have hlen:its.length=bs.length:=by have:=rv.length;simpa using this.symm
 refine call_sum_walkAnyS (wpAny_pyIter_list pl.isList ?_)
 refine⟨s.heap.objs.size,[s.heap.objs.size,a],[s.heap.objs.size],_,_,_,_,fun i=>bs.getD i 0,rfl,(Walks.list (A:=X.A.in1) (I.ok.hd hc) _ a (Nat.ne_of_lt hlt) _).toS,
  ⟨⟨_,Heap.get?_push_size _ rfl,rfl,rfl⟩,pl.isList.push _⟩,fun b hb=>?_,fun i v hP=>?_,fun s' t' hm=>?_⟩
 ·rw[Heap.size_push]
  rcases List.mem_cons.mp hb with rfl | hb
  ·exact Nat.lt_succ_self _
  ·rw[List.mem_singleton.mp hb];exact Nat.lt_succ_of_lt hlt
 ·exact Lx rv (by simpa using hP)
 ·obtain⟨h',g',d',tk',os'⟩:=s'
  have eg:g'=s.gens:=hm.gens
  have ed:d'=s.drawn:=hm.drawn
  have eo:os'=s.os:=hm.os
  subst eg;subst ed;subst eo
  rw[List.size_toArray,hlen]
  exact⟨.int _,H,I.kept (t':=tk') fun b o e=>hm.heap b o (fun hm=>by rw[List.mem_singleton.mp hm] at e;exact Nat.lt_irrefl _ (Heap.lt_size e)) (Heap.get?_push_of_some _ e),⟨t',rfl⟩,q _ F H (iO.refl ..) sb (.int _)⟩
end
end L2
end
section
set_option Elab.async false
set_option linter.all false
set_option maxRecDepth 100000
namespace L2
open PySem PySem.Spec PyProof.Rows
section
variable {prog:Program}{w:World}{A:Around}{R:Result→Shared→Prop}{I:Addr}{fp wr:List Addr}{G:Array GenState→Array GenState→Prop}{n:Nat}{P:Nat→Value→Prop}{St:Nat→Shared→Prop}
end
section
variable {prog:Program}{w:World}{A:Around}{E:Value→Shared→Prop}{s:Shared}
end
end L2
end
section
set_option Elab.async false
set_option linter.all false
set_option maxRecDepth 100000
namespace L2
open PySem PySem.Spec PyProof.Rows
section
variable {X:Cx}{a:Expr}{pos p p1 p2:Pos}{ga:GD}
end
end L2
end
section
set_option Elab.async false
set_option linter.all false
set_option maxRecDepth 100000
namespace L2
open PySem PySem.Spec PyProof.Rows
noncomputable def B0:U→Option (List D)
 | .t (.lst ds)=>some ds
 | .m (.lst ds)=>some ds
 | .b (.lst ds)=>some ds
 | _=>none
noncomputable def Xm (n:Bool) (i:Nat) (g:GD):GD:=fun S=>(g S).bind fun p=>match p.2[i]? with
 | some (some u)=>(B0 u).bind fun ds=>if bM ds≤40 then some (.bl (n != inD p.1 ds),p.2) else none
 | _=>none
section
variable {X:Cx}{a:Expr}{x:Str}{px pos:Pos}{ga:GD}
end
end L2
end
section
set_option Elab.async false
set_option linter.all false
set_option maxRecDepth 100000
namespace L2
open PySem PySem.Spec PyProof.Rows
noncomputable def look:U→Option D
 | .t d=>some d
 | .m (.lst ds)=>some (.lst ds)
 | .b (.lst ds)=>some (.lst ds)
 | _=>none
noncomputable def RK (f:List D→Option U) (i:Nat):GD:=fun S=>match S[i]? with
 | some (some u)=>(look u).bind fun d=>match f [d] with
  | some (.t e)=>if su e=true then some (e,S) else none
  | _=>none
 | _=>none
noncomputable def Xn (Ts:List String) (i:Nat):GD:=fun S=>match S[i]? with
 | some (some u)=>(look u).bind fun d=>(bV Ts d).map fun b=>(.bl b,S)
 | _=>none
theorem Ja {F F':Hp}{v:V}{e:D}(h:su e=true) (r:Rep F v e):Rep F' v e:=by
 cases r with
 | cW=>exact .cW
 | bl b=>exact .bl b
 | int b=>exact .int b
 | str b=>exact .str b
 | tup _ _=>cases h
 | lst _ _=>cases h
section
variable {X:Cx}{x y:Str}{p px py pos:Pos}{f:List D→Option U}
end
section
variable (S:SS) (i:Nat) (g:GD)
@[simp] theorem Vb (f:List D→Option U):RK f i S=match S[i]? with
 | some (some u)=>(look u).bind fun d=>match f [d] with
  | some (.t e)=>if su e=true then some (e,S) else none
  | _=>none
 | _=>none:=rfl
@[simp] theorem Xo (Ts:List String):Xn Ts i S=match S[i]? with | some (some u)=>(look u).bind fun d=>(bV Ts d).map fun b=>(.bl b,S) | _=>none:=rfl
@[simp] theorem Xp (n:Bool):Xm n i g S=(g S).bind fun p=>match p.2[i]? with | some (some u)=>(B0 u).bind fun ds=>if bM ds≤40 then some (.bl (n != inD p.1 ds),p.2) else none | _=>none:=rfl
@[simp] theorem RL (d:D):look (.t d)=some d:=rfl
@[simp] theorem RM (ds:List D):look (.m (.lst ds))=some (.lst ds):=rfl
@[simp] theorem RN (ds:List D):look (.b (.lst ds))=some (.lst ds):=rfl
@[simp] theorem PV (ds:List D):B0 (.t (.lst ds))=some ds:=rfl
@[simp] theorem PX (ds:List D):B0 (.m (.lst ds))=some ds:=rfl
@[simp] theorem PY (ds:List D):B0 (.b (.lst ds))=some ds:=rfl
@[simp] theorem PZ (ds:List D):BO [] (.lst ds)=some (.cW,.lst ds.reverse):=rfl
end
end L2
end
section
set_option Elab.async false
set_option linter.all false
set_option maxRecDepth 100000
namespace L2
open PySem PySem.Spec PyProof.Rows
section
variable {X:Cx}{a b c e:Expr}{es:List Expr}{pos p p2 px:Pos}{x y:Str}
theorem bW.rep {F:Hp}{vs:List V}{ds:List D}(r:bW F vs ds):∀k:Nat,bW F (List.replicate k vs).flatten (List.replicate k ds).flatten
 | 0=>.nil
 | k+1=>by rw[List.replicate_succ,List.replicate_succ,List.flatten_cons,List.flatten_cons];exact r.append (bW.rep r k)
noncomputable def Xq:List D→Option U
 | [.lst ds,.int k]=>if 0≤k∧k.toNat≤100000∧ds.length * k.toNat≤100000 then some (.m (.lst (List.replicate k.toNat ds).flatten)) else none
 | _=>none
noncomputable def RO:List D→Option U
 | [.int i]=>some (.t (.int i))
 | [.bl k]=>some (.t (.int (if k then 1 else 0)))
 | _=>none
noncomputable def B3:V→List V→Hp→VK→Prop:=fun x vs H Q=>∃l b xs zs,x= .ref l∧vs=[.ref b]∧H l=some (.lst xs)∧Rd H b (.lst zs)∧xs.length+zs.length≤sizeLine∧Q .cW (upd H l (.lst (xs++zs)))
theorem Dy:NT X "list.extend" B3:=by
 intro pins s σ H x vs v us Q I rx rv h
 obtain⟨l,b,xs,zs,rfl,rfl,hH,hB,hz,q⟩:=h
 cases rx
 obtain⟨u,rfl,ru⟩:=rv.one
 cases ru
 obtain⟨z,its,n,r,hl,e⟩:=I.Dk hH
 obtain⟨z2,its2,n2,r2,hl2,e2⟩:=hB.Dk I
 have hsz:its.toArray.size+its2.toArray.size≤sizeLine:=by rw[List.size_toArray,List.size_toArray];omega
 have RP:¬(!its.toArray.isEmpty && Builtin.List.listTooLong (its.toArray.size+its2.toArray.size))=true:=by
  rw[Ip hsz,Bool.and_false]
  exact Bool.false_ne_true
 refine call_meets F.slot_list_extend ⟨_,e,rfl⟩ F.entry_list_extend (F.args_list_extend_2 _ _)
  (AutoSeq1.list_extend_list_list_0 l its.toArray n b its2.toArray n2 RP (by rw[List.size_toArray];omega) (by omega)) ⟨e,e2,?_⟩
 refine⟨.cW,_,I.NW (its':=its++its2) hH e (by simp) (r.append r2) ?_,rfl,q⟩
 rw[List.length_append]
 omega
noncomputable def oN:List D→MO→Option (D×MO)
 | [.lst es],.lst ds=>if ds.length+es.length≤100000 then some (.cW,.lst (ds++es)) else none
 | _,_=>none
theorem Ge:U7 B3 oN:=by
 intro F H a vs xs ds args res o' sb hH fa rs rx hw Q q
 unfold oN at hw
 split at hw
 ·rename_i es ds' e2
  cases e2
  obtain⟨hl,hw⟩:=cX hw
  cases hw
  cases rx with
  | cons r rr=>
   cases rr
   obtain⟨b,zs,rfl,fb,hb,Lm⟩:=sb.jF r
   exact⟨a,b,vs,zs,rfl,rfl,hH,hb,by rw[rs.length,Lm.length];exact Nat.le_trans hl (by decide),q .cW _ .cW ⟨_,bJ,rs.append Lm⟩⟩
 ·cases hw
theorem Gf (a:List D) (o:MO) (h:fy o=false):oN a o=none:=by
 cases o with
 | lst ds=>cases h
 | dct k=>unfold oN;split <;> first | rfl | (rename_i e;cases e)
 | yJ k=>unfold oN;split <;> first | rfl | (rename_i e;cases e)
noncomputable def MW:D→Bool
 | .cW=>true
 | _=>false
noncomputable def Xr:List D→Option U
 | [d,.cW]=>some (.t (.bl (MW d)))
 | _=>none
noncomputable def Xs (f:Int→Int→Int) (i:Nat) (g:GD):GS:=fun S=>match S[i]? with
 | some (some (.t (.int n)))=>(g S).bind fun p=>match p.1 with
  | .int m=>(rW i (.t (.int (f n m))) p.2).map .nx
  | _=>none
 | _=>none
theorem Dz {x : Str} {eY : List Str} {cap : List Nat} {scope : Scope} {cl : List (Str × Addr)} (clos : closureFor scope X.env = pure cl) (sI : ∀ z ∈ scope.names, z.2 ≠ .cell) (kind : scope.kind = .function) (names : ∀ z ∈ scope.names, z.2 = .local → scope.names.lookup z.1 = some .local)
    (loc:scope.names.lookup x=some .local) (hc:cl.map (fun p=>X.env.cells.lookup p.1)=cl.map (fun p=>some p.2)) (only:∀z∈scope.names,z.2= .free→z.1∈eY) (hcl:cl.map (·.1)=eY.reverse∨cl.map (·.1)=eY) (nd:(x :: eY).Nodup)
    (slot:cap.map (fun i=>X.N[i]?)=eY.map some) (vis:eY.map (fun n=>X.env.scope.names.lookup n)=eY.map fun _=>some .cell) (rel:eY.map (fun n=>(relabel scope X.env).names.lookup n)=eY.map fun _=>some .cell):
    lE X x eY cap scope cl:=by
  have all:∀{α β:Type}{f g:α→β}{l:List α},l.map f=l.map g→∀a∈l,f a=g a:=fun {α β f g l} h=>by
    induction l with
    | nil=>intro a m;cases m
    | cons b r ih=>
      intro a m
      rw[List.map_cons,List.map_cons] at h
      injection h with h1 h2
      rcases List.mem_cons.mp m with z | z
      · rw[z];exact h1
      · exact ih h2 a z
  have RQ:∀n,n∈eY→∃c,cl.lookup n=some c:=fun n hn=>lookup_some (hcl.elim (fun z=>by rw[z];exact List.mem_reverse.mpr hn) fun z=>by rw[z];exact hn)
  have len:cap.length=eY.length:=by have:=congrArg List.length slot;simpa using this
  refine⟨clos,sI,kind,names,loc,fun n c h=>all hc (n,c) (PySem.mem_of_lookup h),fun n h=>?_,nd,len,fun j n h=>?_,fun n h=>⟨.inl (all rel n h),RQ n h,by rw[all vis n h];decide⟩⟩
  · refine RQ n ?_
    have go:∀k,(k=NameKind.cell∨k=NameKind.free)→(relabel scope X.env).names.lookup n=some k→n∈eY:=fun k hk e=>by
      have m:=PySem.mem_of_lookup e
      unfold relabel at m
      obtain⟨⟨n',k'⟩,hm,q⟩:=List.mem_map.mp m
      by_cases hf:k'= .free
      · have h0:n'∈eY:=only _ hm hf
        have e1:n'=n:=by
          have h1:=congrArg Prod.fst q
          dsimp only at h1
          split at h1 <;> exact h1
        rw[←e1]
        exact h0
      · have z:(k' == NameKind.free)=false:=by simpa using hf
        simp only[z,Bool.false_and] at q
        have q2:k'=k:=by
          have:=congrArg Prod.snd q
          simpa using this
        rcases hk with rfl | rfl
        · exact absurd q2 (sI _ hm)
        · exact absurd q2 hf
    rcases h with h | h
    · exact go _ (.inl rfl) h
    · exact go _ (.inr rfl) h
  · have e:=congrArg (fun l=>l[j]?) slot
    simp only[List.getElem?_map,h,Option.map_some] at e
    cases q:cap[j]? with
    | none=>rw[q] at e;cases e
    | some i=>
      rw[q] at e
      exact⟨i,rfl,Option.some.inj e,.inr (.inl (all vis n (List.mem_of_getElem? h)))⟩
end
end L2
end
section
set_option Elab.async false
set_option linter.all false
set_option maxRecDepth 100000
namespace L2
open PySem PySem.Spec PyProof.Rows
open AutoSeq1 (wpAny_loadPart')
noncomputable def RS (k:Bool) (h:Heap) (a:Addr) (its:Array Value):Prop:=match k with
 | true=>h.IsList a its
 | false=>h.IsTuple a its
noncomputable def Oe (k:Bool) (h:Heap) (it a:Addr) (i:Nat):Prop:=match k with
 | true=>h.IsListIter it a i
 | false=>h.IsTupleIter it a i
noncomputable def itN:Bool→String
 | true=>"list_iterator"
 | false=>"tuple_iterator"
noncomputable def itO (k:Bool) (a:Addr):Obj:={cls:=.type (itN k),data:=.fields #[.ref a,.int 0 0]}
theorem RS.at {k:Bool}{h h':Heap}{a:Addr}{its:Array Value}(x:RS k h a its) (g:∀o,h.get? a=some o→h'.get? a=some o):RS k h' a its:=by
 cases k <;> exact let⟨o,ho,r⟩:=x;⟨o,g o ho,r⟩
theorem Oe.at {k:Bool}{h h':Heap}{it a:Addr}{i:Nat}(x:Oe k h it a i) (g:∀o,h.get? it=some o→h'.get? it=some o):Oe k h' it a i:=by
 cases k <;> exact let⟨o,ho,r⟩:=x;⟨o,g o ho,r⟩
theorem Oe.obj {k:Bool}{h:Heap}{it a:Addr}{i:Nat}(x:Oe k h it a i):∃o,h.get? it=some o∧∀v,o.data≠.cell v:=by
 cases k <;> exact let⟨o,ho,_,r⟩:=x;⟨o,ho,fun v z=>by rw[r] at z;cases z⟩
theorem Oe.new (k:Bool) (h:Heap) (a:Addr):Oe k (h.push (itO k a)) h.objs.size a 0:=by
 cases k <;> exact⟨_,Heap.get?_push_size _ rfl,rfl,rfl⟩
section
variable {prog:Program}{w:World}{A:Around}{E:Value→Shared→Prop}{s:Shared}
end
end L2
end
section
set_option Elab.async false
set_option linter.all false
set_option maxRecDepth 100000
namespace L2
open PySem PySem.Spec PyProof.Rows
section
variable {prog:Program}{w:World}{A:Around}{E:Value→Shared→Prop}{s:Shared}
end
section
variable {X:Cx}{pins:List (Addr×Obj)}{σ:St}{H:Hp}{s:Shared}
end
end L2
end
section
set_option Elab.async false
set_option linter.all false
set_option maxRecDepth 100000
namespace L2
open PySem PySem.Spec PyProof.Rows
section
variable {prog:Program}{w:World}{A:Around}{E:Value→Shared→Prop}{s:Shared}
end
end L2
end
section
set_option Elab.async false
set_option linter.all false
set_option maxRecDepth 100000
namespace L2
open PySem PySem.Spec PyProof.Rows
section
variable {X:Cx}{a b c e:Expr}{body elts:List Expr}{pos p tpos:Pos}{jt:Nat}
theorem RS.lt {k:Bool}{h:Heap}{a:Addr}{its:Array Value}(x:RS k h a its):a < h.objs.size:=by
 cases k <;> exact let⟨o,ho,_⟩:=x;Heap.lt_size ho
noncomputable def B4:D→Option (Bool×List D)
 | .lst ds=>some (true,ds)
 | .tup ds=>some (false,ds)
 | _=>none
noncomputable def MX (ds:List D):List D:=ds.mapIdx fun i d=>.tup [.int i,d]
noncomputable def RU (gA:GA):GI:=fun S=>(gA S).bind fun p=>match p.1 with
 | [d]=>(B4 d).map fun q=>(MX q.2,p.2)
 | _=>none
noncomputable def RV (gA:GA):GI:=fun S=>(gA S).bind fun p=>match p.1 with
 | [d,e]=>(B4 d).bind fun q=>(B4 e).map fun r=>(List.zipWith (fun a b=>.tup [a,b]) q.2 r.2,p.2)
 | _=>none
end
end L2
end
section
set_option Elab.async false
set_option linter.all false
set_option maxRecDepth 100000
namespace L2
open PySem PySem.Spec PyProof.Rows
theorem Ly {K:PySem.W.Frag}{B:Base}{S:SS}{σ:St}{F H:Hp}{i:Nat}{u:U}{d:D}(R:Rel K B S σ F H) (h:S[i]? =some (some u)) (hl:look u=some d):∃v F1,σ[i]? =some (some v)∧Sub F1 H∧Rep F1 v d∧∀b o,F b=some o→F1 b=some o:=by
 obtain⟨v,hv,r⟩:=R.rep i u h
 unfold look at hl
 split at hl
 ·cases hl;exact⟨v,F,hv,R.sub,r,fun _ _ z=>z⟩
 ·cases hl
  obtain⟨a,rfl,fa,vs,ha,rs⟩:=r
  exact⟨_,upd F a (.lst vs),hv,R.sub.kW ha,.lst bJ (rs.le (kY fa)),kY fa⟩
 ·cases hl
  obtain⟨a,rfl,fa,vs,ha,rs⟩:=r
  exact⟨_,upd F a (.lst vs),hv,R.sub.kW ha,.lst bJ (rs.le (kY fa)),kY fa⟩
 ·cases hl
noncomputable def vP (f:List D→Option U) (i:Nat) (g:GD):GD:=fun S=>match S[i]? with
 | some (some _)=>(g S).bind fun p=>match p.2[i]? with
  | some (some u)=>(look u).bind fun d=>match f [d,p.1] with
   | some (.t e)=>if su e=true then some (e,p.2) else none
   | _=>none
  | _=>none
 | _=>none
section
variable {X:Cx}{a b c e:Expr}{x y:Str}{p px py pos pos' tpos:Pos}{f:List D→Option U}{gb:GD}
theorem Jb {B : Base} {i : Nat} {σ : St} {H : Hp} {Q : VK} (h : tD X.K B (vP f i gb) σ H Q) : Ny (fun x y H Q => rP f [x, y] H Q) (KN i) (tD X.K B gb) σ H Q := by
  obtain⟨S,F,d,S',R,hg,q⟩:=h
  unfold vP at hg
  split at hg
  · rename_i u0 RJ
    obtain⟨⟨d1,S1⟩,h1,hg⟩:=az hg
    dsimp only at hg
    split at hg
    · rename_i u hS
      obtain⟨dx,h2,hg⟩:=az hg
      split at hg
      · rename_i e' he'
        obtain⟨hfl,hg⟩:=cX hg
        cases hg
        obtain⟨v0,hv0,_⟩:=R.rep i u0 RJ
        refine⟨v0,hv0,S,F,d1,_,R,h1,fun v F1 H1 R1 st1 r1=>?_⟩
        obtain⟨v1,F2,k1,k2,k3,k4⟩:=Ly R1 hS h2
        rw[hv0] at k1
        cases k1
        refine⟨F2,[dx,d1],_,k2,.cons k3 (.cons (r1.le k4) .nil),he',fun v' F' H' n s' r'=>?_⟩
        have n':iO F1 H1 F1 H':=⟨fun _ _ z=>z,n.same,fun _ _ _ z=>z⟩
        exact q v' F1 H' (R1.new n' (R1.sub.same n.same)) (st1.trans n'.step) (Ja hfl r')
      · cases hg
    · cases hg
  · cases hg
theorem Lz {i:Nat}{op:CmpOp}(ho:wW X (compareOp op) f) (hb:JD X b gb) (hN:X.N[i]? =some x:=by rfl) (hv:HC X.env.scope x:=by first | exact Or.inl rfl | exact Or.inr (Or.inl rfl) | exact Or.inr (Or.inr rfl)) (hd:(x == ("__debug__":Str))=false:=by decide) (hcd:(x == ("__classdict__":Str))=false:=by decide)
  (hm:behindInMarks op b=false:=by first | exact C9 _ | rfl):JT X (.Compare (.Name x px) [op] [b] pos) (qB (vP f i gb)):=⟨fun B=>(Ez ho (jD hN hv hd hcd) (hb.h B) hm).imp fun σ H Q ⟨S,F,k,S',R,hg,q⟩=>Jb ⟨S,F,.bl k,S',R,mK hg,fun v F' H' R' st r=>⟨k,jG r,q F' H' R' st⟩⟩⟩
theorem Vals.repl {v:V}{u:Value}(r:RelV v u):∀m:Nat,Vals (List.replicate m v) (List.replicate m u)
 | 0=>.nil
 | m+1=>.cons r (Vals.repl r m)
theorem bW.repl {F:Hp}{v:V}{d:D}(r:Rep F v d):∀m:Nat,bW F (List.replicate m v) (List.replicate m d)
 | 0=>.nil
 | m+1=>.cons r (bW.repl r m)
end
end L2
end
section
set_option Elab.async false
set_option linter.all false
set_option maxRecDepth 100000
namespace L2
open PySem PySem.Spec PyProof.Rows
noncomputable def RW:GE:=fun S=>some (.m (.yJ []),S)
noncomputable def RX:GE:=fun S=>some (.m (.dct []),S)
section
variable {X:Cx}{a b c e k:Expr}{x y:Str}{p px py pos pos' tpos apos cpos:Pos}{gk:GD}
noncomputable def Of (d:D):List D→Option Nat
 | []=>none
 | e :: ds=>if jC e d then some 0 else(Of d ds).map (· +1)
noncomputable def Og:List D→MO→Option (D×MO)
 | [d],.lst ds=>if bM ds≤40∧ds.length < 100000 then(Of d ds).map fun j=>(.int (j:Nat),.lst ds) else none
 | _,_=>none
end
end L2
end
section
set_option Elab.async false
set_option linter.all false
set_option maxRecDepth 100000
namespace L2
open PySem PySem.Spec PyProof.Rows
section
variable {X:Cx}{k v:Expr}{pos:Pos}{tk tv:TE}{gk gv:GD}
end
end L2
end
section
set_option Elab.async false
set_option linter.all false
set_option maxRecDepth 100000
namespace L2
open PySem PySem.Spec PyProof.Rows
noncomputable def jY (kvs:List (Str×Int)) (z:Str):Option Int:=(kvs.find? fun p=>decide (p.1=z)).map (·.2)
noncomputable def Oh:Option Int→Option Value→Prop
 | some i,u=>∃t,u=some (.int i t)
 | none,u=>u=none
noncomputable def KTab (P:Program) (w:World) (K:PySem.W.Frag) (a:Addr) (kvs:List (Str×Int)):Prop:=
 (a == sysModules)=false∧∃o es ep,K.lookup a=some o∧o.ExactDict∧o.data= .dict es ep∧KeysOf (cZ P w) es∧∀z,Oh (jY kvs z) (findBy (cZ P w).is es (.inr z))
noncomputable def uW (w:World):List (Str×Int)→List DictEntry→Prop
 | [],[]=>True
 | (z,i) :: r,e :: es=>(e.hash=hashStr w z∧(∃t,e.key= .str z t)∧∃t,e.val= .int i t)∧uW w r es
 | _,_=>False
theorem zJ {P:Program}{w:World}:∀{kvs:List (Str×Int)}{es:List DictEntry},uW w kvs es→∀e∈es,∃k,(cZ P w).is k e.key=true∧e.hash=(cZ P w).hash k
 | [],[],_,e,he=>by cases he
 | (z,i) :: r,e :: es,h,e',he=>by
  obtain⟨⟨h1,⟨t,h2⟩,_⟩,h3⟩:=h
  rcases List.mem_cons.mp he with rfl | q
  ·exact⟨.inr z,by rw[h2];exact pT P w z t,h1⟩
  ·exact zJ h3 e' q
 | [],_ :: _,h,_,_=>h.elim
 | _ :: _,[],h,_,_=>h.elim
theorem zK {P:Program}{w:World}(z:Str):∀{kvs:List (Str×Int)}{es:List DictEntry},uW w kvs es→Oh (jY kvs z) ((es.find? fun e=>(cZ P w).is (.inr z) e.key).map (·.val))
 | [],[],_=>rfl
 | (y,i) :: r,e :: es,h=>by
  obtain⟨⟨h1,⟨t,h2⟩,u,h4⟩,h3⟩:=h
  have k:(cZ P w).is (.inr z) e.key=decide ((.inr z:Key)= .inr y):=KeyKind.is_eq_decide (knd:=cZ P w) (k:=.inr y) (by rw[h2];exact pT P w y t) (.inr z)
  unfold jY
  by_cases q:y=z
  ·subst q
   rw[List.find?_cons_of_pos (by simp),List.find?_cons_of_pos (by rw[k];simp)]
   exact⟨u,by rw[Option.map_some,h4]⟩
  ·rw[List.find?_cons_of_neg (by simpa using q),List.find?_cons_of_neg (by rw[k];simp only[decide_eq_true_eq,Sum.inr.injEq];exact fun e=>q e.symm)]
   exact zK z h3
 | [],_ :: _,h=>h.elim
 | _ :: _,[],h=>h.elim
theorem EY {P:Program}{w:World}{K:PySem.W.Frag}{a:Addr}{kvs:List (Str×Int)}{es:List DictEntry}{ep:Nat}(h:K.lookup a=some ⟨.type "dict",none,.dict es.toArray ep,#[]⟩) (hs:(a == sysModules)=false) (he:uW w kvs es):KTab P w K a kvs:=by
 refine⟨hs,_,es.toArray,ep,h,⟨rfl,rfl,rfl⟩,rfl,fun e q=>zJ he e (by simpa using q),fun z=>?_⟩
 have:=zK (P:=P) z he
 unfold findBy
 rw[List.find?_toArray]
 exact this
section
variable {X:Cx}{pins:List (Addr×Obj)}{σ:St}{H:Hp}{s:Shared}{a:Addr}{kvs:List (Str×Int)}
theorem KTab.map (I:Inv X pins σ H s) (h:KTab X.prog X.w X.K a kvs):∃f:Key→Option Value,s.heap.MapOf (cZ X.prog X.w) a f∧∀z,Oh (jY kvs z) (f (.inr z)):=by
 obtain⟨_,o,es,ep,h1,h2,h3,h4,h5⟩:=h
 exact⟨_,⟨o,es,ep,I.Et a o h1,h2,h3,h4,fun _=>rfl⟩,h5⟩
end
noncomputable def Oi (kvs:List (Str×Int)) (g:GD):GD:=fun S=>(g S).bind fun p=>match p.1 with
 | .str z=>(jY kvs z).map fun i=>(.int i,p.2)
 | _=>none
noncomputable def Az (kvs:List (Str×Int)) (g gd:GD):GD:=fun S=>(g S).bind fun p=>(gd p.2).bind fun q=>match p.1,q.1 with
 | .str z,.int j=>some (.int ((jY kvs z).getD j),q.2)
 | _,_=>none
section
variable {X:Cx}{e f:Expr}{x:Str}{px pos apos cpos:Pos}{ty tx:TE}{g gd:GD}{a:Addr}{kvs:List (Str×Int)}
theorem Oj (hg:Gl X x) (hm:X.mg x=some (.ref a)) (hk:KTab X.prog X.w X.K a kvs) (he:PE X e ty) (hs:K4 e) (hd:(x == ("__debug__":Str))=false):
  PE X (.Subscript (.Name x px) e pos) (fun σ H Q=>ty σ H fun y H1=>∃z i,y= .str z∧jY kvs z=some i∧Q (.int i) H1):=by
 intro pins s σ H Q I h
 refine EB PySem.F.slot_dict_getitem.lookup hs (fR (tN (v:=.ref a) hg hm rfl hd pins s σ H (fun v H1=>v= .ref a∧H1=H) I ⟨rfl,rfl⟩) fun u s1 ⟨x',H1,I1,rx,ex,eH⟩=>?_)
 subst ex eH
 obtain rfl:u=Value.ref a:=rx
 refine fR (he pins s1 σ _ _ I1 h) fun iv s2 ⟨y,H2,I2,ry,z,i,ey,el,q⟩=>?_
 subst ey
 obtain⟨fm,m1,m2⟩:=hk.map I2
 have r:=m2 z
 rw[el] at r
 obtain⟨t,r⟩:=r
 exact⟨m1.typeIs,wpAny_getItem_of (k:=.inr z) (wN (k:=.inr z) ry) m1 r ⟨.int i,H2,I2.tok _,⟨t,rfl⟩,q⟩⟩
theorem Gg (hg:Gl X x) (hm:X.mg x=some (.ref a)) (hk:KTab X.prog X.w X.K a kvs) (he:PE X e ty) (hf:PE X f tx) (m:M2 X (.Name x px) "get" apos e f cpos) (hd:(x == ("__debug__":Str))=false):
  PE X (.Call (.Attribute (.Name x px) "get" apos) [e,f] [] cpos) (fun σ H Q=>ty σ H fun y H1=>tx σ H1 fun y2 H2=>∃z j,y= .str z∧y2= .int j∧Q (.int ((jY kvs z).getD j)) H2):=by
 intro pins s σ H Q I h
 refine wpAny_Call_method m.base m.few m.line PySem.F.plainAttrs_dict PySem.F.slot_dict_get PySem.F.type_dict_get (fR (tN (v:=.ref a) hg hm rfl hd pins s σ H (fun v H1=>v= .ref a∧H1=H) I ⟨rfl,rfl⟩) fun u s1 ⟨x',H1,I1,rx,ex,eH⟩=>?_)
 subst ex eH
 obtain rfl:u=Value.ref a:=rx
 obtain⟨fm,m1,m2⟩:=hk.map I1
 refine⟨m1.typeIs,fun b hb=>?_,?_⟩
 ·cases hb
  obtain⟨ob,_,_,h1,h2,_⟩:=m1
  exact⟨ob,h1,h2.2.1⟩
 rw[m.trees]
 refine Calls.callWith_builtin rfl (Calls.evalArgs_plain (Calls.spliced_cons (fR (he pins s1 σ _ _ I1 h) fun iv s2 ⟨y,H2,I2,ry,q2⟩=>
  Calls.spliced_cons (fR (hf pins s2 σ H2 _ I2 q2) fun fv s3 ⟨y2,H3,I3,Xh,z,j,ey,ey2,q3⟩=>Calls.spliced_nil ?_))))
 subst ey ey2
 obtain⟨fm3,k1,k2⟩:=hk.map I3
 refine call_meetsIn PySem.F.slot_dict_get k1.typeIs PySem.F.entry_dict_get (PySem.F.args_dict_get_3 _ _ _) (meets_dict_get_default (k:=.inr z) (cZ X.prog X.w) a (wN (k:=.inr z) ry) hk.1 fv) ⟨fm3,k1,.int ((jY kvs z).getD j),H3,I3.tok _,?_,q3⟩
 have r:=k2 z
 cases el:jY kvs z with
 | none=>rw[el] at r;rw[show fm3 (.inr z)=none from r];exact Xh
 | some i=>rw[el] at r;obtain⟨t,r⟩:=r;rw[r];exact⟨t,rfl⟩
theorem Ol (hg:Gl X x) (hm:X.mg x=some (.ref a)) (hk:KTab X.prog X.w X.K a kvs) (he:JD X e g) (hs:K4 e:=by intro _ _;rfl) (hd:(x == ("__debug__":Str))=false:=by decide):JD X (.Subscript (.Name x px) e pos) (Oi kvs g):=
 ⟨fun B=>(Oj hg hm hk (he.h B) hs hd).imp fun σ H Q ⟨S,F,d,S',R,hg',q⟩=>by
  obtain⟨⟨d1,S1⟩,h1,hg'⟩:=az hg'
  cases d1 <;> try (cases hg')
  rename_i z
  obtain⟨i,h2,hg'⟩:=aG hg'
  cases hg'
  exact⟨S,F,.str z,_,R,h1,fun v F1 H1 R1 st1 r1=>by cases r1;exact⟨z,i,rfl,h2,q (.int i) F1 H1 R1 st1 (.int i)⟩⟩⟩
theorem Gh (hg:Gl X x) (hm:X.mg x=some (.ref a)) (hk:KTab X.prog X.w X.K a kvs) (he:JD X e g) (hf:JD X f gd) (hb:attributeBase (.Name x px) "get" X.env (eval (.Name x px) X.env)=eval (.Name x px) X.env:=by rfl)
  (hfew:((backTo cpos (starEach [e,f] X.env)).all (fun x=>!x.1) && (backToKw cpos (keywordEach [] X.env)).all (fun x=>x.1.isSome) && decide (([e,f]:List Expr).length+([]:List Keyword).length+(if([]:List Keyword).isEmpty then 0 else 1) < 30))=true:=by rfl)
  (hline:(apos.endLine == cpos.line)=true:=by rfl) (htr:backTo cpos (starEach [e,f] X.env)=[(false,eval e X.env),(false,eval f X.env)]:=by rfl) (hd:(x == ("__debug__":Str))=false:=by decide):
  JD X (.Call (.Attribute (.Name x px) "get" apos) [e,f] [] cpos) (Az kvs g gd):=
 ⟨fun B=>(Gg hg hm hk (he.h B) (hf.h B) ⟨hb,hfew,hline,htr⟩ hd).imp fun σ H Q ⟨S,F,d,S',R,hg',q⟩=>by
  obtain⟨⟨d1,S1⟩,h1,hg'⟩:=az hg'
  obtain⟨⟨d2,S2⟩,h2,U9⟩:=az hg'
  clear hg'
  cases d1 <;> try (cases U9)
  rename_i z
  cases d2 <;> try (cases U9)
  rename_i j
  exact⟨S,F,.str z,_,R,h1,fun v F1 H1 R1 st1 r1=>by cases r1;exact⟨_,F1,.int j,_,R1,h2,fun v2 F2 H2 R2 st2 r2=>by cases r2;exact⟨z,j,rfl,rfl,q (.int _) F2 H2 R2 (st1.trans st2) (.int _)⟩⟩⟩⟩
end
noncomputable def AA (K:PySem.W.Frag) (a:Addr) (zs:List Str):Prop:=∃(o:Obj) (its:List Value) (n:Nat),K.lookup a=some o∧o.cls= .type "tuple"∧o.data= .seq its.toArray n∧its.length≤1000∧Vals (zs.map V.str) its
noncomputable def xm:List Str→List Value→Prop
 | [],[]=>True
 | z :: r,v :: vs=>(∃t,v= .str z t)∧xm r vs
 | _,_=>False
theorem zL:∀{zs:List Str}{vs:List Value},xm zs vs→Vals (zs.map V.str) vs
 | [],[],_=>.nil
 | z :: r,v :: vs,h=>.cons h.1 (zL h.2)
 | [],_ :: _,h=>h.elim
 | _ :: _,[],h=>h.elim
theorem EZ {K:PySem.W.Frag}{a:Addr}{zs:List Str}{its:List Value}{n:Nat}{od:Option Addr}{sl:Array (Option Value)}(h:K.lookup a=some ⟨.type "tuple",od,.seq its.toArray n,sl⟩) (hl:its.length≤1000) (hs:xm zs its):AA K a zs:=
 ⟨_,its,n,h,rfl,rfl,hl,zL hs⟩
theorem zM {F:Hp}:∀zs:List Str,bW F (zs.map V.str) (zs.map D.str)
 | []=>.nil
 | z :: zs=>.cons (.str z) (zM zs)
theorem lV:∀zs:List Str,bM (zs.map D.str)=0
 | []=>rfl
 | z :: zs=>by show max (bZ (.str z)) (bM (zs.map D.str))=0;rw[lV zs];rfl
noncomputable def AB (n:Bool) (zs:List Str) (g:GD):GD:=fun S=>(g S).map fun p=>(.bl (n != inD p.1 (zs.map D.str)),p.2)
section
variable {X:Cx}{e:Expr}{x:Str}{px pos:Pos}{g:GD}{a:Addr}{zs:List Str}
theorem Om (I:Inv X pins σ H s) (hk:AA X.K a zs) (hu:X.A.units+64 < cLine){F:Hp}{d:D}{v:V}{u:Value}(sb:Sub F H) (r:Rep F v d) (rv:RelV v u):∃its:List Value,IsTup s.heap a its.toArray∧(∀y∈its,SeqAt.EqAt X.A.in1 s y u (yN F d y))∧its.any (yN F d)=inD d (zs.map D.str):=by
 obtain⟨o,its,n,h1,h2,h3,h4,h5⟩:=hk
 obtain⟨k1,k2⟩:=nH I sb (A:=X.A.in1) r rv (zM zs) h5 (by rw[lV];show X.A.units+1+0 < cLine;omega)
 exact⟨its,⟨o,I.Et a o h1,h2,n,h3⟩,k1,k2⟩
theorem Jc (hu:X.A.units+64 < cLine) (hg:Gl X x) (hm:X.mg x=some (.ref a)) (hk:AA X.K a zs){B:Base}(he:PE X e (tD X.K B g)) (hd:(x == ("__debug__":Str))=false):
  PC X .In e (.Name x px) (tD X.K B (AB false zs g)):=by
 intro pins s σ H Q I h
 obtain⟨S,F,d,S',R,hg',q⟩:=h
 obtain⟨⟨d1,S1⟩,h1,hg'⟩:=aG hg'
 cases hg'
 refine fR (he pins s σ H (fun y H1=>∃F',Sub F' H1∧Rep F' y d1∧Q (.bl (false != inD d1 (zs.map D.str))) H1) I ⟨S,F,d1,_,R,h1,fun v F1 H1 R1 st1 r1=>⟨F1,R1.sub,r1,q (.bl _) F1 H1 R1 st1 (.bl _)⟩⟩) fun iv s1 ⟨y,H1,I1,ry,F',sb,r',q'⟩=>?_
 refine fR (tN (v:=.ref a) hg hm rfl hd pins s1 σ H1 (fun v H2=>v= .ref a∧H2=H1) I1 ⟨rfl,rfl⟩) fun u s2 ⟨x',H2,I2,rx,ex,eH⟩=>?_
 subst ex eH
 obtain rfl:u=Value.ref a:=rx
 obtain⟨its,p,k1,k2⟩:=Om I2 hk hu sb r' ry
 refine SeqAt.in_tupleAt (yN F' d1) p (fun y hy=>k1 y (by simpa using hy)) ⟨.bl _,_,I2,rfl,?_⟩
 rw[show its.toArray.any (yN F' d1)=its.any (yN F' d1) by simp,k2]
 simpa using q'
theorem Oo (hu:X.A.units+64 < cLine) (hg:Gl X x) (hm:X.mg x=some (.ref a)) (hk:AA X.K a zs) (he:JD X e g) (hd:(x == ("__debug__":Str))=false:=by decide) (hi:behindInMarks .In (.Name x px)=false:=by with_unfolding_all rfl):JD X (.Compare e [.In] [.Name x px] pos) (AB false zs g):=
 ⟨fun B=>Ng (Jc hu hg hm hk (he.h B) hd) hi⟩
theorem RY {B:Base}{g:GD}{σ:St}{H:Hp}{Q:Bool→Hp→Prop}(h:tQ X.K B (qB g) σ H Q):tB (tD X.K B g) σ H Q:=by
 obtain⟨S,F,kk,S',R,hg',q⟩:=h
 exact⟨S,F,.bl kk,S',R,mK hg',fun v F' H' R' st r=>⟨kk,jG r,q F' H' R' st⟩⟩
theorem DA (hu:X.A.units+64 < cLine) (hg:Gl X x) (hm:X.mg x=some (.ref a)) (hk:AA X.K a zs) (he:JD X e g) (hd:(x == ("__debug__":Str))=false:=by decide) (hi:behindInMarks .In (.Name x px)=false:=by with_unfolding_all rfl):JT X (.Compare e [.In] [.Name x px] pos) (qB (AB false zs g)):=
 ⟨fun B=>(Nh (Jc hu hg hm hk (he.h B) hd) hi).imp fun σ H Q h=>RY h⟩
end
end L2
end
section
set_option Elab.async false
set_option linter.all false
set_option maxRecDepth 100000
namespace L2
open PySem PySem.Spec PyProof.Rows
noncomputable def Jd:U→D→Option (Option D)
 | .m (.dct kvs),k=>(keyOf k).map (dh kvs)
 | .b (.dct kvs),k=>(keyOf k).map (dh kvs)
 | .m (.yJ kvs),k=>(Dv k).map (dh kvs)
 | .b (.yJ kvs),k=>(Dv k).map (dh kvs)
 | _,_=>none
noncomputable def xq:U→Bool
 | .m (.dct _)=>true
 | .b (.dct _)=>true
 | .m (.yJ _)=>true
 | .b (.yJ _)=>true
 | _=>false
noncomputable def zN (i:Nat) (gk gd:GD):GD:=fun S=>match S[i]? with
 | some (some u)=>if xq u then(gk S).bind fun p=>(gd p.2).bind fun q=>match q.2[i]? with
  | some (some u2)=>(Jd u2 p.1).map fun o=>(o.getD q.1,q.2)
  | _=>none
  else none
 | _=>none
noncomputable def RZ (F:Hp):Option V→Option D→Prop
 | some v,some d=>Rep F v d
 | none,none=>True
 | _,_=>False
theorem um {κ:Type} [DecidableEq κ] {F:Hp}{ws:List (κ×V)}{kvs:List (κ×D)}(pr:Paired (jk F) ws kvs) (k:κ):RZ F (sG ws k) (dh kvs k):=by
 cases e:dh kvs k with
 | none=>rw[zG pr e];exact True.intro
 | some d=>obtain⟨v,h,r⟩:=rF pr e;rw[h];exact r
theorem LA {K:PySem.W.Frag}{F H:Hp}{v w:V}{u:U}{d:D}{h:Option D}(sb:Sub F H) (r:yK K F H v u) (rk:Rep F w d) (e:Jd u d=some h):∃a o,v= .ref a∧rT H a w o∧RZ F o h:=by
 unfold Jd at e
 split at e
 ·obtain⟨kk,e1,rfl⟩:=aG e
  obtain⟨a,rfl,fa,ws,ha,pr⟩:=r
  rw[nI rk e1]
  exact⟨a,_,rfl,rT.k ha,um pr kk⟩
 ·obtain⟨kk,e1,rfl⟩:=aG e
  obtain⟨a,rfl,fa,ws,ha,pr⟩:=r
  rw[nI rk e1]
  exact⟨a,_,rfl,rT.k ha,um pr kk⟩
 ·obtain⟨kk,e1,rfl⟩:=aG e
  obtain⟨a,rfl,fa,ws,ha,pr⟩:=r
  obtain⟨b,rfl,hb⟩:=uf sb rk e1
  exact⟨a,_,rfl,rT.t ha hb,um pr kk⟩
 ·obtain⟨kk,e1,rfl⟩:=aG e
  obtain⟨a,rfl,fa,ws,ha,pr⟩:=r
  obtain⟨b,rfl,hb⟩:=uf sb rk e1
  exact⟨a,_,rfl,rT.t ha hb,um pr kk⟩
 ·cases e
theorem B5 {K:PySem.W.Frag}{F H:Hp}{v:V}{u:U}(r:yK K F H v u) (h:xq u=true):∃a,v= .ref a∧U1 H a:=by
 unfold xq at h
 split at h
 ·obtain⟨a,rfl,fa,ws,ha,pr⟩:=r;exact⟨a,rfl,.inl ⟨ws,.inl ha⟩⟩
 ·obtain⟨a,rfl,fa,ws,ha,pr⟩:=r;exact⟨a,rfl,.inl ⟨ws,.inl ha⟩⟩
 ·obtain⟨a,rfl,fa,ws,ha,pr⟩:=r;exact⟨a,rfl,.inr ⟨ws,.inl ha⟩⟩
 ·obtain⟨a,rfl,fa,ws,ha,pr⟩:=r;exact⟨a,rfl,.inr ⟨ws,.inl ha⟩⟩
 ·cases h
section
variable {X:Cx}{e f:Expr}{x:Str}{px pos apos cpos:Pos}{gk gd:GD}{ge:GE}
theorem LB {i : Nat} (hu : X.A.units + 1 < cLine) (he : JD X e gk) (hf : JD X f gd) (hN : X.N[i]? = some x := by rfl) (hv : HC X.env.scope x := by first | exact Or.inl rfl | exact Or.inr (Or.inl rfl) | exact Or.inr (Or.inr rfl))
    (hb:attributeBase (.Name x px) "get" X.env (eval (.Name x px) X.env)=eval (.Name x px) X.env:=by rfl)
    (hfew:((backTo cpos (starEach [e,f] X.env)).all (fun x=>!x.1) && (backToKw cpos (keywordEach [] X.env)).all (fun x=>x.1.isSome) && decide (([e,f]:List Expr).length+([]:List Keyword).length+(if([]:List Keyword).isEmpty then 0 else 1) < 30))=true:=by rfl)
    (hline:(apos.endLine == cpos.line)=true:=by rfl) (htr:backTo cpos (starEach [e,f] X.env)=[(false,eval e X.env),(false,eval f X.env)]:=by rfl) (hd:(x == ("__debug__":Str))=false:=by decide) (hcd:(x == ("__classdict__":Str))=false:=by decide):
    JD X (.Call (.Attribute (.Name x px) "get" apos) [e,f] [] cpos) (zN i gk gd):=
  ⟨fun B => (Ih hu (jD hN hv hd hcd) (he.h B) (hf.h B) ⟨hb, hfew, hline, htr⟩).imp fun σ H Q ⟨S, F, d, S', R, hg, q⟩ => by
    unfold zN at hg
    split at hg
    · rename_i u hS
      split at hg
      · rename_i hD
        obtain⟨⟨d1,S1⟩,h1,hg⟩:=az hg
        obtain⟨⟨d2,S2⟩,h2,hg⟩:=az hg
        dsimp only at hg
        split at hg
        · rename_i u2 R5
          obtain⟨o,h3,hg⟩:=aG hg
          cases hg
          obtain⟨v0,hv0,r0⟩:=R.rep i u hS
          obtain⟨a,rfl,ha⟩:=B5 r0 hD
          refine⟨.ref a,hv0,a,rfl,ha,S,F,d1,S1,R,h1,fun v1 F1 H1 R1 st1 r1=>⟨S1,F1,d2,_,R1,h2,fun v2 F2 H2 R2 st2 r2=>?_⟩⟩
          obtain⟨v3,R6,r3⟩:=R2.rep i u2 R5
          rw[hv0] at R6
          cases R6
          obtain⟨a',ov,e1,g1,rl⟩:=LA R2.sub r3 (r1.le st2.ext.le) h3
          cases e1
          refine⟨ov,g1,q _ F2 H2 R2 (st1.trans st2) ?_⟩
          cases o with
          | none=>cases ov with
            | none=>exact r2
            | some _=>exact(show False from rl).elim
          | some d=>cases ov with
            | none=>exact(show False from rl).elim
            | some v=>exact rl
        · cases hg
      · cases hg
    · cases hg⟩
noncomputable def R7 (td te:TE):TE:=fun σ H Q=>td σ H fun x H1=>∃a,x= .ref a∧U1 H1 a∧te σ H1 fun y H2=>∃p kvs more,y= .ref p∧H2 a=some (.dK kvs)∧H2 p=some (.dK more)∧a≠p∧kvs.length+more.length≤sizeLine∧Q .cW (upd H2 a (.dK (lN kvs more)))
theorem LC {o:Expr}{td te:TE}(ho:PE X o td) (he:PE X e te) (m:M1 X o "update" apos e cpos):PE X (.Call (.Attribute o "update" apos) [e] [] cpos) (R7 td te):=by
 intro pins s σ H Q I h
 refine wpAny_Call_method m.base m.few m.line PySem.F.plainAttrs_dict PySem.F.slot_dict_update PySem.F.type_dict_update (fR (ho pins s σ H _ I h) fun u s1 ⟨x,H1,I1,rx,a,ex,d,q1⟩=>?_)
 subst ex
 obtain rfl:u=Value.ref a:=rx
 obtain⟨t1,t2,_⟩:=Ig I1 d
 refine⟨t1,t2,?_⟩
 rw[m.trees]
 refine Calls.callWith_builtin rfl (Calls.evalArgs_plain (Calls.spliced_cons (fR (he pins s1 σ H1 _ I1 q1) fun iv s2 ⟨y,H2,I2,ry,p,kvs,more,ey,ha,hp,ne,hl,q2⟩=>Calls.spliced_nil ?_)))
 subst ey
 obtain rfl:iv=Value.ref p:=ry
 obtain⟨z1,d1,vs1,r1,dd1⟩:=EA I2.hok ha
 obtain⟨z2,d2,vs2,r2,dd2⟩:=EA I2.hok hp
 refine call_meetsIn PySem.F.slot_dict_update dd1.typeIs PySem.F.entry_dict_update (PySem.F.args_dict_update_2 _ _) (meets_dict_update (cZ X.prog X.w) a p ne d2) ⟨vs1,vs2,dd1,dd2,(by rw[←r1.length,←r2.length];exact hl),fun h' Kv _ hs=>⟨.cW,_,?_,rfl,q2⟩⟩
 have hz:(lN kvs more).length≤sizeLine:=Nat.le_trans (mV more kvs) hl
 have hee:∃q,h'.get? a=some q:=let⟨q,_,_,hq,_⟩:=Kv;⟨q,hq⟩
 exact wC I2 (by rw[ha];exact True.intro) hs hee (Df hz d1 (r2.merge r1) Kv)
noncomputable def B6 (i:Nat) (ge:GE):GD:=fun S=>match S[i]? with
 | some (some u)=>if xq u then(ge S).bind fun p=>match p.1 with
  | .m (.dct more)=>qc p.2 i fun o=>match o with
   | .dct kvs=>if kvs.length+more.length≤100000 then some (.cW,.dct (fW kvs more)) else none
   | _=>none
  | _=>none
  else none
 | _=>none
theorem LD {i : Nat} (he : JE X e ge) (hN : X.N[i]? = some x := by rfl) (hv : HC X.env.scope x := by first | exact Or.inl rfl | exact Or.inr (Or.inl rfl) | exact Or.inr (Or.inr rfl))
    (hb:attributeBase (.Name x px) "update" X.env (eval (.Name x px) X.env)=eval (.Name x px) X.env:=by rfl)
    (hfew:((backTo cpos (starEach [e] X.env)).all (fun x=>!x.1) && (backToKw cpos (keywordEach [] X.env)).all (fun x=>x.1.isSome) && decide (([e]:List Expr).length+([]:List Keyword).length+(if([]:List Keyword).isEmpty then 0 else 1) < 30))=true:=by rfl)
    (hline:(apos.endLine == cpos.line)=true:=by rfl) (htr:backTo cpos (starEach [e] X.env)=[(false,eval e X.env)]:=by rfl) (hd:(x == ("__debug__":Str))=false:=by decide) (hcd:(x == ("__classdict__":Str))=false:=by decide):
    JD X (.Call (.Attribute (.Name x px) "update" apos) [e] [] cpos) (B6 i ge):=
  ⟨fun B => (LC (jD hN hv hd hcd) (he.h B) ⟨hb, hfew, hline, htr⟩).imp fun σ H Q ⟨S, F, d, S', R, hg, q⟩ => by
    unfold B6 at hg
    split at hg
    · rename_i u hS
      split at hg
      · rename_i hD
        obtain⟨⟨u1,S1⟩,h1,hg⟩:=az hg
        dsimp only at hg
        split at hg
        · rename_i more
          obtain⟨u2,u',o,o',R5,MR,hio,hf,Oc,rfl⟩:=uT hg
          split at hf
          · rename_i kvs
            obtain⟨hl,hf⟩:=zC hf
            cases hf
            obtain⟨v0,hv0,r0⟩:=R.rep i u hS
            obtain⟨a,rfl,ha⟩:=B5 r0 hD
            refine⟨.ref a,hv0,a,rfl,ha,S,F,_,S1,R,h1,fun v1 F1 H1 R1 st1 r1=>?_⟩
            obtain⟨p,rfl,hp0,fp,⟨ws2,hp,pr2⟩,hn,hB⟩:=r1
            obtain⟨v3,R6,r3⟩:=R1.rep i u2 R5
            rw[hv0] at R6
            cases R6
            have mA:eO S1 σ a:=⟨i,u2,R5,MR,hv0⟩
            have ne:a≠p:=fun z=>hn (z▸mA)
            obtain⟨b,o2,e1,fa,e2,k⟩:=r3.eO MR
            cases e1
            rw[hio] at e2
            cases e2
            obtain⟨ws1,ha1,pr1⟩:=k
            refine⟨p,ws1,ws2,rfl,ha1,hp,ne,?_,?_⟩
            · rw[eU pr1,eU pr2,sizeLine_eq];omega
            · obtain⟨R2,st2⟩:=R1.write (ho:=.dK (lN ws1 ws2)) R5 Oc hv0 ⟨_,bJ,sP pr2 pr1⟩
              exact q .cW F1 _ R2 (st1.trans st2) .cW
          · cases hf
        · cases hg
      · cases hg
    · cases hg⟩
end
end L2
end
section
set_option Elab.async false
set_option linter.all false
set_option maxRecDepth 100000
namespace HT
open PySem PySem.Spec PyProof.Rows
section
variable {prog:Program}{w:World}{A:Around}{E:Value→Shared→Prop}{s:Shared}
theorem uX {sl:Addr}{vs:Value}{n:Nat}{Q:Int×Int×Nat→Shared→Prop}(hs:s.heap.IsSliceOf sl .none .none vs) (ps:IsPart vs (some (-1)))
  (h:Q ((n:Int) - 1,-1,n) s):wpAny (model prog w) A (Builtin.Slice.sliceApplied (.ref sl) (pure (n:Int))) Q E s:=by
 obtain⟨os,hos,hcs,hds⟩:=id hs
 unfold Builtin.Slice.sliceApplied Builtin.Slice.sliceFields
 refine wpAny_bind (wpAny_bind (wpAny_field hos hds (x:=.none) rfl (wpAny_bind (wpAny_field hos hds (x:=.none) rfl (wpAny_bind (wpAny_field hos hds (x:=vs) rfl (wpAny_pure ?_)))))))
 refine wpAny_bind (sH ps ?_)
 show wpAny _ _ (if((-1:Int) == 0)=true then _ else _) _ _ s
 rw[if_neg (by decide)]
 refine wpAny_bind (slicePart_none (wpAny_bind (slicePart_none (wpAny_bind (wpAny_pure ?_)))))
 show wpAny _ _ (match Builtin.Slice.sliceAdjust none none (-1) (n:Int) with | (lo,hi)=>pure (lo,(-1:Int),Builtin.Slice.slicePlaces lo hi (-1))) _ _ s
 have e:Builtin.Slice.sliceAdjust none none (-1) (n:Int)=((n:Int) - 1,-1):=rfl
 rw[e]
 show wpAny _ _ (pure ((n:Int) - 1,(-1:Int),Builtin.Slice.slicePlaces ((n:Int) - 1) (-1) (-1))) _ _ s
 have e2:Builtin.Slice.slicePlaces ((n:Int) - 1) (-1) (-1)=n:=by
  unfold Builtin.Slice.slicePlaces
  rw[if_neg (by decide)]
  split
  ·rw[show(- -1:Int)=1 from rfl,Int.ediv_one];omega
  ·omega
 rw[e2]
 exact wpAny_pure h
theorem Je (xs:Array Value):((List.range xs.size).filterMap fun(m:Nat)=>xs[((xs.size:Int) - 1+(m:Int) * -1).toNat]?).toArray=xs.toList.reverse.toArray:=by
 have h1:(List.range xs.size).filterMap (fun(m:Nat)=>xs[((xs.size:Int) - 1+(m:Int) * -1).toNat]?)=((List.range xs.size).map fun k=>xs.size - 1 - k).filterMap (xs[·]?):=by
  rw[List.filterMap_map]
  congr 1
  funext m
  show xs[((xs.size:Int) - 1+(m:Int) * -1).toNat]? =xs[xs.size - 1 - m]?
  have:((xs.size:Int) - 1+(m:Int) * -1).toNat=xs.size - 1 - m:=by omega
  rw[this]
 rw[h1,PySem.W.krv_range,List.filterMap_reverse,PySem.W.krv_all]
theorem uo {t sl:Addr}{items:Array Value}{vs:Value}{Q:Value→Shared→Prop}(ht:IsTup s.heap t items) (hs:s.heap.IsSliceOf sl .none .none vs) (ps:IsPart vs (some (-1)))
  (h:Q (.ref s.heap.objs.size) {s with heap:=s.heap.push {cls:=.type "tuple",data:=.seq items.toList.reverse.toArray}})
  (hsz:items.size≤sizeLine):wpAny (model prog w) A (getItem (.ref t) (.ref sl)) Q E s:=by
 have tU:sizeOk (.seq items.toList.reverse.toArray):=by
  show items.toList.reverse.toArray.size≤sizeLine
  rw[List.size_toArray,List.length_reverse,Array.length_toList]
  exact hsz
 obtain⟨os,hos,hcs,hds⟩:=id hs
 have Rb:s.TypeIs (.ref sl) "slice":=⟨os,hos,hcs⟩
 unfold getItem
 try with_reducible refine wpAny_holding ?_
 first | refine wpAny_bind (wpAny_pure ?_) | skip
 refine wpAny_bind (wpAny_sequenceKey ht.typeIs (by decide) ?_)
 refine wpAny_bind (wpAny_callSpecial?_slot (name:=Str.ofString "__getitem__") ht.typeIs PyProof.Rows.slot_tuple_getitem
  (wpAny_call_entry PyProof.Rows.slot_tuple_getitem ht.typeIs entry_tuple_getitem ?_ (args_tuple_getitem _ _)))
 show wpAny _ _ (Builtin.Tuple.tupleItemsOf (.ref t) >>= _) _ _ s
 refine wpAny_bind (tupleItemsOf_ ht ?_)
 refine wpAny_bind (wpAny_typeOf Rb ?_)
 rw[if_pos (by decide)]
 refine wpAny_bind (uX hs ps ?_)
 have hno:¬((((items.size:Int) - 1) == 0 && (-1:Int) == 1 && items.size == items.size)=true):=by
  intro q
  rw[Bool.and_eq_true,Bool.and_eq_true] at q
  exact absurd q.1.2 (by decide)
 show wpAny _ _ (if(((items.size:Int) - 1) == 0 && (-1:Int) == 1 && items.size == items.size)=true then _ else _) _ _ s
 rw[if_neg hno,Je]
 first
  | exact wpAny_bind (m:=Builtin.Tuple.tupleExact _) (wpAny_newObj_type (wpAny_pure ⟨_,rfl,wpAny_pure h⟩) tU)
  | exact wpAny_bind (m:=Builtin.Tuple.tupleExact _) (wpAny_newObj_type (wpAny_bind (wpAny_pure (wpAny_pure ⟨_,rfl,wpAny_pure h⟩))) tU)
  | exact wpAny_bind (wpAny_bind (m:=Builtin.Tuple.tupleExact _) (wpAny_newObj_type (wpAny_pure (wpAny_pure ⟨_,rfl,wpAny_pure h⟩)) tU))
  | exact wpAny_bind (wpAny_bind (m:=Builtin.Tuple.tupleExact _) (wpAny_newObj_type (wpAny_pure ⟨_,rfl,wpAny_pure h⟩) tU))
end
end HT
namespace L2
open PySem PySem.Spec PyProof.Rows
section
variable {X:Cx}{e st:Expr}{te ts:TE}{pos p2:Pos}
noncomputable def SlV (X:Cx) (r:V→Hp→VK→Prop):Prop:=
 ∀(pins:List (Addr×Obj)) (s:Shared) (σ:St) (H:Hp) (x:V) (v vs:Value) (sl:Addr) (Q:VK),Inv X pins σ H s→RelV x v→s.heap.IsSliceOf sl .none .none vs→IsPart vs (some (-1))→r x H Q→
  ∃T id,typeLookup (.type T) "__getitem__" =pure (some (.builtin id))∧s.TypeIs v T∧wpAny (model X.prog X.w) X.A (getItem v (.ref sl)) (EP X pins σ Q) X.xe s
noncomputable def Xu (r:V→Hp→VK→Prop) (te:TE) (ts:TO):TE:=fun σ H Q=>te σ H fun x H1=>ts σ H1 fun u H3=>u=some (-1)∧r x H3 Q
theorem Gi {r:V→Hp→VK→Prop}(hr:SlV X r) (he:PE X e te) (hs:PE X st ts):PE X (.Subscript e (.Slice none none (some st) p2) pos) (Xu r te (MK ts)):=by
 intro pins s σ H Q I h
 refine Subscript_ (fR (he pins s σ H _ I h) fun v s1 ⟨x,H1,I1,r1,q1⟩=>?_)
 refine wpAny_Slice ?_
 rw[evalPart_none]
 refine wpAny_pure ?_
 refine wpAny_pure ?_
 refine fR (EG hs pins s1 σ H1 _ I1 q1) fun vu s3 ⟨u,H3,I3,pu,q3⟩=>?_
 obtain⟨rfl,q3⟩:=q3
 have I4:Inv X pins σ H3 {s3 with heap:=s3.heap.push {cls:=.type "slice",data:=.fields #[.none,.none,vu]}}:=I3.kept (t':=s3.toks) fun b ob q=>Heap.get?_push_of_some _ q
 obtain⟨T,id,hT,ht,hg⟩:=hr pins {s3 with heap:=s3.heap.push {cls:=.type "slice",data:=.fields #[.none,.none,vu]}} σ H3 x v vu s3.heap.objs.size Q I4 r1 (Heap.IsSliceOf.new ..) pu q3
 show wpAny (model X.prog X.w) X.A (subscriptTail e (.Slice none none (some st) p2) v (.ref s3.heap.objs.size)) (EP X pins σ Q) X.xe {s3 with heap:=s3.heap.push {cls:=.type "slice",data:=.fields #[.none,.none,vu]}}
 exact tail_any (ops:=[v,.ref s3.heap.objs.size]) ht hT hg (by with_unfolding_all rfl)
noncomputable def AD (d:D):Option U:=match d with
 | .tup ds=>some (.t (.tup ds.reverse))
 | .lst ds=>some (.m (.lst ds.reverse))
 | _=>none
theorem bW.rev {F:Hp}:∀{vs:List V}{ds:List D},bW F vs ds→bW F vs.reverse ds.reverse
 | _,_,.nil=>.nil
 | _,_,.cons r rs=>by rw[List.reverse_cons,List.reverse_cons];exact(bW.rev rs).append (.cons r .nil)
theorem Vals.rev {xs:List V}{us:List Value}(r:Vals xs us):Vals xs.reverse us.reverse:=by
 induction r with
 | nil=>exact .nil
 | cons r _ ih=>rw[List.reverse_cons,List.reverse_cons];exact ih.append (.cons r .nil)
noncomputable def R8:V→Hp→VK→Prop:=fun x H Q=>∃F d u,Sub F H∧Rep F x d∧AD d=some u∧∀v F' H',iO F H F' H'→Sub F' H'→Dn H F' H' v u→Q v H'
theorem R9:SlV X R8:=by
 intro pins s σ H x v vs sl Q I rx hs ps ⟨F,d,u,sb,r,hf,q⟩
 cases d with
 | tup ds=>
  cases hf
  obtain⟨a,xs,rfl,fa,ha,rs⟩:=sb.mJ r
  cases rx
  obtain⟨its,rv,ht,hz⟩:=I.tuple (.inl ha)
  have hlen:its.toArray.size=xs.length:=by rw[List.size_toArray];exact rv.length.symm
  refine⟨"tuple",_,PyProof.Rows.slot_tuple_getitem.lookup,ht.typeIs,?_⟩
  refine HT.uo ht hs ps ?_ (by rw[hlen];exact hz)
  refine⟨.ref s.heap.objs.size,_,I.laid (t':=s.toks) (o:=.tup xs.reverse) (fun b ob q=>Heap.get?_push_of_some _ q) (Nat.le_refl _) ?_,rfl,?_⟩
  ·exact⟨by rw[List.length_reverse];exact hz,_,rv.rev,IsTup.new _ _⟩
  ·have hp:=I.hok.fresh (Nat.le_refl _)
   exact q _ _ _ (iO.root sb hp _) (sb.wV hp) (.tup bJ (rs.rev.le (kY (sb.fresh hp))))
 | lst ds=>
  cases hf
  obtain⟨a,xs,rfl,fa,ha,rs⟩:=sb.jF r
  cases rx
  obtain⟨its,rv,ht,hz⟩:=I.list (.inl ha)
  have hlen:=rv.length
  refine⟨"list",_,slot_list_getitem.lookup,ht.isList.typeIs,?_⟩
  refine wpAny_getItem_list_slice ht.isList hs .none .none ps (by simp) ?_ (by rw[List.size_toArray] <;> omega)
  rw[PySem.W.krv_pick]
  have hp:=I.hok.fresh (Nat.le_refl _)
  refine⟨.ref s.heap.objs.size,_,I.laid (t':=s.toks) (o:=.lst xs.reverse) (fun b ob q=>Heap.get?_push_of_some _ q) (Nat.le_refl _) ?_,rfl,?_⟩
  ·exact⟨by rw[List.length_reverse];exact hz,_,0,rv.rev,Heap.get?_push_size _ rfl⟩
  ·exact q _ F _ (iO.obj hp _) (sb.same (iO.obj (F:=F) hp _).same) ⟨_,rfl,hp,sb.fresh hp,_,bJ,rs.rev⟩
 | str z=>cases hf
 | cW=>cases hf
 | bl b=>cases hf
 | int b=>cases hf
noncomputable def LF (g:GD) (gs:GD):GE:=fun S=>(g S).bind fun p=>(gs p.2).bind fun l=>match l.1 with
 | .int i=>if i=-1 then(AD p.1).map fun u=>(u,l.2) else none
 | _=>none
theorem Oq {g gs:GD}(he:JD X e g) (hs:JD X st gs):JE X (.Subscript e (.Slice none none (some st) p2) pos) (LF g gs):=⟨fun B=>(Gi R9 (he.h B) (hs.h B)).imp fun σ H Q ⟨S,F,u,S',R,hg,q⟩=>by
 obtain⟨⟨d,S1⟩,h1,hg⟩:=az hg
 obtain⟨⟨l,S2⟩,h2,hg⟩:=az hg
 cases l <;> try (cases hg)
 rename_i i
 dsimp only at hg
 by_cases hi:i=-1
 ·rw[if_pos hi] at hg
  subst hi
  obtain⟨u',h4,hg⟩:=aG hg
  cases hg
  exact⟨S,F,d,S1,R,h1,fun v F1 H1 R1 st1 r1=>⟨S1,F1,_,_,R1,h2,fun v2 F2 H2 R2 st2 r2=>⟨_,kK r2,rfl,F2,d,_,R2.sub,r1.le st2.ext.le,h4,fun v F4 H4 n s4 r4=>q v F4 H4 (R2.new n s4) ((st1.trans st2).trans n.step) (r4.FP R2 (st1.trans st2))⟩⟩⟩
 ·rw[if_neg hi] at hg;cases hg⟩
@[simp] theorem Xv (g gs:GD) (S:SS):LF g gs S=(g S).bind fun p=>(gs p.2).bind fun l=>match l.1 with
 | .int i=>if i=-1 then(AD p.1).map fun u=>(u,l.2) else none
 | _=>none:=rfl
end
noncomputable def sR:List Int→Int
 | []=>0
 | [a]=>a
 | a :: b :: r=>max a (sR (b :: r))
noncomputable def Ot:List Int→Int
 | []=>0
 | [a]=>a
 | a :: b :: r=>min a (Ot (b :: r))
theorem LG : ∀ {ns : List Int} {M : Int}, M ∈ ns → (∀ a ∈ ns, a ≤ M) → sR ns = M
  | [],_,h,_=>by cases h
  | [a],M,h,_=>by rw[List.mem_singleton.mp h];rfl
  | a :: b :: r, M, h, k => by
    have hb : ∀ x ∈ b :: r, x ≤ sR (b :: r) := by
      have:∀(l:List Int),∀x∈l,x≤sR l:=by
        intro l
        induction l with
        | nil=>intro x hx;cases hx
        | cons a l ih=>
          intro x hx
          cases l with
          | nil=>rw[List.mem_singleton.mp hx];exact Int.le_refl _
          | cons b r=>
            show x≤max a (sR (b :: r))
            rcases List.mem_cons.mp hx with rfl | q
            · omega
            · have:=ih x q;omega
      exact this _
    have hm:∀(l:List Int),l≠[]→sR l∈l:=by
      intro l
      induction l with
      | nil=>intro z;exact absurd rfl z
      | cons a l ih=>
        intro _
        cases l with
        | nil=>exact List.mem_singleton.mpr rfl
        | cons b r=>
          have:=ih (by simp)
          show max a (sR (b :: r))∈_
          by_cases c:a≤sR (b :: r)
          · rw[Int.max_eq_right c];exact List.mem_cons_of_mem _ this
          · rw[Int.max_eq_left (by omega)];exact List.mem_cons_self
    have h1:=hm (a :: b :: r) (by simp)
    have h2:=k _ h1
    show max a (sR (b :: r))=M
    have h3:max a (sR (b :: r))≤M:=h2
    rcases List.mem_cons.mp h with rfl | q
    · omega
    · have:=hb M q;omega
noncomputable def xr:List D→Option U
 | [.lst ds]=>(nK ds).bind fun bs=>if bs=[] then none else some (.t (.int (sR bs)))
 | _=>none
noncomputable def Sa:List D→Option U
 | [.lst ds]=>(nK ds).bind fun bs=>if bs=[] then none else some (.t (.int (Ot bs)))
 | _=>none
theorem Jf {α:Type}{p:Prop} [Decidable p] {x y:α}(h:(if p then none else some x)=some y):¬p∧x=y:=by
 by_cases c:p
 ·rw[if_pos c] at h;cases h
 ·rw[if_neg c] at h;exact⟨c,Option.some.inj h⟩
section
variable {X:Cx}
theorem DB (hc:X.calm=true):gY X (.builtin "max") (rP xr):=by
 intro pins s σ H xs us Q I r ⟨F,ds,w,sb,rs,hw,q⟩
 obtain⟨x,d,rfl,rfl,r1⟩:=rD (P:=fun _=>True) rs hw rfl (fun d _ _=>by cases d <;> rfl)
 cases d <;> try (simp[xr] at hw;done)
 rename_i ds
 obtain⟨bs,h1,hw⟩:=az (show(nK ds).bind _=some w from hw)
 obtain⟨hne,rfl⟩:=Jf hw
 obtain⟨a,vs,rfl,fa,ha,uR⟩:=sb.jF r1
 obtain rfl:=sQ uR h1
 obtain⟨u,rfl,ru⟩:=vals1 r
 cases ru
 obtain⟨its,rv,pl,hz⟩:=I.list (.inl ha)
 have hi:IntsAre its.toArray.toList bs:=intsAre_of rv
 obtain⟨ys,e⟩:=hi.allInts.items
 have hns:bs=ys.toList.map (·.1):=by rw[←hi.numsOf,←nums_intItems,←e]
 have hb:0 < bs.length:=by cases bs with | nil=>exact absurd rfl hne | cons _ _=>simp
 have hsz:0 < ys.size:=by
  have h3:=hb;rw[hns,List.length_map,Array.length_toList] at h3;exact h3
 have hl:=pl.isList
 have e':its.toArray=intItems ys:=by rw[←e]
 rw[e'] at hl
 refine max_intList (I.ok.hd hc) hl hsz fun v h' tk hv hk=>?_
 obtain⟨t,rfl⟩:=intItems_at hv
 obtain⟨k1,k2⟩:=argBest_gt (numAt ys) (ys.size - 1)
 have em:sR bs=numAt ys (argBest (fun i j=>decide (numAt ys i > numAt ys j)) (ys.size - 1)):=by
  refine LG ?_ fun a ha=>?_
  ·rw[hns,numAt_eq];exact getD_mem (by rw[List.length_map,Array.length_toList];omega)
  ·rw[hns] at ha
   obtain⟨j,hj,rfl⟩:=mem_getD ha
   rw[List.length_map,Array.length_toList] at hj
   rw[←numAt_eq];exact k2 j (by omega)
 rw[←em]
 exact⟨.int _,H,I.kept (t':=tk) hk,⟨t,rfl⟩,q _ F H (iO.refl ..) sb (.int _)⟩
end
@[simp] theorem Vc (ds:List D):xr [.lst ds]=(nK ds).bind fun bs=>if bs=[] then none else some (.t (.int (sR bs))):=rfl
@[simp] theorem Vd (ds:List D):Sa [.lst ds]=(nK ds).bind fun bs=>if bs=[] then none else some (.t (.int (Ot bs))):=rfl
end L2
namespace HT
open PySem PySem.Spec PyProof.Rows
section
variable {prog:Program}{w:World}{A:Around}{E:Value→Shared→Prop}{s:Shared}
theorem sC {h h':Heap}{a l:Addr}{items:Array Value}(hl:h.IsList l items) (e:Heap.ExtBut a h h') (hne:l≠a):h'.IsList l items:=by
 obtain⟨o,ho,hc⟩:=hl
 exact⟨o,e l o hne ho,hc⟩
theorem zO {it t:Addr}{items:Array Value}(hne:t≠it):∀(n i:Nat) (s:Shared) (Q:List Value→Shared→Prop),s.heap.IsListIter it t i→s.heap.IsList t items→i+n≤items.size→
  (∀h',h'.IsListIter it t (i+n)→Heap.SameBut it s.heap h'→Q ((items.toList.drop i).take n) {s with heap:=h'})→wpAny (model prog w) A (draw (.ref it) n) Q E s
 | 0,i,s,Q,hit,_,_,hQ=>by
  show wpAny _ _ (pure []) Q E s
  exact wpAny_pure (by simpa using hQ s.heap hit (Heap.SameBut.refl ..))
 | n+1,i,s,Q,hit,ht,hle,hQ=>by
  have hlt:i < items.size:=by omega
  show wpAny _ _ (pyNext (.ref it) >>= _) Q E s
  refine wpAny_bind (wpAny_pyNext_list_item hit ht (x:=items[i]) (by simp[hlt]) fun h₁ DC hs₁=>?_)
  refine wpAny_bind (wpAny_holding (zO hne n (i+1) _ _ DC (sC ht hs₁.extBut hne) (by omega) fun h₂ Ou hs₂=>wpAny_pure ?_))
  have hd:items.toList.drop i=items[i] :: items.toList.drop (i+1):=by simp[List.drop_eq_getElem_cons,hlt]
  have:=hQ h₂ (by rw[show i+(n+1)=i+1+n by omega];exact Ou) (hs₁.trans hs₂)
  rw[hd,List.take_succ_cons] at this
  exact this
theorem uY {t:Addr}{items:Array Value}{Q:List Value→Shared→Prop}(hh:A.handled=none) (ht:s.heap.IsList t items)
  (hQ:∀h',Heap.ExtBut s.heap.objs.size s.heap h'→Q items.toList {s with heap:=h'}):wpAny (model prog w) A (unpackItems (.ref t) items.size none) Q E s:=by
 have hlt:t≠s.heap.objs.size:=by obtain⟨o,ho,_⟩:=ht;exact Nat.ne_of_lt (Heap.lt_size ho)
 unfold unpackItems
 refine wpAny_bind ?_
 ·unfold notIterableAtAll
  refine wpAny_bind (wpAny_specialOf ht.typeIs F.slot_list_iter.lookup ?_)
  refine wpAny_pure ?_
  simp only[Bool.false_eq_true,if_false]
  refine wpAny_bind (wpAny_holding (wpAny_pyIter_list ht ?_))
  refine wpAny_bind (wpAny_holding (zO hlt items.size 0 _ _ ⟨_,Heap.get?_push_size _ rfl,rfl,rfl⟩ (ht.push _) (by omega) fun h₁ DC hs₁=>?_))
  have hall:List.take items.size (List.drop 0 items.toList)=items.toList:=by
   rw[List.drop_zero];exact List.take_of_length_le (by simp)
  rw[hall]
  rw[if_neg (by simp)]
  have ht₁:h₁.IsList t items:=sC (ht.push _) hs₁.extBut hlt
  refine wpAny_bind (wpAny_holding (wpAny_pyNext_list_end hh DC ht₁ (by simp) fun h₂ Se=>?_))
  simp only[Option.isSome_none,Bool.false_eq_true,if_false]
  refine wpAny_pure (hQ h₂ fun b o hb e=>Se b o hb (hs₁.extBut b o hb (Heap.get?_push_of_some _ e)))
theorem uq {env:Env}{elts:List Expr} {x1}{pos:Pos}{t:Addr}{items:Array Value}{Q:Unit→Shared→Prop}(hh:A.handled=none) (ht:s.heap.IsList t items)
  (hn:(assignEach elts env).length=items.size) (hstar:(assignEach elts env).findIdx? (·.1)=none)
  (h:∀h',Heap.ExtBut s.heap.objs.size s.heap h'→wpAny (model prog w) A (assignInOrder ((assignEach elts env).map (·.2)) items.toList) Q E {s with heap:=h'}):
  wpAny (model prog w) A (assign (.Tuple elts x1 pos) env (.ref t)) Q E s:=by
 rw[assign_Tuple]
 refine wpAny_bind (wpAny_standAt ?_)
 unfold unpack
 rw[hn,hstar]
 exact wpAny_bind (wpAny_holding (uY hh ht h))
end
end HT
namespace L2
open PySem PySem.Spec PyProof.Rows
section
variable {X:Cx}{pos:Pos}
noncomputable def Xw (K:PySem.W.Frag) (n:Nat) (t:KU):TG:=fun v σ H Q=>∃a xs,v= .ref a∧qZ K H a xs∧xs.length=n∧t xs σ H Q
theorem Ov {es:List Expr}{k:Nat}{t:KU}{n:Nat}(hc:X.calm=true) (h:MD X es t)
  (hn:(assignEach es X.env).length=n:=by rfl) (hst:(assignEach es X.env).findIdx? (·.1)=none:=by rfl):PG X (.Tuple es k pos) (Xw X.K n t):=by
 intro pins s σ H v u Q I r hw
 obtain⟨a,xs,e1,hq,hl,hw⟩:=hw
 subst e1
 cases r
 obtain⟨its,rv,ht,hz⟩:=I.list hq
 refine HT.uq (I.ok.hd hc) ht.isList (by simp[hn,←hl,rv.length]) hst fun h' hx=>?_
 have I1:Inv X pins σ H {s with heap:=h'}:=I.kept (t':=s.toks) fun b o e=>hx b o (Nat.ne_of_lt (Heap.lt_size e)) e
 exact h pins _ σ H xs _ Q I1 (by simpa using rv) hw
noncomputable def LH (n:Nat) (bs:HE):GB:=fun d S=>match d with
 | .lst ds=>if ds.length=n then bs ds S else none
 | _=>none
theorem Ow {IM:List Expr}{k0:Nat}{Rw:HE}{n:Nat}(hc:X.calm=true) (h:U6 X IM Rw) (hn:(assignEach IM X.env).length=n:=by rfl) (hst:(assignEach IM X.env).findIdx? (·.1)=none:=by rfl):JG X (.Tuple IM k0 pos) (LH n Rw):=
 ⟨fun B=>(Ov hc (h.h B) hn hst).imp fun v σ H Q ⟨S,F,d,S',R,r,h,k⟩=>by
 cases d <;> try (cases h)
 rename_i ds
 unfold LH at h
 dsimp only at h
 split at h
 ·rename_i hl
  obtain⟨a,vs,rfl,fa,ha,rs⟩:=R.sub.jF r
  exact⟨a,vs,rfl,.inl ha,by rw[rs.length];exact hl,S,F,ds,S',R,rs,h,k⟩
 ·cases h⟩
end
@[simp] theorem Xx (n:Nat) (bs:HE) (ds:List D) (S:SS):LH n bs (.lst ds) S=if ds.length=n then bs ds S else none:=rfl
noncomputable def qo:List D→Option U
 | [.bl a,.bl b]=>some (.t (.bl (a == b)))
 | _=>none
theorem xu {X:Cx}:wW X (compareOp .Is) qo:=by
 intro pins s σ H x y v u Q I rx ry ⟨F,ds,w,sb,rs,hw,q⟩
 obtain⟨d,e,rfl,r1,r2⟩:=tY rs
 cases d <;> cases e <;> try (simp[qo] at hw;done)
 cases hw
 rw[jG r1] at rx
 rw[jG r2] at ry
 cases rx
 cases ry
 exact is_bool ⟨.bl _,H,I,rfl,q _ F H (iO.refl ..) sb (.bl _)⟩
@[simp] theorem Ve (a b:Bool):qo [.bl a,.bl b]=some (.t (.bl (a == b))):=rfl
end L2
end
section
set_option Elab.async false
set_option linter.all false
set_option maxRecDepth 100000
namespace L2
open PySem PySem.Spec PyProof.Rows
section
variable (S:SS) (d e:D) (o:MO) (i j:Nat) (g ga gb gc:GD) (ge:GE) (q q1 q2:GT) (gA:GA) (gu:GU) (a b:GS) (f f':List D→Option U) (fm:FM) (bd:GB) (gi:GI)
@[simp] theorem Xy:aq i S=match S[i]? with | some (some (.t d))=>some (.t d,S) | some (some (.s d))=>some (.s d,S) | some (some _)=>some (.v i,S) | _=>none:=rfl
@[simp] theorem ae3:eC d S=some (d,S):=rfl
@[simp] theorem Xz:ak S=some ([],S):=rfl
@[simp] theorem Vf:aa g gA S=(g S).bind fun p=>(gA p.2).map fun q=>(p.1 :: q.1,q.2):=rfl
@[simp] theorem ae4:eP f gA S=(gA S).bind fun p=>(f p.1).map fun u=>(u,p.2):=rfl
@[simp] theorem ae5:eF ge S=(ge S).bind fun p=>fz p.1 p.2:=rfl
@[simp] theorem ae6:eT g S=(g S).map fun p=>(.t p.1,p.2):=rfl
@[simp] theorem XA:fz (.t d) S=some (d,S):=rfl
@[simp] theorem XC (ds:List D):fz (.m (.lst ds)) S=some (.lst ds,S):=rfl
@[simp] theorem XD:fz (.v i) S=match S[i]? with | some (some (.t d))=>some (d,S) | some (some (.m (.lst ds)))=>some (.lst ds,S.set i (some (.t (.lst ds)))) | _=>none:=rfl
@[simp] theorem ae7:qB g S=(g S).bind fun p=>match p.1 with | .bl k=>some (k,p.2) | _=>none:=rfl
@[simp] theorem XE:gM q S=(q S).map fun p=>(!p.1,p.2):=rfl
@[simp] theorem XF:gC q1 q2 S=(q1 S).bind fun p=>if p.1 then q2 p.2 else some (false,p.2):=rfl
@[simp] theorem ac3:oH q1 q2 S=(q1 S).bind fun p=>if p.1 then some (true,p.2) else q2 p.2:=rfl
@[simp] theorem ae8:eQ q S=(q S).map fun p=>(.bl p.1,p.2):=rfl
@[simp] theorem Vg:dP S=some (true,S):=rfl
@[simp] theorem ac4:Rt f f' ga gb gc S=(ga S).bind fun p=>(gb p.2).bind fun q=>match f [p.1,q.1] with
 | some (.t (.bl k))=>if k then(gc q.2).bind fun r=>match f' [q.1,r.1] with
   | some (.t (.bl k'))=>some (.bl k',r.2)
   | _=>none
  else some (.bl false,q.2)
 | _=>none:=rfl
@[simp] theorem ac5 (g1 g2:GE):PM q g1 g2 S=(q S).bind fun p=>if p.1 then g1 p.2 else g2 p.2:=rfl
@[simp] theorem XG:cS S=some (.nx S):=rfl
@[simp] theorem bA:aJ a b S=(a S).bind fun o=>match o with | .nx S1=>b S1 | o=>some o:=rfl
@[simp] theorem XH:bH i ge S=(ge S).bind fun p=>match p.1 with | .m o=>(rW i (.m o) p.2).map .nx | u=>(fz u p.2).bind fun q=>(rW i (.t q.1) q.2).map .nx:=rfl
@[simp] theorem fX (u:U):rW i u S=match S[i]? with | some (some (.b _))=>none | some _=>some (S.set i (some u)) | none=>none:=rfl
@[simp] theorem Vh:sA ge S=(ge S).map fun p=>.nx p.2:=rfl
@[simp] theorem XI:bR ge S=(ge S).bind fun p=>match p.1 with
 | .v i=>match p.2[i]? with
  | some (some (.t d))=>some (.rt (.t d) p.2)
  | some (some (.m o))=>some (.rt (.m o) (p.2.set i none))
  | _=>none
 | .s _=>none
 | u=>some (.rt u p.2):=rfl
@[simp] theorem Vi:Rv S=some (.rt (.t .cW) S):=rfl
@[simp] theorem ac6:gQ q a b S=(q S).bind fun p=>if p.1 then a p.2 else b p.2:=rfl
@[simp] theorem XJ:N8 bd g S=(g S).bind fun p=>(bd p.1 p.2).map .nx:=rfl
@[simp] theorem Vj:bName i d S=rW i (.t d) S:=rfl
@[simp] theorem XM:iF bd gi a S=(gi S).bind fun p=>loop bd a p.1 p.2:=rfl
@[simp] theorem XN:Xa g S=(g S).bind fun p=>match p.1 with | .tup ds=>some (ds,p.2) | .lst ds=>some (ds,p.2) | _=>none:=rfl
@[simp] theorem Vk:jJ gA S=(gA S).bind fun p=>match p.1 with | [.int j]=>if j < 1000000∧-1000000 < j then some (jZ 0 j.toNat,p.2) else none | _=>none:=rfl
@[simp] theorem Vl:Rx gA S=(gA S).bind fun p=>match p.1 with | [.int i,.int j]=>if i < 1000000∧-1000000 < i∧j < 1000000∧-1000000 < j then some (jZ i (j - i).toNat,p.2) else none | _=>none:=rfl
@[simp] theorem Ox:loop bd a [] S=some (.nx S):=rfl
@[simp] theorem XO:br S=some ([],S):=rfl
@[simp] theorem XQ:aP g gu S=(g S).bind fun p=>(gu p.2).map fun q=>(.t p.1 :: q.1,q.2):=rfl
@[simp] theorem XR:cy ge gu S=(ge S).bind fun p=>(gu p.2).map fun q=>(p.1 :: q.1,q.2):=rfl
@[simp] theorem Vm:aL fm gu S=(gu S).bind fun p=>if(slotsOf p.1).Nodup∧eu p.1≤1 then(dU p.2 p.1).bind fun us=>(fm us).bind fun r=>(wb p.1 r.2 p.2).map fun S2=>(r.1,S2) else none:=rfl
@[simp] theorem P0:dU S []=some []:=rfl
@[simp] theorem Oz (u:U) (us:List U):dU S (u :: us)=(resolve S u).bind fun w=>(dU S us).map fun ws=>w :: ws:=rfl
@[simp] theorem Vn:resolve S (.t d)=some (.t d):=rfl
@[simp] theorem Vo:resolve S (.m o)=some (.b o):=rfl
@[simp] theorem Vp (ns:List Int):resolve S (.s ns)=some (.s ns):=rfl
@[simp] theorem Vq:resolve S (.v i)=match S[i]? with | some (some (.m o))=>some (.b o) | some (some (.b o))=>some (.b o) | _=>none:=rfl
@[simp] theorem Sg:slotsOf []=[]:=rfl
@[simp] theorem XS (us:List U):slotsOf (.t d :: us)=slotsOf us:=rfl
@[simp] theorem XT (us:List U):slotsOf (.m o :: us)=slotsOf us:=rfl
@[simp] theorem XU (ns:List Int) (us:List U):slotsOf (.s ns :: us)=slotsOf us:=rfl
@[simp] theorem XW (us:List U):slotsOf (.v i :: us)=i :: slotsOf us:=rfl
@[simp] theorem Sh:eu []=0:=rfl
@[simp] theorem XY (us:List U):eu (.t d :: us)=eu us:=rfl
@[simp] theorem XZ (us:List U):eu (.m o :: us)=eu us+1:=rfl
@[simp] theorem X0 (ns:List Int) (us:List U):eu (.s ns :: us)=eu us:=rfl
@[simp] theorem X3 (us:List U):eu (.v i :: us)=eu us:=rfl
@[simp] theorem Si:wb [] [] S=some S:=rfl
@[simp] theorem X4 (us:List U) (os:List MO):wb (.t d :: us) os S=wb us os S:=by cases os <;> rfl
@[simp] theorem X5 (ns:List Int) (us:List U) (os:List MO):wb (.s ns :: us) os S=wb us os S:=by cases os <;> rfl
@[simp] theorem X6 (us:List U) (os:List MO):wb (.m o :: us) (o' :: os) S=wb us os S:=rfl
@[simp] theorem X7 (us:List U) (os:List MO):wb (.v i :: us) (o :: os) S=match S[i]? with | some (some (.m _))=>wb us os (S.set i (some (.m o))) | some (some (.b _))=>wb us os (S.set i (some (.b o))) | _=>none:=rfl
@[simp] theorem X8:bC i gb S=match S[i]? with | some (some _)=>(gb S).bind fun p=>(match p.2[i]? with | some (some u)=>(ug u p.1).map fun d=>(d,p.2) | _=>none) | _=>none:=rfl
@[simp] theorem Yb:gn i S=match S[i]? with | some (some u)=>(Aw u).map fun n=>(.int (n:Nat),S) | _=>none:=rfl
@[simp] theorem ae9 (h:List D→MO→Option (D×MO)):eM i h gA S=if RC S i then(gA S).bind fun p=>qc p.2 i (h p.1) else none:=rfl
@[simp] theorem Yc (gk gv:GD):sN i gk gv S=(gv S).bind fun p=>match p.2[i]? with | some (some _)=>(gk p.2).bind fun r=>(qc r.2 i fun o=>(xg o r.1 p.1).map fun o'=>(.cW,o')).map fun z=>.nx z.2 | _=>none:=rfl
@[simp] theorem ac7 (Ts:List String):rZ Ts g S=(g S).bind fun p=>(bV Ts p.1).map fun b=>(.bl b,p.2):=rfl
@[simp] theorem OA (ds:List D) (k:Int):ug (.t (.tup ds)) (.int k)=gZ ds k:=rfl
@[simp] theorem OB (ds:List D) (k:Int):ug (.t (.lst ds)) (.int k)=gZ ds k:=rfl
@[simp] theorem OC (ds:List D) (k:Int):ug (.m (.lst ds)) (.int k)=gZ ds k:=rfl
@[simp] theorem OD (ds:List D) (k:Int):ug (.b (.lst ds)) (.int k)=gZ ds k:=rfl
@[simp] theorem OE (kvs:List (Key×D)) (k:D):ug (.b (.dct kvs)) k=(keyOf k).bind (dh kvs):=by cases k <;> rfl
@[simp] theorem P1 (ns:List Int) (k:Int):ug (.s ns) (.int k)=(gZ ns k).map D.int:=rfl
@[simp] theorem Vr (k:Int):keyOf (.int k)=some (.inl k):=rfl
@[simp] theorem Vs (k:Str):keyOf (.str k)=some (.inr k):=rfl
@[simp] theorem P4 (ds:List D):Aw (.t (.tup ds))=some ds.length:=rfl
@[simp] theorem P5 (ds:List D):Aw (.t (.lst ds))=some ds.length:=rfl
@[simp] theorem P6 (ds:List D):Aw (.m (.lst ds))=some ds.length:=rfl
@[simp] theorem P7 (ds:List D):Aw (.b (.lst ds))=some ds.length:=rfl
@[simp] theorem Sj (ns:List Int):Aw (.s ns)=some ns.length:=rfl
@[simp] theorem ac8 (C:Int→Int→Bool) (h:Int→Int→D) (x y:Int):HD C h [.int x,.int y]=if C x y then some (.t (h x y)) else none:=rfl
@[simp] theorem Sk (x y:Int):cK [.int x,.int y]=some (.t (.int (x+y))):=rfl
@[simp] theorem Sl (x y:Str):cK [.str x,.str y]=if x.length+y.length≤100000 then some (.t (.str (x++y))) else none:=rfl
@[simp] theorem So (x y:List D):cK [.tup x,.tup y]=if x.length+y.length≤100000 then some (.t (.tup (x++y))) else none:=rfl
@[simp] theorem Su (x y:List D):cK [.lst x,.lst y]=if x.length+y.length≤100000 then some (.m (.lst (x++y))) else none:=rfl
@[simp] theorem Yd (x y:Int):mX [.int x,.int y]=if((decide (-(2 ^ 64) < x) && decide (x < 2 ^ 64)) || (decide (-(2 ^ 64) < y) && decide (y < 2 ^ 64))) then some (.t (.int (x * y))) else none:=rfl
@[simp] theorem Ye (x:Int):IL [.int x]=some (.t (.int (-x))):=rfl
@[simp] theorem Yg (ds:List D):bf ds=if ds.length≤100000 then some (.t (.tup ds)) else none:=rfl
@[simp] theorem Yh (ds:List D):dg ds=if ds.length≤100000 then some (.m (.lst ds)) else none:=rfl
@[simp] theorem Vt (ds:List D) (k:Int):zD [.tup ds,.int k]=(gZ ds k).map .t:=rfl
@[simp] theorem Vu (ds:List D) (k:Int):zD [.lst ds,.int k]=(gZ ds k).map .t:=rfl
@[simp] theorem Sv:pS [d,e]=if bZ d≤40 then some (.t (.bl (jC d e))) else none:=rfl
@[simp] theorem ac9:Bt [d,e]=if bZ d≤40 then some (.t (.bl (!jC d e))) else none:=rfl
@[simp] theorem Vv (x y z:Int):RH [.int x,.int y,.int z]=some (.t (.int (if y < x then(if z < y then z else y) else if z < x then z else x))):=rfl
@[simp] theorem Vw (x y:Int):RI [.int x,.int y]=some (.t (.int (if y > x then y else x))):=rfl
@[simp] theorem Sx (ds:List D):Ar [.tup ds]=some (.t (.int ds.length)):=rfl
@[simp] theorem Sy (ds:List D):Ar [.lst ds]=some (.t (.int ds.length)):=rfl
@[simp] theorem P8 (ds:List D):pM [.tup ds]=some (.m (.lst ds)):=rfl
@[simp] theorem P9 (ds:List D):pM [.lst ds]=some (.m (.lst ds)):=rfl
@[simp] theorem OF (ds:List D):lU [.tup ds]=some (.t (.tup ds)):=rfl
@[simp] theorem OG (ds:List D):lU [.lst ds]=some (.t (.tup ds)):=rfl
@[simp] theorem Yi (ds:List D):Dt [.lst ds]=(lz ds).map fun bs=>.t (.bl (bs.all id)):=rfl
@[simp] theorem Yj (ds:List D):Xi [.lst ds]=(lz ds).map fun bs=>.t (.bl (bs.any id)):=rfl
@[simp] theorem LI:BY [d]=if EX d then some (.t (.str (toPy d).shown)) else none:=rfl
@[simp] theorem wF (x y:Str):jC (.str x) (.str y)=(x == y):=by simp[jC]
@[simp] theorem Vx (x y:Int):jC (.int x) (.int y)=(x == y):=by simp[jC]
@[simp] theorem Vy (x:Str):bZ (.str x)=0:=by simp[bZ]
@[simp] theorem Vz (x:Int):bZ (.int x)=0:=by simp[bZ]
@[simp] theorem Yk (h:MO→Option (D×MO)):qc S i h=match S[i]? with | some (some (.m o))=>(h o).map fun r=>(r.1,S.set i (some (.m r.2))) | some (some (.b o))=>(h o).map fun r=>(r.1,S.set i (some (.b r.2))) | _=>none:=rfl
@[simp] theorem ada:RC S i=match S[i]? with | some (some (.m (.lst _)))=>true | some (some (.b (.lst _)))=>true | _=>false:=rfl
@[simp] theorem Qa (kvs:List (Key×D)) (k:D):xg (.dct kvs) k d=(keyOf k).bind fun kk=>if kvs.length < 100000 then some (.dct (putD kvs kk d)) else none:=rfl
@[simp] theorem Qc (ds:List D) (k:Int):xg (.lst ds) (.int k) d=(Di ds.length k).map fun j=>.lst (ds.set j d):=rfl
@[simp] theorem Sz (ds:List D):hAppend [d] (.lst ds)=if ds.length < 100000 then some (.cW,.lst (ds++[d])) else none:=rfl
@[simp] theorem Qd:aE [] S=some []:=by cases S <;> rfl
@[simp] theorem VA (us:List U) (o2:MO):aE (.b o2 :: us) (some (.b o) :: S)=(aE us S).map fun os=>o :: os:=rfl
@[simp] theorem E1 (us:List U) (x:Option U):aE (.t d :: us) (x :: S)=aE us S:=by cases x <;> rfl
end
structure qp where
 c:Int
 l:Int
 n:Int
noncomputable def jM (t:qp):List (Key×D):=[(.inr "cell",.int t.c),(.inr "left",.int t.l),(.inr "turn",.int t.n)]
noncomputable def AE:List (Key×D)→Option qp
 | [(k1,.int c),(k2,.int l),(k3,.int n)]=>if k1= .inr "cell"∧k2= .inr "left"∧k3= .inr "turn" then some ⟨c,l,n⟩ else none
 | _=>none
theorem B7 {kvs:List (Key×D)}{t:qp}(h:AE kvs=some t):kvs=jM t:=by
 unfold AE at h
 split at h
 ·obtain⟨⟨rfl,rfl,rfl⟩,rfl⟩:=cX h
  rfl
 ·cases h
@[simp] theorem Yl (t:qp):dh (jM t) (.inr "cell")=some (.int t.c):=by rfl
@[simp] theorem Ym (t:qp):dh (jM t) (.inr "left")=some (.int t.l):=by rfl
@[simp] theorem Yn (t:qp):dh (jM t) (.inr "turn")=some (.int t.n):=by rfl
@[simp] theorem VB (t:qp) (x:Int):putD (jM t) (.inr "turn") (.int x)=jM {t with n:=x}:=by rfl
@[simp] theorem VC (t:qp) (x:Int):putD (jM t) (.inr "left") (.int x)=jM {t with l:=x}:=by rfl
@[simp] theorem SA (t:qp):(jM t).length=3:=rfl
noncomputable def mixed (c n:Int):Int:=(((c % 2147483647+31 * (n+1) * (n+1)+1) * 48271) % 2147483629+7 * (n+1)) * 69621 % 2147483587 / 7
noncomputable def jN (t:qp) (m:Int):Int:=if 0 < t.l then t.l % m else mixed t.c t.n % m
noncomputable def eV (t:qp) (m:Int):qp:=if 0 < t.l then⟨t.c,t.l / m,t.n+1⟩ else⟨t.c,t.l,t.n+1⟩
noncomputable def MY:FM
 | [.b (.dct kvs),.t (.int m)]=>(AE kvs).bind fun t=>if 0 < m∧m < 1000000∧0≤t.n∧t.n < 1000000 then some (.t (.int (jN t m)),[.dct (jM (eV t m))]) else none
 | _=>none
noncomputable def qu:GS:=
 (aJ (bH 2 (eP cK (aa (bC 0 (eC (.str "turn"))) (aa (eC (.int 1)) ak))))
 (aJ (sN 0 (eC (.str "turn")) (eF (aq 2)))
 (aJ (gQ (qB (eF (eP Dp (aa (bC 0 (eC (.str "left"))) (aa (eC (.int 0)) ak))))) (aJ (bH 3 (eP nD (aa (bC 0 (eC (.str "left"))) (aa (eF (aq 1)) ak))))
 (aJ (sN 0 (eC (.str "left")) (eF (eP FT (aa (bC 0 (eC (.str "left"))) (aa (eF (aq 1)) ak)))))
 (bR (aq 3)))) cS)
 (aJ (bH 4 (eP mX (aa (eF (eP cK (aa (eF (eP cK (aa (eF (eP nD (aa (bC 0 (eC (.str "cell"))) (aa (eC (.int 2147483647)) ak)))) (aa (eF (eP mX (aa (eF (eP mX (aa (eC (.int 31)) (aa (eF (aq 2)) ak)))) (aa (eF (aq 2)) ak)))) ak)))) (aa (eC (.int 1)) ak)))) (aa (eC (.int 48271)) ak))))
 (aJ (bH 4 (eP mX (aa (eF (eP cK (aa (eF (eP nD (aa (eF (aq 4)) (aa (eC (.int 2147483629)) ak)))) (aa (eF (eP mX (aa (eC (.int 7)) (aa (eF (aq 2)) ak)))) ak)))) (aa (eC (.int 69621)) ak))))
 (bR (eP nD (aa (eF (eP FT (aa (eF (eP nD (aa (eF (aq 4)) (aa (eC (.int 2147483587)) ak)))) (aa (eC (.int 7)) ak)))) (aa (eF (aq 1)) ak)))))))))
theorem pick_run:∀us r,MY us=some r→aQ 5 qu us=some r:=by
 intro us r h
 unfold MY at h
 split at h
 ·rename_i kvs m
  obtain⟨t,h1,h⟩:=az h
  obtain⟨⟨h2,h3,h4,h5⟩,rfl⟩:=cX h
  obtain rfl:=B7 h1
  have e1:-18446744073709551616 < t.n+1:=by omega
  have e2:t.n+1 < 18446744073709551616:=by omega
  have e3:m < 1073741824:=by omega
  by_cases hl:0 < t.l
  ·simp[aQ,qu,jN,eV,hl,h2,e3]
  ·simp[aQ,qu,jN,eV,hl,h2,e3,mixed,e1,e2]
 ·cases h
end L2
end
section
set_option Elab.async false
set_option linter.all false
set_option maxRecDepth 100000
namespace L2
open PySem PySem.Spec PyProof.Rows
noncomputable def oO:GS:=
 (aJ (gQ (oH (gM (qB (rZ ["int"] (eF (aq 0))))) (qB (rZ ["bool"] (eF (aq 0))))) (bR (eT (eC (.bl false)))) cS)
 (bR (eT (eQ (gC (qB (eF (eP IK (aa (eF (aq 1)) (aa (eF (aq 0)) ak))))) (qB (eF (eP IK (aa (eF (aq 0)) (aa (eF (aq 2)) ak))))))))))
noncomputable def qw:FM
 | [.t d,.t (.int l),.t (.int m)]=>some (.t (.bl (gP d l m)),[])
 | _=>none
theorem whole_run:∀us r,qw us=some r→aQ 3 oO us=some r:=by
 intro us r h
 unfold qw at h
 split at h
 ·rename_i d l m
  cases h
  cases d <;> simp[aQ,oO,gP,bV,dj,Ao,p6]
  rename_i x
  by_cases h1:l≤x <;> simp[h1]
 ·cases h
noncomputable def oR:GS:=
 (bR (eT (eQ (gC (qB (rZ ["tuple"] (eF (aq 0)))) (gC (qB (eF (eP IK (aa (eF (aq 1)) (aa (gn 0) ak))))) (qB (eF (eP IK (aa (gn 0) (aa (eF (aq 2)) ak))))))))))
noncomputable def mZ:FM
 | [.t d,.t (.int l),.t (.int m)]=>some (.t (.bl (fT d l m)),[])
 | _=>none
theorem Gj:∀us r,mZ us=some r→aQ 3 oR us=some r:=by
 intro us r h
 unfold mZ at h
 split at h
 ·rename_i d l m
  cases h
  cases d <;> simp[aQ,oR,fT,bV,dj,bU]
  rename_i x
  by_cases h1:l≤(x.length:Int) <;> simp[h1]
 ·cases h
noncomputable def pN:GS:=
 (bR (eT (eQ (gC (qB (rZ ["int"] (eF (aq 0)))) (gC (qB (eQ (gM (qB (rZ ["bool"] (eF (aq 0))))))) (qB (Rt IK IK (eC (.int 0)) (eF (aq 0)) (eF (aq 1)))))))))
noncomputable def iU:FM
 | [.t d,.t (.int m)]=>some (.t (.bl (gP d 0 m)),[])
 | _=>none
theorem B8:∀us r,iU us=some r→aQ 2 pN us=some r:=by
 intro us r h
 unfold iU at h
 split at h
 ·rename_i d m
  cases h
  cases d <;> simp[aQ,pN,gP,bV,dj,Ao,p6]
  rename_i x
  by_cases h1:(0:Int)≤x <;> simp[h1]
 ·cases h
end L2
end
section
set_option Elab.async false
set_option linter.all false
set_option maxRecDepth 100000
namespace Sw
open PySem PySem.Spec PyProof.Rows L2
end Sw
end
section
set_option Elab.async false
set_option linter.all false
set_option maxRecDepth 100000
namespace Sw
open PySem PySem.Spec PyProof.Rows L2
end Sw
end
section
set_option Elab.async false
set_option linter.all false
set_option maxRecDepth 100000
namespace Sw
open PySem PySem.Spec PyProof.Rows L2
noncomputable def Yo:List D:=[.cW,.bl true,.bl false,.int 0,.int (-1),.int 6,.int 10000000000000000000,.str "",.str "A",.str "a.b",.str "a1",.str "ninesigns",.tup [],.lst [],.tup [.str "a"],.lst [.str "a",.int 0],.tup [.str "a",.int 0]]
noncomputable def LJ (t:qp):D:=Yo.getD (jN t 17).toNat .cW
noncomputable def AF (t:qp) (d:D):D×qp:=
 match d with
 | .tup ds=>if jN t 8 < 5 then
   (([.tup (cutD ds none (some (jN (eV t 8) (ds.length+1)))),.tup (ds++cutD ds (some (jN (eV t 8) (ds.length+1))) none),.tup (cutD ds none (some (jN (eV t 8) (ds.length+1)))++cutD ds (some (jN (eV t 8) (ds.length+1)+1)) none),.lst ds,.tup (ds++[.tup ds])]:List D).getD (jN t 8).toNat .cW,eV (eV t 8) (ds.length+1))
  else(LJ (eV t 8),eV (eV t 8) 17)
 | .int i=>if gP (.int i) 0 100000000000000000000=true∧jN t 8 < 5 then(([.int (i+1),.int (i - 1),.int 5,.int 9,.int 10]:List D).getD (jN t 8).toNat .cW,eV t 8) else(LJ (eV t 8),eV (eV t 8) 17)
 | .str z=>if jN t 8 < 6 then(([.str (z++("a":Str)),.str (Txt.slice z (some 1) none),.str (z++("A":Str)),.str "x",.str "now",.str "less"]:List D).getD (jN t 8).toNat .cW,eV t 8) else(LJ (eV t 8),eV (eV t 8) 17)
 | _=>(LJ (eV t 8),eV (eV t 8) 17)
noncomputable def E2:Nat→qp→D→D×qp
  | k + 1, t, .tup ds => if ds.length = 0 then AF t (.tup ds) else if 0 < jN t 4 then
      (.tup (cutD ds none (some (jN (eV t 4) ds.length))++[(E2 k (eV (eV t 4) ds.length) (ds.getD (jN (eV t 4) ds.length).toNat .cW)).1]++cutD ds (some (jN (eV t 4) ds.length+1)) none),(E2 k (eV (eV t 4) ds.length) (ds.getD (jN (eV t 4) ds.length).toNat .cW)).2)
    else AF (eV t 4) (.tup ds)
  | _,t,d=>AF t d
open Classical in
noncomputable def Yp (j:Nat):FM
 | [.b (.dct kvs),.t d,.t (.int k)]=>(AE kvs).bind fun t=>if 0≤k∧k < j∧sr 5000 d∧0≤t.n∧t.n+2 * k < 600000 then some (.t (E2 k.toNat t d).1,[.dct (jM (E2 k.toNat t d).2)]) else none
 | _=>none
@[simp] theorem SD (g:GD) (lo hi:Option GD) (S:SS):yF g lo hi S=(g S).bind fun p=>(nJ lo p.2).bind fun l=>(nJ hi l.2).bind fun h=>(Lu p.1 l.1 h.1).map fun u=>(u,h.2):=rfl
@[simp] theorem Yq (S:SS):nJ none S=some (none,S):=rfl
@[simp] theorem Yr (g:GD) (S:SS):nJ (some g) S=(g S).bind fun p=>match p.1 with | .int i=>some (some i,p.2) | _=>none:=rfl
@[simp] theorem LK (ds:List D) (lo hi:Option Int):Lu (.tup ds) lo hi=some (.t (.tup (cutD ds lo hi))):=rfl
@[simp] theorem LL (ds:List D) (lo hi:Option Int):Lu (.lst ds) lo hi=some (.m (.lst (cutD ds lo hi))):=rfl
@[simp] theorem VD (z:Str) (lo hi:Option Int):Lu (.str z) lo hi=if z.length≤100000 then some (.t (.str (Txt.slice z lo hi))) else none:=rfl
theorem Fits.mem {n:Nat}:∀{ds:List D}{d:D},Fits n ds→d∈ds→sr n d
 | _ :: _,_,h,m=>by
  rcases List.mem_cons.mp m with rfl | m
  ·exact h.1
  ·exact Fits.mem h.2 m
end Sw
end
section
set_option Elab.async false
set_option linter.all false
set_option maxRecDepth 100000
namespace Sw
open PySem PySem.Spec PyProof.Rows L2
theorem Jg:∀(ts:List D) (S:SS),S.length=ts.length→aE (ts.map U.t) S=some []
 | [],S,_=>by cases S <;> rfl
 | d :: ts,[],h=>by cases h
 | d :: ts,x :: S,h=>by
  show aE (U.t d :: ts.map U.t) (x :: S)=_
  rw[E1]
  exact Jg ts S (by simpa using h)
theorem MZ (S:SS):∀ts:List D,dU S (ts.map U.t)=some (ts.map U.t)
 | []=>rfl
 | d :: ts=>by
  show(some (U.t d)).bind _=_
  rw[MZ S ts]
  rfl
theorem SE:∀ts:List D,slotsOf (ts.map U.t)=[]
 | []=>rfl
 | d :: ts=>SE ts
theorem SG:∀ts:List D,eu (ts.map U.t)=0
 | []=>rfl
 | d :: ts=>SG ts
theorem OH (S:SS):∀ts:List D,wb (ts.map U.t) [] S=some S
 | []=>rfl
 | d :: ts=>OH S ts
theorem ur {cap:List Nat}{q:GT}{g:GD}{S:SS}{ts:List D}(hc:oM S cap=some (ts.map U.t)) (p:D→Bool) (f:D→D):∀(ds acc:List D),
    (∀d∈ds,q (some (.t d) :: ts.map fun x=>some (.t x))=some (p d,some (.t d) :: ts.map fun x=>some (.t x)))→(∀d∈ds,p d=true→g (some (.t d) :: ts.map fun x=>some (.t x))=some (f d,some (.t d) :: ts.map fun x=>some (.t x)))→
    gW cap q g ds S acc=some (acc++(ds.filter p).map f,S)
  | [],acc,_,_=>by simp[gW]
  | d :: ds, acc, hq, hg => by
    have em:(ts.map U.t).map some=ts.map fun x=>some (U.t x):=by simp
    have eo:aE (.t d :: ts.map U.t) (some (.t d) :: ts.map fun x=>some (.t x))=some []:=by rw[E1];exact Jg ts _ (by simp)
    have q0:=hq d (List.mem_cons_self)
    unfold gW
    rw[hc]
    simp only[Option.bind_some]
    rw[if_pos ⟨by rw[SE];exact List.nodup_nil,by rw[SG];exact Nat.zero_le _⟩,MZ]
    simp only[Option.bind_some]
    rw[em,q0]
    simp only[Option.bind_some]
    by_cases hp:p d=true
    · rw[if_pos hp,hg d List.mem_cons_self hp]
      simp only[Option.bind_some]
      rw[eo]
      simp only[Option.bind_some]
      rw[OH]
      simp only[Option.bind_some]
      rw[ur hc p f ds (acc++[f d]) (fun e he=>hq e (List.mem_cons_of_mem _ he)) (fun e he=>hg e (List.mem_cons_of_mem _ he)),List.filter_cons_of_pos hp]
      simp
    · rw[if_neg hp,eo]
      simp only[Option.bind_some]
      rw[OH]
      simp only[Option.bind_some]
      rw[ur hc p f ds acc (fun e he=>hq e (List.mem_cons_of_mem _ he)) (fun e he=>hg e (List.mem_cons_of_mem _ he)),List.filter_cons_of_neg hp]
theorem jm {cap:List Nat}{g:GD}{S:SS}{ts:List D}(hc:oM S cap=some (ts.map U.t)) (f:D→D) (ds acc:List D) (hg:∀d∈ds,g (some (.t d) :: ts.map fun x=>some (.t x))=some (f d,some (.t d) :: ts.map fun x=>some (.t x))):
  gW cap dP g ds S acc=some (acc++ds.map f,S):=by
 rw[ur hc (fun _=>true) f ds acc (fun _ _=>rfl) (fun d hd _=>hg d hd),List.filter_eq_self.mpr (fun _ _=>rfl)]
@[simp] theorem VE (cap:List Nat) (gi:GI) (q:GT) (g:GD) (S:SS):fB cap gi q g S=(gi S).bind fun p=>if p.1.length≤100000 then(gW cap q g p.1 p.2 []).map fun r=>(.m (.lst r.1),r.2) else none:=rfl
theorem j3 (g:GD) (S:SS):iT g S=(g S).bind fun p=>match p.1 with | .tup ds=>some (ds,p.2) | .lst ds=>some (ds,p.2) | .str z=>some (z.cps.toList.map fun c=>.str ⟨#[c]⟩,p.2) | _=>none:=rfl
theorem rJ {α:Type}(f:α→Bool):∀ds:List α,lz (ds.map fun d=>.bl (f d))=some (ds.map f)
 | []=>rfl
 | d :: ds=>by simp[lz,rJ f ds]
end Sw
end
section
set_option Elab.async false
set_option linter.all false
set_option maxRecDepth 100000
namespace Sw
open PySem PySem.Spec PyProof.Rows L2
theorem Gk {x:D}{z:Str}(h:jC (.str z) x=true):x= .str z:=by
 cases x <;> simp[jC] at h
 rw[h]
end Sw
end
section
set_option Elab.async false
set_option linter.all false
set_option maxRecDepth 100000
namespace Sw
open PySem PySem.Spec PyProof.Rows L2
mutual
noncomputable def Sane:D→Prop
 | .int i=>i.natAbs < 10 ^ 30
 | .str z=>∀c∈z.cps.toList,c < 16 ^ 8
 | .tup ds=>d9 ds
 | .lst ds=>d9 ds
 | .cW=>True
 | .bl _=>True
noncomputable def d9:List D→Prop
 | []=>True
 | d :: ds=>Sane d∧d9 ds
end
mutual
noncomputable def wD:D→Nat
 | .cW=>6
 | .bl _=>6
 | .int _=>40
 | .str z=>10 * z.length+2
 | .tup ds=>kN ds+4
 | .lst ds=>kN ds+4
noncomputable def kN:List D→Nat
 | []=>0
 | d :: ds=>wD d+2+kN ds
end
theorem Gm (s:String):(Str.ofString s).length=s.length:=PySem.ofString_length s
theorem E3:∀(ts:List Str) (k:Nat) (acc:Str),(textFrom k acc ts).length≤acc.length+piled ts
  | [],k,acc=>Nat.le_refl _
  | t :: ts, k, acc => by
    have ih:=E3 ts (k+1) (acc++(if k > 0 then ", " else "":String)++t)
    have e:(acc++(if k > 0 then ", " else "":String)++t).length≤acc.length+2+t.length:=by
      rw[strLen_append,strLen_append]
      split
      · show acc.length+2+t.length≤_;omega
      · show acc.length+0+t.length≤_;omega
    rw[piled_cons]
    show(textFrom (k+1) _ ts).length≤_
    omega
mutual
theorem shown_le:∀d:D,Sane d→(toPy d).shown.length≤wD d
 | .cW,_=>by show(Str.ofString "None").length≤6;decide
 | .bl b,_=>by cases b <;> (show(Str.ofString _).length≤6;decide)
 | .int i,h=>by
  show(Str.ofString (toString i)).length≤40
  rw[Gm]
  exact Nat.le_trans (int_text_length_le10 (k:=30) (by decide) h) (by decide)
 | .str z,h=>PySem.StrLaws.reprText_len z h
 | .tup ds,h=>by
  have k:=uZ ds h
  show(tupleText (PyData.shownAll (iS ds))).length≤kN ds+4
  unfold tupleText
  rw[strLen_append,strLen_append]
  have e1:("(":Str).length=1:=rfl
  have e2:((if(PyData.shownAll (iS ds)).length == 1 then ",)" else ")":String):Str).length≤2:=by split <;> decide
  by_cases hn:PyData.shownAll (iS ds)=[]
  ·rw[hn] at e2 ⊢
   have e3:(Str.join ", " []).length=0:=rfl
   omega
  ·have:=join_length_add _ hn
   omega
 | .lst ds,h=>by
  have k:=uZ ds h
  show(listText (PyData.shownAll (iS ds))).length≤kN ds+4
  unfold listText
  rw[strLen_append]
  have e1:=E3 (PyData.shownAll (iS ds)) 0 "["
  have e2:("[":Str).length=1:=rfl
  have e3:("]":Str).length=1:=rfl
  omega
theorem uZ:∀ds:List D,d9 ds→piled (PyData.shownAll (iS ds))≤kN ds
 | [],_=>Nat.le_refl _
 | d :: ds,h=>by
  show piled ((toPy d).shown :: PyData.shownAll (iS ds))≤wD d+2+kN ds
  rw[piled_cons]
  have:=shown_le d h.1
  have:=uZ ds h.2
  omega
end
mutual
theorem vQ:∀d:D,Sane d→(toPy d).showable=true
 | .cW,_=>rfl
 | .bl b,_=>rfl
 | .int i,h=>by
  show decide (i.natAbs.log2 < 1920)=true
  rw[decide_eq_true_eq]
  by_cases hz:i.natAbs=0
  ·rw[hz];decide
  ·exact(Nat.log2_lt hz).mpr (Nat.lt_trans h (Nat.lt_of_lt_of_le (show(10:Nat) ^ 30 < 2 ^ 100 by decide) (Nat.pow_le_pow_right (by decide) (by decide))))
 | .str z,_=>rfl
 | .tup ds,h=>by show PyData.showableAll (iS ds)=true;exact oU ds h
 | .lst ds,h=>by show PyData.showableAll (iS ds)=true;exact oU ds h
theorem oU:∀ds:List D,d9 ds→PyData.showableAll (iS ds)=true
 | [],_=>rfl
 | d :: ds,h=>by
  show((toPy d).showable && PyData.showableAll (iS ds))=true
  rw[vQ d h.1,oU ds h.2]
  rfl
end
mutual
theorem depth_eq:∀d:D,(toPy d).depth=bZ d
 | .cW=>rfl
 | .bl _=>rfl
 | .int _=>rfl
 | .str _=>rfl
 | .tup ds=>by show PyData.depthAll (iS ds)+1=bM ds+1;rw[u5 ds]
 | .lst ds=>by show PyData.depthAll (iS ds)+1=bM ds+1;rw[u5 ds]
theorem u5:∀ds:List D,PyData.depthAll (iS ds)=bM ds
 | []=>rfl
 | d :: ds=>by show max (toPy d).depth (PyData.depthAll (iS ds))=max (bZ d) (bM ds);rw[depth_eq d,u5 ds]
end
theorem OI {d:D}(h:Sane d) (hw:wD d≤1000000) (hd:bZ d≤20):EX d:=
 ⟨vQ d h,by rw[depth_eq];exact hd,Nat.le_trans (shown_le d h) (Nat.le_trans hw (by decide))⟩
theorem g9:∀as bs:List D,kN (as++bs)=kN as+kN bs
 | [],bs=>by show kN bs=0+kN bs;omega
 | a :: as,bs=>by show wD a+2+kN (as++bs)=wD a+2+kN as+kN bs;rw[g9 as bs];omega
theorem B9:∀(n:Nat) (ds:List D),kN (ds.take n)≤kN ds
 | 0,_=>Nat.zero_le _
 | _+1,[]=>Nat.le_refl _
 | n+1,d :: ds=>by have:=B9 n ds;show wD d+2+kN (ds.take n)≤wD d+2+kN ds;omega
theorem xw:∀(n:Nat) (ds:List D),kN (ds.drop n)≤kN ds
 | 0,_=>Nat.le_refl _
 | _+1,[]=>Nat.le_refl _
 | n+1,d :: ds=>by have:=xw n ds;show kN (ds.drop n)≤wD d+2+kN ds;omega
theorem AG:∀ds:List D,2 * ds.length≤kN ds
 | []=>Nat.le_refl _
 | d :: ds=>by have:=AG ds;show 2 * (ds.length+1)≤wD d+2+kN ds;omega
theorem d9.append:∀{as bs:List D},d9 as→d9 bs→d9 (as++bs)
 | [],_,_,h=>h
 | _ :: _,_,h,k=>⟨h.1,d9.append h.2 k⟩
theorem d9.mem:∀{ds:List D}{d:D},d9 ds→d∈ds→Sane d
 | _ :: _,_,h,m=>by
  rcases List.mem_cons.mp m with rfl | m
  ·exact h.1
  ·exact d9.mem h.2 m
theorem d9.of:∀{ds:List D},(∀d∈ds,Sane d)→d9 ds
 | [],_=>True.intro
 | d :: ds,h=>⟨h d List.mem_cons_self,d9.of fun e he=>h e (List.mem_cons_of_mem _ he)⟩
theorem d9.cut {ds:List D}(h:d9 ds) (lo hi:Option Int):d9 (cutD ds lo hi):=d9.of fun d hd=>h.mem (List.mem_of_mem_drop (List.mem_of_mem_take hd))
theorem qx {ds:List D}{n:Nat}(h:∀d∈ds,bZ d≤n):bM ds≤n:=by
 induction ds with
 | nil=>exact Nat.zero_le _
 | cons d ds ih=>
  show max (bZ d) (bM ds)≤n
  have:=h d List.mem_cons_self
  have:=ih fun e he=>h e (List.mem_cons_of_mem _ he)
  omega
structure Good (n k:Nat) (d:D):Prop where
 jW:Sane d
 w:wD d≤n
 dep:bZ d≤k
theorem Good.mono {n k n' k':Nat}{d:D}(h:Good n k d) (a:n≤n') (b:k≤k'):Good n' k' d:=⟨h.jW,Nat.le_trans h.w a,Nat.le_trans h.dep b⟩
theorem Good.EX {n k:Nat}{d:D}(h:Good n k d) (a:n≤1000000) (b:k≤20):L2.EX d:=OI h.jW (Nat.le_trans h.w a) (Nat.le_trans h.dep b)
end Sw
end
section
set_option Elab.async false
set_option linter.all false
set_option maxRecDepth 100000
namespace Sw
open PySem PySem.Spec PyProof.Rows L2
mutual
theorem AH:∀{d:D}{n:Nat},wD d≤2 * n→sr n d
 | .cW,_,_=>True.intro
 | .bl _,_,_=>True.intro
 | .int _,_,_=>True.intro
 | .str z,n,h=>by show z.length≤n;have:10 * z.length+2≤2 * n:=h;omega
 | .tup ds,n,h=>by have:kN ds+4≤2 * n:=h;have:=AG ds;exact⟨by omega,fits_of (by omega)⟩
 | .lst ds,n,h=>by have:kN ds+4≤2 * n:=h;have:=AG ds;exact⟨by omega,fits_of (by omega)⟩
theorem fits_of:∀{ds:List D}{n:Nat},kN ds≤2 * n→Fits n ds
 | [],_,_=>True.intro
 | d :: ds,n,h=>by have:wD d+2+kN ds≤2 * n:=h;exact⟨AH (by omega),fits_of (by omega)⟩
end
theorem getD_mem {α:Type}{l:List α}{i:Nat}{x:α}(h:i < l.length):l.getD i x∈l:=by simp[List.getD,h]
end Sw
end
section
set_option Elab.async false
set_option linter.all false
set_option maxRecDepth 100000
namespace Sw
open PySem PySem.Spec PyProof.Rows L2
end Sw
end
section
set_option Elab.async false
set_option linter.all false
set_option maxRecDepth 100000
namespace Sw
open PySem PySem.Spec PyProof.Rows L2
noncomputable def DE (n:Nat):FM
 | [.s ns]=>if ns.length≤n then some (.t (.bl true),[]) else none
 | _=>none
theorem xx {P:Program}{w:World}{K:PySem.W.Frag}{mg:Str→Option Value}{base:Heap}{f:Addr}{fd:FuncData}{n k:Nat}{ps:List Str}{fm:FM}(h:∀us,fm us=none):bT P w K mg base ff n f fd ps (spT K k fm):=by
 have no:∀vs H Q E,¬spT K k fm vs H Q E:=fun vs H Q E ⟨_,F,us,r,outs,_,_,_,e,_⟩=>by rw[h us] at e;cases e
 exact⟨fun vs H Q E h=>absurd h (no vs H Q E),fun A outer s H args us vs Q E _ _ _ _ h=>absurd h (no vs H Q E)⟩
theorem OJ {K:PySem.W.Frag}{H:Hp}{a:Addr}{ns:List Int}{n:Nat}{E:XK}(hl:ns.length≤n) (hO:Ld H) (hS:qZ K H a (ns.map V.int)):spT K 1 (DE n) [.ref a] H (fun v _=>v= .bl true) E:=by
 have sc:Ll K H a ns:=by
  rcases hS with(h | h) | h
  ·rcases hO a with z | ⟨o,xs,z⟩
   ·rw[h] at z;cases z
   ·rw[h] at z;cases z
  ·exact .inl h
  ·exact .inr h
 exact⟨rfl,fun _=>none,[.s ns],.t (.bl true),[],(fun b o z=>by cases z),.cons ⟨a,rfl,sc⟩ .nil,List.nodup_nil,by simp[DE,hl],fun v F' H' _ r=>jG r⟩
end Sw
end
section
set_option Elab.async false
set_option linter.all false
set_option maxRecDepth 100000
namespace Sw
open PySem PySem.Spec PyProof.Rows L2
noncomputable def LET:Str:="abcdefghijklmnopqrstuvwxyz"
noncomputable def pR (y:Str):Bool:=!(Builtin.Str.occurrences LET y 0 LET.length 1).isEmpty
noncomputable def signs (z:Str):List Str:=z.cps.toList.map fun c=>(⟨#[c]⟩:Str)
theorem zP (z:Str):(signs z).length=z.length:=by unfold signs;rw[List.length_map];rfl
theorem Ca (z:Str):iT (eF (aq 0)) [some (.t (.str z))]=some ((signs z).map D.str,[some (.t (.str z))]):=by unfold signs;rw[List.map_map];rfl
noncomputable def nameB:D→Bool
 | .str z=>decide (1≤z.length) && decide (z.length≤8) && (signs z).all pR
 | _=>false
theorem OL (y:Str):rY [.str y,.str "abcdefghijklmnopqrstuvwxyz"]=some (.t (.bl (pR y))):=rfl
theorem Gn (y:Str):lu [.str y,.str "abcdefghijklmnopqrstuvwxyz"]=some (.t (.bl (!pR y))):=rfl
theorem iV {z:Str}(h:z.length≤20000):Aw (.t (.str z))=some z.length:=by show(if z.length≤100000 then some z.length else none)=_;rw[if_pos (by omega)]
noncomputable def j4:GS:=
 (aJ (gQ (oH (gM (qB (rZ ["str"] (eF (aq 0))))) (oH (qB (eF (eP ER (aa (gn 0) (aa (eC (.int 1)) ak))))) (qB (eF (eP Dp (aa (gn 0) (aa (eC (.int 8)) ak))))))) (bR (eT (eC (.bl false)))) cS)
 (bR (eP Dt (aa (eF (fB [] (iT (eF (aq 0))) dP (eF (eP rY (aa (eF (aq 0)) (aa (eC (.str "abcdefghijklmnopqrstuvwxyz")) ak)))))) ak))))
noncomputable def Jh:D→Nat
 | .str z=>z.length
 | _=>0
noncomputable def lD:FM
 | [.t d]=>if Jh d≤20000 then some (.t (.bl (nameB d)),[]) else none
 | _=>none
theorem Ji : ∀ us r, lD us = some r → aQ 1 j4 us = some r := by
  intro us r h
  unfold lD at h
  split at h
  · rename_i d
    obtain⟨hb,rfl⟩:=cX h
    cases d with
    | str z =>
      have hb:z.length≤20000:=hb
      have iV:=iV hb
      by_cases h1:(z.length:Int) < 1
      · have h2:¬1≤z.length:=by omega
        simp[aQ,j4,nameB,bV,dj,iN,iV,h1,h2]
      · by_cases h3:(8:Int) < z.length
        · have h2:¬z.length≤8:=by omega
          simp[aQ,j4,nameB,bV,dj,iN,iV,h1,h2,h3]
        · have h4:1≤z.length:=by omega
          have h5:z.length≤8:=by omega
          have h6:((signs z).map D.str).length≤100000:=by rw[List.length_map,zP];omega
          have ei:=Ca z
          generalize hx:signs z=xs at h6 ei
          have e:=jm (cap:=[]) (g:=eF (eP rY (aa (eF (aq 0)) (aa (eC (.str "abcdefghijklmnopqrstuvwxyz")) ak)))) (S:=[some (.t (.str z))]) (ts:=[]) rfl (fun d=>match d with | .str y=>.bl (pR y) | _=>.cW) (xs.map D.str) [] (fun d hd=>by
            obtain⟨c,_,rfl⟩:=List.mem_map.mp hd
            simp[OL])
          have e2:([]:List D)++((xs.map D.str).map fun d=>match d with | .str y=>D.bl (pR y) | _=>.cW)=xs.map fun y=>D.bl (pR y):=by rw[List.map_map];rfl
          have e3:=rJ pR xs
          rw[e2] at e
          generalize xs.map D.str=L at e ei h6
          generalize (xs.map fun y=>D.bl (pR y))=M at e e3
          simp[aQ,j4,nameB,bV,dj,iN,iV,h1,h3,h4,h5,ei,h6,e,e3,hx]
    | _=>simp[aQ,j4,nameB,bV,dj,iN]
  · cases h
noncomputable def qy:D→Bool
 | .str y=>!pR y
 | _=>false
theorem xy:∀xs:List Str,(xs.map D.str).filter qy=(xs.filter fun y=>!pR y).map D.str
  | []=>rfl
  | y :: xs => by
    by_cases h:pR y=true
    · have e:qy (.str y)=false:=by simp[qy,h]
      rw[List.map_cons,List.filter_cons_of_neg (by simp[e]),List.filter_cons_of_neg (by simp[h]),xy xs]
    · have e:qy (.str y)=true:=by simp[qy,h]
      rw[List.map_cons,List.filter_cons_of_pos e,List.filter_cons_of_pos (by simp[h]),xy xs,List.map_cons]
theorem eq_nil (xs:List Str):jC (.lst (xs.map D.str)) (.lst [])=xs.isEmpty:=by cases xs <;> simp[jC,qg]
theorem lV (xs:List Str):bZ (.lst (xs.map D.str))≤40:=by
 have:bM (xs.map D.str)=0:=by
  induction xs with
  | nil=>rfl
  | cons x xs ih=>show max 0 (bM (xs.map D.str))=0;omega
 show bM (xs.map D.str)+1≤40
 omega
theorem Cb:∀xs:List Str,(xs.filter fun y=>!pR y).isEmpty=xs.all pR
  | []=>rfl
  | y :: xs => by
    by_cases h:pR y=true
    · rw[List.filter_cons_of_neg (by simp[h]),Cb xs,List.all_cons,h,Bool.true_and]
    · rw[List.filter_cons_of_pos (by simp[h]),List.all_cons]
      simp[h]
end Sw
end
section
set_option Elab.async false
set_option linter.all false
set_option maxRecDepth 100000
namespace L2
open PySem PySem.Spec PyProof.Rows
section
variable (S:SS) (d:D) (i:Nat) (g ga gb gc:GD) (gA:GA)
@[simp] theorem Ys (f:Int→Int→Int):Xs f i g S=match S[i]? with
 | some (some (.t (.int n)))=>(g S).bind fun p=>match p.1 with
  | .int m=>(rW i (.t (.int (f n m))) p.2).map .nx
  | _=>none
 | _=>none:=rfl
@[simp] theorem Yt:Xr [d,.cW]=some (.t (.bl (MW d))):=rfl
@[simp] theorem VF (k:Bool):RO [.bl k]=some (.t (.int (if k then 1 else 0))):=rfl
@[simp] theorem Yu (ds:List D) (k:Int):Xq [.lst ds,.int k]=if 0≤k∧k.toNat≤100000∧ds.length * k.toNat≤100000 then some (.m (.lst (List.replicate k.toNat ds).flatten)) else none:=rfl
@[simp] theorem Qe (es ds:List D):oN [.lst es] (.lst ds)=if ds.length+es.length≤100000 then some (.cW,.lst (ds++es)) else none:=rfl
@[simp] theorem VG:RU gA S=(gA S).bind fun p=>match p.1 with
 | [d]=>(B4 d).map fun q=>(MX q.2,p.2)
 | _=>none:=rfl
@[simp] theorem VH:RV gA S=(gA S).bind fun p=>match p.1 with
 | [d,e]=>(B4 d).bind fun q=>(B4 e).map fun r=>(List.zipWith (fun a b=>.tup [a,b]) q.2 r.2,p.2)
 | _=>none:=rfl
@[simp] theorem SH (ds:List D):B4 (.lst ds)=some (true,ds):=rfl
@[simp] theorem SI (ds:List D):B4 (.tup ds)=some (false,ds):=rfl
@[simp] theorem VI (x y:Int):BU [.int x,.int y]=some (.t (.int (if y < x then y else x))):=rfl
end
end L2
namespace Sq
open PySem PySem.Spec PyProof.Rows L2 Sw
theorem E4 {bd:GB}{body:GS}:∀(ds:List D) (I:List D→SS→Prop) (S:SS),I ds S→(∀d r S,I (d :: r) S→∃S1 S2,bd d S=some S1∧body S1=some (.nx S2)∧I r S2)→∃S',loop bd body ds S=some (.nx S')∧I [] S'
 | [],I,S,h,_=>⟨S,rfl,h⟩
 | d :: ds,I,S,h,k=>by
  obtain⟨S1,S2,e1,e2,h2⟩:=k d ds S h
  obtain⟨S',e,h'⟩:=E4 ds I S2 h2 k
  refine⟨S',?_,h'⟩
  show((bd d S).bind fun S1=>(body S1).bind _)=_
  rw[e1,Option.bind_some,e2,Option.bind_some]
  exact e
theorem DF (cap : List Nat) (q : GT) (g : GD) (d : D) (ds : List D) (S : SS) (acc : List D) : gW cap q g (d :: ds) S acc = (gW cap q g [d] S acc).bind fun r => gW cap q g ds r.2 r.1 := by
  simp only[gW]
  cases oM S cap with
  | none=>rfl
  | some us =>
    simp only[Option.bind_some]
    split
    · cases dU S us with
      | none=>rfl
      | some ws =>
        simp only[Option.bind_some]
        cases q (some (.t d) :: ws.map some) with
        | none=>rfl
        | some p=>
          simp only[Option.bind_some]
          split
          · cases g p.2 with
            | none=>rfl
            | some r=>
              simp only[Option.bind_some]
              cases aE (.t d :: ws) r.2 with
              | none=>rfl
              | some outs=>
                simp only[Option.bind_some]
                cases wb us outs S with
                | none=>rfl
                | some S'=>rfl
          · cases aE (.t d :: ws) p.2 with
            | none=>rfl
            | some outs=>
              simp only[Option.bind_some]
              cases wb us outs S with
              | none=>rfl
              | some S'=>rfl
    · rfl
theorem E5 {cap:List Nat}{g:GD}:∀(ds:List D) (I:List D→List D→SS→Prop) (S:SS) (acc:List D),I ds acc S→(∀d r acc S,I (d :: r) acc S→∃acc' S',gW cap dP g [d] S acc=some (acc',S')∧I r acc' S')→∃acc' S',gW cap dP g ds S acc=some (acc',S')∧I [] acc' S'
 | [],I,S,acc,h,_=>⟨acc,S,rfl,h⟩
 | d :: ds,I,S,acc,h,k=>by
  obtain⟨a1,S1,e1,h1⟩:=k d ds acc S h
  obtain⟨a2,S2,e2,h2⟩:=E5 ds I S1 a1 h1 k
  exact⟨a2,S2,by rw[DF,e1];exact e2,h2⟩
theorem Jj {α:Type}{l:List α}{i:Int}{x:α}(h0:0≤i) (h:l[i.toNat]? =some x):gZ l i=some x:=by
 have hl:=(List.getElem?_eq_some_iff.mp h).1
 unfold gZ Di
 rw[if_pos h0,if_pos (by omega)]
 exact h
theorem OM {α:Type}{l:List α}{i:Int}(h0:0≤i) (h1:i < l.length):∃x,gZ l i=some x∧l[i.toNat]? =some x:=by
 have h:i.toNat < l.length:=by omega
 exact⟨l[i.toNat],Jj h0 (List.getElem?_eq_getElem h),List.getElem?_eq_getElem h⟩
noncomputable def DG:GS:=
 (aJ (bH 2 (eP cK (aa (eF (eP cK (aa (eF (eP mX (aa (eF (eP cK (aa (eF (eP nD (aa (eF (aq 0)) (aa (eF (eP Dq (aa (eC (.int 10)) (aa (eC (.int 15)) ak)))) ak)))) (aa (eC (.int 1)) ak)))) (aa (eC (.int 48271)) ak)))) (aa (eF (eP mX (aa (eF (eP mX (aa (eF (aq 1)) (aa (eF (aq 1)) ak)))) (aa (eC (.int 16807)) ak)))) ak)))) (aa (eF (eP mX (aa (eF (aq 1)) (aa (eC (.int 7919)) ak)))) ak))))
 (bR (eP nD (aa (eF (eP mX (aa (eF (eP nD (aa (eF (aq 2)) (aa (eC (.int 2147483647)) ak)))) (aa (eC (.int 69621)) ak)))) (aa (eC (.int 2147483629)) ak)))))
noncomputable def SJ:FM:=aQ 3 DG
noncomputable abbrev fd (c i l:Int):MO:=.lst [.int c,.int i,.int l]
noncomputable def gq (Gp:FM):GS:=
 (aJ (bH 2 (eP cK (aa (eF (eP mX (aa (eC (.int 7919)) (aa (eF (aq 1)) ak)))) (aa (eC (.int 1)) ak))))
 (aJ (gQ (qB (eF (eP ER (aa (eF (aq 1)) (aa (gn 0) ak))))) (bH 2 (eT (bC 0 (eF (aq 1))))) (gQ (qB (eF (eP Dp (aa (gn 0) (aa (eC (.int 0)) ak))))) (bH 2 (aL Gp (aP (bC 0 (eF (eP nD (aa (eF (aq 1)) (aa (gn 0) ak))))) (aP (eF (aq 1)) br)))) cS))
 (bR (eP dg (aa (eF (aq 2)) (aa (eC (.int 0)) (aa (eF (eP mX (aa (eF (eP kZ (aa (eF (aq 2)) (aa (eF (eP Dq (aa (eC (.int 10)) (aa (eC (.int 18)) ak)))) ak)))) (aa (eF (eP RO (aa (eF (eP W7 (aa (eF (aq 2)) (aa (eF (eP Dq (aa (eC (.int 10)) (aa (eC (.int 18)) ak)))) ak)))) ak))) ak)))) ak)))))))
noncomputable def pO:FM:=aQ 3 (gq SJ)
theorem Cc:∀us r,pO us=some r→aQ 3 (gq SJ) us=some r:=fun _ _ h=>h
end Sq
end
section
set_option Elab.async false
set_option linter.all false
set_option maxRecDepth 100000
namespace L2
open PySem PySem.Spec PyProof.Rows
noncomputable def jX:Option U→Bool
 | some (.b _)=>true
 | _=>false
@[simp] theorem ade:jX none=false:=rfl
@[simp] theorem adf (d:D):jX (some (.t d))=false:=rfl
@[simp] theorem adg (o:MO):jX (some (.m o))=false:=rfl
theorem dX (i:Nat) (u:U) (S:SS):rW i u S=(S[i]?).bind fun x=>if jX x then none else some (S.set i (some u)):=by
 unfold rW
 cases S[i]? with
 | none=>rfl
 | some x=>cases x with
  | none=>rfl
  | some u=>cases u <;> rfl
@[simp] theorem Yv (n:Nat) (bs:HE) (ds:List D) (S:SS):W9 n bs (.tup ds) S=if ds.length=n then bs ds S else none:=rfl
@[simp] theorem VJ (b:GB) (bs:HE) (d:D) (r:List D) (S:SS):BN b bs (d :: r) S=(b d S).bind fun S1=>bs r S1:=rfl
@[simp] theorem Yw (S:SS):N7 [] S=some S:=rfl
@[simp] theorem VL (S:SS):RW S=some (.m (.yJ []),S):=rfl
@[simp] theorem VM (S:SS):RX S=some (.m (.dct []),S):=rfl
@[simp] theorem SK (z:Str):su (.str z)=true:=rfl
@[simp] theorem SM (b:Bool):su (.bl b)=true:=rfl
@[simp] theorem SN (b:Int):su (.int b)=true:=rfl
@[simp] theorem SD (g:GD) (lo hi:Option GD) (S:SS):yF g lo hi S=(g S).bind fun p=>(nJ lo p.2).bind fun l=>(nJ hi l.2).bind fun h=>(Lu p.1 l.1 h.1).map fun u=>(u,h.2):=rfl
@[simp] theorem Qg (S:SS):nJ none S=some (none,S):=rfl
@[simp] theorem Qh (g:GD) (S:SS):nJ (some g) S=(g S).bind fun p=>match p.1 with | .int i=>some (some i,p.2) | _=>none:=rfl
@[simp] theorem LK (ds:List D) (lo hi:Option Int):Lu (.tup ds) lo hi=some (.t (.tup (cutD ds lo hi))):=rfl
@[simp] theorem LL (ds:List D) (lo hi:Option Int):Lu (.lst ds) lo hi=some (.m (.lst (cutD ds lo hi))):=rfl
@[simp] theorem SO (d:D) (ds:List D):Og [d] (.lst ds)=if bM ds≤40∧ds.length < 100000 then(Of d ds).map fun j=>(.int (j:Nat),.lst ds) else none:=rfl
@[simp] theorem ON (ds:List D):BO [] (.lst ds)=some (.cW,.lst ds.reverse):=rfl
theorem iW {bd:GB}{body:GS}(ds:List D) (I:Nat→SS→Prop) (S:SS) (h0:I 0 S) (hs:∀j d S,ds[j]? =some d→I j S→∃S1 S2,bd d S=some S1∧body S1=some (.nx S2)∧I (j+1) S2):∃S',loop bd body ds S=some (.nx S')∧I ds.length S':=by
 obtain⟨S',e,j,hr,hj,hI⟩:=Sq.E4 (bd:=bd) (body:=body) ds (fun r S=>∃j,ds.drop j=r∧j≤ds.length∧I j S) S ⟨0,rfl,Nat.zero_le _,h0⟩ (by
  rintro d r S ⟨j,hr,hj,hI⟩
  have hlt:j < ds.length:=by
   have:=congrArg List.length hr
   rw[List.length_drop,List.length_cons] at this
   omega
  rw[List.drop_eq_getElem_cons hlt] at hr
  injection hr with h1 h2
  obtain⟨S1,S2,e1,e2,h3⟩:=hs j d S (by rw[List.getElem?_eq_getElem hlt,h1]) hI
  exact⟨S1,S2,e1,e2,j+1,h2,hlt,h3⟩)
 have:j=ds.length:=by
  have:=congrArg List.length hr
  rw[List.length_drop,List.length_nil] at this
  omega
 subst this
 exact⟨S',e,hI⟩
theorem Jk {cap:List Nat}{g:GD}(ds:List D) (I:Nat→List D→SS→Prop) (S:SS) (h0:I 0 [] S) (hs:∀j d acc S,ds[j]? =some d→I j acc S→∃x S',gW cap dP g [d] S acc=some (acc++[x],S')∧I (j+1) (acc++[x]) S'):∃acc S',gW cap dP g ds S []=some (acc,S')∧I ds.length acc S':=by
 obtain⟨acc,S',e,j,hr,hj,hI⟩:=Sq.E5 (cap:=cap) (g:=g) ds (fun r acc S=>∃j,ds.drop j=r∧j≤ds.length∧I j acc S) S [] ⟨0,rfl,Nat.zero_le _,h0⟩ (by
  rintro d r acc S ⟨j,hr,hj,hI⟩
  have hlt:j < ds.length:=by
   have:=congrArg List.length hr
   rw[List.length_drop,List.length_cons] at this
   omega
  rw[List.drop_eq_getElem_cons hlt] at hr
  injection hr with h1 h2
  obtain⟨x,S',e1,h3⟩:=hs j d acc S (by rw[List.getElem?_eq_getElem hlt,h1]) hI
  exact⟨_,S',e1,j+1,h2,hlt,h3⟩)
 have:j=ds.length:=by
  have:=congrArg List.length hr
  rw[List.length_drop,List.length_nil] at this
  omega
 subst this
 exact⟨acc,S',e,hI⟩
theorem lG {n j:Nat}{d:D}(h:(jZ 0 n)[j]? =some d):j < n∧d= .int j:=by
 unfold jZ at h
 rw[List.getElem?_map] at h
 cases e:(List.range n)[j]? with
 | none=>rw[e] at h;cases h
 | some k=>
  rw[e] at h
  obtain⟨h1,h2⟩:=List.getElem?_eq_some_iff.mp e
  rw[List.getElem_range] at h2
  rw[List.length_range] at h1
  subst h2
  refine⟨h1,?_⟩
  have:=Option.some.inj h
  rw[←this]
  show D.int (0+(j:Int))=_
  rw[Int.zero_add]
theorem Gq (bd:GB) (body:GS) (d:D) (ds:List D) (S:SS):loop bd body (d :: ds) S=(bd d S).bind fun S1=>(body S1).bind fun o=>match o with
  | .nx S2=>loop bd body ds S2
  | .ct S2=>loop bd body ds S2
  | .bk S2=>some (.nx S2)
  | .rt u S2=>some (.rt u S2):=rfl
end L2
end
section
set_option Elab.async false
set_option linter.all false
set_option maxRecDepth 100000
namespace Ss
open PySem PySem.Spec PyProof.Rows L2 Sw
@[simp] theorem Yx (kvs:List (Str×Int)) (g:GD) (S:SS):Oi kvs g S=(g S).bind fun p=>match p.1 with | .str z=>(jY kvs z).map fun i=>(.int i,p.2) | _=>none:=rfl
@[simp] theorem Qi (kvs:List (Str×Int)) (g gd:GD) (S:SS):Az kvs g gd S=(g S).bind fun p=>(gd p.2).bind fun q=>match p.1,q.1 with | .str z,.int j=>some (.int ((jY kvs z).getD j),q.2) | _,_=>none:=rfl
@[simp] theorem Yy (n:Bool) (zs:List Str) (g:GD) (S:SS):AB n zs g S=(g S).map fun p=>(.bl (n != inD p.1 (zs.map D.str)),p.2):=rfl
noncomputable def Sm (d:D):Prop:=sr 20000 d∧bZ d≤38
theorem xA {n:Nat}:∀{ds:List D}{x:D},Fits n ds→x∈ds→sr n x
 | d :: ds,x,h,hx=>by
  rcases List.mem_cons.mp hx with rfl | q
  ·exact h.1
  ·exact xA h.2 q
theorem Sm.mem {ds:List D}(h:Sm (.tup ds)){x:D}(hx:x∈ds):Sm x:=⟨xA h.1.2 hx,by have:bM ds+1≤38:=h.2;have:=iG hx;omega⟩
theorem Sm.Jh {d:D}(h:Sm d):Jh d≤20000:=by
 cases d with
 | str z=>exact h.1
 | _=>exact Nat.zero_le _
theorem bY (a:D) (r:List D):gZ (a :: r) 0=some a:=by
 unfold gZ Di
 rw[if_pos (by decide),if_pos (by simp only[List.length_cons];omega)]
 rfl
theorem dH (a b:D) (r:List D):gZ (a :: b :: r) 1=some b:=by
 unfold gZ Di
 rw[if_pos (by decide),if_pos (by simp only[List.length_cons];omega)]
 rfl
theorem uu (a b c:D) (r:List D):gZ (a :: b :: c :: r) 2=some c:=by
 unfold gZ Di
 rw[if_pos (by decide),if_pos (by simp only[List.length_cons];omega)]
 rfl
theorem rK (d:D) (l m:Int):mZ [.t d,.t (.int l),.t (.int m)]=some (.t (.bl (fT d l m)),[]):=rfl
theorem zQ (d:D) (l m:Int):qw [.t d,.t (.int l),.t (.int m)]=some (.t (.bl (gP d l m)),[]):=rfl
theorem vR (d:D) (m:Int):iU [.t d,.t (.int m)]=some (.t (.bl (gP d 0 m)),[]):=rfl
theorem nL {d:D}(h:Sm d):lD [.t d]=some (.t (.bl (nameB d)),[]):=by
 show(if Jh d≤20000 then _ else _)=_
 rw[if_pos h.Jh]
theorem mL (x:D) (zs:List Str):rY [x,.tup (zs.map D.str)]=some (.t (.bl (inD x (zs.map D.str)))):=by
 have:bM (zs.map D.str)≤40:=by rw[L2.lV];omega
 cases x <;> simp[rY,this]
noncomputable def AI:List Str:=["less","same","more"]
noncomputable def HF:List Str:=["each","one"]
noncomputable def gr (bs:List Str):D→Bool
 | .tup [a]=>jC a (.str "any")
 | .tup [a,b]=>if jC a (.str "name") then nameB b else inD a (AI.map D.str) && (gP b 0 9 || inD b (bs.map D.str))
 | _=>false
noncomputable def cJ (dD:FM) (gO:FM) (fY:FM):GS:=
 (aJ (gQ (gM (qB (eF (aL dD (aP (eF (aq 0)) (aP (eC (.int 1)) (aP (eC (.int 2)) br))))))) (bR (eT (eC (.bl false)))) cS)
 (aJ (gQ (qB (eF (eP pS (aa (gn 0) (aa (eC (.int 1)) ak))))) (bR (eP pS (aa (bC 0 (eC (.int 0))) (aa (eC (.str "any")) ak)))) cS)
 (aJ (gQ (qB (eF (eP pS (aa (bC 0 (eC (.int 0))) (aa (eC (.str "name")) ak))))) (bR (aL gO (aP (bC 0 (eC (.int 1))) br))) cS)
 (bR (eT (eQ (gC (qB (eF (eP rY (aa (bC 0 (eC (.int 0))) (aa (eF (eP bf (aa (eC (.str "less")) (aa (eC (.str "same")) (aa (eC (.str "more")) ak))))) ak))))) (qB (eQ (oH (qB (eF (aL fY (aP (bC 0 (eC (.int 1))) (aP (eC (.int 0)) (aP (eC (.int 9)) br)))))) (qB (eF (eP rY (aa (bC 0 (eC (.int 1))) (aa (eF (aq 1)) ak)))))))))))))))
noncomputable def nM:FM:=aQ 2 (cJ mZ lD qw)
theorem Jl:∀us r,nM us=some r→aQ 2 (cJ mZ lD qw) us=some r:=fun _ _ h=>h
theorem LM {d : D} (h : Sm d) (bs : List Str) : nM [.t d, .t (.tup (bs.map D.str))] = some (.t (.bl (gr bs d)), []) := by
  have e1:=rK d 1 2
  cases d with
  | tup ds =>
    match ds,h,e1 with
    | [],h,e1=>simp[nM,aQ,cJ,e1,fT,gr,aE]
    | [a],h,e1=>
      have ha:=(h.mem (x:=a) (by simp)).2
      have hd:bZ a≤40:=by omega
      simp[nM,aQ,cJ,e1,fT,gr,aE,bY,hd]
    | [a, b], h, e1 =>
      have ha:=(h.mem (x:=a) (by simp)).2
      have hd:bZ a≤40:=by omega
      have hb:=nL (h.mem (x:=b) (by simp))
      have w:=zQ b 0 9
      have i1:=mL a AI
      have i2:=mL b bs
      have tl:AI.map D.str=[.str "less",.str "same",.str "more"]:=rfl
      rw[tl] at i1
      cases q:jC a (.str "name") with
      | true=>simp[nM,aQ,cJ,e1,fT,gr,aE,bY,dH,hd,hb,q]
      | false=>
        cases q2:inD a [.str "less",.str "same",.str "more"] with
        | true=>
          rw[q2] at i1
          cases q3:gP b 0 9 with
          | true=>simp[nM,aQ,cJ,e1,fT,gr,aE,bY,dH,hd,q,tl,i1,q2,w,q3]
          | false=>simp[nM,aQ,cJ,e1,fT,gr,aE,bY,dH,hd,q,tl,i1,q2,w,q3,i2]
        | false=>
          rw[q2] at i1
          simp[nM,aQ,cJ,e1,fT,gr,aE,bY,dH,hd,q,tl,i1,q2]
    | a :: b :: c :: r,h,e1=>
      have:¬((r.length:Int)+1+1+1≤2):=by omega
      have e2:fT (.tup (a :: b :: c :: r)) 1 2=false:=by simp[fT,this]
      rw[e2] at e1
      simp[nM,aQ,cJ,e1,gr,aE]
  | _=>simp[nM,aQ,cJ,e1,fT,gr,aE]
noncomputable def VN:List (Str×Int):=[("yes",1),("no",1),("now",2),("not",2),("both",3),("either",3),("next",2),("till",3),("within",3),("always",2),("some",2),("each",4),("one",4)]
noncomputable def Yz:List (Str×Int):=[("yes",1),("no",1),("now",2),("not",1),("both",1),("either",1),("next",1),("till",1),("within",2),("always",1),("some",1),("each",3),("one",3)]
noncomputable def fj (z:Str):Int:=(jY VN z).getD 0
noncomputable def ez (z:Str):Nat:=((jY Yz z).getD 0).toNat
noncomputable def cB (z:Str):Bool:=inD (.str z) (HF.map D.str)
noncomputable def lW:List Str:=["yes","no","now","not","both","either","next","till","within","always","some","each","one"]
theorem AJ {kvs:List (Str×Int)}{z:Str}(h:z∉kvs.map (·.1)):jY kvs z=none:=by
 unfold jY
 have:kvs.find? (fun p=>decide (p.1=z))=none:=List.find?_eq_none.mpr fun p hp q=>h (by rw[←of_decide_eq_true q];exact List.mem_map_of_mem hp)
 rw[this]
 rfl
theorem zR {z:Str}(h:z∉lW):fj z=0:=by unfold fj;rw[AJ (show z∉VN.map (·.1) from h)];rfl
theorem qz {z:Str}(h:fj z≠0):z∈lW:=Classical.byContradiction fun q=>h (zR q)
structure xB (z:Str):Prop where
 MS:jY Yz z=some ((ez z:Nat):Int)
 s1:1≤ez z
 s4:(ez z:Int)≤fj z
 l4:fj z≤4
 few:fj z - ez z≤2
theorem wG:∀z∈lW,xB z:=by
 intro z hz
 simp only[lW,List.mem_cons,List.not_mem_nil,or_false] at hz
 rcases hz with rfl | rfl | rfl | rfl | rfl | rfl | rfl | rfl | rfl | rfl | rfl | rfl | rfl <;> exact⟨by decide,by decide,by decide,by decide,by decide⟩
noncomputable def lX:GS:=
 (bR (yF (eF (aq 0)) (some (Oi [("yes",1),("no",1),("now",2),("not",1),("both",1),("either",1),("next",1),("till",1),("within",2),("always",1),("some",1),("each",3),("one",3)] (bC 0 (eC (.int 0))))) none))
noncomputable def fZ:GS:=
 (aJ (gQ (qB (AB false ["each","one"] (bC 0 (eC (.int 0))))) (bR (eP cK (aa (eF (aq 1)) (aa (eF (eP bf (aa (bC 0 (eC (.int 2))) ak))) ak)))) cS)
 (bR (aq 1)))
noncomputable def cR (dD:FM) (ia:FM) (fY:FM) (gO:FM):GS:=
 (aJ (gQ (oH (gM (qB (eF (aL dD (aP (eF (aq 0)) (aP (eC (.int 1)) (aP (eC (.int 4)) br))))))) (gM (qB (rZ ["str"] (bC 0 (eC (.int 0))))))) (bR (eT (eC (.bl false)))) cS)
 (aJ (bH 2 (eT (bC 0 (eC (.int 0)))))
 (aJ (gQ (qB (eF (eP Bt (aa (Az [("yes",1),("no",1),("now",2),("not",2),("both",3),("either",3),("next",2),("till",3),("within",3),("always",2),("some",2),("each",4),("one",4)] (eF (aq 2)) (eC (.int 0))) (aa (gn 0) ak))))) (bR (eT (eC (.bl false)))) cS)
 (aJ (gQ (qB (eF (eP pS (aa (eF (aq 2)) (aa (eC (.str "now")) ak))))) (bR (aL ia (aP (bC 0 (eC (.int 1))) (aP (eF (aq 1)) br)))) cS)
 (aJ (gQ (qB (eF (eP pS (aa (eF (aq 2)) (aa (eC (.str "within")) ak))))) (bR (aL fY (aP (bC 0 (eC (.int 1))) (aP (eC (.int 0)) (aP (eC (.int 5)) br))))) cS)
 (aJ (gQ (qB (AB false ["each","one"] (eF (aq 2)))) (bR (eT (eQ (gC (qB (eF (aL gO (aP (bC 0 (eC (.int 1))) br)))) (qB (eF (aL gO (aP (bC 0 (eC (.int 2))) br)))))))) cS)
 (bR (eT (eC (.bl true))))))))))
noncomputable def m5:FM:=aQ 1 lX
theorem Gr:∀us r,m5 us=some r→aQ 1 lX us=some r:=fun _ _ h=>h
theorem nN (ds:List D) (k:Nat):L2.cutD ds (some (k:Int)) none=ds.drop k:=by
 unfold L2.cutD
 rw[HT.BE,HT.EE]
 by_cases h:k≤ds.length
 ·rw[Nat.min_eq_left h,List.take_of_length_le (by rw[List.length_drop];omega)]
 ·rw[Nat.min_eq_right (by omega),List.drop_of_length_le (Nat.le_refl _),List.drop_of_length_le (by omega),List.take_nil]
theorem Cd {z:Str}{r:List D}(h:xB z):m5 [.t (.tup (.str z :: r))]=some (.t (.tup ((.str z :: r).drop (ez z))),[]):=by
 have e:=h.MS
 unfold Yz at e
 have c:=nN (.str z :: r) (ez z)
 simp[m5,aQ,lX,bY,e,c,aE]
noncomputable def oV:FM:=aQ 2 fZ
theorem Gs:∀us r,oV us=some r→aQ 2 fZ us=some r:=fun _ _ h=>h
theorem Jm {z:Str}{r:List D}{bd:D}(h:cB z=false):oV [.t (.tup (.str z :: r)),.t bd]=some (.t bd,[]):=by
 unfold cB HF at h
 simp only[List.map_cons,List.map_nil] at h
 simp[oV,aQ,fZ,bY,h,aE]
theorem Gu {z:Str}{a b:D}{r:List D}{bs:List D}(h:cB z=true) (hl:bs.length≤1000):oV [.t (.tup (.str z :: a :: b :: r)),.t (.tup bs)]=some (.t (.tup (bs++[b])),[]):=by
 unfold cB HF at h
 simp only[List.map_cons,List.map_nil] at h
 have e:bs.length+1≤100000:=by omega
 simp[oV,aQ,fZ,bY,uu,h,aE,e]
noncomputable def cM (bs:List Str) (z:Str) (r:List D):Bool:=
 if fj z=(r.length:Int)+1 then
  (match r with
  | []=>true
  | a :: r2=>if z="now" then gr bs a else if z="within" then gP a 0 5 else if cB z then(match r2 with | b :: _=>nameB a && nameB b | []=>false) else true)
 else false
noncomputable def oX (bs:List Str):D→Bool
 | .tup (.str z :: r)=>cM bs z r
 | _=>false
noncomputable def fu:FM:=aQ 3 (cR mZ nM qw lD)
theorem DH:∀us r,fu us=some r→aQ 3 (cR mZ nM qw lD) us=some r:=fun _ _ h=>h
theorem LN (z:Str):fj z≤4:=by
 by_cases h:fj z=0
 ·omega
 ·exact(wG z (qz h)).l4
theorem Gv {d : D} {bd : D} (h : ∀ z r, d ≠ .tup (.str z :: r)) : fu [.t d, .t bd] = some (.t (.bl false), []) := by
  have e1:=rK d 1 4
  cases d with
  | tup ds =>
    cases ds with
    | nil=>simp[fu,aQ,cR,e1,fT,aE]
    | cons a r=>
      have e2:iN a=false:=by
        cases a with
        | str z=>exact absurd rfl (h z r)
        | _=>rfl
      cases q:fT (.tup (a :: r)) 1 4 with
      | false=>rw[q] at e1;simp[fu,aQ,cR,e1,aE]
      | true=>rw[q] at e1;simp[fu,aQ,cR,e1,aE,bY,bV,dj,e2]
  | _=>simp[fu,aQ,cR,e1,fT,aE]
theorem cU (z:Str):iN (.str z)=true:=rfl
theorem Gw {d : D} (h : Sm d) (bs : List Str) : fu [.t d, .t (.tup (bs.map D.str))] = some (.t (.bl (oX bs d)), []) := by
  by_cases hz:∃z r,d= .tup (.str z :: r)
  · obtain ⟨z, r, rfl⟩ := hz
    have e1:=rK (.tup (.str z :: r)) 1 4
    have hl:fj z=(jY VN z).getD 0:=rfl
    unfold VN at hl
    have dz:bZ (.str z)=0:=rfl
    have es:oX bs (.tup (.str z :: r))=cM bs z r:=rfl
    rw[es]
    by_cases q:(r.length:Int)+1≤4
    · have e2 : fT (.tup (.str z :: r)) 1 4 = true := by
        have:(1:Int)≤(r.length:Int)+1:=by omega
        simp[fT,q,this]
      rw[e2] at e1
      unfold cM
      by_cases c:fj z=(r.length:Int)+1
      · rw[if_pos c]
        rw[hl] at c
        cases r with
        | nil =>
          by_cases n1:z="now"
          · subst n1;exact absurd c (by decide)
          · by_cases n2:z="within"
            · subst n2;exact absurd c (by decide)
            · cases n3:cB z with
              | true=>
                exfalso
                simp only[cB,HF,inD,List.map_cons,List.map_nil,List.any_cons,List.any_nil,Bool.or_false,wF,Bool.or_eq_true,beq_iff_eq] at n3
                rcases n3 with rfl | rfl <;> exact absurd c (by decide)
              | false=>
                unfold cB HF at n3
                simp only[List.map_cons,List.map_nil] at n3
                simp at c
                simp[fu,aQ,cR,e1,aE,bY,bV,dj,cU,c,n1,n2,n3]
        | cons a r2=>
          have ha:=h.mem (x:=a) (by simp)
          by_cases n1:z="now"
          · have t:=LM ha bs
            simp at c
            simp[fu,aQ,cR,e1,aE,bY,dH,bV,dj,cU,c,eq_true n1,t]
          · by_cases n2:z="within"
            · have w:=zQ a 0 5
              simp at c
              simp[fu,aQ,cR,e1,aE,bY,dH,bV,dj,cU,c,n1,eq_true n2,w]
            · cases n3:cB z with
              | true=>
                have n4:=n3
                unfold cB HF at n4
                simp only[List.map_cons,List.map_nil] at n4
                have na:=nL ha
                cases r2 with
                | nil=>
                  exfalso
                  simp only[List.length_singleton] at c
                  simp only[cB,HF,inD,List.map_cons,List.map_nil,List.any_cons,List.any_nil,Bool.or_false,wF,Bool.or_eq_true,beq_iff_eq] at n3
                  rcases n3 with rfl | rfl <;> exact absurd c (by decide)
                | cons b r3=>
                  have nb:=nL (h.mem (x:=b) (by simp))
                  simp at c
                  cases qa:nameB a with
                  | true=>rw[qa] at na;simp[fu,aQ,cR,e1,aE,bY,dH,uu,bV,dj,cU,c,n1,n2,n4,na,nb,qa]
                  | false=>rw[qa] at na;simp[fu,aQ,cR,e1,aE,bY,dH,uu,bV,dj,cU,c,n1,n2,n4,na,nb,qa]
              | false=>
                have n4:=n3
                unfold cB HF at n4
                simp only[List.map_cons,List.map_nil] at n4
                simp at c
                simp[fu,aQ,cR,e1,aE,bY,dH,bV,dj,cU,c,n1,n2,n4]
      · rw[if_neg c]
        rw[hl] at c
        simp[fu,aQ,cR,e1,aE,bY,bV,dj,cU,c]
    · have e2:fT (.tup (.str z :: r)) 1 4=false:=by simp[fT,q]
      rw[e2] at e1
      have c:¬fj z=(r.length:Int)+1:=by have:=LN z;omega
      unfold cM
      rw[if_neg c]
      simp[fu,aQ,cR,e1,aE]
  · have:oX bs d=false:=by
      unfold oX
      split
      · rename_i z r;exact absurd ⟨z,r,rfl⟩ hz
      · rfl
    rw[this]
    exact Gv fun z r e=>hz ⟨z,r,e⟩
end Ss
end
section
set_option Elab.async false
set_option linter.all false
set_option maxRecDepth 100000
namespace Ss
open PySem PySem.Spec PyProof.Rows L2 Sw
noncomputable def strOf:D→Str
 | .str z=>z
 | _=>""
noncomputable def bD (bs:List Str) (z:Str) (r:List D):List Str:=if cB z=true then bs++[strOf (r.getD 1 .cW)] else bs
noncomputable def bE (z:Str) (r:List D):List D:=(.str z :: r).drop (ez z)
noncomputable def dc:Nat→List Str→D→Bool
 | 0,_,_=>false
 | n+1,bs,.tup (.str z :: r)=>cM bs z r && (bE z r).all (dc n (bD bs z r))
 | _+1,_,_=>false
noncomputable def fK (lY:FM) (iX:FM) (eZ:FM) (fq:FM):GS:=
 (aJ (gQ (oH (qB (eF (eP pS (aa (eF (aq 2)) (aa (eC (.int 0)) ak))))) (gM (qB (eF (aL lY (aP (eF (aq 0)) (aP (eF (aq 1)) br))))))) (bR (eT (eC (.bl false)))) cS)
 (aJ (bH 3 (aL iX (aP (eF (aq 0)) (aP (eF (aq 1)) br))))
 (bR (eP Dt (aa (eF (fB [3,2] (iT (eF (aL eZ (aP (eF (aq 0)) br)))) dP (eF (aL fq (aP (eF (aq 0)) (aP (eF (aq 1)) (aP (eF (eP kZ (aa (eF (aq 2)) (aa (eC (.int 1)) ak)))) br))))))) ak)))))
noncomputable def qA:Nat→FM
 | 0=>fun _=>none
 | j+1=>aQ 4 (fK fu oV m5 (qA j))
theorem Jo (j:Nat):∀us r,qA (j+1) us=some r→aQ 4 (fK fu oV m5 (qA j)) us=some r:=fun _ _ h=>h
theorem ie {bs:List Str}{z:Str}{r:List D}(h:cM bs z r=true):fj z=(r.length:Int)+1∧xB z∧z∈lW:=by
 unfold cM at h
 split at h
 ·rename_i c
  have:=qz (z:=z) (by omega)
  exact⟨c,wG z this,this⟩
 ·cases h
theorem Ce {d:D}(h:nameB d=true):∃y,d= .str y:=by
 cases d with
 | str z=>exact⟨z,rfl⟩
 | _=>cases h
theorem rL {z:Str}(h:cB z=true):z="each"∨z="one":=by
 simp only[cB,HF,inD,List.map_cons,List.map_nil,List.any_cons,List.any_nil,Bool.or_false,wF,Bool.or_eq_true,beq_iff_eq] at h
 rcases h with h | h
 ·exact .inl h.symm
 ·exact .inr h.symm
theorem zS {bs:List Str}{z:Str}{r:List D}(h:cM bs z r=true) (hb:cB z=true):∃a y p,r=[a,.str y,p]∧nameB a=true∧nameB (.str y)=true:=by
 obtain⟨c,_,_⟩:=ie h
 have hl:fj z=4:=by rcases rL hb with rfl | rfl <;> decide
 have n1:¬z="now":=by rcases rL hb with rfl | rfl <;> decide
 have n2:¬z="within":=by rcases rL hb with rfl | rfl <;> decide
 unfold cM at h
 rw[if_pos c] at h
 match r,c,h with
 | [],c,h=>simp at c;omega
 | [a],c,h=>simp at c;omega
 | [a,b],c,h=>simp at c;omega
 | [a,b,p],c,h=>
  simp only[n1,n2,if_false,hb,if_true,Bool.and_eq_true] at h
  obtain⟨y,rfl⟩:=Ce h.2
  exact⟨a,y,p,rfl,h.1,h.2⟩
 | a :: b :: p :: q :: t,c,h=>simp only[List.length_cons] at c;omega
theorem Jp {bs:List Str}{z:Str}{r:List D}(h:cM bs z r=true) (hl:bs.length≤1000):oV [.t (.tup (.str z :: r)),.t (.tup (bs.map D.str))]=some (.t (.tup ((bD bs z r).map D.str)),[]):=by
 cases hb:cB z with
 | false=>
  rw[Jm hb]
  unfold bD
  rw[hb]
  rfl
 | true=>
  obtain⟨a,y,p,rfl,_,_⟩:=zS h hb
  rw[Gu hb (by rw[List.length_map];exact hl)]
  unfold bD
  rw[if_pos hb,List.map_append]
  rfl
theorem Gx (bs:List Str) (z:Str) (r:List D):(bD bs z r).length≤bs.length+1:=by
 unfold bD
 split
 ·rw[List.length_append];exact Nat.le_refl _
 ·omega
theorem Gy {z:Str}{r:List D}{x:D}(h:xB z) (hx:x∈bE z r):x∈r:=by
 unfold bE at hx
 obtain⟨k,hk⟩:∃k,ez z=k+1:=⟨ez z - 1,by have:=h.s1;omega⟩
 rw[hk,List.drop_succ_cons] at hx
 exact List.mem_of_mem_drop hx
theorem nO {z:Str}{r:List D}(h:xB z) (c:fj z=(r.length:Int)+1):(bE z r).length≤2:=by
 unfold bE
 rw[List.length_drop,List.length_cons]
 have:=h.few
 omega
theorem DI {f1 f2 f3 f4:FM}{d bd:D}{m:Int}(m0:m≠0) (e1:f1 [.t d,.t bd]=some (.t (.bl false),[])):aQ 4 (fK f1 f2 f3 f4) [.t d,.t bd,.t (.int m)]=some (.t (.bl false),[]):=by
 simp[aQ,fK,aE,m0,e1]
theorem Gz {f1 f2 f3 f4:FM}{d bd ib:D}{m:Int}{pl ql:List D}{qs:List Bool}{b:Bool}(m0:m≠0) (e1:f1 [.t d,.t bd]=some (.t (.bl true),[])) (e2:f2 [.t d,.t bd]=some (.t ib,[])) (e3:f3 [.t d]=some (.t (.tup pl),[]))
  (e4:gW [3,2] dP (eF (aL f4 (aP (eF (aq 0)) (aP (eF (aq 1)) (aP (eF (eP kZ (aa (eF (aq 2)) (aa (eC (.int 1)) ak)))) br))))) pl [some (.t d),some (.t bd),some (.t (.int m)),some (.t ib)] []=some (ql,[some (.t d),some (.t bd),some (.t (.int m)),some (.t ib)])) (e5:pl.length≤100000) (e6:lz ql=some qs) (e7:qs.all id=b):aQ 4 (fK f1 f2 f3 f4) [.t d,.t bd,.t (.int m)]=some (.t (.bl b),[]):=by
 simp[aQ,fK,aE,m0,e1,e2,j3,e3,e4,e5,e6,←e7]
theorem E6 : ∀ (n j : Nat), n ≤ j → ∀ (d : D) (bs : List Str), Sm d → bs.length + n ≤ 100 → qA (j + 1) [.t d, .t (.tup (bs.map D.str)), .t (.int (n : Int))] = some (.t (.bl (dc n bs d)), [])
  | 0,j,_,d,bs,_,_=>by simp[qA,aQ,fK,aE,dc]
  | n+1,0,h,_,_,_,_=>by omega
  | n + 1, j + 1, hj, d, bs, hd, hb => by
    have e1:=Gw hd bs
    have n0:¬((n:Int)+1=0):=by omega
    have ef:dc (n+1) bs d=(oX bs d && (match d with | .tup (.str z :: r)=>(bE z r).all (dc n (bD bs z r)) | _=>false)):=by
      cases d with
      | tup ds=>
        cases ds with
        | nil=>rfl
        | cons a r=>cases a <;> rfl
      | _=>rfl
    rw[ef]
    cases q:oX bs d with
    | false=>
      rw[q] at e1
      exact DI (by omega) e1
    | true=>
      rw[q] at e1
      obtain⟨z,r,rfl⟩:∃z r,d= .tup (.str z :: r):=by
        unfold oX at q
        split at q
        · exact⟨_,_,rfl⟩
        · cases q
      have hs:cM bs z r=true:=q
      obtain⟨c,hh,_⟩:=ie hs
      have e2:=Jp hs (by omega)
      have e3:=Cd (r:=r) hh
      have il:=Gx bs z r
      have e4:=jm (cap:=[3,2]) (g:=eF (aL (qA (j+1)) (aP (eF (aq 0)) (aP (eF (aq 1)) (aP (eF (eP kZ (aa (eF (aq 2)) (aa (eC (.int 1)) ak)))) br))))) (S:=[some (.t (.tup (.str z :: r))),some (.t (.tup (bs.map D.str))),some (.t (.int ((n+1:Nat):Int))),some (.t (.tup ((bD bs z r).map D.str)))])
        (ts:=[.tup ((bD bs z r).map D.str),.int ((n+1:Nat):Int)]) rfl (fun p=>.bl (dc n (bD bs z r) p)) (bE z r) [] (by
          intro p hp
          have ih:=E6 n j (by omega) p (bD bs z r) (hd.mem (List.mem_cons_of_mem _ (Gy hh hp))) (by omega)
          have en:((n+1:Nat):Int) - 1=(n:Int):=by omega
          simp[-Int.natCast_add,en,ih])
      have e5:(bE z r).length≤100000:=by have:=nO hh c;omega
      have e6:=rJ (dc n (bD bs z r)) (bE z r)
      rw[List.nil_append] at e4
      have e7:((bE z r).map (dc n (bD bs z r))).all id=(bE z r).all (dc n (bD bs z r)):=by rw[List.all_map];rfl
      exact Gz (by omega) e1 e2 e3 e4 e5 e6 (by rw[e7,Bool.true_and])
noncomputable def gX:Nat→D→List D
 | 0,_=>[]
 | n+1,.tup (.str z :: r)=>.tup (.str z :: r) :: (bE z r).flatMap (gX n)
 | _+1,d=>[d]
noncomputable def u6 (eZ:FM) (eB:FM):GS:=
 (sA (eT (eM 1 oN (aa (eF (aL eB (aP (eF (aq 2)) br))) ak))))
noncomputable def qC (eZ:FM) (eB:FM):GS:=
 (aJ (bH 1 (eP dg (aa (eF (aq 0)) ak)))
 (aJ (iF (bName 2) (iT (eF (aL eZ (aP (eF (aq 0)) br)))) (u6 eZ eB))
 (bR (aq 1))))
noncomputable def xC:Nat→FM
 | 0=>fun _=>none
 | j+1=>aQ 3 (qC m5 (xC j))
theorem LO (j:Nat):∀us r,xC (j+1) us=some r→aQ 3 (qC m5 (xC j)) us=some r:=fun _ _ h=>h
theorem xD {f:D→List D}{k:Nat}:∀{ps:List D},(∀p∈ps,(f p).length≤k)→(ps.flatMap f).length≤k * ps.length
 | [],_=>Nat.zero_le _
 | p :: ps,h=>by
  have ih:=xD (f:=f) (k:=k) (ps:=ps) fun q hq=>h q (List.mem_cons_of_mem _ hq)
  have h1:=h p List.mem_cons_self
  rw[List.flatMap_cons,List.length_append,List.length_cons,Nat.mul_succ]
  omega
theorem j5 {n : Nat} {bs : List Str} {d : D} (h : dc (n + 1) bs d = true) : ∃ z r, d = .tup (.str z :: r) ∧ cM bs z r = true ∧ ∀ p ∈ bE z r, dc n (bD bs z r) p = true := by
  cases d with
  | tup ds =>
    cases ds with
    | nil=>cases h
    | cons a r=>
      cases a with
      | str z=>
        obtain⟨h1,h2⟩:=Bool.and_eq_true_iff.mp (show(cM bs z r && (bE z r).all (dc n (bD bs z r)))=true from h)
        exact⟨z,r,rfl,h1,fun p hp=>List.all_eq_true.mp h2 p hp⟩
      | _=>cases h
  | _=>cases h
theorem wH:∀{n:Nat}{bs:List Str}{d:D},dc n bs d=true→(gX n d).length≤3 ^ n
 | 0,_,_,h=>by cases h
 | n+1,bs,d,h=>by
  obtain⟨z,r,rfl,h1,h2⟩:=j5 h
  obtain⟨c,hh,_⟩:=ie h1
  have:=xD (f:=gX n) (k:=3 ^ n) (ps:=bE z r) fun p hp=>wH (h2 p hp)
  have h3:=Nat.mul_le_mul_left (3 ^ n) (nO hh c)
  have h4:1≤3 ^ n:=Nat.one_le_pow _ _ (by decide)
  show((bE z r).flatMap (gX n)).length+1≤3 ^ (n+1)
  rw[Nat.pow_succ]
  omega
theorem DJ : ∀ (n j : Nat), n ≤ j → n ≤ 8 → ∀ (d : D) (bs : List Str), dc n bs d = true → xC j [.t d] = some (.m (.lst (gX n d)), [])
  | 0,_,_,_,_,_,h=>by cases h
  | n+1,0,h,_,_,_,_=>by omega
  | n + 1, j + 1, hj, h8, d, bs, h => by
    obtain⟨z,r,rfl,h1,h2⟩:=j5 h
    obtain⟨c,hh,_⟩:=ie h1
    have e3:m5 [.t (.tup (.str z :: r))]=some (.t (.tup (bE z r)),[]):=Cd (r:=r) hh
    have pl:=nO hh c
    have pw:3 ^ n≤3 ^ 7:=Nat.pow_le_pow_right (by decide) (by omega)
    obtain⟨S',e,x2,q2,hs⟩:=iW (bd:=bName 2) (body:=u6 m5 (xC j)) (bE z r)
      (fun k S=>∃x2,jX x2=false∧S=[some (.t (.tup (.str z :: r))),some (.m (.lst (.tup (.str z :: r) :: ((bE z r).take k).flatMap (gX n)))),x2])
      [some (.t (.tup (.str z :: r))),some (.m (.lst [.tup (.str z :: r)])),none] ⟨none,rfl,rfl⟩ (by
        rintro k p S hp ⟨x2,q2,rfl⟩
        have hm:=List.mem_of_getElem? hp
        have ih:=DJ n j (by omega) (by omega) p _ (h2 p hm)
        have il:=wH (h2 p hm)
        have fl:=xD (f:=gX n) (k:=3 ^ n) (ps:=(bE z r).take k) fun p hp=>wH (h2 p (List.mem_of_mem_take hp))
        have tl:((bE z r).take k).length≤2:=by rw[List.length_take];omega
        have fl2:=Nat.mul_le_mul_left (3 ^ n) tl
        have h37:(3:Nat) ^ 7=2187:=by decide
        have b1:(((bE z r).take k).flatMap (gX n)).length+1+(gX n p).length≤100000:=by omega
        refine⟨[some (.t (.tup (.str z :: r))),some (.m (.lst (.tup (.str z :: r) :: ((bE z r).take k).flatMap (gX n)))),some (.t p)],_,by simp[-fX,dX,q2],?_,some (.t p),rfl,rfl⟩
        rw[List.take_succ,hp]
        simp only[Option.toList_some]
        rw[List.flatMap_append]
        generalize ((bE z r).take k).flatMap (gX n)=A at *
        simp[u6,ih,b1])
    rw[List.take_length] at hs
    subst hs
    show aQ 3 _ _=some (.m (.lst (.tup (.str z :: r) :: (bE z r).flatMap (gX n))),[])
    simp[aQ,qC,aE,j3,e3,e]
noncomputable def iM (n:Nat) (d:D):Nat:=(gX n d).length
noncomputable def AK:D→Bool
 | .tup (.str z :: _)=>cB z
 | _=>false
noncomputable def mH (n:Nat) (d:D):Nat:=((gX n d).filter AK).length
theorem Cf:∀{n:Nat}{bs:List Str}{d:D},dc n bs d=true→∀x∈gX n d,∃z r,x= .tup (.str z :: r)
  | 0,_,_,h=>by cases h
  | n + 1, bs, d, h => by
    obtain⟨z,r,rfl,h1,h2⟩:=j5 h
    intro x hx
    rcases List.mem_cons.mp (show x∈.tup (.str z :: r) :: (bE z r).flatMap (gX n) from hx) with q | q
    · exact⟨z,r,q⟩
    · obtain⟨p,hp,hx⟩:=List.mem_flatMap.mp q
      exact Cf (h2 p hp) x hx
noncomputable def xE (eB:FM):GS:=
 (bR (eP Ar (aa (eF (aL eB (aP (eF (aq 0)) br))) ak)))
noncomputable def zT:FM:=aQ 1 (xE (xC 9))
theorem Jq:∀us r,zT us=some r→aQ 1 (xE (xC 9)) us=some r:=fun _ _ h=>h
theorem LP {n:Nat}{bs:List Str}{d:D}(hn:n≤8) (h:dc n bs d=true):zT [.t d]=some (.t (.int (iM n d:Nat)),[]):=by
 have e:=DJ n 9 (by omega) hn d bs h
 unfold iM
 simp[zT,aQ,xE,e,aE]
noncomputable def jO (eB:FM):GS:=
 (bR (eP Ar (aa (eF (fB [] (iT (eF (aL eB (aP (eF (aq 0)) br)))) (qB (AB false ["each","one"] (bC 0 (eC (.int 0))))) (eF (aq 0)))) ak)))
noncomputable def zU:FM:=aQ 1 (jO (xC 9))
theorem Jr:∀us r,zU us=some r→aQ 1 (jO (xC 9)) us=some r:=fun _ _ h=>h
theorem LQ {n:Nat}{bs:List Str}{d:D}(hn:n≤8) (h:dc n bs d=true):zU [.t d]=some (.t (.int (mH n d:Nat)),[]):=by
 have e:=DJ n 9 (by omega) hn d bs h
 have pw:3 ^ n≤3 ^ 8:=Nat.pow_le_pow_right (by decide) (by omega)
 have al:=wH h
 have e2:=ur (cap:=[]) (q:=qB (AB false ["each","one"] (bC 0 (eC (.int 0))))) (g:=eF (aq 0)) (S:=[some (.t d)]) (ts:=[]) rfl AK (fun d=>d) (gX n d) [] (by
  intro x hx
  obtain⟨z,r,rfl⟩:=Cf h x hx
  have:AK (.tup (.str z :: r))=cB z:=rfl
  rw[this]
  unfold cB HF
  simp[bY]) (by intro x hx _;simp)
 rw[List.nil_append,List.map_id'] at e2
 have h38:(3:Nat) ^ 8=6561:=by decide
 have e3:(gX n d).length≤100000:=by omega
 unfold mH
 simp[zU,aQ,jO,e,j3,e2,e3,aE]
noncomputable def gz (fq:FM) (Cg:FM) (kO:FM):GS:=
 (aJ (gQ (gM (qB (eF (aL fq (aP (eF (aq 0)) (aP (eF (eP bf ak)) (aP (eC (.int 8)) br))))))) (bR (eT (eC (.bl false)))) cS)
 (bR (eT (eQ (gC (qB (eF (eP IK (aa (eF (aL Cg (aP (eF (aq 0)) br))) (aa (eC (.int 16)) ak))))) (qB (eF (eP IK (aa (eF (aL kO (aP (eF (aq 0)) br))) (aa (eC (.int 3)) ak))))))))))
noncomputable def qD (d:D):Bool:=dc 8 [] d && (decide (iM 8 d≤16) && decide (mH 8 d≤3))
noncomputable def oY:FM:=aQ 1 (gz (qA 9) zT zU)
theorem GC:∀us r,oY us=some r→aQ 1 (gz (qA 9) zT zU) us=some r:=fun _ _ h=>h
theorem Js {d : D} (h : Sm d) : oY [.t d] = some (.t (.bl (qD d)), []) := by
  have e1:=E6 8 8 (Nat.le_refl _) d [] h (by decide)
  simp only[List.map_nil] at e1
  unfold qD
  have e1:qA 9 [.t d,.t (.tup []),.t (.int 8)]=some (.t (.bl (dc 8 [] d)),[]):=e1
  cases q:dc 8 [] d with
  | false=>rw[q] at e1;simp[oY,aQ,gz,e1,aE]
  | true=>
    rw[q] at e1
    have e2:=LP (by decide) q
    have e3:=LQ (by decide) q
    by_cases c1:iM 8 d≤16
    · have c2:(iM 8 d:Int)≤16:=by omega
      by_cases c3:mH 8 d≤3
      · have c4:(mH 8 d:Int)≤3:=by omega
        simp[oY,aQ,gz,e1,e2,e3,aE,c1,c2,c3,c4]
      · have c4:¬(mH 8 d:Int)≤3:=by omega
        simp[oY,aQ,gz,e1,e2,e3,aE,c1,c2,c3,c4]
    · have c2:¬(iM 8 d:Int)≤16:=by omega
      simp[oY,aQ,gz,e1,e2,aE,c1,c2]
end Ss
end
section
set_option Elab.async false
set_option linter.all false
set_option maxRecDepth 100000
namespace Sd
open PySem PySem.Spec PyProof.Rows L2 Sw Ss
@[simp] theorem VO (yO:List (Str×GD)) (S:SS):xh yO S=(qm yO S).map fun p=>(.m (.dct (fW [] p.1)),p.2):=rfl
@[simp] theorem LR (S:SS):qm [] S=some ([],S):=rfl
@[simp] theorem Ky (z:Str) (g:GD) (r:List (Str×GD)) (S:SS):qm ((z,g) :: r) S=(g S).bind fun p=>(qm r p.2).map fun q=>((.inr z,p.1) :: q.1,q.2):=rfl
@[simp] theorem VP (i:Nat) (ge:GE) (S:SS):B6 i ge S=match S[i]? with
 | some (some u)=>if xq u then(ge S).bind fun p=>match p.1 with
  | .m (.dct more)=>qc p.2 i fun o=>match o with
   | .dct kvs=>if kvs.length+more.length≤100000 then some (.cW,.dct (fW kvs more)) else none
   | _=>none
  | _=>none
  else none
 | _=>none:=rfl
@[simp] theorem VQ (i:Nat) (gk gd:GD) (S:SS):zN i gk gd S=match S[i]? with
 | some (some u)=>if xq u then(gk S).bind fun p=>(gd p.2).bind fun q=>match q.2[i]? with
  | some (some u2)=>(Jd u2 p.1).map fun o=>(o.getD q.1,q.2)
  | _=>none
  else none
 | _=>none:=rfl
@[simp] theorem VR (kvs:List (Key×D)):xq (.m (.dct kvs))=true:=rfl
@[simp] theorem YA (kvs:List (Key×D)) (k:D):Jd (.m (.dct kvs)) k=(keyOf k).map (dh kvs):=rfl
theorem LS (kvs:List (Key×D)) (k:Key) (d:D):(putD kvs k d).length≤kvs.length+1:=by
 unfold putD
 split
 ·rw[List.length_map];omega
 ·rw[List.length_append];exact Nat.le_refl _
theorem u9:∀(more kvs:List (Key×D)),(fW kvs more).length≤kvs.length+more.length
 | [],kvs=>Nat.le_refl _
 | p :: r,kvs=>by
  have h1:=u9 r (putD kvs p.1 p.2)
  have h2:=LS kvs p.1 p.2
  show(fW (putD kvs p.1 p.2) r).length≤_
  rw[List.length_cons]
  omega
theorem Jt {kvs:List (Key×D)}{k:Key}{d:D}{x:Key}(h:x∈(putD kvs k d).map (·.1)):x∈kvs.map (·.1)∨x=k:=by
 unfold putD at h
 split at h
 ·rw[List.map_map] at h
  obtain⟨kv,h1,h2⟩:=List.mem_map.mp h
  simp only[Function.comp] at h2
  split at h2
  ·exact .inl (List.mem_map.mpr ⟨kv,h1,h2⟩)
  ·exact .inl (List.mem_map.mpr ⟨kv,h1,h2⟩)
 ·rw[List.map_append] at h
  rcases List.mem_append.mp h with q | q
  ·exact .inl q
  ·exact .inr (by simpa using q)
theorem oZ:∀{more kvs:List (Key×D)}{x:Key},x∈(fW kvs more).map (·.1)→x∈kvs.map (·.1)∨x∈more.map (·.1)
  | [],kvs,x,h=>.inl h
  | p :: r, kvs, x, h => by
    rcases oZ (more:=r) (kvs:=putD kvs p.1 p.2) h with q | q
    · rcases Jt q with y | y
      · exact .inl y
      · exact .inr (by rw[y];exact List.mem_cons_self)
    · exact .inr (List.mem_cons_of_mem _ q)
theorem DK {kvs:List (Key×D)}{k:Key}(h:k∉kvs.map (·.1)):dh kvs k=none:=by
 unfold dh
 have:kvs.find? (fun kv=>decide (kv.1=k))=none:=List.find?_eq_none.mpr fun p hp q=>h (by rw[←of_decide_eq_true q];exact List.mem_map_of_mem hp)
 rw[this]
 rfl
theorem zV {b:D}(h:iN b=false) (zs:List Str):inD b (zs.map D.str)=false:=by
 unfold inD
 rw[List.any_map,List.any_eq_false]
 intro z _ q
 have:=Gk (show jC (.str z) b=true from q)
 subst this
 cases h
theorem xF (x:D) (zs:List Str):lu [x,.tup (zs.map D.str)]=some (.t (.bl (!inD x (zs.map D.str)))):=by
 have:bM (zs.map D.str)≤40:=by rw[L2.lV];omega
 cases x <;> simp[lu,this]
theorem E7:fj "now" =2∧fj "within" =3:=by decide
theorem uv (n:Nat) (z:Str) (r:List D):(iM (n+1) (.tup (.str z :: r)):Int)=1+(((bE z r).flatMap (gX n)).length:Int):=by
 unfold iM
 show(((.tup (.str z :: r):D) :: (bE z r).flatMap (gX n)).length:Int)=_
 rw[List.length_cons]
 push_cast
 omega
theorem wI (n:Nat) (z:Str) (r:List D):(mH (n+1) (.tup (.str z :: r)):Int)=(if cB z=true then 1 else 0)+((((bE z r).flatMap (gX n)).filter AK).length:Int):=by
 unfold mH
 show((((.tup (.str z :: r):D) :: (bE z r).flatMap (gX n)).filter AK).length:Int)=_
 by_cases h:cB z=true
 ·rw[List.filter_cons_of_pos (by exact h),if_pos h,List.length_cons]
  push_cast
  omega
 ·rw[List.filter_cons_of_neg (by exact h),if_neg h]
  omega
theorem lZ (n:Nat) (bs:List Str) (z:Str) (r:List D):dc (n+1) bs (.tup (.str z :: r))=true↔cM bs z r=true∧∀p∈bE z r,dc n (bD bs z r) p=true:=by
 show(cM bs z r && (bE z r).all (dc n (bD bs z r)))=true↔_
 rw[Bool.and_eq_true_iff,List.all_eq_true]
theorem Ci {bs:List Str}{z:Str}{r:List D}(c:fj z=(r.length:Int)+1) (n1:¬z="now") (n2:¬(z="within"∧gP (r.getD 0 .cW) 0 5=false)) (hb:cB z=false):cM bs z r=true:=by
 unfold cM
 rw[if_pos c]
 cases r with
 | nil=>rfl
 | cons a q=>
  simp only[n1,if_false,hb]
  by_cases k:z="within"
  ·rw[if_pos k]
   cases w:gP a 0 5 with
   | true=>rfl
   | false=>exact absurd ⟨k,w⟩ n2
  ·rw[if_neg k]
   rfl
structure Dr (deep:Nat) (bs:List Str) (room:Nat) (bin:Nat) (d:D):Prop where
 fm:dc deep bs d=true
 sz:iM deep d≤room
 bn:mH deep d=bin
 fit:sr 8 d
 dep:bZ d≤deep+1
theorem jP {x:D}{l:List D}{i:Int}(h0:0≤i) (h1:i < l.length):∃y,gZ l i=some y∧y∈l:=by
 obtain⟨y,a,b⟩:=Sq.OM (l:=l) h0 h1
 exact⟨y,a,List.mem_of_getElem? b⟩
theorem Cj (bs:List Str) (a b:D):gr bs (.tup [a,b])=if jC a (.str "name")=true then nameB b else inD a (AI.map D.str) && (gP b 0 9 || inD b (bs.map D.str)):=rfl
theorem YB {n room:Nat}{bs:List Str}{z:Str}{r:List D}(sh:cM bs z r=true) (pl:bE z r=[]) (nb:cB z=false) (hr:1≤room) (fit:sr 8 (.tup (.str z :: r))) (dep:bZ (.tup (.str z :: r))≤n+2):Dr (n+1) bs room 0 (.tup (.str z :: r)):=by
 have es:=uv n z r
 have eb:=wI n z r
 rw[pl] at es eb
 rw[nb] at eb
 simp at es eb
 exact⟨(lZ n bs z r).mpr ⟨sh,by rw[pl];simp⟩,by omega,by omega,fit,dep⟩
theorem VS {n room b:Nat}{bs:List Str}{z:Str}{r:List D}{p:D}(sh:cM bs z r=true) (pl:bE z r=[p]) (h:Dr n (bD bs z r) room b p) (fit:sr 8 (.tup (.str z :: r))) (dep:bZ (.tup (.str z :: r))≤n+2):Dr (n+1) bs (room+1) ((if cB z=true then 1 else 0)+b) (.tup (.str z :: r)):=by
 have es:=uv n z r
 have eb:=wI n z r
 rw[pl] at es eb
 have e1:([p].flatMap (gX n)).length=iM n p:=by simp[iM]
 have e2:(([p].flatMap (gX n)).filter AK).length=mH n p:=by simp[mH]
 rw[e1] at es
 rw[e2] at eb
 have:=h.sz
 have:=h.bn
 refine⟨(lZ n bs z r).mpr ⟨sh,by rw[pl];intro q hq;rw[show q=p by simpa using hq];exact h.fm⟩,by omega,?_,fit,dep⟩
 by_cases hb:cB z=true
 ·rw[if_pos hb] at eb ⊢;omega
 ·rw[if_neg hb] at eb ⊢;omega
theorem dr2 {n r1 r2 b1 b2:Nat}{bs:List Str}{z:Str}{r:List D}{p q:D}(sh:cM bs z r=true) (pl:bE z r=[p,q]) (nb:cB z=false) (h1:Dr n bs r1 b1 p) (h2:Dr n bs r2 b2 q) (fit:sr 8 (.tup (.str z :: r))) (dep:bZ (.tup (.str z :: r))≤n+2):Dr (n+1) bs (r1+r2+1) (b1+b2) (.tup (.str z :: r)):=by
 have es:=uv n z r
 have eb:=wI n z r
 rw[pl] at es eb
 have e1:([p,q].flatMap (gX n)).length=iM n p+iM n q:=by simp[iM]
 have e2:(([p,q].flatMap (gX n)).filter AK).length=mH n p+mH n q:=by simp[mH]
 rw[e1] at es
 rw[e2,nb] at eb
 simp at eb
 have:=h1.sz
 have:=h1.bn
 have:=h2.sz
 have:=h2.bn
 have ib:bD bs z r=bs:=by unfold bD;rw[if_neg (by rw[nb];simp)]
 refine⟨(lZ n bs z r).mpr ⟨sh,by rw[pl,ib];intro x hx;simp at hx;rcases hx with rfl | rfl;exact h1.fm;exact h2.fm⟩,by omega,by omega,fit,dep⟩
theorem Dr.more {n room Ck b:Nat}{bs:List Str}{d:D}(h:Dr n bs room b d) (hr:room≤Ck):Dr n bs Ck b d:=⟨h.fm,Nat.le_trans h.sz hr,h.bn,h.fit,h.dep⟩
theorem Ju {z:Str}(h:z.length≤8):sr 8 (.str z):=h
theorem kP {bs:List Str}{z:Str}{r:List D}(c:fj z=(r.length:Int)+1) (n1:z≠"now") (n2:z≠"within") (hb:cB z=false):cM bs z r=true:=Ci c n1 (fun q=>n2 q.1) hb
end Sd
end
section
set_option Elab.async false
set_option linter.all false
set_option maxRecDepth 100000
namespace Sd
open PySem PySem.Spec PyProof.Rows L2 Sw Ss
noncomputable def ig:GS:=
 (aJ (gQ (oH (gM (qB (rZ ["str"] (eF (aq 0))))) (oH (qB (eF (eP ER (aa (gn 0) (aa (eC (.int 1)) ak))))) (qB (eF (eP Dp (aa (gn 0) (aa (eC (.int 8)) ak))))))) (bR (eT (eC (.bl false)))) cS)
 (bR (eP pS (aa (eF (fB [] (iT (eF (aq 0))) (qB (eF (eP lu (aa (eF (aq 0)) (aa (eC (.str "abcdefghijklmnopqrstuvwxyz")) ak))))) (eF (aq 0)))) (aa (eF (eP dg ak)) ak)))))
theorem GF : ∀ us r, lD us = some r → aQ 1 ig us = some r := by
  intro us r h
  unfold lD at h
  split at h
  · rename_i d
    obtain⟨hb,rfl⟩:=cX h
    cases d with
    | str z =>
      have hb:z.length≤20000:=hb
      have iV:=iV hb
      by_cases h1:(z.length:Int) < 1
      · have h2:¬1≤z.length:=by omega
        simp[aQ,ig,nameB,bV,dj,iN,iV,h1,h2]
      · by_cases h3:(8:Int) < z.length
        · have h2:¬z.length≤8:=by omega
          simp[aQ,ig,nameB,bV,dj,iN,iV,h1,h2,h3]
        · have h4:1≤z.length:=by omega
          have h5:z.length≤8:=by omega
          have h6:((Sw.signs z).map D.str).length≤100000:=by rw[List.length_map,zP];omega
          have ei:=Ca z
          generalize hx:Sw.signs z=xs at h6 ei
          have e:=ur (cap:=[]) (q:=qB (eF (eP lu (aa (eF (aq 0)) (aa (eC (.str "abcdefghijklmnopqrstuvwxyz")) ak))))) (g:=eF (aq 0)) (S:=[some (.t (.str z))]) (ts:=[]) rfl qy (fun d=>d) (xs.map D.str) [] (fun d hd=>by
            obtain⟨c,_,rfl⟩:=List.mem_map.mp hd
            simp[Gn,qy]) (fun d hd _=>by
            obtain⟨c,_,rfl⟩:=List.mem_map.mp hd
            simp)
          have e2:([]:List D)++((xs.map D.str).filter qy).map (fun d=>d)=(xs.filter fun y=>!pR y).map D.str:=by rw[xy];simp
          rw[e2] at e
          have e3:=eq_nil (xs.filter fun y=>!pR y)
          have e4:=Sw.lV (xs.filter fun y=>!pR y)
          rw[Cb xs] at e3
          generalize xs.map D.str=L at e ei h6
          generalize (xs.filter fun y=>!pR y).map D.str=M at e e3 e4
          simp[aQ,ig,nameB,bV,dj,iN,iV,h1,h3,h4,h5,ei,h6,e,e3,e4,hx]
    | _=>simp[aQ,ig,nameB,bV,dj,iN]
  · cases h
noncomputable def pe:GS:=
 (bR (eT (eQ (gC (qB (rZ ["int"] (eF (aq 0)))) (gC (qB (eQ (gM (qB (rZ ["bool"] (eF (aq 0))))))) (qB (Rt IK IK (eC (.int 0)) (eF (aq 0)) (eF (aq 1)))))))))
theorem DL:∀us r,iU us=some r→aQ 2 pe us=some r:=B8
noncomputable def cC (aR:FM) (aO:FM):GS:=
 (aJ (gQ (oH (gM (qB (rZ ["tuple"] (eF (aq 0))))) (oH (qB (eF (eP pS (aa (gn 0) (aa (eC (.int 0)) ak))))) (gM (qB (rZ ["str"] (bC 0 (eC (.int 0)))))))) (bR (eT (eC (.bl false)))) cS)
 (aJ (gQ (oH (qB (eF (eP pS (aa (bC 0 (eC (.int 0))) (aa (eC (.str "any")) ak))))) (qB (eF (eP Bt (aa (gn 0) (aa (eC (.int 2)) ak)))))) (bR (eP pS (aa (eF (aq 0)) (aa (eF (eP bf (aa (eC (.str "any")) ak))) ak)))) cS)
 (aJ (gQ (qB (eF (eP pS (aa (bC 0 (eC (.int 0))) (aa (eC (.str "name")) ak))))) (bR (aL aR (aP (bC 0 (eC (.int 1))) br))) cS)
 (aJ (gQ (qB (eF (eP lu (aa (bC 0 (eC (.int 0))) (aa (eF (eP bf (aa (eC (.str "less")) (aa (eC (.str "same")) (aa (eC (.str "more")) ak))))) ak))))) (bR (eT (eC (.bl false)))) cS)
 (bR (eT (eQ (oH (qB (eF (aL aO (aP (bC 0 (eC (.int 1))) (aP (eC (.int 9)) br))))) (qB (eQ (gC (qB (rZ ["str"] (bC 0 (eC (.int 1))))) (qB (eF (eP rY (aa (bC 0 (eC (.int 1))) (aa (eF (aq 1)) ak))))))))))))))))
noncomputable def ir:FM:=aQ 2 (cC lD iU)
theorem GG:∀us r,ir us=some r→aQ 2 (cC lD iU) us=some r:=fun _ _ h=>h
theorem OO (a:D) (r:List D):jC (.tup (a :: r)) (.tup [.str "any"])=(jC a (.str "any") && r.isEmpty):=by
 cases r <;> simp[jC,qg]
theorem Jv {d : D} (h : Sm d) (bs : List Str) : ir [.t d, .t (.tup (bs.map D.str))] = some (.t (.bl (gr bs d)), []) := by
  have DM:bZ d≤40:=by have:=h.2;omega
  cases d with
  | tup ds =>
    cases ds with
    | nil=>simp[ir,aQ,cC,aE,bV,dj,bU,gr]
    | cons a r=>
      cases qa:iN a with
      | false=>
        have e:gr bs (.tup (a :: r))=false:=by
          have n1:jC a (.str "any")=false:=by cases a <;> simp[jC] <;> cases qa
          have n2:jC a (.str "name")=false:=by cases a <;> simp[jC] <;> cases qa
          have n3:=zV qa AI
          match r with
          | []=>exact n1
          | [b]=>simp[gr,n2,n3]
          | _ :: _ :: _=>rfl
        rw[e]
        simp[ir,aQ,cC,aE,bV,dj,bU,bY,qa]
      | true=>
        obtain⟨s,rfl⟩:∃s,a= .str s:=by
          cases a with
          | str s=>exact⟨s,rfl⟩
          | _=>cases qa
        have i1:=xF (.str s) AI
        have tl:AI.map D.str=[.str "less",.str "same",.str "more"]:=rfl
        rw[tl] at i1
        have e1:=OO (.str s) r
        rw[wF] at e1
        by_cases n1:s="any"
        · have e:gr bs (.tup (.str s :: r))=r.isEmpty:=by
            subst n1
            match r with
            | []=>rfl
            | [b]=>rfl
            | _ :: _ :: _=>rfl
          have e1:jC (.tup (.str s :: r)) (.tup [.str "any"])=r.isEmpty:=by rw[e1,n1];simp
          rw[e]
          have z0:¬((r.length:Int)+1=0):=by omega
          simp[ir,aQ,cC,aE,bV,dj,bU,bY,cU,eq_true n1,z0,e1,DM]
        · have e1 : jC (.tup (.str s :: r)) (.tup [.str "any"]) = false := by rw [e1, beq_eq_false_iff_ne.mpr n1]; rfl
          match r,h,DM,e1 with
          | [],h,DM,e1=>
            have e:gr bs (.tup [.str s])=false:=by simp[gr,n1]
            rw[e]
            simp[ir,aQ,cC,aE,bV,dj,bU,bY,cU,n1,e1,DM]
          | [b], h, DM, e1 =>
            have hb:=h.mem (x:=b) (by simp)
            have nb:=nL hb
            have w:=vR b 9
            have i2:=mL b bs
            by_cases n2:s="name"
            · simp[ir,aQ,cC,aE,bV,dj,bU,bY,dH,cU,n1,i1,eq_true n2,nb,gr]
            · have e:gr bs (.tup [.str s,b])=(inD (.str s) (AI.map D.str) && (gP b 0 9 || inD b (bs.map D.str))):=by simp[gr,n2]
              rw[e,tl]
              cases q1:inD (.str s) [.str "less",.str "same",.str "more"] with
              | false=>
                rw[q1] at i1
                simp[ir,aQ,cC,aE,bV,dj,bU,bY,dH,cU,n1,n2,i1]
              | true=>
                rw[q1] at i1
                cases q3:gP b 0 9 with
                | true=>rw[q3] at w;simp[ir,aQ,cC,aE,bV,dj,bU,bY,dH,cU,n1,i1,n2,w]
                | false=>
                  rw[q3] at w
                  cases q4:iN b with
                  | true=>simp[ir,aQ,cC,aE,bV,dj,bU,bY,dH,cU,n1,i1,n2,w,q4,i2]
                  | false=>
                    have:=zV q4 bs
                    simp[ir,aQ,cC,aE,bV,dj,bU,bY,dH,cU,n1,i1,n2,w,q4,this]
          | b :: c :: r,h,DM,e1=>
            have:¬((r.length:Int)+1+1+1=2):=by omega
            have z0:¬((r.length:Int)+1+1+1=0):=by omega
            have e:gr bs (.tup (.str s :: b :: c :: r))=false:=rfl
            rw[e]
            simp[ir,aQ,cC,aE,bV,dj,bU,bY,cU,n1,this,z0,e1,DM]
  | _=>simp[ir,aQ,cC,aE,bV,dj,bU,gr]
end Sd
end
section
set_option Elab.async false
set_option linter.all false
set_option maxRecDepth 100000
namespace Sd
open PySem PySem.Spec PyProof.Rows L2 Sw Ss
noncomputable def eG (aM:FM) (aO:FM) (aR:FM) (aN:FM):GS:=
 (aJ (bH 2 (eP dg (aa (eC (.int 100)) (aa (eC (.int 100)) (aa (eC (.int 100)) ak)))))
 (aJ (bH 3 (xh [("yes",(eC (.int 1))),("no",(eC (.int 1))),("now",(eC (.int 2))),("not",(eC (.int 2))),("both",(eC (.int 3))),("either",(eC (.int 3))),("next",(eC (.int 2))),("till",(eC (.int 3))),("within",(eC (.int 3)))]))
 (aJ (sA (eT (B6 3 (xh [("always",(eC (.int 2))),("some",(eC (.int 2))),("each",(eC (.int 4))),("one",(eC (.int 4)))]))))
 (aJ (gQ (oH (gM (qB (rZ ["tuple"] (eF (aq 0))))) (oH (qB (eF (eP pS (aa (gn 0) (aa (eC (.int 0)) ak))))) (gM (qB (rZ ["str"] (bC 0 (eC (.int 0)))))))) (bR (aq 2)) cS)
 (aJ (gQ (qB (eF (eP Bt (aa (zN 3 (bC 0 (eC (.int 0))) (eC (.int 0))) (aa (gn 0) ak))))) (bR (aq 2)) cS)
 (aJ (gQ (qB (eF (eP rY (aa (bC 0 (eC (.int 0))) (aa (eF (eP bf (aa (eC (.str "yes")) (aa (eC (.str "no")) ak)))) ak))))) (bR (eP dg (aa (eC (.int 1)) (aa (eC (.int 1)) (aa (eC (.int 0)) ak))))) cS)
 (aJ (gQ (qB (eF (eP pS (aa (bC 0 (eC (.int 0))) (aa (eC (.str "now")) ak))))) (bR (PM (qB (eF (aL aM (aP (bC 0 (eC (.int 1))) (aP (eF (aq 1)) br))))) (eP dg (aa (eC (.int 1)) (aa (eC (.int 1)) (aa (eC (.int 0)) ak)))) (aq 2))) cS)
 (aJ (bH 4 (eP pM (aa (eF (yF (eF (aq 0)) (some (eC (.int 1))) none)) ak)))
 (aJ (gQ (gC (qB (eF (eP pS (aa (bC 0 (eC (.int 0))) (aa (eC (.str "within")) ak))))) (gM (qB (eF (aL aO (aP (eM 4 oK (aa (eC (.int 0)) ak)) (aP (eC (.int 5)) br))))))) (bR (aq 2)) cS)
 (aJ (bH 5 (eT (eC (.int 0))))
 (aJ (gQ (qB (eF (eP rY (aa (bC 0 (eC (.int 0))) (aa (eF (eP bf (aa (eC (.str "each")) (aa (eC (.str "one")) ak)))) ak))))) (aJ (gQ (oH (gM (qB (eF (aL aR (aP (bC 0 (eC (.int 1))) br))))) (gM (qB (eF (aL aR (aP (bC 0 (eC (.int 2))) br)))))) (bR (aq 2)) cS)
 (aJ (bH 4 (eP dg (aa (bC 0 (eC (.int 3))) ak)))
 (aJ (bH 1 (eP cK (aa (eF (aq 1)) (aa (eF (eP bf (aa (bC 0 (eC (.int 2))) ak))) ak))))
 (bH 5 (eT (eC (.int 1))))))) cS)
 (aJ (bH 6 (fB [1] (iT (eF (aq 4))) dP (eF (aL aN (aP (eF (aq 0)) (aP (eF (aq 1)) br))))))
 (aJ (bH 7 (eP cK (aa (eC (.int 1)) (aa (eF (eP xr (aa (eF (fB [] (iT (eF (aq 6))) dP (bC 0 (eC (.int 1))))) ak))) ak))))
 (bR (eP dg (aa (eF (eP cK (aa (eC (.int 1)) (aa (eF (eP v8 (aa (eF (fB [] (iT (eF (aq 6))) dP (bC 0 (eC (.int 0))))) ak))) ak)))) (aa (eF (aq 7)) (aa (eF (eP cK (aa (eF (aq 5)) (aa (eF (eP v8 (aa (eF (fB [] (iT (eF (aq 6))) dP (bC 0 (eC (.int 2))))) ak))) ak)))) ak))))))))))))))))))
noncomputable def YC (aM:FM) (aO:FM) (aR:FM) (aN:FM):GS:=
 (bH 2 (eP dg (aa (eC (.int 100)) (aa (eC (.int 100)) (aa (eC (.int 100)) ak)))))
noncomputable def SQ (aM:FM) (aO:FM) (aR:FM) (aN:FM):GS:=
 (bH 3 (xh [("yes",(eC (.int 1))),("no",(eC (.int 1))),("now",(eC (.int 2))),("not",(eC (.int 2))),("both",(eC (.int 3))),("either",(eC (.int 3))),("next",(eC (.int 2))),("till",(eC (.int 3))),("within",(eC (.int 3)))]))
noncomputable def SR (aM:FM) (aO:FM) (aR:FM) (aN:FM):GS:=
 (sA (eT (B6 3 (xh [("always",(eC (.int 2))),("some",(eC (.int 2))),("each",(eC (.int 4))),("one",(eC (.int 4)))]))))
noncomputable def Qj (aM:FM) (aO:FM) (aR:FM) (aN:FM):GS:=
 (gQ (oH (gM (qB (rZ ["tuple"] (eF (aq 0))))) (oH (qB (eF (eP pS (aa (gn 0) (aa (eC (.int 0)) ak))))) (gM (qB (rZ ["str"] (bC 0 (eC (.int 0)))))))) (bR (aq 2)) cS)
noncomputable def Qk (aM:FM) (aO:FM) (aR:FM) (aN:FM):GS:=
 (gQ (qB (eF (eP Bt (aa (zN 3 (bC 0 (eC (.int 0))) (eC (.int 0))) (aa (gn 0) ak))))) (bR (aq 2)) cS)
noncomputable def Ql (aM:FM) (aO:FM) (aR:FM) (aN:FM):GS:=
 (gQ (qB (eF (eP rY (aa (bC 0 (eC (.int 0))) (aa (eF (eP bf (aa (eC (.str "yes")) (aa (eC (.str "no")) ak)))) ak))))) (bR (eP dg (aa (eC (.int 1)) (aa (eC (.int 1)) (aa (eC (.int 0)) ak))))) cS)
noncomputable def Qm (aM:FM) (aO:FM) (aR:FM) (aN:FM):GS:=
 (gQ (qB (eF (eP pS (aa (bC 0 (eC (.int 0))) (aa (eC (.str "now")) ak))))) (bR (PM (qB (eF (aL aM (aP (bC 0 (eC (.int 1))) (aP (eF (aq 1)) br))))) (eP dg (aa (eC (.int 1)) (aa (eC (.int 1)) (aa (eC (.int 0)) ak)))) (aq 2))) cS)
noncomputable def Qn (aM:FM) (aO:FM) (aR:FM) (aN:FM):GS:=
 (bH 4 (eP pM (aa (eF (yF (eF (aq 0)) (some (eC (.int 1))) none)) ak)))
noncomputable def Kz (aM:FM) (aO:FM) (aR:FM) (aN:FM):GS:=
 (gQ (gC (qB (eF (eP pS (aa (bC 0 (eC (.int 0))) (aa (eC (.str "within")) ak))))) (gM (qB (eF (aL aO (aP (eM 4 oK (aa (eC (.int 0)) ak)) (aP (eC (.int 5)) br))))))) (bR (aq 2)) cS)
noncomputable def GH (aM:FM) (aO:FM) (aR:FM) (aN:FM):GS:=
 (bH 5 (eT (eC (.int 0))))
noncomputable def v9 (aM:FM) (aO:FM) (aR:FM) (aN:FM):GS:=
 (gQ (qB (eF (eP rY (aa (bC 0 (eC (.int 0))) (aa (eF (eP bf (aa (eC (.str "each")) (aa (eC (.str "one")) ak)))) ak))))) (aJ (gQ (oH (gM (qB (eF (aL aR (aP (bC 0 (eC (.int 1))) br))))) (gM (qB (eF (aL aR (aP (bC 0 (eC (.int 2))) br)))))) (bR (aq 2)) cS)
 (aJ (bH 4 (eP dg (aa (bC 0 (eC (.int 3))) ak)))
 (aJ (bH 1 (eP cK (aa (eF (aq 1)) (aa (eF (eP bf (aa (bC 0 (eC (.int 2))) ak))) ak))))
 (bH 5 (eT (eC (.int 1))))))) cS)
noncomputable def OP (aM:FM) (aO:FM) (aR:FM) (aN:FM):GS:=
 (bH 6 (fB [1] (iT (eF (aq 4))) dP (eF (aL aN (aP (eF (aq 0)) (aP (eF (aq 1)) br))))))
noncomputable def OQ (aM:FM) (aO:FM) (aR:FM) (aN:FM):GS:=
 (bH 7 (eP cK (aa (eC (.int 1)) (aa (eF (eP xr (aa (eF (fB [] (iT (eF (aq 6))) dP (bC 0 (eC (.int 1))))) ak))) ak))))
noncomputable def OR (aM:FM) (aO:FM) (aR:FM) (aN:FM):GS:=
 (bR (eP dg (aa (eF (eP cK (aa (eC (.int 1)) (aa (eF (eP v8 (aa (eF (fB [] (iT (eF (aq 6))) dP (bC 0 (eC (.int 0))))) ak))) ak)))) (aa (eF (aq 7)) (aa (eF (eP cK (aa (eF (aq 5)) (aa (eF (eP v8 (aa (eF (fB [] (iT (eF (aq 6))) dP (bC 0 (eC (.int 2))))) ak))) ak)))) ak)))))
theorem SV (aM:FM) (aO:FM) (aR:FM) (aN:FM):eG aM aO aR aN=aJ (YC aM aO aR aN) (aJ (SQ aM aO aR aN) (aJ (SR aM aO aR aN) (aJ (Qj aM aO aR aN) (aJ (Qk aM aO aR aN) (aJ (Ql aM aO aR aN) (aJ (Qm aM aO aR aN) (aJ (Qn aM aO aR aN) (aJ (Kz aM aO aR aN) (aJ (GH aM aO aR aN) (aJ (v9 aM aO aR aN) (aJ (OP aM aO aR aN) (aJ (OQ aM aO aR aN) (OR aM aO aR aN))))))))))))):=rfl
noncomputable def yQ (aM:FM) (aO:FM) (aR:FM) (aN:FM):GS:=
 (aJ (gQ (oH (gM (qB (rZ ["tuple"] (eF (aq 0))))) (oH (qB (eF (eP pS (aa (gn 0) (aa (eC (.int 0)) ak))))) (gM (qB (rZ ["str"] (bC 0 (eC (.int 0)))))))) (bR (aq 2)) cS)
 (aJ (gQ (qB (eF (eP Bt (aa (zN 3 (bC 0 (eC (.int 0))) (eC (.int 0))) (aa (gn 0) ak))))) (bR (aq 2)) cS)
 (aJ (gQ (qB (eF (eP rY (aa (bC 0 (eC (.int 0))) (aa (eF (eP bf (aa (eC (.str "yes")) (aa (eC (.str "no")) ak)))) ak))))) (bR (eP dg (aa (eC (.int 1)) (aa (eC (.int 1)) (aa (eC (.int 0)) ak))))) cS)
 (aJ (gQ (qB (eF (eP pS (aa (bC 0 (eC (.int 0))) (aa (eC (.str "now")) ak))))) (bR (PM (qB (eF (aL aM (aP (bC 0 (eC (.int 1))) (aP (eF (aq 1)) br))))) (eP dg (aa (eC (.int 1)) (aa (eC (.int 1)) (aa (eC (.int 0)) ak)))) (aq 2))) cS)
 (aJ (bH 4 (eP pM (aa (eF (yF (eF (aq 0)) (some (eC (.int 1))) none)) ak)))
 (aJ (gQ (gC (qB (eF (eP pS (aa (bC 0 (eC (.int 0))) (aa (eC (.str "within")) ak))))) (gM (qB (eF (aL aO (aP (eM 4 oK (aa (eC (.int 0)) ak)) (aP (eC (.int 5)) br))))))) (bR (aq 2)) cS)
 (aJ (bH 5 (eT (eC (.int 0))))
 (aJ (gQ (qB (eF (eP rY (aa (bC 0 (eC (.int 0))) (aa (eF (eP bf (aa (eC (.str "each")) (aa (eC (.str "one")) ak)))) ak))))) (aJ (gQ (oH (gM (qB (eF (aL aR (aP (bC 0 (eC (.int 1))) br))))) (gM (qB (eF (aL aR (aP (bC 0 (eC (.int 2))) br)))))) (bR (aq 2)) cS)
 (aJ (bH 4 (eP dg (aa (bC 0 (eC (.int 3))) ak)))
 (aJ (bH 1 (eP cK (aa (eF (aq 1)) (aa (eF (eP bf (aa (bC 0 (eC (.int 2))) ak))) ak))))
 (bH 5 (eT (eC (.int 1))))))) cS)
 (aJ (bH 6 (fB [1] (iT (eF (aq 4))) dP (eF (aL aN (aP (eF (aq 0)) (aP (eF (aq 1)) br))))))
 (aJ (bH 7 (eP cK (aa (eC (.int 1)) (aa (eF (eP xr (aa (eF (fB [] (iT (eF (aq 6))) dP (bC 0 (eC (.int 1))))) ak))) ak))))
 (bR (eP dg (aa (eF (eP cK (aa (eC (.int 1)) (aa (eF (eP v8 (aa (eF (fB [] (iT (eF (aq 6))) dP (bC 0 (eC (.int 0))))) ak))) ak)))) (aa (eF (aq 7)) (aa (eF (eP cK (aa (eF (aq 5)) (aa (eF (eP v8 (aa (eF (fB [] (iT (eF (aq 6))) dP (bC 0 (eC (.int 2))))) ak))) ak)))) ak)))))))))))))))
noncomputable def LU:List (Key×D):=[(.inr "yes",.int 1),(.inr "no",.int 1),(.inr "now",.int 2),(.inr "not",.int 2),(.inr "both",.int 3),(.inr "either",.int 3),(.inr "next",.int 2),(.inr "till",.int 3),(.inr "within",.int 3)]
noncomputable def Qo:List (Key×D):=[(.inr "always",.int 2),(.inr "some",.int 2),(.inr "each",.int 4),(.inr "one",.int 4)]
noncomputable def SW:List (Key×D):=fW (fW [] LU) (fW [] Qo)
noncomputable abbrev nn:MO:=.lst [.int 100,.int 100,.int 100]
theorem Jw (z : Str) : (dh SW (.inr z)).getD (.int 0) = .int (fj z) := by
  by_cases h:z∈lW
  · simp only[lW,List.mem_cons,List.not_mem_nil,or_false] at h
    rcases h with rfl | rfl | rfl | rfl | rfl | rfl | rfl | rfl | rfl | rfl | rfl | rfl | rfl <;> rfl
  · rw[zR h]
    rw[DK]
    · rfl
    · intro q
      rcases oZ q with q | q
      · rcases oZ q with q | q
        · cases q
        · revert q h
          simp only[LU,lW,List.map_cons,List.map_nil,List.mem_cons,List.not_mem_nil,or_false,Sum.inr.injEq]
          intro h q
          apply h
          rcases q with q | q | q | q | q | q | q | q | q <;> simp[q]
      · rcases oZ q with q | q
        · cases q
        · revert q h
          simp only[Qo,lW,List.map_cons,List.map_nil,List.mem_cons,List.not_mem_nil,or_false,Sum.inr.injEq]
          intro h q
          apply h
          rcases q with q | q | q | q <;> simp[q]
section
variable {f1 f2 f3 f4:FM}{d bd:D}{z:Str}{r:List D}
theorem YD:eG f1 f2 f3 f4 [some (.t d),some (.t bd),none,none,none,none,none,none]=yQ f1 f2 f3 f4 [some (.t d),some (.t bd),some (.m nn),some (.m (.dct SW)),none,none,none,none]:=by
 have l1:=u9 LU []
 have l2:=u9 Qo []
 have k1:LU.length=9:=rfl
 have k2:Qo.length=4:=rfl
 rw[List.length_nil] at l1 l2
 have b1:(fW [] LU).length+(fW [] Qo).length≤100000:=by omega
 have e1:YC f1 f2 f3 f4 [some (.t d),some (.t bd),none,none,none,none,none,none]=some (.nx [some (.t d),some (.t bd),some (.m nn),none,none,none,none,none]):=by simp[YC]
 have e2:SQ f1 f2 f3 f4 [some (.t d),some (.t bd),some (.m nn),none,none,none,none,none]=some (.nx [some (.t d),some (.t bd),some (.m nn),some (.m (.dct (fW [] LU))),none,none,none,none]):=by
  unfold LU
  generalize hm:fW ([]:List (Key×D))=mm
  simp[SQ,hm]
 have e3:SR f1 f2 f3 f4 [some (.t d),some (.t bd),some (.m nn),some (.m (.dct (fW [] LU))),none,none,none,none]=some (.nx [some (.t d),some (.t bd),some (.m nn),some (.m (.dct SW)),none,none,none,none]):=by
  unfold SW
  generalize hx:fW [] LU=x1 at *
  unfold Qo at *
  generalize hm:fW ([]:List (Key×D))=mm at *
  simp[SR,hm,b1,qc]
 rw[SV,bA,e1,Option.bind_some]
 simp only
 rw[bA,e2,Option.bind_some]
 simp only
 rw[bA,e3,Option.bind_some]
 rfl
end
end Sd
end
section
set_option Elab.async false
set_option linter.all false
set_option maxRecDepth 100000
namespace Sd
open PySem PySem.Spec PyProof.Rows L2 Sw Ss
section
variable {f1 f2 f3 f4:FM}{d bd:D}{z:Str}{r:List D}{hd:List (Key×D)}
noncomputable def YN:List Str:=["yes","no"]
noncomputable def lH (d bd:D):Option Out→Option (U×List MO):=fun o=>o.bind fun o=>match o with
 | .rt (.t e) S=>(aE [.t d,.t bd] S).map fun os=>(.t e,os)
 | .rt (.m o) S=>(aE [.t d,.t bd] S).map fun os=>(.m o,os)
 | .nx S=>(aE [.t d,.t bd] S).map fun os=>(.t .cW,os)
 | _=>none
theorem Jx:aQ 8 (eG f1 f2 f3 f4) [.t d,.t bd]=lH d bd (yQ f1 f2 f3 f4 [some (.t d),some (.t bd),some (.m nn),some (.m (.dct SW)),none,none,none,none]):=by
 show(eG f1 f2 f3 f4 [some (.t d),some (.t bd),none,none,none,none,none,none]).bind _=_
 rw[YD]
 rfl
noncomputable abbrev ss (d bd:D) (hd:List (Key×D)):SS:=[some (.t d),some (.t bd),some (.m nn),some (.m (.dct hd)),none,none,none,none]
theorem E8 (h : ∀ z r, d ≠ .tup (.str z :: r)) : lH d bd (yQ f1 f2 f3 f4 (ss d bd hd)) = some (.m nn, []) := by
  cases d with
  | tup ds =>
    cases ds with
    | nil=>simp[lH,yQ,aE,bV,dj,bU]
    | cons a r=>
      have e2:iN a=false:=by
        cases a with
        | str z=>exact absurd rfl (h z r)
        | _=>rfl
      have z0:¬((r.length:Int)+1=0):=by omega
      simp[lH,yQ,aE,bV,dj,bU,bY,e2,z0]
  | _=>simp[lH,yQ,aE,bV,dj,bU]
theorem kt_len {lg:Int}(hl:(dh hd (.inr z)).getD (.int 0)= .int lg) (h:¬lg=(r.length:Int)+1):lH (.tup (.str z :: r)) bd (yQ f1 f2 f3 f4 (ss (.tup (.str z :: r)) bd hd))=some (.m nn,[]):=by
 have z0:¬((r.length:Int)+1=0):=by omega
 simp[lH,yQ,aE,bV,dj,bU,bY,cU,z0,hl,h]
theorem AL (z:Str):rY [.str z,.tup [.str "yes",.str "no"]]=some (.t (.bl (inD (.str z) (YN.map D.str)))):=mL (.str z) YN
theorem DN (z:Str):rY [.str z,.tup [.str "each",.str "one"]]=some (.t (.bl (cB z))):=mL (.str z) HF
theorem OS (hl:(dh hd (.inr z)).getD (.int 0)= .int ((r.length:Int)+1)) (h:inD (.str z) (YN.map D.str)=true):lH (.tup (.str z :: r)) bd (yQ f1 f2 f3 f4 (ss (.tup (.str z :: r)) bd hd))=some (.m (.lst [.int 1,.int 1,.int 0]),[]):=by
 have z0:¬((r.length:Int)+1=0):=by omega
 have i1:=AL z
 rw[h] at i1
 simp[lH,yQ,aE,bV,dj,bU,bY,cU,z0,hl,i1]
theorem OT {a:D}{b:Bool}(hl:(dh hd (.inr z)).getD (.int 0)= .int ((r.length:Int)+1+1)) (h:inD (.str z) (YN.map D.str)=false) (hz:z="now") (e:f1 [.t a,.t bd]=some (.t (.bl b),[])):lH (.tup (.str z :: a :: r)) bd (yQ f1 f2 f3 f4 (ss (.tup (.str z :: a :: r)) bd hd))=some (.m (if b then .lst [.int 1,.int 1,.int 0] else nn),[]):=by
 have z0:¬((r.length:Int)+1+1=0):=by omega
 have i1:=AL z
 rw[h] at i1
 cases b <;> simp[lH,yQ,aE,bV,dj,bU,bY,dH,cU,z0,hl,i1,eq_true hz,e]
theorem SX (a:D) (r:List D):L2.cutD (a :: r) (some 1) none=r:=nN (a :: r) 1
theorem SY (a:D) (r:List D):oK [.int 0] (.lst (a :: r))=some (a,.lst r):=by
 have e:seqIndex? 0 (a :: r).length=some 0:=seqIndex_of (by decide) (by simp only[List.length_cons];omega)
 show(if -(2 ^ 63:Int)≤0∧(0:Int) < 2 ^ 63 then(seqIndex? 0 (a :: r).length).bind fun k=>((a :: r)[k]?).map fun d=>(d,MO.lst ((a :: r).eraseIdx k)) else none)=_
 rw[if_pos (by decide),e]
 rfl
theorem LV {a:D}(hl:(dh hd (.inr z)).getD (.int 0)= .int ((r.length:Int)+1+1)) (h:inD (.str z) (YN.map D.str)=false) (hn:¬z="now") (hz:z="within") (e:f2 [.t a,.t (.int 5)]=some (.t (.bl false),[])):lH (.tup (.str z :: a :: r)) bd (yQ f1 f2 f3 f4 (ss (.tup (.str z :: a :: r)) bd hd))=some (.m nn,[]):=by
 have z0:¬((r.length:Int)+1+1=0):=by omega
 have i1:=AL z
 rw[h] at i1
 simp[lH,yQ,aE,bV,dj,bU,bY,dH,cU,z0,hl,i1,hn,eq_true hz,e,SX,SY,qc]
noncomputable abbrev qE (a b c:Int):MO:=.lst [.int a,.int b,.int c]
theorem LW (a:Int):sR [a]=a:=rfl
theorem max_two (a b:Int):sR [a,b]=max a b:=rfl
theorem LX (a:Int):v8 [.lst [.int a]]=some (.t (.int a)):=by
 have:preSum (fun i=>[a].getD i 0) 1=a:=by show(0:Int)+a=a;omega
 show some (U.t (.int (preSum (fun i=>[a].getD i 0) 1)))=_
 rw[this]
theorem LY (a b:Int):v8 [.lst [.int a,.int b]]=some (.t (.int (a+b))):=by
 have:preSum (fun i=>[a,b].getD i 0) 2=a+b:=by show(0:Int)+a+b=a+b;omega
 show some (U.t (.int (preSum (fun i=>[a,b].getD i 0) 2)))=_
 rw[this]
theorem S4 (a b c:D):gZ [a,b,c] 0=some a∧gZ [a,b,c] 1=some b∧gZ [a,b,c] 2=some c:=⟨rfl,rfl,rfl⟩
theorem YE (a b c e:D) (r:List D):gZ (a :: b :: c :: e :: r) 3=some e:=by
 unfold gZ Di
 rw[if_pos (by decide),if_pos (by simp only[List.length_cons];omega)]
 rfl
noncomputable def pk (k:Nat):D→D
 | .lst l=>l.getD k .cW
 | _=>.cW
noncomputable def S5 (f4:FM) (bd d:D):D:=match f4 [.t d,.t bd] with
 | some (.m (.lst l),_)=>.lst l
 | _=>.cW
noncomputable def KA (aM:FM) (aO:FM) (aR:FM) (aN:FM):GS:=
 (aJ (bH 6 (fB [1] (iT (eF (aq 4))) dP (eF (aL aN (aP (eF (aq 0)) (aP (eF (aq 1)) br))))))
 (aJ (bH 7 (eP cK (aa (eC (.int 1)) (aa (eF (eP xr (aa (eF (fB [] (iT (eF (aq 6))) dP (bC 0 (eC (.int 1))))) ak))) ak))))
 (bR (eP dg (aa (eF (eP cK (aa (eC (.int 1)) (aa (eF (eP v8 (aa (eF (fB [] (iT (eF (aq 6))) dP (bC 0 (eC (.int 0))))) ak))) ak)))) (aa (eF (aq 7)) (aa (eF (eP cK (aa (eF (aq 5)) (aa (eF (eP v8 (aa (eF (fB [] (iT (eF (aq 6))) dP (bC 0 (eC (.int 2))))) ak))) ak)))) ak)))))))
theorem OU {x0 x2 x3:Option U}{p:D}{x y w mr:Int}(ep:f4 [.t p,.t bd]=some (.m (qE x y w),[])):KA f1 f2 f3 f4 [x0,some (.t bd),x2,x3,some (.m (.lst [p])),some (.t (.int mr)),none,none]=some (.rt (.m (qE (1+x) (1+y) (mr+w))) [x0,some (.t bd),x2,x3,some (.t (.lst [p])),some (.t (.int mr)),some (.t (.lst [.lst [.int x,.int y,.int w]])),some (.t (.int (1+y)))]):=by
 have e4:=jm (cap:=[1]) (g:=eF (aL f4 (aP (eF (aq 0)) (aP (eF (aq 1)) br)))) (S:=[x0,some (.t bd),x2,x3,some (.t (.lst [p])),some (.t (.int mr)),none,none]) (ts:=[bd]) rfl (fun _=>.lst [.int x,.int y,.int w]) [p] [] (by
  intro e he
  rw[List.mem_singleton] at he
  subst he
  simp[ep])
 have e5:∀(k:Nat) (kk:Int) (x7:Option U),(k:Int)=kk→k < 3→gW [] dP (bC 0 (eC (.int kk))) [.lst [.int x,.int y,.int w]] [x0,some (.t bd),x2,x3,some (.t (.lst [p])),some (.t (.int mr)),some (.t (.lst [.lst [.int x,.int y,.int w]])),x7] []=some ([pk k (.lst [.int x,.int y,.int w])],[x0,some (.t bd),x2,x3,some (.t (.lst [p])),some (.t (.int mr)),some (.t (.lst [.lst [.int x,.int y,.int w]])),x7]):=fun k kk x7 e hk=>by
  refine jm (cap:=[]) (ts:=[]) rfl (pk k) _ [] fun q hq=>?_
  rw[List.mem_singleton] at hq
  subst hq
  subst e
  rcases(by omega:k=0∨k=1∨k=2) with rfl | rfl | rfl <;> simp[S4,pk]
 have a0:=fun x7=>e5 0 0 x7 rfl (by decide)
 have a1:=fun x7=>e5 1 1 x7 rfl (by decide)
 have a2:=fun x7=>e5 2 2 x7 rfl (by decide)
 simp only[pk,List.getD_cons_zero,List.getD_cons_succ] at a0 a1 a2
 simp only[List.map_cons,List.map_nil,List.nil_append] at e4
 simp[KA,j3,e4,a0,a1,a2,nK,LW,LX]
theorem YF {x0 x2 x3:Option U}{p q:D}{x y w a b c mr:Int}(ep:f4 [.t p,.t bd]=some (.m (qE x y w),[])) (eq:f4 [.t q,.t bd]=some (.m (qE a b c),[])):KA f1 f2 f3 f4 [x0,some (.t bd),x2,x3,some (.m (.lst [p,q])),some (.t (.int mr)),none,none]=some (.rt (.m (qE (1+(x+a)) (1+max y b) (mr+(w+c)))) [x0,some (.t bd),x2,x3,some (.t (.lst [p,q])),some (.t (.int mr)),some (.t (.lst [.lst [.int x,.int y,.int w],.lst [.int a,.int b,.int c]])),some (.t (.int (1+max y b)))]):=by
 have z1:S5 f4 bd p= .lst [.int x,.int y,.int w]:=by unfold S5;rw[ep]
 have z2:S5 f4 bd q= .lst [.int a,.int b,.int c]:=by unfold S5;rw[eq]
 have e4:=jm (cap:=[1]) (g:=eF (aL f4 (aP (eF (aq 0)) (aP (eF (aq 1)) br)))) (S:=[x0,some (.t bd),x2,x3,some (.t (.lst [p,q])),some (.t (.int mr)),none,none]) (ts:=[bd]) rfl (S5 f4 bd) [p,q] [] (by
  intro e he
  simp only[List.mem_cons,List.not_mem_nil,or_false] at he
  rcases he with rfl | rfl
  ·rw[z1];simp[ep]
  ·rw[z2];simp[eq])
 have e5:∀(k:Nat) (kk:Int) (x7:Option U),(k:Int)=kk→k < 3→gW [] dP (bC 0 (eC (.int kk))) [.lst [.int x,.int y,.int w],.lst [.int a,.int b,.int c]] [x0,some (.t bd),x2,x3,some (.t (.lst [p,q])),some (.t (.int mr)),some (.t (.lst [.lst [.int x,.int y,.int w],.lst [.int a,.int b,.int c]])),x7] []=some ([pk k (.lst [.int x,.int y,.int w]),pk k (.lst [.int a,.int b,.int c])],[x0,some (.t bd),x2,x3,some (.t (.lst [p,q])),some (.t (.int mr)),some (.t (.lst [.lst [.int x,.int y,.int w],.lst [.int a,.int b,.int c]])),x7]):=fun k kk x7 e hk=>by
  refine jm (cap:=[]) (ts:=[]) rfl (pk k) _ [] fun q hq=>?_
  subst e
  simp only[List.mem_cons,List.not_mem_nil,or_false] at hq
  rcases hq with rfl | rfl <;> rcases(by omega:k=0∨k=1∨k=2) with rfl | rfl | rfl <;> simp[S4,pk]
 have a0:=fun x7=>e5 0 0 x7 rfl (by decide)
 have a1:=fun x7=>e5 1 1 x7 rfl (by decide)
 have a2:=fun x7=>e5 2 2 x7 rfl (by decide)
 simp only[pk,List.getD_cons_zero,List.getD_cons_succ] at a0 a1 a2
 simp only[List.map_cons,List.map_nil,List.nil_append,z1,z2] at e4
 simp[KA,j3,e4,a0,a1,a2,nK,max_two,LY]
theorem OV (S:SS):yQ f1 f2 f3 f4 S=aJ (Qj f1 f2 f3 f4) (aJ (Qk f1 f2 f3 f4) (aJ (Ql f1 f2 f3 f4) (aJ (Qm f1 f2 f3 f4) (aJ (Qn f1 f2 f3 f4) (aJ (Kz f1 f2 f3 f4) (aJ (GH f1 f2 f3 f4) (aJ (v9 f1 f2 f3 f4) (KA f1 f2 f3 f4)))))))) S:=rfl
noncomputable abbrev sx (d bd:D) (hd:List (Key×D)) (a b:Option U):SS:=[some (.t d),some (.t bd),some (.m nn),some (.m (.dct hd)),a,b,none,none]
theorem uw {a:D}(hl:(dh hd (.inr z)).getD (.int 0)= .int ((r.length:Int)+1+1)) (h:inD (.str z) (YN.map D.str)=false) (hn:¬z="now"):yQ f1 f2 f3 f4 (ss (.tup (.str z :: a :: r)) bd hd)=aJ (Kz f1 f2 f3 f4) (aJ (GH f1 f2 f3 f4) (aJ (v9 f1 f2 f3 f4) (KA f1 f2 f3 f4))) (sx (.tup (.str z :: a :: r)) bd hd (some (.m (.lst (a :: r)))) none):=by
 have z0:¬((r.length:Int)+1+1=0):=by omega
 have i1:=AL z
 rw[h] at i1
 rw[OV]
 have e3:Qj f1 f2 f3 f4 (ss (.tup (.str z :: a :: r)) bd hd)=some (.nx (ss (.tup (.str z :: a :: r)) bd hd)):=by simp[Qj,bV,dj,bU,bY,cU,z0]
 have e4:Qk f1 f2 f3 f4 (ss (.tup (.str z :: a :: r)) bd hd)=some (.nx (ss (.tup (.str z :: a :: r)) bd hd)):=by simp[Qk,bY,hl]
 have e5:Ql f1 f2 f3 f4 (ss (.tup (.str z :: a :: r)) bd hd)=some (.nx (ss (.tup (.str z :: a :: r)) bd hd)):=by simp[Ql,bY,i1]
 have e6:Qm f1 f2 f3 f4 (ss (.tup (.str z :: a :: r)) bd hd)=some (.nx (ss (.tup (.str z :: a :: r)) bd hd)):=by simp[Qm,bY,hn]
 have e7:Qn f1 f2 f3 f4 (ss (.tup (.str z :: a :: r)) bd hd)=some (.nx (sx (.tup (.str z :: a :: r)) bd hd (some (.m (.lst (a :: r)))) none)):=by simp[Qn,SX]
 rw[bA,e3,Option.bind_some]
 simp only
 rw[bA,e4,Option.bind_some]
 simp only
 rw[bA,e5,Option.bind_some]
 simp only
 rw[bA,e6,Option.bind_some]
 simp only
 rw[bA,e7,Option.bind_some]
theorem AM {d:D}{ps:List D}{o:Option Out}(hd0:∃a r,d= .tup (.str z :: a :: r)) (hb:cB z=false) (e:KA f1 f2 f3 f4 (sx d bd hd (some (.m (.lst ps))) (some (.t (.int 0))))=o):aJ (GH f1 f2 f3 f4) (aJ (v9 f1 f2 f3 f4) (KA f1 f2 f3 f4)) (sx d bd hd (some (.m (.lst ps))) none)=o:=by
 obtain⟨a,r,rfl⟩:=hd0
 have i2:=DN z
 rw[hb] at i2
 have e9:GH f1 f2 f3 f4 (sx (.tup (.str z :: a :: r)) bd hd (some (.m (.lst ps))) none)=some (.nx (sx (.tup (.str z :: a :: r)) bd hd (some (.m (.lst ps))) (some (.t (.int 0))))):=by simp[GH]
 have YG:v9 f1 f2 f3 f4 (sx (.tup (.str z :: a :: r)) bd hd (some (.m (.lst ps))) (some (.t (.int 0))))=some (.nx (sx (.tup (.str z :: a :: r)) bd hd (some (.m (.lst ps))) (some (.t (.int 0))))):=by simp[v9,bY,i2]
 rw[bA,e9,Option.bind_some]
 simp only
 rw[bA,YG,Option.bind_some]
 exact e
theorem GJ {a p:D}{x y w:Int}(hl:(dh hd (.inr z)).getD (.int 0)= .int 3) (h:inD (.str z) (YN.map D.str)=false) (hn:¬z="now") (hz:z="within") (hb:cB z=false) (e:f2 [.t a,.t (.int 5)]=some (.t (.bl true),[]))
  (ep:f4 [.t p,.t bd]=some (.m (qE x y w),[])):lH (.tup [.str z,a,p]) bd (yQ f1 f2 f3 f4 (ss (.tup [.str z,a,p]) bd hd))=some (.m (qE (1+x) (1+y) w),[]):=by
 rw[uw (r:=[p]) hl h hn]
 have e8:Kz f1 f2 f3 f4 (sx (.tup (.str z :: a :: [p])) bd hd (some (.m (.lst (a :: [p])))) none)=some (.nx (sx (.tup (.str z :: a :: [p])) bd hd (some (.m (.lst [p]))) none)):=by simp[Kz,bY,eq_true hz,SY,qc,e]
 rw[bA,e8,Option.bind_some]
 simp only
 rw[AM ⟨a,[p],rfl⟩ hb (OU ep)]
 simp[lH,aE]
theorem AN {d:D}{a:D}{ps:List D}(hd0:d= .tup (.str z :: a :: r)) (hz:¬z="within"):Kz f1 f2 f3 f4 (sx d bd hd (some (.m (.lst ps))) none)=some (.nx (sx d bd hd (some (.m (.lst ps))) none)):=by
 subst hd0
 simp[Kz,bY,hz]
theorem OW {p:D}{x y w:Int}(hl:(dh hd (.inr z)).getD (.int 0)= .int 2) (h:inD (.str z) (YN.map D.str)=false) (hn:¬z="now") (hz:¬z="within") (hb:cB z=false)
  (ep:f4 [.t p,.t bd]=some (.m (qE x y w),[])):lH (.tup [.str z,p]) bd (yQ f1 f2 f3 f4 (ss (.tup [.str z,p]) bd hd))=some (.m (qE (1+x) (1+y) w),[]):=by
 rw[uw (r:=[]) hl h hn]
 rw[bA,AN rfl hz,Option.bind_some]
 simp only
 rw[AM ⟨p,[],rfl⟩ hb (OU ep)]
 simp[lH,aE]
theorem OX {p q:D}{x y w a b c:Int}(hl:(dh hd (.inr z)).getD (.int 0)= .int 3) (h:inD (.str z) (YN.map D.str)=false) (hn:¬z="now") (hz:¬z="within") (hb:cB z=false)
  (ep:f4 [.t p,.t bd]=some (.m (qE x y w),[])) (eq:f4 [.t q,.t bd]=some (.m (qE a b c),[])):lH (.tup [.str z,p,q]) bd (yQ f1 f2 f3 f4 (ss (.tup [.str z,p,q]) bd hd))=some (.m (qE (1+(x+a)) (1+max y b) (w+c)),[]):=by
 rw[uw (r:=[q]) hl h hn]
 rw[bA,AN rfl hz,Option.bind_some]
 simp only
 rw[AM ⟨p,[q],rfl⟩ hb (YF ep eq)]
 simp[lH,aE]
theorem LZ {a b:D}{na nb:Bool}(hl:(dh hd (.inr z)).getD (.int 0)= .int ((r.length:Int)+1+1+1)) (h:inD (.str z) (YN.map D.str)=false) (hn:¬z="now") (hz:¬z="within") (hb:cB z=true) (e1:f3 [.t a]=some (.t (.bl na),[])) (e2:f3 [.t b]=some (.t (.bl nb),[]))
  (hx:na=false∨nb=false):lH (.tup (.str z :: a :: b :: r)) bd (yQ f1 f2 f3 f4 (ss (.tup (.str z :: a :: b :: r)) bd hd))=some (.m nn,[]):=by
 have i2:=DN z
 rw[hb] at i2
 rw[uw (r:=b :: r) (by rw[hl,List.length_cons];push_cast;rfl) h hn]
 rw[bA,AN rfl hz,Option.bind_some]
 simp only
 cases na with
 | false=>simp[GH,v9,KA,lH,aE,bY,dH,i2,e1]
 | true=>cases nb with
  | false=>simp[GH,v9,KA,lH,aE,bY,dH,uu,i2,e1,e2]
  | true=>rcases hx with q | q <;> cases q
theorem OY {a b p:D}{bl:List D}{x y w:Int}(hl:(dh hd (.inr z)).getD (.int 0)= .int 4) (h:inD (.str z) (YN.map D.str)=false) (hn:¬z="now") (hz:¬z="within") (hb:cB z=true) (e1:f3 [.t a]=some (.t (.bl true),[])) (e2:f3 [.t b]=some (.t (.bl true),[]))
  (hv:bl.length+1≤100000) (ep:f4 [.t p,.t (.tup (bl++[b]))]=some (.m (qE x y w),[])):lH (.tup [.str z,a,b,p]) (.tup bl) (yQ f1 f2 f3 f4 (ss (.tup [.str z,a,b,p]) (.tup bl) hd))=some (.m (qE (1+x) (1+y) (1+w)),[]):=by
 have i2:=DN z
 rw[hb] at i2
 rw[uw (r:=[b,p]) hl h hn]
 rw[bA,AN rfl hz,Option.bind_some]
 simp only
 have e9:GH f1 f2 f3 f4 (sx (.tup [.str z,a,b,p]) (.tup bl) hd (some (.m (.lst [a,b,p]))) none)=some (.nx (sx (.tup [.str z,a,b,p]) (.tup bl) hd (some (.m (.lst [a,b,p]))) (some (.t (.int 0))))):=by simp[GH]
 have YG:v9 f1 f2 f3 f4 (sx (.tup [.str z,a,b,p]) (.tup bl) hd (some (.m (.lst [a,b,p]))) (some (.t (.int 0))))=some (.nx (sx (.tup [.str z,a,b,p]) (.tup (bl++[b])) hd (some (.m (.lst [p]))) (some (.t (.int 1))))):=by simp[v9,bY,dH,uu,YE,i2,e1,e2,hv]
 rw[bA,e9,Option.bind_some]
 simp only
 rw[bA,YG,Option.bind_some]
 simp only
 rw[OU ep]
 simp[lH,aE]
end
end Sd
end
section
set_option Elab.async false
set_option linter.all false
set_option maxRecDepth 100000
namespace Sd
open PySem PySem.Spec PyProof.Rows L2 Sw Ss
noncomputable abbrev C3:=Int×Int×Int
noncomputable def cnt:Nat→List Str→D→C3
  | 0,_,_=>(100,100,100)
  | n + 1, bs, .tup (.str z :: r) =>
    if cM bs z r=true then
      (match bE z r with
      | []=>(1,1,0)
      | [p]=>(1+(cnt n (bD bs z r) p).1,1+(cnt n (bD bs z r) p).2.1,(if cB z=true then 1 else 0)+(cnt n (bD bs z r) p).2.2)
      | p :: q :: _=>(1+((cnt n (bD bs z r) p).1+(cnt n (bD bs z r) q).1),1+max (cnt n (bD bs z r) p).2.1 (cnt n (bD bs z r) q).2.1,(if cB z=true then 1 else 0)+((cnt n (bD bs z r) p).2.2+(cnt n (bD bs z r) q).2.2)))
    else(100,100,100)
  | _+1,_,_=>(100,100,100)
noncomputable def lA:Nat→FM
 | 0=>fun _=>none
 | j+1=>aQ 8 (eG ir iU lD (lA j))
theorem GK (j:Nat):∀us r,lA (j+1) us=some r→aQ 8 (eG ir iU lD (lA j)) us=some r:=fun _ _ h=>h
noncomputable abbrev tri (c:C3):MO:=qE c.1 c.2.1 c.2.2
theorem DO (n : Nat) (bs : List Str) {d : D} (h : ∀ z r, d ≠ .tup (.str z :: r)) : cnt n bs d = (100, 100, 100) := by
  cases n with
  | zero=>rfl
  | succ n=>
    cases d with
    | tup ds=>
      cases ds with
      | nil=>rfl
      | cons a r=>
        cases a with
        | str z=>exact absurd rfl (h z r)
        | _=>rfl
    | _=>rfl
theorem wJ (n:Nat) (bs:List Str) (z:Str) (r:List D):cnt (n+1) bs (.tup (.str z :: r))=if cM bs z r=true then
   (match bE z r with
   | []=>(1,1,0)
   | [p]=>(1+(cnt n (bD bs z r) p).1,1+(cnt n (bD bs z r) p).2.1,(if cB z=true then 1 else 0)+(cnt n (bD bs z r) p).2.2)
   | p :: q :: _=>(1+((cnt n (bD bs z r) p).1+(cnt n (bD bs z r) q).1),1+max (cnt n (bD bs z r) p).2.1 (cnt n (bD bs z r) q).2.1,(if cB z=true then 1 else 0)+((cnt n (bD bs z r) p).2.2+(cnt n (bD bs z r) q).2.2)))
  else(100,100,100):=rfl
inductive Kd (z:Str):Prop
 | yes (l:fj z=1) (s:ez z=1) (y:inD (.str z) (YN.map D.str)=true) (b:cB z=false) (w:z≠"now") (w2:z≠"within")
 | now (e:z="now") (l:fj z=2) (s:ez z=2) (y:inD (.str z) (YN.map D.str)=false) (b:cB z=false)
 | within (e:z="within") (l:fj z=3) (s:ez z=2) (y:inD (.str z) (YN.map D.str)=false) (b:cB z=false) (w:z≠"now")
 | bnd (l:fj z=4) (s:ez z=3) (y:inD (.str z) (YN.map D.str)=false) (b:cB z=true) (w:z≠"now") (w2:z≠"within")
 | one (l:fj z=2) (s:ez z=1) (y:inD (.str z) (YN.map D.str)=false) (b:cB z=false) (w:z≠"now") (w2:z≠"within")
 | two (l:fj z=3) (s:ez z=1) (y:inD (.str z) (YN.map D.str)=false) (b:cB z=false) (w:z≠"now") (w2:z≠"within")
theorem S6 {z:Str}(h:z∈lW):Kd z:=by
 simp only[lW,List.mem_cons,List.not_mem_nil,or_false] at h
 rcases h with rfl | rfl | rfl | rfl | rfl | rfl | rfl | rfl | rfl | rfl | rfl | rfl | rfl
 ·exact .yes (by decide) (by decide) (by decide) (by decide) (by decide) (by decide)
 ·exact .yes (by decide) (by decide) (by decide) (by decide) (by decide) (by decide)
 ·exact .now rfl (by decide) (by decide) (by decide) (by decide)
 ·exact .one (by decide) (by decide) (by decide) (by decide) (by decide) (by decide)
 ·exact .two (by decide) (by decide) (by decide) (by decide) (by decide) (by decide)
 ·exact .two (by decide) (by decide) (by decide) (by decide) (by decide) (by decide)
 ·exact .one (by decide) (by decide) (by decide) (by decide) (by decide) (by decide)
 ·exact .two (by decide) (by decide) (by decide) (by decide) (by decide) (by decide)
 ·exact .within rfl (by decide) (by decide) (by decide) (by decide) (by decide)
 ·exact .one (by decide) (by decide) (by decide) (by decide) (by decide) (by decide)
 ·exact .one (by decide) (by decide) (by decide) (by decide) (by decide) (by decide)
 ·exact .bnd (by decide) (by decide) (by decide) (by decide) (by decide) (by decide)
 ·exact .bnd (by decide) (by decide) (by decide) (by decide) (by decide) (by decide)
theorem len0 {r:List D}(h:(1:Int)=(r.length:Int)+1):r=[]:=by
 cases r with
 | nil=>rfl
 | cons a r=>simp only[List.length_cons] at h;omega
theorem S7 {r:List D}(h:(2:Int)=(r.length:Int)+1):∃a,r=[a]:=by
 match r,h with
 | [a],_=>exact⟨a,rfl⟩
 | [],h=>simp at h
 | a :: b :: q,h=>simp only[List.length_cons] at h;omega
theorem S8 {r:List D}(h:(3:Int)=(r.length:Int)+1):∃a b,r=[a,b]:=by
 match r,h with
 | [a,b],_=>exact⟨a,b,rfl⟩
 | [],h=>simp at h
 | [a],h=>simp at h
 | a :: b :: c :: q,h=>simp only[List.length_cons] at h;omega
theorem YH {r:List D}(h:(4:Int)=(r.length:Int)+1):∃a b c,r=[a,b,c]:=by
 match r,h with
 | [a,b,c],_=>exact⟨a,b,c,rfl⟩
 | [],h=>simp at h
 | [a],h=>simp at h
 | [a,b],h=>simp at h
 | a :: b :: c :: e :: q,h=>simp only[List.length_cons] at h;omega
theorem Jy : ∀ (n j : Nat), n ≤ j → ∀ (d : D) (bs : List Str), bZ d ≤ n → Sm d → bs.length + n ≤ 100 → lA (j + 1) [.t d, .t (.tup (bs.map D.str))] = some (.m (tri (cnt n bs d)), []) := by
  intro n
  induction n with
  | zero=>
    intro j _ d bs hd _ _
    show aQ 8 _ _=_
    rw[Jx,E8]
    · rfl
    · rintro z r rfl
      have:bM (.str z :: r)+1≤0:=hd
      omega
  | succ n ih=>
    intro j hj d bs hd hs hb
    obtain⟨i,rfl⟩:∃i,j=i+1:=⟨j - 1,by omega⟩
    show aQ 8 (eG ir iU lD (lA (i+1))) _=_
    rw[Jx]
    by_cases hz:∃z r,d= .tup (.str z :: r)
    · obtain⟨z,r,rfl⟩:=hz
      have hl:=Jw z
      have hmem:∀p∈r,bZ p≤n∧Sm p:=fun p hp=>⟨by
        have h1:bM (.str z :: r)+1≤n+1:=hd
        have:=iG (List.mem_cons_of_mem (D.str z) hp)
        omega,hs.mem (List.mem_cons_of_mem _ hp)⟩
      rw[wJ]
      by_cases cl:fj z=(r.length:Int)+1
      · have kd := S6 (qz (z := z) (by omega))
        cases kd with
        | yes l s y b w w2=>
          rw[l] at cl
          obtain rfl:=len0 cl
          have sh:cM bs z []=true:=kP (by rw[l];rfl) w w2 b
          have pl:bE z []=[]:=by unfold bE;rw[s];rfl
          rw[if_pos sh,pl,OS (by rw[hl,l];rfl) y]
        | now e l s y b=>
          rw[l] at cl
          obtain⟨a,rfl⟩:=S7 cl
          have sh:cM bs z [a]=gr bs a:=by unfold cM;rw[if_pos (by rw[l];rfl)];simp only[if_pos e]
          have pl:bE z [a]=[]:=by unfold bE;rw[s];rfl
          rw[sh,pl,OT (r:=[]) (by rw[hl,l];rfl) y e (Jv (hmem a (by simp)).2 bs)]
          cases gr bs a <;> rfl
        | within e l s y b w=>
          rw[l] at cl
          obtain⟨a,p,rfl⟩:=S8 cl
          have sh:cM bs z [a,p]=gP a 0 5:=by unfold cM;rw[if_pos (by rw[l];rfl)];simp only[w,if_false,if_pos e]
          have pl:bE z [a,p]=[p]:=by unfold bE;rw[s];rfl
          have ib:bD bs z [a,p]=bs:=by unfold bD;rw[if_neg (by rw[b];simp)]
          have wf:=vR a 5
          rw[sh,pl,ib]
          cases q:gP a 0 5 with
          | false=>
            rw[q] at wf
            rw[LV (r:=[p]) (by rw[hl,l];rfl) y w e wf]
            rfl
          | true=>
            rw[q] at wf
            have ep:=ih i (by omega) p bs (hmem p (by simp)).1 (hmem p (by simp)).2 (by omega)
            rw[GJ (by rw[hl,l]) y w e b wf ep]
            simp[b]
        | bnd l s y b w w2 =>
          rw[l] at cl
          obtain⟨a,v,p,rfl⟩:=YH cl
          have sh:cM bs z [a,v,p]=(nameB a && nameB v):=by unfold cM;rw[if_pos (by rw[l];rfl)];simp only[w,w2,if_false,b,if_true]
          have pl:bE z [a,v,p]=[p]:=by unfold bE;rw[s];rfl
          have na:=nL (hmem a (by simp)).2
          have nv:=nL (hmem v (by simp)).2
          rw[sh,pl]
          by_cases q:nameB a=true∧nameB v=true
          · rw[if_pos (by rw[q.1,q.2];rfl)]
            rw[q.1] at na
            rw[q.2] at nv
            obtain⟨vs,rfl⟩:=Ce q.2
            have ib:bD bs z [a,.str vs,p]=bs++[vs]:=by unfold bD;rw[if_pos b];rfl
            rw[ib]
            have ep:=ih i (by omega) p (bs++[vs]) (hmem p (by simp)).1 (hmem p (by simp)).2 (by rw[List.length_append,List.length_singleton];omega)
            rw[List.map_append] at ep
            rw[OY (by rw[hl,l]) y w w2 b na nv (by rw[List.length_map];omega) ep]
            simp[b]
          · rw[if_neg (by rw[Bool.and_eq_true];exact q)]
            rw[LZ (r:=[p]) (by rw[hl,l];rfl) y w w2 b na nv (by
              cases h1:nameB a with
              | false=>exact .inl rfl
              | true=>cases h2:nameB v with
                | false=>exact .inr rfl
                | true=>exact absurd ⟨h1,h2⟩ q)]
        | one l s y b w w2=>
          rw[l] at cl
          obtain⟨p,rfl⟩:=S7 cl
          have sh:cM bs z [p]=true:=kP (by rw[l];rfl) w w2 b
          have pl:bE z [p]=[p]:=by unfold bE;rw[s];rfl
          have ib:bD bs z [p]=bs:=by unfold bD;rw[if_neg (by rw[b];simp)]
          have ep:=ih i (by omega) p bs (hmem p (by simp)).1 (hmem p (by simp)).2 (by omega)
          rw[if_pos sh,pl,ib,OW (by rw[hl,l]) y w w2 b ep]
          simp[b]
        | two l s y b w w2=>
          rw[l] at cl
          obtain⟨p,q,rfl⟩:=S8 cl
          have sh:cM bs z [p,q]=true:=kP (by rw[l];rfl) w w2 b
          have pl:bE z [p,q]=[p,q]:=by unfold bE;rw[s];rfl
          have ib:bD bs z [p,q]=bs:=by unfold bD;rw[if_neg (by rw[b];simp)]
          have ep:=ih i (by omega) p bs (hmem p (by simp)).1 (hmem p (by simp)).2 (by omega)
          have eq:=ih i (by omega) q bs (hmem q (by simp)).1 (hmem q (by simp)).2 (by omega)
          rw[if_pos sh,pl,ib,OX (by rw[hl,l]) y w w2 b ep eq]
          simp[b]
      · have sh:¬cM bs z r=true:=fun q=>cl (ie q).1
        rw[if_neg sh,kt_len hl cl]
    · have hn:∀z r,d≠.tup (.str z :: r):=fun z r e=>hz ⟨z,r,e⟩
      rw[DO _ _ hn,E8 hn]
theorem AO : ∀ (n : Nat) (bs : List Str) (d : D), 1 ≤ (cnt n bs d).1 ∧ 1 ≤ (cnt n bs d).2.1 ∧ 0 ≤ (cnt n bs d).2.2 := by
  intro n
  induction n with
  | zero=>intro bs d;exact⟨(by decide:(1:Int)≤100),(by decide:(1:Int)≤100),(by decide:(0:Int)≤100)⟩
  | succ n ih=>
    intro bs d
    by_cases hz:∃z r,d= .tup (.str z :: r)
    · obtain⟨z,r,rfl⟩:=hz
      rw[wJ]
      split
      · split
        · exact⟨by decide,by decide,by decide⟩
        · rename_i p _
          have:=ih (bD bs z r) p
          refine⟨?_,?_,?_⟩ <;> simp only <;> (try split) <;> omega
        · rename_i p q _ _
          have:=ih (bD bs z r) p
          have:=ih (bD bs z r) q
          refine⟨?_,?_,?_⟩ <;> simp only <;> (try split) <;> omega
      · exact⟨by decide,by decide,by decide⟩
    · rw[DO _ _ fun z r e=>hz ⟨z,r,e⟩];exact⟨by decide,by decide,by decide⟩
theorem L0 : ∀ (n m : Nat) (bs : List Str) (d : D), n ≤ m → dc n bs d = true → (cnt m bs d).1 = (iM n d : Int) ∧ (cnt m bs d).2.1 ≤ n ∧ (cnt m bs d).2.2 = (mH n d : Int) := by
  intro n
  induction n with
  | zero=>intro m bs d _ h;cases h
  | succ n ih=>
    intro m bs d hm h
    obtain⟨k,rfl⟩:∃k,m=k+1:=⟨m - 1,by omega⟩
    obtain⟨z,r,rfl,sh,hp⟩:=j5 h
    have es:=uv n z r
    have eb:=wI n z r
    obtain⟨cl,hh,_⟩:=ie sh
    have pl:=nO hh cl
    rw[wJ,if_pos sh]
    match q:bE z r,pl,hp with
    | [], _, _ =>
      rw[q] at es eb
      have nb:cB z=false:=by
        cases c:cB z with
        | false=>rfl
        | true=>
          obtain⟨a,y,p,rfl,_,_⟩:=zS sh c
          have s3:ez z=3:=by rcases rL c with rfl | rfl <;> decide
          unfold bE at q
          rw[s3] at q
          cases q
      rw[nb] at eb
      simp at es eb
      rw[es,eb]
      refine⟨rfl,?_,rfl⟩
      show(1:Int)≤((n+1:Nat):Int)
      omega
    | [p],_,hp=>
      obtain⟨h1,h2,h3⟩:=ih k (bD bs z r) p (by omega) (hp p (by simp))
      rw[q] at es eb
      have e1:([p].flatMap (gX n)).length=iM n p:=by simp[iM]
      have e2:(([p].flatMap (gX n)).filter AK).length=mH n p:=by simp[mH]
      rw[e1] at es
      rw[e2] at eb
      simp only
      rw[es,eb]
      refine⟨by omega,by omega,by rw[h3]⟩
    | [p,p2],_,hp=>
      obtain⟨h1,h2,h3⟩:=ih k (bD bs z r) p (by omega) (hp p (by simp))
      obtain⟨g1,g2,g3⟩:=ih k (bD bs z r) p2 (by omega) (hp p2 (by simp))
      rw[q] at es eb
      have e1:([p,p2].flatMap (gX n)).length=iM n p+iM n p2:=by simp[iM]
      have e2:(([p,p2].flatMap (gX n)).filter AK).length=mH n p+mH n p2:=by simp[mH]
      rw[e1] at es
      rw[e2] at eb
      simp only
      rw[es,eb]
      refine⟨by omega,by omega,by rw[h3,g3];push_cast;omega⟩
    | _ :: _ :: _ :: _,pl,_=>simp only[List.length_cons] at pl;omega
theorem L1 : ∀ (n m : Nat) (bs : List Str) (d : D), dc n bs d = false → 100 ≤ (cnt m bs d).1 ∨ (n : Int) < (cnt m bs d).2.1 := by
  intro n
  induction n with
  | zero=>intro m bs d _;right;have:=AO m bs d;omega
  | succ n ih =>
    intro m bs d h
    cases m with
    | zero=>left;exact Int.le_refl 100
    | succ m=>
      by_cases hz:∃z r,d= .tup (.str z :: r)
      · obtain⟨z,r,rfl⟩:=hz
        rw[wJ]
        by_cases sh:cM bs z r=true
        · rw[if_pos sh]
          obtain⟨cl,hh,_⟩:=ie sh
          have pl:=nO hh cl
          have hx:∃p∈bE z r,dc n (bD bs z r) p=false:=by
            refine Classical.byContradiction fun c=>?_
            have:dc (n+1) bs (.tup (.str z :: r))=true:=(lZ n bs z r).mpr ⟨sh,fun p hp=>by
              cases q:dc n (bD bs z r) p with
              | true=>rfl
              | false=>exact absurd ⟨p,hp,q⟩ c⟩
            rw[h] at this
            cases this
          obtain⟨p0,hp0,hf⟩:=hx
          have key:=ih m (bD bs z r) p0 hf
          match q:bE z r,pl,hp0 with
          | [p],_,hp0=>
            rw[List.mem_singleton] at hp0
            subst hp0
            simp only
            omega
          | [p,p2],_,hp0=>
            have c1:=AO m (bD bs z r) p
            have c2:=AO m (bD bs z r) p2
            simp only[List.mem_cons,List.not_mem_nil,or_false] at hp0
            rcases hp0 with rfl | rfl
            · simp only
              omega
            · simp only
              omega
          | _ :: _ :: _ :: _,pl,_=>simp only[List.length_cons] at pl;omega
        · rw[if_neg sh];left;decide
      · rw[DO _ _ fun z r e=>hz ⟨z,r,e⟩];left;decide
theorem L3 {m:Nat}(hm:8≤m) (d:D):qD d=(decide ((cnt m [] d).1≤16) && (decide ((cnt m [] d).2.1≤8) && decide ((cnt m [] d).2.2≤3))):=by
 unfold qD
 cases q:dc 8 [] d with
 | true=>
  obtain⟨h1,h2,h3⟩:=L0 8 m [] d hm q
  rw[h1,h3,decide_eq_true (by omega:(cnt m [] d).2.1≤8)]
  simp only[Bool.true_and]
  congr 1
  ·exact decide_eq_decide.mpr (by omega)
  ·exact decide_eq_decide.mpr (by omega)
 | false=>
  rw[Bool.false_and]
  rcases L1 8 m [] d q with h | h
  ·rw[decide_eq_false (by omega:¬(cnt m [] d).1≤16)];rfl
  ·rw[decide_eq_false (by omega:¬(cnt m [] d).2.1≤8)];simp
end Sd
end
section
set_option Elab.async false
set_option linter.all false
set_option maxRecDepth 100000
namespace Sd
open PySem PySem.Spec PyProof.Rows L2 Sw Ss
noncomputable def Qp:List Str:=["now","next","till","within","always","some","each","one"]
noncomputable def HG:List Str:=["yes","no","not","both","either"]
noncomputable def S9 (zs:List Str):D→Bool
 | .tup (a :: _)=>inD a (zs.map D.str)
 | _=>false
noncomputable def pq (d:D):Bool:=qD d && S9 Qp d
noncomputable def iu (mh:FM):GS:=
 (bR (eT (eQ (gC (qB (eF (aL mh (aP (eF (aq 0)) br)))) (qB (AB false ["now","next","till","within","always","some","each","one"] (bC 0 (eC (.int 0)))))))))
noncomputable def xG:FM:=aQ 1 (iu oY)
theorem GL:∀us r,xG us=some r→aQ 1 (iu oY) us=some r:=fun _ _ h=>h
theorem AQ {d:D}(h:qD d=true):∃z r,d= .tup (.str z :: r)∧z∈lW:=by
 unfold qD at h
 rw[Bool.and_eq_true] at h
 obtain⟨z,r,e,sh,_⟩:=j5 h.1
 exact⟨z,r,e,(ie sh).2.2⟩
theorem Jz {f:FM}{d:D}(e1:f [.t d]=some (.t (.bl false),[])):aQ 1 (iu f) [.t d]=some (.t (.bl false),[]):=by
 simp[aQ,iu,aE,e1]
theorem JC {f:FM}{z:Str}{r:List D}(e1:f [.t (.tup (.str z :: r))]=some (.t (.bl true),[])):aQ 1 (iu f) [.t (.tup (.str z :: r))]=some (.t (.bl (inD (.str z) (Qp.map D.str))),[]):=by
 have hb:inD (.str z) (Qp.map D.str)=inD (.str z) ((["now","next","till","within","always","some","each","one"]:List Str).map D.str):=rfl
 rw[hb]
 simp[aQ,iu,aE,e1,bY]
theorem JF {d:D}(h:Sm d):xG [.t d]=some (.t (.bl (pq d)),[]):=by
 have e1:=Js h
 unfold pq
 cases q:qD d with
 | false=>
  rw[q] at e1
  exact Jz e1
 | true=>
  rw[q] at e1
  obtain⟨z,r,rfl,_⟩:=AQ q
  exact JC e1
noncomputable def iw (dD:FM) (nP:FM):GS:=
 (bR (eT (eQ (gC (qB (eF (aL dD (aP (eF (aq 0)) (aP (eC (.int 2)) (aP (eC (.int 2)) br)))))) (gC (qB (rZ ["bool"] (bC 0 (eC (.int 1))))) (qB (eF (aL nP (aP (bC 0 (eC (.int 0))) br)))))))))
noncomputable def j6:D→Bool
 | .tup [a,b]=>p6 b && pq a
 | _=>false
noncomputable def xH:FM:=aQ 1 (iw mZ xG)
theorem GN:∀us r,xH us=some r→aQ 1 (iw mZ xG) us=some r:=fun _ _ h=>h
theorem DP {f1 f2:FM}{d:D}(e1:f1 [.t d,.t (.int 2),.t (.int 2)]=some (.t (.bl false),[])):aQ 1 (iw f1 f2) [.t d]=some (.t (.bl false),[]):=by
 simp[aQ,iw,aE,e1]
theorem Cm {f1 f2:FM}{a b:D}{q:Bool}(e1:f1 [.t (.tup [a,b]),.t (.int 2),.t (.int 2)]=some (.t (.bl true),[])) (e2:f2 [.t a]=some (.t (.bl q),[])):aQ 1 (iw f1 f2) [.t (.tup [a,b])]=some (.t (.bl (p6 b && q)),[]):=by
 cases w:p6 b <;> simp[aQ,iw,aE,e1,e2,bY,dH,bV,dj,w]
theorem JH {d : D} (h : Sm d) : xH [.t d] = some (.t (.bl (j6 d)), []) := by
  have e1:=rK d 2 2
  by_cases hz:∃a b,d= .tup [a,b]
  · obtain⟨a,b,rfl⟩:=hz
    have e3:fT (.tup [a,b]) 2 2=true:=rfl
    rw[e3] at e1
    exact Cm e1 (JF (h.mem (by simp)))
  · have e3:fT d 2 2=false∧j6 d=false:=by
      cases d with
      | tup ds=>
        match ds,hz with
        | [],_=>exact⟨rfl,rfl⟩
        | [a],_=>exact⟨rfl,rfl⟩
        | [a,b],hz=>exact absurd ⟨a,b,rfl⟩ hz
        | a :: b :: c :: r,_=>
          refine⟨?_,rfl⟩
          show(decide (2≤((a :: b :: c :: r).length:Int)) && decide (((a :: b :: c :: r).length:Int)≤2))=false
          rw[decide_eq_false (by simp only[List.length_cons];omega:¬((a :: b :: c :: r).length:Int)≤2)]
          simp
      | _=>exact⟨rfl,rfl⟩
    rw[e3.1] at e1
    rw[e3.2]
    exact DP e1
noncomputable def allB (p:D→Bool):D→Bool
 | .tup ds=>ds.all p
 | _=>false
noncomputable def jd (nQ:FM):GS:=
 (bR (eT (eQ (gC (qB (rZ ["tuple"] (eF (aq 0)))) (qB (eF (eP Dt (aa (eF (fB [] (iT (eF (aq 0))) dP (eF (aL nQ (aP (eF (aq 0)) br))))) ak))))))))
noncomputable def pA (nR:FM):GS:=
 (bR (eT (eQ (gC (qB (rZ ["tuple"] (eF (aq 0)))) (qB (eF (eP Dt (aa (eF (fB [] (iT (eF (aq 0))) dP (eF (aL nR (aP (eF (aq 0)) br))))) ak))))))))
noncomputable def vc:FM:=aQ 1 (jd xH)
theorem GO:∀us r,vc us=some r→aQ 1 (jd xH) us=some r:=fun _ _ h=>h
noncomputable def pB:FM:=aQ 1 (pA vc)
theorem GP:∀us r,pB us=some r→aQ 1 (pA vc) us=some r:=fun _ _ h=>h
theorem Cn {f:FM}{p:D→Bool}{d:D}(h:Sm d) (e:∀x,Sm x→f [.t x]=some (.t (.bl (p x)),[])):aQ 1 (jd f) [.t d]=some (.t (.bl (allB p d)),[]):=by
 cases d with
 | tup ds=>
  have e4:=jm (cap:=[]) (g:=eF (aL f (aP (eF (aq 0)) br))) (S:=[some (.t (.tup ds))]) (ts:=[]) rfl (fun x=>.bl (p x)) ds [] (by
   intro x hx
   simp[e x (h.mem hx)])
  have hl:ds.length≤100000:=by have:ds.length≤20000:=h.1.1;omega
  have e6:=rJ p ds
  rw[List.nil_append] at e4
  have e7:(ds.map p).all id=ds.all p:=by rw[List.all_map];rfl
  generalize hm:ds.map (fun x=>D.bl (p x))=M at *
  show _=some (U.t (.bl (ds.all p)),_)
  rw[←e7]
  simp[aQ,jd,aE,bV,dj,bU,j3,e4,hl,e6]
 | _=>simp[aQ,jd,aE,bV,dj,bU,allB]
theorem JJ {d:D}(h:Sm d):vc [.t d]=some (.t (.bl (allB j6 d)),[]):=Cn h fun _ hx=>JH hx
noncomputable def qF (d:D):Bool:=allB (allB j6) d
theorem nT {d:D}(h:Sm d):pB [.t d]=some (.t (.bl (qF d)),[]):=Cn (f:=vc) (p:=allB j6) h fun _ hx=>JJ hx
noncomputable def cQ (aN:FM):GS:=
 (aJ (N8 (LH 3 (BN (bName 1) (BN (bName 2) (BN (bName 3) N7)))) (eF (aL aN (aP (eF (aq 0)) (aP (eF (eP bf ak)) br)))))
 (aJ (gQ (oH (qB (eF (eP Dp (aa (eF (aq 1)) (aa (eC (.int 16)) ak))))) (oH (qB (eF (eP Dp (aa (eF (aq 2)) (aa (eC (.int 8)) ak))))) (qB (eF (eP Dp (aa (eF (aq 3)) (aa (eC (.int 3)) ak))))))) (bR (eT (eC (.bl false)))) cS)
 (bR (eP lu (aa (bC 0 (eC (.int 0))) (aa (eF (eP bf (aa (eC (.str "yes")) (aa (eC (.str "no")) (aa (eC (.str "not")) (aa (eC (.str "both")) (aa (eC (.str "either")) ak))))))) ak))))))
noncomputable def mO:FM:=aQ 4 (cQ (lA 39))
theorem DQ:∀us r,mO us=some r→aQ 4 (cQ (lA 39)) us=some r:=fun _ _ h=>h
theorem Tc {f:FM}{d:D}{a b c:Int}(e:f [.t d,.t (.tup [])]=some (.m (qE a b c),[])) (h:16 < a∨8 < b∨3 < c):aQ 4 (cQ f) [.t d]=some (.t (.bl false),[]):=by
 by_cases h1:16 < a
 ·simp[aQ,cQ,aE,e,bName,h1]
 ·by_cases h2:8 < b
  ·simp[aQ,cQ,aE,e,bName,h1,h2]
  ·have h3:3 < c:=by omega
   simp[aQ,cQ,aE,e,bName,h1,h2,h3]
theorem OZ {f:FM}{z:Str}{r:List D}{a b c:Int}(e:f [.t (.tup (.str z :: r)),.t (.tup [])]=some (.m (qE a b c),[])) (h1:¬16 < a) (h2:¬8 < b) (h3:¬3 < c):aQ 4 (cQ f) [.t (.tup (.str z :: r))]=some (.t (.bl (!inD (.str z) (HG.map D.str))),[]):=by
 have i1:=xF (.str z) HG
 generalize inD (.str z) (HG.map D.str)=q at *
 unfold HG at i1
 simp only[List.map_cons,List.map_nil] at i1
 simp[aQ,cQ,aE,e,bName,h1,h2,h3,bY,i1]
theorem E9:∀z∈lW,inD (.str z) (Qp.map D.str)=!inD (.str z) (HG.map D.str):=by decide +kernel
theorem GQ {d:D}(h:Sm d):mO [.t d]=some (.t (.bl (pq d)),[]):=by
 have e:=Jy 38 38 (by omega) d [] h.2 h (by decide)
 have cs:=L3 (m:=38) (by omega) d
 unfold pq
 cases q:qD d with
 | true=>
  rw[q] at cs
  have cs:=cs.symm
  simp only[Bool.and_eq_true,decide_eq_true_eq] at cs
  obtain⟨z,r,rfl,hz⟩:=AQ q
  have:=OZ (f:=lA 39) e (by omega) (by omega) (by omega)
  show aQ 4 (cQ (lA 39)) _=_
  rw[this,Bool.true_and,←E9 z hz]
  rfl
 | false=>
  rw[q] at cs
  have cs:=cs.symm
  refine Tc (f:=lA 39) e ?_
  refine Classical.byContradiction fun c=>?_
  have:(decide ((cnt 38 [] d).1≤16) && (decide ((cnt 38 [] d).2.1≤8) && decide ((cnt 38 [] d).2.2≤3)))=true:=by
   simp only[Bool.and_eq_true,decide_eq_true_eq]
   omega
  rw[cs] at this
  cases this
theorem xJ {bd:GB}{body:GS}{P:D→Bool}{I:SS→Prop}:∀(ds:List D) (S:SS),I S→
    (∀d∈ds,∀S,I S→∃S1,bd d S=some S1∧(P d=true→∃S2,body S1=some (.nx S2)∧I S2)∧(P d=false→∃S2,body S1=some (.rt (.t (.bl false)) S2)∧I S2))→
    (ds.all P=true→∃S',loop bd body ds S=some (.nx S')∧I S')∧(ds.all P=false→∃S',loop bd body ds S=some (.rt (.t (.bl false)) S')∧I S')
  | [],S,h0,_=>⟨fun _=>⟨S,rfl,h0⟩,fun q=>by cases q⟩
  | d :: ds, S, h0, hs => by
    obtain⟨S1,e1,h1,h2⟩:=hs d List.mem_cons_self S h0
    rw[Gq,e1,Option.bind_some]
    cases q:P d with
    | true=>
      obtain⟨S2,e2,h3⟩:=h1 q
      rw[e2,Option.bind_some,List.all_cons,q,Bool.true_and]
      exact xJ ds S2 h3 fun x hx=>hs x (List.mem_cons_of_mem _ hx)
    | false=>
      obtain⟨S2,e2,h3⟩:=h2 q
      rw[e2,Option.bind_some,List.all_cons,q,Bool.false_and]
      exact⟨fun z=>(by cases z),fun _=>⟨S2,rfl,h3⟩⟩
noncomputable def fL (dM:FM):GS:=
 (gQ (oH (gM (qB (rZ ["tuple"] (eF (aq 2))))) (oH (qB (eF (eP Bt (aa (gn 2) (aa (eC (.int 2)) ak))))) (oH (gM (qB (rZ ["bool"] (bC 2 (eC (.int 1)))))) (gM (qB (eF (aL dM (aP (bC 2 (eC (.int 0))) br)))))))) (bR (eT (eC (.bl false)))) cS)
noncomputable def kQ (dM:FM):GS:=
 (aJ (gQ (gM (qB (rZ ["tuple"] (eF (aq 1))))) (bR (eT (eC (.bl false)))) cS)
 (iF (bName 2) (iT (eF (aq 1))) (fL dM)))
noncomputable def je (dM:FM):GS:=
 (aJ (gQ (gM (qB (rZ ["tuple"] (eF (aq 0))))) (bR (eT (eC (.bl false)))) cS)
 (aJ (iF (bName 1) (iT (eF (aq 0))) (kQ dM))
 (bR (eT (eC (.bl true))))))
noncomputable def xK:FM:=aQ 3 (je mO)
theorem L4:∀us r,xK us=some r→aQ 3 (je mO) us=some r:=fun _ _ h=>h
theorem YI {f : FM} {x0 x1 : Option U} {d : D} (h : Sm d) (e : ∀ x, Sm x → f [.t x] = some (.t (.bl (pq x)), [])) : (j6 d = true → fL f [x0, x1, some (.t d)] = some (.nx [x0, x1, some (.t d)])) ∧ (j6 d = false → fL f [x0, x1, some (.t d)] = some (.rt (.t (.bl false)) [x0, x1, some (.t d)])) := by
  by_cases hz:∃a b,d= .tup [a,b]
  · obtain⟨a,b,rfl⟩:=hz
    have ea:=e a (h.mem (by simp))
    have et:j6 (.tup [a,b])=(p6 b && pq a):=rfl
    rw[et]
    constructor
    · intro q
      rw[Bool.and_eq_true] at q
      rw[q.2] at ea
      simp[fL,bV,dj,bU,bY,dH,ea,q.1]
    · intro q
      cases hb:p6 b with
      | false=>simp[fL,bV,dj,bU,bY,dH,ea,hb]
      | true=>
        rw[hb,Bool.true_and] at q
        rw[q] at ea
        simp[fL,bV,dj,bU,bY,dH,ea,hb]
  · have e3:j6 d=false:=by
      cases d with
      | tup ds=>
        match ds,hz with
        | [],_=>rfl
        | [a],_=>rfl
        | [a,b],hz=>exact absurd ⟨a,b,rfl⟩ hz
        | a :: b :: c :: r,_=>rfl
      | _=>rfl
    refine⟨fun q=>(by rw[e3] at q;cases q),fun _=>?_⟩
    cases d with
    | tup ds=>
      have n2:¬((ds.length:Int)=2):=fun q=>by
        match ds,hz,q with
        | [],_,q=>simp at q
        | [a],_,q=>simp at q
        | [a,b],hz,_=>exact hz ⟨a,b,rfl⟩
        | a :: b :: c :: r,_,q=>simp only[List.length_cons] at q;omega
      simp[fL,bV,dj,bU,n2]
    | _=>simp[fL,bV,dj,bU]
theorem JK {d : D} (h : Sm d) : xK [.t d] = some (.t (.bl (qF d)), []) := by
  cases d with
  | tup ds =>
    have outer:=xJ (bd:=bName 1) (body:=kQ mO) (P:=allB j6) (I:=fun S=>∃x1 x2,S=[some (.t (.tup ds)),x1,x2]∧jX x1=false∧jX x2=false) ds [some (.t (.tup ds)),none,none] ⟨_,_,rfl,rfl,rfl⟩ (by
      rintro b hb S ⟨x1,x2,rfl,b1,b2⟩
      refine⟨[some (.t (.tup ds)),some (.t b),x2],by simp[bName,-fX,dX,b1],?_⟩
      have Qq:=h.mem hb
      cases b with
      | tup bs=>
        have inner:=xJ (bd:=bName 2) (body:=fL mO) (P:=j6) (I:=fun S=>∃x2,S=[some (.t (.tup ds)),some (.t (.tup bs)),x2]∧jX x2=false) bs [some (.t (.tup ds)),some (.t (.tup bs)),x2] ⟨_,rfl,b2⟩ (by
          rintro c hc S ⟨y,rfl,by2⟩
          obtain⟨k1,k2⟩:=YI (f:=mO) (x0:=some (.t (.tup ds))) (x1:=some (.t (.tup bs))) (Qq.mem hc) fun x hx=>GQ hx
          exact⟨[some (.t (.tup ds)),some (.t (.tup bs)),some (.t c)],by simp[bName,-fX,dX,by2],fun q=>⟨_,k1 q,_,rfl,rfl⟩,fun q=>⟨_,k2 q,_,rfl,rfl⟩⟩)
        obtain⟨i1,i2⟩:=inner
        refine⟨fun q=>?_,fun q=>?_⟩
        · obtain⟨S',e,x,rfl,hx⟩:=i1 q
          exact⟨[some (.t (.tup ds)),some (.t (.tup bs)),x],by simp[kQ,bV,dj,bU,j3,iF,e],_,_,rfl,rfl,hx⟩
        · obtain⟨S',e,x,rfl,hx⟩:=i2 q
          exact⟨[some (.t (.tup ds)),some (.t (.tup bs)),x],by simp[kQ,bV,dj,bU,j3,iF,e],_,_,rfl,rfl,hx⟩
      | _=>exact⟨fun q=>(by cases q),fun _=>⟨_,by simp[kQ,bV,dj,bU];rfl,_,_,rfl,rfl,b2⟩⟩)
    obtain⟨i1,i2⟩:=outer
    cases q:qF (.tup ds) with
    | true=>
      obtain⟨S',e,x1,x2,rfl,_⟩:=i1 q
      simp[xK,aQ,je,aE,bV,dj,bU,j3,iF,e]
    | false=>
      obtain⟨S',e,x1,x2,rfl,_⟩:=i2 q
      simp[xK,aQ,je,aE,bV,dj,bU,j3,iF,e]
  | _=>simp[xK,aQ,je,aE,bV,dj,bU,qF,allB]
end Sd
end
section
set_option Elab.async false
set_option linter.all false
set_option maxRecDepth 100000
namespace Sd
open PySem PySem.Spec PyProof.Rows L2 Sw Ss
noncomputable def Co (cs:List Int) (a l:Int):List (Key×D):=[(.inr "cells",.lst (cs.map D.int)),(.inr "at",.int a),(.inr "left",.int l)]
theorem Fb (cs:List Int) (a l:Int):dh (Co cs a l) (.inr "cells")=some (.lst (cs.map D.int)):=rfl
theorem Fc (cs:List Int) (a l:Int):dh (Co cs a l) (.inr "at")=some (.int a):=rfl
theorem Cp (cs:List Int) (a l:Int):dh (Co cs a l) (.inr "left")=some (.int l):=rfl
theorem AR (cs:List Int) (a l x:Int):putD (Co cs a l) (.inr "at") (.int x)=Co cs x l:=rfl
theorem xM (cs:List Int) (a l x:Int):putD (Co cs a l) (.inr "left") (.int x)=Co cs a x:=rfl
theorem Cq (cs:List Int) (a l:Int):(Co cs a l).length=3:=rfl
noncomputable def Fd (n:Nat) (T:MO):Prop:=∃(cs:List Int) (a l:Int),T= .dct (Co cs a l)∧cs.length≤63∧0≤a∧a≤n
theorem Fd.mono {n m:Nat}{T:MO}(h:Fd n T) (k:n≤m):Fd m T:=by
 obtain⟨cs,a,l,e,h1,h2,h3⟩:=h
 exact⟨cs,a,l,e,h1,h2,by omega⟩
noncomputable def fM:GS:=
 (aJ (gQ (qB (eF (eP Dp (aa (bC 0 (eC (.str "left"))) (aa (eC (.int 0)) ak))))) (aJ (bH 2 (eP nD (aa (bC 0 (eC (.str "left"))) (aa (eF (aq 1)) ak))))
 (aJ (sN 0 (eC (.str "left")) (eF (eP FT (aa (bC 0 (eC (.str "left"))) (aa (eF (aq 1)) ak)))))
 (bR (aq 2)))) cS)
 (aJ (bH 3 (eT (bC 0 (eC (.str "at")))))
 (aJ (sN 0 (eC (.str "at")) (eF (eP cK (aa (eF (aq 3)) (aa (eC (.int 1)) ak)))))
 (aJ (bH 4 (eP mX (aa (eF (aq 3)) (aa (eF (aq 3)) ak))))
 (aJ (gQ (qB (eF (eP Bt (aa (bC 0 (eC (.str "cells"))) (aa (eF (eP dg ak)) ak))))) (bH 4 (eP zD (aa (bC 0 (eC (.str "cells"))) (aa (eF (eP nD (aa (eF (aq 3)) (aa (eF (eP Ar (aa (bC 0 (eC (.str "cells"))) ak))) ak)))) ak)))) cS)
 (aJ (gQ (qB (eF (eP W7 (aa (eF (aq 4)) (aa (eF (eP Dq (aa (eC (.int 10)) (aa (eC (.int 18)) ak)))) ak))))) (aJ (sN 0 (eC (.str "left")) (eF (eP FT (aa (eF (aq 4)) (aa (eF (aq 1)) ak)))))
 (bR (eP nD (aa (eF (aq 4)) (aa (eF (aq 1)) ak))))) cS)
 (aJ (bH 5 (eP nD (aa (eF (eP mX (aa (eF (eP cK (aa (eF (eP cK (aa (eF (eP mX (aa (eF (eP nD (aa (eF (aq 4)) (aa (eC (.int 1000003)) ak)))) (aa (eC (.int 7)) ak)))) (aa (eF (eP mX (aa (eC (.int 104729)) (aa (eF (aq 3)) ak)))) ak)))) (aa (eC (.int 1)) ak)))) (aa (eC (.int 48271)) ak)))) (aa (eC (.int 999983)) ak))))
 (aJ (bH 5 (eP nD (aa (eF (eP mX (aa (eF (eP nD (aa (eF (eP cK (aa (eF (eP mX (aa (eF (aq 5)) (aa (eF (aq 5)) ak)))) (aa (eF (eP mX (aa (eC (.int 7919)) (aa (eF (aq 3)) ak)))) ak)))) (aa (eC (.int 2147483629)) ak)))) (aa (eC (.int 30269)) ak)))) (aa (eC (.int 998244353)) ak))))
 (bR (eP nD (aa (eF (eP FT (aa (eF (aq 5)) (aa (eC (.int 7)) ak)))) (aa (eF (aq 1)) ak))))))))))))
noncomputable def cg:FM:=aQ 6 fM
theorem JL:∀us r,cg us=some r→aQ 6 fM us=some r:=fun _ _ h=>h
theorem md1 (x:Int):-18446744073709551616 < x % 999983:=by omega
theorem md2 (x:Int):x % 999983 < 18446744073709551616:=by omega
theorem Cr (is:List Int):bM (is.map D.int)=0:=by
 induction is with
 | nil=>rfl
 | cons i is ih=>show max 0 (bM (is.map D.int))=0;omega
theorem Cs (is:List Int):jC (.lst (is.map D.int)) (.lst [])=is.isEmpty:=by cases is <;> rfl
theorem GR {cs:List Int}{a l m:Int}(h:0 < l) (m0:0 < m) (m1:m < 1000000):cg [.b (.dct (Co cs a l)),.t (.int m)]=some (.t (.int (l % m)),[.dct (Co cs a (l / m))]):=by
 have e3:m < 1073741824:=by omega
 have n0:¬m=0:=by omega
 simp[cg,aQ,fM,Cp,xM,Cq,h,m0,e3,n0,aE]
theorem JM {cs:List Int}{a l m c:Int}(h:¬0 < l) (m0:0 < m) (m1:m < 1000000) (a0:0≤a) (a1:a < 1000000) (hc:(cs=[]∧c=a * a)∨(cs≠[]∧gZ (cs.map D.int) (a % (cs.length:Int))=some (.int c))) (hl:cs.length≤63) (hb:10 ^ 18≤c):
  cg [.b (.dct (Co cs a l)),.t (.int m)]=some (.t (.int (c % m)),[.dct (Co cs (a+1) (c / m))]):=by
 have e3:m < 1073741824:=by omega
 have n0:¬m=0:=by omega
 have b1:-18446744073709551616 < a:=by omega
 have b2:a < 18446744073709551616:=by omega
 have dd:=Cr cs
 have en:=Cs cs
 have hb:(1000000000000000000:Int)≤c:=hb
 have ee:jC (.lst []) (.lst [])=true:=rfl
 rcases hc with⟨rfl,rfl⟩ | ⟨hne,hc⟩
 ·simp[cg,aQ,fM,Cp,Fc,Fb,xM,AR,Cq,h,m0,e3,n0,aE,b1,b2,hb,bZ,bM,ee]
 ·have en:jC (.lst (cs.map D.int)) (.lst [])=false:=by rw[en];cases cs with | nil=>exact absurd rfl hne | cons _ _=>rfl
  have l0:0 < (cs.length:Int):=by cases cs with | nil=>exact absurd rfl hne | cons _ _=>simp only[List.length_cons];omega
  have l1:(cs.length:Int) < 1073741824:=by omega
  have l3:0 < cs.length:=by omega
  have l4:cs.length < 1073741824:=by omega
  have l2:((cs.map D.int).length:Int)=cs.length:=by rw[List.length_map]
  generalize hx:cs.map D.int=xs at *
  simp[cg,aQ,fM,Cp,Fc,Fb,xM,AR,Cq,h,m0,e3,n0,aE,b1,b2,hb,bZ,dd,en,l2,l0,l1,l3,l4,hc,hx]
noncomputable def O0 (c a:Int):Int:=((c % 1000003 * 7+104729 * a+1) * 48271 % 999983 * ((c % 1000003 * 7+104729 * a+1) * 48271 % 999983)+7919 * a) % 2147483629 * 30269 % 998244353 / 7
theorem JN {cs:List Int}{a l m c:Int}(h:¬0 < l) (m0:0 < m) (m1:m < 1000000) (a0:0≤a) (a1:a < 1000000) (hc:(cs=[]∧c=a * a)∨(cs≠[]∧gZ (cs.map D.int) (a % (cs.length:Int))=some (.int c))) (hl:cs.length≤63) (hb:¬10 ^ 18≤c):
  cg [.b (.dct (Co cs a l)),.t (.int m)]=some (.t (.int (O0 c a % m)),[.dct (Co cs (a+1) l)]):=by
 have e3:m < 1073741824:=by omega
 have n0:¬m=0:=by omega
 have b1:-18446744073709551616 < a:=by omega
 have b2:a < 18446744073709551616:=by omega
 have dd:=Cr cs
 have en:=Cs cs
 have hb:¬(1000000000000000000:Int)≤c:=hb
 have ee:jC (.lst []) (.lst [])=true:=rfl
 rcases hc with⟨rfl,rfl⟩ | ⟨hne,hc⟩
 ·simp[cg,aQ,fM,Cp,Fc,Fb,xM,AR,Cq,h,m0,e3,n0,aE,b1,b2,hb,bZ,bM,ee,md1,md2,O0]
 ·have en:jC (.lst (cs.map D.int)) (.lst [])=false:=by rw[en];cases cs with | nil=>exact absurd rfl hne | cons _ _=>rfl
  have l0:0 < (cs.length:Int):=by cases cs with | nil=>exact absurd rfl hne | cons _ _=>simp only[List.length_cons];omega
  have l1:(cs.length:Int) < 1073741824:=by omega
  have l3:0 < cs.length:=by omega
  have l4:cs.length < 1073741824:=by omega
  have l2:((cs.map D.int).length:Int)=cs.length:=by rw[List.length_map]
  generalize hx:cs.map D.int=xs at *
  simp[cg,aQ,fM,Cp,Fc,Fb,xM,AR,Cq,h,m0,e3,n0,aE,b1,b2,hb,bZ,dd,en,l2,l0,l1,l3,l4,hc,hx,md1,md2,O0]
theorem cI {T : MO} {n : Nat} {m : Int} (h : Fd n T) (hn : n < 1000000) (m0 : 0 < m) (m1 : m < 1000000) : ∃ v T', cg [.b T, .t (.int m)] = some (.t (.int v), [T']) ∧ 0 ≤ v ∧ v < m ∧ Fd (n + 1) T' := by
  obtain⟨cs,a,l,rfl,hl,a0,a1⟩:=h
  have r1:∀x:Int,0≤x % m∧x % m < m:=fun x=>⟨Int.emod_nonneg _ (by omega),Int.emod_lt_of_pos _ m0⟩
  by_cases c:0 < l
  · exact⟨_,_,GR c m0 m1,(r1 _).1,(r1 _).2,cs,a,_,rfl,hl,a0,by omega⟩
  · obtain⟨x,hx⟩:∃x,(cs=[]∧x=a * a)∨(cs≠[]∧gZ (cs.map D.int) (a % (cs.length:Int))=some (.int x)):=by
      cases cs with
      | nil=>exact⟨_,.inl ⟨rfl,rfl⟩⟩
      | cons y ys=>
        have l0:(0:Int) < ((y :: ys).length:Int):=by simp only[List.length_cons];omega
        obtain⟨d,h1,h2⟩:=jP (x:=.cW) (l:=(y :: ys).map D.int) (i:=a % ((y :: ys).length:Int)) (Int.emod_nonneg _ (by omega)) (by rw[List.length_map];exact Int.emod_lt_of_pos _ l0)
        obtain⟨z,_,rfl⟩:=List.mem_map.mp h2
        exact⟨z,.inr ⟨by simp,h1⟩⟩
    by_cases hb:10 ^ 18≤x
    · exact⟨_,_,JM c m0 m1 a0 (by omega) hx hl hb,(r1 _).1,(r1 _).2,cs,_,_,rfl,hl,by omega,by omega⟩
    · exact⟨_,_,JN c m0 m1 a0 (by omega) hx hl hb,(r1 _).1,(r1 _).2,cs,_,_,rfl,hl,by omega,by omega⟩
noncomputable def gq:GS:=
 (bR (xh [("cells",(eF (eP pM (aa (eF (Lv 0 none (some (eC (.int 63))))) ak)))),("at",(eC (.int 0))),("left",(eC (.int 0)))]))
noncomputable def pO:FM:=aQ 1 gq
theorem Cc:∀us r,pO us=some r→aQ 1 gq us=some r:=fun _ _ h=>h
theorem L5 (ns:List Int):∃T,pO [.s ns]=some (.m T,[])∧Fd 0 T:=by
 refine⟨.dct (Co (yP ns none (some 63)) 0 0),?_,yP ns none (some 63),0,0,rfl,?_,by decide,by decide⟩
 ·have e:∀l:List D,fW [] [(.inr "cells",.lst l),(.inr "at",.int 0),(.inr "left",.int 0)]=[((.inr "cells":Key),D.lst l),(.inr "at",.int 0),(.inr "left",.int 0)]:=fun l=>rfl
  have f:pM [.lst ((yP ns none (some 63)).map D.int)]=some (.m (.lst ((yP ns none (some 63)).map D.int))):=rfl
  simp[pO,aQ,gq,Lv,aE,f,e,Co]
 ·unfold yP
  rw[List.length_take]
  have:HT.iD ns.length ns.length (some 63)≤63:=by
   show(if(63:Int) < 0 then((63:Int)+(ns.length:Int)).toNat else min (63:Int).toNat ns.length)≤63
   rw[if_neg (by decide)]
   exact Nat.min_le_left _ _
  omega
end Sd
end
section
set_option Elab.async false
set_option linter.all false
set_option maxRecDepth 100000
namespace Sd
open PySem PySem.Spec PyProof.Rows L2 Sw Ss
noncomputable def Nm (z:Str):Prop:=nameB (.str z)=true∧z.length≤8∧Sane (.str z)
noncomputable instance (z:Str):Decidable (Nm z):=by unfold Nm Sane;infer_instance
noncomputable def qG (p:Str×Int):D:=.tup [.str p.1,.int p.2]
noncomputable def Tb (td:D):Prop:=∃rows:List (Str×Int),td= .tup (rows.map qG)∧rows≠[]∧rows.length≤4∧∀p∈rows,Nm p.1
noncomputable def NA:List (List Str):=[["a","ab","abc","b"],["now","any","name","less"],["x","xxxxxxxx","xxxxxxx","y"]]
theorem Td:∀l∈NA,l.length=4∧∀z∈l,Nm z:=by decide +kernel
theorem AS (ds:List D) (k:Nat):L2.cutD ds none (some (k:Int))=ds.take k:=by
 unfold L2.cutD
 rw[HT.BE,HT.EE,List.drop_zero,Nat.sub_zero]
 by_cases h:k≤ds.length
 ·rw[Nat.min_eq_left h]
 ·rw[Nat.min_eq_right (by omega),List.take_of_length_le (Nat.le_refl _),List.take_of_length_le (by omega)]
noncomputable def iH (ah:FM):GS:=
 (aJ (bH 1 (eP dg (aa (eF (eP dg (aa (eC (.str "a")) (aa (eC (.str "ab")) (aa (eC (.str "abc")) (aa (eC (.str "b")) ak)))))) (aa (eF (eP dg (aa (eC (.str "now")) (aa (eC (.str "any")) (aa (eC (.str "name")) (aa (eC (.str "less")) ak)))))) (aa (eF (eP dg (aa (eC (.str "x")) (aa (eC (.str "xxxxxxxx")) (aa (eC (.str "xxxxxxx")) (aa (eC (.str "y")) ak)))))) ak)))))
 (aJ (bH 2 (eT (bC 1 (eF (aL ah (cy (aq 0) (aP (eC (.int 3)) br)))))))
 (aJ (bH 3 (aL ah (cy (aq 0) (aP (eC (.int 4)) br))))
 (aJ (bH 2 (yF (eF (eP cK (aa (eF (yF (eF (aq 2)) (some (eF (aq 3))) none)) (aa (eF (yF (eF (aq 2)) none (some (eF (aq 3))))) ak)))) none (some (eF (eP zD (aa (eF (eP dg (aa (eC (.int 1)) (aa (eC (.int 2)) (aa (eC (.int 2)) (aa (eC (.int 3)) ak)))))) (aa (eF (aL ah (cy (aq 0) (aP (eC (.int 4)) br)))) ak)))))))
 (bR (eP lU (aa (eF (fB [0] (iT (eF (aq 2))) dP (eF (eP bf (aa (eF (aq 0)) (aa (eF (eP zD (aa (eF (eP dg (aa (eC (.int 0)) (aa (eC (.int 1)) (aa (eC (.int 1)) (aa (eC (.int 2)) ak)))))) (aa (eF (aL ah (cy (aq 1) (aP (eC (.int 4)) br)))) ak)))) ak)))))) ak)))))))
noncomputable def pC:FM:=aQ 4 (iH cg)
theorem GV:∀us r,pC us=some r→aQ 4 (iH cg) us=some r:=fun _ _ h=>h
noncomputable abbrev JP (f:FM):GD:=eF (eP bf (aa (eF (aq 0)) (aa (eF (eP zD (aa (eF (eP dg (aa (eC (.int 0)) (aa (eC (.int 1)) (aa (eC (.int 1)) (aa (eC (.int 2)) ak)))))) (aa (eF (aL f (cy (aq 1) (aP (eC (.int 4)) br)))) ak)))) ak)))
theorem JQ {f:FM}{T0 T1 T2 T3 T4:MO}{v a k kk:Int}{nl l2 acc:List D}{x1 x2:Option U}(p1:f [.b T0,.t (.int 3)]=some (.t (.int v),[T1]))
  (h1:gZ [D.lst [.str "a",.str "ab",.str "abc",.str "b"],.lst [.str "now",.str "any",.str "name",.str "less"],.lst [.str "x",.str "xxxxxxxx",.str "xxxxxxx",.str "y"]] v=some (.lst nl))
  (p2:f [.b T1,.t (.int 4)]=some (.t (.int a),[T2])) (p3:f [.b T2,.t (.int 4)]=some (.t (.int k),[T3])) (h2:gZ [D.int 1,.int 2,.int 2,.int 3] k=some (.int kk))
  (hl:(L2.cutD nl (some a) none).length+(L2.cutD nl none (some a)).length≤100000) (hc:L2.cutD (L2.cutD nl (some a) none++L2.cutD nl none (some a)) none (some kk)=l2) (hl2:l2.length≤100000)
  (h4:gW [0] dP (JP f) l2 [some (.b T3),some (.m (.lst [.lst [.str "a",.str "ab",.str "abc",.str "b"],.lst [.str "now",.str "any",.str "name",.str "less"],.lst [.str "x",.str "xxxxxxxx",.str "xxxxxxx",.str "y"]])),some (.t (.lst l2)),some (.t (.int a))] []=some (acc,[some (.b T4),x1,x2,some (.t (.int a))])):
  aQ 4 (iH f) [.b T0]=some (.t (.tup acc),[T4]):=by
 simp only[JP] at h4
 simp[aQ,iH,aE,p1,h1,p2,p3,h2,hl,hc,j3,hl2,h4,lU]
theorem JR {n : Nat} {T : MO} {x1 x2 x3 : Option U} (l : List Str) (hT : Fd n T) (hn : n + l.length < 1000000) :
    ∃(rows:List (Str×Int)) (T':MO),gW [0] dP (JP cg) (l.map D.str) [some (.b T),x1,x2,x3] []=some (rows.map qG,[some (.b T'),x1,x2,x3])∧rows.map (·.1)=l∧Fd (n+l.length) T':=by
  obtain⟨acc,S',e,T',rows,rfl,rfl,hr,hf⟩:=Jk (cap:=[0]) (g:=JP cg) (l.map D.str)
    (fun j acc S=>∃(T':MO) (rows:List (Str×Int)),S=[some (.b T'),x1,x2,x3]∧acc=rows.map qG∧rows.map (·.1)=l.take j∧Fd (n+j) T')
    [some (.b T),x1,x2,x3] ⟨T,[],rfl,rfl,by simp,hT⟩ (by
      rintro j d acc S hd ⟨T1,rows,rfl,rfl,hr,hf⟩
      rw[List.getElem?_map] at hd
      obtain⟨z,hz,rfl⟩:=aG hd
      have hj:j < l.length:=(List.getElem?_eq_some_iff.mp hz).1
      obtain⟨v,T2,e1,v0,v1,f2⟩:=cI (m:=4) hf (by omega) (by decide) (by decide)
      obtain⟨y,y1,y2⟩:=jP (x:=.cW) (l:=[.int 0,.int 1,.int 1,.int 2]) v0 v1
      obtain⟨i,rfl⟩:∃i,y= .int i:=by
        simp only[List.mem_cons,List.not_mem_nil,or_false] at y2
        rcases y2 with rfl | rfl | rfl | rfl <;> exact⟨_,rfl⟩
      refine⟨qG (z,i),[some (.b T2),x1,x2,x3],?_,T2,rows++[(z,i)],rfl,by simp,?_,f2⟩
      · generalize cg=f at *
        simp[gW,oM,Ds,aE,JP,e1,y1,qG]
      · rw[List.map_append,hr,List.take_add_one,hz]
        rfl)
  rw[List.length_map] at hr hf
  exact⟨rows,T',e,by rw[hr,List.take_length],hf⟩
theorem JV {T:MO}{n:Nat}(h:Fd n T) (hn:n < 900000):∃td T',pC [.b T]=some (.t td,[T'])∧Tb td∧Fd (n+7) T':=by
 obtain⟨v,T1,p1,v0,v1,h1⟩:=cI (m:=3) h (by omega) (by decide) (by decide)
 obtain⟨a,T2,p2,a0,a1,h2⟩:=cI (m:=4) h1 (by omega) (by decide) (by decide)
 obtain⟨k,T3,p3,k0,k1,h3⟩:=cI (m:=4) h2 (by omega) (by decide) (by decide)
 obtain⟨nl,g1,g2⟩:=jP (x:=.cW) (l:=[D.lst [.str "a",.str "ab",.str "abc",.str "b"],.lst [.str "now",.str "any",.str "name",.str "less"],.lst [.str "x",.str "xxxxxxxx",.str "xxxxxxx",.str "y"]]) v0 v1
 obtain⟨L,hL,rfl⟩:∃L∈NA,nl= .lst (L.map D.str):=by
  simp only[List.mem_cons,List.not_mem_nil,or_false] at g2
  rcases g2 with rfl | rfl | rfl
  ·exact⟨_,by unfold NA;exact List.mem_cons_self,rfl⟩
  ·exact⟨_,by unfold NA;exact List.mem_cons_of_mem _ List.mem_cons_self,rfl⟩
  ·exact⟨_,by unfold NA;exact List.mem_cons_of_mem _ (List.mem_cons_of_mem _ List.mem_cons_self),rfl⟩
 obtain⟨hl,hz⟩:=Td L hL
 obtain⟨kd,q1,q2⟩:=jP (x:=.cW) (l:=[.int 1,.int 2,.int 2,.int 3]) k0 k1
 obtain⟨kk,rfl,kk1,kk3⟩:∃kk:Nat,kd= .int kk∧1≤kk∧kk≤3:=by
  simp only[List.mem_cons,List.not_mem_nil,or_false] at q2
  rcases q2 with rfl | rfl | rfl | rfl
  ·exact⟨1,rfl,by omega,by omega⟩
  ·exact⟨2,rfl,by omega,by omega⟩
  ·exact⟨2,rfl,by omega,by omega⟩
  ·exact⟨3,rfl,by omega,by omega⟩
 obtain⟨b,rfl⟩:∃b:Nat,a=b:=⟨a.toNat,by omega⟩
 have c1:=nN (L.map D.str) b
 have c2:=AS (L.map D.str) b
 have c3:=AS ((L.map D.str).drop b++(L.map D.str).take b) kk
 have ce:((L.map D.str).drop b++(L.map D.str).take b).take kk=((L.drop b++L.take b).take kk).map D.str:=by
  rw[List.map_take,List.map_append,List.map_drop,List.map_take]
 rw[ce] at c3
 have ll:(L.drop b++L.take b).length=4:=by rw[List.length_append,List.length_drop,List.length_take];omega
 have lt:((L.drop b++L.take b).take kk).length=kk:=by rw[List.length_take,ll];omega
 have hmem:∀z∈(L.drop b++L.take b).take kk,Nm z:=fun z hzz=>by
  rcases List.mem_append.mp (List.mem_of_mem_take hzz) with q | q
  ·exact hz z (List.mem_of_mem_drop q)
  ·exact hz z (List.mem_of_mem_take q)
 generalize (L.drop b++L.take b).take kk=R at *
 obtain⟨rows,T4,e4,r1,h4⟩:=JR (x1:=some (.m (.lst [.lst [.str "a",.str "ab",.str "abc",.str "b"],.lst [.str "now",.str "any",.str "name",.str "less"],.lst [.str "x",.str "xxxxxxxx",.str "xxxxxxx",.str "y"]]))) (x2:=some (.t (.lst (R.map D.str)))) (x3:=some (.t (.int (b:Int)))) R h3 (by omega)
 refine⟨.tup (rows.map qG),T4,?_,⟨rows,rfl,?_,?_,?_⟩,h4.mono (by omega)⟩
 ·exact JQ (f:=cg) (l2:=R.map D.str) (k:=k) (kk:=(kk:Int)) p1 g1 p2 p3 q1 (by rw[c1,c2,List.length_drop,List.length_take,List.length_map];omega) (by rw[c1,c2,c3]) (by rw[List.length_map];omega) e4
 ·rintro rfl
  rw[←r1] at lt
  simp at lt
  omega
 ·have:=congrArg List.length r1
  rw[List.length_map] at this
  omega
 ·intro p hp
  exact hmem p.1 (by rw[←r1];exact List.mem_map_of_mem hp)
end Sd
end
section
set_option Elab.async false
set_option linter.all false
set_option maxRecDepth 100000
namespace Sd
open PySem PySem.Spec PyProof.Rows L2 Sw Ss
noncomputable def dF (ah:FM):GS:=
 (aJ (bH 3 (aL ah (cy (aq 0) (aP (eC (.int 8)) br))))
 (aJ (gQ (qB (eF (eP pS (aa (eF (aq 3)) (aa (eC (.int 0)) ak))))) (bR (eP bf (aa (eC (.str "any")) ak))) cS)
 (aJ (gQ (qB (eF (eP ER (aa (eF (aq 3)) (aa (eC (.int 3)) ak))))) (aJ (bH 4 (eP cK (aa (eF (fB [] (iT (eF (aq 1))) dP (bC 0 (eC (.int 0))))) (aa (eF (eP dg (aa (eC (.str "zz")) ak))) ak))))
 (bR (eP bf (aa (eC (.str "name")) (aa (bC 4 (eF (aL ah (cy (aq 0) (aP (gn 4) br))))) ak))))) cS)
 (aJ (bH 5 (aL ah (cy (aq 0) (aP (eC (.int 4)) br))))
 (aJ (gQ (gC (qB (eF (eP Bt (aa (eF (aq 2)) (aa (eF (eP bf ak)) ak))))) (qB (eF (eP Dp (aa (eF (aL ah (cy (aq 0) (aP (eC (.int 4)) br)))) (aa (eC (.int 0)) ak)))))) (bH 5 (eT (bC 2 (eF (aL ah (cy (aq 0) (aP (gn 2) br))))))) cS)
 (bR (eP bf (aa (eF (eP zD (aa (eF (eP dg (aa (eC (.str "same")) (aa (eC (.str "less")) (aa (eC (.str "more")) ak))))) (aa (eF (eP nD (aa (eF (aq 3)) (aa (eC (.int 3)) ak)))) ak)))) (aa (eF (aq 5)) ak)))))))))
noncomputable def KC:FM:=aQ 6 (dF cg)
theorem O1:∀us r,KC us=some r→aQ 6 (dF cg) us=some r:=fun _ _ h=>h
noncomputable def qH (rows:List (Str×Int)):List D:=(rows.map Prod.fst).map D.str
theorem ux (rows:List (Str×Int)):(qH rows).length=rows.length:=by unfold qH;rw[List.length_map,List.length_map]
noncomputable def JX (z:Str):Bool:=z.cps.toList.all fun c=>decide (c < 16 ^ 8)
theorem cF {z:Str}(h:JX z=true):Sane (.str z):=by
 intro c hc
 exact of_decide_eq_true (List.all_eq_true.mp h c hc)
theorem xN {S:SS}(rows:List (Str×Int)):gW [] dP (bC 0 (eC (.int 0))) (rows.map qG) S []=some (qH rows,S):=by
 have e:=jm (cap:=[]) (g:=bC 0 (eC (.int 0))) (S:=S) (ts:=[]) rfl (fun d=>match d with | .tup (a :: _)=>a | _=>.cW) (rows.map qG) [] (by
  intro d hd
  obtain⟨p,_,rfl⟩:=List.mem_map.mp hd
  simp[qG,bY])
 unfold qH
 rw[e,List.nil_append,List.map_map,List.map_map]
 rfl
structure Tw (bs:List Str) (d:D):Prop where
 ok:gr bs d=true
 fit:sr 8 d
 dep:bZ d≤1
 jW:Sane d
 w:wD d≤180
section
variable {f:FM}{T0 T1 T2 T3 T4:MO}{td:D}{bl nl:List D}{w v x:Int}{nd:D}
theorem O2 (p1:f [.b T0,.t (.int 8)]=some (.t (.int 0),[T1])):aQ 6 (dF f) [.b T0,.t td,.t (.tup bl)]=some (.t (.tup [.str "any"]),[T1]):=by
 simp[aQ,dF,aE,p1]
theorem L6 {rows:List (Str×Int)}(p1:f [.b T0,.t (.int 8)]=some (.t (.int w),[T1])) (h0:¬w=0) (h3:w < 3) (hr:rows.length≤10) (p2:f [.b T1,.t (.int ((qH rows++[D.str "zz"]).length:Int))]=some (.t (.int v),[T2])) (ha:gZ (qH rows++[D.str "zz"]) v=some nd):
  aQ 6 (dF f) [.b T0,.t (.tup (rows.map qG)),.t (.tup bl)]=some (.t (.tup [.str "name",nd]),[T2]):=by
 have ec:=fun S=>xN (S:=S) rows
 have l1:(rows.map qG).length≤100000:=by rw[List.length_map];omega
 have l2:(qH rows).length+1≤100000:=by rw[ux];omega
 generalize qH rows=L at *
 generalize rows.map qG=R at *
 have el:((L++[D.str "zz"]).length:Int)=(L.length:Int)+1:=by rw[List.length_append];push_cast;rfl
 rw[el] at p2
 simp[aQ,dF,aE,p1,h0,h3,j3,l1,ec,l2,p2,ha]
theorem gt_num (p1:f [.b T0,.t (.int 8)]=some (.t (.int w),[T1])) (h0:¬w=0) (h3:¬w < 3) (p2:f [.b T1,.t (.int 4)]=some (.t (.int v),[T2])) (hh:gZ [D.str "same",.str "less",.str "more"] (w % 3)=some nd)
  (hb:bl=[]∧T3=T2∨bl≠[]∧∃u,f [.b T2,.t (.int 4)]=some (.t (.int u),[T3])∧¬0 < u) (hd:bZ (.tup bl)≤40):aQ 6 (dF f) [.b T0,.t td,.t (.tup bl)]=some (.t (.tup [nd,.int v]),[T3]):=by
 rcases hb with⟨rfl,rfl⟩ | ⟨hne,u,p3,hu⟩
 ·have q:jC (.tup []) (.tup [])=true:=rfl
  simp[aQ,dF,aE,p1,h0,h3,p2,q,hh,bZ,bM]
 ·have q:jC (.tup bl) (.tup [])=false:=by cases bl with | nil=>exact absurd rfl hne | cons _ _=>rfl
  simp[aQ,dF,aE,p1,h0,h3,p2,q,hd,p3,hu,hh]
theorem O3 {u:Int}{xd:D}(p1:f [.b T0,.t (.int 8)]=some (.t (.int w),[T1])) (h0:¬w=0) (h3:¬w < 3) (p2:f [.b T1,.t (.int 4)]=some (.t (.int v),[T2])) (hh:gZ [D.str "same",.str "less",.str "more"] (w % 3)=some nd)
  (hne:bl≠[]) (p3:f [.b T2,.t (.int 4)]=some (.t (.int u),[T3])) (hu:0 < u) (p4:f [.b T3,.t (.int (bl.length:Int))]=some (.t (.int x),[T4])) (hx:gZ bl x=some xd) (hd:bZ (.tup bl)≤40):aQ 6 (dF f) [.b T0,.t td,.t (.tup bl)]=some (.t (.tup [nd,xd]),[T4]):=by
 have q:jC (.tup bl) (.tup [])=false:=by cases bl with | nil=>exact absurd rfl hne | cons _ _=>rfl
 simp[aQ,dF,aE,p1,h0,h3,p2,q,hd,p3,hu,p4,hx,hh]
end
theorem Ct {z:Str}(h:z.length≤8):wD (.str z)≤82:=by show 10 * z.length+2≤82;omega
theorem Te {T : MO} {n : Nat} {td : D} {bs : List Str} (h : Fd n T) (hn : n < 900000) (ht : Tb td) (hb : bs.length < 900) (hs : ∀ z ∈ bs, Nm z) :
    ∃d T',KC [.b T,.t td,.t (.tup (bs.map D.str))]=some (.t d,[T'])∧Tw bs d∧Fd (n+4) T':=by
  obtain⟨w,T1,p1,w0,w1,h1⟩:=cI (m:=8) h (by omega) (by decide) (by decide)
  obtain⟨rows,rfl,rne,rl,rn⟩:=ht
  by_cases c0:w=0
  · subst c0
    exact⟨_,T1,O2 p1,⟨rfl,⟨(by show 1≤8;omega),(by show 3≤8;omega),True.intro⟩,by decide,⟨cF (by decide +kernel),True.intro⟩,by decide⟩,h1.mono (by omega)⟩
  · by_cases c1:w < 3
    · have hl:((qH rows++[D.str "zz"]).length:Int)=rows.length+1:=by rw[List.length_append,ux];push_cast;rfl
      obtain⟨v,T2,p2,v0,v1,h2⟩:=cI (m:=((qH rows++[D.str "zz"]).length:Int)) h1 (by omega) (by omega) (by omega)
      obtain⟨nd,a1,a2⟩:=jP (x:=.cW) v0 v1
      obtain⟨z,rfl,nz⟩:∃z,nd= .str z∧Nm z:=by
        rcases List.mem_append.mp a2 with q | q
        · obtain⟨z,hz,rfl⟩:=List.mem_map.mp q
          obtain⟨p,hp,rfl⟩:=List.mem_map.mp hz
          exact⟨_,rfl,rn p hp⟩
        · rw[List.mem_singleton] at q
          exact⟨"zz",q,by decide +kernel,by decide,cF (by decide +kernel)⟩
      obtain⟨z1,z2,z3⟩:=nz
      refine⟨_,T2,L6 p1 c0 c1 (by omega) p2 a1,⟨?_,⟨(by show 2≤8;omega),(by show 4≤8;omega),z2,True.intro⟩,by show max 0 (max 0 0)+1≤1;omega,⟨cF (by decide +kernel),z3,True.intro⟩,?_⟩,h2.mono (by omega)⟩
      · rw[Cj,if_pos (lO _)]
        exact z1
      · have:=Ct z2
        show 42+2+(wD (.str z)+2+0)+4≤180
        omega
    · obtain⟨v,T2,p2,v0,v1,h2⟩:=cI (m:=4) h1 (by omega) (by decide) (by decide)
      obtain⟨hd,d1,d2⟩:=jP (x:=.cW) (l:=[.str "same",.str "less",.str "more"]) (i:=w % 3) (Int.emod_nonneg _ (by decide)) (Int.emod_lt_of_pos _ (by decide))
      have hhd:inD hd (AI.map D.str)=true∧jC hd (.str "name")=false∧sr 8 hd∧bZ hd=0∧Sane hd∧wD hd≤82:=by
        simp only[List.mem_cons,List.not_mem_nil,or_false] at d2
        rcases d2 with rfl | rfl | rfl <;> exact⟨by decide,by decide,(by show _≤8;decide),rfl,cF (by decide +kernel),by decide⟩
      obtain⟨q1,q2,q3,q4,q5,q6⟩:=hhd
      have fin:∀x:D,(gP x 0 9=true∨inD x (bs.map D.str)=true)→sr 8 x→bZ x=0→Sane x→wD x≤82→Tw bs (.tup [hd,x]):=fun x h1 h2 h3 h4 h5=>by
        refine⟨?_,⟨(by show 2≤8;omega),q3,h2,True.intro⟩,by show max (bZ hd) (max (bZ x) 0)+1≤1;rw[q4,h3];decide,⟨q5,h4,True.intro⟩,by show wD hd+2+(wD x+2+0)+4≤180;omega⟩
        rw[Cj,q2,q1]
        rcases h1 with q | q
        · rw[q];rfl
        · rw[q];simp
      have dv:bZ (.tup (bs.map D.str))≤40:=by show bM (bs.map D.str)+1≤40;rw[L2.lV];omega
      have hv:Tw bs (.tup [hd,.int v]):=fin _ (.inl (by show(decide (0≤v) && decide (v≤9))=true;simp only[Bool.and_eq_true,decide_eq_true_eq];omega)) True.intro rfl (by show v.natAbs < 10 ^ 30;omega) (by show 40≤82;omega)
      cases Qq:bs with
      | nil=>
        subst Qq
        exact⟨_,T2,gt_num p1 c0 c1 p2 d1 (.inl ⟨rfl,rfl⟩) dv,hv,h2.mono (by omega)⟩
      | cons y ys=>
        rw[←Qq]
        have hne:bs.map D.str≠[]:=by rw[Qq];simp
        obtain⟨u,T3,p3,u0,u1,h3⟩:=cI (m:=4) h2 (by omega) (by decide) (by decide)
        by_cases c3:0 < u
        · have hl0:0 < ((bs.map D.str).length:Int):=by rw[Qq];simp only[List.map_cons,List.length_cons];omega
          obtain⟨x,T4,p4,x0,x1,h4⟩:=cI (m:=((bs.map D.str).length:Int)) h3 (by omega) hl0 (by rw[List.length_map];omega)
          obtain⟨xd,g1,g2⟩:=jP (x:=.cW) x0 x1
          obtain⟨vs,m1,rfl⟩:=List.mem_map.mp g2
          have iv:inD (.str vs) (bs.map D.str)=true:=by
            unfold inD
            exact List.any_eq_true.mpr ⟨.str vs,g2,lO _⟩
          obtain⟨z1,z2,z3⟩:=hs vs m1
          exact⟨_,T4,O3 p1 c0 c1 p2 d1 hne p3 c3 p4 g1 dv,fin _ (.inr iv) z2 rfl z3 (Ct z2),h4.mono (by omega)⟩
        · exact⟨_,T3,gt_num p1 c0 c1 p2 d1 (.inr ⟨hne,u,p3,c3⟩) dv,hv,h3.mono (by omega)⟩
end Sd
end
section
set_option Elab.async false
set_option linter.all false
set_option maxRecDepth 100000
namespace Sd
open PySem PySem.Spec PyProof.Rows L2 Sw Ss
noncomputable def dI (ah:FM) (bQ:FM) (aB:FM):GS:=
 (aJ (sN 3 (eC (.int 0)) (eF (eP kZ (aa (bC 3 (eC (.int 0))) (aa (eC (.int 1)) ak)))))
 (aJ (bH 5 (eP dg (aa (eC (.str "next")) (aa (eC (.str "not")) (aa (eC (.str "within")) (aa (eC (.str "always")) (aa (eC (.str "some")) (aa (eC (.str "till")) (aa (eC (.str "both")) (aa (eC (.str "either")) (aa (eC (.str "till")) (aa (eC (.str "each")) (aa (eC (.str "one")) (aa (eC (.str "now")) ak))))))))))))))
 (aJ (bH 6 (eT (bC 5 (eF (aL ah (cy (aq 0) (aP (eC (.int 12)) br)))))))
 (aJ (gQ (oH (gC (qB (eF (eP rY (aa (eF (aq 6)) (aa (eF (eP bf (aa (eC (.str "each")) (aa (eC (.str "one")) ak)))) ak))))) (qB (eF (eP pS (aa (bC 3 (eC (.int 1))) (aa (eC (.int 0)) ak)))))) (gC (qB (eF (eP rY (aa (eF (aq 6)) (aa (eF (eP bf (aa (eC (.str "till")) (aa (eC (.str "both")) (aa (eC (.str "either")) ak))))) ak))))) (qB (eF (eP ER (aa (bC 3 (eC (.int 0))) (aa (eC (.int 2)) ak))))))) (bH 6 (eP zD (aa (eF (eP dg (aa (eC (.str "next")) (aa (eC (.str "some")) (aa (eC (.str "always")) ak))))) (aa (eF (aL ah (cy (aq 0) (aP (eC (.int 3)) br)))) ak)))) cS)
 (aJ (gQ (oH (qB (eF (eP ER (aa (bC 3 (eC (.int 0))) (aa (eC (.int 1)) ak))))) (oH (qB (eF (eP ER (aa (eF (aq 4)) (aa (eC (.int 2)) ak))))) (qB (eF (eP pS (aa (eF (aq 6)) (aa (eC (.str "now")) ak))))))) (bR (eP zD (aa (eF (eP dg (aa (eF (eP bf (aa (eC (.str "yes")) ak))) (aa (eF (eP bf (aa (eC (.str "no")) ak))) (aa (eF (eP bf (aa (eC (.str "now")) (aa (eF (aL bQ (cy (aq 0) (aP (eF (aq 1)) (aP (eF (aq 2)) br))))) ak)))) ak))))) (aa (eF (eP BU (aa (eC (.int 2)) (aa (eF (aL ah (cy (aq 0) (aP (eC (.int 9)) br)))) ak)))) ak)))) cS)
 (aJ (gQ (qB (eF (eP rY (aa (eF (aq 6)) (aa (eF (eP bf (aa (eC (.str "each")) (aa (eC (.str "one")) ak)))) ak))))) (aJ (sN 3 (eC (.int 1)) (eF (eP kZ (aa (bC 3 (eC (.int 1))) (aa (eC (.int 1)) ak)))))
 (aJ (bH 7 (fB [] (iT (eF (aq 1))) dP (bC 0 (eC (.int 0)))))
 (aJ (bH 8 (eP zD (aa (eF (eP cK (aa (eF (aq 7)) (aa (eF (eP dg (aa (eC (.str "x")) (aa (eC (.str "y")) (aa (eC (.str "x")) ak))))) ak)))) (aa (eF (aL ah (cy (aq 0) (aP (eF (eP cK (aa (gn 7) (aa (eC (.int 3)) ak)))) br)))) ak))))
 (aJ (bH 9 (aL aB (cy (aq 0) (aP (eF (aq 1)) (aP (eF (eP cK (aa (eF (aq 2)) (aa (eF (eP bf (aa (eF (aq 8)) ak))) ak)))) (cy (aq 3) (aP (eF (eP kZ (aa (eF (aq 4)) (aa (eC (.int 1)) ak)))) br)))))))
 (bR (eP bf (aa (eF (aq 6)) (aa (bC 7 (eF (aL ah (cy (aq 0) (aP (gn 7) br))))) (aa (eF (aq 8)) (aa (eF (aq 9)) ak)))))))))) cS)
 (aJ (gQ (qB (eF (eP pS (aa (eF (aq 6)) (aa (eC (.str "within")) ak))))) (bR (eP bf (aa (eF (aq 6)) (aa (eF (eP zD (aa (eF (eP dg (aa (eC (.int 2)) (aa (eC (.int 1)) (aa (eC (.int 3)) (aa (eC (.int 0)) (aa (eC (.int 5)) (aa (eC (.int 2)) ak)))))))) (aa (eF (aL ah (cy (aq 0) (aP (eC (.int 6)) br)))) ak)))) (aa (eF (aL aB (cy (aq 0) (aP (eF (aq 1)) (aP (eF (aq 2)) (cy (aq 3) (aP (eF (eP kZ (aa (eF (aq 4)) (aa (eC (.int 1)) ak)))) br))))))) ak))))) cS)
 (aJ (gQ (qB (eF (eP rY (aa (eF (aq 6)) (aa (eF (eP bf (aa (eC (.str "till")) (aa (eC (.str "both")) (aa (eC (.str "either")) ak))))) ak))))) (aJ (sN 3 (eC (.int 0)) (eF (eP kZ (aa (bC 3 (eC (.int 0))) (aa (eC (.int 1)) ak)))))
 (aJ (bH 10 (aL aB (cy (aq 0) (aP (eF (aq 1)) (aP (eF (aq 2)) (cy (aq 3) (aP (eF (eP kZ (aa (eF (aq 4)) (aa (eC (.int 1)) ak)))) br)))))))
 (aJ (sN 3 (eC (.int 0)) (eF (eP cK (aa (bC 3 (eC (.int 0))) (aa (eC (.int 1)) ak)))))
 (bR (eP bf (aa (eF (aq 6)) (aa (eF (aq 10)) (aa (eF (aL aB (cy (aq 0) (aP (eF (aq 1)) (aP (eF (aq 2)) (cy (aq 3) (aP (eF (eP kZ (aa (eF (aq 4)) (aa (eC (.int 1)) ak)))) br))))))) ak)))))))) cS)
 (bR (eP bf (aa (eF (aq 6)) (aa (eF (aL aB (cy (aq 0) (aP (eF (aq 1)) (aP (eF (aq 2)) (cy (aq 3) (aP (eF (eP kZ (aa (eF (aq 4)) (aa (eC (.int 1)) ak)))) br))))))) ak))))))))))))
noncomputable def YJ (ah:FM) (bQ:FM) (aB:FM):GS:=
 (sN 3 (eC (.int 0)) (eF (eP kZ (aa (bC 3 (eC (.int 0))) (aa (eC (.int 1)) ak)))))
noncomputable def YK (ah:FM) (bQ:FM) (aB:FM):GS:=
 (bH 5 (eP dg (aa (eC (.str "next")) (aa (eC (.str "not")) (aa (eC (.str "within")) (aa (eC (.str "always")) (aa (eC (.str "some")) (aa (eC (.str "till")) (aa (eC (.str "both")) (aa (eC (.str "either")) (aa (eC (.str "till")) (aa (eC (.str "each")) (aa (eC (.str "one")) (aa (eC (.str "now")) ak))))))))))))))
noncomputable def YL (ah:FM) (bQ:FM) (aB:FM):GS:=
 (bH 6 (eT (bC 5 (eF (aL ah (cy (aq 0) (aP (eC (.int 12)) br)))))))
noncomputable def L7 (ah:FM) (bQ:FM) (aB:FM):GS:=
 (gQ (oH (gC (qB (eF (eP rY (aa (eF (aq 6)) (aa (eF (eP bf (aa (eC (.str "each")) (aa (eC (.str "one")) ak)))) ak))))) (qB (eF (eP pS (aa (bC 3 (eC (.int 1))) (aa (eC (.int 0)) ak)))))) (gC (qB (eF (eP rY (aa (eF (aq 6)) (aa (eF (eP bf (aa (eC (.str "till")) (aa (eC (.str "both")) (aa (eC (.str "either")) ak))))) ak))))) (qB (eF (eP ER (aa (bC 3 (eC (.int 0))) (aa (eC (.int 2)) ak))))))) (bH 6 (eP zD (aa (eF (eP dg (aa (eC (.str "next")) (aa (eC (.str "some")) (aa (eC (.str "always")) ak))))) (aa (eF (aL ah (cy (aq 0) (aP (eC (.int 3)) br)))) ak)))) cS)
noncomputable def M0 (ah:FM) (bQ:FM) (aB:FM):GS:=
 (gQ (oH (qB (eF (eP ER (aa (bC 3 (eC (.int 0))) (aa (eC (.int 1)) ak))))) (oH (qB (eF (eP ER (aa (eF (aq 4)) (aa (eC (.int 2)) ak))))) (qB (eF (eP pS (aa (eF (aq 6)) (aa (eC (.str "now")) ak))))))) (bR (eP zD (aa (eF (eP dg (aa (eF (eP bf (aa (eC (.str "yes")) ak))) (aa (eF (eP bf (aa (eC (.str "no")) ak))) (aa (eF (eP bf (aa (eC (.str "now")) (aa (eF (aL bQ (cy (aq 0) (aP (eF (aq 1)) (aP (eF (aq 2)) br))))) ak)))) ak))))) (aa (eF (eP BU (aa (eC (.int 2)) (aa (eF (aL ah (cy (aq 0) (aP (eC (.int 9)) br)))) ak)))) ak)))) cS)
noncomputable def L8 (ah:FM) (bQ:FM) (aB:FM):GS:=
 (gQ (qB (eF (eP rY (aa (eF (aq 6)) (aa (eF (eP bf (aa (eC (.str "each")) (aa (eC (.str "one")) ak)))) ak))))) (aJ (sN 3 (eC (.int 1)) (eF (eP kZ (aa (bC 3 (eC (.int 1))) (aa (eC (.int 1)) ak)))))
 (aJ (bH 7 (fB [] (iT (eF (aq 1))) dP (bC 0 (eC (.int 0)))))
 (aJ (bH 8 (eP zD (aa (eF (eP cK (aa (eF (aq 7)) (aa (eF (eP dg (aa (eC (.str "x")) (aa (eC (.str "y")) (aa (eC (.str "x")) ak))))) ak)))) (aa (eF (aL ah (cy (aq 0) (aP (eF (eP cK (aa (gn 7) (aa (eC (.int 3)) ak)))) br)))) ak))))
 (aJ (bH 9 (aL aB (cy (aq 0) (aP (eF (aq 1)) (aP (eF (eP cK (aa (eF (aq 2)) (aa (eF (eP bf (aa (eF (aq 8)) ak))) ak)))) (cy (aq 3) (aP (eF (eP kZ (aa (eF (aq 4)) (aa (eC (.int 1)) ak)))) br)))))))
 (bR (eP bf (aa (eF (aq 6)) (aa (bC 7 (eF (aL ah (cy (aq 0) (aP (gn 7) br))))) (aa (eF (aq 8)) (aa (eF (aq 9)) ak)))))))))) cS)
noncomputable def O4 (ah:FM) (bQ:FM) (aB:FM):GS:=
 (gQ (qB (eF (eP pS (aa (eF (aq 6)) (aa (eC (.str "within")) ak))))) (bR (eP bf (aa (eF (aq 6)) (aa (eF (eP zD (aa (eF (eP dg (aa (eC (.int 2)) (aa (eC (.int 1)) (aa (eC (.int 3)) (aa (eC (.int 0)) (aa (eC (.int 5)) (aa (eC (.int 2)) ak)))))))) (aa (eF (aL ah (cy (aq 0) (aP (eC (.int 6)) br)))) ak)))) (aa (eF (aL aB (cy (aq 0) (aP (eF (aq 1)) (aP (eF (aq 2)) (cy (aq 3) (aP (eF (eP kZ (aa (eF (aq 4)) (aa (eC (.int 1)) ak)))) br))))))) ak))))) cS)
noncomputable def Tf (ah:FM) (bQ:FM) (aB:FM):GS:=
 (gQ (qB (eF (eP rY (aa (eF (aq 6)) (aa (eF (eP bf (aa (eC (.str "till")) (aa (eC (.str "both")) (aa (eC (.str "either")) ak))))) ak))))) (aJ (sN 3 (eC (.int 0)) (eF (eP kZ (aa (bC 3 (eC (.int 0))) (aa (eC (.int 1)) ak)))))
 (aJ (bH 10 (aL aB (cy (aq 0) (aP (eF (aq 1)) (aP (eF (aq 2)) (cy (aq 3) (aP (eF (eP kZ (aa (eF (aq 4)) (aa (eC (.int 1)) ak)))) br)))))))
 (aJ (sN 3 (eC (.int 0)) (eF (eP cK (aa (bC 3 (eC (.int 0))) (aa (eC (.int 1)) ak)))))
 (bR (eP bf (aa (eF (aq 6)) (aa (eF (aq 10)) (aa (eF (aL aB (cy (aq 0) (aP (eF (aq 1)) (aP (eF (aq 2)) (cy (aq 3) (aP (eF (eP kZ (aa (eF (aq 4)) (aa (eC (.int 1)) ak)))) br))))))) ak)))))))) cS)
noncomputable def YM (ah:FM) (bQ:FM) (aB:FM):GS:=
 (bR (eP bf (aa (eF (aq 6)) (aa (eF (aL aB (cy (aq 0) (aP (eF (aq 1)) (aP (eF (aq 2)) (cy (aq 3) (aP (eF (eP kZ (aa (eF (aq 4)) (aa (eC (.int 1)) ak)))) br))))))) ak))))
theorem Tg (ah:FM) (bQ:FM) (aB:FM):dI ah bQ aB=aJ (YJ ah bQ aB) (aJ (YK ah bQ aB) (aJ (YL ah bQ aB) (aJ (L7 ah bQ aB) (aJ (M0 ah bQ aB) (aJ (L8 ah bQ aB) (aJ (O4 ah bQ aB) (aJ (Tf ah bQ aB) (YM ah bQ aB)))))))):=rfl
noncomputable def HL:List Str:=["next","not","within","always","some","till","both","either","till","each","one","now"]
noncomputable def Fe:List Str:=["till","both","either"]
noncomputable abbrev bg (a b:Int):MO:=.lst [.int a,.int b]
section
variable {f1 f2 f3:FM}{T0 T1 T2 T3 T4 T5:MO}{td:D}{bl:List D}{b0 b1 deep:Int}{z:Str}{hl:List D}
noncomputable abbrev sv (hl:List D) (T:MO) (td:D) (bl:List D) (a b deep:Int) (h:Str):SS:=[some (.b T),some (.t td),some (.t (.tup bl)),some (.b (bg a b)),some (.t (.int deep)),some (.m (.lst hl)),some (.t (.str h)),none,none,none,none]
noncomputable def HH (f1 f2 f3:FM):GS:=aJ (M0 f1 f2 f3) (aJ (L8 f1 f2 f3) (aJ (O4 f1 f2 f3) (aJ (Tf f1 f2 f3) (YM f1 f2 f3))))
theorem mQ (a b:D):gZ [a,b] 0=some a∧gZ [a,b] 1=some b:=⟨rfl,rfl⟩
theorem JY:Di 2 0=some 0∧Di 2 1=some 1:=⟨rfl,rfl⟩
theorem uy (z:Str):rY [.str z,.tup [.str "each",.str "one"]]=some (.t (.bl (cB z))):=mL (.str z) HF
theorem AU (z:Str):rY [.str z,.tup [.str "till",.str "both",.str "either"]]=some (.t (.bl (inD (.str z) (Fe.map D.str)))):=mL (.str z) Fe
theorem Ff {v : Int} {h0 : Str} (p1 : f1 [.b T0, .t (.int 12)] = some (.t (.int v), [T1])) (hh : gZ (HL.map D.str) v = some (.str h0))
    (hz:(cB h0=true∧b1=0∨inD (.str h0) (Fe.map D.str)=true∧b0 - 1 < 2)∧(∃u,f1 [.b T1,.t (.int 3)]=some (.t (.int u),[T2])∧gZ [D.str "next",.str "some",.str "always"] u=some (.str z))∨¬(cB h0=true∧b1=0∨inD (.str h0) (Fe.map D.str)=true∧b0 - 1 < 2)∧z=h0∧T2=T1):
    dI f1 f2 f3 [some (.b T0),some (.t td),some (.t (.tup bl)),some (.b (bg b0 b1)),some (.t (.int deep)),none,none,none,none,none,none]=HH f1 f2 f3 (sv (HL.map D.str) T2 td bl (b0 - 1) b1 deep z):=by
  rw[Tg]
  have e0:YJ f1 f2 f3 [some (.b T0),some (.t td),some (.t (.tup bl)),some (.b (bg b0 b1)),some (.t (.int deep)),none,none,none,none,none,none]=some (.nx [some (.b T0),some (.t td),some (.t (.tup bl)),some (.b (bg (b0 - 1) b1)),some (.t (.int deep)),none,none,none,none,none,none]):=by simp[YJ,mQ,JY]
  have e1:YK f1 f2 f3 [some (.b T0),some (.t td),some (.t (.tup bl)),some (.b (bg (b0 - 1) b1)),some (.t (.int deep)),none,none,none,none,none,none]=some (.nx [some (.b T0),some (.t td),some (.t (.tup bl)),some (.b (bg (b0 - 1) b1)),some (.t (.int deep)),some (.m (.lst (HL.map D.str))),none,none,none,none,none]):=by simp[YK,HL]
  have YO:∃hl:List D,hl=HL.map D.str:=⟨_,rfl⟩
  obtain⟨hl,ehl⟩:=YO
  rw[←ehl] at hh e1 ⊢
  have e2:YL f1 f2 f3 [some (.b T0),some (.t td),some (.t (.tup bl)),some (.b (bg (b0 - 1) b1)),some (.t (.int deep)),some (.m (.lst hl)),none,none,none,none,none]=some (.nx (sv hl T1 td bl (b0 - 1) b1 deep h0)):=by
    simp[YL,p1,hh]
  have e3 : L7 f1 f2 f3 (sv hl T1 td bl (b0 - 1) b1 deep h0) = some (.nx (sv hl T2 td bl (b0 - 1) b1 deep z)) := by
    have i1:=uy h0
    have i2:=AU h0
    rcases hz with⟨hc,u,p2,hu⟩ | ⟨hc,rfl,rfl⟩
    · cases q1:cB h0 with
      | true=>
        rw[q1] at i1
        by_cases c1:b1=0
        · simp[L7,i1,mQ,c1,p2,hu]
        · have q3:inD (.str h0) (Fe.map D.str)=true∧b0 - 1 < 2:=by rcases hc with h | h;exact absurd h.2 c1;exact h
          rw[q3.1] at i2
          simp[L7,i1,i2,mQ,c1,p2,hu,q3.2]
      | false=>
        rw[q1] at i1 hc
        have q3:inD (.str h0) (Fe.map D.str)=true∧b0 - 1 < 2:=by rcases hc with h | h;cases h.1;exact h
        rw[q3.1] at i2
        simp[L7,i1,i2,mQ,p2,hu,q3.2]
    · cases q1:cB z with
      | true=>
        rw[q1] at i1
        have c1:¬b1=0:=fun c=>hc (.inl ⟨q1,c⟩)
        cases q2:inD (.str z) (Fe.map D.str) with
        | true=>
          rw[q2] at i2
          have c2:¬b0 - 1 < 2:=fun c=>hc (.inr ⟨q2,c⟩)
          simp[L7,i1,i2,mQ,c1,c2]
        | false=>
          rw[q2] at i2
          simp[L7,i1,i2,mQ,c1]
      | false=>
        rw[q1] at i1
        cases q2:inD (.str z) (Fe.map D.str) with
        | true=>
          rw[q2] at i2
          have c2:¬b0 - 1 < 2:=fun c=>hc (.inr ⟨q2,c⟩)
          simp[L7,i1,i2,mQ,c2]
        | false=>
          rw[q2] at i2
          simp[L7,i1,i2,mQ]
  rw[bA,e0,Option.bind_some]
  simp only
  rw[bA,e1,Option.bind_some]
  simp only
  rw[bA,e2,Option.bind_some]
  simp only
  rw[bA,e3,Option.bind_some]
  rfl
noncomputable def O5 (T:MO) (td:D) (bl:List D) (a b deep:Int) (o:Option Out):Option (U×List MO):=o.bind fun o=>match o with
 | .rt (.t d) S=>(aE [.b T,.t td,.t (.tup bl),.b (bg a b),.t (.int deep)] S).map fun os=>(.t d,os)
 | .rt (.m o) S=>(aE [.b T,.t td,.t (.tup bl),.b (bg a b),.t (.int deep)] S).map fun os=>(.m o,os)
 | .nx S=>(aE [.b T,.t td,.t (.tup bl),.b (bg a b),.t (.int deep)] S).map fun os=>(.t .cW,os)
 | _=>none
theorem O6:aQ 11 (dI f1 f2 f3) [.b T0,.t td,.t (.tup bl),.b (bg b0 b1),.t (.int deep)]=O5 T0 td bl b0 b1 deep (dI f1 f2 f3 [some (.b T0),some (.t td),some (.t (.tup bl)),some (.b (bg b0 b1)),some (.t (.int deep)),none,none,none,none,none,none]):=rfl
theorem xO {d:D}{T T':MO}{a b a' b':Int}{r:SS}:O5 T td bl a b deep (some (.rt (.t d) (some (.b T') :: some (.t td) :: some (.t (.tup bl)) :: some (.b (bg a' b')) :: some (.t (.int deep)) :: r)))=some (.t d,[T',bg a' b']):=by
 simp[O5,aE]
theorem Ma {a b k : Int} {KD d : D} (hc : a < 1 ∨ deep < 2 ∨ z = "now") (p1 : f2 [.b T2, .t td, .t (.tup bl)] = some (.t KD, [T3])) (p2 : f1 [.b T3, .t (.int 9)] = some (.t (.int k), [T4])) (hk : gZ [.tup [.str "yes"], .tup [.str "no"], .tup [.str "now", KD]] (if k < 2 then k else 2) = some d) :
    HH f1 f2 f3 (sv hl T2 td bl a b deep z)=some (.rt (.t d) (sv hl T4 td bl a b deep z)):=by
  have e4:M0 f1 f2 f3 (sv hl T2 td bl a b deep z)=some (.rt (.t d) (sv hl T4 td bl a b deep z)):=by
    by_cases c1:a < 1
    · simp[M0,mQ,c1,p1,p2,hk]
    · by_cases c2:deep < 2
      · simp[M0,mQ,c1,c2,p1,p2,hk]
      · have c3:z="now":=by rcases hc with h | h | h;exact absurd h c1;exact absurd h c2;exact h
        subst c3
        simp[M0,mQ,c1,c2,p1,p2,hk]
  unfold HH
  rw[bA,e4,Option.bind_some]
theorem wK {a b:Int}(h1:¬a < 1) (h2:¬deep < 2) (h3:¬z="now"):M0 f1 f2 f3 (sv hl T2 td bl a b deep z)=some (.nx (sv hl T2 td bl a b deep z)):=by
 simp[M0,mQ,h1,h2,h3]
theorem O7 {a b x nx:Int}{rows:List (Str×Int)}{xd nd d:D}{a' b':Int}(h1:¬a < 1) (h2:¬deep < 2) (h3:¬z="now") (hb:cB z=true) (hr:rows.length≤10)
  (p1:f1 [.b T2,.t (.int ((rows.length:Int)+3))]=some (.t (.int x),[T3])) (hx:gZ (qH rows++[.str "x",.str "y",.str "x"]) x=some xd) (hv:bl.length+1≤100000)
  (p2:f3 [.b T3,.t (.tup (rows.map qG)),.t (.tup (bl++[xd])),.b (bg a (b - 1)),.t (.int (deep - 1))]=some (.t d,[T4,bg a' b'])) (p3:f1 [.b T4,.t (.int (rows.length:Int))]=some (.t (.int nx),[T5])) (hn:gZ (qH rows) nx=some nd):
  ∃r,HH f1 f2 f3 (sv hl T2 (.tup (rows.map qG)) bl a b deep z)=some (.rt (.t (.tup [.str z,nd,xd,d])) (some (.b T5) :: some (.t (.tup (rows.map qG))) :: some (.t (.tup bl)) :: some (.b (bg a' b')) :: some (.t (.int deep)) :: r)):=by
 unfold HH
 rw[bA,wK h1 h2 h3,Option.bind_some]
 simp only
 have i1:=uy z
 rw[hb] at i1
 have ec:=fun S=>xN (S:=S) rows
 have l1:(rows.map qG).length≤100000:=by rw[List.length_map];omega
 have ln:(qH rows).length=rows.length:=ux rows
 have l3:rows.length≤99997:=by omega
 have l4:((qH rows).length:Int)=rows.length:=by rw[ln]
 generalize qH rows=L at *
 generalize rows.map qG=R at *
 rw[bA]
 simp[L8,mQ,JY,i1,j3,l1,ec,l3,l4,ln,p1,hx,hv,p2,p3,hn]
theorem GW {a b k:Int}{kd d:D}{a' b':Int}(h1:¬a < 1) (h2:¬deep < 2) (h3:¬z="now") (hb:cB z=false) (hz:z="within")
  (p1:f1 [.b T2,.t (.int 6)]=some (.t (.int k),[T3])) (hk:gZ [D.int 2,.int 1,.int 3,.int 0,.int 5,.int 2] k=some kd)
  (p2:f3 [.b T3,.t td,.t (.tup bl),.b (bg a b),.t (.int (deep - 1))]=some (.t d,[T4,bg a' b'])):
  HH f1 f2 f3 (sv hl T2 td bl a b deep z)=some (.rt (.t (.tup [.str z,kd,d])) (sv hl T4 td bl a' b' deep z)):=by
 unfold HH
 rw[bA,wK h1 h2 h3,Option.bind_some]
 simp only
 have i1:=uy z
 rw[hb] at i1
 have e5:L8 f1 f2 f3 [some (.b T2),some (.t td),some (.t (.tup bl)),some (.b (bg a b)),some (.t (.int deep)),some (.m (.lst hl)),some (.t (.str z)),none,none,none,none]=some (.nx [some (.b T2),some (.t td),some (.t (.tup bl)),some (.b (bg a b)),some (.t (.int deep)),some (.m (.lst hl)),some (.t (.str z)),none,none,none,none]):=by simp[L8,i1]
 rw[bA,e5,Option.bind_some]
 simp only
 rw[bA]
 simp[O4,eq_true hz,p1,hk,p2]
theorem O8 {a b:Int}{d e:D}{a' b' a2 b2:Int}(h1:¬a < 1) (h2:¬deep < 2) (h3:¬z="now") (hb:cB z=false) (hz:¬z="within") (ht:inD (.str z) (Fe.map D.str)=true)
  (p1:f3 [.b T2,.t td,.t (.tup bl),.b (bg (a - 1) b),.t (.int (deep - 1))]=some (.t d,[T3,bg a' b'])) (p2:f3 [.b T3,.t td,.t (.tup bl),.b (bg (a'+1) b'),.t (.int (deep - 1))]=some (.t e,[T4,bg a2 b2])):
  ∃r,HH f1 f2 f3 (sv hl T2 td bl a b deep z)=some (.rt (.t (.tup [.str z,d,e])) (some (.b T4) :: some (.t td) :: some (.t (.tup bl)) :: some (.b (bg a2 b2)) :: some (.t (.int deep)) :: r)):=by
 unfold HH
 rw[bA,wK h1 h2 h3,Option.bind_some]
 simp only
 have i1:=uy z
 rw[hb] at i1
 have i2:=AU z
 rw[ht] at i2
 have e5:L8 f1 f2 f3 [some (.b T2),some (.t td),some (.t (.tup bl)),some (.b (bg a b)),some (.t (.int deep)),some (.m (.lst hl)),some (.t (.str z)),none,none,none,none]=some (.nx [some (.b T2),some (.t td),some (.t (.tup bl)),some (.b (bg a b)),some (.t (.int deep)),some (.m (.lst hl)),some (.t (.str z)),none,none,none,none]):=by simp[L8,i1]
 have e6:O4 f1 f2 f3 [some (.b T2),some (.t td),some (.t (.tup bl)),some (.b (bg a b)),some (.t (.int deep)),some (.m (.lst hl)),some (.t (.str z)),none,none,none,none]=some (.nx [some (.b T2),some (.t td),some (.t (.tup bl)),some (.b (bg a b)),some (.t (.int deep)),some (.m (.lst hl)),some (.t (.str z)),none,none,none,none]):=by simp[O4,hz]
 rw[bA,e5,Option.bind_some]
 simp only
 rw[bA,e6,Option.bind_some]
 simp only
 rw[bA]
 simp[Tf,mQ,JY,i2,p1,p2]
theorem O9 {a b:Int}{d:D}{a' b':Int}(h1:¬a < 1) (h2:¬deep < 2) (h3:¬z="now") (hb:cB z=false) (hz:¬z="within") (ht:inD (.str z) (Fe.map D.str)=false)
  (p1:f3 [.b T2,.t td,.t (.tup bl),.b (bg a b),.t (.int (deep - 1))]=some (.t d,[T3,bg a' b'])):
  HH f1 f2 f3 (sv hl T2 td bl a b deep z)=some (.rt (.t (.tup [.str z,d])) (sv hl T3 td bl a' b' deep z)):=by
 unfold HH
 rw[bA,wK h1 h2 h3,Option.bind_some]
 simp only
 have i1:=uy z
 rw[hb] at i1
 have i2:=AU z
 rw[ht] at i2
 have e5:L8 f1 f2 f3 [some (.b T2),some (.t td),some (.t (.tup bl)),some (.b (bg a b)),some (.t (.int deep)),some (.m (.lst hl)),some (.t (.str z)),none,none,none,none]=some (.nx [some (.b T2),some (.t td),some (.t (.tup bl)),some (.b (bg a b)),some (.t (.int deep)),some (.m (.lst hl)),some (.t (.str z)),none,none,none,none]):=by simp[L8,i1]
 have e6:O4 f1 f2 f3 [some (.b T2),some (.t td),some (.t (.tup bl)),some (.b (bg a b)),some (.t (.int deep)),some (.m (.lst hl)),some (.t (.str z)),none,none,none,none]=some (.nx [some (.b T2),some (.t td),some (.t (.tup bl)),some (.b (bg a b)),some (.t (.int deep)),some (.m (.lst hl)),some (.t (.str z)),none,none,none,none]):=by simp[O4,hz]
 have e7:Tf f1 f2 f3 [some (.b T2),some (.t td),some (.t (.tup bl)),some (.b (bg a b)),some (.t (.int deep)),some (.m (.lst hl)),some (.t (.str z)),none,none,none,none]=some (.nx [some (.b T2),some (.t td),some (.t (.tup bl)),some (.b (bg a b)),some (.t (.int deep)),some (.m (.lst hl)),some (.t (.str z)),none,none,none,none]):=by simp[Tf,i2]
 rw[bA,e5,Option.bind_some]
 simp only
 rw[bA,e6,Option.bind_some]
 simp only
 rw[bA,e7,Option.bind_some]
 simp only
 simp[YM,p1]
end
end Sd
end
section
set_option Elab.async false
set_option linter.all false
set_option maxRecDepth 100000
namespace Sd
open PySem PySem.Spec PyProof.Rows L2 Sw Ss
structure Dw (deep:Nat) (bs:List Str) (room bin:Nat) (d:D):Prop where
 dr:Dr deep bs room bin d
 jW:Sane d
 w:wD d+2≤450 * room
theorem Dw.more {n room Ck b:Nat}{bs:List Str}{d:D}(h:Dw n bs room b d) (hr:room≤Ck):Dw n bs Ck b d:=⟨h.dr.more hr,h.jW,by have:=h.w;omega⟩
noncomputable def rm (deep:Nat):Nat:=2 ^ deep - 1
theorem JZ (n:Nat):1≤rm (n+1):=by
 unfold rm
 have:1≤2 ^ n:=Nat.one_le_two_pow
 rw[Nat.pow_succ]
 omega
theorem Mb (n:Nat):rm (n+1)=2 * rm n+1:=by
 unfold rm
 have:1≤2 ^ n:=Nat.one_le_two_pow
 rw[Nat.pow_succ]
 omega
noncomputable def lB:Nat→FM
 | 0=>fun _=>none
 | j+1=>aQ 11 (dI cg KC (lB j))
theorem Mc (j:Nat):∀us r,lB (j+1) us=some r→aQ 11 (dI cg KC (lB j)) us=some r:=fun _ _ h=>h
noncomputable def Ti (f:FM) (deep:Nat):Prop:=∀(T:MO) (n:Nat) (td:D) (bs:List Str) (b0:Int) (b1:Nat),Fd n T→n+8 * rm deep < 800000→Tb td→bs.length+deep < 800→(∀z∈bs,Nm z)→
 ∃(d:D) (T':MO) (a':Int) (bin:Nat),f [.b T,.t td,.t (.tup (bs.map D.str)),.b (bg b0 b1),.t (.int deep)]=some (.t d,[T',bg a' ((b1 - bin:Nat):Int)])∧Dw deep bs (rm deep) bin d∧bin≤b1∧Fd (n+8 * rm deep) T'
structure Hd (z:Str):Prop where
 h8:z.length≤8
 sn:Sane (.str z)
 nw:z="now"∨z="within"∧cB z=false∧inD (.str z) (Fe.map D.str)=false∨cB z=true∧fj z=4∧ez z=3∧z≠"now"∧z≠"within"∨
  cB z=false∧inD (.str z) (Fe.map D.str)=true∧fj z=3∧ez z=1∧z≠"now"∧z≠"within"∨cB z=false∧inD (.str z) (Fe.map D.str)=false∧fj z=2∧ez z=1∧z≠"now"∧z≠"within"
theorem Tj:∀z∈HL,Hd z:=by
 intro z hz
 unfold HL at hz
 simp only[List.mem_cons,List.not_mem_nil,or_false] at hz
 rcases hz with rfl | rfl | rfl | rfl | rfl | rfl | rfl | rfl | rfl | rfl | rfl | rfl
 ·exact⟨by decide,cF (by decide +kernel),.inr (.inr (.inr (.inr ⟨by decide,by decide,by decide,by decide,by decide,by decide⟩)))⟩
 ·exact⟨by decide,cF (by decide +kernel),.inr (.inr (.inr (.inr ⟨by decide,by decide,by decide,by decide,by decide,by decide⟩)))⟩
 ·exact⟨by decide,cF (by decide +kernel),.inr (.inl ⟨rfl,by decide,by decide⟩)⟩
 ·exact⟨by decide,cF (by decide +kernel),.inr (.inr (.inr (.inr ⟨by decide,by decide,by decide,by decide,by decide,by decide⟩)))⟩
 ·exact⟨by decide,cF (by decide +kernel),.inr (.inr (.inr (.inr ⟨by decide,by decide,by decide,by decide,by decide,by decide⟩)))⟩
 ·exact⟨by decide,cF (by decide +kernel),.inr (.inr (.inr (.inl ⟨by decide,by decide,by decide,by decide,by decide,by decide⟩)))⟩
 ·exact⟨by decide,cF (by decide +kernel),.inr (.inr (.inr (.inl ⟨by decide,by decide,by decide,by decide,by decide,by decide⟩)))⟩
 ·exact⟨by decide,cF (by decide +kernel),.inr (.inr (.inr (.inl ⟨by decide,by decide,by decide,by decide,by decide,by decide⟩)))⟩
 ·exact⟨by decide,cF (by decide +kernel),.inr (.inr (.inr (.inl ⟨by decide,by decide,by decide,by decide,by decide,by decide⟩)))⟩
 ·exact⟨by decide,cF (by decide +kernel),.inr (.inr (.inl ⟨by decide,by decide,by decide,by decide,by decide⟩))⟩
 ·exact⟨by decide,cF (by decide +kernel),.inr (.inr (.inl ⟨by decide,by decide,by decide,by decide,by decide⟩))⟩
 ·exact⟨by decide,cF (by decide +kernel),.inl rfl⟩
theorem wG {f2 f3:FM}{T:MO}{n:Nat}{td:D}{bl:List D}{b0 b1 deep:Int}(h:Fd n T) (hn:n+2 < 900000):
  ∃z T2,dI cg f2 f3 [some (.b T),some (.t td),some (.t (.tup bl)),some (.b (bg b0 b1)),some (.t (.int deep)),none,none,none,none,none,none]=HH cg f2 f3 (sv (HL.map D.str) T2 td bl (b0 - 1) b1 deep z)∧z∈HL∧(cB z=true→b1≠0)∧Fd (n+2) T2:=by
 obtain⟨v,T1,p1,v0,v1,h1⟩:=cI (m:=12) h (by omega) (by decide) (by decide)
 obtain⟨hd,a1,a2⟩:=jP (x:=.cW) (l:=HL.map D.str) v0 (by rw[List.length_map];exact v1)
 obtain⟨h0,hm,rfl⟩:=List.mem_map.mp a2
 by_cases c:cB h0=true∧b1=0∨inD (.str h0) (Fe.map D.str)=true∧b0 - 1 < 2
 ·obtain⟨u,T2,p2,u0,u1,h2⟩:=cI (m:=3) h1 (by omega) (by decide) (by decide)
  obtain⟨zd,q1,q2⟩:=jP (x:=.cW) (l:=[D.str "next",.str "some",.str "always"]) u0 u1
  obtain⟨z,rfl,zm,zb⟩:∃z,zd= .str z∧z∈HL∧cB z=false:=by
   simp only[List.mem_cons,List.not_mem_nil,or_false] at q2
   rcases q2 with rfl | rfl | rfl
   ·exact⟨"next",rfl,by decide,by decide⟩
   ·exact⟨"some",rfl,by decide,by decide⟩
   ·exact⟨"always",rfl,by decide,by decide⟩
  exact⟨z,T2,Ff p1 a1 (.inl ⟨c,u,p2,q1⟩),zm,fun q=>(by rw[zb] at q;cases q),h2⟩
 ·exact⟨h0,T1,Ff p1 a1 (.inr ⟨c,rfl,rfl⟩),hm,fun q e=>c (.inl ⟨q,e⟩),h1.mono (by omega)⟩
theorem Pa {bs:List Str}{n:Nat}{KD d:D}(ht:Tw bs KD) (h:d∈[D.tup [.str "yes"],.tup [.str "no"],.tup [.str "now",KD]]):Dw (n+1) bs (rm (n+1)) 0 d:=by
 have r1:=JZ n
 simp only[List.mem_cons,List.not_mem_nil,or_false] at h
 rcases h with rfl | rfl | rfl
 ·exact⟨YB (kP (by decide) (by decide) (by decide) (by decide)) (by unfold bE;rw[show ez "yes" =1 by decide];rfl) (by decide) r1 ⟨(by show 1≤8;omega),(by show 3≤8;omega),True.intro⟩ (by show max 0 0+1≤n+2;omega),⟨cF (by decide +kernel),True.intro⟩,by show 32+2+0+4+2≤_;omega⟩
 ·exact⟨YB (kP (by decide) (by decide) (by decide) (by decide)) (by unfold bE;rw[show ez "no" =1 by decide];rfl) (by decide) r1 ⟨(by show 1≤8;omega),(by show 2≤8;omega),True.intro⟩ (by show max 0 0+1≤n+2;omega),⟨cF (by decide +kernel),True.intro⟩,by show 22+2+0+4+2≤_;omega⟩
 ·refine⟨YB (z:="now") (r:=[KD]) ?_ (by unfold bE;rw[show ez "now" =2 by decide];rfl) (by decide) r1 ⟨(by show 2≤8;omega),(by show 3≤8;omega),ht.fit,True.intro⟩ (by have:=ht.dep;show max 0 (max (bZ KD) 0)+1≤n+2;omega),⟨cF (by decide +kernel),ht.jW,True.intro⟩,by have:=ht.w;show 32+2+(wD KD+2+0)+4+2≤_;omega⟩
  unfold cM
  rw[if_pos (by rw[E7.1];rfl)]
  simp only[if_true]
  exact ht.ok
theorem Pb : ∀ (deep : Nat), 1 ≤ deep → ∀ (j : Nat), deep ≤ j → Ti (lB j) deep := by
  intro deep
  induction deep with
  | zero=>intro h;omega
  | succ m ih=>
    intro _ j hj T n td bs b0 b1 hT hn ht hl hs
    obtain⟨i,rfl⟩:∃i,j=i+1:=⟨j - 1,by omega⟩
    have r0:=JZ m
    have r1:=Mb m
    show ∃d T' a' bin,aQ 11 (dI cg KC (lB i)) _=_∧_
    rw[O6]
    obtain⟨z,T2,e0,zm,zb,h2⟩:=wG (f2:=KC) (f3:=lB i) (td:=td) (bl:=bs.map D.str) (b0:=b0) (b1:=b1) (deep:=((m+1:Nat):Int)) hT (by omega)
    rw[e0]
    generalize HL.map D.str=hl
    obtain⟨z8,zs,zk⟩:=Tj z zm
    have zw:=Ct z8
    by_cases c:b0 - 1 < 1∨((m+1:Nat):Int) < 2∨z="now"
    · obtain⟨KD,T3,p1,tw,h3⟩:=Te (bs:=bs) h2 (by omega) ht (by omega) hs
      obtain⟨k,T4,p2,k0,k1,h4⟩:=cI (m:=9) h3 (by omega) (by decide) (by decide)
      obtain⟨d,q1,q2⟩:=jP (x:=.cW) (l:=[D.tup [.str "yes"],.tup [.str "no"],.tup [.str "now",KD]]) (i:=if k < 2 then k else 2) (by split <;> omega) (by show _ < (3:Int);split <;> omega)
      refine⟨d,T4,b0 - 1,0,?_,Pa tw q2,by omega,h4.mono (by omega)⟩
      rw[Ma c p1 p2 q1,xO]
      rfl
    · have c1:¬b0 - 1 < 1:=fun q=>c (.inl q)
      have c2:¬((m+1:Nat):Int) < 2:=fun q=>c (.inr (.inl q))
      have c3:¬z="now":=fun q=>c (.inr (.inr q))
      have ed:(((m+1:Nat):Int) - 1)=(m:Int):=by omega
      have ih:=ih (by omega) i (by omega)
      rcases zk with zk | ⟨zk,bz,tz⟩ | ⟨bz,l4,s3,n1,n2⟩ | ⟨bz,tz,l3,s1,n1,n2⟩ | ⟨bz,tz,l2,s1,n1,n2⟩
      · exact absurd zk c3
      · obtain⟨k,T3,p1,k0,k1,h3⟩:=cI (m:=6) h2 (by omega) (by decide) (by decide)
        obtain⟨kd,q1,q2⟩:=jP (x:=.cW) (l:=[D.int 2,.int 1,.int 3,.int 0,.int 5,.int 2]) k0 k1
        obtain⟨d,T4,a',bin,g1,g2,g3,g4⟩:=ih T3 (n+2+1) td bs (b0 - 1) b1 h3 (by omega) ht (by omega) hs
        obtain⟨x,rfl,x0,x5⟩:∃x:Int,kd= .int x∧0≤x∧x≤5:=by
          simp only[List.mem_cons,List.not_mem_nil,or_false] at q2
          rcases q2 with rfl | rfl | rfl | rfl | rfl | rfl <;> exact⟨_,rfl,by decide,by decide⟩
        subst zk
        have sh:cM bs "within" [.int x,d]=true:=by
          unfold cM
          rw[if_pos (by rw[E7.2];rfl)]
          simp only[show ¬(("within":Str)="now") by decide,if_false,if_true]
          show(decide (0≤x) && decide (x≤5))=true
          simp only[Bool.and_eq_true,decide_eq_true_eq]
          omega
        have pl:bE "within" [.int x,d]=[d]:=by unfold bE;rw[show ez "within" =2 by decide];rfl
        have ib:bD bs "within" [.int x,d]=bs:=by unfold bD;rw[if_neg (by rw[bz];simp)]
        have dr:=VS (n:=m) (room:=rm m) (b:=bin) (bs:=bs) (z:="within") (r:=[.int x,d]) sh pl (by rw[ib];exact g2.dr) ⟨(by show 3≤8;omega),(by show 6≤8;omega),True.intro,g2.dr.fit,True.intro⟩ (by
          have:=g2.dr.dep
          show max 0 (max 0 (max (bZ d) 0))+1≤m+2
          omega)
        rw[if_neg (by rw[bz];simp),Nat.zero_add] at dr
        refine⟨_,T4,a',bin,?_,⟨dr.more (by omega),⟨zs,(by show x.natAbs < 10 ^ 30;omega),g2.jW,True.intro⟩,?_⟩,g3,g4.mono (by omega)⟩
        · rw[GW c1 c2 c3 bz rfl p1 q1 (by rw[ed];exact g1),xO]
        · have:=g2.w
          show wD (.str "within")+2+(40+2+(wD d+2+0))+4+2≤_
          omega
      · obtain⟨rows,rfl,rne,rl,rn⟩:=id ht
        have b1n:b1≠0:=fun q=>zb bz (by rw[q];rfl)
        have rp:0 < (rows.length:Int):=by cases rows with | nil=>exact absurd rfl rne | cons _ _=>simp only[List.length_cons];omega
        obtain⟨x,T3,p1,x0,x1,h3⟩:=cI (m:=(rows.length:Int)+3) h2 (by omega) (by omega) (by omega)
        obtain⟨xd,q1,q2⟩:=jP (x:=.cW) (l:=qH rows++[.str "x",.str "y",.str "x"]) x0 (by rw[List.length_append,ux];push_cast;exact x1)
        obtain⟨xs,rfl,xn⟩:∃xs,xd= .str xs∧Nm xs:=by
          rcases List.mem_append.mp q2 with q | q
          · obtain⟨y,hy,rfl⟩:=List.mem_map.mp q
            obtain⟨p,hp,rfl⟩:=List.mem_map.mp hy
            exact⟨_,rfl,rn p hp⟩
          · simp only[List.mem_cons,List.not_mem_nil,or_false] at q
            rcases q with rfl | rfl | rfl <;> exact⟨_,rfl,by decide +kernel,by decide,cF (by decide +kernel)⟩
        obtain⟨d,T4,a',bin,g1,g2,g3,g4⟩:=ih T3 (n+2+1) _ (bs++[xs]) (b0 - 1) (b1 - 1) h3 (by omega) ht (by rw[List.length_append,List.length_singleton];omega) (by
          intro y hy
          rcases List.mem_append.mp hy with q | q
          · exact hs y q
          · rw[show y=xs by simpa using q];exact xn)
        obtain⟨y,T5,p3,y0,y1,h5⟩:=cI (m:=(rows.length:Int)) g4 (by omega) rp (by omega)
        obtain⟨nd,w1,w2⟩:=jP (x:=.cW) (l:=qH rows) y0 (by rw[ux];exact y1)
        obtain⟨ns,rfl,nn⟩:∃ns,nd= .str ns∧Nm ns:=by
          obtain⟨y,hy,rfl⟩:=List.mem_map.mp w2
          obtain⟨p,hp,rfl⟩:=List.mem_map.mp hy
          exact⟨_,rfl,rn p hp⟩
        obtain⟨n1',n2',n3'⟩:=nn
        obtain⟨x1',x2',J0⟩:=xn
        have ev:(bs++[xs]).map D.str=bs.map D.str++[.str xs]:=by rw[List.map_append];rfl
        have eb1:((b1 - 1:Nat):Int)=(b1:Int) - 1:=by omega
        rw[ev,eb1] at g1
        have sh:cM bs z [.str ns,.str xs,d]=true:=by
          unfold cM
          rw[if_pos (by rw[l4];rfl)]
          simp only[n1,n2,if_false,bz,if_true,n1',x1']
          rfl
        have pl:bE z [.str ns,.str xs,d]=[d]:=by unfold bE;rw[s3];rfl
        have ib:bD bs z [.str ns,.str xs,d]=bs++[xs]:=by unfold bD;rw[if_pos bz];rfl
        have dr:=VS (n:=m) (room:=rm m) (b:=bin) (bs:=bs) (z:=z) (r:=[.str ns,.str xs,d]) sh pl (by rw[ib];exact g2.dr) ⟨(by show 4≤8;omega),Ju z8,Ju n2',Ju x2',g2.dr.fit,True.intro⟩ (by
          have:=g2.dr.dep
          show max 0 (max 0 (max 0 (max (bZ d) 0)))+1≤m+2
          omega)
        rw[if_pos bz] at dr
        refine⟨_,T5,a',1+bin,?_,⟨dr.more (by omega),⟨zs,n3',J0,g2.jW,True.intro⟩,?_⟩,by omega,h5.mono (by omega)⟩
        · obtain⟨r,es⟩:=O7 (f1:=cg) (f2:=KC) (f3:=lB i) (hl:=hl) (T2:=T2) (a:=b0 - 1) (b:=(b1:Int)) (deep:=((m+1:Nat):Int)) (z:=z) (bl:=bs.map D.str) (rows:=rows) c1 c2 c3 bz (by omega) p1 q1 (by rw[List.length_map];omega) (by rw[ed];exact g1) p3 w1
          rw[es,xO]
          have YQ:((b1 - 1 - bin:Nat):Int)=((b1 - (1+bin):Nat):Int):=by omega
          rw[YQ]
        · have:=g2.w
          have:=Ct n2'
          have:=Ct x2'
          show wD (.str z)+2+(wD (.str ns)+2+(wD (.str xs)+2+(wD d+2+0)))+4+2≤_
          omega
      · obtain⟨d1,T3,a1,VT,g1,g2,g3,g4⟩:=ih T2 (n+2) td bs (b0 - 1 - 1) b1 h2 (by omega) ht (by omega) hs
        obtain⟨d2,T4,a2,YR,k1,k2,k3,k4⟩:=ih T3 (n+2+8 * rm m) td bs (a1+1) (b1 - VT) g4 (by omega) ht (by omega) hs
        have dr:=dr2 (n:=m) (bs:=bs) (z:=z) (r:=[d1,d2]) (kP (by rw[l3];rfl) n1 n2 bz) (by unfold bE;rw[s1];rfl) bz g2.dr k2.dr ⟨(by show 3≤8;omega),Ju z8,g2.dr.fit,k2.dr.fit,True.intro⟩ (by
          have:=g2.dr.dep
          have:=k2.dr.dep
          show max 0 (max (bZ d1) (max (bZ d2) 0))+1≤m+2
          omega)
        refine⟨_,T4,a2,VT+YR,?_,⟨dr.more (by omega),⟨zs,g2.jW,k2.jW,True.intro⟩,?_⟩,by omega,k4.mono (by omega)⟩
        · obtain⟨r,es⟩:=O8 (f1:=cg) (f2:=KC) (f3:=lB i) (hl:=hl) (T2:=T2) (a:=b0 - 1) (b:=(b1:Int)) (deep:=((m+1:Nat):Int)) (z:=z) (bl:=bs.map D.str) (td:=td) c1 c2 c3 bz n2 tz (by rw[ed];exact g1) (by rw[ed];exact k1)
          rw[es,xO]
          have YQ:((b1 - VT - YR:Nat):Int)=((b1 - (VT+YR):Nat):Int):=by omega
          rw[YQ]
        · have:=g2.w
          have:=k2.w
          show wD (.str z)+2+(wD d1+2+(wD d2+2+0))+4+2≤_
          omega
      · obtain⟨d,T3,a',bin,g1,g2,g3,g4⟩:=ih T2 (n+2) td bs (b0 - 1) b1 h2 (by omega) ht (by omega) hs
        have sh:cM bs z [d]=true:=kP (by rw[l2];rfl) n1 n2 bz
        have pl:bE z [d]=[d]:=by unfold bE;rw[s1];rfl
        have ib:bD bs z [d]=bs:=by unfold bD;rw[if_neg (by rw[bz];simp)]
        have dr:=VS (n:=m) (room:=rm m) (b:=bin) (bs:=bs) (z:=z) (r:=[d]) sh pl (by rw[ib];exact g2.dr) ⟨(by show 2≤8;omega),Ju z8,g2.dr.fit,True.intro⟩ (by
          have:=g2.dr.dep
          show max 0 (max (bZ d) 0)+1≤m+2
          omega)
        rw[if_neg (by rw[bz];simp),Nat.zero_add] at dr
        refine⟨_,T3,a',bin,?_,⟨dr.more (by omega),⟨zs,g2.jW,True.intro⟩,?_⟩,g3,g4.mono (by omega)⟩
        · rw[O9 (f1:=cg) (f2:=KC) (f3:=lB i) c1 c2 c3 bz n2 tz (by rw[ed];exact g1),xO]
        · have:=g2.w
          show wD (.str z)+2+(wD d+2+0)+4+2≤_
          omega
end Sd
end
section
set_option Elab.async false
set_option linter.all false
set_option maxRecDepth 100000
namespace Sd
open PySem PySem.Spec PyProof.Rows L2 Sw Ss
theorem xP {f g:D→List D}:∀{ps:List D},(∀p∈ps,f p=g p)→ps.flatMap f=ps.flatMap g
 | [],_=>rfl
 | p :: ps,h=>by rw[List.flatMap_cons,List.flatMap_cons,h p List.mem_cons_self,xP fun q hq=>h q (List.mem_cons_of_mem _ hq)]
theorem zW:∀{n:Nat}{bs:List Str}{d:D},dc n bs d=true→dc (n+1) bs d=true∧gX (n+1) d=gX n d
 | 0,_,_,h=>by cases h
 | n+1,bs,d,h=>by
  obtain⟨z,r,rfl,h1,h2⟩:=j5 h
  have up:=fun p hp=>zW (h2 p hp)
  refine⟨(lZ (n+1) bs z r).mpr ⟨h1,fun p hp=>(up p hp).1⟩,?_⟩
  show(.tup (.str z :: r):D) :: (bE z r).flatMap (gX (n+1))= .tup (.str z :: r) :: (bE z r).flatMap (gX n)
  rw[xP fun p hp=>(up p hp).2]
theorem GX {n m:Nat}{bs:List Str}{d:D}(hm:n≤m) (h:dc n bs d=true):dc m bs d=true∧gX m d=gX n d:=by
  induction m with
  | zero => obtain rfl : n = 0 := by omega
            exact⟨h,rfl⟩
  | succ m ih=>
    by_cases e:n=m+1
    · subst e;exact⟨h,rfl⟩
    · obtain⟨a,b⟩:=ih (by omega)
      obtain⟨c,d⟩:=zW a
      exact⟨c,d.trans b⟩
theorem Dr.say {deep room bin:Nat}{d:D}(h:Dr deep [] room bin d) (h1:deep≤8) (h2:room≤16) (h3:bin≤3):qD d=true:=by
 obtain⟨a,b⟩:=GX h1 h.fm
 have s:=h.sz
 have n:=h.bn
 unfold iM at s
 unfold mH at n
 unfold qD iM mH
 rw[a,b]
 simp only[Bool.true_and,Bool.and_eq_true,decide_eq_true_eq]
 omega
theorem Fg {n:Nat}{ds:List D}(h:ds.length≤n) (hf:∀d∈ds,sr n d):sr n (.tup ds):=by
 refine⟨h,?_⟩
 clear h
 induction ds with
 | nil=>exact True.intro
 | cons d ds ih=>exact⟨hf d List.mem_cons_self,ih fun e he=>hf e (List.mem_cons_of_mem _ he)⟩
theorem Fi {k:Nat}{ds:List D}(hf:∀d∈ds,bZ d≤k):bZ (.tup ds)≤k+1:=by
 have:=qx hf
 show bM ds+1≤k+1
 omega
structure Bs (d:D):Prop where
 ok:pq d=true
 fit:sr 8 d
 dep:bZ d≤6
 jW:Sane d
 w:wD d≤7200
theorem Me {bin:Nat}{d:D}(h:Dw 4 [] (rm 4) bin d) (hb:bin≤1):∃z r,d= .tup (.str z :: r)∧z∈lW∧qD d=true:=by
 have hs:qD d=true:=h.dr.say (by omega) (by decide) (by omega)
 obtain⟨z,r,e,hz⟩:=AQ hs
 exact⟨z,r,e,hz,hs⟩
theorem Mf {bin:Nat}{z:Str}{r:List D}(h:Dw 4 [] (rm 4) bin (.tup (.str z :: r))) (hb:bin≤1) (hz:z∈lW) (hn:inD (.str z) (HG.map D.str)=false):Bs (.tup (.str z :: r)):=by
 have hs:qD (.tup (.str z :: r))=true:=h.dr.say (by omega) (by decide) (by omega)
 refine⟨?_,h.dr.fit,by have:=h.dr.dep;omega,h.jW,by have:=h.w;have:rm 4=15:=(by decide);omega⟩
 show(qD _ && inD (.str z) (Qp.map D.str))=true
 rw[hs,E9 z hz,hn]
 rfl
theorem Mg {bin:Nat}{d:D}(h:Dw 4 [] (rm 4) bin d) (hb:bin≤1):Bs (.tup [.str "next",d]):=by
 have sh:cM [] "next" [d]=true:=kP (by rw[show fj "next" =2 by decide];rfl) (by decide) (by decide) (by decide)
 have dr:=VS (n:=4) (room:=rm 4) (b:=bin) (bs:=[]) (z:="next") (r:=[d]) sh (by unfold bE;rw[show ez "next" =1 by decide];rfl) (by
  have ib:bD [] "next" [d]=[]:=by unfold bD;rw[if_neg (by decide)]
  rw[ib]
  exact h.dr) ⟨(by show 2≤8;omega),(by show 4≤8;omega),h.dr.fit,True.intro⟩ (by
   have:=h.dr.dep
   show max 0 (max (bZ d) 0)+1≤4+2
   omega)
 rw[if_neg (by decide),Nat.zero_add] at dr
 have hs:qD (.tup [.str "next",d])=true:=dr.say (by omega) (by decide) (by omega)
 refine⟨?_,dr.fit,by have:=dr.dep;omega,⟨cF (by decide +kernel),h.jW,True.intro⟩,?_⟩
 ·show(qD _ && inD (.str "next") (Qp.map D.str))=true
  rw[hs]
  decide
 ·have:=h.w
  have:rm 4=15:=by decide
  show 42+2+(wD d+2+0)+4≤7200
  omega
noncomputable def dN (ah:FM) (aB:FM):GS:=
 (aJ (bH 4 (aL aB (cy (aq 0) (aP (eF (aq 1)) (aP (eF (eP bf ak)) (cy (eP dg (aa (eF (eP cK (aa (eC (.int 1)) (aa (eF (aL ah (cy (aq 0) (aP (eC (.int 4)) br)))) ak)))) (aa (eC (.int 1)) ak))) (aP (eC (.int 4)) br)))))))
 (aJ (gQ (qB (eF (eP rY (aa (bC 4 (eC (.int 0))) (aa (eF (eP bf (aa (eC (.str "yes")) (aa (eC (.str "no")) (aa (eC (.str "not")) (aa (eC (.str "both")) (aa (eC (.str "either")) ak))))))) ak))))) (bH 4 (eP bf (aa (eC (.str "next")) (aa (eF (aq 4)) ak)))) cS)
 (sA (eT (eM 2 hAppend (aa (eF (aq 4)) ak))))))
noncomputable def dY (ah:FM) (aB:FM):GS:=
 (sA (eT (eM 6 hAppend (aa (eF (eP bf (aa (bC 2 (eF (aL ah (cy (aq 0) (aP (gn 2) br))))) (aa (eF (eP Dp (aa (eF (aL ah (cy (aq 0) (aP (eC (.int 3)) br)))) (aa (eC (.int 0)) ak)))) ak)))) ak))))
noncomputable def dZ (ah:FM) (aB:FM):GS:=
 (aJ (bH 6 (eP dg ak))
 (aJ (iF (bName 7) (jJ (aa (eF (aL ah (cy (aq 0) (aP (eC (.int 5)) br)))) ak)) (dY ah aB))
 (sA (eT (eM 5 hAppend (aa (eF (eP lU (aa (eF (aq 6)) ak))) ak))))))
noncomputable def dG (ah:FM) (aB:FM):GS:=
 (aJ (bH 2 (eP dg ak))
 (aJ (iF (bName 3) (jJ (aa (eF (eP cK (aa (eC (.int 1)) (aa (eF (aL ah (cy (aq 0) (aP (eC (.int 4)) br)))) ak)))) ak)) (dN ah aB))
 (aJ (bH 5 (eP dg ak))
 (aJ (iF (bName 3) (jJ (aa (eF (aL ah (cy (aq 0) (aP (eC (.int 5)) br)))) ak)) (dZ ah aB))
 (aJ (gQ (gC (qB (vP Bt 5 (eF (eP dg ak)))) (qB (eF (eP pS (aa (eF (aL ah (cy (aq 0) (aP (eC (.int 2)) br)))) (aa (eC (.int 0)) ak)))))) (aJ (bH 8 (aL ah (cy (aq 0) (aP (gn 5) br))))
 (sA (eT (eM 5 hAppend (aa (eF (eP cK (aa (eF (LF (bC 5 (eF (aq 8))) (eF (eP IL (aa (eC (.int 1)) ak))))) (aa (bC 5 (eF (aL ah (cy (aq 0) (aP (gn 5) br))))) ak)))) ak))))) cS)
 (bR (eP lU (aa (eF (aq 5)) ak))))))))
noncomputable def as0 (ah:FM) (aB:FM):GS:=
 (bH 2 (eP dg ak))
noncomputable def as1 (ah:FM) (aB:FM):GS:=
 (iF (bName 3) (jJ (aa (eF (eP cK (aa (eC (.int 1)) (aa (eF (aL ah (cy (aq 0) (aP (eC (.int 4)) br)))) ak)))) ak)) (dN ah aB))
noncomputable def as2 (ah:FM) (aB:FM):GS:=
 (bH 5 (eP dg ak))
noncomputable def YS (ah:FM) (aB:FM):GS:=
 (iF (bName 3) (jJ (aa (eF (aL ah (cy (aq 0) (aP (eC (.int 5)) br)))) ak)) (dZ ah aB))
noncomputable def Pc (ah:FM) (aB:FM):GS:=
 (gQ (gC (qB (vP Bt 5 (eF (eP dg ak)))) (qB (eF (eP pS (aa (eF (aL ah (cy (aq 0) (aP (eC (.int 2)) br)))) (aa (eC (.int 0)) ak)))))) (aJ (bH 8 (aL ah (cy (aq 0) (aP (gn 5) br))))
 (sA (eT (eM 5 hAppend (aa (eF (eP cK (aa (eF (LF (bC 5 (eF (aq 8))) (eF (eP IL (aa (eC (.int 1)) ak))))) (aa (bC 5 (eF (aL ah (cy (aq 0) (aP (gn 5) br))))) ak)))) ak))))) cS)
noncomputable def VU (ah:FM) (aB:FM):GS:=
 (bR (eP lU (aa (eF (aq 5)) ak)))
theorem Tn (ah:FM) (aB:FM):dG ah aB=aJ (as0 ah aB) (aJ (as1 ah aB) (aJ (as2 ah aB) (aJ (YS ah aB) (aJ (Pc ah aB) (VU ah aB))))):=rfl
noncomputable def anyF:FM:=aQ 9 (dG cg (lB 4))
theorem Mh:∀us r,anyF us=some r→aQ 9 (dG cg (lB 4)) us=some r:=fun _ _ h=>h
section
variable {f1 f3:FM}{T0 T1 T2 T3:MO}{td:D}{L st:List D}{v k:Int}{x3 x4 x5 x6 x7 x8:Option U}{z:Str}{r:List D}{a' b':Int}
theorem Mi (z:Str):rY [.str z,.tup [.str "yes",.str "no",.str "not",.str "both",.str "either"]]=some (.t (.bl (inD (.str z) (HG.map D.str)))):=mL (.str z) HG
theorem Mj (h4:jX x4=false) (p1:f1 [.b T0,.t (.int 4)]=some (.t (.int v),[T1])) (p2:f3 [.b T1,.t td,.t (.tup []),.b (bg (1+v) 1),.t (.int 4)]=some (.t (.tup (.str z :: r)),[T2,bg a' b'])) (hl:L.length < 100000):
  dN f1 f3 [some (.b T0),some (.t td),some (.m (.lst L)),x3,x4,x5,x6,x7,x8]=some (.nx [some (.b T2),some (.t td),some (.m (.lst (L++[if inD (.str z) (HG.map D.str)=true then .tup [.str "next",.tup (.str z :: r)] else .tup (.str z :: r)]))),x3,some (.t (if inD (.str z) (HG.map D.str)=true then .tup [.str "next",.tup (.str z :: r)] else .tup (.str z :: r))),x5,x6,x7,x8]):=by
 have i1:=Mi z
 cases q:inD (.str z) (HG.map D.str) with
 | true=>
  rw[q] at i1
  simp[dN,-fX,dX,h4,p1,p2,bY,i1,qc,hl]
 | false=>
  rw[q] at i1
  simp[dN,-fX,dX,h4,p1,p2,bY,i1,qc,hl]
theorem Mk {bn:List D}{b:D}{u:Int}(p1:f1 [.b T0,.t (.int (L.length:Int))]=some (.t (.int v),[T1])) (hb:gZ L v=some b) (p2:f1 [.b T1,.t (.int 3)]=some (.t (.int u),[T2])) (hl:bn.length < 100000):
  dY f1 f3 [some (.b T0),some (.t td),some (.m (.lst L)),x3,x4,x5,some (.m (.lst bn)),x7,x8]=some (.nx [some (.b T2),some (.t td),some (.m (.lst L)),x3,x4,x5,some (.m (.lst (bn++[.tup [b,.bl (decide (0 < u))]]))),x7,x8]):=by
 simp[dY,p1,hb,p2,qc,hl]
end
noncomputable def Th (d:D):Prop:=∃b q,d= .tup [b,.bl q]∧Bs b
noncomputable def Bn (m:Nat) (d:D):Prop:=∃l,d= .tup l∧l.length≤m∧∀t∈l,Th t
theorem To {T : MO} {n c : Nat} {td : D} (hT : Fd n T) (hn : n + 121 * c < 700000) (ht : Tb td) : ∃ (L : List D) (T' : MO) (x3 x4 : Option U), loop (bName 3) (dN cg (lB 4)) (jZ 0 c) [some (.b T), some (.t td), some (.m (.lst [])), none, none, none, none, none, none] = some (.nx [some (.b T'), some (.t td), some (.m (.lst L)), x3, x4, none, none, none, none]) ∧ L.length = c ∧ (∀ b ∈ L, Bs b) ∧ jX x3 = false ∧ jX x4 = false ∧ Fd (n + 121 * c) T' := by
  by_cases c0:c < 90000
  · obtain⟨S',e,L,T',x3,x4,rfl,hl,hb,i3,i4,hf⟩:=iW (bd:=bName 3) (body:=dN cg (lB 4)) (jZ 0 c) (fun j S=>∃(L:List D) (T':MO) (x3 x4:Option U),S=[some (.b T'),some (.t td),some (.m (.lst L)),x3,x4,none,none,none,none]∧L.length=j∧(∀b∈L,Bs b)∧jX x3=false∧jX x4=false∧Fd (n+121 * j) T')
      [some (.b T), some (.t td), some (.m (.lst [])), none, none, none, none, none, none] ⟨[], T, none, none, rfl, rfl, (by simp), rfl, rfl, hT⟩ (by
        rintro j d S hd ⟨L,T0,x3,x4,rfl,hl,hb,i3,i4,hf⟩
        obtain⟨hj,rfl⟩:=lG hd
        have:=Nat.mul_le_mul_left 121 (Nat.succ_le_of_lt hj)
        obtain⟨v,T1,p1,v0,v1,h1⟩:=cI (m:=4) hf (by omega) (by decide) (by decide)
        obtain⟨d,T2,a',bin,g1,g2,g3,g4⟩:=Pb 4 (by omega) 4 (by omega) T1 (n+121 * j+1) td [] (1+v) 1 h1 (by rw[show rm 4=15 by decide];omega) ht (by simp only[List.length_nil];omega) (by simp)
        obtain⟨z,r,rfl,hz,hs⟩:=Me g2 g3
        have g1:lB 4 [.b T1,.t td,.t (.tup []),.b (bg (1+v) 1),.t (.int 4)]=some (.t (.tup (.str z :: r)),[T2,bg a' ((1 - bin:Nat):Int)]):=g1
        refine⟨[some (.b T0),some (.t td),some (.m (.lst L)),some (.t (.int j)),x4,none,none,none,none],_,by simp[bName,-fX,dX,i3],Mj i4 p1 g1 (by omega),_,T2,_,_,rfl,by rw[List.length_append,hl];rfl,?_,rfl,rfl,?_⟩
        · intro b hbm
          rcases List.mem_append.mp hbm with q | q
          · exact hb b q
          · rw[List.mem_singleton] at q
            rw[q]
            cases qq:inD (.str z) (HG.map D.str) with
            | true=>rw[if_pos rfl];exact Mg g2 g3
            | false=>rw[if_neg (by simp)];exact Mf g2 g3 hz qq
        · refine g4.mono ?_
          rw[show rm 4=15 by decide]
          omega)
    have rl:(jZ 0 c).length=c:=by unfold jZ;rw[List.length_map,List.length_range]
    rw[rl] at hl hf
    exact⟨L,T',x3,x4,e,hl,hb,i3,i4,hf⟩
  · omega
theorem Tp {T : MO} {n c : Nat} {td : D} {L : List D} {x3 x4 x5 x7 x8 : Option U} (hT : Fd n T) (hn : n + 2 * c < 700000) (hc : c < 1000) (hl : 0 < L.length) (hl2 : L.length < 1000) (hb : ∀ b ∈ L, Bs b) (i7 : jX x7 = false) :
    ∃(bn:List D) (T':MO) (J1:Option U),loop (bName 7) (dY cg (lB 4)) (jZ 0 c) [some (.b T),some (.t td),some (.m (.lst L)),x3,x4,x5,some (.m (.lst [])),x7,x8]=some (.nx [some (.b T'),some (.t td),some (.m (.lst L)),x3,x4,x5,some (.m (.lst bn)),J1,x8])∧bn.length=c∧(∀t∈bn,Th t)∧jX J1=false∧Fd (n+2 * c) T':=by
  obtain⟨S',e,bn,T',J1,rfl,VW,hbn,YT,hf⟩:=iW (bd:=bName 7) (body:=dY cg (lB 4)) (jZ 0 c) (fun j S=>∃(bn:List D) (T':MO) (x7:Option U),S=[some (.b T'),some (.t td),some (.m (.lst L)),x3,x4,x5,some (.m (.lst bn)),x7,x8]∧bn.length=j∧(∀t∈bn,Th t)∧jX x7=false∧Fd (n+2 * j) T')
    [some (.b T),some (.t td),some (.m (.lst L)),x3,x4,x5,some (.m (.lst [])),x7,x8] ⟨[],T,x7,rfl,rfl,(by simp),i7,hT⟩ (by
      rintro j d S hd ⟨bn,T0,x7,rfl,VW,hbn,i7,hf⟩
      obtain⟨hj,rfl⟩:=lG hd
      obtain⟨v,T1,p1,v0,v1,h1⟩:=cI (m:=(L.length:Int)) hf (by omega) (by omega) (by omega)
      obtain⟨b,a1,a2⟩:=jP (x:=.cW) v0 v1
      obtain⟨u,T2,p2,u0,u1,h2⟩:=cI (m:=3) h1 (by omega) (by decide) (by decide)
      refine⟨[some (.b T0),some (.t td),some (.m (.lst L)),x3,x4,x5,some (.m (.lst bn)),some (.t (.int j)),x8],_,by simp[bName,-fX,dX,i7],Mk p1 a1 p2 (by omega),_,T2,_,rfl,by rw[List.length_append,VW];rfl,?_,rfl,h2.mono (by omega)⟩
      intro t Tq
      rcases List.mem_append.mp Tq with q | q
      · exact hbn t q
      · rw[List.mem_singleton] at q
        exact⟨b,_,q,hb b a2⟩)
  have rl:(jZ 0 c).length=c:=by unfold jZ;rw[List.length_map,List.length_range]
  rw[rl] at VW hf
  exact⟨bn,T',J1,e,VW,hbn,YT,hf⟩
section
variable {f1 f3:FM}{T0 T1 T2 T3 T4:MO}{td:D}{L st bn:List D}{v k u:Int}{x3 x4 x5 x6 x7 J1 x8:Option U}
theorem Ml (h6:jX x6=false) (p1:f1 [.b T0,.t (.int 5)]=some (.t (.int v),[T1])) (v0:0≤v) (v1:v < 5)
  (e:loop (bName 7) (dY f1 f3) (jZ 0 v.toNat) [some (.b T1),some (.t td),some (.m (.lst L)),x3,x4,some (.m (.lst st)),some (.m (.lst [])),x7,x8]=some (.nx [some (.b T2),some (.t td),some (.m (.lst L)),x3,x4,some (.m (.lst st)),some (.m (.lst bn)),J1,x8])) (hl:st.length < 100000):
  dZ f1 f3 [some (.b T0),some (.t td),some (.m (.lst L)),x3,x4,some (.m (.lst st)),x6,x7,x8]=some (.nx [some (.b T2),some (.t td),some (.m (.lst L)),x3,x4,some (.m (.lst (st++[.tup bn]))),some (.t (.lst bn)),J1,x8]):=by
 have c1:v < 1000000:=by omega
 have c2:-1000000 < v:=by omega
 generalize hr:jZ 0 v.toNat=R at *
 simp[dZ,-fX,dX,h6,p1,c1,c2,hr,iF,e,qc,hl,lU]
end
theorem Tr {T : MO} {n c : Nat} {td : D} {L : List D} {x3 x4 x8 : Option U} (hT : Fd n T) (hn : n + 9 * c < 600000) (hc : c < 1000) (hl : 0 < L.length) (hl2 : L.length < 1000) (hb : ∀ b ∈ L, Bs b) (i3 : jX x3 = false) :
    ∃(st:List D) (T':MO) (J0 x6 x7:Option U),loop (bName 3) (dZ cg (lB 4)) (jZ 0 c) [some (.b T),some (.t td),some (.m (.lst L)),x3,x4,some (.m (.lst [])),none,none,x8]=some (.nx [some (.b T'),some (.t td),some (.m (.lst L)),J0,x4,some (.m (.lst st)),x6,x7,x8])∧st.length=c∧(∀t∈st,Bn 4 t)∧Fd (n+9 * c) T':=by
  obtain⟨S',e,st,T',J0,x6,x7,rfl,hsl,hst,i3',i6,i7,hf⟩:=iW (bd:=bName 3) (body:=dZ cg (lB 4)) (jZ 0 c) (fun j S=>∃(st:List D) (T':MO) (x3 x6 x7:Option U),S=[some (.b T'),some (.t td),some (.m (.lst L)),x3,x4,some (.m (.lst st)),x6,x7,x8]∧st.length=j∧(∀t∈st,Bn 4 t)∧jX x3=false∧jX x6=false∧jX x7=false∧Fd (n+9 * j) T')
    [some (.b T),some (.t td),some (.m (.lst L)),x3,x4,some (.m (.lst [])),none,none,x8] ⟨[],T,x3,none,none,rfl,rfl,(by simp),i3,rfl,rfl,hT⟩ (by
      rintro j d S hd ⟨st,T0,x3,x6,x7,rfl,hsl,hst,i3,i6,i7,hf⟩
      obtain⟨hj,rfl⟩:=lG hd
      obtain⟨v,T1,p1,v0,v1,h1⟩:=cI (m:=5) hf (by omega) (by decide) (by decide)
      obtain⟨bn,T2,J1,e2,b1,b2,YT,h2⟩:=Tp (td:=td) (x3:=some (.t (.int j))) (x4:=x4) (x5:=some (.m (.lst st))) (x7:=x7) (x8:=x8) (c:=v.toNat) h1 (by omega) (by omega) hl hl2 hb i7
      refine⟨[some (.b T0),some (.t td),some (.m (.lst L)),some (.t (.int j)),x4,some (.m (.lst st)),x6,x7,x8],_,by simp[bName,-fX,dX,i3],Ml i6 p1 v0 v1 e2 (by omega),_,T2,_,_,_,rfl,by rw[List.length_append,hsl];rfl,?_,rfl,rfl,YT,h2.mono (by omega)⟩
      intro t Tq
      rcases List.mem_append.mp Tq with q | q
      · exact hst t q
      · rw[List.mem_singleton] at q
        exact⟨bn,q,by omega,b2⟩)
  have rl:(jZ 0 c).length=c:=by unfold jZ;rw[List.length_map,List.length_range]
  rw[rl] at hsl hf
  exact⟨st,T',J0,x6,x7,e,hsl,hst,hf⟩
section
variable {f1 f3:FM}{T0 T1 T2 T3 T4:MO}{td:D}{L st:List D}{v k u:Int}{x3 x4 x5 x6 x7:Option U}{a b:List D}
theorem J2 (hd:bZ (.lst st)≤40) (h:st=[]∧T1=T0∨st≠[]∧∃u,f1 [.b T0,.t (.int 2)]=some (.t (.int u),[T1])∧¬u=0):Pc f1 f3 [some (.b T0),some (.t td),some (.m (.lst L)),x3,x4,some (.m (.lst st)),x6,x7,none]=some (.nx [some (.b T1),some (.t td),some (.m (.lst L)),x3,x4,some (.m (.lst st)),x6,x7,none]):=by
 rcases h with⟨rfl,rfl⟩ | ⟨hne,u,p1,hu⟩
 ·have q:jC (.lst []) (.lst [])=true:=rfl
  simp[Pc,vP,q,bZ,bM]
 ·have q:jC (.lst st) (.lst [])=false:=by cases st with | nil=>exact absurd rfl hne | cons _ _=>rfl
  simp[Pc,vP,q,hd,p1,hu]
theorem Mm (hd:bZ (.lst st)≤40) (hne:st≠[]) (p1:f1 [.b T0,.t (.int 2)]=some (.t (.int 0),[T1])) (p2:f1 [.b T1,.t (.int (st.length:Int))]=some (.t (.int v),[T2])) (hv:gZ st v=some (.tup a)) (p3:f1 [.b T2,.t (.int (st.length:Int))]=some (.t (.int k),[T3])) (hk:gZ st k=some (.tup b)) (hl:a.length+b.length≤100000) (hs:st.length < 100000):
  Pc f1 f3 [some (.b T0),some (.t td),some (.m (.lst L)),x3,x4,some (.m (.lst st)),x6,x7,none]=some (.nx [some (.b T3),some (.t td),some (.m (.lst L)),x3,x4,some (.m (.lst (st++[.tup (a.reverse++b)]))),x6,x7,some (.t (.int v))]):=by
 have q:jC (.lst st) (.lst [])=false:=by cases st with | nil=>exact absurd rfl hne | cons _ _=>rfl
 have hl':a.reverse.length+b.length≤100000:=by rw[List.length_reverse];exact hl
 simp[Pc,vP,q,hd,p1,p2,hv,p3,hk,AD,hl,hs,qc]
end
end Sd
end
section
set_option Elab.async false
set_option linter.all false
set_option maxRecDepth 100000
namespace Sd
open PySem PySem.Spec PyProof.Rows L2 Sw Ss
theorem Th.all {d:D}(h:Th d):j6 d=true∧sr 8 d∧bZ d≤7∧Sane d∧wD d≤7214:=by
 obtain⟨b,q,rfl,hb⟩:=h
 refine⟨?_,⟨(by show 2≤8;omega),hb.fit,True.intro,True.intro⟩,?_,⟨hb.jW,True.intro,True.intro⟩,?_⟩
 ·show(true && pq b)=true
  rw[hb.ok]
  rfl
 ·have:=hb.dep
  show max (bZ b) (max 0 0)+1≤7
  omega
 ·have:=hb.w
  show wD b+2+(6+2+0)+4≤7214
  omega
theorem DR {c:Nat}:∀{ds:List D},(∀d∈ds,wD d≤c)→kN ds≤(c+2) * ds.length
 | [],_=>Nat.zero_le _
 | d :: ds,h=>by
  have h1:=h d List.mem_cons_self
  have h2:=DR fun e he=>h e (List.mem_cons_of_mem _ he)
  show wD d+2+kN ds≤(c+2) * (ds.length+1)
  rw[Nat.mul_succ]
  omega
theorem Bn.all {d:D}(h:Bn 8 d):allB j6 d=true∧sr 8 d∧bZ d≤8∧Sane d∧wD d≤57732:=by
 obtain⟨l,rfl,hl,ht⟩:=h
 have a:=fun t h=>(ht t h).all
 refine⟨List.all_eq_true.mpr fun t h=>(a t h).1,Fg hl fun t h=>(a t h).2.1,Fi fun t h=>(a t h).2.2.1,d9.of fun t h=>(a t h).2.2.2.1,?_⟩
 have:=DR fun t h=>(a t h).2.2.2.2
 have:=Nat.mul_le_mul_left (7214+2) hl
 show kN l+4≤57732
 omega
noncomputable def Sn (d:D):Prop:=∃st,d= .tup st∧st.length≤5∧∀b∈st,Bn 8 b
theorem Sn.all {d:D}(h:Sn d):qF d=true∧sr 8 d∧Good 300000 9 d:=by
 obtain⟨l,rfl,hl,ht⟩:=h
 have a:=fun t h=>(ht t h).all
 refine⟨List.all_eq_true.mpr fun t h=>(a t h).1,Fg (by omega) fun t h=>(a t h).2.1,d9.of fun t h=>(a t h).2.2.2.1,?_,Fi fun t h=>(a t h).2.2.1⟩
 have:=DR fun t h=>(a t h).2.2.2.2
 have:=Nat.mul_le_mul_left (57732+2) hl
 show kN l+4≤300000
 omega
theorem Bn.mono {m k:Nat}{d:D}(h:Bn m d) (l:m≤k):Bn k d:=by
 obtain⟨x,e,h1,h2⟩:=h
 exact⟨x,e,by omega,h2⟩
theorem mR {g:GD}{S S':SS}{v:Int}(h:g S=some (.int v,S')) (v1:v < 1000000) (v0:-1000000 < v):jJ (aa g ak) S=some (jZ 0 v.toNat,S'):=by
 simp[h,v1,v0]
theorem Mn {f1 f3:FM}{T T1:MO}{td:D}{st:List D}{S r:SS}(hS:VU f1 f3 S=some (.rt (.t (.tup st)) (some (.b T1) :: some (.t td) :: r)))
  (h:dG f1 f3 [some (.b T),some (.t td),none,none,none,none,none,none,none]=VU f1 f3 S):aQ 9 (dG f1 f3) [.b T,.t td]=some (.t (.tup st),[T1]):=by
 show(dG f1 f3 [some (.b T),some (.t td),none,none,none,none,none,none,none]).bind _=_
 rw[h,hS]
 simp[aE]
theorem Pd {T : MO} {n : Nat} {td : D} (h : Fd n T) (hn : n < 500000) (ht : Tb td) : ∃ d T', anyF [.b T, .t td] = some (.t d, [T']) ∧ Sn d ∧ Fd (n + 600) T' := by
  obtain⟨v,T1,p1,v0,v1,h1⟩:=cI (m:=4) h (by omega) (by decide) (by decide)
  have hc:(1+v).toNat≤4:=by omega
  obtain⟨L,T2,x3,x4,e1,l1,l2,i3,i4,h2⟩:=To (td:=td) (c:=(1+v).toNat) h1 (by omega) ht
  obtain⟨u,T3,p2,u0,u1,h3⟩:=cI (m:=5) h2 (by omega) (by decide) (by decide)
  obtain⟨st,T4,J0,x6,x7,e3,s1,s2,h4⟩:=Tr (td:=td) (L:=L) (x3:=x3) (x4:=x4) (x8:=none) (c:=u.toNat) h3 (by omega) (by omega) (by omega) (by omega) l2 i3
  have sd:bZ (.lst st)≤40:=by
    have:bM st≤8:=qx fun b hb=>((s2 b hb).mono (by omega)).all.2.2.1
    show bM st+1≤40
    omega
  have a4 : ∃ (st' : List D) (T5 : MO) (x8 : Option U), Pc cg (lB 4) [some (.b T4), some (.t td), some (.m (.lst L)), J0, x4, some (.m (.lst st)), x6, x7, none] = some (.nx [some (.b T5), some (.t td), some (.m (.lst L)), J0, x4, some (.m (.lst st')), x6, x7, x8]) ∧ st'.length ≤ 5 ∧ (∀ b ∈ st', Bn 8 b) ∧ Fd (n + 600) T5 := by
    by_cases c:st=[]
    · exact⟨st,T4,none,J2 sd (.inl ⟨c,rfl⟩),by omega,fun b hb=>(s2 b hb).mono (by omega),h4.mono (by omega)⟩
    · obtain⟨w,T5,p3,w0,w1,h5⟩:=cI (m:=2) h4 (by omega) (by decide) (by decide)
      by_cases cw:w=0
      · subst cw
        have sl:0 < (st.length:Int):=by cases st with | nil=>exact absurd rfl c | cons _ _=>simp only[List.length_cons];omega
        obtain⟨x,T6,p4,y0,y1,h6⟩:=cI (m:=(st.length:Int)) h5 (by omega) sl (by omega)
        obtain⟨bx,a1,a2⟩:=jP (x:=.cW) y0 y1
        obtain⟨y,T7,p5,z0,z1,h7⟩:=cI (m:=(st.length:Int)) h6 (by omega) sl (by omega)
        obtain⟨by',b1,b2⟩:=jP (x:=.cW) z0 z1
        obtain⟨la,rfl,la1,la2⟩:=s2 bx a2
        obtain⟨lb,rfl,lb1,lb2⟩:=s2 by' b2
        refine⟨_,T7,_,Mm sd c p3 p4 a1 p5 b1 (by omega) (by omega),by rw[List.length_append,List.length_singleton];omega,?_,h7.mono (by omega)⟩
        intro b hb
        rcases List.mem_append.mp hb with q | q
        · exact(s2 b q).mono (by omega)
        · rw[List.mem_singleton] at q
          refine⟨_,q,by rw[List.length_append,List.length_reverse];omega,fun t Tq=>?_⟩
          rcases List.mem_append.mp Tq with q | q
          · exact la2 t (List.mem_reverse.mp q)
          · exact lb2 t q
      · exact⟨st,T5,none,J2 sd (.inr ⟨c,w,p3,cw⟩),by omega,fun b hb=>(s2 b hb).mono (by omega),h5.mono (by omega)⟩
  obtain⟨st',T5,x8,e4,t1,t2,h5⟩:=a4
  refine⟨.tup st',T5,?_,⟨st',rfl,t1,t2⟩,h5⟩
  refine Mn (S:=[some (.b T5),some (.t td),some (.m (.lst L)),J0,x4,some (.m (.lst st')),x6,x7,x8]) (r:=[some (.m (.lst L)),J0,x4,some (.t (.lst st')),x6,x7,x8]) ?_ ?_
  · simp[VU,lU]
  · rw[Tn]
    have e0:as0 cg (lB 4) [some (.b T),some (.t td),none,none,none,none,none,none,none]=some (.nx [some (.b T),some (.t td),some (.m (.lst [])),none,none,none,none,none,none]):=by simp[as0]
    have YO:as1 cg (lB 4) [some (.b T),some (.t td),some (.m (.lst [])),none,none,none,none,none,none]=some (.nx [some (.b T2),some (.t td),some (.m (.lst L)),x3,x4,none,none,none,none]):=by
      have er:=mR (g:=eF (eP cK (aa (eC (.int 1)) (aa (eF (aL cg (cy (aq 0) (aP (eC (.int 4)) br)))) ak)))) (S:=[some (.b T),some (.t td),some (.m (.lst [])),none,none,none,none,none,none]) (S':=[some (.b T1),some (.t td),some (.m (.lst [])),none,none,none,none,none,none]) (v:=1+v) (by generalize cg=f at *;simp[p1]) (by omega) (by omega)
      unfold as1
      rw[iF,er,Option.bind_some]
      exact e1
    have e2:as2 cg (lB 4) [some (.b T2),some (.t td),some (.m (.lst L)),x3,x4,none,none,none,none]=some (.nx [some (.b T2),some (.t td),some (.m (.lst L)),x3,x4,some (.m (.lst [])),none,none,none]):=by simp[as2]
    have e3':YS cg (lB 4) [some (.b T2),some (.t td),some (.m (.lst L)),x3,x4,some (.m (.lst [])),none,none,none]=some (.nx [some (.b T4),some (.t td),some (.m (.lst L)),J0,x4,some (.m (.lst st)),x6,x7,none]):=by
      have er:=mR (g:=eF (aL cg (cy (aq 0) (aP (eC (.int 5)) br)))) (S:=[some (.b T2),some (.t td),some (.m (.lst L)),x3,x4,some (.m (.lst [])),none,none,none]) (S':=[some (.b T3),some (.t td),some (.m (.lst L)),x3,x4,some (.m (.lst [])),none,none,none]) (v:=u) (by generalize cg=f at *;simp[p2]) (by omega) (by omega)
      unfold YS
      rw[iF,er,Option.bind_some]
      exact e3
    rw[bA,e0,Option.bind_some]
    simp only
    rw[bA,YO,Option.bind_some]
    simp only
    rw[bA,e2,Option.bind_some]
    simp only
    rw[bA,e3',Option.bind_some]
    simp only
    rw[bA,e4,Option.bind_some]
end Sd
end
section
set_option Elab.async false
set_option linter.all false
set_option maxRecDepth 100000
namespace Sd
open PySem PySem.Spec PyProof.Rows L2 Sw Ss
mutual
noncomputable def gb:D→Bool
 | .int i=>decide (i.natAbs < 10 ^ 30)
 | .str z=>JX z
 | .tup ds=>Tt ds
 | .lst ds=>Tt ds
 | .cW=>true
 | .bl _=>true
noncomputable def Tt:List D→Bool
 | []=>true
 | d :: ds=>gb d && Tt ds
end
mutual
theorem pD:∀d:D,gb d=true→Sane d
 | .int i,h=>by have h:decide (i.natAbs < 10 ^ 30)=true:=h;exact of_decide_eq_true (p:=i.natAbs < 10 ^ 30) h
 | .str z,h=>cF h
 | .tup ds,h=>xQ ds h
 | .lst ds,h=>xQ ds h
 | .cW,_=>True.intro
 | .bl _,_=>True.intro
theorem xQ:∀ds:List D,Tt ds=true→d9 ds
 | [],_=>True.intro
 | d :: ds,h=>by
  have h:(gb d && Tt ds)=true:=h
  rw[Bool.and_eq_true] at h
  exact⟨pD d h.1,xQ ds h.2⟩
end
noncomputable def J3 (n k:Nat) (d:D):Bool:=gb d && (decide (wD d≤n) && decide (bZ d≤k))
theorem Mp {n k:Nat}{d:D}(h:J3 n k d=true):Good n k d:=by
 unfold J3 at h
 simp only[Bool.and_eq_true,decide_eq_true_eq] at h
 exact⟨pD d h.1,h.2.1,h.2.2⟩
theorem J4 {n k:Nat}{l:List D}(h:l.all (J3 n k)=true):∀d∈l,Good n k d:=fun d hd=>Mp (List.all_eq_true.mp h d hd)
noncomputable def jo (ah:FM):GS:=
 (bH 3 (eP bf (aa (eF (eP zD (aa (eF (eP dg (aa (eC (.str "not")) (aa (eC (.str "next")) ak)))) (aa (eF (eP nD (aa (eF (aq 4)) (aa (eC (.int 2)) ak)))) ak)))) (aa (eF (aq 3)) ak))))
noncomputable def iy (ah:FM):GS:=
 (bH 5 (PM (qB (eF (eP ER (aa (eF (aq 4)) (aa (eC (.int 4)) ak))))) (eP bf (aa (eC (.str "either")) (aa (eF (aq 5)) (aa (eF (eP bf (aa (eC (.str "no")) ak))) ak)))) (eP bf (aa (eC (.str "both")) (aa (eF (aq 5)) (aa (eF (eP bf (aa (eC (.str "till")) (aa (eF (eP bf (aa (eC (.str "yes")) ak))) (aa (eF (eP bf (aa (eC (.str "no")) ak))) ak))))) ak))))))
noncomputable def jq (ah:FM):GS:=
 (bH 6 (eP bf (aa (eC (.str "each")) (aa (eC (.str "a")) (aa (eC (.str "x")) (aa (eF (aq 6)) ak))))))
noncomputable def jr (ah:FM):GS:=
 (bH 7 (eP bf (aa (eC (.str "either")) (aa (eF (aq 7)) (aa (eF (aq 7)) ak)))))
noncomputable def iz (ah:FM):GS:=
 (aJ (bH 1 (eP bf (aa (eC (.str "now")) (aa (eF (eP bf (aa (eC (.str "same")) (aa (eC (.str "x")) ak)))) ak))))
 (aJ (bH 2 (eP dg (aa (eC .cW) (aa (eC (.bl true)) (aa (eC (.int 0)) (aa (eC (.int 1)) (aa (eC (.str "next")) (aa (eF (eP bf ak)) (aa (eF (eP dg ak)) (aa (eF (eP bf (aa (eC (.str "yes")) ak))) (aa (eF (eP bf (aa (eC (.str "both")) (aa (eF (eP bf (aa (eC (.str "yes")) ak))) (aa (eF (eP bf (aa (eC (.str "no")) ak))) ak))))) (aa (eF (eP bf (aa (eC (.str "next")) (aa (eF (aq 1)) ak)))) (aa (eF (eP bf (aa (eC (.str "now")) (aa (eF (eP bf (aa (eC (.str "less")) (aa (eC (.int 10)) ak)))) ak)))) ak)))))))))))))
 (aJ (bH 2 (eP cK (aa (eF (aq 2)) (aa (eF (eP dg (aa (eF (eP bf (aa (eC (.str "one")) (aa (eC (.str "a")) (aa (eC (.str "x")) (aa (eF (aq 1)) ak)))))) (aa (eF (eP bf (aa (eC (.str "within")) (aa (eC (.int 6)) (aa (eF (eP bf (aa (eC (.str "yes")) ak))) ak))))) (aa (eF (eP bf (aa (eC (.str "within")) (aa (eC (.bl true)) (aa (eF (eP bf (aa (eC (.str "yes")) ak))) ak))))) (aa (eF (eP bf (aa (eC (.str "now")) (aa (eF (eP bf (aa (eC (.str "name")) (aa (eC (.str "")) ak)))) ak)))) ak)))))) ak))))
 (aJ (bH 2 (eP cK (aa (eF (aq 2)) (aa (eF (eP dg (aa (eF (eP bf (aa (eC (.str "each")) (aa (eC (.str "abcdefghi")) (aa (eC (.str "x")) (aa (eF (aq 1)) ak)))))) (aa (eF (eP bf (aa (eC (.str "each")) (aa (eC (.str "a")) (aa (eC (.str "y")) (aa (eF (aq 1)) ak)))))) (aa (eF (eP bf (aa (eC (.str "now")) (aa (eF (eP bf (aa (eC (.str "any")) (aa (eC (.int 1)) ak)))) ak)))) (aa (eF (eP bf (aa (eC (.str "now")) (aa (eC (.str "any")) ak)))) (aa (eF (eP bf (aa (eC (.str "next")) ak))) ak))))))) ak))))
 (aJ (bH 3 (eP bf (aa (eC (.str "yes")) ak)))
 (aJ (iF (bName 4) (jJ (aa (eF (eP cK (aa (eC (.int 6)) (aa (eF (aL ah (cy (aq 0) (aP (eC (.int 3)) br)))) ak)))) ak)) (jo ah))
 (aJ (bH 5 (eP bf (aa (eC (.str "yes")) ak)))
 (aJ (iF (bName 4) (jJ (aa (eC (.int 7)) ak)) (iy ah))
 (aJ (bH 6 (eP bf (aa (eC (.str "now")) (aa (eF (eP bf (aa (eC (.str "same")) (aa (eC (.str "x")) ak)))) ak))))
 (aJ (iF (bName 4) (jJ (aa (eF (eP cK (aa (eC (.int 2)) (aa (eF (aL ah (cy (aq 0) (aP (eC (.int 3)) br)))) ak)))) ak)) (jq ah))
 (aJ (bH 2 (eP cK (aa (eF (aq 2)) (aa (eF (eP dg (aa (eF (eP bf (aa (eC (.str "some")) (aa (eF (aq 3)) ak)))) (aa (eF (eP bf (aa (eC (.str "always")) (aa (eF (aq 3)) ak)))) (aa (eF (eP bf (aa (eC (.str "some")) (aa (bC 5 (eC (.int 1))) ak)))) (aa (eF (eP bf (aa (eC (.str "next")) (aa (bC 5 (eC (.int 1))) ak)))) (aa (eF (aq 6)) (aa (eF (eP bf (aa (eC (.str "next")) (aa (eF (aq 6)) ak)))) ak)))))))) ak))))
 (aJ (bH 7 (eP bf (aa (eC (.str "now")) (aa (eF (eP bf (aa (eC (.str "any")) ak))) ak))))
 (aJ (iF (bName 4) (jJ (aa (eC (.int 3)) ak)) (jr ah))
 (aJ (bH 2 (eP cK (aa (eF (aq 2)) (aa (eF (eP dg (aa (eF (eP bf (aa (eC (.str "till")) (aa (eF (aq 7)) (aa (eF (eP bf (aa (eC (.str "no")) ak))) ak))))) (aa (eF (eP bf (aa (eC (.str "some")) (aa (eF (aq 7)) ak)))) (aa (eF (eP bf (aa (eC (.str "next")) (aa (eF (eP bf (aa (eC (.str "next")) (aa (eF (aq 7)) ak)))) ak)))) (aa (eF (eP bf (aa (eC (.str "within")) (aa (eC (.int 5)) (aa (eF (eP bf (aa (eC (.str "yes")) ak))) ak))))) ak)))))) ak))))
 (aJ (bH 2 (eP cK (aa (eF (aq 2)) (aa (eF (eP dg (aa (eC (.str "x")) (aa (eF (eP Dq (aa (eC (.int 10)) (aa (eC (.int 19)) ak)))) ak)))) ak))))
 (bR (eT (bC 2 (eF (aL ah (cy (aq 0) (aP (gn 2) br))))))))))))))))))))))
noncomputable def VX (ah:FM):GS:=
 (bH 1 (eP bf (aa (eC (.str "now")) (aa (eF (eP bf (aa (eC (.str "same")) (aa (eC (.str "x")) ak)))) ak))))
noncomputable def Tu (ah:FM):GS:=
 (bH 2 (eP dg (aa (eC .cW) (aa (eC (.bl true)) (aa (eC (.int 0)) (aa (eC (.int 1)) (aa (eC (.str "next")) (aa (eF (eP bf ak)) (aa (eF (eP dg ak)) (aa (eF (eP bf (aa (eC (.str "yes")) ak))) (aa (eF (eP bf (aa (eC (.str "both")) (aa (eF (eP bf (aa (eC (.str "yes")) ak))) (aa (eF (eP bf (aa (eC (.str "no")) ak))) ak))))) (aa (eF (eP bf (aa (eC (.str "next")) (aa (eF (aq 1)) ak)))) (aa (eF (eP bf (aa (eC (.str "now")) (aa (eF (eP bf (aa (eC (.str "less")) (aa (eC (.int 10)) ak)))) ak)))) ak)))))))))))))
noncomputable def Tv (ah:FM):GS:=
 (bH 2 (eP cK (aa (eF (aq 2)) (aa (eF (eP dg (aa (eF (eP bf (aa (eC (.str "one")) (aa (eC (.str "a")) (aa (eC (.str "x")) (aa (eF (aq 1)) ak)))))) (aa (eF (eP bf (aa (eC (.str "within")) (aa (eC (.int 6)) (aa (eF (eP bf (aa (eC (.str "yes")) ak))) ak))))) (aa (eF (eP bf (aa (eC (.str "within")) (aa (eC (.bl true)) (aa (eF (eP bf (aa (eC (.str "yes")) ak))) ak))))) (aa (eF (eP bf (aa (eC (.str "now")) (aa (eF (eP bf (aa (eC (.str "name")) (aa (eC (.str "")) ak)))) ak)))) ak)))))) ak))))
noncomputable def Tz (ah:FM):GS:=
 (bH 2 (eP cK (aa (eF (aq 2)) (aa (eF (eP dg (aa (eF (eP bf (aa (eC (.str "each")) (aa (eC (.str "abcdefghi")) (aa (eC (.str "x")) (aa (eF (aq 1)) ak)))))) (aa (eF (eP bf (aa (eC (.str "each")) (aa (eC (.str "a")) (aa (eC (.str "y")) (aa (eF (aq 1)) ak)))))) (aa (eF (eP bf (aa (eC (.str "now")) (aa (eF (eP bf (aa (eC (.str "any")) (aa (eC (.int 1)) ak)))) ak)))) (aa (eF (eP bf (aa (eC (.str "now")) (aa (eC (.str "any")) ak)))) (aa (eF (eP bf (aa (eC (.str "next")) ak))) ak))))))) ak))))
noncomputable def TF (ah:FM):GS:=
 (bH 3 (eP bf (aa (eC (.str "yes")) ak)))
noncomputable def TH (ah:FM):GS:=
 (iF (bName 4) (jJ (aa (eF (eP cK (aa (eC (.int 6)) (aa (eF (aL ah (cy (aq 0) (aP (eC (.int 3)) br)))) ak)))) ak)) (jo ah))
noncomputable def TJ (ah:FM):GS:=
 (bH 5 (eP bf (aa (eC (.str "yes")) ak)))
noncomputable def TL (ah:FM):GS:=
 (iF (bName 4) (jJ (aa (eC (.int 7)) ak)) (iy ah))
noncomputable def TM (ah:FM):GS:=
 (bH 6 (eP bf (aa (eC (.str "now")) (aa (eF (eP bf (aa (eC (.str "same")) (aa (eC (.str "x")) ak)))) ak))))
noncomputable def TQ (ah:FM):GS:=
 (iF (bName 4) (jJ (aa (eF (eP cK (aa (eC (.int 2)) (aa (eF (aL ah (cy (aq 0) (aP (eC (.int 3)) br)))) ak)))) ak)) (jq ah))
noncomputable def J5 (ah:FM):GS:=
 (bH 2 (eP cK (aa (eF (aq 2)) (aa (eF (eP dg (aa (eF (eP bf (aa (eC (.str "some")) (aa (eF (aq 3)) ak)))) (aa (eF (eP bf (aa (eC (.str "always")) (aa (eF (aq 3)) ak)))) (aa (eF (eP bf (aa (eC (.str "some")) (aa (bC 5 (eC (.int 1))) ak)))) (aa (eF (eP bf (aa (eC (.str "next")) (aa (bC 5 (eC (.int 1))) ak)))) (aa (eF (aq 6)) (aa (eF (eP bf (aa (eC (.str "next")) (aa (eF (aq 6)) ak)))) ak)))))))) ak))))
noncomputable def J6 (ah:FM):GS:=
 (bH 7 (eP bf (aa (eC (.str "now")) (aa (eF (eP bf (aa (eC (.str "any")) ak))) ak))))
noncomputable def J7 (ah:FM):GS:=
 (iF (bName 4) (jJ (aa (eC (.int 3)) ak)) (jr ah))
noncomputable def J8 (ah:FM):GS:=
 (bH 2 (eP cK (aa (eF (aq 2)) (aa (eF (eP dg (aa (eF (eP bf (aa (eC (.str "till")) (aa (eF (aq 7)) (aa (eF (eP bf (aa (eC (.str "no")) ak))) ak))))) (aa (eF (eP bf (aa (eC (.str "some")) (aa (eF (aq 7)) ak)))) (aa (eF (eP bf (aa (eC (.str "next")) (aa (eF (eP bf (aa (eC (.str "next")) (aa (eF (aq 7)) ak)))) ak)))) (aa (eF (eP bf (aa (eC (.str "within")) (aa (eC (.int 5)) (aa (eF (eP bf (aa (eC (.str "yes")) ak))) ak))))) ak)))))) ak))))
noncomputable def J9 (ah:FM):GS:=
 (bH 2 (eP cK (aa (eF (aq 2)) (aa (eF (eP dg (aa (eC (.str "x")) (aa (eF (eP Dq (aa (eC (.int 10)) (aa (eC (.int 19)) ak)))) ak)))) ak))))
noncomputable def Ka (ah:FM):GS:=
 (bR (eT (bC 2 (eF (aL ah (cy (aq 0) (aP (gn 2) br)))))))
theorem TR (ah:FM):iz ah=aJ (VX ah) (aJ (Tu ah) (aJ (Tv ah) (aJ (Tz ah) (aJ (TF ah) (aJ (TH ah) (aJ (TJ ah) (aJ (TL ah) (aJ (TM ah) (aJ (TQ ah) (aJ (J5 ah) (aJ (J6 ah) (aJ (J7 ah) (aJ (J8 ah) (aJ (J9 ah) (Ka ah))))))))))))))):=rfl
noncomputable def sS:FM:=aQ 8 (iz cg)
theorem Mq:∀us r,sS us=some r→aQ 8 (iz cg) us=some r:=fun _ _ h=>h
noncomputable def XX:D:=.tup [.str "now",.tup [.str "same",.str "x"]]
noncomputable def YY:D:=.tup [.str "yes"]
noncomputable def NO:D:=.tup [.str "no"]
noncomputable def A1:List D:=[.cW,.bl true,.int 0,.int 1,.str "next",.tup [],.lst [],YY,.tup [.str "both",YY,NO],.tup [.str "next",XX],.tup [.str "now",.tup [.str "less",.int 10]]]
noncomputable def A2:List D:=[.tup [.str "one",.str "a",.str "x",XX],.tup [.str "within",.int 6,YY],.tup [.str "within",.bl true,YY],.tup [.str "now",.tup [.str "name",.str ""]]]
noncomputable def A3:List D:=[.tup [.str "each",.str "abcdefghi",.str "x",XX],.tup [.str "each",.str "a",.str "y",XX],.tup [.str "now",.tup [.str "any",.int 1]],.tup [.str "now",.str "any"],.tup [.str "next"]]
noncomputable def A4 (d w b:D):List D:=[.tup [.str "some",d],.tup [.str "always",d],.tup [.str "some",w],.tup [.str "next",w],b,.tup [.str "next",b]]
noncomputable def A5 (f:D):List D:=[.tup [.str "till",f,NO],.tup [.str "some",f],.tup [.str "next",.tup [.str "next",f]],.tup [.str "within",.int 5,YY]]
noncomputable def A6:List D:=[.str "x",.int 10000000000000000000]
theorem zX:∀d∈A1++A2++A3++A6,Good 1800 11 d:=J4 (by decide +kernel)
theorem Mr {d w b:D}(hd:Good 500 10 d) (hw:Good 1300 9 w) (hb:Good 500 9 b):∀x∈A4 d w b,Good 1800 11 x:=by
 have two:∀(z:Str) (x:D) (n k:Nat),JX z=true→z.length≤6→Good n k x→n≤1500→k≤10→Good 1800 11 (.tup [.str z,x]):=fun z x n k h1 h2 h3 h4 h5=>by
  refine⟨⟨cF h1,h3.jW,True.intro⟩,?_,?_⟩
  ·have:=h3.w
   show 10 * z.length+2+2+(wD x+2+0)+4≤1800
   omega
  ·have:=h3.dep
   show max 0 (max (bZ x) 0)+1≤11
   omega
 intro x hx
 simp only[A4,List.mem_cons,List.not_mem_nil,or_false] at hx
 rcases hx with rfl | rfl | rfl | rfl | rfl | rfl
 ·exact two _ _ _ _ (by decide +kernel) (by decide) hd (by omega) (by omega)
 ·exact two _ _ _ _ (by decide +kernel) (by decide) hd (by omega) (by omega)
 ·exact two _ _ _ _ (by decide +kernel) (by decide) hw (by omega) (by omega)
 ·exact two _ _ _ _ (by decide +kernel) (by decide) hw (by omega) (by omega)
 ·exact hb.mono (by omega) (by omega)
 ·exact two _ _ _ _ (by decide +kernel) (by decide) hb (by omega) (by omega)
theorem Ms:wD NO=28∧bZ NO=1∧Sane NO:=⟨by decide,by decide,pD _ (by decide +kernel)⟩
theorem DS:wD YY=38∧bZ YY=1∧Sane YY:=⟨by decide,by decide,pD _ (by decide +kernel)⟩
theorem Mt {f:D}(hf:Good 1200 6 f):∀x∈A5 f,Good 1800 11 x:=by
 obtain⟨n1,n2,n3⟩:=Ms
 obtain⟨y1,y2,y3⟩:=DS
 have w:=hf.w
 have dp:=hf.dep
 intro x hx
 simp only[A5,List.mem_cons,List.not_mem_nil,or_false] at hx
 rcases hx with rfl | rfl | rfl | rfl
 ·exact⟨⟨cF (by decide +kernel),hf.jW,n3,True.intro⟩,by show 42+2+(wD f+2+(wD NO+2+0))+4≤1800;omega,by show max 0 (max (bZ f) (max (bZ NO) 0))+1≤11;omega⟩
 ·exact⟨⟨cF (by decide +kernel),hf.jW,True.intro⟩,by show 42+2+(wD f+2+0)+4≤1800;omega,by show max 0 (max (bZ f) 0)+1≤11;omega⟩
 ·exact⟨⟨cF (by decide +kernel),⟨cF (by decide +kernel),hf.jW,True.intro⟩,True.intro⟩,by show 42+2+((42+2+(wD f+2+0)+4)+2+0)+4≤1800;omega,by show max 0 (max (max 0 (max (bZ f) 0)+1) 0)+1≤11;omega⟩
 ·exact⟨⟨cF (by decide +kernel),(by show(5:Int).natAbs < 10 ^ 30;decide),y3,True.intro⟩,by show 62+2+(40+2+(wD YY+2+0))+4≤1800;omega,by show max 0 (max 0 (max (bZ YY) 0))+1≤11;omega⟩
section
variable {f1:FM}{T0 T1:MO}{x1 x2 x3 x4 x5 x6 x7:Option U}
theorem lp1 {c : Nat} (hc : c ≤ 8) (i4 : jX x4 = false) : ∃ (d : D) (wL : Option U), loop (bName 4) (jo f1) (jZ 0 c) [some (.b T0), x1, x2, some (.t YY), x4, x5, x6, x7] = some (.nx [some (.b T0), x1, x2, some (.t d), wL, x5, x6, x7]) ∧ Good 500 10 d ∧ jX wL = false := by
  obtain⟨S',e,d,wL,rfl,g,hi⟩:=iW (bd:=bName 4) (body:=jo f1) (jZ 0 c) (fun j S=>∃(d:D) (x4:Option U),S=[some (.b T0),x1,x2,some (.t d),x4,x5,x6,x7]∧Good (38+50 * j) (1+j) d∧jX x4=false)
    [some (.b T0),x1,x2,some (.t YY),x4,x5,x6,x7] ⟨YY,x4,rfl,⟨DS.2.2,by rw[DS.1];omega,by rw[DS.2.1];omega⟩,i4⟩ (by
      rintro j k S hk ⟨d,x4,rfl,g,hi⟩
      obtain⟨hj,rfl⟩:=lG hk
      obtain⟨h,a1,a2⟩:=jP (x:=.cW) (l:=[D.str "not",.str "next"]) (i:=(j:Int) % 2) (Int.emod_nonneg _ (by decide)) (Int.emod_lt_of_pos _ (by decide))
      have hh:Sane h∧wD h≤42∧bZ h=0:=by
        simp only[List.mem_cons,List.not_mem_nil,or_false] at a2
        rcases a2 with rfl | rfl <;> exact⟨cF (by decide +kernel),by decide,rfl⟩
      refine⟨[some (.b T0),x1,x2,some (.t d),some (.t (.int j)),x5,x6,x7],[some (.b T0),x1,x2,some (.t (.tup [h,d])),some (.t (.int j)),x5,x6,x7],by simp[bName,-fX,dX,hi],by simp[jo,a1],.tup [h,d],_,rfl,⟨⟨hh.1,g.jW,True.intro⟩,?_,?_⟩,rfl⟩
      · have:=g.w
        have:=hh.2.1
        show wD h+2+(wD d+2+0)+4≤38+50 * (j+1)
        omega
      · have:=g.dep
        have:=hh.2.2
        show max (bZ h) (max (bZ d) 0)+1≤1+(j+1)
        omega)
  have rl:(jZ 0 c).length=c:=by unfold jZ;rw[List.length_map,List.length_range]
  rw[rl] at g
  exact⟨d,wL,e,g.mono (by omega) (by omega),hi⟩
noncomputable def TN:D:=.tup [.str "till",YY,NO]
theorem Pe:wD TN=118∧bZ TN=2∧Sane TN:=⟨by decide,by decide,pD _ (by decide +kernel)⟩
theorem lp2 (i4 : jX x4 = false) : ∃ (h w e : D) (wL : Option U), loop (bName 4) (iy f1) (jZ 0 7) [some (.b T0), x1, x2, x3, x4, some (.t YY), x6, x7] = some (.nx [some (.b T0), x1, x2, x3, wL, some (.t (.tup [h, w, e])), x6, x7]) ∧ Good 1300 9 w ∧ jX wL = false := by
  obtain⟨S',e,d,wL,rfl,hs,g,hi⟩:=iW (bd:=bName 4) (body:=iy f1) (jZ 0 7) (fun j S=>∃(d:D) (x4:Option U),S=[some (.b T0),x1,x2,x3,x4,some (.t d),x6,x7]∧(1≤j→∃h w e,d= .tup [h,w,e]∧Good (38+170 * (j - 1)) (2+j) w)∧Good (38+170 * j) (3+j) d∧jX x4=false)
    [some (.b T0), x1, x2, x3, x4, some (.t YY), x6, x7] ⟨YY, x4, rfl, (fun h => by omega), ⟨DS.2.2, by rw [DS.1]; omega, by rw [DS.2.1]; omega⟩, i4⟩ (by
      rintro j k S hk ⟨d,x4,rfl,_,g,hi⟩
      obtain⟨hj,rfl⟩:=lG hk
      have gw:=g.w
      have gd:=g.dep
      by_cases c:(j:Int) < 4
      · refine⟨[some (.b T0),x1,x2,x3,some (.t (.int j)),some (.t d),x6,x7],[some (.b T0),x1,x2,x3,some (.t (.int j)),some (.t (.tup [.str "either",d,NO])),x6,x7],by simp[bName,-fX,dX,hi],?_,_,_,rfl,(fun _=>⟨_,_,_,rfl,g.mono (by omega) (by omega)⟩),⟨⟨cF (by decide +kernel),g.jW,Ms.2.2,True.intro⟩,?_,?_⟩,rfl⟩
        · have c':j < 4:=by omega
          simp[iy,c,NO]
        · have:=Ms.1
          show 62+2+(wD d+2+(wD NO+2+0))+4≤38+170 * (j+1)
          omega
        · have:=Ms.2.1
          show max 0 (max (bZ d) (max (bZ NO) 0))+1≤3+(j+1)
          omega
      · refine⟨[some (.b T0),x1,x2,x3,some (.t (.int j)),some (.t d),x6,x7],[some (.b T0),x1,x2,x3,some (.t (.int j)),some (.t (.tup [.str "both",d,TN])),x6,x7],by simp[bName,-fX,dX,hi],?_,_,_,rfl,(fun _=>⟨_,_,_,rfl,g.mono (by omega) (by omega)⟩),⟨⟨cF (by decide +kernel),g.jW,Pe.2.2,True.intro⟩,?_,?_⟩,rfl⟩
        · have c':¬j < 4:=by omega
          simp[iy,c,TN,NO,YY]
        · have:=Pe.1
          show 42+2+(wD d+2+(wD TN+2+0))+4≤38+170 * (j+1)
          omega
        · have:=Pe.2.1
          show max 0 (max (bZ d) (max (bZ TN) 0))+1≤3+(j+1)
          omega)
  have rl:(jZ 0 7).length=7:=by unfold jZ;rw[List.length_map,List.length_range]
  rw[rl] at hs
  obtain⟨h,w,e',rfl,gw⟩:=hs (by omega)
  exact⟨h,w,e',wL,e,gw.mono (by omega) (by omega),hi⟩
theorem Pf:wD XX=102∧bZ XX=2∧Sane XX:=⟨by decide,by decide,pD _ (by decide +kernel)⟩
theorem lp3 {c : Nat} (hc : c ≤ 4) (i4 : jX x4 = false) : ∃ (d : D) (wL : Option U), loop (bName 4) (jq f1) (jZ 0 c) [some (.b T0), x1, x2, x3, x4, x5, some (.t XX), x7] = some (.nx [some (.b T0), x1, x2, x3, wL, x5, some (.t d), x7]) ∧ Good 500 9 d ∧ jX wL = false := by
  obtain⟨S',e,d,wL,rfl,g,hi⟩:=iW (bd:=bName 4) (body:=jq f1) (jZ 0 c) (fun j S=>∃(d:D) (x4:Option U),S=[some (.b T0),x1,x2,x3,x4,x5,some (.t d),x7]∧Good (102+78 * j) (2+j) d∧jX x4=false)
    [some (.b T0),x1,x2,x3,x4,x5,some (.t XX),x7] ⟨XX,x4,rfl,⟨Pf.2.2,by rw[Pf.1];omega,by rw[Pf.2.1];omega⟩,i4⟩ (by
      rintro j k S hk ⟨d,x4,rfl,g,hi⟩
      obtain⟨hj,rfl⟩:=lG hk
      refine⟨[some (.b T0),x1,x2,x3,some (.t (.int j)),x5,some (.t d),x7],[some (.b T0),x1,x2,x3,some (.t (.int j)),x5,some (.t (.tup [.str "each",.str "a",.str "x",d])),x7],by simp[bName,-fX,dX,hi],by simp[jq],_,_,rfl,⟨⟨cF (by decide +kernel),cF (by decide +kernel),cF (by decide +kernel),g.jW,True.intro⟩,?_,?_⟩,rfl⟩
      · have:=g.w
        show 42+2+(12+2+(12+2+(wD d+2+0)))+4≤102+78 * (j+1)
        omega
      · have:=g.dep
        show max 0 (max 0 (max 0 (max (bZ d) 0)))+1≤2+(j+1)
        omega)
  have rl:(jZ 0 c).length=c:=by unfold jZ;rw[List.length_map,List.length_range]
  rw[rl] at g
  exact⟨d,wL,e,g.mono (by omega) (by omega),hi⟩
noncomputable def TU:D:=.tup [.str "now",.tup [.str "any"]]
theorem lp4 (i4 : jX x4 = false) : ∃ (d : D) (wL : Option U), loop (bName 4) (jr f1) (jZ 0 3) [some (.b T0), x1, x2, x3, x4, x5, x6, some (.t TU)] = some (.nx [some (.b T0), x1, x2, x3, wL, x5, x6, some (.t d)]) ∧ Good 1200 6 d := by
  obtain⟨S',e,d,wL,rfl,g,hi⟩:=iW (bd:=bName 4) (body:=jr f1) (jZ 0 3) (fun j S=>∃(d:D) (x4:Option U),S=[some (.b T0),x1,x2,x3,x4,x5,x6,some (.t d)]∧(Sane d∧wD d+72≤150 * 2 ^ j∧bZ d≤2+j)∧jX x4=false)
    [some (.b T0),x1,x2,x3,x4,x5,x6,some (.t TU)] ⟨TU,x4,rfl,⟨pD _ (by decide +kernel),by decide,by decide⟩,i4⟩ (by
      rintro j k S hk ⟨d,x4,rfl,⟨g1,g2,g3⟩,hi⟩
      obtain⟨hj,rfl⟩:=lG hk
      refine⟨[some (.b T0),x1,x2,x3,some (.t (.int j)),x5,x6,some (.t d)],[some (.b T0),x1,x2,x3,some (.t (.int j)),x5,x6,some (.t (.tup [.str "either",d,d]))],by simp[bName,-fX,dX,hi],by simp[jr],_,_,rfl,⟨⟨cF (by decide +kernel),g1,g1,True.intro⟩,?_,?_⟩,rfl⟩
      · rw[Nat.pow_succ]
        show 62+2+(wD d+2+(wD d+2+0))+4+72≤_
        omega
      · show max 0 (max (bZ d) (max (bZ d) 0))+1≤2+(j+1)
        omega)
  have rl:(jZ 0 3).length=3:=by unfold jZ;rw[List.length_map,List.length_range]
  rw[rl] at g
  exact⟨d,wL,e,⟨g.1,by have:=g.2.1;omega,by omega⟩⟩
end
end Sd
end
section
set_option Elab.async false
set_option linter.all false
set_option maxRecDepth 100000
namespace Sd
open PySem PySem.Spec PyProof.Rows L2 Sw Ss
section
variable {f1:FM}{T0 T1:MO}{x3 x4 x5 x6 x7:Option U}
noncomputable abbrev so (T:MO) (l:List D) (x3 x4 x5 x6 x7:Option U):SS:=[some (.b T),some (.t XX),some (.m (.lst l)),x3,x4,x5,x6,x7]
theorem o0:VX f1 [some (.b T0),none,none,none,none,none,none,none]=some (.nx [some (.b T0),some (.t XX),none,none,none,none,none,none]):=by simp[VX,XX]
theorem o1:Tu f1 [some (.b T0),some (.t XX),none,none,none,none,none,none]=some (.nx (so T0 A1 none none none none none)):=by simp[Tu,A1,YY,NO]
theorem o2 {l:List D}(h:l.length≤1000):Tv f1 (so T0 l none none none none none)=some (.nx (so T0 (l++A2) none none none none none)):=by
 have e:l.length≤99996:=by omega
 simp[Tv,e,A2,YY]
theorem o3 {l:List D}(h:l.length≤1000):Tz f1 (so T0 l none none none none none)=some (.nx (so T0 (l++A3) none none none none none)):=by
 have e:l.length≤99995:=by omega
 simp[Tz,e,A3]
theorem o4 {l:List D}:TF f1 (so T0 l none none none none none)=some (.nx (so T0 l (some (.t YY)) none none none none)):=by simp[TF,YY]
theorem o6 {l:List D}:TJ f1 (so T0 l x3 x4 none none none)=some (.nx (so T0 l x3 x4 (some (.t YY)) none none)):=by simp[TJ,YY]
theorem o8 {l:List D}:TM f1 (so T0 l x3 x4 x5 none none)=some (.nx (so T0 l x3 x4 x5 (some (.t XX)) none)):=by simp[TM,XX]
theorem o10 {l:List D}{d h w e b:D}(hl:l.length≤1000):J5 f1 (so T0 l (some (.t d)) x4 (some (.t (.tup [h,w,e]))) (some (.t b)) none)=some (.nx (so T0 (l++A4 d w b) (some (.t d)) x4 (some (.t (.tup [h,w,e]))) (some (.t b)) none)):=by
 have q:l.length≤99994:=by omega
 simp[J5,q,A4,dH]
theorem o11 {l:List D}:J6 f1 (so T0 l x3 x4 x5 x6 none)=some (.nx (so T0 l x3 x4 x5 x6 (some (.t TU)))):=by simp[J6,TU]
theorem o13 {l:List D}{f:D}(hl:l.length≤1000):J8 f1 (so T0 l x3 x4 x5 x6 (some (.t f)))=some (.nx (so T0 (l++A5 f) x3 x4 x5 x6 (some (.t f)))):=by
 have q:l.length≤99996:=by omega
 simp[J8,q,A5,YY,NO]
theorem o14 {l:List D}(hl:l.length≤1000):J9 f1 (so T0 l x3 x4 x5 x6 x7)=some (.nx (so T0 (l++A6) x3 x4 x5 x6 x7)):=by
 have q:l.length≤99998:=by omega
 simp[J9,q,A6]
theorem o15 {l:List D}{v:Int}{d:D}(p:f1 [.b T0,.t (.int (l.length:Int))]=some (.t (.int v),[T1])) (h:gZ l v=some d):Ka f1 (so T0 l x3 x4 x5 x6 x7)=some (.rt (.t d) (so T1 l x3 x4 x5 x6 x7)):=by
 simp[Ka,p,h]
theorem Mu {d:D}{r:SS}(h:iz f1 [some (.b T0),none,none,none,none,none,none,none]=some (.rt (.t d) (some (.b T1) :: r))):aQ 8 (iz f1) [.b T0]=some (.t d,[T1]):=by
 show(iz f1 [some (.b T0),none,none,none,none,none,none,none]).bind _=_
 rw[h]
 simp[aE]
theorem o5 {l:List D}{v:Int}{d:D}{wL:Option U}(p:f1 [.b T0,.t (.int 3)]=some (.t (.int v),[T1])) (v0:0≤v) (v1:v < 3) (e:loop (bName 4) (jo f1) (jZ 0 (6+v).toNat) (so T1 l x3 x4 x5 x6 x7)=some (.nx (so T1 l (some (.t d)) wL x5 x6 x7))):TH f1 (so T0 l x3 x4 x5 x6 x7)=some (.nx (so T1 l (some (.t d)) wL x5 x6 x7)):=by
 have er:=mR (g:=eF (eP cK (aa (eC (.int 6)) (aa (eF (aL f1 (cy (aq 0) (aP (eC (.int 3)) br)))) ak)))) (S:=so T0 l x3 x4 x5 x6 x7) (S':=so T1 l x3 x4 x5 x6 x7) (v:=6+v) (by simp[p]) (by omega) (by omega)
 unfold TH
 rw[iF,er,Option.bind_some]
 exact e
theorem o9 {l:List D}{v:Int}{d:D}{wL:Option U}(p:f1 [.b T0,.t (.int 3)]=some (.t (.int v),[T1])) (v0:0≤v) (v1:v < 3) (e:loop (bName 4) (jq f1) (jZ 0 (2+v).toNat) (so T1 l x3 x4 x5 x6 x7)=some (.nx (so T1 l x3 wL x5 (some (.t d)) x7))):TQ f1 (so T0 l x3 x4 x5 x6 x7)=some (.nx (so T1 l x3 wL x5 (some (.t d)) x7)):=by
 have er:=mR (g:=eF (eP cK (aa (eC (.int 2)) (aa (eF (aL f1 (cy (aq 0) (aP (eC (.int 3)) br)))) ak)))) (S:=so T0 l x3 x4 x5 x6 x7) (S':=so T1 l x3 x4 x5 x6 x7) (v:=2+v) (by simp[p]) (by omega) (by omega)
 unfold TQ
 rw[iF,er,Option.bind_some]
 exact e
theorem o7 {l:List D}{o:Option Out}(e:loop (bName 4) (iy f1) (jZ 0 7) (so T0 l x3 x4 x5 x6 x7)=o):TL f1 (so T0 l x3 x4 x5 x6 x7)=o:=by
 have er:=mR (g:=eC (.int 7)) (S:=so T0 l x3 x4 x5 x6 x7) (S':=so T0 l x3 x4 x5 x6 x7) (v:=7) rfl (by omega) (by omega)
 unfold TL
 rw[iF,er,Option.bind_some]
 exact e
theorem o12 {l:List D}{o:Option Out}(e:loop (bName 4) (jr f1) (jZ 0 3) (so T0 l x3 x4 x5 x6 x7)=o):J7 f1 (so T0 l x3 x4 x5 x6 x7)=o:=by
 have er:=mR (g:=eC (.int 3)) (S:=so T0 l x3 x4 x5 x6 x7) (S':=so T0 l x3 x4 x5 x6 x7) (v:=3) rfl (by omega) (by omega)
 unfold J7
 rw[iF,er,Option.bind_some]
 exact e
end
theorem DT {T : MO} {n : Nat} (h : Fd n T) (hn : n < 800000) : ∃ d T', sS [.b T] = some (.t d, [T']) ∧ Good 1800 11 d ∧ Fd (n + 3) T' := by
  obtain⟨v,T1,p1,v0,v1,h1⟩:=cI (m:=3) h (by omega) (by decide) (by decide)
  obtain⟨u,T2,p2,u0,u1,h2⟩:=cI (m:=3) h1 (by omega) (by decide) (by decide)
  obtain⟨d,y4,e5,gd,i5⟩:=lp1 (f1:=cg) (T0:=T1) (x1:=some (.t XX)) (x2:=some (.m (.lst (A1++A2++A3)))) (x4:=none) (x5:=none) (x6:=none) (x7:=none) (c:=(6+v).toNat) (by omega) rfl
  obtain⟨hh,w,e,z4,e7,gw,i7⟩:=lp2 (f1:=cg) (T0:=T1) (x1:=some (.t XX)) (x2:=some (.m (.lst (A1++A2++A3)))) (x3:=some (.t d)) (x4:=y4) (x6:=none) (x7:=none) i5
  obtain⟨b,a4,e9,gb,i9⟩:=lp3 (f1:=cg) (T0:=T2) (x1:=some (.t XX)) (x2:=some (.m (.lst (A1++A2++A3)))) (x3:=some (.t d)) (x4:=z4) (x5:=some (.t (.tup [hh,w,e]))) (x7:=none) (c:=(2+u).toNat) (by omega) i7
  obtain⟨f,b4,e12,gf⟩:=lp4 (f1:=cg) (T0:=T2) (x1:=some (.t XX)) (x2:=some (.m (.lst (A1++A2++A3++A4 d w b)))) (x3:=some (.t d)) (x4:=a4) (x5:=some (.t (.tup [hh,w,e]))) (x6:=some (.t b)) i9
  have ll:(A1++A2++A3++A4 d w b++A5 f++A6).length=32:=rfl
  have gl:∀x∈A1++A2++A3++A4 d w b++A5 f++A6,Good 1800 11 x:=by
    intro x hx
    rcases List.mem_append.mp hx with hx | hx
    · rcases List.mem_append.mp hx with hx | hx
      · rcases List.mem_append.mp hx with hx | hx
        · exact zX x (List.mem_append.mpr (.inl hx))
        · exact Mr gd gw gb x hx
      · exact Mt gf x hx
    · exact zX x (List.mem_append.mpr (.inr hx))
  obtain⟨k,T3,p3,k0,k1,h3⟩:=cI (m:=((A1++A2++A3++A4 d w b++A5 f++A6).length:Int)) h2 (by omega) (by rw[ll];decide) (by rw[ll];decide)
  obtain⟨r,q1,q2⟩:=jP (x:=.cW) k0 k1
  refine⟨r,T3,?_,gl r q2,h3⟩
  have q0:VX cg [some (.b T),none,none,none,none,none,none,none]=some (.nx [some (.b T),some (.t XX),none,none,none,none,none,none]):=o0
  refine Mu (f1:=cg) (r:=[some (.t XX),some (.m (.lst (A1++A2++A3++A4 d w b++A5 f++A6))),some (.t d),b4,some (.t (.tup [hh,w,e])),some (.t b),some (.t f)]) ?_
  have l1:A1.length≤1000:=by decide
  have l2:(A1++A2).length≤1000:=by decide
  have l3:(A1++A2++A3).length≤1000:=by decide
  have l4:(A1++A2++A3++A4 d w b).length≤1000:=by show 26≤1000;omega
  have l5:(A1++A2++A3++A4 d w b++A5 f).length≤1000:=by show 30≤1000;omega
  rw[TR,bA,q0,Option.bind_some]
  simp only
  rw[bA,o1,Option.bind_some]
  simp only
  rw[bA,o2 l1,Option.bind_some]
  simp only
  rw[bA,o3 l2,Option.bind_some]
  simp only
  rw[bA,o4,Option.bind_some]
  simp only
  rw[bA,o5 p1 v0 v1 e5,Option.bind_some]
  simp only
  rw[bA,o6,Option.bind_some]
  simp only
  rw[bA,o7 e7,Option.bind_some]
  simp only
  rw[bA,o8,Option.bind_some]
  simp only
  rw[bA,o9 p2 u0 u1 e9,Option.bind_some]
  simp only
  rw[bA,o10 l3,Option.bind_some]
  simp only
  rw[bA,o11,Option.bind_some]
  simp only
  rw[bA,o12 e12,Option.bind_some]
  simp only
  rw[bA,o13 l4,Option.bind_some]
  simp only
  rw[bA,o14 l5,Option.bind_some]
  exact o15 p3 q1
end Sd
end
section
set_option Elab.async false
set_option linter.all false
set_option maxRecDepth 100000
namespace Sd
open PySem PySem.Spec PyProof.Rows L2 Sw Ss
noncomputable def fO (ah:FM) (bh:FM) (bu:FM):GS:=
 (aJ (gQ (gC (qB (rZ ["tuple"] (eF (aq 1)))) (gC (qB (eF (eP Bt (aa (eF (aq 1)) (aa (eF (eP bf ak)) ak))))) (gC (qB (eF (eP Dp (aa (eF (aq 2)) (aa (eC (.int 0)) ak))))) (qB (eF (eP Dp (aa (eF (aL ah (cy (aq 0) (aP (eC (.int 4)) br)))) (aa (eC (.int 0)) ak)))))))) (aJ (bH 3 (aL ah (cy (aq 0) (aP (gn 1) br))))
 (bR (eP cK (aa (eF (eP cK (aa (eF (yF (eF (aq 1)) none (some (eF (aq 3))))) (aa (eF (eP bf (aa (eF (aL bh (cy (aq 0) (aP (bC 1 (eF (aq 3))) (aP (eF (eP kZ (aa (eF (aq 2)) (aa (eC (.int 1)) ak)))) br))))) ak))) ak)))) (aa (eF (yF (eF (aq 1)) (some (eF (eP cK (aa (eF (aq 3)) (aa (eC (.int 1)) ak))))) none)) ak))))) cS)
 (aJ (bH 4 (aL ah (cy (aq 0) (aP (eC (.int 6)) br))))
 (aJ (gQ (oH (qB (eF (eP ER (aa (eF (aq 4)) (aa (eC (.int 3)) ak))))) (gM (qB (rZ ["tuple"] (eF (aq 1)))))) (bR (aL bu (cy (aq 0) br))) cS)
 (aJ (bH 3 (aL ah (cy (aq 0) (aP (eF (eP cK (aa (gn 1) (aa (eC (.int 1)) ak)))) br))))
 (bR (eP zD (aa (eF (eP dg (aa (eF (eP pM (aa (eF (aq 1)) ak))) (aa (eF (eP cK (aa (eF (yF (eF (aq 1)) none (some (eF (aq 3))))) (aa (eF (yF (eF (aq 1)) (some (eF (eP cK (aa (eF (aq 3)) (aa (eC (.int 1)) ak))))) none)) ak)))) (aa (eF (eP cK (aa (eF (eP cK (aa (eF (yF (eF (aq 1)) none (some (eF (aq 3))))) (aa (eF (eP bf (aa (eF (aL bu (cy (aq 0) br))) ak))) ak)))) (aa (eF (yF (eF (aq 1)) (some (eF (aq 3))) none)) ak)))) ak))))) (aa (eF (eP kZ (aa (eF (aq 4)) (aa (eC (.int 3)) ak)))) ak))))))))
noncomputable def Mv (ah:FM) (bh:FM) (bu:FM):GS:=
 (gQ (gC (qB (rZ ["tuple"] (eF (aq 1)))) (gC (qB (eF (eP Bt (aa (eF (aq 1)) (aa (eF (eP bf ak)) ak))))) (gC (qB (eF (eP Dp (aa (eF (aq 2)) (aa (eC (.int 0)) ak))))) (qB (eF (eP Dp (aa (eF (aL ah (cy (aq 0) (aP (eC (.int 4)) br)))) (aa (eC (.int 0)) ak)))))))) (aJ (bH 3 (aL ah (cy (aq 0) (aP (gn 1) br))))
 (bR (eP cK (aa (eF (eP cK (aa (eF (yF (eF (aq 1)) none (some (eF (aq 3))))) (aa (eF (eP bf (aa (eF (aL bh (cy (aq 0) (aP (bC 1 (eF (aq 3))) (aP (eF (eP kZ (aa (eF (aq 2)) (aa (eC (.int 1)) ak)))) br))))) ak))) ak)))) (aa (eF (yF (eF (aq 1)) (some (eF (eP cK (aa (eF (aq 3)) (aa (eC (.int 1)) ak))))) none)) ak))))) cS)
noncomputable def YU (ah:FM) (bh:FM) (bu:FM):GS:=
 (bH 4 (aL ah (cy (aq 0) (aP (eC (.int 6)) br))))
noncomputable def Qs (ah:FM) (bh:FM) (bu:FM):GS:=
 (gQ (oH (qB (eF (eP ER (aa (eF (aq 4)) (aa (eC (.int 3)) ak))))) (gM (qB (rZ ["tuple"] (eF (aq 1)))))) (bR (aL bu (cy (aq 0) br))) cS)
noncomputable def YV (ah:FM) (bh:FM) (bu:FM):GS:=
 (bH 3 (aL ah (cy (aq 0) (aP (eF (eP cK (aa (gn 1) (aa (eC (.int 1)) ak)))) br))))
noncomputable def YW (ah:FM) (bh:FM) (bu:FM):GS:=
 (bR (eP zD (aa (eF (eP dg (aa (eF (eP pM (aa (eF (aq 1)) ak))) (aa (eF (eP cK (aa (eF (yF (eF (aq 1)) none (some (eF (aq 3))))) (aa (eF (yF (eF (aq 1)) (some (eF (eP cK (aa (eF (aq 3)) (aa (eC (.int 1)) ak))))) none)) ak)))) (aa (eF (eP cK (aa (eF (eP cK (aa (eF (yF (eF (aq 1)) none (some (eF (aq 3))))) (aa (eF (eP bf (aa (eF (aL bu (cy (aq 0) br))) ak))) ak)))) (aa (eF (yF (eF (aq 1)) (some (eF (aq 3))) none)) ak)))) ak))))) (aa (eF (eP kZ (aa (eF (aq 4)) (aa (eC (.int 3)) ak)))) ak))))
theorem Kc (ah:FM) (bh:FM) (bu:FM):fO ah bh bu=aJ (Mv ah bh bu) (aJ (YU ah bh bu) (aJ (Qs ah bh bu) (aJ (YV ah bh bu) (YW ah bh bu)))):=rfl
noncomputable def kR:Nat→FM
 | 0=>fun _=>none
 | j+1=>aQ 5 (fO cg (kR j) sS)
theorem Ke (j:Nat):∀us r,kR (j+1) us=some r→aQ 5 (fO cg (kR j) sS) us=some r:=fun _ _ h=>h
section
variable {f1 f2 f3:FM}{T0 T1 T2 T3 T4:MO}{d e:D}{ds:List D}{k v a w u:Int}{x3 x4:Option U}
theorem DU {r:SS}{o:Option Out}(h:fO f1 f2 f3 [some (.b T0),some (.t d),some (.t (.int k)),none,none]=some (.rt (.t e) (some (.b T1) :: some (.t d) :: some (.t (.int k)) :: r))):aQ 5 (fO f1 f2 f3) [.b T0,.t d,.t (.int k)]=some (.t e,[T1]):=by
 show(fO f1 f2 f3 [some (.b T0),some (.t d),some (.t (.int k)),none,none]).bind _=_
 rw[h]
 simp[aE]
theorem M3 (hd : bZ d ≤ 40) (h : (bU d = false ∨ d = .tup [] ∨ ¬ 0 < k) ∧ T1 = T0 ∨ bU d = true ∧ d ≠ .tup [] ∧ 0 < k ∧ f1 [.b T0, .t (.int 4)] = some (.t (.int 0), [T1])) :
    Mv f1 f2 f3 [some (.b T0),some (.t d),some (.t (.int k)),none,none]=some (.nx [some (.b T1),some (.t d),some (.t (.int k)),none,none]):=by
  rcases h with⟨h,rfl⟩ | ⟨h1,h2,h3,p⟩
  · cases q : bU d with
    | false=>simp[Mv,bV,dj,q]
    | true=>
      by_cases c:d= .tup []
      · subst c
        have q2:jC (.tup []) (.tup [])=true:=rfl
        simp[Mv,bV,dj,bU,q2,bZ,bM]
      · have h3:¬0 < k:=by rcases h with h | h | h;(rw[h] at q;cases q);exact absurd h c;exact h
        have q2:jC d (.tup [])=false:=by
          cases d with
          | tup l=>cases l with | nil=>exact absurd rfl c | cons _ _=>rfl
          | _=>cases q
        simp[Mv,bV,dj,q,q2,hd,h3]
  · have q2:jC d (.tup [])=false:=by
      cases d with
      | tup l=>cases l with | nil=>exact absurd rfl h2 | cons _ _=>rfl
      | _=>cases h1
    simp[Mv,bV,dj,h1,q2,hd,h3,p]
theorem Pg (hd:bZ (.tup ds)≤40) (hne:ds≠[]) (hk:0 < k) (p1:f1 [.b T0,.t (.int 4)]=some (.t (.int u),[T1])) (hu:0 < u) (p2:f1 [.b T1,.t (.int (ds.length:Int))]=some (.t (.int a),[T2])) (ha:gZ ds a=some d)
  (p3:f2 [.b T2,.t d,.t (.int (k - 1))]=some (.t e,[T3])) (hl:(L2.cutD ds none (some a)).length+1≤100000) (hl2:(L2.cutD ds none (some a)).length+1+(L2.cutD ds (some (a+1)) none).length≤100000):
  Mv f1 f2 f3 [some (.b T0),some (.t (.tup ds)),some (.t (.int k)),none,none]=some (.rt (.t (.tup (L2.cutD ds none (some a)++[e]++L2.cutD ds (some (a+1)) none))) [some (.b T3),some (.t (.tup ds)),some (.t (.int k)),some (.t (.int a)),none]):=by
 have q2:jC (.tup ds) (.tup [])=false:=by cases ds with | nil=>exact absurd rfl hne | cons _ _=>rfl
 simp[Mv,bV,dj,bU,q2,hd,hk,p1,hu,p2,ha,p3,hl,hl2]
theorem b1 (p:f1 [.b T0,.t (.int 6)]=some (.t (.int w),[T1])):YU f1 f2 f3 [some (.b T0),some (.t d),some (.t (.int k)),none,none]=some (.nx [some (.b T1),some (.t d),some (.t (.int k)),none,some (.t (.int w))]):=by
 simp[YU,p]
theorem Ph (h:w < 3∨bU d=false) (p:f3 [.b T0]=some (.t e,[T1])):Qs f1 f2 f3 [some (.b T0),some (.t d),some (.t (.int k)),none,some (.t (.int w))]=some (.rt (.t e) [some (.b T1),some (.t d),some (.t (.int k)),none,some (.t (.int w))]):=by
 by_cases c:w < 3
 ·simp[Qs,c,p]
 ·have h:bU d=false:=by rcases h with h | h;exact absurd h c;exact h
  simp[Qs,c,bV,dj,h,p]
theorem TV (h:¬w < 3) (h2:bU d=true):Qs f1 f2 f3 [some (.b T0),some (.t d),some (.t (.int k)),none,some (.t (.int w))]=some (.nx [some (.b T0),some (.t d),some (.t (.int k)),none,some (.t (.int w))]):=by
 simp[Qs,h,bV,dj,h2]
theorem b3 (p:f1 [.b T0,.t (.int ((ds.length:Int)+1))]=some (.t (.int a),[T1])):YV f1 f2 f3 [some (.b T0),some (.t (.tup ds)),some (.t (.int k)),none,some (.t (.int w))]=some (.nx [some (.b T1),some (.t (.tup ds)),some (.t (.int k)),some (.t (.int a)),some (.t (.int w))]):=by
 simp[YV,p]
theorem b4 {y:D}(p:f3 [.b T0]=some (.t e,[T1])) (h1:(L2.cutD ds none (some a)).length+(L2.cutD ds (some (a+1)) none).length≤100000) (h2:(L2.cutD ds none (some a)).length+1≤100000) (h3:(L2.cutD ds none (some a)).length+1+(L2.cutD ds (some a) none).length≤100000)
  (h:gZ [D.lst ds,.tup (L2.cutD ds none (some a)++L2.cutD ds (some (a+1)) none),.tup (L2.cutD ds none (some a)++[e]++L2.cutD ds (some a) none)] (w - 3)=some y):YW f1 f2 f3 [some (.b T0),some (.t (.tup ds)),some (.t (.int k)),some (.t (.int a)),some (.t (.int w))]=some (.rt (.t y) [some (.b T1),some (.t (.tup ds)),some (.t (.int k)),some (.t (.int a)),some (.t (.int w))]):=by
 have h4:(L2.cutD ds none (some a)).length+((L2.cutD ds (some a) none).length+1)≤100000:=by omega
 have fl:pM [.tup ds]=some (.m (.lst ds)):=rfl
 rw[List.append_assoc] at h
 simp only[List.singleton_append] at h
 simp[YW,fl,h1,h2,h3,h4,p,h]
end
theorem GY {ds:List D}{i:Nat}{x:D}(h:ds[i]? =some x):kN ds=kN (ds.take i)+(wD x+2)+kN (ds.drop (i+1)):=by
 obtain⟨hl,rfl⟩:=List.getElem?_eq_some_iff.mp h
 have e:ds=ds.take i++(ds[i] :: ds.drop (i+1)):=by rw[←List.drop_eq_getElem_cons hl,List.take_append_drop]
 rw[congrArg kN e,g9]
 show kN (ds.take i)+(wD ds[i]+2+kN (ds.drop (i+1)))=_
 omega
theorem mS {m:Nat}:∀{ds:List D},(∀x∈ds,sr m x)→Fits m ds
 | [],_=>True.intro
 | d :: ds,h=>⟨h d List.mem_cons_self,mS fun e he=>h e (List.mem_cons_of_mem _ he)⟩
theorem j7 {n:Nat}:∀{ds:List D}{x:D},Fits n ds→x∈ds→sr n x:=fun h hx=>Ss.xA h hx
theorem vd {T : MO} {n j k : Nat} {d : D} {W K : Nat} (hT : Fd n T) (hn : n + 8 < 700000) (g : Good W K d) (hK : K ≤ 38) (hf : sr 2000 d)
    (h:(bU d=false∨d= .tup []∨¬0 < (k:Int))∧True=True∨bU d=true∧d≠.tup []∧0 < (k:Int)∧∃T1,cg [.b T,.t (.int 4)]=some (.t (.int 0),[T1])∧Fd (n+1) T1):
    ∃e T',kR (j+1) [.b T,.t d,.t (.int k)]=some (.t e,[T'])∧Good (W+1808) (max K (13+k)) e∧sr 2001 e∧Fd (n+8 * (k+1)) T':=by
  have hd:bZ d≤40:=by have:=g.dep;omega
  obtain⟨T1,e0,h1⟩:∃T1,Mv cg (kR j) sS [some (.b T),some (.t d),some (.t (.int k)),none,none]=some (.nx [some (.b T1),some (.t d),some (.t (.int k)),none,none])∧Fd (n+1) T1:=by
    rcases h with⟨h,_⟩ | ⟨q1,q2,q3,T1,p,q4⟩
    · exact⟨T,M3 hd (.inl ⟨h,rfl⟩),hT.mono (by omega)⟩
    · exact⟨T1,M3 hd (.inr ⟨q1,q2,q3,p⟩),q4⟩
  obtain⟨w,T2,p1,w0,w1,h2⟩:=cI (m:=6) h1 (by omega) (by decide) (by decide)
  have e1:=b1 (f1:=cg) (f2:=kR j) (f3:=sS) (d:=d) (k:=k) p1
  show ∃e T',aQ 5 (fO cg (kR j) sS) _=_∧_
  by_cases c:w < 3∨bU d=false
  · obtain⟨e,T3,p2,ge,h3⟩:=DT h2 (by omega)
    refine⟨e,T3,DU (o:=none) (r:=[none,some (.t (.int w))]) ?_,ge.mono (by omega) (by omega),(AH (n:=2001) (by have:=ge.w;omega)),h3.mono (by omega)⟩
    rw[Kc,bA,e0,Option.bind_some]
    simp only
    rw[bA,e1,Option.bind_some]
    simp only
    rw[bA,Ph c p2,Option.bind_some]
  · have cw : ¬ w < 3 := fun q => c (.inl q)
    have ct:bU d=true:=by cases q:bU d with | true=>rfl | false=>exact absurd (.inr q) c
    obtain⟨ds,rfl⟩:∃ds,d= .tup ds:=by
      cases d with
      | tup ds=>exact⟨ds,rfl⟩
      | _=>cases ct
    have dl2:ds.length≤2000:=hf.1
    obtain⟨a,T3,p2,a0,a1,h3⟩:=cI (m:=(ds.length:Int)+1) h2 (by omega) (by omega) (by omega)
    obtain⟨b,rfl⟩:∃b:Nat,a=b:=⟨a.toNat,by omega⟩
    obtain⟨e,T4,p3,ge,h4⟩:=DT h3 (by omega)
    have c1:=AS ds b
    have c2:L2.cutD ds (some ((b:Int)+1)) none=ds.drop (b+1):=nN ds (b+1)
    have c3:=nN ds b
    have lt:(ds.take b).length≤2000:=by rw[List.length_take];omega
    have ld:(ds.drop (b+1)).length≤2000:=by rw[List.length_drop];omega
    have ld2:(ds.drop b).length≤2000:=by rw[List.length_drop];omega
    have s0:d9 ds:=g.jW
    have w00:kN ds+4≤W:=g.w
    have d0:bM ds+1≤K:=g.dep
    have ew:=ge.w
    have ed:=ge.dep
    have wt:=B9 b ds
    have wd:=xw (b+1) ds
    obtain⟨y,q1,q2⟩:=jP (x:=.cW) (l:=[D.lst ds,.tup (ds.take b++ds.drop (b+1)),.tup (ds.take b++[e]++ds.drop b)]) (i:=w - 3) (by omega) (by show w - 3 < 3;omega)
    refine⟨y,T4,DU (o:=none) (r:=[some (.t (.int (b:Int))),some (.t (.int w))]) ?_,?_,?_,h4.mono (by omega)⟩
    · rw[Kc,bA,e0,Option.bind_some]
      simp only
      rw[bA,e1,Option.bind_some]
      simp only
      rw[bA,TV cw ct,Option.bind_some]
      simp only
      rw[bA,b3 p2,Option.bind_some]
      simp only
      exact b4 p3 (by rw[c1,c2];omega) (by rw[c1];omega) (by rw[c1,c3];omega) (by rw[c1,c2,c3];exact q1)
    · simp only[List.mem_cons,List.not_mem_nil,or_false] at q2
      have wtd:kN (ds.take b)+kN (ds.drop b)=kN ds:=by rw[←g9,List.take_append_drop]
      have wle:kN (ds.drop (b+1))≤kN (ds.drop b):=by
        have:=xw 1 (ds.drop b)
        rw[List.drop_drop] at this
        exact this
      have dle:∀l:List D,(∀y∈l,y∈ds)→bM l≤K - 1:=fun l hl=>qx fun y hy=>by have:=iG (hl y hy);omega
      rcases q2 with rfl | rfl | rfl
      · exact⟨s0,by show kN ds+4≤_;omega,by show bM ds+1≤_;omega⟩
      · refine⟨(d9.of fun y hy=>s0.mem (List.mem_of_mem_take hy)).append (d9.of fun y hy=>s0.mem (List.mem_of_mem_drop hy)),?_,?_⟩
        · show kN _+4≤_
          rw[g9]
          omega
        · have:=dle (ds.take b++ds.drop (b+1)) (fun y hy=>by rcases List.mem_append.mp hy with q | q;exact List.mem_of_mem_take q;exact List.mem_of_mem_drop q)
          show bM _+1≤_
          omega
      · refine⟨((d9.of fun y hy=>s0.mem (List.mem_of_mem_take hy)).append (show d9 [e] from⟨ge.jW,True.intro⟩)).append (d9.of fun y hy=>s0.mem (List.mem_of_mem_drop hy)),?_,?_⟩
        · show kN _+4≤_
          rw[g9,g9]
          show kN (ds.take b)+(wD e+2+0)+kN (ds.drop b)+4≤_
          omega
        · show bM _+1≤_
          have q:bM (ds.take b++[e]++ds.drop b)≤max (K - 1) 11:=qx fun y hy=>by
            rcases List.mem_append.mp hy with hy | hy
            · rcases List.mem_append.mp hy with hy | hy
              · have:=iG (List.mem_of_mem_take hy);omega
              · rw[List.mem_singleton.mp hy];omega
            · have:=iG (List.mem_of_mem_drop hy);omega
          omega
    · simp only[List.mem_cons,List.not_mem_nil,or_false] at q2
      rcases q2 with rfl | rfl | rfl
      · exact⟨by omega,Fits.mono (by omega) hf.2⟩
      · refine⟨by rw[List.length_append];have:=List.length_take_le b ds;rw[List.length_take,List.length_drop];omega,mS fun y hy=>?_⟩
        rcases List.mem_append.mp hy with q | q
        · exact(j7 hf.2 (List.mem_of_mem_take q)).mono (by omega)
        · exact(j7 hf.2 (List.mem_of_mem_drop q)).mono (by omega)
      · refine⟨by rw[List.length_append,List.length_append,List.length_take,List.length_drop,List.length_singleton];omega,mS fun y hy=>?_⟩
        rcases List.mem_append.mp hy with hy | hy
        · rcases List.mem_append.mp hy with hy | hy
          · exact(j7 hf.2 (List.mem_of_mem_take hy)).mono (by omega)
          · rw[List.mem_singleton.mp hy];exact AH (n:=2001) (by omega)
        · exact(j7 hf.2 (List.mem_of_mem_drop hy)).mono (by omega)
theorem Mw : ∀ (k j : Nat), k ≤ j → ∀ (T : MO) (n : Nat) (d : D) (W K : Nat), Fd n T → n + 8 * (k + 1) < 700000 → Good W K d → K ≤ 38 → sr 2000 d →
    ∃e T',kR (j+1) [.b T,.t d,.t (.int k)]=some (.t e,[T'])∧Good (W+1808) (max K (13+k)) e∧sr 2001 e∧Fd (n+8 * (k+1)) T':=by
  intro k
  induction k with
  | zero=>
    intro j _ T n d W K hT hn g hK hf
    exact vd (j:=j) (k:=0) hT (by omega) g hK hf (.inl ⟨.inr (.inr (by decide)),rfl⟩)
  | succ k ih =>
    intro j hj T n d W K hT hn g hK hf
    obtain⟨i,rfl⟩:∃i,j=i+1:=⟨j - 1,by omega⟩
    have hd:bZ d≤40:=by have:=g.dep;omega
    by_cases c:bU d=true∧d≠.tup []
    · obtain⟨ds,rfl⟩:∃ds,d= .tup ds:=by
        cases d with
        | tup ds=>exact⟨ds,rfl⟩
        | _=>cases c.1
      have hne:ds≠[]:=fun q=>c.2 (by rw[q])
      have dl:0 < (ds.length:Int):=by cases ds with | nil=>exact absurd rfl hne | cons _ _=>simp only[List.length_cons];omega
      have dl2:ds.length≤2000:=hf.1
      obtain⟨u,T1,p1,u0,u1,h1⟩:=cI (m:=4) hT (by omega) (by decide) (by decide)
      by_cases cu:0 < u
      · obtain⟨a,T2,p2,a0,a1,h2⟩:=cI (m:=(ds.length:Int)) h1 (by omega) dl (by omega)
        obtain⟨b,rfl⟩:∃b:Nat,a=b:=⟨a.toNat,by omega⟩
        have hb:b < ds.length:=by omega
        have hx:ds[b]? =some ds[b]:=List.getElem?_eq_getElem hb
        have hm:ds[b]∈ds:=List.getElem_mem hb
        generalize ds[b]=x at hx hm
        have s0:d9 ds:=g.jW
        have w0:kN ds+4≤W:=g.w
        have d0:bM ds+1≤K:=g.dep
        have ws:=GY hx
        have dx:=iG hm
        obtain⟨e,T3,p3,ge,fe,h3⟩:=ih i (by omega) T2 (n+1+1) x (wD x) (bZ x) h2 (by omega) ⟨s0.mem hm,Nat.le_refl _,Nat.le_refl _⟩ (by omega) (j7 hf.2 hm)
        have ek:(((k+1:Nat):Int) - 1)=(k:Int):=by omega
        have c1:=AS ds b
        have c2:=nN ds (b+1)
        have c2':L2.cutD ds (some ((b:Int)+1)) none=ds.drop (b+1):=c2
        have lt:(ds.take b).length≤2000:=by rw[List.length_take];omega
        have ld:(ds.drop (b+1)).length≤2000:=by rw[List.length_drop];omega
        have ge1:=ge.w
        have ge2:=ge.dep
        refine⟨_,T3,DU (o:=none) (f1:=cg) (f2:=kR (i+1)) (f3:=sS) (e:=.tup (ds.take b++[e]++ds.drop (b+1))) (r:=[some (.t (.int (b:Int))),none]) ?_,⟨?_,?_,?_⟩,?_,h3.mono (by omega)⟩
        · have e0:=Pg (f1:=cg) (f2:=kR (i+1)) (f3:=sS) (k:=((k+1:Nat):Int)) (ds:=ds) hd hne (by omega) p1 cu p2 (Sq.Jj (by omega) (by simpa using hx)) (by rw[ek];exact p3) (by rw[c1];omega) (by rw[c1,c2'];omega)
          rw[c1,c2'] at e0
          rw[Kc,bA,e0,Option.bind_some]
        · exact((d9.of fun y hy=>s0.mem (List.mem_of_mem_take hy)).append (show d9 [e] from⟨ge.jW,True.intro⟩)).append (d9.of fun y hy=>s0.mem (List.mem_of_mem_drop hy))
        · show kN _+4≤W+1808
          rw[g9,g9]
          show kN (ds.take b)+(wD e+2+0)+kN (ds.drop (b+1))+4≤_
          omega
        · show bM _+1≤_
          have q:bM (ds.take b++[e]++ds.drop (b+1))≤max (K - 1) (max (bZ x) (13+k)):=qx fun y hy=>by
            rcases List.mem_append.mp hy with hy | hy
            · rcases List.mem_append.mp hy with hy | hy
              · have:=iG (List.mem_of_mem_take hy);omega
              · rw[List.mem_singleton.mp hy];omega
            · have:=iG (List.mem_of_mem_drop hy);omega
          omega
        · refine⟨?_,mS fun y hy=>?_⟩
          · rw[List.length_append,List.length_append,List.length_take,List.length_drop,List.length_singleton];omega
          · rcases List.mem_append.mp hy with hy | hy
            · rcases List.mem_append.mp hy with hy | hy
              · exact(j7 hf.2 (List.mem_of_mem_take hy)).mono (by omega)
              · rw[List.mem_singleton.mp hy];exact fe
            · exact(j7 hf.2 (List.mem_of_mem_drop hy)).mono (by omega)
      · have:u=0:=by omega
        subst this
        exact vd (j:=i+1) (k:=k+1) hT (by omega) g hK hf (.inr ⟨c.1,c.2,by omega,T1,p1,h1⟩)
    · exact vd (j:=i+1) (k:=k+1) hT (by omega) g hK hf (.inl ⟨by
        by_cases q:bU d=true
        · exact .inr (.inl (Classical.byContradiction fun z=>c ⟨q,z⟩))
        · exact .inl (by cases h:bU d with | false=>rfl | true=>exact absurd h q),rfl⟩)
end Sd
end
section
set_option Elab.async false
set_option linter.all false
set_option maxRecDepth 100000
namespace Sd
open PySem PySem.Spec PyProof.Rows L2 Sw Ss
noncomputable def qI (cG:FM) (cj:FM) (bB:FM) (cz:FM) (bh:FM) (ah:FM) (bu:FM) (cV:FM):GS:=
 (aJ (bH 6 (aL bh (cy (aq 1) (aP (eF (aq 4)) (aP (eF (eP cK (aa (eC (.int 1)) (aa (eF (aL ah (cy (aq 1) (aP (eC (.int 6)) br)))) ak)))) br)))))
 (aJ (gQ (qB (eF (eP pS (aa (eF (aL ah (cy (aq 1) (aP (eC (.int 3)) br)))) (aa (eC (.int 0)) ak))))) (bH 6 (eP bf (aa (eF (eP bf (aa (eF (eP bf (aa (eF (aL bu (cy (aq 1) br))) (aa (eF (eP pS (aa (eF (aL ah (cy (aq 1) (aP (eC (.int 2)) br)))) (aa (eC (.int 1)) ak)))) ak)))) ak))) ak))) cS)
 (aJ (bH 7 (eP BY (aa (eF (aq 6)) ak)))
 (aJ (bH 8 (aL cz (aP (eF (aq 6)) br)))
 (gQ (oH (gM (qB (rZ ["bool"] (eF (aq 8))))) (oH (qB (eF (eP Bt (aa (eF (aq 8)) (aa (eF (aL cV (aP (eF (aq 6)) br))) ak))))) (qB (eF (eP Bt (aa (eF (eP BY (aa (eF (aq 6)) ak))) (aa (eF (aq 7)) ak))))))) (bR (eT (eC (.bl false)))) cS)))))
noncomputable def ve (cG:FM) (cj:FM) (bB:FM) (cz:FM) (bh:FM) (ah:FM) (bu:FM) (cV:FM):GS:=
 (aJ (bH 4 (aL bB (cy (aq 1) (aP (eF (aq 2)) br))))
 (aJ (gQ (qB (eF (eP uh (aa (eF (aL cz (aP (eF (aq 4)) br))) (aa (eC (.bl true)) ak))))) (bR (eT (eC (.bl false)))) cS)
 (iF (bName 5) (jJ (aa (eC (.int 4)) ak)) (qI cG cj bB cz bh ah bu cV))))
noncomputable def Cu (cG:FM) (cj:FM) (bB:FM) (cz:FM) (bh:FM) (ah:FM) (bu:FM) (cV:FM):GS:=
 (aJ (bH 1 (aL cG (cy (aq 0) br)))
 (aJ (bH 2 (aL cj (cy (aq 1) br)))
 (aJ (iF (bName 3) (jJ (aa (eC (.int 3)) ak)) (ve cG cj bB cz bh ah bu cV))
 (bR (eT (eQ (gC (qB (eF (eP qo (aa (eF (aL cz (aP (eF (eP bf ak)) br))) (aa (eC (.bl true)) ak))))) (gC (qB (eF (eP qo (aa (eF (aL cz (aP (eF (eP bf (aa (eF (eP bf ak)) ak))) br))) (aa (eC (.bl true)) ak))))) (qB (eF (eP qo (aa (eF (aL cz (aP (eF (eP dg ak)) br))) (aa (eC (.bl false)) ak)))))))))))))
noncomputable def YX (cG:FM) (cj:FM) (bB:FM) (cz:FM) (bh:FM) (ah:FM) (bu:FM) (cV:FM):GS:=
 (bH 1 (aL cG (cy (aq 0) br)))
noncomputable def YZ (cG:FM) (cj:FM) (bB:FM) (cz:FM) (bh:FM) (ah:FM) (bu:FM) (cV:FM):GS:=
 (bH 2 (aL cj (cy (aq 1) br)))
noncomputable def Y0 (cG:FM) (cj:FM) (bB:FM) (cz:FM) (bh:FM) (ah:FM) (bu:FM) (cV:FM):GS:=
 (iF (bName 3) (jJ (aa (eC (.int 3)) ak)) (ve cG cj bB cz bh ah bu cV))
noncomputable def Y3 (cG:FM) (cj:FM) (bB:FM) (cz:FM) (bh:FM) (ah:FM) (bu:FM) (cV:FM):GS:=
 (bR (eT (eQ (gC (qB (eF (eP qo (aa (eF (aL cz (aP (eF (eP bf ak)) br))) (aa (eC (.bl true)) ak))))) (gC (qB (eF (eP qo (aa (eF (aL cz (aP (eF (eP bf (aa (eF (eP bf ak)) ak))) br))) (aa (eC (.bl true)) ak))))) (qB (eF (eP qo (aa (eF (aL cz (aP (eF (eP dg ak)) br))) (aa (eC (.bl false)) ak))))))))))
theorem lw_eq (cG:FM) (cj:FM) (bB:FM) (cz:FM) (bh:FM) (ah:FM) (bu:FM) (cV:FM):Cu cG cj bB cz bh ah bu cV=aJ (YX cG cj bB cz bh ah bu cV) (aJ (YZ cG cj bB cz bh ah bu cV) (aJ (Y0 cG cj bB cz bh ah bu cV) (Y3 cG cj bB cz bh ah bu cV))):=rfl
section
variable {f1 f2 f3 f4 f5 f6 f7 f8:FM}{T0 T1 T2 T3 T4 T5:MO}{td sd e o:D}{v u t:Int}{b:Bool}{ns:List Int}{x3 x5 x6 x7 x8:Option U}
theorem Cv {d:D}(h:EX d):BY [d]=some (.t (.str (toPy d).shown)):=by show(if EX d then some (U.t (.str (toPy d).shown)) else none)=_;rw[if_pos h]
theorem Y4 (h6:jX x6=false) (h7:jX x7=false) (h8:jX x8=false) (p1:f6 [.b T0,.t (.int 6)]=some (.t (.int v),[T1])) (p2:f5 [.b T1,.t sd,.t (.int (1+v))]=some (.t e,[T2])) (p3:f6 [.b T2,.t (.int 3)]=some (.t (.int u),[T3])) (hu:¬u=0)
  (hr:EX e) (s1:f4 [.t e]=some (.t (.bl b),[])) (s2:f8 [.t e]=some (.t (.bl b),[])):
  qI f1 f2 f3 f4 f5 f6 f7 f8 [some (.s ns),some (.m T0),some (.t td),x3,some (.t sd),x5,x6,x7,x8]=some (.nx [some (.s ns),some (.m T3),some (.t td),x3,some (.t sd),x5,some (.t e),some (.t (.str (toPy e).shown)),some (.t (.bl b))]):=by
 have er:=Cv hr
 have e1:=lO (.bl b)
 have e2:=lO (.str (toPy e).shown)
 generalize (toPy e).shown=z at *
 simp[qI,-fX,dX,h6,h7,h8,p1,p2,p3,hu,er,s1,s2,bV,dj,p6,Bt,bZ,e1,e2]
noncomputable abbrev oW (o:D) (bb:Bool):D:=.tup [.tup [.tup [o,.bl bb]]]
theorem Y5 {bb:Bool}(h6:jX x6=false) (h7:jX x7=false) (h8:jX x8=false) (p1:f6 [.b T0,.t (.int 6)]=some (.t (.int v),[T1])) (p2:f5 [.b T1,.t sd,.t (.int (1+v))]=some (.t e,[T2])) (p3:f6 [.b T2,.t (.int 3)]=some (.t (.int 0),[T3]))
  (p4:f7 [.b T3]=some (.t o,[T4])) (p5:f6 [.b T4,.t (.int 2)]=some (.t (.int t),[T5])) (q:pS [.int t,.int 1]=some (.t (.bl bb)))
  (hr:EX (oW o bb)) (s1:f4 [.t (oW o bb)]=some (.t (.bl b),[])) (s2:f8 [.t (oW o bb)]=some (.t (.bl b),[])):
  qI f1 f2 f3 f4 f5 f6 f7 f8 [some (.s ns),some (.m T0),some (.t td),x3,some (.t sd),x5,x6,x7,x8]=some (.nx [some (.s ns),some (.m T5),some (.t td),x3,some (.t sd),x5,some (.t (oW o bb)),some (.t (.str (toPy (oW o bb)).shown)),some (.t (.bl b))]):=by
 have er:=Cv hr
 have e1:=lO (.bl b)
 have e2:=lO (.str (toPy (oW o bb)).shown)
 generalize (toPy (oW o bb)).shown=z at *
 simp only[oW] at *
 have z0:pS [.int 0,.int 0]=some (.t (.bl true)):=rfl
 simp[-LI,-Sv,qI,-fX,dX,h6,h7,h8,p1,p2,p3,p4,p5,q,z0,er,s1,s2,bV,dj,p6,Bt,bZ,e1,e2]
theorem Kf {x4:Option U}{S:SS}(h4:jX x4=false) (p1:f3 [.b T0,.t td]=some (.t sd,[T1])) (p2:f4 [.t sd]=some (.t (.bl true),[]))
  (e:loop (bName 5) (qI f1 f2 f3 f4 f5 f6 f7 f8) (jZ 0 4) [some (.s ns),some (.m T1),some (.t td),x3,some (.t sd),x5,x6,x7,x8]=some (.nx S)):
  ve f1 f2 f3 f4 f5 f6 f7 f8 [some (.s ns),some (.m T0),some (.t td),x3,x4,x5,x6,x7,x8]=some (.nx S):=by
 have er:=mR (g:=eC (.int 4)) (S:=[some (.s ns),some (.m T1),some (.t td),x3,some (.t sd),x5,x6,x7,x8]) (S':=[some (.s ns),some (.m T1),some (.t td),x3,some (.t sd),x5,x6,x7,x8]) (v:=4) rfl (by omega) (by omega)
 have s0:(bH 4 (aL f3 (cy (aq 1) (aP (eF (aq 2)) br)))) [some (.s ns),some (.m T0),some (.t td),x3,x4,x5,x6,x7,x8]=some (.nx [some (.s ns),some (.m T1),some (.t td),x3,some (.t sd),x5,x6,x7,x8]):=by simp[-fX,dX,h4,p1]
 have s1:(gQ (qB (eF (eP uh (aa (eF (aL f4 (aP (eF (aq 4)) br))) (aa (eC (.bl true)) ak))))) (bR (eT (eC (.bl false)))) cS) [some (.s ns),some (.m T1),some (.t td),x3,some (.t sd),x5,x6,x7,x8]=some (.nx [some (.s ns),some (.m T1),some (.t td),x3,some (.t sd),x5,x6,x7,x8]):=by
  have q:uh [.bl true,.bl true]=some (.t (.bl false)):=rfl
  simp[p2,q]
 unfold ve
 rw[bA,s0,Option.bind_some]
 simp only
 rw[bA,s1,Option.bind_some]
 simp only
 rw[iF,er,Option.bind_some]
 exact e
end
noncomputable abbrev KG {α:Type}(g:FM→FM→FM→FM→FM→FM→FM→FM→α):α:=g pO pC anyF pB (kR 7) cg sS xK
theorem Kg {d:D}{W K:Nat}(g:Good W K d) (hk:K≤38) (hf:sr 20000 d):Sm d:=⟨hf,by have:=g.dep;omega⟩
theorem Mx {T : MO} {n : Nat} {td sd : D} {ns : List Int} {x3 x5 x6 x7 x8 : Option U} (hT : Fd n T) (hn : n < 400000) (hs : Sn sd) (h5 : jX x5 = false) (h6 : jX x6 = false) (h7 : jX x7 = false) (h8 : jX x8 = false) :
    ∃T' x5' x6' J1 x8',loop (bName 5) (KG qI) (jZ 0 4) [some (.s ns),some (.m T),some (.t td),x3,some (.t sd),x5,x6,x7,x8]=some (.nx [some (.s ns),some (.m T'),some (.t td),x3,some (.t sd),x5',x6',J1,x8'])∧jX x5'=false∧jX x6'=false∧jX J1=false∧jX x8'=false∧Fd (n+280) T':=by
  obtain⟨st,sf,sg⟩:=hs.all
  obtain⟨S',e,T',y5,y6,y7,y8,rfl,b5,b6,b7,b8,hf⟩:=iW (bd:=bName 5) (body:=KG qI) (jZ 0 4) (fun j S=>∃(T':MO) (x5 x6 x7 x8:Option U),S=[some (.s ns),some (.m T'),some (.t td),x3,some (.t sd),x5,x6,x7,x8]∧jX x5=false∧jX x6=false∧jX x7=false∧jX x8=false∧Fd (n+70 * j) T')
    [some (.s ns),some (.m T),some (.t td),x3,some (.t sd),x5,x6,x7,x8] ⟨T,x5,x6,x7,x8,rfl,h5,h6,h7,h8,hT⟩ (by
      rintro j d S hd ⟨T0,x5,x6,x7,x8,rfl,b5,b6,b7,b8,hf⟩
      obtain⟨hj,rfl⟩:=lG hd
      obtain⟨v,T1,p1,v0,v1,f1⟩:=cI (m:=6) hf (by omega) (by decide) (by decide)
      obtain⟨k,hk⟩:∃k:Nat,(k:Int)=1+v:=⟨(1+v).toNat,by omega⟩
      obtain⟨e,T2,p2,ge,fe,f2⟩:=Mw k 6 (by omega) T1 (n+70 * j+1) sd 300000 9 f1 (by omega) sg (by omega) (sf.mono (by omega))
      rw[hk] at p2
      obtain⟨u,T3,p3,u0,u1,f3⟩:=cI (m:=3) f2 (by omega) (by decide) (by decide)
      by_cases c:u=0
      · subst c
        obtain⟨o,T4,p4,go,f4⟩:=DT f3 (by omega)
        obtain⟨t,T5,p5,t0,t1,f5⟩:=cI (m:=2) f4 (by omega) (by decide) (by decide)
        have q:pS [.int t,.int 1]=some (.t (.bl (jC (.int t) (.int 1)))):=rfl
        generalize jC (.int t) (.int 1)=bb at q
        have gw:=go.w
        have gd:=go.dep
        have g3:Good 3000 14 (oW o bb):=⟨⟨⟨⟨go.jW,True.intro,True.intro⟩,True.intro⟩,True.intro⟩,by show((wD o+2+(6+2+0)+4)+2+0+4)+2+0+4≤3000;omega,by show max (max (max (bZ o) (max 0 0)+1) 0+1) 0+1≤14;omega⟩
        have sm:=Kg g3 (by omega) (AH (by have:=g3.w;omega))
        exact⟨[some (.s ns),some (.m T0),some (.t td),x3,some (.t sd),some (.t (.int j)),x6,x7,x8],_,by simp[bName,-fX,dX,b5],Y5 b6 b7 b8 p1 p2 p3 p4 p5 q (g3.EX (by omega) (by omega)) (nT sm) (JK sm),T5,_,_,_,_,rfl,rfl,rfl,rfl,rfl,f5.mono (by omega)⟩
      · have sm:=Kg ge (by omega) (fe.mono (by omega))
        exact⟨[some (.s ns),some (.m T0),some (.t td),x3,some (.t sd),some (.t (.int j)),x6,x7,x8],_,by simp[bName,-fX,dX,b5],Y4 b6 b7 b8 p1 p2 p3 c (ge.EX (by omega) (by omega)) (nT sm) (JK sm),T3,_,_,_,_,rfl,rfl,rfl,rfl,rfl,f3.mono (by omega)⟩)
  have rl:(jZ 0 4).length=4:=by unfold jZ;rw[List.length_map,List.length_range]
  rw[rl] at hf
  exact⟨T',y5,y6,y7,y8,e,b5,b6,b7,b8,hf⟩
theorem Kh {T:MO}{n:Nat}{td:D}{ns:List Int}(hT:Fd n T) (hn:n < 300000) (ht:Tb td):
  ∃T' r,loop (bName 3) (KG ve) (jZ 0 3) [some (.s ns),some (.m T),some (.t td),none,none,none,none,none,none]=some (.nx (some (.s ns) :: some (.m T') :: some (.t td) :: r))∧r.length=6:=by
 obtain⟨S',e,T',y3,y4,y5,y6,y7,y8,rfl,_⟩:=iW (bd:=bName 3) (body:=KG ve) (jZ 0 3) (fun j S=>∃(T':MO) (x3 x4 x5 x6 x7 x8:Option U),S=[some (.s ns),some (.m T'),some (.t td),x3,x4,x5,x6,x7,x8]∧jX x3=false∧jX x4=false∧jX x5=false∧jX x6=false∧jX x7=false∧jX x8=false∧Fd (n+880 * j) T')
  [some (.s ns),some (.m T),some (.t td),none,none,none,none,none,none] ⟨T,none,none,none,none,none,none,rfl,rfl,rfl,rfl,rfl,rfl,rfl,hT⟩ (by
   rintro j d S hd ⟨T0,x3,x4,x5,x6,x7,x8,rfl,b3,b4,b5,b6,b7,b8,hf⟩
   obtain⟨hj,rfl⟩:=lG hd
   obtain⟨sd,T1,p1,hs,f1⟩:=Pd hf (by omega) ht
   obtain⟨st,sf,sg⟩:=hs.all
   have sm:=Kg sg (by omega) (sf.mono (by omega))
   have p2:=nT sm
   rw[st] at p2
   obtain⟨T2,y5,y6,y7,y8,e,c5,c6,c7,c8,f2⟩:=Mx (td:=td) (sd:=sd) (ns:=ns) (x3:=some (.t (.int j))) (x5:=x5) (x6:=x6) (x7:=x7) (x8:=x8) f1 (by omega) hs b5 b6 b7 b8
   exact⟨[some (.s ns),some (.m T0),some (.t td),some (.t (.int j)),x4,x5,x6,x7,x8],_,by simp[bName,-fX,dX,b3],Kf b4 p1 p2 e,T2,_,_,y5,y6,y7,y8,rfl,rfl,rfl,c5,c6,c7,c8,f2.mono (by omega)⟩)
 exact⟨T',[y3,y4,y5,y6,y7,y8],e,rfl⟩
theorem Kl {S:SS}:Y3 pO pC anyF pB (kR 7) cg sS xK S=some (.rt (.t (.bl true)) S):=by
 have s1:=nT (d:=.tup []) ⟨⟨(by show 0≤20000;omega),True.intro⟩,by decide⟩
 have s2:=nT (d:=.tup [.tup []]) ⟨⟨(by show 1≤20000;omega),⟨(by show 0≤20000;omega),True.intro⟩,True.intro⟩,by decide⟩
 have s3:=nT (d:=.lst []) ⟨⟨(by show 0≤20000;omega),True.intro⟩,by decide⟩
 have t1:qF (.tup [])=true:=rfl
 have t2:qF (.tup [.tup []])=true:=rfl
 have t3:qF (.lst [])=false:=rfl
 rw[t1] at s1
 rw[t2] at s2
 rw[t3] at s3
 have q1:qo [.bl true,.bl true]=some (.t (.bl true)):=rfl
 have q2:qo [.bl false,.bl false]=some (.t (.bl true)):=rfl
 generalize pB=f at *
 simp[Y3,s1,s2,s3,q1,q2]
theorem GZ:∀us r,DE 63 us=some r→aQ 9 (KG Cu) us=some r:=by
 intro us r h
 unfold DE at h
 split at h
 ·rename_i ns
  obtain⟨hl,rfl⟩:=cX h
  obtain⟨T,p1,h1⟩:=L5 ns
  obtain⟨td,T1,p2,ht,h2⟩:=JV h1 (by omega)
  obtain⟨T2,r,e,hr⟩:=Kh (ns:=ns) h2 (by omega) ht
  show((KG Cu) [some (.s ns),none,none,none,none,none,none,none,none]).bind _=_
  simp only[KG]
  have s0:YX pO pC anyF pB (kR 7) cg sS xK [some (.s ns),none,none,none,none,none,none,none,none]=some (.nx [some (.s ns),some (.m T),none,none,none,none,none,none,none]):=by
   generalize pO=f at *
   simp[YX,p1]
  have s1:YZ pO pC anyF pB (kR 7) cg sS xK [some (.s ns),some (.m T),none,none,none,none,none,none,none]=some (.nx [some (.s ns),some (.m T1),some (.t td),none,none,none,none,none,none]):=by
   generalize pC=f at *
   simp[YZ,p2]
  have s2:Y0 pO pC anyF pB (kR 7) cg sS xK [some (.s ns),some (.m T1),some (.t td),none,none,none,none,none,none]=some (.nx (some (.s ns) :: some (.m T2) :: some (.t td) :: r)):=by
   have er:=mR (g:=eC (.int 3)) (S:=[some (.s ns),some (.m T1),some (.t td),none,none,none,none,none,none]) (S':=[some (.s ns),some (.m T1),some (.t td),none,none,none,none,none,none]) (v:=3) rfl (by omega) (by omega)
   unfold Y0
   rw[iF,er,Option.bind_some]
   exact e
  rw[lw_eq,bA,s0,Option.bind_some]
  simp only
  rw[bA,s1,Option.bind_some]
  simp only
  rw[bA,s2,Option.bind_some]
  simp only
  rw[Kl]
  simp[aE]
 ·cases h
theorem G0 (us:List U):lB 0 us=none:=rfl
theorem DV (us:List U):kR 0 us=none:=rfl
theorem Cw (us:List U):lA 0 us=none:=rfl
theorem G1 (us:List U):xC 0 us=none:=rfl
theorem DW (us:List U):qA 0 us=none:=rfl
end Sd
end
section
set_option Elab.async false
set_option linter.all false
set_option maxRecDepth 100000
namespace K19
open PySem PySem.Spec PyProof.Rows L2
def top (i:Nat):Stmt:=PySem.Challenge.pw_surewatch_k19_what_is_a_stand.main.body.getD i (.Pass ⟨0,0,0,0⟩)
open L2 Sw Ss Sd
noncomputable abbrev j8:Stmt:=top 3
theorem Cy:cE ["thing","least","most"] ["thing","least","most"] (aH j8):=⟨rfl,rfl,rfl,by decide +kernel,rfl,by decide +kernel,by decide +kernel⟩
theorem Cz {P:Program}{w:World}{K:PySem.W.Frag}{mg:Str→Option Value}{base:Heap}{f:Addr}{fd:FuncData}{n:Nat}{fm:FM}(F:pQ K "is_whole" "is_whole" j8 f fd) (aI:mg "isinstance" =none) (G2:mg "int" =none) (mj:mg "bool" =none)
  (hf:∀us r,fm us=some r→aQ 3 (oO) us=some r):bT P w K mg base ff (n+1) f fd ["thing","least","most"] (spT K 3 fm):=
 sL (g:=oO) F Cy (fun cdv A outer s H E hr=>(aD (cY (JW.t (gU (fC (d7 (cL rfl aI rfl G2 PyProof.Rows.Boot.int (JE.d (ao 0))))) (dQ (d7 (cL rfl aI rfl mj PyProof.Rows.Boot.bool (JE.d (ao 0))))))) (aU (bw (JD.e gT))) cA)
  (aU (bw (JD.e (iP (JE.d (gB p9 (JE.d (ao 1)) (JE.d (ao 0)))) (jH (JE.d (gB p9 (JE.d (ao 0)) (JE.d (ao 2))))))))))) hf
noncomputable abbrev j9:Stmt:=top 4
theorem CA:cE ["thing","least","most"] ["thing","least","most"] (aH j9):=⟨rfl,rfl,rfl,by decide +kernel,rfl,by decide +kernel,by decide +kernel⟩
theorem CB {P:Program}{w:World}{K:PySem.W.Frag}{mg:Str→Option Value}{base:Heap}{f:Addr}{fd:FuncData}{n:Nat}{fm:FM}(F:pQ K "is_tuple" "is_tuple" j9 f fd) (aI:mg "isinstance" =none) (dB:mg "tuple" =none) (dO:mg "len" =none)
  (hf:∀us r,fm us=some r→aQ 3 (oR) us=some r):bT P w K mg base ff (n+1) f fd ["thing","least","most"] (spT K 3 fm):=
 sL (g:=oR) F CA (fun cdv A outer s H E hr=>(aU (bw (JD.e (iP (cL rfl aI rfl dB PyProof.Rows.Boot.tuple (JE.d (ao 0))) (iP (JE.d (gB p9 (JE.d (ao 1)) (fh (i:=0) rfl dO))) (jH (JE.d (gB p9 (fh (i:=0) rfl dO) (JE.d (ao 2))))))))))) hf
noncomputable abbrev lK:Stmt:=top 5
theorem DX:cE ["thing"] ["thing"] (aH lK):=⟨rfl,rfl,rfl,by decide +kernel,rfl,by decide +kernel,by decide +kernel⟩
theorem DY {P:Program}{w:World}{K:PySem.W.Frag}{mg:Str→Option Value}{base:Heap}{f:Addr}{fd:FuncData}{n:Nat}{fm:FM}(F:pQ K "is_name" "is_name" lK f fd) (aI:mg "isinstance" =none) (r9:mg "str" =none) (dO:mg "len" =none) (wc:mg "all" =none){m6:Tok}(m8:mg "LONGEST_NAME" =some (.int 8 m6)){xR:Tok}(xS:mg "LETTERS" =some (.str "abcdefghijklmnopqrstuvwxyz" xR))
  (hf:∀us r,fm us=some r→aQ 1 (j4) us=some r):bT P w K mg base ff (n+1) f fd ["thing"] (spT K 1 fm):=
 sL (g:=j4) F DX (fun cdv A outer s H E hr=>(aD (cY (JW.t (gU (fC (d7 (cL rfl aI rfl r9 PyProof.Rows.Boot.str (JE.d (ao 0))))) (gU (bO p8 (fh (i:=0) rfl dO) au) (dQ (bO mW (fh (i:=0) rfl dO) (rG rfl m8)))))) (aU (bw (JD.e gT))) cA)
  (aU (bw (fV (rE rfl) rfl wc PyProof.Rows.Boot.all (aj (JE.d (jL (fS (by decide) (by decide) rfl (by decide) rfl) rfl (iQ (JE.d (ao 0))) (fun _ _ _ _=>jK) (fun _ _ _ _=>(JE.d (gB (lT hr.units) (JE.d (ao 0)) (Lw rfl xS) (by with_unfolding_all rfl)))))) aA)))))) hf
noncomputable abbrev fG:Stmt:=top 8
theorem vf:cE ["thing","bound"] ["thing","bound"] (aH fG):=⟨rfl,rfl,rfl,by decide +kernel,rfl,by decide +kernel,by decide +kernel⟩
theorem vg {P:Program}{w:World}{K:PySem.W.Frag}{mg:Str→Option Value}{base:Heap}{f:Addr}{fd:FuncData}{n:Nat}{fm:FM}(F:pQ K "is_test_among" "is_test_among" fG f fd) (dO:mg "len" =none){kg:Tok}(kh:mg "GREATEST_NUMBER" =some (.int 9 kg))
  {gg:Addr}{ju:FuncData}{dD:FM}(nU:bT P w K mg base ff n gg ju ["thing","least","most"] (spT K 3 dD)) (nW:Binds K ju ["thing","least","most"] []) (nX:PySem.W.keepIn K (.ref gg)=true) (nY:mg "is_tuple" =some (.ref gg))
  {mq:Addr}{qJ:FuncData}{gO:FM}(uz:bT P w K mg base ff n mq qJ ["thing"] (spT K 1 gO)) (uA:Binds K qJ ["thing"] []) (uB:PySem.W.keepIn K (.ref mq)=true) (uC:mg "is_name" =some (.ref mq))
  {ki:Addr}{nZ:FuncData}{fY:FM}(vh:bT P w K mg base ff n ki nZ ["thing","least","most"] (spT K 3 fY)) (vj:Binds K nZ ["thing","least","most"] []) (vm:PySem.W.keepIn K (.ref ki)=true) (vn:mg "is_whole" =some (.ref ki))
  (hf:∀us r,fm us=some r→aQ 2 (cJ dD gO fY) us=some r):bT P w K mg base ff (n+1) f fd ["thing","bound"] (spT K 2 fm):=
 sL (g:=cJ dD gO fY) F vf (fun cdv A outer s H E hr=>(aD (cY (fC (d7 (JE.d (aK nU hr rfl nY nX nW (aF (JE.d (ao 0)) (aF au (aF au aV))))))) (aU (bw (JD.e gT))) cA)
  (aD (cY (bO (fU hr.units) (fh (i:=0) rfl dO) au) (aU (bw (gB (fU hr.units) (bq (i:=0) (bG hr) au (fun _ _=>rfl)) aC))) cA)
  (aD (cY (bO (fU hr.units) (bq (i:=0) (bG hr) au (fun _ _=>rfl)) aC) (aU (bw (aK uz hr rfl uC uB uA (aF (bq (i:=0) (bG hr) au (fun _ _=>rfl)) aV)))) cA)
  (aU (bw (JD.e (iP (JE.d (gB (lT hr.units) (bq (i:=0) (bG hr) au (fun _ _=>rfl)) (JE.d (aT (aj aC (aj aC (aj aC aA))))) (by with_unfolding_all rfl))) (jH (MM (JE.d (aK vh hr rfl vn vm vj (aF (bq (i:=0) (bG hr) au (fun _ _=>rfl)) (aF au (aF (rG rfl kh) aV))))) (jH (JE.d (gB (lT hr.units) (bq (i:=0) (bG hr) au (fun _ _=>rfl)) (JE.d (ao 1)) (by with_unfolding_all rfl)))))))))))))) hf
noncomputable abbrev kj:Stmt:=top 18
theorem CC:cE ["saying"] ["saying"] (aH kj):=⟨rfl,rfl,rfl,by decide +kernel,rfl,by decide +kernel,by decide +kernel⟩
theorem CD {P:Program}{w:World}{K:PySem.W.Frag}{mg:Str→Option Value}{base:Heap}{f:Addr}{fd:FuncData}{n:Nat}{fm:FM}(F:pQ K "parts_of" "parts_of" kj f fd){rM:Addr}(AV:mg "STARTS" =some (.ref rM)) (AW:KTab P w K rM [("yes",1),("no",1),("now",2),("not",1),("both",1),("either",1),("next",1),("till",1),("within",2),("always",1),("some",1),("each",3),("one",3)])
  (hf:∀us r,fm us=some r→aQ 1 (lX) us=some r):bT P w K mg base ff (n+1) f fd ["saying"] (spT K 1 fm):=
 sL (g:=lX) F CC (fun cdv A outer s H E hr=>(aU (bw (g8 (JE.d (ao 0)) (i8 (Ol rfl AV AW (bq (i:=0) (bG hr) au (fun _ _=>rfl)))) iZ)))) hf
noncomputable abbrev gj:Stmt:=top 19
theorem we:cE ["saying","bound"] ["saying","bound"] (aH gj):=⟨rfl,rfl,rfl,by decide +kernel,rfl,by decide +kernel,by decide +kernel⟩
theorem wg {P:Program}{w:World}{K:PySem.W.Frag}{mg:Str→Option Value}{base:Heap}{f:Addr}{fd:FuncData}{n:Nat}{fm:FM}(F:pQ K "bound_within" "bound_within" gj f fd){iA:Addr}(jQ:mg "BINDERS" =some (.ref iA)) (jR:AA K iA ["each","one"])
  (hf:∀us r,fm us=some r→aQ 2 (fZ) us=some r):bT P w K mg base ff (n+1) f fd ["saying","bound"] (spT K 2 fm):=
 sL (g:=fZ) F we (fun cdv A outer s H E hr=>(aD (cY (DA hr.units rfl jQ jR (bq (i:=0) (bG hr) au (fun _ _=>rfl))) (aU (bw (bX cH (JE.d (ao 1)) (JE.d (aT (aj (bq (i:=0) (bG hr) au (fun _ _=>rfl)) aA)))))) cA)
  (aU (bw (ao 1))))) hf
noncomputable abbrev jv:Stmt:=top 20
theorem uD:cE ["thing","bound","head"] ["thing","bound"] (aH jv):=⟨rfl,rfl,rfl,by decide +kernel,rfl,by decide +kernel,by decide +kernel⟩
theorem AX {P:Program}{w:World}{K:PySem.W.Frag}{mg:Str→Option Value}{base:Heap}{f:Addr}{fd:FuncData}{n:Nat}{fm:FM}(F:pQ K "is_shaped" "is_shaped" jv f fd) (aI:mg "isinstance" =none) (r9:mg "str" =none) (dO:mg "len" =none){oh:Addr}(xT:mg "LENGTHS" =some (.ref oh)) (xU:KTab P w K oh [("yes",1),("no",1),("now",2),("not",2),("both",3),("either",3),("next",2),("till",3),("within",3),("always",2),("some",2),("each",4),("one",4)]){kq:Tok}(kr:mg "GREATEST_WITHIN" =some (.int 5 kq)){iA:Addr}(jQ:mg "BINDERS" =some (.ref iA)) (jR:AA K iA ["each","one"])
  {gg:Addr}{ju:FuncData}{dD:FM}(nU:bT P w K mg base ff n gg ju ["thing","least","most"] (spT K 3 dD)) (nW:Binds K ju ["thing","least","most"] []) (nX:PySem.W.keepIn K (.ref gg)=true) (nY:mg "is_tuple" =some (.ref gg))
  {mw:Addr}{qK:FuncData}{ia:FM}(xV:bT P w K mg base ff n mw qK ["thing","bound"] (spT K 2 ia)) (xW:Binds K qK ["thing","bound"] []) (xX:PySem.W.keepIn K (.ref mw)=true) (xY:mg "is_test_among" =some (.ref mw))
  {ki:Addr}{nZ:FuncData}{fY:FM}(vh:bT P w K mg base ff n ki nZ ["thing","least","most"] (spT K 3 fY)) (vj:Binds K nZ ["thing","least","most"] []) (vm:PySem.W.keepIn K (.ref ki)=true) (vn:mg "is_whole" =some (.ref ki))
  {mq:Addr}{qJ:FuncData}{gO:FM}(uz:bT P w K mg base ff n mq qJ ["thing"] (spT K 1 gO)) (uA:Binds K qJ ["thing"] []) (uB:PySem.W.keepIn K (.ref mq)=true) (uC:mg "is_name" =some (.ref mq))
  (hf:∀us r,fm us=some r→aQ 3 (cR dD ia fY gO) us=some r):bT P w K mg base ff (n+1) f fd ["thing","bound"] (spT K 2 fm):=
 sL (g:=cR dD ia fY gO) F uD (fun cdv A outer s H E hr=>(aD (cY (JW.t (gU (fC (d7 (JE.d (aK nU hr rfl nY nX nW (aF (JE.d (ao 0)) (aF au (aF au aV))))))) (dQ (fC (d7 (cL rfl aI rfl r9 PyProof.Rows.Boot.str (bq (i:=0) (bG hr) au (fun _ _=>rfl)))))))) (aU (bw (JD.e gT))) cA)
  (aD (bF (i:=2) uD.nd rfl (by first | exact Or.inl rfl | exact Or.inr rfl) (JD.e (bq (i:=0) (bG hr) au (fun _ _=>rfl))))
  (aD (cY (bO (mY hr.units) (Gh rfl xT xU (JE.d (ao 2)) au) (fh (i:=0) rfl dO)) (aU (bw (JD.e gT))) cA)
  (aD (cY (bO (fU hr.units) (JE.d (ao 2)) aC) (aU (bw (aK xV hr rfl xY xX xW (aF (bq (i:=0) (bG hr) au (fun _ _=>rfl)) (aF (JE.d (ao 1)) aV))))) cA)
  (aD (cY (bO (fU hr.units) (JE.d (ao 2)) aC) (aU (bw (aK vh hr rfl vn vm vj (aF (bq (i:=0) (bG hr) au (fun _ _=>rfl)) (aF au (aF (rG rfl kr) aV)))))) cA)
  (aD (cY (DA hr.units rfl jQ jR (JE.d (ao 2))) (aU (bw (JD.e (iP (JE.d (aK uz hr rfl uC uB uA (aF (bq (i:=0) (bG hr) au (fun _ _=>rfl)) aV))) (jH (JE.d (aK uz hr rfl uC uB uA (aF (bq (i:=0) (bG hr) au (fun _ _=>rfl)) aV)))))))) cA)
  (aU (bw (JD.e gT)))))))))) hf
noncomputable abbrev fP:Stmt:=top 21
theorem uE:cE ["thing","bound","room","inner"] ["thing","bound","room"] (aH fP):=⟨rfl,rfl,rfl,by decide +kernel,rfl,by decide +kernel,by decide +kernel⟩
theorem AY {P:Program}{w:World}{K:PySem.W.Frag}{mg:Str→Option Value}{base:Heap}{f:Addr}{fd:FuncData}{n:Nat}{fm:FM}(F:pQ K "is_formed" "is_formed" fP f fd) (wc:mg "all" =none)
  {sU:Addr}{xZ:FuncData}{lY:FM}(DZ:bT P w K mg base ff n sU xZ ["thing","bound"] (spT K 2 lY)) (D0:Binds K xZ ["thing","bound"] []) (D3:PySem.W.keepIn K (.ref sU)=true) (D4:mg "is_shaped" =some (.ref sU))
  {m9:Addr}{sD:FuncData}{iX:FM}(yR:bT P w K mg base ff n m9 sD ["saying","bound"] (spT K 2 iX)) (yS:Binds K sD ["saying","bound"] []) (yT:PySem.W.keepIn K (.ref m9)=true) (yU:mg "bound_within" =some (.ref m9))
  {ku:Addr}{oq:FuncData}{eZ:FM}(vo:bT P w K mg base ff n ku oq ["saying"] (spT K 1 eZ)) (vp:Binds K oq ["saying"] []) (vq:PySem.W.keepIn K (.ref ku)=true) (vt:mg "parts_of" =some (.ref ku))
  {jf:Addr}{mz:FuncData}{fq:FM}(sV:bT P w K mg base ff n jf mz ["thing","bound","room"] (spT K 3 fq)) (sW:Binds K mz ["thing","bound","room"] []) (sX:PySem.W.keepIn K (.ref jf)=true) (sY:mg "is_formed" =some (.ref jf))
  (hf:∀us r,fm us=some r→aQ 4 (fK lY iX eZ fq) us=some r):bT P w K mg base ff (n+1) f fd ["thing","bound","room"] (spT K 3 fm):=
 sL (g:=fK lY iX eZ fq) F uE (fun cdv A outer s H E hr=>(aD (cY (JW.t (gU (bO (fU hr.units) (JE.d (ao 2)) au) (dQ (fC (d7 (JE.d (aK DZ hr rfl D4 D3 D0 (aF (JE.d (ao 0)) (aF (JE.d (ao 1)) aV))))))))) (aU (bw (JD.e gT))) cA)
  (aD (bF (i:=3) uE.nd rfl (by first | exact Or.inl rfl | exact Or.inr rfl) (aK yR hr rfl yU yT yS (aF (JE.d (ao 0)) (aF (JE.d (ao 1)) aV))))
  (aU (bw (fV (rE rfl) rfl wc PyProof.Rows.Boot.all (aj (JE.d (jL (Dz (eY:=["inner","room"]) (cap:=[3,2]) rfl (by decide) rfl (by decide) rfl rfl (by decide) (by first | exact Or.inl rfl | exact Or.inr rfl) (by decide) rfl rfl rfl) rfl (iQ (JE.d (aK vo hr rfl vt vq vp (aF (JE.d (ao 0)) aV)))) (fun _ _ _ _=>jK) (fun _ _ _ _=>(JE.d (aK sV hr rfl sY sX sW (aF (JE.d (ao 0)) (aF (JE.d (ao 1)) (aF (JE.d (bX jI (JE.d (ao 2)) au)) aV)))))))) aA))))))) hf
noncomputable abbrev jS:Stmt:=top 22
theorem vv:cE ["saying","found","part"] ["saying"] (aH jS):=⟨rfl,rfl,rfl,by decide +kernel,rfl,by decide +kernel,by decide +kernel⟩
theorem G3 {P:Program}{w:World}{K:PySem.W.Frag}{mg:Str→Option Value}{base:Heap}{f:Addr}{fd:FuncData}{n:Nat}{fm:FM}(F:pQ K "all_in" "all_in" jS f fd)
  {ku:Addr}{oq:FuncData}{eZ:FM}(vo:bT P w K mg base ff n ku oq ["saying"] (spT K 1 eZ)) (vp:Binds K oq ["saying"] []) (vq:PySem.W.keepIn K (.ref ku)=true) (vt:mg "parts_of" =some (.ref ku))
  {jT:Addr}{mT:FuncData}{eB:FM}(uF:bT P w K mg base ff n jT mT ["saying"] (spT K 1 eB)) (uG:Binds K mT ["saying"] []) (uH:PySem.W.keepIn K (.ref jT)=true) (uI:mg "all_in" =some (.ref jT))
  (hf:∀us r,fm us=some r→aQ 3 (qC eZ eB) us=some r):bT P w K mg base ff (n+1) f fd ["saying"] (spT K 1 fm):=
 sL (g:=qC eZ eB) F vv (fun cdv A outer s H E hr=>(aD (bF (i:=1) vv.nd rfl (by first | exact Or.inl rfl | exact Or.inr rfl) (cT (aj (JE.d (ao 0)) aA)))
  (aD (lq PassesOwn.never rfl (iQ (JE.d (aK vo hr rfl vt vq vp (aF (JE.d (ao 0)) aV)))) (gD (i:=2) vv.nd rfl (by first | exact Or.inl rfl | exact Or.inr rfl)) (aU (rq (JD.e (rA (i:=1) PySem.F.slot_list_extend PySem.F.type_list_extend Dy Ge Gf (aj (JE.d (aK uF hr rfl uI uH uG (aF (JE.d (ao 2)) aV))) aA))))))
  (aU (bw (ao 1)))))) hf
noncomputable abbrev iI:Stmt:=top 23
theorem yV:cE ["saying"] ["saying"] (aH iI):=⟨rfl,rfl,rfl,by decide +kernel,rfl,by decide +kernel,by decide +kernel⟩
theorem yW {P:Program}{w:World}{K:PySem.W.Frag}{mg:Str→Option Value}{base:Heap}{f:Addr}{fd:FuncData}{n:Nat}{fm:FM}(F:pQ K "binders_in" "binders_in" iI f fd) (dO:mg "len" =none){iA:Addr}(jQ:mg "BINDERS" =some (.ref iA)) (jR:AA K iA ["each","one"])
  {jT:Addr}{mT:FuncData}{eB:FM}(uF:bT P w K mg base ff n jT mT ["saying"] (spT K 1 eB)) (uG:Binds K mT ["saying"] []) (uH:PySem.W.keepIn K (.ref jT)=true) (uI:mg "all_in" =some (.ref jT))
  (hf:∀us r,fm us=some r→aQ 1 (jO eB) us=some r):bT P w K mg base ff (n+1) f fd ["saying"] (spT K 1 fm):=
 sL (g:=jO eB) F yV (fun cdv A outer s H E hr=>(aU (bw (fV uS rfl dO PySem.boot_len (aj (JE.d (jL (fS (by decide) (by decide) rfl (by decide) rfl) rfl (iQ (JE.d (aK uF hr rfl uI uH uG (aF (JE.d (ao 0)) aV)))) (fun _ _ _ _=>(EV (DA hr.units rfl jQ jR (bq (i:=0) (bG hr) au (fun _ _=>rfl))))) (fun _ _ _ _=>(JE.d (ao 0))))) aA))))) hf
noncomputable abbrev jw:Stmt:=top 24
theorem AZ:cE ["thing"] ["thing"] (aH jw):=⟨rfl,rfl,rfl,by decide +kernel,rfl,by decide +kernel,by decide +kernel⟩
theorem A0 {P:Program}{w:World}{K:PySem.W.Frag}{mg:Str→Option Value}{base:Heap}{f:Addr}{fd:FuncData}{n:Nat}{fm:FM}(F:pQ K "is_saying" "is_saying" jw f fd){pF:Tok}(pG:mg "MOST_WITHIN" =some (.int 8 pF)){ng:Tok}(nh:mg "MOST_SAYINGS" =some (.int 16 ng)){ni:Tok}(nj:mg "MOST_BINDERS" =some (.int 3 ni))
  {jf:Addr}{mz:FuncData}{fq:FM}(sV:bT P w K mg base ff n jf mz ["thing","bound","room"] (spT K 3 fq)) (sW:Binds K mz ["thing","bound","room"] []) (sX:PySem.W.keepIn K (.ref jf)=true) (sY:mg "is_formed" =some (.ref jf))
  {Km:Addr}{M4:FuncData}{Cg:FM}(TX:bT P w K mg base ff n Km M4 ["saying"] (spT K 1 Cg)) (bsize:Binds K M4 ["saying"] []) (TY:PySem.W.keepIn K (.ref Km)=true) (TZ:mg "size" =some (.ref Km))
  {qL:Addr}{vU:FuncData}{kO:FM}(CF:bT P w K mg base ff n qL vU ["saying"] (spT K 1 kO)) (CG:Binds K vU ["saying"] []) (CH:PySem.W.keepIn K (.ref qL)=true) (CI:mg "binders_in" =some (.ref qL))
  (hf:∀us r,fm us=some r→aQ 1 (gz fq Cg kO) us=some r):bT P w K mg base ff (n+1) f fd ["thing"] (spT K 1 fm):=
 sL (g:=gz fq Cg kO) F AZ (fun cdv A outer s H E hr=>(aD (cY (fC (d7 (JE.d (aK sV hr rfl sY sX sW (aF (JE.d (ao 0)) (aF (JE.d (aT aA)) (aF (rG rfl pG) aV))))))) (aU (bw (JD.e gT))) cA)
  (aU (bw (JD.e (iP (JE.d (gB p9 (JE.d (aK TX hr rfl TZ TY bsize (aF (JE.d (ao 0)) aV))) (rG rfl nh))) (jH (JE.d (gB p9 (JE.d (aK CF hr rfl CI CH CG (aF (JE.d (ao 0)) aV))) (rG rfl nj)))))))))) hf
noncomputable abbrev kB:Stmt:=top 25
theorem CJ:cE ["thing"] ["thing"] (aH kB):=⟨rfl,rfl,rfl,by decide +kernel,rfl,by decide +kernel,by decide +kernel⟩
theorem CK {P:Program}{w:World}{K:PySem.W.Frag}{mg:Str→Option Value}{base:Heap}{f:Addr}{fd:FuncData}{n:Nat}{fm:FM}(F:pQ K "is_basic" "is_basic" kB f fd){uJ:Addr}(A7:mg "BASICS" =some (.ref uJ)) (A8:AA K uJ ["now","next","till","within","always","some","each","one"])
  {sZ:Addr}{x9:FuncData}{mh:FM}(D5:bT P w K mg base ff n sZ x9 ["thing"] (spT K 1 mh)) (D6:Binds K x9 ["thing"] []) (D7:PySem.W.keepIn K (.ref sZ)=true) (D8:mg "is_saying" =some (.ref sZ))
  (hf:∀us r,fm us=some r→aQ 1 (iu mh) us=some r):bT P w K mg base ff (n+1) f fd ["thing"] (spT K 1 fm):=
 sL (g:=iu mh) F CJ (fun cdv A outer s H E hr=>(aU (bw (JD.e (iP (JE.d (aK D5 hr rfl D8 D7 D6 (aF (JE.d (ao 0)) aV))) (jH (Oo hr.units rfl A7 A8 (bq (i:=0) (bG hr) au (fun _ _=>rfl))))))))) hf
noncomputable abbrev vA:Stmt:=top 26
theorem My:cE ["saying"] ["saying"] (aH vA):=⟨rfl,rfl,rfl,by decide +kernel,rfl,by decide +kernel,by decide +kernel⟩
theorem Mz {P:Program}{w:World}{K:PySem.W.Frag}{mg:Str→Option Value}{base:Heap}{f:Addr}{fd:FuncData}{n:Nat}{fm:FM}(F:pQ K "size" "size" vA f fd) (dO:mg "len" =none)
  {jT:Addr}{mT:FuncData}{eB:FM}(uF:bT P w K mg base ff n jT mT ["saying"] (spT K 1 eB)) (uG:Binds K mT ["saying"] []) (uH:PySem.W.keepIn K (.ref jT)=true) (uI:mg "all_in" =some (.ref jT))
  (hf:∀us r,fm us=some r→aQ 1 (xE eB) us=some r):bT P w K mg base ff (n+1) f fd ["saying"] (spT K 1 fm):=
 sL (g:=xE eB) F My (fun cdv A outer s H E hr=>(aU (bw (fV uS rfl dO PySem.boot_len (aj (JE.d (aK uF hr rfl uI uH uG (aF (JE.d (ao 0)) aV))) aA))))) hf
noncomputable abbrev kC:Stmt:=top 28
theorem CL:cE ["thing"] ["thing"] (aH kC):=⟨rfl,rfl,rfl,by decide +kernel,rfl,by decide +kernel,by decide +kernel⟩
theorem CM {P:Program}{w:World}{K:PySem.W.Frag}{mg:Str→Option Value}{base:Heap}{f:Addr}{fd:FuncData}{n:Nat}{fm:FM}(F:pQ K "is_thing" "is_thing" kC f fd) (aI:mg "isinstance" =none) (mj:mg "bool" =none)
  {gg:Addr}{ju:FuncData}{dD:FM}(nU:bT P w K mg base ff n gg ju ["thing","least","most"] (spT K 3 dD)) (nW:Binds K ju ["thing","least","most"] []) (nX:PySem.W.keepIn K (.ref gg)=true) (nY:mg "is_tuple" =some (.ref gg))
  {vB:Addr}{zY:FuncData}{nP:FM}(G4:bT P w K mg base ff n vB zY ["thing"] (spT K 1 nP)) (G5:Binds K zY ["thing"] []) (G6:PySem.W.keepIn K (.ref vB)=true) (G7:mg "is_basic" =some (.ref vB))
  (hf:∀us r,fm us=some r→aQ 1 (iw dD nP) us=some r):bT P w K mg base ff (n+1) f fd ["thing"] (spT K 1 fm):=
 sL (g:=iw dD nP) F CL (fun cdv A outer s H E hr=>(aU (bw (JD.e (iP (JE.d (aK nU hr rfl nY nX nW (aF (JE.d (ao 0)) (aF au (aF au aV))))) (iP (cL rfl aI rfl mj PyProof.Rows.Boot.bool (bq (i:=0) (bG hr) au (fun _ _=>rfl))) (jH (JE.d (aK G4 hr rfl G7 G6 G5 (aF (bq (i:=0) (bG hr) au (fun _ _=>rfl)) aV)))))))))) hf
noncomputable abbrev kD:Stmt:=top 29
theorem CN:cE ["thing"] ["thing"] (aH kD):=⟨rfl,rfl,rfl,by decide +kernel,rfl,by decide +kernel,by decide +kernel⟩
theorem CO {P:Program}{w:World}{K:PySem.W.Frag}{mg:Str→Option Value}{base:Heap}{f:Addr}{fd:FuncData}{n:Nat}{fm:FM}(F:pQ K "is_bunch" "is_bunch" kD f fd) (aI:mg "isinstance" =none) (dB:mg "tuple" =none) (wc:mg "all" =none)
  {vC:Addr}{zZ:FuncData}{nQ:FM}(G8:bT P w K mg base ff n vC zZ ["thing"] (spT K 1 nQ)) (G9:Binds K zZ ["thing"] []) (Hf:PySem.W.keepIn K (.ref vC)=true) (Hg:mg "is_thing" =some (.ref vC))
  (hf:∀us r,fm us=some r→aQ 1 (jd nQ) us=some r):bT P w K mg base ff (n+1) f fd ["thing"] (spT K 1 fm):=
 sL (g:=jd nQ) F CN (fun cdv A outer s H E hr=>(aU (bw (JD.e (iP (cL rfl aI rfl dB PyProof.Rows.Boot.tuple (JE.d (ao 0))) (jH (JE.d (fV (rE rfl) rfl wc PyProof.Rows.Boot.all (aj (JE.d (jL (fS (by decide) (by decide) rfl (by decide) rfl) rfl (iQ (JE.d (ao 0))) (fun _ _ _ _=>jK) (fun _ _ _ _=>(JE.d (aK G8 hr rfl Hg Hf G9 (aF (JE.d (ao 0)) aV)))))) aA))))))))) hf
noncomputable abbrev kE:Stmt:=top 30
theorem CP:cE ["thing"] ["thing"] (aH kE):=⟨rfl,rfl,rfl,by decide +kernel,rfl,by decide +kernel,by decide +kernel⟩
theorem CQ {P:Program}{w:World}{K:PySem.W.Frag}{mg:Str→Option Value}{base:Heap}{f:Addr}{fd:FuncData}{n:Nat}{fm:FM}(F:pQ K "is_stand" "is_stand" kE f fd) (aI:mg "isinstance" =none) (dB:mg "tuple" =none) (wc:mg "all" =none)
  {vD:Addr}{z5:FuncData}{nR:FM}(Hh:bT P w K mg base ff n vD z5 ["thing"] (spT K 1 nR)) (Hi:Binds K z5 ["thing"] []) (Hj:PySem.W.keepIn K (.ref vD)=true) (Hl:mg "is_bunch" =some (.ref vD))
  (hf:∀us r,fm us=some r→aQ 1 (pA nR) us=some r):bT P w K mg base ff (n+1) f fd ["thing"] (spT K 1 fm):=
 sL (g:=pA nR) F CP (fun cdv A outer s H E hr=>(aU (bw (JD.e (iP (cL rfl aI rfl dB PyProof.Rows.Boot.tuple (JE.d (ao 0))) (jH (JE.d (fV (rE rfl) rfl wc PyProof.Rows.Boot.all (aj (JE.d (jL (fS (by decide) (by decide) rfl (by decide) rfl) rfl (iQ (JE.d (ao 0))) (fun _ _ _ _=>jK) (fun _ _ _ _=>(JE.d (aK Hh hr rfl Hl Hj Hi (aF (JE.d (ao 0)) aV)))))) aA))))))))) hf
noncomputable abbrev jx:Stmt:=top 32
theorem A9:cE ["_law_script"] ["_law_script"] (aH jx):=⟨rfl,rfl,rfl,by decide +kernel,rfl,by decide +kernel,by decide +kernel⟩
theorem Ba {P:Program}{w:World}{K:PySem.W.Frag}{mg:Str→Option Value}{base:Heap}{f:Addr}{fd:FuncData}{n:Nat}{fm:FM}(F:pQ K "_law_feed" "_law_feed" jx f fd) (uK:mg "list" =none)
  (hf:∀us r,fm us=some r→aQ 1 (Sd.gq) us=some r):bT P w K mg base ff (n+1) f fd ["_law_script"] (spT K 1 fm):=
 sL (g:=Sd.gq) F A9 (fun cdv A outer s H E hr=>(aU (bw (Ay (d8 (JE.d (lJ sM rfl uK PyProof.Rows.Boot.list (aj (JE.d (Gb (i:=0) iZ (i8 au))) aA))) (d8 au (d8 au Ax))))))) hf
noncomputable abbrev jy:Stmt:=top 33
theorem gF:cE ["_law_feed_here","_law_many","_law_found","_law_at","_law_cell","_law_number"] ["_law_feed_here","_law_many"] (aH jy):=⟨rfl,rfl,rfl,by decide +kernel,rfl,by decide +kernel,by decide +kernel⟩
theorem Bb {P:Program}{w:World}{K:PySem.W.Frag}{mg:Str→Option Value}{base:Heap}{f:Addr}{fd:FuncData}{n:Nat}{fm:FM}(F:pQ K "_law_draw" "_law_draw" jy f fd) (dO:mg "len" =none)
  (hf:∀us r,fm us=some r→aQ 6 (Sd.fM) us=some r):bT P w K mg base ff (n+1) f fd ["_law_feed_here","_law_many"] (spT K 2 fm):=
 sL (g:=Sd.fM) F gF (fun cdv A outer s H E hr=>(aD (cY (bO mW (bq (i:=0) (bG hr) aC (fun _ _=>rfl)) au) (aD (bF (i:=2) gF.nd rfl (by first | exact Or.inl rfl | exact Or.inr rfl) (bX kL (bq (i:=0) (bG hr) aC (fun _ _=>rfl)) (JE.d (ao 1))))
  (aD (sO (i:=0) (bG hr) aC (JE.d (bX Aq (bq (i:=0) (bG hr) aC (fun _ _=>rfl)) (JE.d (ao 1)))))
  (aU (bw (ao 2))))) cA)
  (aD (bF (i:=3) gF.nd rfl (by first | exact Or.inl rfl | exact Or.inr rfl) (JD.e (bq (i:=0) (bG hr) aC (fun _ _=>rfl))))
  (aD (sO (i:=0) (bG hr) aC (JE.d (bX cH (JE.d (ao 3)) au)))
  (aD (bF (i:=4) gF.nd rfl (by first | exact Or.inl rfl | exact Or.inr rfl) (bX oJ (JE.d (ao 3)) (JE.d (ao 3))))
  (aD (cY (bO (mY hr.units) (bq (i:=0) (bG hr) aC (fun _ _=>rfl)) (JE.d (cT aA))) (aU (bF (i:=4) gF.nd rfl (by first | exact Or.inl rfl | exact Or.inr rfl) (sy yL (bq (i:=0) (bG hr) aC (fun _ _=>rfl)) (JE.d (bX kL (JE.d (ao 3)) (JE.d (fV uS rfl dO PySem.boot_len (aj (bq (i:=0) (bG hr) aC (fun _ _=>rfl)) aA))))) (fun _ _=>rfl)))) cA)
  (aD (cY (bO N6 (JE.d (ao 4)) (JE.d (bX ES au au))) (aD (sO (i:=0) (bG hr) aC (JE.d (bX Aq (JE.d (ao 4)) (JE.d (ao 1)))))
  (aU (bw (bX kL (JE.d (ao 4)) (JE.d (ao 1)))))) cA)
  (aD (bF (i:=5) gF.nd rfl (by first | exact Or.inl rfl | exact Or.inr rfl) (bX kL (JE.d (bX oJ (JE.d (bX cH (JE.d (bX cH (JE.d (bX oJ (JE.d (bX kL (JE.d (ao 4)) au)) au)) (JE.d (bX oJ au (JE.d (ao 3)))))) au)) au)) au))
  (aD (bF (i:=5) gF.nd rfl (by first | exact Or.inl rfl | exact Or.inr rfl) (bX kL (JE.d (bX oJ (JE.d (bX kL (JE.d (bX cH (JE.d (bX oJ (JE.d (ao 5)) (JE.d (ao 5)))) (JE.d (bX oJ au (JE.d (ao 3)))))) au)) au)) au))
  (aU (bw (bX kL (JE.d (bX Aq (JE.d (ao 5)) au)) (JE.d (ao 1)))))))))))))) hf
noncomputable abbrev iJ:Stmt:=top 34
theorem iY:cE ["_law_feed_here","_law_some","_law_names","_law_at"] ["_law_feed_here"] (aH iJ):=⟨rfl,rfl,rfl,by decide +kernel,rfl,by decide +kernel,by decide +kernel⟩
theorem yX {P:Program}{w:World}{K:PySem.W.Frag}{mg:Str→Option Value}{base:Heap}{f:Addr}{fd:FuncData}{n:Nat}{fm:FM}(F:pQ K "_law_table" "_law_table" iJ f fd) (dB:mg "tuple" =none)
  {bL:Addr}{cN:FuncData}{ah:FM}(aW:bT P w K mg base ff n bL cN ["_law_feed_here","_law_many"] (spT K 2 ah)) (aX:Binds K cN ["_law_feed_here","_law_many"] []) (aY:PySem.W.keepIn K (.ref bL)=true) (aZ:mg "_law_draw" =some (.ref bL))
  (hf:∀us r,fm us=some r→aQ 4 (Sd.iH ah) us=some r):bT P w K mg base ff (n+1) f fd ["_law_feed_here"] (spT K 1 fm):=
 sL (g:=Sd.iH ah) F iY (fun cdv A outer s H E hr=>(aD (bF (i:=1) iY.nd rfl (by first | exact Or.inl rfl | exact Or.inr rfl) (cT (aj (JE.d (cT (aj aC (aj aC (aj aC (aj aC aA)))))) (aj (JE.d (cT (aj aC (aj aC (aj aC (aj aC aA)))))) (aj (JE.d (cT (aj aC (aj aC (aj aC (aj aC aA)))))) aA)))))
  (aD (bF (i:=2) iY.nd rfl (by first | exact Or.inl rfl | exact Or.inr rfl) (JD.e (bq (i:=1) (bG hr) (JE.d (aK aW hr rfl aZ aY aX (bK (ao 0) (aF au aV)))) (fun _ _=>rfl))))
  (aD (bF (i:=3) iY.nd rfl (by first | exact Or.inl rfl | exact Or.inr rfl) (aK aW hr rfl aZ aY aX (bK (ao 0) (aF au aV))))
  (aD (bF (i:=2) iY.nd rfl (by first | exact Or.inl rfl | exact Or.inr rfl) (g8 (JE.d (bX cH (JE.d (g8 (JE.d (ao 2)) (i8 (JE.d (ao 3))) iZ)) (JE.d (g8 (JE.d (ao 2)) iZ (i8 (JE.d (ao 3))))))) iZ (i8 (JE.d (sy yL (JE.d (cT (aj au (aj au (aj au (aj au aA)))))) (JE.d (aK aW hr rfl aZ aY aX (bK (ao 0) (aF au aV)))) (fun _ _=>rfl))))))
  (aU (bw (lJ qk rfl dB PyProof.Rows.Boot.tuple (aj (JE.d (jL (BZ (i:=0) rfl (by decide) rfl (by decide) rfl rfl (by decide) (by decide) rfl rfl rfl) rfl (iQ (JE.d (ao 2))) (fun _ _ _ _=>jK) (fun _ _ _ _=>(JE.d (aT (aj (JE.d (ao 0)) (aj (JE.d (sy yL (JE.d (cT (aj au (aj au (aj au (aj au aA)))))) (JE.d (aK aW hr rfl aZ aY aX (bK (ao 1) (aF au aV)))) (fun _ _=>rfl))) aA))))))) aA))))))))) hf
noncomputable abbrev jz:Stmt:=top 35
theorem jU:cE ["_law_feed_here","_law_table_here","_law_seen","_law_way","_law_names","_law_number"] ["_law_feed_here","_law_table_here","_law_seen"] (aH jz):=⟨rfl,rfl,rfl,by decide +kernel,rfl,by decide +kernel,by decide +kernel⟩
theorem Bc {P:Program}{w:World}{K:PySem.W.Frag}{mg:Str→Option Value}{base:Heap}{f:Addr}{fd:FuncData}{n:Nat}{fm:FM}(F:pQ K "_law_test" "_law_test" jz f fd) (dO:mg "len" =none)
  {bL:Addr}{cN:FuncData}{ah:FM}(aW:bT P w K mg base ff n bL cN ["_law_feed_here","_law_many"] (spT K 2 ah)) (aX:Binds K cN ["_law_feed_here","_law_many"] []) (aY:PySem.W.keepIn K (.ref bL)=true) (aZ:mg "_law_draw" =some (.ref bL))
  (hf:∀us r,fm us=some r→aQ 6 (Sd.dF ah) us=some r):bT P w K mg base ff (n+1) f fd ["_law_feed_here","_law_table_here","_law_seen"] (spT K 3 fm):=
 sL (g:=Sd.dF ah) F jU (fun cdv A outer s H E hr=>(aD (bF (i:=3) jU.nd rfl (by first | exact Or.inl rfl | exact Or.inr rfl) (aK aW hr rfl aZ aY aX (bK (ao 0) (aF au aV))))
  (aD (cY (bO (fU hr.units) (JE.d (ao 3)) au) (aU (bw (aT (aj aC aA)))) cA)
  (aD (cY (bO p8 (JE.d (ao 3)) au) (aD (bF (i:=4) jU.nd rfl (by first | exact Or.inl rfl | exact Or.inr rfl) (bX cH (JE.d (jL (fS (by decide) (by decide) rfl (by decide) rfl) rfl (iQ (JE.d (ao 1))) (fun _ _ _ _=>jK) (fun _ _ _ _=>(bq (i:=0) (bG hr) au (fun _ _=>rfl))))) (JE.d (cT (aj aC aA)))))
  (aU (bw (aT (aj aC (aj (bq (i:=4) (bG hr) (JE.d (aK aW hr rfl aZ aY aX (bK (ao 0) (aF (fh (i:=4) rfl dO) aV)))) (fun _ _=>rfl)) aA)))))) cA)
  (aD (bF (i:=5) jU.nd rfl (by first | exact Or.inl rfl | exact Or.inr rfl) (aK aW hr rfl aZ aY aX (bK (ao 0) (aF au aV))))
  (aD (cY (JW.t (p7 (bO (mY hr.units) (JE.d (ao 2)) (JE.d (aT aA))) (j0 (bO mW (JE.d (aK aW hr rfl aZ aY aX (bK (ao 0) (aF au aV)))) au)))) (aU (bF (i:=5) jU.nd rfl (by first | exact Or.inl rfl | exact Or.inr rfl) (JD.e (bq (i:=2) (bG hr) (JE.d (aK aW hr rfl aZ aY aX (bK (ao 0) (aF (fh (i:=2) rfl dO) aV)))) (fun _ _=>rfl))))) cA)
  (aU (bw (aT (aj (JE.d (sy yL (JE.d (cT (aj aC (aj aC (aj aC aA))))) (JE.d (bX kL (JE.d (ao 3)) au)) (fun _ _=>rfl))) (aj (JE.d (ao 5)) aA))))))))))) hf
noncomputable abbrev dR:Stmt:=top 36
theorem dW:cE ["_law_feed_here","_law_table_here","_law_seen","_law_bag","_law_deep","_law_heads","_law_head","_law_names","_law_x","_law_inner","_law_first"] ["_law_feed_here","_law_table_here","_law_seen","_law_bag","_law_deep"] (aH dR):=⟨rfl,rfl,rfl,by decide +kernel,rfl,by decide +kernel,by decide +kernel⟩
theorem ya {P:Program}{w:World}{K:PySem.W.Frag}{mg:Str→Option Value}{base:Heap}{f:Addr}{fd:FuncData}{n:Nat}{fm:FM}(F:pQ K "_law_saying" "_law_saying" dR f fd) (Pj:mg "min" =none) (dO:mg "len" =none)
  {bL:Addr}{cN:FuncData}{ah:FM}(aW:bT P w K mg base ff n bL cN ["_law_feed_here","_law_many"] (spT K 2 ah)) (aX:Binds K cN ["_law_feed_here","_law_many"] []) (aY:PySem.W.keepIn K (.ref bL)=true) (aZ:mg "_law_draw" =some (.ref bL))
  {tu:Addr}{yc:FuncData}{bQ:FM}(D9:bT P w K mg base ff n tu yc ["_law_feed_here","_law_table_here","_law_seen"] (spT K 3 bQ)) (Ea:Binds K yc ["_law_feed_here","_law_table_here","_law_seen"] []) (Eb:PySem.W.keepIn K (.ref tu)=true) (Ec:mg "_law_test" =some (.ref tu))
  {gG:Addr}{jV:FuncData}{aB:FM}(gH:bT P w K mg base ff n gG jV ["_law_feed_here","_law_table_here","_law_seen","_law_bag","_law_deep"] (spT K 5 aB)) (gI:Binds K jV ["_law_feed_here","_law_table_here","_law_seen","_law_bag","_law_deep"] []) (gJ:PySem.W.keepIn K (.ref gG)=true) (gK:mg "_law_saying" =some (.ref gG))
  (hf:∀us r,fm us=some r→aQ 11 (Sd.dI ah bQ aB) us=some r):bT P w K mg base ff (n+1) f fd ["_law_feed_here","_law_table_here","_law_seen","_law_bag","_law_deep"] (spT K 5 fm):=
 sL (g:=Sd.dI ah bQ aB) F dW (fun cdv A outer s H E hr=>(aD (sO (i:=3) (bG hr) au (JE.d (bX jI (bq (i:=3) (bG hr) au (fun _ _=>rfl)) au)))
  (aD (bF (i:=5) dW.nd rfl (by first | exact Or.inl rfl | exact Or.inr rfl) (cT (aj aC (aj aC (aj aC (aj aC (aj aC (aj aC (aj aC (aj aC (aj aC (aj aC (aj aC (aj aC aA))))))))))))))
  (aD (bF (i:=6) dW.nd rfl (by first | exact Or.inl rfl | exact Or.inr rfl) (JD.e (bq (i:=5) (bG hr) (JE.d (aK aW hr rfl aZ aY aX (bK (ao 0) (aF au aV)))) (fun _ _=>rfl))))
  (aD (cY (JW.t (gU (JW.t (p7 (bO (lT hr.units) (JE.d (ao 6)) (JE.d (aT (aj aC (aj aC aA)))) (by with_unfolding_all rfl)) (j0 (bO (fU hr.units) (bq (i:=3) (bG hr) au (fun _ _=>rfl)) au)))) (dQ (JW.t (p7 (bO (lT hr.units) (JE.d (ao 6)) (JE.d (aT (aj aC (aj aC (aj aC aA))))) (by with_unfolding_all rfl)) (j0 (bO p8 (bq (i:=3) (bG hr) au (fun _ _=>rfl)) au))))))) (aU (bF (i:=6) dW.nd rfl (by first | exact Or.inl rfl | exact Or.inr rfl) (sy yL (JE.d (cT (aj aC (aj aC (aj aC aA))))) (JE.d (aK aW hr rfl aZ aY aX (bK (ao 0) (aF au aV)))) (fun _ _=>rfl)))) cA)
  (aD (cY (JW.t (gU (bO p8 (bq (i:=3) (bG hr) au (fun _ _=>rfl)) au) (gU (bO p8 (JE.d (ao 4)) au) (dQ (bO (fU hr.units) (JE.d (ao 6)) aC))))) (aU (bw (sy yL (JE.d (cT (aj (JE.d (aT (aj aC aA))) (aj (JE.d (aT (aj aC aA))) (aj (JE.d (aT (aj aC (aj (JE.d (aK D9 hr rfl Ec Eb Ea (bK (ao 0) (aF (JE.d (ao 1)) (aF (JE.d (ao 2)) aV))))) aA)))) aA))))) (JE.d (fV (Du rfl) rfl Pj PyProof.Rows.Boot.min (aj au (aj (JE.d (aK aW hr rfl aZ aY aX (bK (ao 0) (aF au aV)))) aA)))) (fun _ _=>rfl)))) cA)
  (aD (cY (bO (lT hr.units) (JE.d (ao 6)) (JE.d (aT (aj aC (aj aC aA)))) (by with_unfolding_all rfl)) (aD (sO (i:=3) (bG hr) au (JE.d (bX jI (bq (i:=3) (bG hr) au (fun _ _=>rfl)) au)))
  (aD (BR (i:=7) dW.nd rfl (by first | exact Or.inl rfl | exact Or.inr rfl) (fS (by decide) (by decide) rfl (by decide) rfl) rfl (iQ (JE.d (ao 1))) (fun _ _ _ _=>jK) (fun _ _ _ _=>(bq (i:=0) (bG hr) au (fun _ _=>rfl))))
  (aD (bF (i:=8) dW.nd rfl (by first | exact Or.inl rfl | exact Or.inr rfl) (sy yL (JE.d (bX cH (JE.d (ao 7)) (JE.d (cT (aj aC (aj aC (aj aC aA))))))) (JE.d (aK aW hr rfl aZ aY aX (bK (ao 0) (aF (JE.d (bX cH (fh (i:=7) rfl dO) au)) aV)))) (fun _ _=>rfl)))
  (aD (bF (i:=9) dW.nd rfl (by first | exact Or.inl rfl | exact Or.inr rfl) (aK gH hr rfl gK gJ gI (bK (ao 0) (aF (JE.d (ao 1)) (aF (JE.d (bX cH (JE.d (ao 2)) (JE.d (aT (aj (JE.d (ao 8)) aA))))) (bK (ao 3) (aF (JE.d (bX jI (JE.d (ao 4)) au)) aV)))))))
  (aU (bw (aT (aj (JE.d (ao 6)) (aj (bq (i:=7) (bG hr) (JE.d (aK aW hr rfl aZ aY aX (bK (ao 0) (aF (fh (i:=7) rfl dO) aV)))) (fun _ _=>rfl)) (aj (JE.d (ao 8)) (aj (JE.d (ao 9)) aA))))))))))) cA)
  (aD (cY (bO (fU hr.units) (JE.d (ao 6)) aC) (aU (bw (aT (aj (JE.d (ao 6)) (aj (JE.d (sy yL (JE.d (cT (aj au (aj au (aj au (aj au (aj au (aj au aA)))))))) (JE.d (aK aW hr rfl aZ aY aX (bK (ao 0) (aF au aV)))) (fun _ _=>rfl))) (aj (JE.d (aK gH hr rfl gK gJ gI (bK (ao 0) (aF (JE.d (ao 1)) (aF (JE.d (ao 2)) (bK (ao 3) (aF (JE.d (bX jI (JE.d (ao 4)) au)) aV))))))) aA)))))) cA)
  (aD (cY (bO (lT hr.units) (JE.d (ao 6)) (JE.d (aT (aj aC (aj aC (aj aC aA))))) (by with_unfolding_all rfl)) (aD (sO (i:=3) (bG hr) au (JE.d (bX jI (bq (i:=3) (bG hr) au (fun _ _=>rfl)) au)))
  (aD (bF (i:=10) dW.nd rfl (by first | exact Or.inl rfl | exact Or.inr rfl) (aK gH hr rfl gK gJ gI (bK (ao 0) (aF (JE.d (ao 1)) (aF (JE.d (ao 2)) (bK (ao 3) (aF (JE.d (bX jI (JE.d (ao 4)) au)) aV)))))))
  (aD (sO (i:=3) (bG hr) au (JE.d (bX cH (bq (i:=3) (bG hr) au (fun _ _=>rfl)) au)))
  (aU (bw (aT (aj (JE.d (ao 6)) (aj (JE.d (ao 10)) (aj (JE.d (aK gH hr rfl gK gJ gI (bK (ao 0) (aF (JE.d (ao 1)) (aF (JE.d (ao 2)) (bK (ao 3) (aF (JE.d (bX jI (JE.d (ao 4)) au)) aV))))))) aA))))))))) cA)
  (aU (bw (aT (aj (JE.d (ao 6)) (aj (JE.d (aK gH hr rfl gK gJ gI (bK (ao 0) (aF (JE.d (ao 1)) (aF (JE.d (ao 2)) (bK (ao 3) (aF (JE.d (bX jI (JE.d (ao 4)) au)) aV))))))) aA)))))))))))))) hf
noncomputable abbrev fc:Stmt:=top 37
theorem cO:cE ["_law_feed_here","_law_table_here","_law_basics","_law_k","_law_saying_here","_law_stand","_law_bunch","_law_j","_law_at"] ["_law_feed_here","_law_table_here"] (aH fc):=⟨rfl,rfl,rfl,by decide +kernel,rfl,by decide +kernel,by decide +kernel⟩
theorem uL {P:Program}{w:World}{K:PySem.W.Frag}{mg:Str→Option Value}{base:Heap}{f:Addr}{fd:FuncData}{n:Nat}{fm:FM}(F:pQ K "_law_any_stand" "_law_any_stand" fc f fd) (jg:mg "range" =none) (dO:mg "len" =none) (dB:mg "tuple" =none)
  {bL:Addr}{cN:FuncData}{ah:FM}(aW:bT P w K mg base ff n bL cN ["_law_feed_here","_law_many"] (spT K 2 ah)) (aX:Binds K cN ["_law_feed_here","_law_many"] []) (aY:PySem.W.keepIn K (.ref bL)=true) (aZ:mg "_law_draw" =some (.ref bL))
  {gG:Addr}{jV:FuncData}{aB:FM}(gH:bT P w K mg base ff n gG jV ["_law_feed_here","_law_table_here","_law_seen","_law_bag","_law_deep"] (spT K 5 aB)) (gI:Binds K jV ["_law_feed_here","_law_table_here","_law_seen","_law_bag","_law_deep"] []) (gJ:PySem.W.keepIn K (.ref gG)=true) (gK:mg "_law_saying" =some (.ref gG))
  (hf:∀us r,fm us=some r→aQ 9 (Sd.dG ah aB) us=some r):bT P w K mg base ff (n+1) f fd ["_law_feed_here","_law_table_here"] (spT K 2 fm):=
 sL (g:=Sd.dG ah aB) F cO (fun cdv A outer s H E hr=>(aD (bF (i:=2) cO.nd rfl (by first | exact Or.inl rfl | exact Or.inr rfl) (cT aA))
  (aD (lq PassesOwn.never rfl (iE rfl jg (aj (JE.d (bX cH au (JE.d (aK aW hr rfl aZ aY aX (bK (ao 0) (aF au aV)))))) aA)) (gD (i:=3) cO.nd rfl (by first | exact Or.inl rfl | exact Or.inr rfl)) (aD (bF (i:=4) cO.nd rfl (by first | exact Or.inl rfl | exact Or.inr rfl) (aK gH hr rfl gK gJ gI (bK (ao 0) (aF (JE.d (ao 1)) (aF (JE.d (aT aA)) (bK (cT (aj (JE.d (bX cH au (JE.d (aK aW hr rfl aZ aY aX (bK (ao 0) (aF au aV)))))) (aj au aA))) (aF au aV)))))))
  (aD (cY (bO (lT hr.units) (bq (i:=4) (bG hr) au (fun _ _=>rfl)) (JE.d (aT (aj aC (aj aC (aj aC (aj aC (aj aC aA))))))) (by with_unfolding_all rfl)) (aU (bF (i:=4) cO.nd rfl (by first | exact Or.inl rfl | exact Or.inr rfl) (aT (aj aC (aj (JE.d (ao 4)) aA))))) cA)
  (aU (rq (JD.e (rA (i:=2) PySem.F.slot_list_append PySem.F.type_list_append q9 rB rH (aj (JE.d (ao 4)) aA))))))))
  (aD (bF (i:=5) cO.nd rfl (by first | exact Or.inl rfl | exact Or.inr rfl) (cT aA))
  (aD (lq PassesOwn.never rfl (iE rfl jg (aj (JE.d (aK aW hr rfl aZ aY aX (bK (ao 0) (aF au aV)))) aA)) (gD (i:=3) cO.nd rfl (by first | exact Or.inl rfl | exact Or.inr rfl)) (aD (bF (i:=6) cO.nd rfl (by first | exact Or.inl rfl | exact Or.inr rfl) (cT aA))
  (aD (lq PassesOwn.never rfl (iE rfl jg (aj (JE.d (aK aW hr rfl aZ aY aX (bK (ao 0) (aF au aV)))) aA)) (gD (i:=7) cO.nd rfl (by first | exact Or.inl rfl | exact Or.inr rfl)) (aU (rq (JD.e (rA (i:=6) PySem.F.slot_list_append PySem.F.type_list_append q9 rB rH (aj (JE.d (aT (aj (bq (i:=2) (bG hr) (JE.d (aK aW hr rfl aZ aY aX (bK (ao 0) (aF (fh (i:=2) rfl dO) aV)))) (fun _ _=>rfl)) (aj (JE.d (gB mW (JE.d (aK aW hr rfl aZ aY aX (bK (ao 0) (aF au aV)))) au)) aA)))) aA))))))
  (aU (rq (JD.e (rA (i:=5) PySem.F.slot_list_append PySem.F.type_list_append q9 rB rH (aj (JE.d (lJ qk rfl dB PyProof.Rows.Boot.tuple (aj (JE.d (ao 6)) aA))) aA))))))))
  (aD (cY (JW.t (p7 (Lz (i:=5) (mY hr.units) (JE.d (cT aA))) (j0 (bO (fU hr.units) (JE.d (aK aW hr rfl aZ aY aX (bK (ao 0) (aF au aV)))) au)))) (aD (bF (i:=8) cO.nd rfl (by first | exact Or.inl rfl | exact Or.inr rfl) (aK aW hr rfl aZ aY aX (bK (ao 0) (aF (fh (i:=5) rfl dO) aV))))
  (aU (rq (JD.e (rA (i:=5) PySem.F.slot_list_append PySem.F.type_list_append q9 rB rH (aj (JE.d (bX cH (JE.d (Oq (bq (i:=5) (bG hr) (JE.d (ao 8)) (fun _ _=>rfl)) (JE.d (Rq Ln au)))) (bq (i:=5) (bG hr) (JE.d (aK aW hr rfl aZ aY aX (bK (ao 0) (aF (fh (i:=5) rfl dO) aV)))) (fun _ _=>rfl)))) aA)))))) cA)
  (aU (bw (lJ qk rfl dB PyProof.Rows.Boot.tuple (aj (JE.d (ao 5)) aA)))))))))) hf
noncomputable abbrev jA:Stmt:=top 38
theorem Bd:cE ["_law_thing"] ["_law_thing"] (aH jA):=⟨rfl,rfl,rfl,by decide +kernel,rfl,by decide +kernel,by decide +kernel⟩
theorem Be {P:Program}{w:World}{K:PySem.W.Frag}{mg:Str→Option Value}{base:Heap}{f:Addr}{fd:FuncData}{n:Nat}{fm:FM}(F:pQ K "_law_name" "_law_name" jA f fd) (aI:mg "isinstance" =none) (r9:mg "str" =none) (dO:mg "len" =none)
  (hf:∀us r,fm us=some r→aQ 1 (Sd.ig) us=some r):bT P w K mg base ff (n+1) f fd ["_law_thing"] (spT K 1 fm):=
 sL (g:=Sd.ig) F Bd (fun cdv A outer s H E hr=>(aD (cY (JW.t (gU (fC (d7 (cL rfl aI rfl r9 PyProof.Rows.Boot.str (JE.d (ao 0))))) (gU (bO p8 (fh (i:=0) rfl dO) au) (dQ (bO mW (fh (i:=0) rfl dO) au))))) (aU (bw (JD.e gT))) cA)
  (aU (bw (gB (fU hr.units) (JE.d (jL (fS (by decide) (by decide) rfl (by decide) rfl) rfl (iQ (JE.d (ao 0))) (fun _ _ _ _=>(EV (bO (uU hr.units) (JE.d (ao 0)) aC (by with_unfolding_all rfl)))) (fun _ _ _ _=>(JE.d (ao 0))))) (JE.d (cT aA))))))) hf
noncomputable abbrev iK:Stmt:=top 39
theorem yY:cE ["_law_thing","_law_most"] ["_law_thing","_law_most"] (aH iK):=⟨rfl,rfl,rfl,by decide +kernel,rfl,by decide +kernel,by decide +kernel⟩
theorem yZ {P:Program}{w:World}{K:PySem.W.Frag}{mg:Str→Option Value}{base:Heap}{f:Addr}{fd:FuncData}{n:Nat}{fm:FM}(F:pQ K "_law_whole" "_law_whole" iK f fd) (aI:mg "isinstance" =none) (G2:mg "int" =none) (mj:mg "bool" =none)
  (hf:∀us r,fm us=some r→aQ 2 (Sd.pe) us=some r):bT P w K mg base ff (n+1) f fd ["_law_thing","_law_most"] (spT K 2 fm):=
 sL (g:=Sd.pe) F yY (fun cdv A outer s H E hr=>(aU (bw (JD.e (iP (cL rfl aI rfl G2 PyProof.Rows.Boot.int (JE.d (ao 0))) (iP (N5 (cL rfl aI rfl mj PyProof.Rows.Boot.bool (JE.d (ao 0)))) (jH (II p9 p9 au (JE.d (ao 0)) (JE.d (ao 1)))))))))) hf
noncomputable abbrev gm:Stmt:=top 40
theorem wj:cE ["_law_thing","_law_seen"] ["_law_thing","_law_seen"] (aH gm):=⟨rfl,rfl,rfl,by decide +kernel,rfl,by decide +kernel,by decide +kernel⟩
theorem wk {P:Program}{w:World}{K:PySem.W.Frag}{mg:Str→Option Value}{base:Heap}{f:Addr}{fd:FuncData}{n:Nat}{fm:FM}(F:pQ K "_law_is_test" "_law_is_test" gm f fd) (aI:mg "isinstance" =none) (dB:mg "tuple" =none) (dO:mg "len" =none) (r9:mg "str" =none)
  {jh:Addr}{mC:FuncData}{aR:FM}(pH:bT P w K mg base ff n jh mC ["_law_thing"] (spT K 1 aR)) (pI:Binds K mC ["_law_thing"] []) (pJ:PySem.W.keepIn K (.ref jh)=true) (pK:mg "_law_name" =some (.ref jh))
  {iB:Addr}{kT:FuncData}{aO:FM}(qM:bT P w K mg base ff n iB kT ["_law_thing","_law_most"] (spT K 2 aO)) (qN:Binds K kT ["_law_thing","_law_most"] []) (qO:PySem.W.keepIn K (.ref iB)=true) (qP:mg "_law_whole" =some (.ref iB))
  (hf:∀us r,fm us=some r→aQ 2 (Sd.cC aR aO) us=some r):bT P w K mg base ff (n+1) f fd ["_law_thing","_law_seen"] (spT K 2 fm):=
 sL (g:=Sd.cC aR aO) F wj (fun cdv A outer s H E hr=>(aD (cY (JW.t (gU (fC (d7 (cL rfl aI rfl dB PyProof.Rows.Boot.tuple (JE.d (ao 0))))) (gU (bO (fU hr.units) (fh (i:=0) rfl dO) au) (dQ (fC (d7 (cL rfl aI rfl r9 PyProof.Rows.Boot.str (bq (i:=0) (bG hr) au (fun _ _=>rfl))))))))) (aU (bw (JD.e gT))) cA)
  (aD (cY (JW.t (gU (bO (fU hr.units) (bq (i:=0) (bG hr) au (fun _ _=>rfl)) aC) (dQ (bO (mY hr.units) (fh (i:=0) rfl dO) au)))) (aU (bw (gB (fU hr.units) (JE.d (ao 0)) (JE.d (aT (aj aC aA)))))) cA)
  (aD (cY (bO (fU hr.units) (bq (i:=0) (bG hr) au (fun _ _=>rfl)) aC) (aU (bw (aK pH hr rfl pK pJ pI (aF (bq (i:=0) (bG hr) au (fun _ _=>rfl)) aV)))) cA)
  (aD (cY (bO (uU hr.units) (bq (i:=0) (bG hr) au (fun _ _=>rfl)) (JE.d (aT (aj aC (aj aC (aj aC aA))))) (by with_unfolding_all rfl)) (aU (bw (JD.e gT))) cA)
  (aU (bw (JD.e (MM (JE.d (aK qM hr rfl qP qO qN (aF (bq (i:=0) (bG hr) au (fun _ _=>rfl)) (aF au aV)))) (jH (iP (cL rfl aI rfl r9 PyProof.Rows.Boot.str (bq (i:=0) (bG hr) au (fun _ _=>rfl))) (jH (JE.d (gB (lT hr.units) (bq (i:=0) (bG hr) au (fun _ _=>rfl)) (JE.d (ao 1)) (by with_unfolding_all rfl))))))))))))))) hf
noncomputable abbrev eL:Stmt:=top 41
theorem dJ:cE ["_law_thing","_law_seen","_law_none","_law_heads","_law_parts","_law_more","_law_found","_law_deep"] ["_law_thing","_law_seen"] (aH eL):=⟨rfl,rfl,rfl,by decide +kernel,rfl,by decide +kernel,by decide +kernel⟩
theorem y9 {P:Program}{w:World}{K:PySem.W.Frag}{mg:Str→Option Value}{base:Heap}{f:Addr}{fd:FuncData}{n:Nat}{fm:FM}(F:pQ K "_law_count" "_law_count" eL f fd) (aI:mg "isinstance" =none) (dB:mg "tuple" =none) (dO:mg "len" =none) (r9:mg "str" =none) (uK:mg "list" =none) (Pk:mg "max" =none) (MA:mg "sum" =none)
  {nk:Addr}{sE:FuncData}{aM:FM}(za:bT P w K mg base ff n nk sE ["_law_thing","_law_seen"] (spT K 2 aM)) (zc:Binds K sE ["_law_thing","_law_seen"] []) (ze:PySem.W.keepIn K (.ref nk)=true) (zf:mg "_law_is_test" =some (.ref nk))
  {iB:Addr}{kT:FuncData}{aO:FM}(qM:bT P w K mg base ff n iB kT ["_law_thing","_law_most"] (spT K 2 aO)) (qN:Binds K kT ["_law_thing","_law_most"] []) (qO:PySem.W.keepIn K (.ref iB)=true) (qP:mg "_law_whole" =some (.ref iB))
  {jh:Addr}{mC:FuncData}{aR:FM}(pH:bT P w K mg base ff n jh mC ["_law_thing"] (spT K 1 aR)) (pI:Binds K mC ["_law_thing"] []) (pJ:PySem.W.keepIn K (.ref jh)=true) (pK:mg "_law_name" =some (.ref jh))
  {iC:Addr}{kU:FuncData}{aN:FM}(qQ:bT P w K mg base ff n iC kU ["_law_thing","_law_seen"] (spT K 2 aN)) (qR:Binds K kU ["_law_thing","_law_seen"] []) (qT:PySem.W.keepIn K (.ref iC)=true) (qU:mg "_law_count" =some (.ref iC))
  (hf:∀us r,fm us=some r→aQ 8 (Sd.eG aM aO aR aN) us=some r):bT P w K mg base ff (n+1) f fd ["_law_thing","_law_seen"] (spT K 2 fm):=
 sL (g:=Sd.eG aM aO aR aN) F dJ (fun cdv A outer s H E hr=>(aD (bF (i:=2) dJ.nd rfl (by first | exact Or.inl rfl | exact Or.inr rfl) (cT (aj au (aj au (aj au aA)))))
  (aD (bF (i:=3) dJ.nd rfl (by first | exact Or.inl rfl | exact Or.inr rfl) (Ay (d8 au (d8 au (d8 au (d8 au (d8 au (d8 au (d8 au (d8 au (d8 au Ax)))))))))))
  (aD (rq (JD.e (LD (i:=3) (Ay (d8 au (d8 au (d8 au (d8 au Ax))))))))
  (aD (cY (JW.t (gU (fC (d7 (cL rfl aI rfl dB PyProof.Rows.Boot.tuple (JE.d (ao 0))))) (gU (bO (fU hr.units) (fh (i:=0) rfl dO) au) (dQ (fC (d7 (cL rfl aI rfl r9 PyProof.Rows.Boot.str (bq (i:=0) (bG hr) au (fun _ _=>rfl))))))))) (aU (bw (ao 2))) cA)
  (aD (cY (bO (mY hr.units) (LB (i:=3) (bG hr) (bq (i:=0) (bG hr) au (fun _ _=>rfl)) au) (fh (i:=0) rfl dO)) (aU (bw (ao 2))) cA)
  (aD (cY (bO (lT hr.units) (bq (i:=0) (bG hr) au (fun _ _=>rfl)) (JE.d (aT (aj aC (aj aC aA)))) (by with_unfolding_all rfl)) (aU (bw (cT (aj au (aj au (aj au aA)))))) cA)
  (aD (cY (bO (fU hr.units) (bq (i:=0) (bG hr) au (fun _ _=>rfl)) aC) (aU (bw (MN (d7 (JE.d (aK za hr rfl zf ze zc (aF (bq (i:=0) (bG hr) au (fun _ _=>rfl)) (aF (JE.d (ao 1)) aV))))) (cT (aj au (aj au (aj au aA)))) (ao 2)))) cA)
  (aD (bF (i:=4) dJ.nd rfl (by first | exact Or.inl rfl | exact Or.inr rfl) (lJ sM rfl uK PyProof.Rows.Boot.list (aj (JE.d (g8 (JE.d (ao 0)) (i8 au) iZ)) aA)))
  (aD (cY (JW.t (p7 (bO (fU hr.units) (bq (i:=0) (bG hr) au (fun _ _=>rfl)) aC) (j0 (fC (d7 (JE.d (aK qM hr rfl qP qO qN (aF (rA (i:=4) PySem.F.slot_list_pop PySem.F.type_list_pop Ir IU I0 (aj au aA)) (aF au aV))))))))) (aU (bw (ao 2))) cA)
  (aD (bF (i:=5) dJ.nd rfl (by first | exact Or.inl rfl | exact Or.inr rfl) (JD.e au))
  (aD (cY (bO (lT hr.units) (bq (i:=0) (bG hr) au (fun _ _=>rfl)) (JE.d (aT (aj aC (aj aC aA)))) (by with_unfolding_all rfl)) (aD (cY (JW.t (gU (fC (d7 (JE.d (aK pH hr rfl pK pJ pI (aF (bq (i:=0) (bG hr) au (fun _ _=>rfl)) aV))))) (dQ (fC (d7 (JE.d (aK pH hr rfl pK pJ pI (aF (bq (i:=0) (bG hr) au (fun _ _=>rfl)) aV)))))))) (aU (bw (ao 2))) cA)
  (aD (bF (i:=4) dJ.nd rfl (by first | exact Or.inl rfl | exact Or.inr rfl) (cT (aj (bq (i:=0) (bG hr) au (fun _ _=>rfl)) aA)))
  (aD (bF (i:=1) dJ.nd rfl (by first | exact Or.inl rfl | exact Or.inr rfl) (bX cH (JE.d (ao 1)) (JE.d (aT (aj (bq (i:=0) (bG hr) au (fun _ _=>rfl)) aA)))))
  (aU (bF (i:=5) dJ.nd rfl (by first | exact Or.inl rfl | exact Or.inr rfl) (JD.e au)))))) cA)
  (aD (BR (i:=6) dJ.nd rfl (by first | exact Or.inl rfl | exact Or.inr rfl) (BZ (i:=1) rfl (by decide) rfl (by decide) rfl rfl (by decide) (by decide) rfl rfl rfl) rfl (iQ (JE.d (ao 4))) (fun _ _ _ _=>jK) (fun _ _ _ _=>(JE.d (aK qQ hr rfl qU qT qR (aF (JE.d (ao 0)) (aF (JE.d (ao 1)) aV))))))
  (aD (bF (i:=7) dJ.nd rfl (by first | exact Or.inl rfl | exact Or.inr rfl) (bX cH au (JE.d (fV (DB rfl) rfl Pk PyProof.Rows.Boot.max (aj (JE.d (jL (fS (by decide) (by decide) rfl (by decide) rfl) rfl (iQ (JE.d (ao 6))) (fun _ _ _ _=>jK) (fun _ _ _ _=>(bq (i:=0) (bG hr) au (fun _ _=>rfl))))) aA)))))
  (aU (bw (cT (aj (JE.d (bX cH au (JE.d (fV (zI rfl) rfl MA PyProof.Rows.Boot.sum (aj (JE.d (jL (fS (by decide) (by decide) rfl (by decide) rfl) rfl (iQ (JE.d (ao 6))) (fun _ _ _ _=>jK) (fun _ _ _ _=>(bq (i:=0) (bG hr) au (fun _ _=>rfl))))) aA))))) (aj (JE.d (ao 7)) (aj (JE.d (bX cH (JE.d (ao 5)) (JE.d (fV (zI rfl) rfl MA PyProof.Rows.Boot.sum (aj (JE.d (jL (fS (by decide) (by decide) rfl (by decide) rfl) rfl (iQ (JE.d (ao 6))) (fun _ _ _ _=>jK) (fun _ _ _ _=>(bq (i:=0) (bG hr) au (fun _ _=>rfl))))) aA))))) aA)))))))))))))))))))) hf
noncomputable abbrev fH:Stmt:=top 42
theorem iL:cE ["_law_thing","_law_sayings","_law_deep","_law_binders"] ["_law_thing"] (aH fH):=⟨rfl,rfl,rfl,by decide +kernel,rfl,by decide +kernel,by decide +kernel⟩
theorem vE {P:Program}{w:World}{K:PySem.W.Frag}{mg:Str→Option Value}{base:Heap}{f:Addr}{fd:FuncData}{n:Nat}{fm:FM}(F:pQ K "_law_is_basic" "_law_is_basic" fH f fd)
  {iC:Addr}{kU:FuncData}{aN:FM}(qQ:bT P w K mg base ff n iC kU ["_law_thing","_law_seen"] (spT K 2 aN)) (qR:Binds K kU ["_law_thing","_law_seen"] []) (qT:PySem.W.keepIn K (.ref iC)=true) (qU:mg "_law_count" =some (.ref iC))
  (hf:∀us r,fm us=some r→aQ 4 (Sd.cQ aN) us=some r):bT P w K mg base ff (n+1) f fd ["_law_thing"] (spT K 1 fm):=
 sL (g:=Sd.cQ aN) F iL (fun cdv A outer s H E hr=>(aD (N9 (JE.d (aK qQ hr rfl qU qT qR (aF (JE.d (ao 0)) (aF (JE.d (aT aA)) aV)))) (Ow rfl (wX (gD (i:=1) iL.nd rfl (by first | exact Or.inl rfl | exact Or.inr rfl)) (wX (gD (i:=2) iL.nd rfl (by first | exact Or.inl rfl | exact Or.inr rfl)) (wX (gD (i:=3) iL.nd rfl (by first | exact Or.inl rfl | exact Or.inr rfl)) Lo)))))
  (aD (cY (JW.t (gU (bO mW (JE.d (ao 1)) au) (gU (bO mW (JE.d (ao 2)) au) (dQ (bO mW (JE.d (ao 3)) au))))) (aU (bw (JD.e gT))) cA)
  (aU (bw (gB (uU hr.units) (bq (i:=0) (bG hr) au (fun _ _=>rfl)) (JE.d (aT (aj aC (aj aC (aj aC (aj aC (aj aC aA))))))) (by with_unfolding_all rfl))))))) hf
noncomputable abbrev kF:Stmt:=top 43
theorem qV:cE ["_law_thing","_law_bunch","_law_one"] ["_law_thing"] (aH kF):=⟨rfl,rfl,rfl,by decide +kernel,rfl,by decide +kernel,by decide +kernel⟩
theorem CS {P:Program}{w:World}{K:PySem.W.Frag}{mg:Str→Option Value}{base:Heap}{f:Addr}{fd:FuncData}{n:Nat}{fm:FM}(F:pQ K "_law_due" "_law_due" kF f fd) (aI:mg "isinstance" =none) (dB:mg "tuple" =none) (dO:mg "len" =none) (mj:mg "bool" =none)
  {mD:Addr}{qW:FuncData}{dM:FM}(yf:bT P w K mg base ff n mD qW ["_law_thing"] (spT K 1 dM)) (yg:Binds K qW ["_law_thing"] []) (yh:PySem.W.keepIn K (.ref mD)=true) (yi:mg "_law_is_basic" =some (.ref mD))
  (hf:∀us r,fm us=some r→aQ 3 (Sd.je dM) us=some r):bT P w K mg base ff (n+1) f fd ["_law_thing"] (spT K 1 fm):=
 sL (g:=Sd.je dM) F qV (fun cdv A outer s H E hr=>(aD (cY (fC (d7 (cL rfl aI rfl dB PyProof.Rows.Boot.tuple (JE.d (ao 0))))) (aU (bw (JD.e gT))) cA)
  (aD (lq PassesOwn.never rfl (iQ (JE.d (ao 0))) (gD (i:=1) qV.nd rfl (by first | exact Or.inl rfl | exact Or.inr rfl)) (aD (cY (fC (d7 (cL rfl aI rfl dB PyProof.Rows.Boot.tuple (JE.d (ao 1))))) (aU (bw (JD.e gT))) cA)
  (aU (lq PassesOwn.never rfl (iQ (JE.d (ao 1))) (gD (i:=2) qV.nd rfl (by first | exact Or.inl rfl | exact Or.inr rfl)) (aU (cY (JW.t (gU (fC (d7 (cL rfl aI rfl dB PyProof.Rows.Boot.tuple (JE.d (ao 2))))) (gU (bO (mY hr.units) (fh (i:=2) rfl dO) au) (gU (fC (d7 (cL rfl aI rfl mj PyProof.Rows.Boot.bool (bq (i:=2) (bG hr) au (fun _ _=>rfl))))) (dQ (fC (d7 (JE.d (aK yf hr rfl yi yh yg (aF (bq (i:=2) (bG hr) au (fun _ _=>rfl)) aV)))))))))) (aU (bw (JD.e gT))) cA))))))
  (aU (bw (JD.e gT)))))) hf
noncomputable abbrev kG:Stmt:=top 44
theorem cD:cE ["_law_feed_here","_law_x","_law_some","_law_deep","_law_k","_law_wide","_law_bound","_law_flat"] ["_law_feed_here"] (aH kG):=⟨rfl,rfl,rfl,by decide +kernel,rfl,by decide +kernel,by decide +kernel⟩
theorem CT {P:Program}{w:World}{K:PySem.W.Frag}{mg:Str→Option Value}{base:Heap}{f:Addr}{fd:FuncData}{n:Nat}{fm:FM}(F:pQ K "_law_odd" "_law_odd" kG f fd) (jg:mg "range" =none) (dO:mg "len" =none)
  {bL:Addr}{cN:FuncData}{ah:FM}(aW:bT P w K mg base ff n bL cN ["_law_feed_here","_law_many"] (spT K 2 ah)) (aX:Binds K cN ["_law_feed_here","_law_many"] []) (aY:PySem.W.keepIn K (.ref bL)=true) (aZ:mg "_law_draw" =some (.ref bL))
  (hf:∀us r,fm us=some r→aQ 8 (Sd.iz ah) us=some r):bT P w K mg base ff (n+1) f fd ["_law_feed_here"] (spT K 1 fm):=
 sL (g:=Sd.iz ah) F cD (fun cdv A outer s H E hr=>(aD (bF (i:=1) cD.nd rfl (by first | exact Or.inl rfl | exact Or.inr rfl) (aT (aj aC (aj (JE.d (aT (aj aC (aj aC aA)))) aA))))
  (aD (bF (i:=2) cD.nd rfl (by first | exact Or.inl rfl | exact Or.inr rfl) (cT (aj N4 (aj gT (aj au (aj au (aj aC (aj (JE.d (aT aA)) (aj (JE.d (cT aA)) (aj (JE.d (aT (aj aC aA))) (aj (JE.d (aT (aj aC (aj (JE.d (aT (aj aC aA))) (aj (JE.d (aT (aj aC aA))) aA))))) (aj (JE.d (aT (aj aC (aj (JE.d (ao 1)) aA)))) (aj (JE.d (aT (aj aC (aj (JE.d (aT (aj aC (aj au aA)))) aA)))) aA)))))))))))))
  (aD (bF (i:=2) cD.nd rfl (by first | exact Or.inl rfl | exact Or.inr rfl) (bX cH (JE.d (ao 2)) (JE.d (cT (aj (JE.d (aT (aj aC (aj aC (aj aC (aj (JE.d (ao 1)) aA)))))) (aj (JE.d (aT (aj aC (aj au (aj (JE.d (aT (aj aC aA))) aA))))) (aj (JE.d (aT (aj aC (aj gT (aj (JE.d (aT (aj aC aA))) aA))))) (aj (JE.d (aT (aj aC (aj (JE.d (aT (aj aC (aj aC aA)))) aA)))) aA))))))))
  (aD (bF (i:=2) cD.nd rfl (by first | exact Or.inl rfl | exact Or.inr rfl) (bX cH (JE.d (ao 2)) (JE.d (cT (aj (JE.d (aT (aj aC (aj aC (aj aC (aj (JE.d (ao 1)) aA)))))) (aj (JE.d (aT (aj aC (aj aC (aj aC (aj (JE.d (ao 1)) aA)))))) (aj (JE.d (aT (aj aC (aj (JE.d (aT (aj aC (aj au aA)))) aA)))) (aj (JE.d (aT (aj aC (aj aC aA)))) (aj (JE.d (aT (aj aC aA))) aA)))))))))
  (aD (bF (i:=3) cD.nd rfl (by first | exact Or.inl rfl | exact Or.inr rfl) (aT (aj aC aA)))
  (aD (lq PassesOwn.never rfl (iE rfl jg (aj (JE.d (bX cH au (JE.d (aK aW hr rfl aZ aY aX (bK (ao 0) (aF au aV)))))) aA)) (gD (i:=4) cD.nd rfl (by first | exact Or.inl rfl | exact Or.inr rfl)) (aU (bF (i:=3) cD.nd rfl (by first | exact Or.inl rfl | exact Or.inr rfl) (aT (aj (JE.d (sy yL (JE.d (cT (aj aC (aj aC aA)))) (JE.d (bX kL (JE.d (ao 4)) au)) (fun _ _=>rfl))) (aj (JE.d (ao 3)) aA))))))
  (aD (bF (i:=5) cD.nd rfl (by first | exact Or.inl rfl | exact Or.inr rfl) (aT (aj aC aA)))
  (aD (lq PassesOwn.never rfl (iE rfl jg (aj au aA)) (gD (i:=4) cD.nd rfl (by first | exact Or.inl rfl | exact Or.inr rfl)) (aU (bF (i:=5) cD.nd rfl (by first | exact Or.inl rfl | exact Or.inr rfl) (MN (bO p8 (JE.d (ao 4)) au) (aT (aj aC (aj (JE.d (ao 5)) (aj (JE.d (aT (aj aC aA))) aA)))) (aT (aj aC (aj (JE.d (ao 5)) (aj (JE.d (aT (aj aC (aj (JE.d (aT (aj aC aA))) (aj (JE.d (aT (aj aC aA))) aA))))) aA))))))))
  (aD (bF (i:=6) cD.nd rfl (by first | exact Or.inl rfl | exact Or.inr rfl) (aT (aj aC (aj (JE.d (aT (aj aC (aj aC aA)))) aA))))
  (aD (lq PassesOwn.never rfl (iE rfl jg (aj (JE.d (bX cH au (JE.d (aK aW hr rfl aZ aY aX (bK (ao 0) (aF au aV)))))) aA)) (gD (i:=4) cD.nd rfl (by first | exact Or.inl rfl | exact Or.inr rfl)) (aU (bF (i:=6) cD.nd rfl (by first | exact Or.inl rfl | exact Or.inr rfl) (aT (aj aC (aj aC (aj aC (aj (JE.d (ao 6)) aA))))))))
  (aD (bF (i:=2) cD.nd rfl (by first | exact Or.inl rfl | exact Or.inr rfl) (bX cH (JE.d (ao 2)) (JE.d (cT (aj (JE.d (aT (aj aC (aj (JE.d (ao 3)) aA)))) (aj (JE.d (aT (aj aC (aj (JE.d (ao 3)) aA)))) (aj (JE.d (aT (aj aC (aj (bq (i:=5) (bG hr) au (fun _ _=>rfl)) aA)))) (aj (JE.d (aT (aj aC (aj (bq (i:=5) (bG hr) au (fun _ _=>rfl)) aA)))) (aj (JE.d (ao 6)) (aj (JE.d (aT (aj aC (aj (JE.d (ao 6)) aA)))) aA))))))))))
  (aD (bF (i:=7) cD.nd rfl (by first | exact Or.inl rfl | exact Or.inr rfl) (aT (aj aC (aj (JE.d (aT (aj aC aA))) aA))))
  (aD (lq PassesOwn.never rfl (iE rfl jg (aj au aA)) (gD (i:=4) cD.nd rfl (by first | exact Or.inl rfl | exact Or.inr rfl)) (aU (bF (i:=7) cD.nd rfl (by first | exact Or.inl rfl | exact Or.inr rfl) (aT (aj aC (aj (JE.d (ao 7)) (aj (JE.d (ao 7)) aA)))))))
  (aD (bF (i:=2) cD.nd rfl (by first | exact Or.inl rfl | exact Or.inr rfl) (bX cH (JE.d (ao 2)) (JE.d (cT (aj (JE.d (aT (aj aC (aj (JE.d (ao 7)) (aj (JE.d (aT (aj aC aA))) aA))))) (aj (JE.d (aT (aj aC (aj (JE.d (ao 7)) aA)))) (aj (JE.d (aT (aj aC (aj (JE.d (aT (aj aC (aj (JE.d (ao 7)) aA)))) aA)))) (aj (JE.d (aT (aj aC (aj au (aj (JE.d (aT (aj aC aA))) aA))))) aA))))))))
  (aD (bF (i:=2) cD.nd rfl (by first | exact Or.inl rfl | exact Or.inr rfl) (bX cH (JE.d (ao 2)) (JE.d (cT (aj aC (aj (JE.d (bX ES au au)) aA))))))
  (aU (bw (JD.e (bq (i:=2) (bG hr) (JE.d (aK aW hr rfl aZ aY aX (bK (ao 0) (aF (fh (i:=2) rfl dO) aV)))) (fun _ _=>rfl))))))))))))))))))))) hf
noncomputable abbrev fQ:Stmt:=top 45
theorem lI:cE ["_law_feed_here","_law_thing","_law_deep","_law_at","_law_way"] ["_law_feed_here","_law_thing","_law_deep"] (aH fQ):=⟨rfl,rfl,rfl,by decide +kernel,rfl,by decide +kernel,by decide +kernel⟩
theorem Bf {P:Program}{w:World}{K:PySem.W.Frag}{mg:Str→Option Value}{base:Heap}{f:Addr}{fd:FuncData}{n:Nat}{fm:FM}(F:pQ K "_law_bent" "_law_bent" fQ f fd) (aI:mg "isinstance" =none) (dB:mg "tuple" =none) (dO:mg "len" =none) (uK:mg "list" =none)
  {bL:Addr}{cN:FuncData}{ah:FM}(aW:bT P w K mg base ff n bL cN ["_law_feed_here","_law_many"] (spT K 2 ah)) (aX:Binds K cN ["_law_feed_here","_law_many"] []) (aY:PySem.W.keepIn K (.ref bL)=true) (aZ:mg "_law_draw" =some (.ref bL))
  {ji:Addr}{mF:FuncData}{bh:FM}(tF:bT P w K mg base ff n ji mF ["_law_feed_here","_law_thing","_law_deep"] (spT K 3 bh)) (tG:Binds K mF ["_law_feed_here","_law_thing","_law_deep"] []) (tH:PySem.W.keepIn K (.ref ji)=true) (tK:mg "_law_bent" =some (.ref ji))
  {kH:Addr}{ou:FuncData}{bu:FM}(rN:bT P w K mg base ff n kH ou ["_law_feed_here"] (spT K 1 bu)) (rO:Binds K ou ["_law_feed_here"] []) (rQ:PySem.W.keepIn K (.ref kH)=true) (rR:mg "_law_odd" =some (.ref kH))
  (hf:∀us r,fm us=some r→aQ 5 (Sd.fO ah bh bu) us=some r):bT P w K mg base ff (n+1) f fd ["_law_feed_here","_law_thing","_law_deep"] (spT K 3 fm):=
 sL (g:=Sd.fO ah bh bu) F lI (fun cdv A outer s H E hr=>(aD (cY (JW.t (p7 (d7 (cL rfl aI rfl dB PyProof.Rows.Boot.tuple (JE.d (ao 1)))) (p7 (bO (mY hr.units) (JE.d (ao 1)) (JE.d (aT aA))) (p7 (bO mW (JE.d (ao 2)) au) (j0 (bO mW (JE.d (aK aW hr rfl aZ aY aX (bK (ao 0) (aF au aV)))) au)))))) (aD (bF (i:=3) lI.nd rfl (by first | exact Or.inl rfl | exact Or.inr rfl) (aK aW hr rfl aZ aY aX (bK (ao 0) (aF (fh (i:=1) rfl dO) aV))))
  (aU (bw (bX cH (JE.d (bX cH (JE.d (g8 (JE.d (ao 1)) iZ (i8 (JE.d (ao 3))))) (JE.d (aT (aj (JE.d (aK tF hr rfl tK tH tG (bK (ao 0) (aF (bq (i:=1) (bG hr) (JE.d (ao 3)) (fun _ _=>rfl)) (aF (JE.d (bX jI (JE.d (ao 2)) au)) aV))))) aA))))) (JE.d (g8 (JE.d (ao 1)) (i8 (JE.d (bX cH (JE.d (ao 3)) au))) iZ)))))) cA)
  (aD (bF (i:=4) lI.nd rfl (by first | exact Or.inl rfl | exact Or.inr rfl) (aK aW hr rfl aZ aY aX (bK (ao 0) (aF au aV))))
  (aD (cY (JW.t (gU (bO p8 (JE.d (ao 4)) au) (dQ (fC (d7 (cL rfl aI rfl dB PyProof.Rows.Boot.tuple (JE.d (ao 1)))))))) (aU (bw (aK rN hr rfl rR rQ rO (bK (ao 0) aV)))) cA)
  (aD (bF (i:=3) lI.nd rfl (by first | exact Or.inl rfl | exact Or.inr rfl) (aK aW hr rfl aZ aY aX (bK (ao 0) (aF (JE.d (bX cH (fh (i:=1) rfl dO) au)) aV))))
  (aU (bw (sy yL (JE.d (cT (aj (JE.d (lJ sM rfl uK PyProof.Rows.Boot.list (aj (JE.d (ao 1)) aA))) (aj (JE.d (bX cH (JE.d (g8 (JE.d (ao 1)) iZ (i8 (JE.d (ao 3))))) (JE.d (g8 (JE.d (ao 1)) (i8 (JE.d (bX cH (JE.d (ao 3)) au))) iZ)))) (aj (JE.d (bX cH (JE.d (bX cH (JE.d (g8 (JE.d (ao 1)) iZ (i8 (JE.d (ao 3))))) (JE.d (aT (aj (JE.d (aK rN hr rfl rR rQ rO (bK (ao 0) aV))) aA))))) (JE.d (g8 (JE.d (ao 1)) (i8 (JE.d (ao 3))) iZ)))) aA))))) (JE.d (bX jI (JE.d (ao 4)) au)) (fun _ _=>rfl))))))))) hf
noncomputable abbrev uM:Stmt:=top 46
theorem nq:cE ["_law_script","_law_feed_here","_law_table_here","_law_k","_law_stand","_law_j","_law_thing","_law_kept","_law_told"] ["_law_script"] (aH uM):=⟨rfl,rfl,rfl,by decide +kernel,rfl,by decide +kernel,by decide +kernel⟩
theorem Pn {P:Program}{w:World}{K:PySem.W.Frag}{mg:Str→Option Value}{base:Heap}{f:Addr}{fd:FuncData}{n:Nat}{fm:FM}(F:pQ K "law" "law" uM f fd) (jg:mg "range" =none) (Fj:mg "repr" =none) (aI:mg "isinstance" =none) (mj:mg "bool" =none)
  {tL:Addr}{yj:FuncData}{cG:FM}(Ed:bT P w K mg base ff n tL yj ["_law_script"] (spT K 1 cG)) (Ef:Binds K yj ["_law_script"] []) (Eg:PySem.W.keepIn K (.ref tL)=true) (Eh:mg "_law_feed" =some (.ref tL))
  {qX:Addr}{vV:FuncData}{cj:FM}(CU:bT P w K mg base ff n qX vV ["_law_feed_here"] (spT K 1 cj)) (CV:Binds K vV ["_law_feed_here"] []) (CW:PySem.W.keepIn K (.ref qX)=true) (CY:mg "_law_table" =some (.ref qX))
  {lC:Addr}{pP:FuncData}{bB:FM}(wm:bT P w K mg base ff n lC pP ["_law_feed_here","_law_table_here"] (spT K 2 bB)) (wu:Binds K pP ["_law_feed_here","_law_table_here"] []) (wz:PySem.W.keepIn K (.ref lC)=true) (wA:mg "_law_any_stand" =some (.ref lC))
  {vF:Addr}{z6:FuncData}{cz:FM}(ow:bT P w K mg base ff n vF z6 ["thing"] (spT K 1 cz)) (oz:Binds K z6 ["thing"] []) (oA:PySem.W.keepIn K (.ref vF)=true) (oB:mg "is_stand" =some (.ref vF))
  {ji:Addr}{mF:FuncData}{bh:FM}(tF:bT P w K mg base ff n ji mF ["_law_feed_here","_law_thing","_law_deep"] (spT K 3 bh)) (tG:Binds K mF ["_law_feed_here","_law_thing","_law_deep"] []) (tH:PySem.W.keepIn K (.ref ji)=true) (tK:mg "_law_bent" =some (.ref ji))
  {bL:Addr}{cN:FuncData}{ah:FM}(aW:bT P w K mg base ff n bL cN ["_law_feed_here","_law_many"] (spT K 2 ah)) (aX:Binds K cN ["_law_feed_here","_law_many"] []) (aY:PySem.W.keepIn K (.ref bL)=true) (aZ:mg "_law_draw" =some (.ref bL))
  {kH:Addr}{ou:FuncData}{bu:FM}(rN:bT P w K mg base ff n kH ou ["_law_feed_here"] (spT K 1 bu)) (rO:Binds K ou ["_law_feed_here"] []) (rQ:PySem.W.keepIn K (.ref kH)=true) (rR:mg "_law_odd" =some (.ref kH))
  {vG:Addr}{z7:FuncData}{cV:FM}(Ho:bT P w K mg base ff n vG z7 ["_law_thing"] (spT K 1 cV)) (Hq:Binds K z7 ["_law_thing"] []) (Hr:PySem.W.keepIn K (.ref vG)=true) (Hs:mg "_law_due" =some (.ref vG))
  (hf:∀us r,fm us=some r→aQ 9 (Sd.Cu cG cj bB cz bh ah bu cV) us=some r):bT P w K mg base ff (n+1) f fd ["_law_script"] (spT K 1 fm):=
 sL (g:=Sd.Cu cG cj bB cz bh ah bu cV) F nq (fun cdv A outer s H E hr=>(aD (bF (i:=1) nq.nd rfl (by first | exact Or.inl rfl | exact Or.inr rfl) (aK Ed hr rfl Eh Eg Ef (bK (ao 0) aV)))
  (aD (bF (i:=2) nq.nd rfl (by first | exact Or.inl rfl | exact Or.inr rfl) (aK CU hr rfl CY CW CV (bK (ao 1) aV)))
  (aD (lq PassesOwn.never rfl (iE rfl jg (aj au aA)) (gD (i:=3) nq.nd rfl (by first | exact Or.inl rfl | exact Or.inr rfl)) (aD (bF (i:=4) nq.nd rfl (by first | exact Or.inl rfl | exact Or.inr rfl) (aK wm hr rfl wA wz wu (bK (ao 1) (aF (JE.d (ao 2)) aV))))
  (aD (cY (bO Gd (JE.d (aK ow hr rfl oB oA oz (aF (JE.d (ao 4)) aV))) gT) (aU (bw (JD.e gT))) cA)
  (aU (lq PassesOwn.never rfl (iE rfl jg (aj au aA)) (gD (i:=5) nq.nd rfl (by first | exact Or.inl rfl | exact Or.inr rfl)) (aD (bF (i:=6) nq.nd rfl (by first | exact Or.inl rfl | exact Or.inr rfl) (aK tF hr rfl tK tH tG (bK (ao 1) (aF (JE.d (ao 4)) (aF (JE.d (bX cH au (JE.d (aK aW hr rfl aZ aY aX (bK (ao 1) (aF au aV)))))) aV)))))
  (aD (cY (bO (fU hr.units) (JE.d (aK aW hr rfl aZ aY aX (bK (ao 1) (aF au aV)))) au) (aU (bF (i:=6) nq.nd rfl (by first | exact Or.inl rfl | exact Or.inr rfl) (aT (aj (JE.d (aT (aj (JE.d (aT (aj (JE.d (aK rN hr rfl rR rQ rO (bK (ao 1) aV))) (aj (JE.d (gB (fU hr.units) (JE.d (aK aW hr rfl aZ aY aX (bK (ao 1) (aF au aV)))) au)) aA)))) aA))) aA)))) cA)
  (aD (bF (i:=7) nq.nd rfl (by first | exact Or.inl rfl | exact Or.inr rfl) (fV (xj hr.gd hr.units) rfl Fj PyProof.Rows.Boot.repr (aj (JE.d (ao 6)) aA)))
  (aD (bF (i:=8) nq.nd rfl (by first | exact Or.inl rfl | exact Or.inr rfl) (aK ow hr rfl oB oA oz (aF (JE.d (ao 6)) aV)))
  (aU (cY (JW.t (gU (fC (d7 (cL rfl aI rfl mj PyProof.Rows.Boot.bool (JE.d (ao 8))))) (gU (bO (mY hr.units) (JE.d (ao 8)) (JE.d (aK Ho hr rfl Hs Hr Hq (aF (JE.d (ao 6)) aV)))) (dQ (bO (mY hr.units) (JE.d (fV (xj hr.gd hr.units) rfl Fj PyProof.Rows.Boot.repr (aj (JE.d (ao 6)) aA))) (JE.d (ao 7))))))) (aU (bw (JD.e gT))) cA)))))))))))
  (aU (bw (JD.e (iP (JE.d (gB xu (JE.d (aK ow hr rfl oB oA oz (aF (JE.d (aT aA)) aV))) gT)) (iP (JE.d (gB xu (JE.d (aK ow hr rfl oB oA oz (aF (JE.d (aT (aj (JE.d (aT aA)) aA))) aV))) gT)) (jH (JE.d (gB xu (JE.d (aK ow hr rfl oB oA oz (aF (JE.d (cT aA)) aV))) gT)))))))))))) hf
end K19
end
set_option Elab.async false
set_option linter.all false
set_option maxRecDepth 100000
namespace K19
open PySem L2 Sw Ss Sd
set_option maxHeartbeats 0 in
theorem all_mk {l:PySem.W.OpenLaw}{w:World}{K:PySem.W.Frag}{h:Heap}{mg:Str→Option Value}{fa f1 f2 f3 f4 f5 f6 f7 f8 f9 Y6 f11 Y7 Y8 Y9 Za Zb Zc Zd Ze Zf VY Zg Zh Zi Zj VZ Zk Zl Zm V0 Zn:Addr}(X:K.In h) (G:h.Ns mainGlobals mg) (RB:mg "law" =some (.ref fa))
  {Tu an1 Tv an2 Tz an3 TF an4 TH an5 TJ an6 TL an7 TM an8 TQ an9 J5 Zo J6 Zp J7 Zq J8 Zr J9 Zs Ka Zt Zu Zv Zw Zx Zy Zz ZA ZC ZD ZE ZF T8 ZG ZI ZJ ZK ZL ZM ZN ZO ZP T9 ZQ ZR ZS ZT ZU ZV ZW Ua ZX Ub:Option Addr}{sl1 sl2 sl3 sl4 sl5 sl6 sl7 sl8 sl9 ZY ZZ Z0 Z1 Z2 Z3 Z4 Z5 Z6 Z7 Z8 Z9 aaa aab aac aad aae aaf aag aah aai aaj:Array (Option Value)} {oc1 kV1 dc1 pm1 cd1 SQ oc2 kV2 dc2 pm2 cd2 SR oc3 kV3 dc3 pm3 cd3 Qj oc4 kV4 dc4 pm4 cd4 Qk oc5 kV5 dc5 pm5 cd5 Ql oc6 kV6 dc6 pm6 cd6 Qm oc7 kV7 dc7 pm7 cd7 Qn oc8 kV8 dc8 pm8 cd8 Kz oc9 kV9 dc9 pm9 cd9 GH aam aan aao aap Uc v9 aaq aar aas aat Ud OP aau aav aaw aax Ue OQ aay aaz aaA aaB Ug OR aaC aaD aaE aaF Uh aaG aaH aaI aaJ aaK Ui aaL aaM aaN aaO aaP Uj aaQ aaR aaS aaT aaU Uk aaV aaW aaX aaY aaZ Ul aa0 aa1 aa2 aa3 aa4 Um aa5 aa6 aa7 aa8 aa9 Uo aba abb Up Uq Ur Po Us abd abe abf abg Ut abh abi abj abk abl Uu abm abn abo abp abq Uv abr abt abu abv abw Uw abx aby Ux Uy Uz Pp UA abz abA abB abC UB abD abE abF abG abH UC abI abJ abK abL abM UD abN abO UE UG UH Pq UI abP UJ UK UL Pr UM:Value}{m6 xR kg kq pF ng ni:Tok}{rM:Addr}{CZ:List DictEntry}{Kn:Nat}{iA:Addr}{vH:List Value}{Ht:Nat}{Hu:Option Addr}{Hv:Array (Option Value)}{oh:Addr}{z9:List DictEntry}{Hw:Nat}{uJ:Addr}{ym:List Value}{Ko:Nat}{Kp:Option Addr}{Kq:Array (Option Value)}
  (a1:PySem.W.nsIn K mainGlobals "is_whole" =some (some (.ref f1))) (l1:K.lookup f1=some ⟨oc1,Tu,.func (PySem.W.fnOf "is_whole" "is_whole" (bS j8) (bN j8) (aH j8) .none kV1 dc1 pm1 an1 cd1 SQ),sl1⟩) (c1:PySem.W.codeIn K cd1 "is_whole" =true) (k1:PySem.W.keepIn K (.ref f1)=true)
  (a2:PySem.W.nsIn K mainGlobals "is_tuple" =some (some (.ref f2))) (l2:K.lookup f2=some ⟨oc2,Tv,.func (PySem.W.fnOf "is_tuple" "is_tuple" (bS j9) (bN j9) (aH j9) .none kV2 dc2 pm2 an2 cd2 SR),sl2⟩) (c2:PySem.W.codeIn K cd2 "is_tuple" =true) (k2:PySem.W.keepIn K (.ref f2)=true)
  (a3:PySem.W.nsIn K mainGlobals "is_name" =some (some (.ref f3))) (l3:K.lookup f3=some ⟨oc3,Tz,.func (PySem.W.fnOf "is_name" "is_name" (bS lK) (bN lK) (aH lK) .none kV3 dc3 pm3 an3 cd3 Qj),sl3⟩) (c3:PySem.W.codeIn K cd3 "is_name" =true) (k3:PySem.W.keepIn K (.ref f3)=true)
  (a4:PySem.W.nsIn K mainGlobals "is_test_among" =some (some (.ref f4))) (l4:K.lookup f4=some ⟨oc4,TF,.func (PySem.W.fnOf "is_test_among" "is_test_among" (bS fG) (bN fG) (aH fG) .none kV4 dc4 pm4 an4 cd4 Qk),sl4⟩) (c4:PySem.W.codeIn K cd4 "is_test_among" =true) (k4:PySem.W.keepIn K (.ref f4)=true)
  (a5:PySem.W.nsIn K mainGlobals "parts_of" =some (some (.ref f5))) (l5:K.lookup f5=some ⟨oc5,TH,.func (PySem.W.fnOf "parts_of" "parts_of" (bS kj) (bN kj) (aH kj) .none kV5 dc5 pm5 an5 cd5 Ql),sl5⟩) (c5:PySem.W.codeIn K cd5 "parts_of" =true) (k5:PySem.W.keepIn K (.ref f5)=true)
  (a6:PySem.W.nsIn K mainGlobals "bound_within" =some (some (.ref f6))) (l6:K.lookup f6=some ⟨oc6,TJ,.func (PySem.W.fnOf "bound_within" "bound_within" (bS gj) (bN gj) (aH gj) .none kV6 dc6 pm6 an6 cd6 Qm),sl6⟩) (c6:PySem.W.codeIn K cd6 "bound_within" =true) (k6:PySem.W.keepIn K (.ref f6)=true)
  (a7:PySem.W.nsIn K mainGlobals "is_shaped" =some (some (.ref f7))) (l7:K.lookup f7=some ⟨oc7,TL,.func (PySem.W.fnOf "is_shaped" "is_shaped" (bS jv) (bN jv) (aH jv) .none kV7 dc7 pm7 an7 cd7 Qn),sl7⟩) (c7:PySem.W.codeIn K cd7 "is_shaped" =true) (k7:PySem.W.keepIn K (.ref f7)=true)
  (a8:PySem.W.nsIn K mainGlobals "is_formed" =some (some (.ref f8))) (l8:K.lookup f8=some ⟨oc8,TM,.func (PySem.W.fnOf "is_formed" "is_formed" (bS fP) (bN fP) (aH fP) .none kV8 dc8 pm8 an8 cd8 Kz),sl8⟩) (c8:PySem.W.codeIn K cd8 "is_formed" =true) (k8:PySem.W.keepIn K (.ref f8)=true)
  (a9:PySem.W.nsIn K mainGlobals "all_in" =some (some (.ref f9))) (l9:K.lookup f9=some ⟨oc9,TQ,.func (PySem.W.fnOf "all_in" "all_in" (bS jS) (bN jS) (aH jS) .none kV9 dc9 pm9 an9 cd9 GH),sl9⟩) (c9:PySem.W.codeIn K cd9 "all_in" =true) (k9:PySem.W.keepIn K (.ref f9)=true)
  (a10:PySem.W.nsIn K mainGlobals "binders_in" =some (some (.ref Y6))) (l10:K.lookup Y6=some ⟨aam,J5,.func (PySem.W.fnOf "binders_in" "binders_in" (bS iI) (bN iI) (aH iI) .none aan aao aap Zo Uc v9),ZY⟩) (c10:PySem.W.codeIn K Uc "binders_in" =true) (V1:PySem.W.keepIn K (.ref Y6)=true)
  (a11:PySem.W.nsIn K mainGlobals "is_saying" =some (some (.ref f11))) (l11:K.lookup f11=some ⟨aaq,J6,.func (PySem.W.fnOf "is_saying" "is_saying" (bS jw) (bN jw) (aH jw) .none aar aas aat Zp Ud OP),ZZ⟩) (c11:PySem.W.codeIn K Ud "is_saying" =true) (V2:PySem.W.keepIn K (.ref f11)=true)
  (a12:PySem.W.nsIn K mainGlobals "is_basic" =some (some (.ref Y7))) (l12:K.lookup Y7=some ⟨aau,J7,.func (PySem.W.fnOf "is_basic" "is_basic" (bS kB) (bN kB) (aH kB) .none aav aaw aax Zq Ue OQ),Z0⟩) (c12:PySem.W.codeIn K Ue "is_basic" =true) (NZ:PySem.W.keepIn K (.ref Y7)=true)
  (a13:PySem.W.nsIn K mainGlobals "size" =some (some (.ref Y8))) (l13:K.lookup Y8=some ⟨aay,J8,.func (PySem.W.fnOf "size" "size" (bS vA) (bN vA) (aH vA) .none aaz aaA aaB Zr Ug OR),Z1⟩) (c13:PySem.W.codeIn K Ug "size" =true) (V3:PySem.W.keepIn K (.ref Y8)=true)
  (a14:PySem.W.nsIn K mainGlobals "is_thing" =some (some (.ref Y9))) (l14:K.lookup Y9=some ⟨aaC,J9,.func (PySem.W.fnOf "is_thing" "is_thing" (bS kC) (bN kC) (aH kC) .none aaD aaE aaF Zs Uh aaG),Z2⟩) (c14:PySem.W.codeIn K Uh "is_thing" =true) (V4:PySem.W.keepIn K (.ref Y9)=true)
  (a15:PySem.W.nsIn K mainGlobals "is_bunch" =some (some (.ref Za))) (l15:K.lookup Za=some ⟨aaH,Ka,.func (PySem.W.fnOf "is_bunch" "is_bunch" (bS kD) (bN kD) (aH kD) .none aaI aaJ aaK Zt Ui aaL),Z3⟩) (c15:PySem.W.codeIn K Ui "is_bunch" =true) (V5:PySem.W.keepIn K (.ref Za)=true)
  (a16:PySem.W.nsIn K mainGlobals "is_stand" =some (some (.ref Zb))) (l16:K.lookup Zb=some ⟨aaM,Zu,.func (PySem.W.fnOf "is_stand" "is_stand" (bS kE) (bN kE) (aH kE) .none aaN aaO aaP Zv Uj aaQ),Z4⟩) (c16:PySem.W.codeIn K Uj "is_stand" =true) (V6:PySem.W.keepIn K (.ref Zb)=true)
  (a17:PySem.W.nsIn K mainGlobals "_law_feed" =some (some (.ref Zc))) (l17:K.lookup Zc=some ⟨aaR,Zw,.func (PySem.W.fnOf "_law_feed" "_law_feed" (bS jx) (bN jx) (aH jx) .none aaS aaT aaU Zx Uk aaV),Z5⟩) (c17:PySem.W.codeIn K Uk "_law_feed" =true) (V7:PySem.W.keepIn K (.ref Zc)=true)
  (a18:PySem.W.nsIn K mainGlobals "_law_draw" =some (some (.ref Zd))) (l18:K.lookup Zd=some ⟨aaW,Zy,.func (PySem.W.fnOf "_law_draw" "_law_draw" (bS jy) (bN jy) (aH jy) .none aaX aaY aaZ Zz Ul aa0),Z6⟩) (c18:PySem.W.codeIn K Ul "_law_draw" =true) (KH:PySem.W.keepIn K (.ref Zd)=true)
  (a19:PySem.W.nsIn K mainGlobals "_law_table" =some (some (.ref Ze))) (l19:K.lookup Ze=some ⟨aa1,ZA,.func (PySem.W.fnOf "_law_table" "_law_table" (bS iJ) (bN iJ) (aH iJ) .none aa2 aa3 aa4 ZC Um aa5),Z7⟩) (c19:PySem.W.codeIn K Um "_law_table" =true) (V8:PySem.W.keepIn K (.ref Ze)=true)
  (a20:PySem.W.nsIn K mainGlobals "_law_test" =some (some (.ref Zf))) (l20:K.lookup Zf=some ⟨aa6,ZD,.func (PySem.W.fnOf "_law_test" "_law_test" (bS jz) (bN jz) (aH jz) .none aa7 aa8 aa9 ZE Uo aba),Z8⟩) (c20:PySem.W.codeIn K Uo "_law_test" =true) (V9:PySem.W.keepIn K (.ref Zf)=true)
  (a21:PySem.W.nsIn K mainGlobals "_law_saying" =some (some (.ref VY))) (l21:K.lookup VY=some ⟨abb,ZF,.func (PySem.W.fnOf "_law_saying" "_law_saying" (bS dR) (bN dR) (aH dR) .none Up Uq Ur T8 Po Us),Z9⟩) (c21:PySem.W.codeIn K Po "_law_saying" =true) (UN:PySem.W.keepIn K (.ref VY)=true)
  (a22:PySem.W.nsIn K mainGlobals "_law_any_stand" =some (some (.ref Zg))) (l22:K.lookup Zg=some ⟨abd,ZG,.func (PySem.W.fnOf "_law_any_stand" "_law_any_stand" (bS fc) (bN fc) (aH fc) .none abe abf abg ZI Ut abh),aaa⟩) (c22:PySem.W.codeIn K Ut "_law_any_stand" =true) (Wa:PySem.W.keepIn K (.ref Zg)=true)
  (a23:PySem.W.nsIn K mainGlobals "_law_name" =some (some (.ref Zh))) (l23:K.lookup Zh=some ⟨abi,ZJ,.func (PySem.W.fnOf "_law_name" "_law_name" (bS jA) (bN jA) (aH jA) .none abj abk abl ZK Uu abm),aab⟩) (c23:PySem.W.codeIn K Uu "_law_name" =true) (UO:PySem.W.keepIn K (.ref Zh)=true)
  (a24:PySem.W.nsIn K mainGlobals "_law_whole" =some (some (.ref Zi))) (l24:K.lookup Zi=some ⟨abn,ZL,.func (PySem.W.fnOf "_law_whole" "_law_whole" (bS iK) (bN iK) (aH iK) .none abo abp abq ZM Uv abr),aac⟩) (c24:PySem.W.codeIn K Uv "_law_whole" =true) (UP:PySem.W.keepIn K (.ref Zi)=true)
  (a25:PySem.W.nsIn K mainGlobals "_law_is_test" =some (some (.ref Zj))) (l25:K.lookup Zj=some ⟨abt,ZN,.func (PySem.W.fnOf "_law_is_test" "_law_is_test" (bS gm) (bN gm) (aH gm) .none abu abv abw ZO Uw abx),aad⟩) (c25:PySem.W.codeIn K Uw "_law_is_test" =true) (Wb:PySem.W.keepIn K (.ref Zj)=true)
  (a26:PySem.W.nsIn K mainGlobals "_law_count" =some (some (.ref VZ))) (l26:K.lookup VZ=some ⟨aby,ZP,.func (PySem.W.fnOf "_law_count" "_law_count" (bS eL) (bN eL) (aH eL) .none Ux Uy Uz T9 Pp UA),aae⟩) (c26:PySem.W.codeIn K Pp "_law_count" =true) (UQ:PySem.W.keepIn K (.ref VZ)=true)
  (a27:PySem.W.nsIn K mainGlobals "_law_is_basic" =some (some (.ref Zk))) (l27:K.lookup Zk=some ⟨abz,ZQ,.func (PySem.W.fnOf "_law_is_basic" "_law_is_basic" (bS fH) (bN fH) (aH fH) .none abA abB abC ZR UB abD),aaf⟩) (c27:PySem.W.codeIn K UB "_law_is_basic" =true) (Wc:PySem.W.keepIn K (.ref Zk)=true)
  (a28:PySem.W.nsIn K mainGlobals "_law_due" =some (some (.ref Zl))) (l28:K.lookup Zl=some ⟨abE,ZS,.func (PySem.W.fnOf "_law_due" "_law_due" (bS kF) (bN kF) (aH kF) .none abF abG abH ZT UC abI),aag⟩) (c28:PySem.W.codeIn K UC "_law_due" =true) (Wd:PySem.W.keepIn K (.ref Zl)=true)
  (a29:PySem.W.nsIn K mainGlobals "_law_odd" =some (some (.ref Zm))) (l29:K.lookup Zm=some ⟨abJ,ZU,.func (PySem.W.fnOf "_law_odd" "_law_odd" (bS kG) (bN kG) (aH kG) .none abK abL abM ZV UD abN),aah⟩) (c29:PySem.W.codeIn K UD "_law_odd" =true) (UR:PySem.W.keepIn K (.ref Zm)=true)
  (a30:PySem.W.nsIn K mainGlobals "_law_bent" =some (some (.ref V0))) (l30:K.lookup V0=some ⟨abO,ZW,.func (PySem.W.fnOf "_law_bent" "_law_bent" (bS fQ) (bN fQ) (aH fQ) .none UE UG UH Ua Pq UI),aai⟩) (c30:PySem.W.codeIn K Pq "_law_bent" =true) (US:PySem.W.keepIn K (.ref V0)=true)
  (a31:PySem.W.nsIn K mainGlobals "law" =some (some (.ref Zn))) (l31:K.lookup Zn=some ⟨abP,ZX,.func (PySem.W.fnOf "law" "law" (bS uM) (bN uM) (aH uM) .none UJ UK UL Ub Pr UM),aaj⟩) (c31:PySem.W.codeIn K Pr "law" =true) (k31:PySem.W.keepIn K (.ref Zn)=true)
  (nu:PySem.W.nsIn K mainGlobals "LONGEST_NAME" =some (some (.int 8 m6)))
  (yp:PySem.W.nsIn K mainGlobals "LETTERS" =some (some (.str "abcdefghijklmnopqrstuvwxyz" xR)))
  (kI:PySem.W.nsIn K mainGlobals "GREATEST_NUMBER" =some (some (.int 9 kg)))
  (Bg:PySem.W.nsIn K mainGlobals "STARTS" =some (some (.ref rM))) (Bh:K.lookup rM=some ⟨.type "dict",none,.dict CZ.toArray Kn,#[]⟩) (Bj:(rM == sysModules)=false) (Bk:uW w [("yes",1),("no",1),("now",2),("not",1),("both",1),("either",1),("next",1),("till",1),("within",2),("always",1),("some",1),("each",3),("one",3)] CZ)
  (yq:PySem.W.nsIn K mainGlobals "BINDERS" =some (some (.ref iA))) (yr:K.lookup iA=some ⟨.type "tuple",Hu,.seq vH.toArray Ht,Hv⟩) (yt:vH.length≤1000) (yu:xm ["each","one"] vH)
  (yw:PySem.W.nsIn K mainGlobals "LENGTHS" =some (some (.ref oh))) (yx:K.lookup oh=some ⟨.type "dict",none,.dict z9.toArray Hw,#[]⟩) (yy:(oh == sysModules)=false) (yz:uW w [("yes",1),("no",1),("now",2),("not",2),("both",3),("either",3),("next",2),("till",3),("within",3),("always",2),("some",2),("each",4),("one",4)] z9)
  (kJ:PySem.W.nsIn K mainGlobals "GREATEST_WITHIN" =some (some (.int 5 kq)))
  (pL:PySem.W.nsIn K mainGlobals "MOST_WITHIN" =some (some (.int 8 pF)))
  (nA:PySem.W.nsIn K mainGlobals "MOST_SAYINGS" =some (some (.int 16 ng)))
  (nB:PySem.W.nsIn K mainGlobals "MOST_BINDERS" =some (some (.int 3 ni)))
  (Bl:PySem.W.nsIn K mainGlobals "BASICS" =some (some (.ref uJ))) (Bm:K.lookup uJ=some ⟨.type "tuple",Kp,.seq ym.toArray Ko,Kq⟩) (Bo:ym.length≤1000) (Bp:xm ["now","next","till","within","always","some","each","one"] ym)
  (qY:PySem.W.nsIn K mainGlobals "isinstance" =some none) (Pu:PySem.W.nsIn K mainGlobals "int" =some none) (Kr:PySem.W.nsIn K mainGlobals "bool" =some none) (Ei:PySem.W.nsIn K mainGlobals "tuple" =some none) (Pw:PySem.W.nsIn K mainGlobals "len" =some none) (Px:PySem.W.nsIn K mainGlobals "str" =some none) (Py:PySem.W.nsIn K mainGlobals "all" =some none) (Ks:PySem.W.nsIn K mainGlobals "list" =some none) (Pz:PySem.W.nsIn K mainGlobals "min" =some none) (Ej:PySem.W.nsIn K mainGlobals "range" =some none) (PB:PySem.W.nsIn K mainGlobals "max" =some none) (PD:PySem.W.nsIn K mainGlobals "sum" =some none) (Ku:PySem.W.nsIn K mainGlobals "repr" =some none):
  ∃fd:FuncData,(∀(s:Shared) (v:Value),BindsTo s fd ⟨[v],[]⟩ [("_law_script",v)])∧∀base:Heap,K.In base→base.Ns mainGlobals mg→bT l.prog w K mg base ff 44 fa fd ["_law_script"] (spT K 1 (DE 63)):=by
 have e:=RB.symm.trans (PySem.W.mg_of X G a31)
 cases e
 have F1:=dw (st:=j8) l1 c1 k1
 have b1:=F1.binds (ps:=["thing","least","most"]) fun _ _ _ _ _ _ us hl=>match us,hl with | [_,_,_],_=>rfl
 have n1:=PySem.W.mg_of X G a1
 have F2:=dw (st:=j9) l2 c2 k2
 have b2:=F2.binds (ps:=["thing","least","most"]) fun _ _ _ _ _ _ us hl=>match us,hl with | [_,_,_],_=>rfl
 have n2:=PySem.W.mg_of X G a2
 have F3:=dw (st:=lK) l3 c3 k3
 have b3:=F3.binds (ps:=["thing"]) fun _ _ _ _ _ _ us hl=>match us,hl with | [_],_=>rfl
 have n3:=PySem.W.mg_of X G a3
 have F4:=dw (st:=fG) l4 c4 k4
 have b4:=F4.binds (ps:=["thing","bound"]) fun _ _ _ _ _ _ us hl=>match us,hl with | [_,_],_=>rfl
 have n4:=PySem.W.mg_of X G a4
 have F5:=dw (st:=kj) l5 c5 k5
 have b5:=F5.binds (ps:=["saying"]) fun _ _ _ _ _ _ us hl=>match us,hl with | [_],_=>rfl
 have n5:=PySem.W.mg_of X G a5
 have F6:=dw (st:=gj) l6 c6 k6
 have b6:=F6.binds (ps:=["saying","bound"]) fun _ _ _ _ _ _ us hl=>match us,hl with | [_,_],_=>rfl
 have n6:=PySem.W.mg_of X G a6
 have F7:=dw (st:=jv) l7 c7 k7
 have b7:=F7.binds (ps:=["thing","bound"]) fun _ _ _ _ _ _ us hl=>match us,hl with | [_,_],_=>rfl
 have n7:=PySem.W.mg_of X G a7
 have F8:=dw (st:=fP) l8 c8 k8
 have b8:=F8.binds (ps:=["thing","bound","room"]) fun _ _ _ _ _ _ us hl=>match us,hl with | [_,_,_],_=>rfl
 have n8:=PySem.W.mg_of X G a8
 have F9:=dw (st:=jS) l9 c9 k9
 have b9:=F9.binds (ps:=["saying"]) fun _ _ _ _ _ _ us hl=>match us,hl with | [_],_=>rfl
 have n9:=PySem.W.mg_of X G a9
 have F10:=dw (st:=iI) l10 c10 V1
 have b10:=F10.binds (ps:=["saying"]) fun _ _ _ _ _ _ us hl=>match us,hl with | [_],_=>rfl
 have n10:=PySem.W.mg_of X G a10
 have F11:=dw (st:=jw) l11 c11 V2
 have b11:=F11.binds (ps:=["thing"]) fun _ _ _ _ _ _ us hl=>match us,hl with | [_],_=>rfl
 have n11:=PySem.W.mg_of X G a11
 have F12:=dw (st:=kB) l12 c12 NZ
 have b12:=F12.binds (ps:=["thing"]) fun _ _ _ _ _ _ us hl=>match us,hl with | [_],_=>rfl
 have n12:=PySem.W.mg_of X G a12
 have F13:=dw (st:=vA) l13 c13 V3
 have b13:=F13.binds (ps:=["saying"]) fun _ _ _ _ _ _ us hl=>match us,hl with | [_],_=>rfl
 have n13:=PySem.W.mg_of X G a13
 have F14:=dw (st:=kC) l14 c14 V4
 have b14:=F14.binds (ps:=["thing"]) fun _ _ _ _ _ _ us hl=>match us,hl with | [_],_=>rfl
 have n14:=PySem.W.mg_of X G a14
 have F15:=dw (st:=kD) l15 c15 V5
 have b15:=F15.binds (ps:=["thing"]) fun _ _ _ _ _ _ us hl=>match us,hl with | [_],_=>rfl
 have n15:=PySem.W.mg_of X G a15
 have F16:=dw (st:=kE) l16 c16 V6
 have b16:=F16.binds (ps:=["thing"]) fun _ _ _ _ _ _ us hl=>match us,hl with | [_],_=>rfl
 have n16:=PySem.W.mg_of X G a16
 have F17:=dw (st:=jx) l17 c17 V7
 have b17:=F17.binds (ps:=["_law_script"]) fun _ _ _ _ _ _ us hl=>match us,hl with | [_],_=>rfl
 have n17:=PySem.W.mg_of X G a17
 have F18:=dw (st:=jy) l18 c18 KH
 have PF:=F18.binds (ps:=["_law_feed_here","_law_many"]) fun _ _ _ _ _ _ us hl=>match us,hl with | [_,_],_=>rfl
 have PJ:=PySem.W.mg_of X G a18
 have KG:=dw (st:=iJ) l19 c19 V8
 have b19:=KG.binds (ps:=["_law_feed_here"]) fun _ _ _ _ _ _ us hl=>match us,hl with | [_],_=>rfl
 have n19:=PySem.W.mg_of X G a19
 have F20:=dw (st:=jz) l20 c20 V9
 have b20:=F20.binds (ps:=["_law_feed_here","_law_table_here","_law_seen"]) fun _ _ _ _ _ _ us hl=>match us,hl with | [_,_,_],_=>rfl
 have n20:=PySem.W.mg_of X G a20
 have F21:=dw (st:=dR) l21 c21 UN
 have b21:=F21.binds (ps:=["_law_feed_here","_law_table_here","_law_seen","_law_bag","_law_deep"]) fun _ _ _ _ _ _ us hl=>match us,hl with | [_,_,_,_,_],_=>rfl
 have n21:=PySem.W.mg_of X G a21
 have F22:=dw (st:=fc) l22 c22 Wa
 have b22:=F22.binds (ps:=["_law_feed_here","_law_table_here"]) fun _ _ _ _ _ _ us hl=>match us,hl with | [_,_],_=>rfl
 have n22:=PySem.W.mg_of X G a22
 have F23:=dw (st:=jA) l23 c23 UO
 have b23:=F23.binds (ps:=["_law_thing"]) fun _ _ _ _ _ _ us hl=>match us,hl with | [_],_=>rfl
 have n23:=PySem.W.mg_of X G a23
 have F24:=dw (st:=iK) l24 c24 UP
 have b24:=F24.binds (ps:=["_law_thing","_law_most"]) fun _ _ _ _ _ _ us hl=>match us,hl with | [_,_],_=>rfl
 have n24:=PySem.W.mg_of X G a24
 have F25:=dw (st:=gm) l25 c25 Wb
 have b25:=F25.binds (ps:=["_law_thing","_law_seen"]) fun _ _ _ _ _ _ us hl=>match us,hl with | [_,_],_=>rfl
 have n25:=PySem.W.mg_of X G a25
 have F26:=dw (st:=eL) l26 c26 UQ
 have b26:=F26.binds (ps:=["_law_thing","_law_seen"]) fun _ _ _ _ _ _ us hl=>match us,hl with | [_,_],_=>rfl
 have n26:=PySem.W.mg_of X G a26
 have F27:=dw (st:=fH) l27 c27 Wc
 have b27:=F27.binds (ps:=["_law_thing"]) fun _ _ _ _ _ _ us hl=>match us,hl with | [_],_=>rfl
 have n27:=PySem.W.mg_of X G a27
 have F28:=dw (st:=kF) l28 c28 Wd
 have b28:=F28.binds (ps:=["_law_thing"]) fun _ _ _ _ _ _ us hl=>match us,hl with | [_],_=>rfl
 have n28:=PySem.W.mg_of X G a28
 have F29:=dw (st:=kG) l29 c29 UR
 have b29:=F29.binds (ps:=["_law_feed_here"]) fun _ _ _ _ _ _ us hl=>match us,hl with | [_],_=>rfl
 have n29:=PySem.W.mg_of X G a29
 have F30:=dw (st:=fQ) l30 c30 US
 have b30:=F30.binds (ps:=["_law_feed_here","_law_thing","_law_deep"]) fun _ _ _ _ _ _ us hl=>match us,hl with | [_,_,_],_=>rfl
 have n30:=PySem.W.mg_of X G a30
 have F31:=dw (st:=uM) l31 c31 k31
 have aI:=PySem.W.mg_none_of X G qY
 have G2:=PySem.W.mg_none_of X G Pu
 have mj:=PySem.W.mg_none_of X G Kr
 have dB:=PySem.W.mg_none_of X G Ei
 have dO:=PySem.W.mg_none_of X G Pw
 have r9:=PySem.W.mg_none_of X G Px
 have wc:=PySem.W.mg_none_of X G Py
 have uK:=PySem.W.mg_none_of X G Ks
 have Pj:=PySem.W.mg_none_of X G Pz
 have jg:=PySem.W.mg_none_of X G Ej
 have Pk:=PySem.W.mg_none_of X G PB
 have MA:=PySem.W.mg_none_of X G PD
 have Fj:=PySem.W.mg_none_of X G Ku
 have m8:=PySem.W.mg_of X G nu
 have xS:=PySem.W.mg_of X G yp
 have kh:=PySem.W.mg_of X G kI
 have AV:=PySem.W.mg_of X G Bg
 have AW:=EY (P:=l.prog) Bh Bj Bk
 have jQ:=PySem.W.mg_of X G yq
 have jR:=EZ yr yt yu
 have xT:=PySem.W.mg_of X G yw
 have xU:=EY (P:=l.prog) yx yy yz
 have kr:=PySem.W.mg_of X G kJ
 have pG:=PySem.W.mg_of X G pL
 have nh:=PySem.W.mg_of X G nA
 have nj:=PySem.W.mg_of X G nB
 have A7:=PySem.W.mg_of X G Bl
 have A8:=EZ Bm Bo Bp
 refine⟨PySem.W.fnOf "law" "law" (bS uM) (bN uM) (aH uM) .none UJ UK UL Ub Pr UM,fun s v=>.of_eq rfl,fun base _ _=>?_⟩
 have Aa:=Cz (P:=l.prog) (w:=w) (K:=K) (mg:=mg) (base:=base) (n:=0) F1 aI G2 mj (fm:=qw) whole_run
 have vI:=CB (P:=l.prog) (w:=w) (K:=K) (mg:=mg) (base:=base) (n:=0) F2 aI dB dO (fm:=mZ) Gj
 have C0:=DY (P:=l.prog) (w:=w) (K:=K) (mg:=mg) (base:=base) (n:=0) F3 aI r9 dO wc m8 xS (fm:=lD) Ji
 have Ab:=CD (P:=l.prog) (w:=w) (K:=K) (mg:=mg) (base:=base) (n:=0) F5 AV AW (fm:=m5) Gr
 have zg:=wg (P:=l.prog) (w:=w) (K:=K) (mg:=mg) (base:=base) (n:=0) F6 jQ jR (fm:=oV) Gs
 have Ek:=Ba (P:=l.prog) (w:=w) (K:=K) (mg:=mg) (base:=base) (n:=0) F17 uK (fm:=pO) Cc
 have jj:=Bb (P:=l.prog) (w:=w) (K:=K) (mg:=mg) (base:=base) (n:=0) F18 dO (fm:=cg) JL
 have yC:=Be (P:=l.prog) (w:=w) (K:=K) (mg:=mg) (base:=base) (n:=0) F23 aI r9 dO (fm:=lD) GF
 have vW:=yZ (P:=l.prog) (w:=w) (K:=K) (mg:=mg) (base:=base) (n:=0) F24 aI G2 mj (fm:=iU) DL
 have yD:=vg (P:=l.prog) (w:=w) (K:=K) (mg:=mg) (base:=base) (n:=1) F4 dO kh (vI.mono (by omega)) b2 k2 n2 (C0.mono (by omega)) b3 k3 n3 (Aa.mono (by omega)) b1 k1 n1 (fm:=nM) Jl
 have C1:=yX (P:=l.prog) (w:=w) (K:=K) (mg:=mg) (base:=base) (n:=1) KG dB (jj.mono (by omega)) PF KH PJ (fm:=Sd.pC) Sd.GV
 have El:=Bc (P:=l.prog) (w:=w) (K:=K) (mg:=mg) (base:=base) (n:=1) F20 dO (jj.mono (by omega)) PF KH PJ (fm:=KC) O1
 have zh:=wk (P:=l.prog) (w:=w) (K:=K) (mg:=mg) (base:=base) (n:=1) F25 aI dB dO r9 (yC.mono (by omega)) b23 UO n23 (vW.mono (by omega)) b24 UP n24 (fm:=ir) GG
 have Ac:=CT (P:=l.prog) (w:=w) (K:=K) (mg:=mg) (base:=base) (n:=1) F29 jg dO (jj.mono (by omega)) PF KH PJ (fm:=Sd.sS) Sd.Mq
 have Em:=AX (P:=l.prog) (w:=w) (K:=K) (mg:=mg) (base:=base) (n:=2) F7 aI r9 dO xT xU kr jQ jR (vI.mono (by omega)) b2 k2 n2 (yD.mono (by omega)) b4 k4 n4 (Aa.mono (by omega)) b1 k1 n1 (C0.mono (by omega)) b3 k3 n3 (fm:=fu) DH
 have Bq:∀j:Nat,bT l.prog w K mg base ff (j+2) VY (PySem.W.fnOf "_law_saying" "_law_saying" (bS dR) (bN dR) (aH dR) .none Up Uq Ur T8 Po Us) ["_law_feed_here","_law_table_here","_law_seen","_law_bag","_law_deep"] (spT K 5 (Sd.lB j)):=by
  intro j
  induction j with
  | zero=>exact xx Sd.G0
  | succ j ih=>exact(ya (P:=l.prog) (w:=w) (K:=K) (mg:=mg) (base:=base) (n:=j+2) F21 Pj dO (jj.mono (by omega)) PF KH PJ (El.mono (by omega)) b20 V9 n20 ih b21 UN n21 (Sd.Mc j)).mono (by omega)
 have Br:=Bq 4
 have wB:=uL (P:=l.prog) (w:=w) (K:=K) (mg:=mg) (base:=base) (n:=6) F22 jg dO dB (jj.mono (by omega)) PF KH PJ (Br.mono (by omega)) b21 UN n21 (fm:=anyF) Mh
 have En:∀j:Nat,bT l.prog w K mg base ff (j+2) V0 (PySem.W.fnOf "_law_bent" "_law_bent" (bS fQ) (bN fQ) (aH fQ) .none UE UG UH Ua Pq UI) ["_law_feed_here","_law_thing","_law_deep"] (spT K 3 (Sd.kR j)):=by
  intro j
  induction j with
  | zero=>exact xx Sd.DV
  | succ j ih=>exact(Bf (P:=l.prog) (w:=w) (K:=K) (mg:=mg) (base:=base) (n:=j+2) F30 aI dB dO uK (jj.mono (by omega)) PF KH PJ ih b30 US n30 (Ac.mono (by omega)) b29 UR n29 (Sd.Ke j)).mono (by omega)
 have Eo:=En 7
 have MB:∀j:Nat,bT l.prog w K mg base ff (j+1) f9 (PySem.W.fnOf "all_in" "all_in" (bS jS) (bN jS) (aH jS) .none kV9 dc9 pm9 an9 cd9 GH) ["saying"] (spT K 1 (xC j)):=by
  intro j
  induction j with
  | zero=>exact xx G1
  | succ j ih=>exact(G3 (P:=l.prog) (w:=w) (K:=K) (mg:=mg) (base:=base) (n:=j+1) F9 (Ab.mono (by omega)) b5 k5 n5 ih b9 k9 n9 (LO j)).mono (by omega)
 have Fl:=MB 9
 have C2:=yW (P:=l.prog) (w:=w) (K:=K) (mg:=mg) (base:=base) (n:=10) F10 dO jQ jR (Fl.mono (by omega)) b9 k9 n9 (fm:=zU) Jr
 have UT:=Mz (P:=l.prog) (w:=w) (K:=K) (mg:=mg) (base:=base) (n:=10) F13 dO (Fl.mono (by omega)) b9 k9 n9 (fm:=zT) Jq
 have Ep:∀j:Nat,bT l.prog w K mg base ff (j+3) f8 (PySem.W.fnOf "is_formed" "is_formed" (bS fP) (bN fP) (aH fP) .none kV8 dc8 pm8 an8 cd8 Kz) ["thing","bound","room"] (spT K 3 (qA j)):=by
  intro j
  induction j with
  | zero=>exact xx DW
  | succ j ih=>exact(AY (P:=l.prog) (w:=w) (K:=K) (mg:=mg) (base:=base) (n:=j+3) F8 wc (Em.mono (by omega)) b7 k7 n7 (zg.mono (by omega)) b6 k6 n6 (Ab.mono (by omega)) b5 k5 n5 ih b8 k8 n8 (Jo j)).mono (by omega)
 have Er:=Ep 9
 have Es:=A0 (P:=l.prog) (w:=w) (K:=K) (mg:=mg) (base:=base) (n:=12) F11 pG nh nj (Er.mono (by omega)) b8 k8 n8 (UT.mono (by omega)) b13 V3 n13 (C2.mono (by omega)) b10 V1 n10 (fm:=oY) GC
 have Hx:=CK (P:=l.prog) (w:=w) (K:=K) (mg:=mg) (base:=base) (n:=13) F12 A7 A8 (Es.mono (by omega)) b11 V2 n11 (fm:=xG) GL
 have Hy:=CM (P:=l.prog) (w:=w) (K:=K) (mg:=mg) (base:=base) (n:=14) F14 aI mj (vI.mono (by omega)) b2 k2 n2 (Hx.mono (by omega)) b12 NZ n12 (fm:=xH) GN
 have Hz:=CO (P:=l.prog) (w:=w) (K:=K) (mg:=mg) (base:=base) (n:=15) F15 aI dB wc (Hy.mono (by omega)) b14 V4 n14 (fm:=vc) GO
 have HA:=CQ (P:=l.prog) (w:=w) (K:=K) (mg:=mg) (base:=base) (n:=16) F16 aI dB wc (Hz.mono (by omega)) b15 V5 n15 (fm:=pB) GP
 have C4:∀j:Nat,bT l.prog w K mg base ff (j+2) VZ (PySem.W.fnOf "_law_count" "_law_count" (bS eL) (bN eL) (aH eL) .none Ux Uy Uz T9 Pp UA) ["_law_thing","_law_seen"] (spT K 2 (lA j)):=by
  intro j
  induction j with
  | zero=>exact xx Cw
  | succ j ih=>exact(y9 (P:=l.prog) (w:=w) (K:=K) (mg:=mg) (base:=base) (n:=j+2) F26 aI dB dO r9 uK Pk MA (zh.mono (by omega)) b25 Wb n25 (vW.mono (by omega)) b24 UP n24 (yC.mono (by omega)) b23 UO n23 ih b26 UQ n26 (GK j)).mono (by omega)
 have C5:=C4 39
 have yE:=vE (P:=l.prog) (w:=w) (K:=K) (mg:=mg) (base:=base) (n:=41) F27 (C5.mono (by omega)) b26 UQ n26 (fm:=mO) DQ
 have HB:=CS (P:=l.prog) (w:=w) (K:=K) (mg:=mg) (base:=base) (n:=42) F28 aI dB dO mj (yE.mono (by omega)) b27 Wc n27 (fm:=xK) L4
 exact Pn (P:=l.prog) (w:=w) (K:=K) (mg:=mg) (base:=base) (n:=43) F31 jg Fj aI mj (Ek.mono (by omega)) b17 V7 n17 (C1.mono (by omega)) b19 V8 n19 (wB.mono (by omega)) b22 Wa n22 (HA.mono (by omega)) b16 V6 n16 (Eo.mono (by omega)) b30 US n30 (jj.mono (by omega)) PF KH PJ (Ac.mono (by omega)) b29 UR n29 (HB.mono (by omega)) b28 Wd n28 GZ
theorem walk {l:PySem.W.OpenLaw}{q:Program}{loose:List Str}{XP:(Str→Option Value)→Heap→Prop}{YP:World→Heap→Prop}{d:DefRec}{K:Params→PySem.W.Frag}(hn:l.most=some 63) (hdf:d.params.defaults=[])
  (hY:∀(w:World) (h:Heap),YP w h→(K w.params).In h)
  (F:∀(w:World) (mg:Str→Option Value) (fa:Addr) (h:Heap),(K w.params).In h→h.Ns mainGlobals mg→mg d.name=some (.ref fa)→
   ∃fd:FuncData,(∀(s:Shared) (u:Value),BindsTo s fd ⟨[u],[]⟩ [("_law_script",u)])∧∀base:Heap,(K w.params).In base→base.Ns mainGlobals mg→bT l.prog w (K w.params) mg base ff 44 fa fd ["_law_script"] (spT (K w.params) 1 (DE 63))):
  PySem.W.WalkO q loose XP YP l.row.toRowW d [] (fun f vs=>PySem.call f vs):=
 L2.Le (n:=63) (k:=44) (x:="_law_script") (CX:=fun _=>ff) (sp:=fun w=>spT (K w.params) 1 (DE 63)) hn (by decide) hdf ⟨rfl,by decide,by decide,rfl⟩ hY F (fun w H a ns hl hO hS=>OJ hl hO hS) fun _ _ _ _ _ z=>z
end K19
open PySem PySem.W PyProof.Rows
noncomputable def PySem.W.Fast.tw12482745975376169442:Nat→Stmt:=K19.top
theorem PySem.W.Fast.te12482745975376169442:K19.top=PySem.W.Fast.tw12482745975376169442:=rfl
def K19.sc:Scope:=PySem.Challenge.pw_surewatch_k19_what_is_a_stand.main.scope
noncomputable def PySem.W.Fast.tw1656318182655241046:Scope:=K19.sc
theorem PySem.W.Fast.te1656318182655241046:K19.sc=PySem.W.Fast.tw1656318182655241046:=rfl
def K19.pw:Program:={main:={body:=[K19.top 0,K19.top 1,K19.top 2,K19.top 3,K19.top 4,K19.top 5,K19.top 6,K19.top 7,K19.top 8,K19.top 9,K19.top 10,K19.top 11,K19.top 12,K19.top 13,K19.top 14,K19.top 15,K19.top 16,K19.top 17,K19.top 18,K19.top 19,K19.top 20,K19.top 21,K19.top 22,K19.top 23,K19.top 24,K19.top 25,K19.top 26,K19.top 27,K19.top 28,K19.top 29,K19.top 30,K19.top 31,K19.top 32,K19.top 33,K19.top 34,K19.top 35,K19.top 36,K19.top 37,K19.top 38,K19.top 39,K19.top 40,K19.top 41,K19.top 42,K19.top 43,K19.top 44,K19.top 45,K19.top 46],scope:=K19.sc,futureAnnotations:=false,file:="/claim/cut.py",more:=[]},modules:=[],parses:=[],absent:=[],harvested:=[],given:={argv:=[],stdin:=[],environ:=some [([76,67,95,65,76,76],[67,46,85,84,70,45,56])]}}
def K19.rw:OpenLaw:={prog:=K19.pw,name:=(PySem.Str.ofString "law"),about:=[(PySem.Str.ofString "is_stand")],foot:=15,most:=some 63,bound:=none,writes:=false}
noncomputable def PySem.W.Fast.tw17324883246054556756:=0
noncomputable def PySem.W.Fast.tw752114349489831570:=0
noncomputable def PySem.W.Fast.tw695506851288886422:=0
noncomputable def PySem.W.Fast.tw17916022260007711438:=0
noncomputable def PySem.W.Fast.tw8856697235567131404:=0
noncomputable def PySem.W.Fast.tw3826251907290183682:=0
noncomputable def PySem.W.Fast.tw3710258830246360609:=0
noncomputable def PySem.W.Fast.tw11231661343949022085:=0
noncomputable def PySem.W.Fast.tw2435464109989386150:=0
noncomputable def PySem.W.Fast.tw588062635818650457:=0
noncomputable def PySem.W.Fast.tw1498938319696021937:=0
noncomputable def PySem.W.Fast.tw5892998915732590648:=0
noncomputable def PySem.W.Fast.tw8457464978574909328:=0
noncomputable def PySem.W.Fast.tw13637030345539227442:=0
noncomputable def PySem.W.Fast.tw6527902426305445113:=0
noncomputable def PySem.W.Fast.tw3051186923999160705:=0
noncomputable def PySem.W.Fast.tw5432932466868213829:=0
noncomputable def PySem.W.Fast.tw13011640484717645794:=0
noncomputable def PySem.W.Fast.tw3321871164921693600:=0
noncomputable def PySem.W.Fast.tw11853876199025603921:=0
noncomputable def PySem.W.Fast.tw17188117547990105409:=0
noncomputable def PySem.W.Fast.tw782562470667349407:=0
noncomputable def PySem.W.Fast.tw2389027336237075394:=0
noncomputable def PySem.W.Fast.tw6712447871435925007:=0
noncomputable def PySem.W.Fast.tw3843607345596309408:=0
noncomputable def PySem.W.Fast.tw8209761530726485580:=0
noncomputable def PySem.W.Fast.tw15901532295682906758:=0
noncomputable def PySem.W.Fast.tw10846293641853083134:=0
noncomputable def PySem.W.Fast.tw10682279680341763674:=0
noncomputable def PySem.W.Fast.tw16320738286161940074:=0
noncomputable def PySem.W.Fast.tw12069168915592114789:=0
noncomputable def PySem.W.Fast.tw8711476492568336825:=0
noncomputable def PySem.W.Fast.tw7206083045597844980:=0
noncomputable def PySem.W.Fast.tw9243984821410156539:=0
noncomputable def PySem.W.Fast.tw6775587928700153627:=0
noncomputable def PySem.W.Fast.tw5643412697404141799:=0
noncomputable def PySem.W.Fast.tw12256375797095285978:=0
noncomputable def PySem.W.Fast.tw6084590310267573211:=0
noncomputable def PySem.W.Fast.tw8969990324719671492:=0
noncomputable def PySem.W.Fast.tw3206821563485649337:=0
noncomputable def PySem.W.Fast.tw11445822126855169652:=0
noncomputable def PySem.W.Fast.tw15602160451786423588:=0
noncomputable def PySem.W.Fast.tw5516705654748175962:=0
noncomputable def PySem.W.Fast.tw17137462146064826181:=0
noncomputable def PySem.W.Fast.tw5374511856803613221:=0
noncomputable def PySem.W.Fast.tw9093768271223726282:=0
noncomputable def PySem.W.Fast.tw4934997312659146584:=0
noncomputable def PySem.W.Fast.tw2047999282655339255:=0
noncomputable def PySem.W.Fast.tw6521095736776662538:=0
noncomputable def PySem.W.Fast.tw10695331213406608883:=0
noncomputable def PySem.W.Fast.tw11239439730000459889:=0
noncomputable def PySem.W.Fast.tw13566277728559472053:=0
noncomputable def PySem.W.Fast.tw3693255015588405416:=0
noncomputable def PySem.W.Fast.tw13887245790196710010:=0
noncomputable def PySem.W.Fast.tw7961987915336528797:=0
set_option maxRecDepth 100000 in
set_option maxHeartbeats 0 in
theorem K19.holds:K19.rw.Holds:=by
 w_on;o_law;k_head;(case hw=>w_witness2)
 k_fill
 refine K19.walk (l:=K19.rw) rfl rfl (fun w h Y=>PySem.W.kIn_of Y) ?F
 case F=>
  intro w mg fa h KX G hmg
  refine' K19.all_mk KX G hmg ?a1 ?l1 ?c1 ?k1 ?a2 ?l2 ?c2 ?k2 ?a3 ?l3 ?c3 ?k3 ?a4 ?l4 ?c4 ?k4 ?a5 ?l5 ?c5 ?k5 ?a6 ?l6 ?c6 ?k6 ?a7 ?l7 ?c7 ?k7 ?a8 ?l8 ?c8 ?k8 ?a9 ?l9 ?c9 ?k9 ?a10 ?l10 ?c10 ?V1 ?a11 ?l11 ?c11 ?V2 ?a12 ?l12 ?c12 ?NZ ?a13 ?l13 ?c13 ?V3 ?a14 ?l14 ?c14 ?V4 ?a15 ?l15 ?c15 ?V5 ?a16 ?l16 ?c16 ?V6 ?a17 ?l17 ?c17 ?V7 ?a18 ?l18 ?c18 ?KH ?a19 ?l19 ?c19 ?V8 ?a20 ?l20 ?c20 ?V9 ?a21 ?l21 ?c21 ?UN ?a22 ?l22 ?c22 ?Wa ?a23 ?l23 ?c23 ?UO ?a24 ?l24 ?c24 ?UP ?a25 ?l25 ?c25 ?Wb ?a26 ?l26 ?c26 ?UQ ?a27 ?l27 ?c27 ?Wc ?a28 ?l28 ?c28 ?Wd ?a29 ?l29 ?c29 ?UR ?a30 ?l30 ?c30 ?US ?a31 ?l31 ?c31 ?k31 ?nu ?yp ?kI ?Bg ?Bh ?Bj ?Bk ?yq ?yr ?yt ?yu ?yw ?yx ?yy ?yz ?kJ ?pL ?nA ?nB ?Bl ?Bm ?Bo ?Bp ?qY ?Pu ?Kr ?Ei ?Pw ?Px ?Py ?Ks ?Pz ?Ej ?PB ?PD ?Ku
  (case a1=>k_is);(case l1=>k_is);(case c1=>k_is);(case k1=>k_is)
  (case a2=>k_is);(case l2=>k_is);(case c2=>k_is);(case k2=>k_is)
  (case a3=>k_is);(case l3=>k_is);(case c3=>k_is);(case k3=>k_is)
  (case a4=>k_is);(case l4=>k_is);(case c4=>k_is);(case k4=>k_is)
  (case a5=>k_is);(case l5=>k_is);(case c5=>k_is);(case k5=>k_is)
  (case a6=>k_is);(case l6=>k_is);(case c6=>k_is);(case k6=>k_is)
  (case a7=>k_is);(case l7=>k_is);(case c7=>k_is);(case k7=>k_is)
  (case a8=>k_is);(case l8=>k_is);(case c8=>k_is);(case k8=>k_is)
  (case a9=>k_is);(case l9=>k_is);(case c9=>k_is);(case k9=>k_is)
  (case a10=>k_is);(case l10=>k_is);(case c10=>k_is);(case V1=>k_is)
  (case a11=>k_is);(case l11=>k_is);(case c11=>k_is);(case V2=>k_is)
  (case a12=>k_is);(case l12=>k_is);(case c12=>k_is);(case NZ=>k_is)
  (case a13=>k_is);(case l13=>k_is);(case c13=>k_is);(case V3=>k_is)
  (case a14=>k_is);(case l14=>k_is);(case c14=>k_is);(case V4=>k_is)
  (case a15=>k_is);(case l15=>k_is);(case c15=>k_is);(case V5=>k_is)
  (case a16=>k_is);(case l16=>k_is);(case c16=>k_is);(case V6=>k_is)
  (case a17=>k_is);(case l17=>k_is);(case c17=>k_is);(case V7=>k_is)
  (case a18=>k_is);(case l18=>k_is);(case c18=>k_is);(case KH=>k_is)
  (case a19=>k_is);(case l19=>k_is);(case c19=>k_is);(case V8=>k_is)
  (case a20=>k_is);(case l20=>k_is);(case c20=>k_is);(case V9=>k_is)
  (case a21=>k_is);(case l21=>k_is);(case c21=>k_is);(case UN=>k_is)
  (case a22=>k_is);(case l22=>k_is);(case c22=>k_is);(case Wa=>k_is)
  (case a23=>k_is);(case l23=>k_is);(case c23=>k_is);(case UO=>k_is)
  (case a24=>k_is);(case l24=>k_is);(case c24=>k_is);(case UP=>k_is)
  (case a25=>k_is);(case l25=>k_is);(case c25=>k_is);(case Wb=>k_is)
  (case a26=>k_is);(case l26=>k_is);(case c26=>k_is);(case UQ=>k_is)
  (case a27=>k_is);(case l27=>k_is);(case c27=>k_is);(case Wc=>k_is)
  (case a28=>k_is);(case l28=>k_is);(case c28=>k_is);(case Wd=>k_is)
  (case a29=>k_is);(case l29=>k_is);(case c29=>k_is);(case UR=>k_is)
  (case a30=>k_is);(case l30=>k_is);(case c30=>k_is);(case US=>k_is)
  (case a31=>k_is);(case l31=>k_is);(case c31=>k_is);(case k31=>k_is)
  (case nu=>k_is)
  (case yp=>k_is)
  (case kI=>k_is)
  (case Bg=>k_is)
  (case Bh=>k_is);(case Bj=>decide);(case Bk=>exact⟨⟨rfl,⟨_,rfl⟩,_,rfl⟩,⟨⟨rfl,⟨_,rfl⟩,_,rfl⟩,⟨⟨rfl,⟨_,rfl⟩,_,rfl⟩,⟨⟨rfl,⟨_,rfl⟩,_,rfl⟩,⟨⟨rfl,⟨_,rfl⟩,_,rfl⟩,⟨⟨rfl,⟨_,rfl⟩,_,rfl⟩,⟨⟨rfl,⟨_,rfl⟩,_,rfl⟩,⟨⟨rfl,⟨_,rfl⟩,_,rfl⟩,⟨⟨rfl,⟨_,rfl⟩,_,rfl⟩,⟨⟨rfl,⟨_,rfl⟩,_,rfl⟩,⟨⟨rfl,⟨_,rfl⟩,_,rfl⟩,⟨⟨rfl,⟨_,rfl⟩,_,rfl⟩,⟨⟨rfl,⟨_,rfl⟩,_,rfl⟩,True.intro⟩⟩⟩⟩⟩⟩⟩⟩⟩⟩⟩⟩⟩)
  (case yq=>k_is)
  (case yr=>k_is);(case yt=>decide);(case yu=>exact⟨⟨_,rfl⟩,⟨⟨_,rfl⟩,True.intro⟩⟩)
  (case yw=>k_is)
  (case yx=>k_is);(case yy=>decide);(case yz=>exact⟨⟨rfl,⟨_,rfl⟩,_,rfl⟩,⟨⟨rfl,⟨_,rfl⟩,_,rfl⟩,⟨⟨rfl,⟨_,rfl⟩,_,rfl⟩,⟨⟨rfl,⟨_,rfl⟩,_,rfl⟩,⟨⟨rfl,⟨_,rfl⟩,_,rfl⟩,⟨⟨rfl,⟨_,rfl⟩,_,rfl⟩,⟨⟨rfl,⟨_,rfl⟩,_,rfl⟩,⟨⟨rfl,⟨_,rfl⟩,_,rfl⟩,⟨⟨rfl,⟨_,rfl⟩,_,rfl⟩,⟨⟨rfl,⟨_,rfl⟩,_,rfl⟩,⟨⟨rfl,⟨_,rfl⟩,_,rfl⟩,⟨⟨rfl,⟨_,rfl⟩,_,rfl⟩,⟨⟨rfl,⟨_,rfl⟩,_,rfl⟩,True.intro⟩⟩⟩⟩⟩⟩⟩⟩⟩⟩⟩⟩⟩)
  (case kJ=>k_is)
  (case pL=>k_is)
  (case nA=>k_is)
  (case nB=>k_is)
  (case Bl=>k_is)
  (case Bm=>k_is);(case Bo=>decide);(case Bp=>exact⟨⟨_,rfl⟩,⟨⟨_,rfl⟩,⟨⟨_,rfl⟩,⟨⟨_,rfl⟩,⟨⟨_,rfl⟩,⟨⟨_,rfl⟩,⟨⟨_,rfl⟩,⟨⟨_,rfl⟩,True.intro⟩⟩⟩⟩⟩⟩⟩⟩)
  (case qY=>k_is);(case Pu=>k_is);(case Kr=>k_is);(case Ei=>k_is);(case Pw=>k_is);(case Px=>k_is);(case Py=>k_is);(case Ks=>k_is);(case Pz=>k_is);(case Ej=>k_is);(case PB=>k_is);(case PD=>k_is);(case Ku=>k_is)
theorem PySem.Challenge.cw_surewatch_k19_what_is_a_stand_holds : PySem.Challenge.rw_surewatch_k19_what_is_a_stand.Holds :=
 K19.holds
