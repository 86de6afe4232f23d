import PyProof.Rows.All
import Wide.All
import OpenK.AllK
import Wide.FinOn
import PyProof.EqAt
import PyProof.EqKinds
import PyProof.TupleCall
import Lean
import PySem.Challenge.RW_surewatch_k10_sayings_written_and_read
section
set_option Elab.async false
set_option linter.all false
set_option maxRecDepth 100000
namespace L2
open PySem PySem.Spec PyProof.Rows
noncomputable abbrev Key:=Sum Int Str
noncomputable def xj:Key→Value→Bool
 | .inl k,v=>Value.isInt k v
 | .inr x,v=>Value.isStrOf x v
noncomputable def SM (w:World):Key→Int
 | .inl k=>hashInt k
 | .inr x=>hashStr w x
theorem eL:∀{k:Key}{v:Value},xj k v=true→(∃i t,k=Sum.inl i∧v=Value.int i t)∨(∃x t,k=Sum.inr x∧v=Value.str x t)
 | .inl i,v,h=>by
  obtain⟨t,e⟩:=Value.isInt_shape (k:=i) (v:=v) h
  exact .inl ⟨i,t,rfl,e⟩
 | .inr x,v,h=>by
  obtain⟨t,e⟩:=Value.isStrOf_shape (x:=x) (v:=v) h
  exact .inr ⟨x,t,rfl,e⟩
theorem Dc (i:Int) (t:Tok):xj (.inl i) (.int i t)=true:=by simp[xj,Value.isInt]
theorem Dd (x:Str) (t:Tok):xj (.inr x) (.str x t)=true:=by simp[xj,Value.isStrOf]
theorem Kp (a b:Int):decide ((Sum.inl a:Key)=Sum.inl b)=(a == b):=by
 by_cases e:a=b
 ·subst e;simp
 ·have h:¬(Sum.inl a:Key)=Sum.inl b:=fun q=>e (Sum.inl.inj q)
  rw[decide_eq_false h]
  exact(beq_eq_false_iff_ne.mpr e).symm
theorem Kq (a b:Str):decide ((Sum.inr a:Key)=Sum.inr b)=decide (a=b):=by
 by_cases e:a=b
 ·subst e;simp
 ·have h:¬(Sum.inr a:Key)=Sum.inr b:=fun q=>e (Sum.inr.inj q)
  rw[decide_eq_false h,decide_eq_false e]
theorem Kr (a:Int) (b:Str):decide ((Sum.inl a:Key)=Sum.inr b)=false:=decide_eq_false (fun q=>nomatch q)
theorem Ks (a:Str) (b:Int):decide ((Sum.inr a:Key)=Sum.inl b)=false:=decide_eq_false (fun q=>nomatch q)
noncomputable def bY (prog:Program) (w:World):PySem.KeyKind prog w Key where
  is:=xj
  hash:=SM w
  inj := fun v a b ha hb => by
    rcases eL ha with⟨i,t,rfl,rfl⟩ | ⟨x,t,rfl,rfl⟩
    · rcases eL hb with⟨j,u,rfl,e⟩ | ⟨y,u,rfl,e⟩
      · injection e with e1 _;rw[e1]
      · exact nomatch e
    · rcases eL hb with⟨j,u,rfl,e⟩ | ⟨y,u,rfl,e⟩
      · exact nomatch e
      · injection e with e1 _;rw[e1]
  byValue:=fun k v h=>by
    rcases eL h with⟨i,t,rfl,rfl⟩ | ⟨x,t,rfl,rfl⟩ <;> rfl
  pyHash:=fun hv h=>by
    rcases eL hv with⟨i,t,rfl,rfl⟩ | ⟨x,t,rfl,rfl⟩
    · exact wpAny_pyHash_int h
    · exact wpAny_pyHash_str h
  eqBool:=fun hu hv h=>by
    rcases eL hu with⟨i,t,rfl,rfl⟩ | ⟨x,t,rfl,rfl⟩
    · rcases eL hv with⟨j,u,rfl,rfl⟩ | ⟨y,u,rfl,rfl⟩
      · rw[Kp] at h;exact wpAny_eqBool_int h
      · rw[Kr] at h;exact SeqAt.EqAt.int_str i t y u _ _ _ _ h
    · rcases eL hv with⟨j,u,rfl,rfl⟩ | ⟨y,u,rfl,rfl⟩
      · rw[Ks] at h;exact SeqAt.EqAt.str_int x t j u _ _ _ _ h
      · rw[Kq] at h;exact wpAny_eqBool_str h
  «strs»:=fun k x t v h=>by
    rcases eL h with⟨i,u,rfl,e⟩ | ⟨y,u,rfl,e⟩
    · exact nomatch e
    · injection e with e1 _
      subst e1
      cases v <;> rfl
theorem zK (prog:Program) (w:World) (i:Int) (t:Tok):(bY prog w).is (.inl i) (.int i t)=true:=Dc i t
theorem mU (prog:Program) (w:World) (x:Str) (t:Tok):(bY prog w).is (.inr x) (.str x t)=true:=Dd x t
end L2
namespace L2
open PySem PySem.Spec PyProof.Rows
inductive V where
 | bZ | bl (b:Bool) | int (i:Int) | str (x:Str) | QX (b:Array UInt8) | flt (b:UInt64) | ref (a:Addr) | ty (n:String)
 deriving DecidableEq
noncomputable def RelV:V→Value→Prop
 | .bZ,u=>u=Value.none
 | .bl b,u=>u=Value.bool b
 | .int i,u=>∃t,u=Value.int i t
 | .str x,u=>∃t,u=Value.str x t
 | .QX b,u=>∃t,u=Value.bytes b t
 | .flt b,u=>∃t,u=Value.float b t
 | .ref a,u=>u=Value.ref a
 | .ty n,u=>u=Value.type n
noncomputable abbrev Vals:List V→List Value→Prop:=Paired RelV
theorem Vals.length {xs:List V}{us:List Value}(r:Vals xs us):xs.length=us.length:=Paired.length r
theorem Vals.get:∀{xs:List V}{us:List Value}{i:Nat}{x:V},Vals xs us→xs[i]? =some x→∃u,us[i]? =some u∧RelV x u
 | _,_,_,_,.nil,e=>by simp at e
 | _,_,0,_,.cons r _,e=>by simp at e;subst e;exact⟨_,rfl,r⟩
 | _,_,i+1,x,.cons _ t,e=>by
  obtain⟨u,h1,h2⟩:=Vals.get (i:=i) (x:=x) t (by simpa using e)
  exact⟨u,by simpa using h1,h2⟩
theorem Vals.set {x:V}{u:Value}(r:RelV x u):∀{xs:List V}{us:List Value}(i:Nat),Vals xs us→Vals (xs.set i x) (us.set i u)
 | _,_,_,.nil=>.nil
 | _,_,0,.cons _ t=>.cons r t
 | _,_,i+1,.cons q t=>.cons q (Vals.set r i t)
theorem Vals.append:∀{xs ys:List V}{us ws:List Value},Vals xs us→Vals ys ws→Vals (xs++ys) (us++ws)
 | _,_,_,_,.nil,s=>s
 | _,_,_,_,.cons r t,s=>.cons r (Vals.append t s)
theorem Vals.take:∀{xs:List V}{us:List Value}(n:Nat),Vals xs us→Vals (xs.take n) (us.take n)
 | _,_,0,_=>.nil
 | _,_,_+1,.nil=>.nil
 | _,_,n+1,.cons r t=>.cons r (Vals.take n t)
theorem Vals.drop:∀{xs:List V}{us:List Value}(n:Nat),Vals xs us→Vals (xs.drop n) (us.drop n)
 | _,_,0,r=>r
 | _,_,_+1,.nil=>.nil
 | _,_,n+1,.cons _ t=>Vals.drop n t
theorem Vals.none_of:∀{xs:List V}{us:List Value}{i:Nat},Vals xs us→xs[i]? =none→us[i]? =none:=fun {xs us i} r e=>by
 have h1:=r.length
 have h2:xs.length≤i:=List.getElem?_eq_none_iff.mp e
 exact List.getElem?_eq_none_iff.mpr (by omega)
noncomputable def mS:Option V→Option Value→Prop
 | some v,some u=>RelV v u
 | none,none=>True
 | _,_=>False
noncomputable def KV {κ:Type}:List (κ×V)→List (κ×Value)→Prop:=Paired fun(p:κ×V) (q:κ×Value)=>p.1=q.1∧RelV p.2 q.2
noncomputable def kV:Key→V
 | .inl i=>.int i
 | .inr x=>.str x
inductive HO where
 | lst (xs:List V)
 | tup (xs:List V)
 | dK (kvs:List (Key×V)) | dT (kvs:List (List Key×V))
 | set (S:Int→Bool) (n:Nat)
 | ins (C dx:Addr) (fs:List (Str×V))
 | own (x:Addr)
 | xd (fs:List (Str×V))
 | met (f x:Addr)
 | xm (lo hi:Int)
 | jV (o:Obj) (u:HO)
 | Hx (ps:Array Value)
 | ext (φ:Heap→Prop)
noncomputable abbrev Hp:=Addr→Option HO
noncomputable def upd (H:Hp) (a:Addr) (o:HO):Hp:=fun b=>if b=a then some o else H b
theorem aW {H:Hp}{a:Addr}{o:HO}:upd H a o a=some o:=by unfold upd;rw[if_pos rfl]
theorem aP {H:Hp}{a b:Addr}{o:HO}(h:b≠a):upd H a o b=H b:=by unfold upd;rw[if_neg h]
theorem NI {H:Hp}{a b:Addr}{o u:HO}(h:H a=some o) (h':H b=some u) (d:o≠u):a≠b:=by
 intro e;subst e;rw[h] at h';exact d (Option.some.inj h')
theorem bH {H:Hp}{a b:Addr}{o:HO}(h:H a=some o) (h':H b=none):a≠b:=by
 intro e;subst e;rw[h] at h';cases h'
section
variable (P:Program) (w:World)
noncomputable def gF (H:Hp) (h:Heap) (a:Addr):HO→Prop
 | .lst xs=>xs.length≤sizeLine∧∃(its:List Value) (n:Nat),Vals xs its∧h.get? a=some {cls:=.type "list",data:=.seq its.toArray n}
 | .tup xs=>xs.length≤sizeLine∧∃its:List Value,Vals xs its∧IsTup h a its.toArray
 | .dK kvs=>kvs.length≤sizeLine∧(a == sysModules)=false∧∃vs,KV kvs vs∧h.DictOf (bY P w) a vs
 | .dT kvs=>kvs.length≤sizeLine∧(a == sysModules)=false∧∃xs:List (List Key×Addr×Value),
   Paired (fun(p:List Key×V) (q:List Key×Addr×Value)=>p.1=q.1∧H q.2.1=some (.tup (p.1.map kV))∧RelV p.2 q.2.2) kvs xs∧
   ∃o es ep,h.get? a=some o∧o.ExactDict∧o.data= .dict es ep∧es.toList=xs.map (entryOfKey (tupleKind (bY P w)))∧(xs.map (·.1)).Nodup
 | .set S n=>h.SetOf (intKind P w) a S n
 | .ins C dx fs=>H dx=some (.own a)∧fs.length≤1000∧dx≠a∧h.get? a=some (PySem.W.instObj C dx)∧
   ∃mA,h.Ns1 dx mA∧(∀f,mS (fs.lookup f) (mA f))∧PySem.Within mA (fs.map (·.1))
 | .own _=>∃o,h.get? a=some o
 | .xd fs=>∃mA,h.Ns1 a mA∧∀f,mS (fs.lookup f) (mA f)
 | .xm lo hi=>∃t u v,h.get? a=some {cls:=.type "range",data:=.fields #[.int lo t,.int hi u,.int 1 v]}
 | .jV o u=>h.get? a=some o∧gF H h a u
 | .Hx ps=>h.get? a=some {cls:=.none,data:=.fields ps}
 | .met f x=>h.get? a=some (PySem.W.methodObj (.ref f) (.ref x))
 | .ext φ=>φ h∧(∃o,h.get? a=some o)∧∀h1 h2:Heap,φ h1→(∀o,h1.get? a=some o→h2.get? a=some o)→φ h2
noncomputable def oh (H:Hp) (h:Heap):Prop:=∀a o,H a=some o→gF P w H h a o
end
section
variable {P:Program}{w:World}{H H':Hp}{h h':Heap}{a:Addr}{o:HO}
theorem gF.lt (x:gF P w H h a o):a < h.objs.size:=by
 cases o with
 | lst xs=>obtain⟨_,_,_,_,e⟩:=x;exact Heap.lt_size e
 | tup xs=>obtain⟨_,_,_,p⟩:=x;exact p.lt
 | dK kvs=>obtain⟨_,_,_,_,o,_,_,e,_⟩:=x;exact Heap.lt_size e
 | dT kvs=>obtain⟨_,_,_,_,o,_,_,e,_⟩:=x;exact Heap.lt_size e
 | set S n=>obtain⟨o,_,_,_,e,_⟩:=x;exact Heap.lt_size e
 | ins C dx fs=>obtain⟨_,_,_,e,_⟩:=x;exact Heap.lt_size e
 | own y=>obtain⟨_,e⟩:=x;exact Heap.lt_size e
 | xd fs=>obtain⟨_,⟨_,_,_,e,_⟩,_⟩:=x;exact Heap.lt_size e
 | xm lo hi=>obtain⟨_,_,_,e⟩:=x;exact Heap.lt_size e
 | jV ob u=>obtain⟨e,_⟩:=x;exact Heap.lt_size e
 | Hx ps=>exact Heap.lt_size (show h.get? a=some _ from x)
 | met f y=>exact Heap.lt_size (show h.get? a=some _ from x)
 | ext φ=>obtain⟨_,⟨_,e⟩,_⟩:=x;exact Heap.lt_size e
theorem Paired.De {α β:Type}{F G:α→β→Prop}:∀{l₁:List α}{l₂:List β},Paired F l₁ l₂→(∀a b,F a b→G a b)→Paired G l₁ l₂
 | _,_,.nil,_=>.nil
 | _,_,.cons r t,f=>.cons (f _ _ r) (Paired.De t f)
theorem gF.stay (x:gF P w H h a o) (k:∀b u,(b=a∨H b=some (.own a))→h.get? b=some u→h'.get? b=some u)
  (ho:∀b,H b=some (.own a)→H' b=some (.own a)) (ht:∀b xs,H b=some (.tup xs)→H' b=some (.tup xs)):gF P w H' h' a o:=by
 induction o with
 | lst xs=>obtain⟨z,its,n,r,e⟩:=x;exact⟨z,its,n,r,k _ _ (.inl rfl) e⟩
 | tup xs=>obtain⟨z,its,r,ob,e,c⟩:=x;exact⟨z,its,r,ob,k _ _ (.inl rfl) e,c⟩
 | dK kvs=>obtain⟨z,y,vs,r,ob,es,ep,e,c⟩:=x;exact⟨z,y,vs,r,ob,es,ep,k _ _ (.inl rfl) e,c⟩
 | dT kvs=>
  obtain⟨z,y,xs,r,ob,es,ep,e,c⟩:=x
  exact⟨z,y,xs,Paired.De r fun p q z=>⟨z.1,ht _ _ z.2.1,z.2.2⟩,ob,es,ep,k _ _ (.inl rfl) e,c⟩
 | set S n=>obtain⟨ob,es,ep,t,e,c⟩:=x;exact⟨ob,es,ep,t,k _ _ (.inl rfl) e,c⟩
 | ins C dx fs=>
  obtain⟨d,z,ne,e,mA,⟨od,es,ep,e2,c⟩,r⟩:=x
  exact⟨ho _ d,z,ne,k _ _ (.inl rfl) e,mA,⟨od,es,ep,k _ _ (.inr d) e2,c⟩,r⟩
 | own y=>obtain⟨ob,e⟩:=x;exact⟨ob,k _ _ (.inl rfl) e⟩
 | xd fs=>obtain⟨mA,⟨od,es,ep,e,c⟩,r⟩:=x;exact⟨mA,⟨od,es,ep,k _ _ (.inl rfl) e,c⟩,r⟩
 | xm lo hi=>obtain⟨t,u,v,e⟩:=x;exact⟨t,u,v,k _ _ (.inl rfl) e⟩
 | jV ob u ih=>obtain⟨e,q⟩:=x;exact⟨k _ _ (.inl rfl) e,ih q⟩
 | Hx ps=>
  have e:h.get? a=some {cls:=.none,data:=.fields ps}:=x
  show h'.get? a=some {cls:=.none,data:=.fields ps}
  exact k a _ (.inl rfl) e
 | met f y=>
  have e:h.get? a=some (PySem.W.methodObj (.ref f) (.ref y)):=x
  show h'.get? a=some (PySem.W.methodObj (.ref f) (.ref y))
  exact k a _ (.inl rfl) e
 | ext φ=>obtain⟨p,⟨o,e⟩,st⟩:=x;exact⟨st _ _ p fun o q=>k _ _ (.inl rfl) q,⟨o,k _ _ (.inl rfl) e⟩,st⟩
theorem oh.lt (x:oh P w H h) (e:H a=some o):a < h.objs.size:=(x a o e).lt
theorem oh.fresh (x:oh P w H h) (e:h.objs.size≤a):H a=none:=by
 cases q:H a with
 | none=>rfl
 | some u=>exact absurd (Nat.lt_of_lt_of_le (x.lt q) e) (Nat.lt_irrefl _)
theorem oh.kept (x:oh P w H h) (k:∀b u,h.get? b=some u→h'.get? b=some u):oh P w H h':=fun a o e=>
 (x a o e).stay (fun b u _ q=>k b u q) (fun _ q=>q) fun _ _ q=>q
theorem oh.laid (x:oh P w H h) (k:∀b u,h.get? b=some u→h'.get? b=some u) (hp:h.objs.size≤a) (new:gF P w (upd H a o) h' a o):oh P w (upd H a o) h':=fun b u e=>by
 have hn:=x.fresh hp
 by_cases hb:b=a
 ·subst hb;rw[aW] at e;cases e;exact new
 ·rw[aP hb] at e
  exact(x b u e).stay (fun c v _ q=>k c v q) (fun c q=>by rw[aP (bH q hn)];exact q) fun c xs q=>by rw[aP (bH q hn)];exact q
end
noncomputable def Rd (H:Hp) (a:Addr) (u:HO):Prop:=H a=some u∨∃o,H a=some (.jV o u)
theorem Rd.of {H:Hp}{a:Addr}{u:HO}(h:H a=some u):Rd H a u:=.inl h
theorem Rd.ok {P:Program}{w:World}{H:Hp}{h:Heap}{a:Addr}{u:HO}(r:Rd H a u) (x:oh P w H h):gF P w H h a u:=by
 rcases r with r | ⟨o,r⟩
 ·exact x a u r
 ·obtain⟨_,q⟩:=x a _ r
  exact q
noncomputable def NJ:Option HO→Prop
 | some (.lst _)=>True
 | some (.dK _)=>True
 | some (.dT _)=>True
 | some (.set _ _)=>True
 | some (.ins _ _ _)=>True
 | some (.ext _)=>True
 | _=>False
section
variable {P:Program}{w:World}{H:Hp}{h h':Heap}{x e:Addr}{o':HO}
theorem oh.write (ok : oh P w H h) (mu : NJ (H x)) (he : e = x ∨ H e = some (.own x)) (k : ∀ b u, b ≠ e → h.get? b = some u → h'.get? b = some u) (M9 : ∃ u, h'.get? e = some u)
    (new:gF P w (upd H x o') h' x o'):oh P w (upd H x o') h':=fun b u q=>by
  have NK:∀c y,H c=some (.own y)→c≠x:=fun c y r z=>by subst z;rw[r] at mu;exact mu
  have SN:∀c xs,H c=some (.tup xs)→c≠x:=fun c xs r z=>by subst z;rw[r] at mu;exact mu
  by_cases hb:b=x
  · subst hb;rw[aW] at q;cases q;exact new
  · rw[aP hb] at q
    by_cases Ku:b=e
    · have q':H b=some (.own x):=by
        rcases he with z | z
        · exact absurd (Ku.trans z) hb
        · rw[Ku];exact z
      rw[q] at q';cases q'
      obtain⟨v,hv⟩:=M9
      exact⟨v,by rw[Ku];exact hv⟩
    · refine(ok b u q).stay (fun c v hc r=>k c v ?_ r) (fun c r=>by rw[aP (NK c b r)];exact r) fun c xs r=>by rw[aP (SN c xs r)];exact r
      rcases hc with rfl | hc
      · exact Ku
      · rintro rfl
        rcases he with z | z
        · exact NK c b hc z
        · rw[hc] at z;cases z;exact hb rfl
end
structure Un (fs ex:List Addr) (H H':Hp) (h h':Heap):Prop where
 keep:∀b o,h.get? b=some o→H b=none→b∉fs→b∉ex→h'.get? b=some o
 slot:∀b o,h.get? b=some o→H b=none→b∈fs→b∉ex→∃sl,h'.get? b=some {o with slots:=sl}
 free:∀b o,h.get? b=some o→H b=none→b∉ex→H' b=none
 there:∀b o,h.get? b=some o→b∉ex→∃o',h'.get? b=some o'
 tups:∀b xs,H b=some (.tup xs)→H' b=some (.tup xs)
 ql:∀b o u,H b=some (.jV o u)→H' b=some (.jV o u)
 rM:∀b ps,H b=some (.Hx ps)→∃more,H' b=some (.Hx (ps++more))
section
variable {fs fs' ex ex':List Addr}{H H1 H2:Hp}{h h1 h2 h':Heap}{a x e:Addr}{o:HO}
theorem Un.any (u:Un fs ex H H1 h h1){b:Addr}{ob:Obj}(q:h.get? b=some ob) (n:H b=none) (hx:b∉ex):∃sl,h1.get? b=some {ob with slots:=sl}:=by
 by_cases hb:b∈fs
 ·exact u.slot b ob q n hb hx
 ·exact⟨ob.slots,u.keep b ob q n hb hx⟩
theorem Un.trans (a:Un fs ex H H1 h h1) (b:Un fs ex H1 H2 h1 h2):Un fs ex H H2 h h2 where
 keep:=fun c ob q n hc hx=>b.keep c ob (a.keep c ob q n hc hx) (a.free c ob q n hx) hc hx
 slot:=fun c ob q n hc hx=>by
  obtain⟨sl,e1⟩:=a.slot c ob q n hc hx
  obtain⟨SO,e2⟩:=b.slot c _ e1 (a.free c ob q n hx) hc hx
  exact⟨SO,e2⟩
 free:=fun c ob q n hx=>by
  obtain⟨o',e1⟩:=a.there c ob q hx
  exact b.free c o' e1 (a.free c ob q n hx) hx
 there:=fun c ob q hx=>by
  obtain⟨o',e1⟩:=a.there c ob q hx
  exact b.there c o' e1 hx
 tups:=fun c xs q=>b.tups c xs (a.tups c xs q)
 ql:=fun c ob xs q=>b.ql c ob xs (a.ql c ob xs q)
 rM:=fun c ps q=>by
  obtain⟨m1,e1⟩:=a.rM c ps q
  obtain⟨m2,e2⟩:=b.rM c _ e1
  exact⟨m1++m2,by rw[e2,Array.append_assoc]⟩
theorem Un.kept (k:∀b u,h.get? b=some u→h'.get? b=some u):Un fs ex H H h h':=
 ⟨fun b ob q _ _ _=>k b ob q,fun b ob q _ _ _=>⟨ob.slots,k b ob q⟩,fun _ _ _ n _=>n,fun b ob q _=>⟨ob,k b ob q⟩,fun _ _ q=>q,fun _ _ _ q=>q,fun _ ps q=>⟨#[],by rw[q];simp⟩⟩
theorem Un.refl:Un fs ex H H h h:=Un.kept fun _ _ q=>q
theorem Un.laid (k:∀b u,h.get? b=some u→h'.get? b=some u) (hp:h.objs.size≤a) (hn:H a=none):Un fs ex H (upd H a o) h h' where
 keep:=fun b u q _ _ _=>k b u q
 slot:=fun b u q _ _ _=>⟨u.slots,k b u q⟩
 free:=fun b u q n _=>by rw[aP (Nat.ne_of_lt (Nat.lt_of_lt_of_le (Heap.lt_size q) hp))];exact n
 there:=fun b u q _=>⟨u,k b u q⟩
 tups:=fun b xs q=>by rw[aP (bH q hn)];exact q
 ql:=fun b u xs q=>by rw[aP (bH q hn)];exact q
 rM:=fun b ps q=>⟨#[],by rw[aP (bH q hn),q];simp⟩
theorem Un.write (mu:NJ (H x)) (he:e=x∨H e=some (.own x)) (k:∀b u,b≠e→h.get? b=some u→h'.get? b=some u) (M9:∃u,h'.get? e=some u):Un fs ex H (upd H x o) h h':=by
 have hx:∀b,H b=none→b≠x:=fun b n z=>by subst z;rw[n] at mu;exact mu
 have hb:∀b,H b=none→b≠e:=fun b n z=>by
  subst z
  rcases he with r | r
  ·exact hx b n r
  ·rw[n] at r;cases r
 have hm:∀b u,H b=some u→¬NJ (some u)→b≠x:=fun b u q nm z=>by subst z;rw[q] at mu;exact nm mu
 refine⟨fun b u q n _ _=>k b u (hb b n) q,fun b u q n _ _=>⟨u.slots,k b u (hb b n) q⟩,fun b u q n _=>by rw[aP (hx b n)];exact n,fun b u q _=>?_,
  fun b xs q=>by rw[aP (hm b _ q fun z=>z)];exact q,fun b u xs q=>by rw[aP (hm b _ q fun z=>z)];exact q,fun b ps q=>⟨#[],by rw[aP (hm b _ q fun z=>z),q];simp⟩⟩
 by_cases Ku:b=e
 ·subst Ku;exact M9
 ·exact⟨u,k b u Ku q⟩
theorem Un.mono (u:Un fs ex H H1 h h1) (hs:∀b∈fs,b∈fs') (hx:∀b∈ex,b∈ex'):Un fs' ex' H H1 h h1:=
 ⟨fun b ob q n hb he=>u.keep b ob q n (fun z=>hb (hs b z)) fun z=>he (hx b z),fun _ _ q n _ he=>u.any q n fun z=>he (hx _ z),fun b ob q n he=>u.free b ob q n fun z=>he (hx b z),fun b ob q he=>u.there b ob q fun z=>he (hx b z),u.tups,u.ql,u.rM⟩
end
noncomputable def QY (h:Heap) (H:Hp):List Addr:=(List.range h.objs.size).filter fun a=>(H a).isSome
noncomputable def yx (h:Heap) (H:Hp):Heap:=PySem.W.hideAll h (QY h H)
theorem Df (h:Heap) (H:Hp):(yx h H).objs.size=h.objs.size:=PySem.W.hideAll_size _ _
theorem EI {h:Heap}{H:Hp}{b:Addr}{o:Obj}(e:h.get? b=some o) (n:H b=none):(yx h H).get? b=some o:=
 PySem.W.hideAll_get _ e fun hm=>by
  have q:(H b).isSome=true:=(List.mem_filter.mp hm).2
  rw[n] at q;simp at q
theorem HF {h:Heap}{H:Hp}{b:Addr}{o:Obj}(e:(yx h H).get? b=some o):h.get? b=some o∧H b=none:=by
 have e':h.get? b=some o:=PySem.W.of_hideAll (QY h H) e
 refine⟨e',?_⟩
 cases q:H b with
 | none=>rfl
 | some x=>
  have hm:b∈QY h H:=List.mem_filter.mpr ⟨List.mem_range.mpr (Heap.lt_size e'),by simp[q]⟩
  have z:(yx h H).get? b=none:=PySem.W.hideAll_none (QY h H) hm
  rw[z] at e;cases e
noncomputable def HG (g h:Heap) (L:Addr):List (Addr×Obj):=(List.range h.objs.size).filterMap fun a=>if a=L∨(g.get? a).isSome=true then none else(h.get? a).map fun o=>(a,o)
noncomputable def rest (g h:Heap) (L d:Addr):List (Addr×Obj):=(HG g h L).filter fun p=>decide (p.1≠d)
end L2
namespace L2
open PySem PySem.Spec PyProof.Rows
structure Mod (K:PySem.W.Frag) (mg:Str→Option Value) (base:Heap):Prop where
 NL:K.In base
 glob:base.Ns mainGlobals mg
 blt:∃mb,base.Ns builtinsNs mb∧∀x:Str,x≠"__name__"→mb x=bootBuiltins x
 nolimit:base.NoLimit
structure Cx where
 prog:Program
 w:World
 K:PySem.W.Frag
 mg:Str→Option Value
 base:Heap
 A:Around
 N:List Str
 s₀:Shared
 H₀:Hp
 env:Env
 outer:List Env
 stack:List Env
 ex:List Addr
 fn:Str→Bool
 calm:Bool
 pn:List (Addr×Obj)
 xe:Value→Shared→Prop
noncomputable def frs (l:List Env):List Addr:=l.filterMap (·.frame)
noncomputable abbrev Cx.fs (X:Cx):List Addr:=frs X.outer
noncomputable def Bd (sc:Scope) (x:Str):Prop:=sc.names.lookup x=some .local∨sc.names.lookup x=some .cell∨sc.names.lookup x=some .free
noncomputable def Loc (sc:Scope) (x:Str):Prop:=sc.names.lookup x=some .local∨sc.names.lookup x=some .cell
noncomputable def Look (env:Env) (h:Heap) (m:Str→Option Value) (x:Str) (u:Value):Prop:=
 (env.kindOf x=some .local∧m x=some u)∨((env.kindOf x=some .cell∨env.kindOf x=some .free)∧∃c,env.cells.lookup x=some c∧h.IsCell c (some u))
structure Cx.Ok (X:Cx):Prop where
 mod:Mod X.K X.mg X.base
 kind:X.env.scope.kind= .function
 glob:X.env.globals=mainGlobals
 blt:X.env.builtins=builtinsNs
 above:X.s₀.heap.objs.size≤X.env.locals
 inj:∀x y c,X.env.cells.lookup x=some c→X.env.cells.lookup y=some c→x=y
 has:∀x,(X.env.kindOf x=some .cell∨X.env.kindOf x=some .free)→∃c,X.env.cells.lookup x=some c
 NN:∀x c,X.fn x=true→X.env.cells.lookup x=some c→X.s₀.heap.objs.size≤c
 hd:X.calm=true→X.A.handled=none
 frames:X.A.frames=some X.stack
 stk:X.stack=X.outer∨(X.stack=X.env :: X.outer∧X.env.frame=some X.env.locals)
 SQ:∀b∈X.ex,b≠X.env.locals∧∀x c,X.env.cells.lookup x=some c→c≠b
 bs:∀b o,X.base.get? b=some o→X.s₀.heap.get? b=some o∧X.H₀ b=none
 EJ:X.base.objs.size≤X.s₀.heap.objs.size
 EK:∀b o,X.base.get? b=some o→b∉X.ex
 EL:∀b∈X.ex,b∉X.fs
 rN:X.s₀.heap.FunFrames X.base X.outer
 JJ:∀b∈X.fs,X.H₀ b=none
structure Inv (X:Cx) (pins:List (Addr×Obj)) (σ:List (Option V)) (H:Hp) (s:Shared):Prop where
 ok:X.Ok
 os:s.os=X.s₀.os
 bare:AllBare s.gens
 base:Un X.fs X.ex X.H₀ H X.s₀.heap s.heap
 loc:∃m,s.heap.Ns X.env.locals m∧∀(i:Nat) (x:Str) (v:V),X.N[i]? =some x→σ[i]? =some (some v)→Bd X.env.scope x→∃u,RelV v u∧Look X.env s.heap m x u
 cell:∀x c,X.env.cells.lookup x=some c→∃v,s.heap.IsCell c v
 free:H X.env.locals=none
 mV:∀x c,X.env.cells.lookup x=some c→H c=none
 pin:∀p∈X.pn++pins,s.heap.get? p.1=some p.2∧H p.1=none∧p.1≠X.env.locals∧p.1∉X.fs∧∀v,p.2.data≠.cell v
 hok:oh X.prog X.w H s.heap
 len:σ.length=X.N.length
section
variable {X:Cx}{pins:List (Addr×Obj)}{σ:List (Option V)}{H H':Hp}{s:Shared}{h':Heap}
theorem Cx.Ok.jR (ok:X.Ok){b:Addr}{o:Obj}(e:X.base.get? b=some o):b∉X.fs:=fun hb=>by
 have:=(ok.rN.mem hb).1
 rw[e] at this;cases this
theorem Inv.bs (I:Inv X pins σ H s):∀b o,X.base.get? b=some o→s.heap.get? b=some o∧H b=none:=fun b o e=>
 ⟨I.base.keep b o (I.ok.bs b o e).1 (I.ok.bs b o e).2 (I.ok.jR e) (I.ok.EK b o e),I.base.free b o (I.ok.bs b o e).1 (I.ok.bs b o e).2 (I.ok.EK b o e)⟩
theorem Inv.bk (I:Inv X pins σ H s):∀b o,X.base.get? b=some o→s.heap.get? b=some o:=fun b o e=>(I.bs b o e).1
theorem Inv.mod (I:Inv X pins σ H s):Mod X.K X.mg X.base:=I.ok.mod
theorem Inv.uC (I:Inv X pins σ H s):X.K.In s.heap:=I.ok.mod.NL.keeps I.bk
theorem Inv.nolimit (I:Inv X pins σ H s):s.heap.NoLimit:=I.ok.mod.nolimit.keeps I.bk
theorem Inv.fr (I:Inv X pins σ H s):∃m,Fr X.base X.env.locals s.heap m:=
 let⟨m,hn,_⟩:=I.loc
 ⟨m,hn,I.bk,Nat.le_trans I.ok.EJ I.ok.above⟩
theorem Inv.lt (I:Inv X pins σ H s):X.env.locals < s.heap.objs.size:=let⟨_,hn,_⟩:=I.loc;hn.lt
theorem Inv.sz (I:Inv X pins σ H s):X.s₀.heap.objs.size≤s.heap.objs.size:=Nat.le_trans I.ok.above (Nat.le_of_lt I.lt)
theorem Inv.NO (I:Inv X pins σ H s){a:Addr}(h:s.heap.objs.size≤a):a∉X.fs:=fun hb=>by
 obtain⟨_,o,ho,_⟩:=I.ok.rN.mem hb
 exact absurd (Nat.lt_of_lt_of_le (Heap.lt_size ho) (Nat.le_trans I.sz h)) (Nat.lt_irrefl _)
theorem Inv.Kv (I:Inv X pins σ H s):∀x c,X.env.cells.lookup x=some c→c≠X.env.locals:=fun x c e z=>by
 obtain⟨v,o,ho,hd⟩:=I.cell x c e
 obtain⟨m,⟨o',es,ep,ho',hd',_⟩,_⟩:=I.loc
 rw[z,ho'] at ho;cases ho;rw[hd'] at hd;cases hd
theorem Inv.rN (I:Inv X pins σ H s):s.heap.FunFrames X.base X.outer:=by
 have all:∀(l:List Env),(∀b∈frs l,b∈X.fs)→X.s₀.heap.FunFrames X.base l→s.heap.FunFrames X.base l:=by
  intro l
  induction l with
  | nil=>intro _ _;trivial
  | cons env r ih=>
   intro hs hl
   obtain⟨hk,⟨L,o,hf,hn,ho,hd⟩,hr⟩:=hl
   have hL:L∈X.fs:=hs L (by unfold frs;rw[List.filterMap_cons,hf];exact List.mem_cons_self)
   obtain⟨sl,e⟩:=I.base.slot L o ho (I.ok.JJ L hL) hL fun z=>I.ok.EL L z hL
   exact⟨hk,⟨L,_,hf,hn,e,hd⟩,ih (fun b hb=>hs b (by unfold frs;rw[List.filterMap_cons,hf];exact List.mem_cons_of_mem _ hb)) hr⟩
 exact all X.outer (fun _ hb=>hb) I.ok.rN
theorem Inv.stack (I:Inv X pins σ H s):s.heap.FunFrames X.base X.stack:=by
 rcases I.ok.stk with e | ⟨e,hf⟩
 ·rw[e];exact I.rN
 ·rw[e]
  obtain⟨m,hn,_⟩:=I.loc
  refine .cons (by rw[I.ok.kind];decide) hf hn ?_ I.rN
  exact Heap.get?_none_of_le (Nat.le_trans I.ok.EJ I.ok.above)
theorem Inv.yy (I:Inv X pins σ H s):∀b∈frs X.stack,b∈X.env.locals :: X.fs:=fun b hb=>by
 rcases I.ok.stk with e | ⟨e,hf⟩
 ·rw[e] at hb;exact List.mem_cons_of_mem _ hb
 ·rw[e] at hb
  unfold frs at hb
  rw[List.filterMap_cons,hf] at hb
  exact hb
theorem Inv.Ct (I:Inv X pins σ H s):∀b∈frs X.stack,H b=none:=fun b hb=>by
 rcases List.mem_cons.mp (I.yy b hb) with e | hb
 ·rw[e];exact I.free
 ·obtain⟨_,o,ho,_⟩:=I.ok.rN.mem hb
  exact I.base.free b o ho (I.ok.JJ b hb) fun z=>I.ok.EL b z hb
theorem Inv.step {g':Array GenState}{t':Nat}{d':Drawn}{ch:List Addr}(I:Inv X pins σ H s)
  (hch:∀b∈ch,(b∈X.ex∨X.s₀.heap.objs.size≤b)∧b≠X.env.locals∧(∀x c,X.env.cells.lookup x=some c→c≠b)∧∀p∈X.pn++pins,p.1≠b)
  (keep:∀b o,b≠X.env.locals→b∉X.fs→b∉ch→s.heap.get? b=some o→H b=none→h'.get? b=some o)
  (slot:∀b o,b≠X.env.locals→b∈X.fs→b∉ch→s.heap.get? b=some o→H b=none→∃sl,h'.get? b=some {o with slots:=sl}) (free:∀b o,b∉ch→s.heap.get? b=some o→H b=none→H' b=none)
  (there:∀b o,b∉ch→s.heap.get? b=some o→∃o',h'.get? b=some o')
  (tups:∀b xs,H b=some (.tup xs)→H' b=some (.tup xs)) (ql:∀b o u,H b=some (.jV o u)→H' b=some (.jV o u)) (rM:∀b ps,H b=some (.Hx ps)→∃more,H' b=some (.Hx (ps++more)))
  (ns:∀m,s.heap.Ns X.env.locals m→h'.Ns X.env.locals m) (hok:oh X.prog X.w H' h') (hg:AllBare g'):
  Inv X pins σ H' {s with heap:=h',gens:=g',drawn:=d',toks:=t'}:=by
 have Zc:∀b o,X.s₀.heap.get? b=some o→b≠X.env.locals:=fun b o e=>Nat.ne_of_lt (Nat.lt_of_lt_of_le (Heap.lt_size e) I.ok.above)
 have QZ:∀b o,X.s₀.heap.get? b=some o→b∉X.ex→b∉ch:=fun b o e hx hb=>by
  rcases(hch b hb).1 with z | z
  ·exact hx z
  ·exact absurd (Nat.lt_of_lt_of_le (Heap.lt_size e) z) (Nat.lt_irrefl _)
 have cellK:∀x c,X.env.cells.lookup x=some c→∀v,s.heap.IsCell c v→h'.IsCell c v:=fun x c e v ⟨o,ho,hd⟩=>by
  have NP:c∉ch:=fun z=>(hch c z).2.2.1 x c e rfl
  by_cases hc:c∈X.fs
  ·obtain⟨sl,q⟩:=slot c o (I.Kv x c e) hc NP ho (I.mV x c e)
   exact⟨_,q,hd⟩
  ·exact⟨o,keep c o (I.Kv x c e) hc NP ho (I.mV x c e),hd⟩
 refine⟨I.ok,I.os,hg,⟨fun b o e n hb hx=>?_,fun b o e n hb hx=>?_,fun b o e n hx=>?_,fun b o e hx=>?_,fun b xs e=>tups b xs (I.base.tups b xs e),fun b o xs e=>ql b o xs (I.base.ql b o xs e),fun b ps e=>?_⟩,?_,fun x c e=>?_,?_,fun x c e=>?_,fun p hp=>?_,hok,I.len⟩
 ·exact keep b o (Zc b o e) hb (QZ b o e hx) (I.base.keep b o e n hb hx) (I.base.free b o e n hx)
 ·obtain⟨sl,e1⟩:=I.base.slot b o e n hb hx
  obtain⟨SO,e2⟩:=slot b _ (Zc b o e) hb (QZ b o e hx) e1 (I.base.free b o e n hx)
  exact⟨SO,e2⟩
 ·obtain⟨o',e1⟩:=I.base.there b o e hx
  exact free b o' (QZ b o e hx) e1 (I.base.free b o e n hx)
 ·obtain⟨o',e1⟩:=I.base.there b o e hx
  exact there b o' (QZ b o e hx) e1
 ·obtain⟨m1,e1⟩:=I.base.rM b ps e
  obtain⟨m2,e2⟩:=rM b _ e1
  exact⟨m1++m2,by rw[e2,Array.append_assoc]⟩
 ·obtain⟨m,hn,hl⟩:=I.loc
  refine⟨m,ns m hn,fun i x v e1 e2 e3=>?_⟩
  obtain⟨u,r,l⟩:=hl i x v e1 e2 e3
  refine⟨u,r,?_⟩
  rcases l with l | ⟨k,c,e,z⟩
  ·exact .inl l
  ·exact .inr ⟨k,c,e,cellK x c e _ z⟩
 ·obtain⟨v,z⟩:=I.cell x c e
  exact⟨v,cellK x c e v z⟩
 ·obtain⟨m,⟨o,_,_,ho,_⟩,_⟩:=I.loc
  exact free _ o (fun z=>(hch _ z).2.1 rfl) ho I.free
 ·obtain⟨v,o,ho,hd⟩:=I.cell x c e
  exact free c o (fun z=>(hch c z).2.2.1 x c e rfl) ho (I.mV x c e)
 ·obtain⟨e,n,ne,nf,d⟩:=I.pin p hp
  have NP:p.1∉ch:=fun z=>(hch p.1 z).2.2.2 p hp rfl
  exact⟨keep p.1 p.2 ne nf NP e n,free p.1 p.2 NP e n,ne,nf,d⟩
theorem Inv.un {t':Nat}(I:Inv X pins σ H s) (u:Un X.fs [] H H' s.heap h') (hok:oh X.prog X.w H' h'):Inv X pins σ H' {s with heap:=h',toks:=t'}:=by
 obtain⟨m,⟨o,es,ep,ho,r⟩,_⟩:=id I.loc
 obtain⟨sl,hL⟩:=u.any ho I.free (by simp)
 exact I.step (g':=s.gens) (d':=s.drawn) (ch:=[]) (fun _ z=>nomatch z) (fun b o _ hb _ e n=>u.keep b o e n hb (by simp)) (fun b o _ hb _ e n=>u.slot b o e n hb (by simp)) (fun b o _ e n=>u.free b o e n (by simp)) (fun b o _ e=>u.there b o e (by simp)) u.tups u.ql u.rM (fun m' hm=>by
  obtain⟨o',es',SR,ho',r'⟩:=hm
  rw[ho] at ho';cases ho'
  exact⟨_,es',SR,hL,r'⟩) hok I.bare
theorem Inv.call {g':Array GenState}{t':Nat}{d':Drawn}{ch:List Addr}(I:Inv X pins σ H s) (u:Un (frs X.stack) ch H H' s.heap h') (hok:oh X.prog X.w H' h') (hg:AllBare g')
  (hch:∀b∈ch,(b∈X.ex∨X.s₀.heap.objs.size≤b)∧b≠X.env.locals∧(∀x c,X.env.cells.lookup x=some c→c≠b)∧∀p∈X.pn++pins,p.1≠b):
  Inv X pins σ H' {s with heap:=h',gens:=g',drawn:=d',toks:=t'}:=by
 obtain⟨m,⟨o,es,ep,ho,r⟩,_⟩:=id I.loc
 obtain⟨sl,hL⟩:=u.any ho I.free fun z=>(hch _ z).2.1 rfl
 exact I.step (ch:=ch) hch (fun b o hL hb hc e n=>u.keep b o e n (fun z=>(List.mem_cons.mp (I.yy b z)).elim hL hb) hc) (fun b o _ _ hc e n=>u.any e n hc) (fun b o hc e n=>u.free b o e n hc) (fun b o hc e=>u.there b o e hc) u.tups u.ql u.rM (fun m' hm=>by
  obtain⟨o',es',SR,ho',r'⟩:=hm
  rw[ho] at ho';cases ho'
  exact⟨_,es',SR,hL,r'⟩) hok hg
theorem Inv.turned {t':Nat}{it:Addr}(I:Inv X pins σ H s) (k:∀b o,b≠it→s.heap.get? b=some o→h'.get? b=some o) (hn:H it=none) (hL:it≠X.env.locals)
  (h1:it∈X.ex∨X.s₀.heap.objs.size≤it) (h2:∀x c,X.env.cells.lookup x=some c→c≠it) (h3:∀p∈X.pn++pins,p.1≠it):Inv X pins σ H {s with heap:=h',toks:=t'}:=by
 have Zd:∀b u,H b=some u→b≠it:=fun b u e z=>by rw[z,hn] at e;cases e
 refine I.step (g':=s.gens) (d':=s.drawn) (ch:=[it]) (fun b hb=>?_) (fun b o _ _ hc e _=>k b o (fun z=>hc (by simp[z])) e) (fun b o _ _ hc e _=>⟨o.slots,k b o (fun z=>hc (by simp[z])) e⟩) (fun _ _ _ _ n=>n)
  (fun b o hc e=>⟨o,k b o (fun z=>hc (by simp[z])) e⟩) (fun _ _ e=>e) (fun _ _ _ e=>e) (fun b ps e=>⟨#[],by rw[e];simp⟩) (fun m hm=>?_) (fun b u e=>?_) I.bare
 ·have e:b=it:=by simpa using hb
  subst e
  exact⟨h1,hL,h2,h3⟩
 ·obtain⟨o,es,ep,ho,r⟩:=hm
  exact⟨o,es,ep,k _ o (Ne.symm hL) ho,r⟩
 ·refine(I.hok b u e).stay (fun c v hc q=>k c v ?_ q) (fun _ q=>q) fun _ _ q=>q
  rcases hc with z | z
  ·rw[z];exact Zd b u e
  ·exact Zd c _ z
theorem Inv.tok (I:Inv X pins σ H s) (t:Nat):Inv X pins σ H {s with toks:=t}:=I.un (h':=s.heap) (t':=t) Un.refl I.hok
theorem Inv.kept {t':Nat}(I:Inv X pins σ H s) (k:∀b u,s.heap.get? b=some u→h'.get? b=some u):Inv X pins σ H {s with heap:=h',toks:=t'}:=I.un (Un.kept k) (I.hok.kept k)
theorem Inv.laid {a:Addr}{o:HO}{t':Nat}(I:Inv X pins σ H s) (k:∀b u,s.heap.get? b=some u→h'.get? b=some u) (hp:s.heap.objs.size≤a) (new:gF X.prog X.w (upd H a o) h' a o):
  Inv X pins σ (upd H a o) {s with heap:=h',toks:=t'}:=I.un (Un.laid k hp (I.hok.fresh hp)) (I.hok.laid k hp new)
theorem Inv.write {x e:Addr}{o:HO}{t':Nat}(I:Inv X pins σ H s) (mu:NJ (H x)) (he:e=x∨H e=some (.own x)) (k:∀b u,b≠e→s.heap.get? b=some u→h'.get? b=some u) (M9:∃u,h'.get? e=some u)
  (new:gF X.prog X.w (upd H x o) h' x o):Inv X pins σ (upd H x o) {s with heap:=h',toks:=t'}:=I.un (Un.write mu he k M9) (I.hok.write mu he k M9 new)
theorem Inv.weak {σ':List (Option V)}(I:Inv X pins σ H s) (hl:σ'.length=σ.length) (w:∀(i:Nat) v,σ'[i]? =some (some v)→σ[i]? =some (some v)):Inv X pins σ' H s:=
 ⟨I.ok,I.os,I.bare,I.base,let⟨m,hn,hl'⟩:=I.loc;⟨m,hn,fun i x v e1 e2 e3=>hl' i x v e1 (w i v e2) e3⟩,I.cell,I.free,I.mV,I.pin,I.hok,hl.trans I.len⟩
theorem Inv.Cu {JK:List (Addr×Obj)}(I:Inv X pins σ H s) (h:∀p∈JK,s.heap.get? p.1=some p.2∧H p.1=none∧p.1≠X.env.locals∧p.1∉X.fs∧∀v,p.2.data≠.cell v):Inv X JK σ H s:=
 ⟨I.ok,I.os,I.bare,I.base,I.loc,I.cell,I.free,I.mV,fun p hp=>(List.mem_append.mp hp).elim (fun z=>I.pin p (List.mem_append_left _ z)) (h p),I.hok,I.len⟩
theorem zL {N:List Str}(hN:N.Nodup){i j:Nat}{x:Str}(a:N[i]? =some x) (b:N[j]? =some x):i=j:=by
 obtain⟨h1,e1⟩:=List.getElem?_eq_some_iff.mp a
 obtain⟨h2,e2⟩:=List.getElem?_eq_some_iff.mp b
 exact(List.getElem_inj hN).mp (e1.trans e2.symm)
theorem Dg {M : Model} {A : Around} {E : Value → Shared → Prop} {i : Nat} {x : Str} {v : V} {u : Value} {Q : Unit → Shared → Prop} (I : Inv X pins σ H s) (hN : X.N.Nodup) (hi : X.N[i]? = some x) (hx : Loc X.env.scope x) (r : RelV v u)
    (h:∀s',Inv X pins (σ.set i (some v)) H s'→(∃a,Heap.SameBut a s.heap s'.heap∧(a=X.env.locals∨X.env.cells.lookup x=some a))→Q () s') (hf:X.fn x=true∨X.env.scope.names.lookup x=some .local:=by first | exact .inl rfl | exact .inr rfl | assumption):wpAny M A (storeName X.env x u) Q E s:=by
  obtain⟨m,hn,hl⟩:=id I.loc
  have hcls:(X.env.scope.kind == .class || (X.env.scope.kind == .module && X.env.locals != X.env.globals))=false:=by rw[I.ok.kind];rfl
  have NQ:i < σ.length:=by rw[I.len];exact(List.getElem?_eq_some_iff.mp hi).1
  have Kv:=I.Kv
  have tracked:∀{a:Addr}{h':Heap},(∃o,s.heap.get? a=some o∧H a=none)→Heap.SameBut a s.heap h'→oh X.prog X.w H h':=fun {a h'} ha hs b ob e=>by
    obtain⟨_,_,hfree⟩:=ha
    refine(I.hok b ob e).stay (fun c w' hc q=>(hs.2 c ?_).trans q) (fun _ q=>q) fun _ _ q=>q
    rintro rfl
    rcases hc with rfl | hc
    · rw[hfree] at e;cases e
    · rw[hfree] at hc;cases hc
  rcases hx with hk | hk
  · refine wpAny_storeName_local hk hn (fun h' hn' hs=>?_) hcls
    obtain⟨oL,_,_,hoL,_⟩:=id hn
    refine h _ ⟨I.ok,I.os,I.bare,⟨fun b o e n hb hx=>?_,fun b o e n hb hx=>?_,I.base.free,fun b o e hx=>?_,I.base.tups,I.base.ql,I.base.rM⟩,⟨_,hn',fun j y v' e1 e2 e3=>?_⟩,fun y c e=>?_,I.free,I.mV,fun p hp=>?_,tracked ⟨oL,hoL,I.free⟩ hs,by simpa using I.len⟩ ⟨_,hs,.inl rfl⟩
    · exact(hs.2 b (Nat.ne_of_lt (Nat.lt_of_lt_of_le (Heap.lt_size e) I.ok.above))).trans (I.base.keep b o e n hb hx)
    · obtain⟨sl,e1⟩:=I.base.slot b o e n hb hx
      exact⟨sl,(hs.2 b (Nat.ne_of_lt (Nat.lt_of_lt_of_le (Heap.lt_size e) I.ok.above))).trans e1⟩
    · obtain⟨o',e1⟩:=I.base.there b o e hx
      exact⟨o',(hs.2 b (Nat.ne_of_lt (Nat.lt_of_lt_of_le (Heap.lt_size e) I.ok.above))).trans e1⟩
    · by_cases hj:j=i
      · subst hj
        rw[hi] at e1;cases e1
        rw[List.getElem?_set_self NQ] at e2
        cases e2
        exact⟨u,r,.inl ⟨hk,by simp⟩⟩
      · rw[List.getElem?_set_ne (Ne.symm hj)] at e2
        obtain⟨u',r',q⟩:=hl j y v' e1 e2 e3
        refine⟨u',r',?_⟩
        rcases q with⟨k,e⟩ | ⟨k,c,e,z⟩
        · refine .inl ⟨k,?_⟩
          have:y≠x:=fun e=>hj (zL hN e1 (e▸hi))
          simp[this,e]
        · exact .inr ⟨k,c,e,z.sameBut hs (Kv y c e)⟩
    · obtain⟨w',z⟩:=I.cell y c e
      exact⟨w',z.sameBut hs (Kv y c e)⟩
    · obtain⟨e,n,ne,nf,d⟩:=I.pin p hp
      exact⟨(hs.2 p.1 ne).trans e,n,ne,nf,d⟩
  · have hfn:X.fn x=true:=by
      rcases hf with z | z
      · exact z
      · rw[z] at hk;cases hk
    obtain⟨c,hc⟩:=I.ok.has x (.inl hk)
    obtain⟨w',z⟩:=I.cell x c hc
    refine wpAny_storeName_cell I.ok.kind hk hc z (fun h' hc' hs=>?_)
    obtain⟨oc,hoc,SV⟩:=id z
    refine h {s with heap:=h'} ⟨I.ok,I.os,I.bare,⟨fun b o e n hb hx=>?_,fun b o e n hb hx=>?_,I.base.free,fun b o e hx=>?_,I.base.tups,I.base.ql,I.base.rM⟩,⟨m,hn.sameBut hs (Ne.symm (Kv x c hc)),fun j y v' e1 e2 e3=>?_⟩,fun y c' e=>?_,I.free,I.mV,fun p hp=>?_,tracked ⟨oc,hoc,I.mV x c hc⟩ hs,by simpa using I.len⟩ ⟨c,hs,.inr hc⟩
    · exact(hs.2 b (Nat.ne_of_lt (Nat.lt_of_lt_of_le (Heap.lt_size e) (I.ok.NN x c hfn hc)))).trans (I.base.keep b o e n hb hx)
    · obtain⟨sl,e1⟩:=I.base.slot b o e n hb hx
      exact⟨sl,(hs.2 b (Nat.ne_of_lt (Nat.lt_of_lt_of_le (Heap.lt_size e) (I.ok.NN x c hfn hc)))).trans e1⟩
    · obtain⟨o',e1⟩:=I.base.there b o e hx
      exact⟨o',(hs.2 b (Nat.ne_of_lt (Nat.lt_of_lt_of_le (Heap.lt_size e) (I.ok.NN x c hfn hc)))).trans e1⟩
    · by_cases hj:j=i
      · subst hj
        rw[hi] at e1;cases e1
        rw[List.getElem?_set_self NQ] at e2
        cases e2
        exact⟨u,r,.inr ⟨.inl hk,c,hc,hc'⟩⟩
      · rw[List.getElem?_set_ne (Ne.symm hj)] at e2
        obtain⟨u',r',q⟩:=hl j y v' e1 e2 e3
        refine⟨u',r',?_⟩
        rcases q with q | ⟨k,c',e,z'⟩
        · exact .inl q
        · refine .inr ⟨k,c',e,z'.sameBut hs ?_⟩
          rintro rfl
          exact hj (zL hN e1 (I.ok.inj _ _ _ e hc▸hi))
    · by_cases hcc:c'=c
      · subst hcc;exact⟨_,hc'⟩
      · obtain⟨w2,z2⟩:=I.cell y c' e
        exact⟨w2,z2.sameBut hs hcc⟩
    · obtain⟨e,n,ne,nf,d⟩:=I.pin p hp
      refine⟨(hs.2 p.1 ?_).trans e,n,ne,nf,d⟩
      intro q
      rw[q,hoc] at e
      have q':oc=p.2:=Option.some.inj e
      exact d w' (by rw[←q'];exact SV)
theorem zM {M:Model}{A:Around}{E:Value→Shared→Prop}{i:Nat}{x:Str}{v:V}{u:Value}{Q:Unit→Shared→Prop}(I:Inv X pins σ H s) (hN:X.N.Nodup) (hi:X.N[i]? =some x) (hx:Loc X.env.scope x) (r:RelV v u)
  (h:∀s',Inv X pins (σ.set i (some v)) H s'→Q () s') (hf:X.fn x=true∨X.env.scope.names.lookup x=some .local:=by first | exact .inl rfl | exact .inr rfl | assumption):wpAny M A (storeName X.env x u) Q E s:=
 Dg I hN hi hx r (fun s' I' _=>h s' I') hf
theorem Inv.NR {s':Shared}{ch:List Addr}(I:Inv X pins σ H s) (ho:s'.os=s.os) (u:Un (frs X.stack) ch H H' s.heap s'.heap) (hok:oh X.prog X.w H' s'.heap) (hg:AllBare s'.gens)
  (hch:∀b∈ch,(b∈X.ex∨X.s₀.heap.objs.size≤b)∧b≠X.env.locals∧(∀x c,X.env.cells.lookup x=some c→c≠b)∧∀p∈X.pn++pins,p.1≠b):Inv X pins σ H' s':=by
 obtain⟨h',g',d',t',o'⟩:=s'
 have e:o'=s.os:=ho
 subst e
 exact I.call (g':=g') (t':=t') (d':=d') u hok hg hch
end
noncomputable abbrev XK:=Value→Option Addr→Hp→Prop
noncomputable abbrev St:=List (Option V)
noncomputable abbrev VK:=V→Hp→Prop
noncomputable abbrev TE:=St→Hp→VK→Prop
noncomputable abbrev TT:=St→Hp→(Bool→Hp→Prop)→Prop
noncomputable abbrev TA:=St→Hp→(List V→Hp→Prop)→Prop
structure Ends where
 nx:St→Hp→Prop
 rt:VK
 bk:St→Hp→Prop:=fun _ _=>False
 ct:St→Hp→Prop:=fun _ _=>False
noncomputable abbrev TS:=Ends→St→Hp→Prop
noncomputable def EP (X:Cx) (pins:List (Addr×Obj)) (σ:St) (Q:VK) (u:Value) (s':Shared):Prop:=∃v H',Inv X pins σ H' s'∧RelV v u∧Q v H'
noncomputable def TP (X:Cx) (pins:List (Addr×Obj)) (σ:St) (Q:Bool→Hp→Prop) (b:Bool) (s':Shared):Prop:=∃H',Inv X pins σ H' s'∧Q b H'
noncomputable def AP (X:Cx) (pins:List (Addr×Obj)) (σ:St) (Q:List V→Hp→Prop) (us:List Value) (s':Shared):Prop:=∃vs H',Inv X pins σ H' s'∧Vals vs us∧Q vs H'
noncomputable def SP (X:Cx) (pins:List (Addr×Obj)) (D:Ends) (f:Flow) (s':Shared):Prop:=
 match f with
 | .next=>∃σ' H',Inv X pins σ' H' s'∧D.nx σ' H'
 | .brk=>∃σ' H',Inv X pins σ' H' s'∧D.bk σ' H'
 | .cont=>∃σ' H',Inv X pins σ' H' s'∧D.ct σ' H'
 | .ret u=>∃v σ' H',Inv X pins σ' H' s'∧RelV v u∧D.rt v H'
noncomputable def PE (X:Cx) (e:Expr) (t:TE):Prop:=
 ∀(pins:List (Addr×Obj)) (s:Shared) (σ:St) (H:Hp) (Q:VK),Inv X pins σ H s→t σ H Q→wpAny (model X.prog X.w) X.A (eval e X.env) (EP X pins σ Q) X.xe s
noncomputable def PT (X:Cx) (e:Expr) (t:TT):Prop:=
 ∀(pins:List (Addr×Obj)) (s:Shared) (σ:St) (H:Hp) (Q:Bool→Hp→Prop),Inv X pins σ H s→t σ H Q→wpAny (model X.prog X.w) X.A (isTrue e X.env (eval e X.env)) (TP X pins σ Q) X.xe s
noncomputable def PW (X:Cx) (e:Expr) (t:TT):Prop:=
 ∀(whole:Sem Value) (pins:List (Addr×Obj)) (s:Shared) (σ:St) (H:Hp) (Q:Bool→Hp→Prop),Inv X pins σ H s→t σ H Q→wpAny (model X.prog X.w) X.A (isTrue e X.env whole) (TP X pins σ Q) X.xe s
theorem PW.pt {X:Cx}{e:Expr}{t:TT}(h:PW X e t):PT X e t:=h _
noncomputable def PA (X:Cx) (es:List Expr) (t:TA):Prop:=
 ∀(pos:Pos) (pins:List (Addr×Obj)) (s:Shared) (σ:St) (H:Hp) (Q:List V→Hp→Prop),Inv X pins σ H s→t σ H Q→wpAny (model X.prog X.w) X.A (spliced (backTo pos (starEach es X.env))) (AP X pins σ Q) X.xe s
noncomputable def PS (X:Cx) (st:Stmt) (t:TS):Prop:=
 ∀(pins:List (Addr×Obj)) (s:Shared) (σ:St) (H:Hp) (D:Ends),Inv X pins σ H s→t D σ H→wpAny (model X.prog X.w) X.A (exec st X.env) (SP X pins D) X.xe s
noncomputable def Be (X:Cx) (st:List Stmt) (t:TS):Prop:=
 ∀(pins:List (Addr×Obj)) (s:Shared) (σ:St) (H:Hp) (D:Ends),Inv X pins σ H s→t D σ H→wpAny (model X.prog X.w) X.A (execs st X.env) (SP X pins D) X.xe s
theorem d9 {α:Type}{t:Sem α}{Q Q':α→Shared→Prop}{M:Model}{A:Around}{E:Value→Shared→Prop}{s:Shared}(h:wpAny M A t Q E s) (hQ:∀a s,Q a s→Q' a s):wpAny M A t Q' E s:=wpAny_mono h hQ fun _ _ x=>x
end L2
namespace L2
open PySem PySem.Spec PyProof.Rows
section
variable {X:Cx}
theorem bin {a b:Expr}{ta tb:TE}(ha:PE X a ta) (hb:PE X b tb){pins:List (Addr×Obj)}{s:Shared}{σ:St}{H:Hp}{R:V→V→Hp→Prop}(I:Inv X pins σ H s) (h:ta σ H fun x H1=>tb σ H1 fun y H2=>R x y H2)
  {α:Type}{Q:α→Shared→Prop}{f:Value→Value→Sem α}
  (hf:∀v u s2 x y H2,Inv X pins σ H2 s2→RelV x v→RelV y u→R x y H2→wpAny (model X.prog X.w) X.A (f v u) Q X.xe s2):
  wpAny (model X.prog X.w) X.A (eval a X.env) (fun v s₁=>wpAny (model X.prog X.w) X.A (eval b X.env) (fun u s₂=>wpAny (model X.prog X.w) X.A (f v u) Q X.xe s₂) X.xe s₁) X.xe s:=by
 refine d9 (ha pins s σ H _ I h) fun v s1 ⟨x,H1,I1,r1,q1⟩=>?_
 refine d9 (hb pins s1 σ H1 _ I1 q1) fun u s2 ⟨y,H2,I2,r2,q2⟩=>?_
 exact hf v u s2 x y H2 I2 r1 r2 q2
noncomputable def Kw (i:Nat):TE:=fun σ H Q=>∃v,σ[i]? =some (some v)∧Q v H
noncomputable def tC (v:V):TE:=fun _ H Q=>Q v H
theorem gw {i:Nat}{x:Str}{pos:Pos}(hN:X.N[i]? =some x) (hv:Bd X.env.scope x) (hd:(x == ("__debug__":Str))=false:=by decide) (hcd:(x == ("__classdict__":Str))=false:=by decide):PE X (.Name x pos) (Kw i):=by
 intro pins s σ H Q I h
 obtain⟨v,e,h⟩:=h
 obtain⟨m,hn,hl⟩:=I.loc
 obtain⟨u,r,l⟩:=hl i x v hN e hv
 have fin:EP X pins σ Q u s:=⟨v,H,I,r,h⟩
 rcases l with⟨hk,hm⟩ | ⟨hk,c,hc,hcell⟩
 ·exact wpAny_Name (wpAny_loadName_local I.ok.kind hk hn hm fin) hd
 ·rcases hk with hk | hk
  ·exact wpAny_Name (wpAny_loadName_cell I.ok.kind hk hc hcell fin) hd
  ·exact wpAny_Name (wpAny_loadName_free I.ok.kind hk hc hcell fin hcd) hd
theorem Ky {i j pos}:PE X (.Constant (.int i) j pos) (tC (.int i)):=fun _ _ _ H _ I h=>wpAny_Constant_int ⟨.int i,H,I.tok _,⟨_,rfl⟩,h⟩
theorem NS {b j pos}:PE X (.Constant (.bool b) j pos) (tC (.bl b)):=fun _ _ _ H _ I h=>Constant_bool ⟨.bl b,H,I,rfl,h⟩
theorem EM {x j pos}:PE X (.Constant (.str x) j pos) (tC (.str x)):=fun _ _ _ H _ I h=>Calls.Constant_str ⟨.str x,H,I.tok _,⟨_,rfl⟩,h⟩
noncomputable def Gl (X:Cx) (x:Str):Prop:=X.env.kindOf x=some .globalImplicit
theorem uv {E:Value→Shared→Prop}{pins:List (Addr×Obj)}{s:Shared}{σ:St}{H:Hp}{x:Str}{u:Value}{pos:Pos}{Q:Value→Shared→Prop}(I:Inv X pins σ H s) (hg:Gl X x) (hm:X.mg x=some u) (h:Q u s)
  (hd:(x == ("__debug__":Str))=false:=by decide):wpAny (model X.prog X.w) X.A (eval (.Name x pos) X.env) Q E s:=
 Calls.Name_function_global I.ok.kind hg (Calls.loadGlobal_global (by rw[I.ok.glob];exact I.mod.glob.keeps I.bk) hm h) hd
theorem yz {E:Value→Shared→Prop}{pins:List (Addr×Obj)}{s:Shared}{σ:St}{H:Hp}{x:Str}{u:Value}{pos:Pos}{Q:Value→Shared→Prop}(I:Inv X pins σ H s) (hg:Gl X x) (hm:X.mg x=none) (hv:bootBuiltins x=some u) (h:Q u s)
  (hn:x≠"__name__":=by decide) (hd:(x == ("__debug__":Str))=false:=by decide):wpAny (model X.prog X.w) X.A (eval (.Name x pos) X.env) Q E s:=by
 obtain⟨mb,h1,h2⟩:=I.mod.blt
 exact Calls.Name_function_global I.ok.kind hg (Calls.loadGlobal_builtin (by rw[I.ok.glob];exact I.mod.glob.keeps I.bk) hm (by rw[I.ok.blt];exact h1.keeps I.bk) ((h2 x hn).trans hv) h) hd
theorem oq {x:Str}{v:V}{u:Value}{pos:Pos}(hg:Gl X x) (hm:X.mg x=some u) (r:RelV v u) (hd:(x == ("__debug__":Str))=false:=by decide):PE X (.Name x pos) (tC v):=
 fun _ _ _ H _ I h=>uv I hg hm ⟨v,H,I,r,h⟩ hd
theorem HH {x:Str}{v:V}{u:Value}{pos:Pos}(hg:Gl X x) (hm:X.mg x=none) (hv:bootBuiltins x=some u) (r:RelV v u) (hn:x≠"__name__":=by decide) (hd:(x == ("__debug__":Str))=false:=by decide):PE X (.Name x pos) (tC v):=
 fun _ _ _ H _ I h=>yz I hg hm hv ⟨v,H,I,r,h⟩ hn hd
variable {a b:Expr}{ta tb:TE}{pos:Pos}
noncomputable def PC (X:Cx) (op:CmpOp) (a b:Expr) (t:TE):Prop:=
 ∀(pins:List (Addr×Obj)) (s:Shared) (σ:St) (H:Hp) (Q:VK),Inv X pins σ H s→t σ H Q→
  wpAny (model X.prog X.w) X.A (eval a X.env) (fun v s₁=>wpAny (model X.prog X.w) X.A (eval b X.env) (fun u s₂=>wpAny (model X.prog X.w) X.A (compareOp op v u) (EP X pins σ Q) X.xe s₂) X.xe s₁) X.xe s
theorem zN (b:Expr){op:CmpOp}(h:op≠.In) (h2:op≠.NotIn):behindInMarks op b=false:=by
 have e1:(op == CmpOp.In)=false:=by cases op <;> first | rfl | exact absurd rfl h
 have e2:(op == CmpOp.NotIn)=false:=by cases op <;> first | rfl | exact absurd rfl h2
 cases b <;> simp[behindInMarks,e1,e2]
noncomputable def tB (t:TE):TT:=fun σ H Q=>t σ H fun x H1=>∃c,x= .bl c∧Q c H1
theorem Kz {op:CmpOp}{t:TE}(h:PC X op a b t) (h1:behindInMarks op b=false:=by first | exact zN _ (by decide) (by decide) | rfl):PE X (.Compare a [op] [b] pos) t:=fun pins s σ H Q I hw=>wpAny_Compare1 (h pins s σ H Q I hw) h1
theorem KA {op:CmpOp}{t:TE}(h:PC X op a b t) (h1:behindInMarks op b=false:=by first | exact zN _ (by decide) (by decide) | rfl):PT X (.Compare a [op] [b] pos) (tB t):=by
 intro pins s σ H Q I hw
 refine wpAny_isTrue_Compare1 (d9 (h pins s σ H _ I hw) fun v s1 h1=>d9 h1 fun u s2 h2=>d9 h2 fun c s3 ⟨x,H1,I1,r1,q1⟩=>?_) h1
 obtain⟨d,rfl,q⟩:=q1
 cases r1
 exact wpAny_truthy_bool ⟨H1,I1,q⟩
theorem KC {e:Expr}{t:TE}(h:PE X e t) (he:∀whole,isTrue e X.env whole=(do let v ←whole;standAt e.pos;holding [v] (truthy v)):=by intro _;rfl):PT X e (tB t):=by
 intro pins s σ H Q I hw
 refine isTrue_plain (d9 (h pins s σ H _ I hw) fun v s1 ⟨x,H1,I1,r1,q1⟩=>?_) (he _)
 obtain⟨d,rfl,q⟩:=q1
 cases r1
 exact wpAny_truthy_bool ⟨H1,I1,q⟩
variable {tA Q0:TT}{rest:List Expr}
noncomputable def SW (t u:TT):TT:=fun σ H Q=>t σ H fun c H1=>if c=true then u σ H1 Q else Q false H1
noncomputable def tOr (t u:TT):TT:=fun σ H Q=>t σ H fun c H1=>if c=true then Q true H1 else u σ H1 Q
noncomputable def SX (t:TT):TT:=fun σ H Q=>t σ H fun c H1=>Q (!c) H1
theorem pw_and1 (ha:PT X a tA):PW X (.BoolOp .And [a] pos) tA:=by
 intro wh pins s σ H Q I h
 refine isTrue_and (d9 (ha pins s σ H Q I h) fun c s1 e=>?_)
 cases c with
 | true=>exact isTrue_and_nil e
 | false=>exact e
theorem pw_or1 (ha:PT X a tA):PW X (.BoolOp .Or [a] pos) tA:=by
 intro wh pins s σ H Q I h
 refine isTrue_or (d9 (ha pins s σ H Q I h) fun c s1 e=>?_)
 cases c with
 | false=>exact isTrue_or_nil e
 | true=>exact e
theorem pw_and (ha:PT X a tA) (hb:PW X (.BoolOp .And (b :: rest) pos) Q0):PW X (.BoolOp .And (a :: b :: rest) pos) (SW tA Q0):=by
 intro wh pins s σ H Q I h
 refine isTrue_and (d9 (ha pins s σ H _ I h) fun c s1 ⟨H1,I1,q1⟩=>?_)
 cases c with
 | true=>exact hb wh pins s1 σ H1 Q I1 q1
 | false=>exact⟨H1,I1,q1⟩
theorem pw_or (ha:PT X a tA) (hb:PW X (.BoolOp .Or (b :: rest) pos) Q0):PW X (.BoolOp .Or (a :: b :: rest) pos) (tOr tA Q0):=by
 intro wh pins s σ H Q I h
 refine isTrue_or (d9 (ha pins s σ H _ I h) fun c s1 ⟨H1,I1,q1⟩=>?_)
 cases c with
 | true=>exact⟨H1,I1,q1⟩
 | false=>exact hb wh pins s1 σ H1 Q I1 q1
theorem KD (ha:PT X a tA):PT X (.UnaryOp .Not a pos) (SX tA):=by
 intro pins s σ H Q I h
 exact isTrue_not (ha pins s σ H (fun c H1=>Q (!c) H1) I h)
noncomputable def NT (ta tb:TE):TE:=fun σ H Q=>ta σ H fun x H1=>∃c,x= .bl c∧if c=true then tb σ H1 Q else Q (.bl false) H1
noncomputable def SY (ta tb:TE):TE:=fun σ H Q=>ta σ H fun x H1=>∃c,x= .bl c∧if c=true then Q (.bl true) H1 else tb σ H1 Q
theorem KG {op}{t:TE}(h:PE X a t):PE X (.BoolOp op [a] pos) t:=fun pins s σ H Q I hw=>BoolOp_one (h pins s σ H Q I hw)
theorem KH (ha:PE X a ta) (hb:PE X (.BoolOp .And (b :: rest) pos) tb):PE X (.BoolOp .And (a :: b :: rest) pos) (NT ta tb):=by
 intro pins s σ H Q I h
 refine BoolOp_and (d9 (ha pins s σ H _ I h) fun v s1 ⟨x,H1,I1,r1,q1⟩=>?_)
 obtain⟨c,rfl,q1⟩:=q1
 cases r1
 refine wpAny_truthy_bool ?_
 cases c with
 | true=>exact hb pins s1 σ H1 Q I1 q1
 | false=>exact⟨.bl false,H1,I1,rfl,q1⟩
theorem NU (ha:PE X a ta) (hb:PE X (.BoolOp .Or (b :: rest) pos) tb):PE X (.BoolOp .Or (a :: b :: rest) pos) (SY ta tb):=by
 intro pins s σ H Q I h
 refine BoolOp_or (d9 (ha pins s σ H _ I h) fun v s1 ⟨x,H1,I1,r1,q1⟩=>?_)
 obtain⟨c,rfl,q1⟩:=q1
 cases r1
 refine wpAny_truthy_bool ?_
 cases c with
 | false=>exact hb pins s1 σ H1 Q I1 q1
 | true=>exact⟨.bl true,H1,I1,rfl,q1⟩
noncomputable def tIf (t:TT) (ta tb:TE):TE:=fun σ H Q=>t σ H fun c H1=>if c=true then ta σ H1 Q else tb σ H1 Q
theorem EN {c:Expr}(hc:PT X c tA) (ha:PE X a ta) (hb:PE X b tb):PE X (.IfExp c a b pos) (tIf tA ta tb):=by
 intro pins s σ H Q I h
 refine wpAny_IfExp (d9 (hc pins s σ H _ I h) fun d s1 ⟨H1,I1,q1⟩=>?_)
 cases d with
 | true=>exact ha pins s1 σ H1 Q I1 q1
 | false=>exact hb pins s1 σ H1 Q I1 q1
end
end L2
namespace L2
open PySem PySem.Spec PyProof.Rows
noncomputable def pG (K:PySem.W.Frag) (H:Hp) (a:Addr) (xs:List V):Prop:=
 Rd H a (.lst xs)∨
  ∃(o:Obj) (its:Array Value) (n:Nat),K.lookup a=some o∧o.cls= .type "list"∧o.dict=none∧o.data= .seq its n∧its.size≤sizeLine∧Vals xs its.toList
noncomputable def zO (K:PySem.W.Frag) (H:Hp) (a:Addr) (xs:List V):Prop:=
 Rd H a (.tup xs)∨
  ∃(o:Obj) (its:Array Value) (n:Nat),K.lookup a=some o∧o.cls= .type "tuple"∧o.data= .seq its n∧its.size≤sizeLine∧Vals xs its.toList
noncomputable def S4:Value→Option V
 | .none=>some .bZ
 | .bool b=>some (.bl b)
 | .int i _=>some (.int i)
 | .str x _=>some (.str x)
 | .bytes b _=>some (.QX b)
 | .float b _=>some (.flt b)
 | .ref a=>some (.ref a)
 | .type n=>some (.ty n)
 | _=>none
theorem RelV.abs {x:V}{u:Value}(r:RelV x u):S4 u=some x:=by
 cases x with
 | bZ=>cases r;rfl
 | bl _=>cases r;rfl
 | int _=>obtain⟨t,rfl⟩:=r;rfl
 | str _=>obtain⟨t,rfl⟩:=r;rfl
 | QX _=>obtain⟨t,rfl⟩:=r;rfl
 | flt _=>obtain⟨t,rfl⟩:=r;rfl
 | ref _=>cases r;rfl
 | ty _=>cases r;rfl
theorem RelV.inj {x y:V}{u:Value}(r:RelV x u) (q:RelV y u):x=y:=Option.some.inj (r.abs.symm.trans q.abs)
theorem Vals.inj:∀{xs ys:List V}{us:List Value},Vals xs us→Vals ys us→xs=ys
 | _,_,_,.nil,.nil=>rfl
 | _,_,_,.cons r t,.cons r' t'=>by rw[r.inj r',Vals.inj t t']
section
variable {X:Cx}{pins:List (Addr×Obj)}{σ:St}{H:Hp}{s:Shared}{a:Addr}{xs ys:List V}
theorem pG.of {K:PySem.W.Frag}(h:H a=some (.lst xs)):pG K H a xs:=.inl (.inl h)
theorem zO.of {K:PySem.W.Frag}(h:H a=some (.tup xs)):zO K H a xs:=.inl (.inl h)
theorem Inv.list (I:Inv X pins σ H s) (h:pG X.K H a xs):∃its:List Value,Vals xs its∧PlainL s.heap a its.toArray∧xs.length≤sizeLine:=by
 rcases h with h | ⟨o,its,n,hk,hc,hd,hs,hz,r⟩
 ·obtain⟨z,its,n,r,e⟩:=h.ok I.hok
  exact⟨its,r,⟨_,n,e,rfl,rfl,rfl⟩,z⟩
 ·refine⟨its.toList,r,⟨o,n,I.uC a o hk,hc,hd,by simpa using hs⟩,?_⟩
  have e:=r.length
  simp only[Array.length_toList] at e
  omega
theorem Inv.tuple (I:Inv X pins σ H s) (h:zO X.K H a xs):∃its:List Value,Vals xs its∧IsTup s.heap a its.toArray∧xs.length≤sizeLine:=by
 rcases h with h | ⟨o,its,n,hk,hc,hs,hz,r⟩
 ·obtain⟨z,its,r,p⟩:=h.ok I.hok
  exact⟨its,r,p,z⟩
 ·refine⟨its.toList,r,⟨o,I.uC a o hk,hc,n,by simpa using hs⟩,?_⟩
  have e:=r.length
  simp only[Array.length_toList] at e
  omega
theorem Inv.EO (I:Inv X pins σ H s) (h:pG X.K H a xs) (h':pG X.K H a ys):xs=ys:=by
 obtain⟨its,r,⟨o,n,e,_,_,d⟩,_⟩:=I.list h
 obtain⟨its',r',⟨o',n',e',_,_,d'⟩,_⟩:=I.list h'
 rw[e] at e';cases e'
 rw[d] at d'
 injection d' with d1 _
 have:its=its':=by simpa using congrArg Array.toList d1
 subst this
 exact r.inj r'
theorem Inv.Dh (I:Inv X pins σ H s) (h:zO X.K H a xs) (h':zO X.K H a ys):xs=ys:=by
 obtain⟨its,r,⟨o,e,_,n,d⟩,_⟩:=I.tuple h
 obtain⟨its',r',⟨o',e',_,n',d'⟩,_⟩:=I.tuple h'
 rw[e] at e';cases e'
 rw[d] at d'
 injection d' with d1 _
 have:its=its':=by simpa using congrArg Array.toList d1
 subst this
 exact r.inj r'
end
noncomputable abbrev Cx.tX (X:Cx) (E:Value→Shared→Prop):Cx:={X with xe:=E}
noncomputable abbrev Cx.HJ (X:Cx):Cx:=X.tX fun _ _=>False
theorem Cx.Ok.tX {X:Cx}(ok:X.Ok) (E:Value→Shared→Prop):(X.tX E).Ok:=
 ⟨ok.mod,ok.kind,ok.glob,ok.blt,ok.above,ok.inj,ok.has,ok.NN,ok.hd,ok.frames,ok.stk,ok.SQ,ok.bs,ok.EJ,ok.EK,ok.EL,ok.rN,ok.JJ⟩
theorem Cx.Ok.kP {X:Cx}{E:Value→Shared→Prop}(ok:(X.tX E).Ok):X.Ok:=
 ⟨ok.mod,ok.kind,ok.glob,ok.blt,ok.above,ok.inj,ok.has,ok.NN,ok.hd,ok.frames,ok.stk,ok.SQ,ok.bs,ok.EJ,ok.EK,ok.EL,ok.rN,ok.JJ⟩
section
variable {X:Cx}{pins:List (Addr×Obj)}{σ:St}{H:Hp}{s:Shared}{E:Value→Shared→Prop}
theorem Inv.tX (I:Inv X pins σ H s) (E:Value→Shared→Prop):Inv (X.tX E) pins σ H s:=⟨I.ok.tX E,I.os,I.bare,I.base,I.loc,I.cell,I.free,I.mV,I.pin,I.hok,I.len⟩
theorem Inv.kP (I:Inv (X.tX E) pins σ H s):Inv X pins σ H s:=⟨I.ok.kP,I.os,I.bare,I.base,I.loc,I.cell,I.free,I.mV,I.pin,I.hok,I.len⟩
theorem SP.kP {D:Ends}{f:Flow}{s':Shared}(h:SP (X.tX E) pins D f s'):SP X pins D f s':=by
 cases f with
 | next=>obtain⟨σ',H',I,q⟩:=h;exact⟨σ',H',I.kP,q⟩
 | brk=>obtain⟨σ',H',I,q⟩:=h;exact⟨σ',H',I.kP,q⟩
 | cont=>obtain⟨σ',H',I,q⟩:=h;exact⟨σ',H',I.kP,q⟩
 | ret u=>obtain⟨v,σ',H',I,r,q⟩:=h;exact⟨v,σ',H',I.kP,r,q⟩
theorem PE.HJ {e:Expr}{t:TE}(h:PE X.HJ e t):PE X e t:=fun pins s σ H Q I hw=>
 wpAny_mono (h pins s σ H Q (I.tX _) hw) (fun _ _ ⟨v,H',I',r,q⟩=>⟨v,H',I'.kP,r,q⟩) fun _ _ z=>False.elim z
theorem PT.HJ {e:Expr}{t:TT}(h:PT X.HJ e t):PT X e t:=fun pins s σ H Q I hw=>
 wpAny_mono (h pins s σ H Q (I.tX _) hw) (fun _ _ ⟨H',I',q⟩=>⟨H',I'.kP,q⟩) fun _ _ z=>False.elim z
theorem Be.HJ {st:List Stmt}{t:TS}(h:Be X.HJ st t):Be X st t:=fun pins s σ H D I hw=>
 wpAny_mono (h pins s σ H D (I.tX _) hw) (fun _ _ q=>q.kP) fun _ _ z=>False.elim z
end
section
variable {X:Cx}{st:Stmt}{rest:List Stmt}{t u:TS}{e:Expr}{te:TE}{pos:Pos}
noncomputable def NV:TS:=fun D σ H=>D.nx σ H
noncomputable def S5 (t u:TS):TS:=fun D σ H=>t {D with nx:=u D} σ H
theorem HK:Be X [] NV:=fun _ _ σ H _ I h=>wpAny_execs_nil ⟨σ,H,I,h⟩
theorem ER (h1:PS X st t) (h2:Be X rest u):Be X (st :: rest) (S5 t u):=by
 intro pins s σ H D I h
 refine wpAny_execs_cons (d9 (h1 pins s σ H {D with nx:=u D} I h) fun f s1 q=>?_)
 cases f with
 | next=>
  obtain⟨σ',H',I',q⟩:=q
  exact h2 pins s1 σ' H' D I' q
 | ret v=>exact q
 | brk=>exact q
 | cont=>exact q
theorem HL (h1:PS X st t):Be X [st] t:=by
 intro pins s σ H D I h
 refine wpAny_execs_cons (d9 (h1 pins s σ H D I h) fun f s1 q=>?_)
 cases f with
 | next=>exact wpAny_execs_nil q
 | ret v=>exact q
 | brk=>exact q
 | cont=>exact q
theorem Inv.quiet {pins:List (Addr×Obj)}{σ:St}{H:Hp}{s:Shared}(I:Inv X pins σ H s):interactive X.env=false:=by simp[interactive,I.ok.kind]
noncomputable def NW (te:TE):TS:=fun D σ H=>te σ H fun _ H1=>D.nx σ H1
theorem HM (he:PE X e te) (hs:swapsWith e none pos.line X.env=pure false:=by rfl):PS X (.Expr e pos) (NW te):=by
 intro pins s σ H D I h
 exact wpAny_Expr_any (d9 (he pins s σ H _ I h) fun v s1 ⟨x,H1,I1,r1,q1⟩=>⟨σ,H1,I1,q1⟩) I.quiet hs
noncomputable def S6 (te:TE):TS:=fun D σ H=>te σ H D.rt
theorem KI (he:PE X e te):PS X (.Return (some e) pos) (S6 te):=by
 intro pins s σ H D I h
 exact wpAny_Return_some (d9 (he pins s σ H _ I h) fun v s1 ⟨x,H1,I1,r1,q1⟩=>⟨x,σ,H1,I1,r1,q1⟩)
noncomputable def S7 (c:TT) (t u:TS):TS:=fun D σ H=>c σ H fun b H1=>if b=true then t D σ H1 else u D σ H1
theorem NX {c:Expr}{a b:List Stmt}{tc:TT}(hc:PT X c tc) (ha:Be X a t) (hb:Be X b u):PS X (.If c a b pos) (S7 tc t u):=by
 intro pins s σ H D I h
 refine wpAny_If (d9 (hc pins s σ H _ I h) fun d s1 ⟨H1,I1,q1⟩=>?_)
 cases d with
 | true=>exact ha pins s1 σ H1 D I1 q1
 | false=>exact hb pins s1 σ H1 D I1 q1
end
noncomputable abbrev TG:=V→St→Hp→(St→Hp→Prop)→Prop
noncomputable abbrev Ze:=List V→St→Hp→(St→Hp→Prop)→Prop
noncomputable def PG (X:Cx) (target:Expr) (t:TG):Prop:=
 ∀(pins:List (Addr×Obj)) (s:Shared) (σ:St) (H:Hp) (v:V) (u:Value) (Q:St→Hp→Prop),Inv X pins σ H s→RelV v u→t v σ H Q→
  wpAny (model X.prog X.w) X.A (assign target X.env u) (fun _ s'=>∃σ' H',Inv X pins σ' H' s'∧Q σ' H') X.xe s
noncomputable def S8 (X:Cx) (ts:List Expr) (t:Ze):Prop:=
 ∀(pins:List (Addr×Obj)) (s:Shared) (σ:St) (H:Hp) (vs:List V) (us:List Value) (Q:St→Hp→Prop),Inv X pins σ H s→Vals vs us→t vs σ H Q→
  wpAny (model X.prog X.w) X.A (assignInOrder ((assignEach ts X.env).map (·.2)) us) (fun _ s'=>∃σ' H',Inv X pins σ' H' s'∧Q σ' H') X.xe s
noncomputable abbrev KJ:=V→V→V→Hp→(Hp→Prop)→Prop
noncomputable def NY (X:Cx) (t:KJ):Prop:=
 ∀(pins:List (Addr×Obj)) (s:Shared) (σ:St) (H:Hp) (o i v:V) (ov iv u:Value) (Q:Hp→Prop),Inv X pins σ H s→RelV o ov→RelV i iv→RelV v u→t o i v H Q→
  wpAny (model X.prog X.w) X.A (setItem ov iv u) (fun _ s'=>∃H',Inv X pins σ H' s'∧Q H') X.xe s
section
variable {X:Cx}{pos:Pos}
noncomputable def zP (i:Nat):TG:=fun v σ H Q=>Q (σ.set i (some v)) H
theorem Cv {i:Nat}{x:Str}(hN:X.N.Nodup) (hi:X.N[i]? =some x) (hx:Loc X.env.scope x) (hf:X.fn x=true∨X.env.scope.names.lookup x=some .local:=by first | exact .inl rfl | exact .inr rfl | assumption):PG X (.Name x pos) (zP i):=by
 intro pins s σ H v u Q I r h
 exact wpAny_assign_Name (zM I hN hi hx r (fun s' I'=>⟨_,H,I',h⟩) hf)
noncomputable def S9 (to ti:TE) (t:KJ):TG:=fun v σ H Q=>to σ H fun o H1=>ti σ H1 fun i H2=>t o i v H2 fun H3=>Q σ H3
theorem KL {o i:Expr}{to ti:TE}{t:KJ}(ho:PE X o to) (hi:PE X i ti) (hs:NY X t)
  (ha:∀v,assign (.Subscript o i pos) X.env v=(do
   let ov ←holding [v] (eval o X.env)
   let iv ←holding [v,ov] (eval i X.env)
   standAt pos
   holding [v,ov,iv] (setItem ov iv v)
   release [v,ov,iv] []):=by intro _;rfl):PG X (.Subscript o i pos) (S9 to ti t):=by
 intro pins s σ H v u Q I r h
 rw[ha]
 refine wpAny_bind (wpAny_holding (d9 (ho pins s σ H _ I h) fun ov s1 ⟨x,H1,I1,r1,q1⟩=>?_))
 refine wpAny_bind (wpAny_holding (d9 (hi pins s1 σ H1 _ I1 q1) fun iv s2 ⟨y,H2,I2,r2,q2⟩=>?_))
 refine wpAny_bind (wpAny_standAt (wpAny_bind (wpAny_holding (d9 (hs pins s2 σ H2 x y v ov iv u _ I2 r1 r2 r q2) fun _ s3 ⟨H3,I3,q3⟩=>?_))))
 exact wpAny_release ⟨σ,H3,I3,q3⟩
noncomputable def KN (te:TE) (g:TG):TS:=fun D σ H=>te σ H fun x H1=>g x σ H1 D.nx
theorem KO {tg e:Expr}{te:TE}{g:TG}(he:PE X e te) (hg:PG X tg g) (hs:swapsWithSole [tg] e pos.line X.env=pure false:=by rfl) (hw:swappedStores [tg] e X.env=pure none:=by rfl)
  (h1:(assignEach [tg] X.env).map (·.2)=[assign tg X.env]:=by rfl):PS X (.Assign [tg] e pos) (KN te g):=by
 intro pins s σ H D I h
 refine wpAny_Assign_stores (d9 (he pins s σ H _ I h) fun v s1 ⟨x,H1,I1,r1,q1⟩=>?_) hs hw
 rw[h1]
 exact d9 (hg pins s1 σ H1 x v _ I1 r1 q1) fun _ s2 q=>q
theorem KP {i:Nat}{x:Str}{e:Expr}{te:TE}{pos':Pos}(hN:X.N.Nodup) (hi:X.N[i]? =some x) (hx:Loc X.env.scope x) (he:PE X e te) (hs:swapsWith e (some (.Name x pos')) pos.line X.env=pure false:=by rfl) (hf:X.fn x=true∨X.env.scope.names.lookup x=some .local:=by first | exact .inl rfl | exact .inr rfl | assumption):
  PS X (.Assign [.Name x pos'] e pos) (KN te (zP i)):=by
 intro pins s σ H D I h
 refine wpAny_Assign_Name (d9 (he pins s σ H _ I h) fun v s1 ⟨y,H1,I1,r1,q1⟩=>?_) hs
 exact zM I1 hN hi hx r1 (fun s2 I2=>⟨_,H1,I2,q1⟩) hf
end
section
variable {X:Cx}{pos:Pos}
end
structure It where
 go:Nat→Hp→Prop
 Q2:Nat→Hp→V→Hp→Prop
 stop:Nat→Hp→Prop
noncomputable def uD (X:Cx) (pins:List (Addr×Obj)) (H:Hp) (b:Addr):Prop:=
 H b=none∧b≠X.env.locals∧b∉X.fs∧(b∈X.ex∨X.s₀.heap.objs.size≤b)∧(∀x c,X.env.cells.lookup x=some c→c≠b)∧∀p∈X.pn++pins,p.1≠b
theorem Inv.ES {X:Cx}{pins:List (Addr×Obj)}{σ:St}{H H':Hp}{s:Shared}{b:Addr}(I:Inv X pins σ H s) (hb:s.heap.objs.size≤b) (hn:H' b=none):uD X pins H' b:=by
 refine⟨hn,Nat.ne_of_gt (Nat.lt_of_lt_of_le I.lt hb),I.NO hb,.inr (Nat.le_trans I.sz hb),fun x c e z=>?_,fun p hp z=>?_⟩
 ·obtain⟨v,q⟩:=I.cell x c e
  exact absurd (Nat.lt_of_lt_of_le q.lt (by rw[z];exact hb)) (Nat.lt_irrefl _)
 ·exact absurd (Nat.lt_of_lt_of_le (Heap.lt_size (I.pin p hp).1) (by rw[z];exact hb)) (Nat.lt_irrefl _)
structure Turn (P:Program) (w:World) (K:PySem.W.Frag) (tg:Expr) (J:It) (fp:List Addr) (it:Addr) (tn:Nat→Heap→Prop):Prop where
 mem:it∈fp
 obj:∀i h,tn i h→∀b∈fp,∃o,h.get? b=some o∧∀v,o.data≠.cell v
 keep:∀i h h',tn i h→(∀b∈fp,∀o,h.get? b=some o→h'.get? b=some o)→tn i h'
 item:∀(X:Cx),X.prog=P→X.w=w→X.K=K→X.calm=true→∀(i:Nat) (pins:List (Addr×Obj)) (s:Shared) (σ:St) (H:Hp) (E:Value→Shared→Prop),Inv X pins σ H s→(∀b∈fp,uD X pins H b)→tn i s.heap→J.go i H→
  wpAny (model P w) X.A (pyNext (.ref it)) (fun r s1=>∃u,r=some u∧
   wpAny (model P w) X.A (letOwnedTupleGo tg (.ref it) u) (fun _ s2=>∃x H',Inv X pins σ H' s2∧RelV x u∧J.Q2 i H x H'∧tn (i+1) s2.heap∧∀b∈fp,H' b=none) E s1) E s
 done:∀(X:Cx),X.prog=P→X.w=w→X.K=K→X.calm=true→∀(i:Nat) (pins:List (Addr×Obj)) (s:Shared) (σ:St) (H:Hp) (E:Value→Shared→Prop),Inv X pins σ H s→(∀b∈fp,uD X pins H b)→tn i s.heap→J.stop i H→
  wpAny (model P w) X.A (pyNext (.ref it)) (fun r s1=>r=none∧Inv X pins σ H s1) E s
 self:∀(A:Around) (i:Nat) (s:Shared) (Q:Value→Shared→Prop) (E:Value→Shared→Prop),tn i s.heap→Q (.ref it) s→wpAny (model P w) A (pyIter (.ref it)) Q E s
noncomputable abbrev TI:=St→Hp→(It→Hp→Prop)→Prop
noncomputable def Tc (X:Cx) (pins:List (Addr×Obj)) (σ:St) (tg:Expr) (R:It→Hp→Prop) (itv:Value) (s2:Shared):Prop:=
 ∃(it:Addr) (fp:List Addr) (tn:Nat→Heap→Prop) (J:It) (H':Hp),itv= .ref it∧Inv X pins σ H' s2∧Turn X.prog X.w X.K tg J fp it tn∧tn 0 s2.heap∧(∀b∈fp,uD X pins H' b)∧R J H'
noncomputable def PI (X:Cx) (tg iter:Expr) (wi:TI):Prop:=
 ∀(pins:List (Addr×Obj)) (s:Shared) (σ:St) (H:Hp) (R:It→Hp→Prop),Inv X pins σ H s→wi σ H R→
  wpAny (model X.prog X.w) X.A (eval iter X.env) (fun v s1=>wpAny (model X.prog X.w) X.A (pyIter v) (Tc X pins σ tg R) X.xe s1) X.xe s
theorem ET {M : Model} {A : Around} {E : Value → Shared → Prop} {s : Shared} {tg : Expr} {it : Addr} {u : Value} {o : Obj} {n : String} {vs : Array Value} {Q : Unit → Shared → Prop} (ho : s.heap.get? it = some o) (hc : o.cls = .type n) (hd : o.data = .fields vs)
    (hn:["enumerate","zip","dict_itemiterator","dict_reverseitemiterator","odict_iterator","itertools.zip_longest","itertools.pairwise"].contains n=false) (hQ:Q () s):wpAny M A (letOwnedTupleGo tg (.ref it) u) Q E s:=by
  unfold letOwnedTupleGo
  cases tg <;> first
    | exact wpAny_pure hQ
    | (cases u <;> first
        | exact wpAny_pure hQ
        | (refine wpAny_bind (wpAny_load ho ?_)
           rw[hc,hd]
           show wpAny M A (if(["enumerate","zip","dict_itemiterator","dict_reverseitemiterator","odict_iterator","itertools.zip_longest","itertools.pairwise"].contains n && vs[0]? == some (rawInt _))=true then _ else _) Q E s
           rw[if_neg (by intro h;rw[hn,Bool.false_and] at h;cases h)]
           exact wpAny_pure hQ))
noncomputable def Td (K:PySem.W.Frag) (a:Addr):It:=
 ⟨fun i H=>∃xs x,pG K H a xs∧xs[i]? =some x,fun i H x H'=>H'=H∧∀xs,pG K H a xs→xs[i]? =some x,fun i H=>∃xs,pG K H a xs∧xs.length≤i⟩
noncomputable def Te (K:PySem.W.Frag) (a:Addr):It:=
 ⟨fun i H=>∃xs x,zO K H a xs∧xs[i]? =some x,fun i H x H'=>H'=H∧∀xs,zO K H a xs→xs[i]? =some x,fun i H=>∃xs,zO K H a xs∧xs.length≤i⟩
noncomputable def Q3 (lo:Int) (n:Nat):It:=⟨fun i _=>i < n,fun i H x H'=>H'=H∧x= .int (lo+i),fun i _=>n≤i⟩
theorem Di {P:Program}{w:World}{K:PySem.W.Frag}{tg:Expr}(a it:Addr):Turn P w K tg (Td K a) [it] it (fun i h=>h.IsListIter it a i) where
 mem:=by simp
 obj:=fun i h st b hb=>by
  have e:b=it:=by simpa using hb
  subst e
  obtain⟨o,e,c,d⟩:=st
  exact⟨o,e,fun v z=>by rw[d] at z;cases z⟩
 keep:=fun i h h' st k=>st.at fun o e=>k it (by simp) o e
 item:=by
  intro X hP hw hK hc i pins s σ H E I hf st hg
  subst hP hw hK
  obtain⟨xs,x,hq,hx⟩:=hg
  obtain⟨its,rv,p,hz⟩:=I.list hq
  obtain⟨u,hu,ru⟩:=rv.get hx
  obtain⟨f0,f1,f2,f3,f4,f5⟩:=hf it (by simp)
  refine wpAny_pyNext_list_item st p.isList (x:=u) (by simpa using hu) fun h' st' sb=>?_
  have I1:Inv X pins σ H {s with heap:=h'}:=I.turned (t':=s.toks) (fun b o hb e=>(sb.2 b hb).trans e) f0 f1 f3 f4 f5
  obtain⟨o,e,c,d⟩:=id st'
  exact⟨u,rfl,ET (s:={s with heap:=h'}) e c d (by decide) ⟨x,H,I1,ru,⟨rfl,fun ys hy=>by rw[I.EO hy hq];exact hx⟩,st',fun b hb=>(hf b hb).1⟩⟩
 done:=by
  intro X hP hw hK hc i pins s σ H E I hf st hg
  subst hP hw hK
  obtain⟨xs,hq,hx⟩:=hg
  obtain⟨its,rv,p,hz⟩:=I.list hq
  obtain⟨f0,f1,f2,f3,f4,f5⟩:=hf it (by simp)
  have hl:=rv.length
  exact wpAny_pyNext_list_end (I.ok.hd hc) st p.isList (by simp;omega) fun h' eb=>⟨rfl,I.turned (t':=s.toks) (fun b o hb e=>eb b o hb e) f0 f1 f3 f4 f5⟩
 self:=fun _ _ _ _ _ st h=>wpAny_pyIter_listiter st h
theorem Bg {P:Program}{w:World}{K:PySem.W.Frag}{tg:Expr}(a it:Addr):Turn P w K tg (Te K a) [it] it (fun i h=>h.IsTupleIter it a i) where
 mem:=by simp
 obj:=fun i h st b hb=>by
  have e:b=it:=by simpa using hb
  subst e
  obtain⟨o,e,c,d⟩:=st
  exact⟨o,e,fun v z=>by rw[d] at z;cases z⟩
 keep:=fun i h h' st k=>st.at fun o e=>k it (by simp) o e
 item:=by
  intro X hP hw hK hc i pins s σ H E I hf st hg
  subst hP hw hK
  obtain⟨xs,x,hq,hx⟩:=hg
  obtain⟨its,rv,p,hz⟩:=I.tuple hq
  obtain⟨u,hu,ru⟩:=rv.get hx
  obtain⟨f0,f1,f2,f3,f4,f5⟩:=hf it (by simp)
  refine wpAny_pyNext_tuple_item st (show s.heap.IsTuple a its.toArray from p) (x:=u) (by simpa using hu) fun h' st' sb=>?_
  have I1:Inv X pins σ H {s with heap:=h'}:=I.turned (t':=s.toks) (fun b o hb e=>(sb.2 b hb).trans e) f0 f1 f3 f4 f5
  obtain⟨o,e,c,d⟩:=id st'
  exact⟨u,rfl,ET (s:={s with heap:=h'}) e c d (by decide) ⟨x,H,I1,ru,⟨rfl,fun ys hy=>by rw[I.Dh hy hq];exact hx⟩,st',fun b hb=>(hf b hb).1⟩⟩
 done:=by
  intro X hP hw hK hc i pins s σ H E I hf st hg
  subst hP hw hK
  obtain⟨xs,hq,hx⟩:=hg
  obtain⟨its,rv,p,hz⟩:=I.tuple hq
  obtain⟨f0,f1,f2,f3,f4,f5⟩:=hf it (by simp)
  have hl:=rv.length
  exact wpAny_pyNext_tuple_end (I.ok.hd hc) st (show s.heap.IsTuple a its.toArray from p) (by simp;omega) fun h' eb=>⟨rfl,I.turned (t':=s.toks) (fun b o hb e=>eb b o hb e) f0 f1 f3 f4 f5⟩
 self:=fun _ _ _ _ _ st h=>wpAny_pyIter_tupleiter st h
theorem Bh {P:Program}{w:World}{K:PySem.W.Frag}{tg:Expr}(it:Addr) (lo:Int) (n:Nat):Turn P w K tg (Q3 lo n) [it] it (fun i h=>IsRangeIter h it (lo+(i:Nat) * 1) ((n:Int) - (i:Nat)) 1) where
  mem:=by simp
  obj := fun i h st b hb => by
    have e:b=it:=by simpa using hb
    subst e
    exact⟨_,st,fun v z=>by
      have z':Data.fields _=Data.cell v:=z
      cases z'⟩
  keep:=fun i h h' st k=>k it (by simp) _ st
  item:=by
    intro X hP hw hK hc i pins s σ H E I hf st hg
    subst hP hw hK
    obtain⟨f0,f1,f2,f3,f4,f5⟩:=hf it (by simp)
    have W:=Walks.range (prog:=X.prog) (w:=X.w) (I.ok.hd hc) it lo 1 n
    refine W.item i s _ _ hg st fun v h' tk hv st' kk=>?_
    obtain⟨t,rfl⟩:=hv
    have I1:Inv X pins σ H {s with heap:=h',toks:=tk}:=I.turned (fun b o hb e=>kk b o (by simpa using hb) e) f0 f1 f3 f4 f5
    refine⟨_,rfl,ET (s:={s with heap:=h',toks:=tk}) (n:="range_iterator") st' rfl rfl (by decide) ⟨.int (lo+i),H,I1,⟨t,?_⟩,⟨rfl,rfl⟩,st',fun b hb=>(hf b hb).1⟩⟩
    rw[Int.mul_one]
  done:=by
    intro X hP hw hK hc i pins s σ H E I hf st hg
    subst hP hw hK
    obtain⟨f0,f1,f2,f3,f4,f5⟩:=hf it (by simp)
    exact wpAny_pyNext_range_end (I.ok.hd hc) st (by have:n≤i:=hg;omega) fun h' eb=>⟨rfl,I.turned (t':=s.toks) (fun b o hb e=>eb b o hb e) f0 f1 f3 f4 f5⟩
  self:=fun _ _ _ _ _ st h=>wpAny_pyIter_rangeiter st h
end L2
namespace L2
open PySem PySem.Spec PyProof.Rows
section
variable {X:Cx}{tg:Expr}
noncomputable def NZ (K:PySem.W.Frag) (tl:TE):TI:=fun σ H R=>tl σ H fun x H1=>∃a,x= .ref a∧(∃xs,pG K H1 a xs)∧R (Td K a) H1
noncomputable def Tf (K:PySem.W.Frag) (tl:TE):TI:=fun σ H R=>tl σ H fun x H1=>∃a,x= .ref a∧(∃xs,zO K H1 a xs)∧R (Te K a) H1
theorem HN {l:Expr}{tl:TE}(hl:PE X l tl):PI X tg l (NZ X.K tl):=by
 intro pins s σ H R I h
 refine d9 (hl pins s σ H _ I h) fun v s1 ⟨x,H1,I1,r1,q1⟩=>?_
 obtain⟨a,e,⟨xs,hq⟩,q⟩:=q1
 subst e
 cases r1
 obtain⟨its,rv,p,hz⟩:=I1.list hq
 refine wpAny_pyIter_list p.isList ?_
 refine⟨s1.heap.objs.size,[s1.heap.objs.size],_,_,H1,rfl,I1.kept (t':=s1.toks) fun b o e=>Heap.get?_push_of_some _ e,Di a _,⟨_,Heap.get?_push_size _ rfl,rfl,rfl⟩,fun b hb=>?_,q⟩
 have e:b=s1.heap.objs.size:=by simpa using hb
 subst e
 exact I1.ES (Nat.le_refl _) (I1.hok.fresh (Nat.le_refl _))
theorem KQ {l:Expr}{tl:TE}(hl:PE X l tl):PI X tg l (Tf X.K tl):=by
 intro pins s σ H R I h
 refine d9 (hl pins s σ H _ I h) fun v s1 ⟨x,H1,I1,r1,q1⟩=>?_
 obtain⟨a,e,⟨xs,hq⟩,q⟩:=q1
 subst e
 cases r1
 obtain⟨its,rv,p,hz⟩:=I1.tuple hq
 refine wpAny_pyIter_tuple (show s1.heap.IsTuple a its.toArray from p) ?_
 refine⟨s1.heap.objs.size,[s1.heap.objs.size],_,_,H1,rfl,I1.kept (t':=s1.toks) fun b o e=>Heap.get?_push_of_some _ e,Bg a _,⟨_,Heap.get?_push_size _ rfl,rfl,rfl⟩,fun b hb=>?_,q⟩
 have e:b=s1.heap.objs.size:=by simpa using hb
 subst e
 exact I1.ES (Nat.le_refl _) (I1.hok.fresh (Nat.le_refl _))
theorem EU {pins:List (Addr×Obj)}{σ:St}{H:Hp}{s:Shared}{R:It→Hp→Prop}{E:Value→Shared→Prop}{lo hi:Int}{t u v:Tok}{tk:Nat}(I:Inv X pins σ H s) (h1:-(2 ^ 62)≤lo) (h2:lo < 2 ^ 62) (h3:-(2 ^ 62)≤hi) (h4:hi < 2 ^ 62)
  (q:R (Q3 lo (hi - lo).toNat) H):wpAny (model X.prog X.w) X.A (pyIter (.ref s.heap.objs.size)) (Tc X pins σ tg R) E {s with heap:=s.heap.push {cls:=.type "range",data:=.fields #[.int lo t,.int hi u,.int 1 v]},toks:=tk}:=by
 refine wpAny_pyIter_range (IsRange.new ..) (small_one h1 h2 h3 h4) ?_
 have I1:Inv X pins σ H {s with heap:=s.heap.push {cls:=.type "range",data:=.fields #[.int lo t,.int hi u,.int 1 v]},toks:=tk}:=I.kept fun b o e=>Heap.get?_push_of_some _ e
 refine⟨(s.heap.push {cls:=.type "range",data:=.fields #[.int lo t,.int hi u,.int 1 v]}).objs.size,[(s.heap.push {cls:=.type "range",data:=.fields #[.int lo t,.int hi u,.int 1 v]}).objs.size],_,_,H,rfl,
  I1.kept (t':=tk) fun b o e=>Heap.get?_push_of_some _ e,Bh _ lo (hi - lo).toNat,?_,fun b hb=>?_,q⟩
 ·have e1:lo+((0:Nat):Int) * 1=lo:=by simp
  have e2:(((hi - lo).toNat:Nat):Int) - ((0:Nat):Int)=Builtin.Range.rangeSize lo hi 1:=by rw[rangeSize_one];split <;> omega
  show IsRangeIter _ _ (lo+((0:Nat):Int) * 1) ((((hi - lo).toNat:Nat):Int) - ((0:Nat):Int)) 1
  rw[e1,e2]
  exact Heap.get?_push_size _ rfl
 ·have e:b=(s.heap.push {cls:=.type "range",data:=.fields #[.int lo t,.int hi u,.int 1 v]}).objs.size:=by simpa using hb
  subst e
  exact I1.ES (Nat.le_refl _) (I1.hok.fresh (Nat.le_refl _))
noncomputable def N1 (ta:TA):TI:=fun σ H R=>ta σ H fun vs H1=>∃j:Int,vs=[.int j]∧-(2 ^ 62)≤j∧j < 2 ^ 62∧R (Q3 0 j.toNat) H1
theorem Dj {a:Expr}{ta:TA}{p pos:Pos}(hg:Gl X "range") (hm:X.mg "range" =none) (ha:PA X [a] ta) (hs:starEach [a] X.env=[(false,eval a X.env)]:=by rfl):PI X tg (.Call (.Name "range" p) [a] [] pos) (N1 ta):=by
 intro pins s σ H R I h
 refine Call_ (yz I hg hm boot_range (PyProof.Rows.callWith_type1 (d9 (ha pos pins s σ H _ I h) fun us s1 ⟨vs,H1,I1,r1,q1⟩=>?_) hs rfl))
 obtain⟨j,e,q1,q2,q⟩:=q1
 subst e
 cases r1 with
 | cons r rr=>
  cases rr
  obtain⟨t,rfl⟩:=r
  exact call_range_1 (EU I1 (by omega) (by omega) q1 q2 (by simpa using q))
noncomputable def Tg (wi:TI) (g:TG) (tb:TS):TS:=fun D σ H=>wi σ H fun J H1=>∃W:Nat→Nat→St→Hp→Prop,(∃m,W 0 m σ H1)∧∀i m σ H,W i m σ H→
 (J.stop i H∧D.nx σ H)∨(J.go i H∧∃N:St→Hp→Prop,(∀σ' H',N σ' H'→∃m',m' < m∧W (i+1) m' σ' H')∧∀x H',J.Q2 i H x H'→g x σ H' fun σ2 H2=>tb {D with nx:=N,ct:=N,bk:=D.nx} σ2 H2)
noncomputable def pH (fp:List Addr) (h:Heap):List (Addr×Obj):=fp.filterMap fun b=>(h.get? b).map fun o=>(b,o)
theorem iE {fp:List Addr}{h:Heap}{b:Addr}{o:Obj}(hb:b∈fp) (e:h.get? b=some o):(b,o)∈pH fp h:=List.mem_filterMap.mpr ⟨b,hb,by rw[e];rfl⟩
theorem rO {fp:List Addr}{h:Heap}{p:Addr×Obj}(hp:p∈pH fp h):p.1∈fp∧h.get? p.1=some p.2:=by
 obtain⟨b,hb,e⟩:=List.mem_filterMap.mp hp
 cases q:h.get? b with
 | none=>rw[q] at e;cases e
 | some o=>
  rw[q] at e
  have e':(b,o)=p:=Option.some.inj e
  subst e'
  exact⟨hb,q⟩
theorem Inv.pinned {pins:List (Addr×Obj)}{σ:St}{H:Hp}{s:Shared}{fp:List Addr}(I:Inv X pins σ H s) (hf:∀b∈fp,uD X pins H b) (ho:∀b∈fp,∃o,s.heap.get? b=some o∧∀v,o.data≠.cell v):Inv X (pins++pH fp s.heap) σ H s:=
 I.Cu fun p hp=>(List.mem_append.mp hp).elim (fun z=>I.pin p (List.mem_append_right _ z)) fun z=>by
  obtain⟨hb,e⟩:=rO z
  obtain⟨f0,f1,f2,_⟩:=hf p.1 hb
  obtain⟨o,e',d⟩:=ho p.1 hb
  rw[e] at e';cases e'
  exact⟨e,f0,f1,f2,d⟩
theorem Inv.mW {pins pl:List (Addr×Obj)}{σ:St}{H:Hp}{s:Shared}(I:Inv X (pins++pl) σ H s):Inv X pins σ H s:=I.Cu fun p hp=>I.pin p (List.mem_append_right _ (List.mem_append_left _ hp))
theorem KR {iter:Expr}{body:List Stmt}{wi:TI}{g:TG}{tb:TS}{pos:Pos}(hp:PassesOwn (model X.prog X.w) X.A X.env X.xe) (hc:X.calm=true) (hi:PI X tg iter wi) (hg:PG X tg g) (hb:Be X body tb)
  (hs:∀x,foldedSetIterable iter X.env x=pure x:=by intro _;rfl):PS X (.For tg iter body [] pos) (Tg wi g tb):=by
 intro pins s σ H D I h
 refine wpAny_For (d9 (hi pins s σ H _ I h) fun v s1 h1=>d9 h1 fun itv s2 h2=>?_) hs
 obtain⟨it,fp,tn,J,H2,e,I2,T,st2,f2,W,⟨m0,w0⟩,turn⟩:=h2
 subst e
 have KS:∀{H':Hp},(∀b∈fp,H' b=none)→∀b∈fp,uD X pins H' b:=fun hn b hb=>⟨hn b hb,(f2 b hb).2⟩
 refine codeAny_forLoop_any (fun n s'=>∃i σ' H',Inv X pins σ' H' s'∧tn i s'.heap∧(∀b∈fp,H' b=none)∧W i n σ' H') ?_ m0 ⟨0,σ,H2,I2,st2,fun b hb=>(f2 b hb).1,w0⟩
 rintro n s3 ⟨i,σ3,H3,I3,st3,Zf,w3⟩
 rcases turn i n σ3 H3 w3 with⟨stop,qn⟩ | ⟨go,N,hN,step⟩
 ·refine wpAny_passesOwn hp (d9 (T.done X rfl rfl rfl hc i pins s3 σ3 H3 X.xe I3 (KS Zf) st3 stop) fun r s4 ⟨hr,I4⟩=>?_)
  subst hr
  exact wpAny_execs_nil ⟨σ3,H3,I4,qn⟩
 ·refine wpAny_passesOwn hp (d9 (T.item X rfl rfl rfl hc i pins s3 σ3 H3 X.xe I3 (KS Zf) st3 go) fun r s4 ⟨u,hr,h4⟩=>?_)
  subst hr
  refine wpAny_passesOwn hp (d9 h4 fun _ s5 ⟨x,H5,I5,r5,y5,Th,fr5⟩=>?_)
  have I5':=I5.pinned (KS fr5) (T.obj _ _ Th)
  refine wpAny_passesOwn hp (d9 (hg _ s5 σ3 H5 x u _ I5' r5 (step x H5 y5)) fun _ s6 ⟨σ6,H6,I6,q6⟩=>?_)
  refine wpAny_passesOwn hp (d9 (hb _ s6 σ6 H6 _ I6 q6) fun f s7 q7=>?_)
  have again:∀{EV:St}{H7:Hp},Inv X (pins++pH fp s5.heap) EV H7 s7→N EV H7→∃m,m < n∧∃i σ' H',Inv X pins σ' H' s7∧tn i s7.heap∧(∀b∈fp,H' b=none)∧W i m σ' H':=fun {EV H7} I7 n7=>by
   obtain⟨m',hm,w7⟩:=hN EV H7 n7
   refine⟨m',hm,i+1,EV,H7,I7.mW,T.keep _ _ _ Th fun b hb o e=>(I7.pin (b,o) (List.mem_append_right _ (List.mem_append_right _ (iE hb e)))).1,fun b hb=>?_,w7⟩
   obtain⟨o,e,d⟩:=T.obj _ _ Th b hb
   exact(I7.pin (b,o) (List.mem_append_right _ (List.mem_append_right _ (iE hb e)))).2.1
  cases f with
  | next=>obtain⟨EV,H7,I7,n7⟩:=q7;exact again I7 n7
  | cont=>obtain⟨EV,H7,I7,n7⟩:=q7;exact again I7 n7
  | brk=>obtain⟨EV,H7,I7,q7⟩:=q7;exact⟨EV,H7,I7.mW,q7⟩
  | ret v=>obtain⟨x7,EV,H7,I7,r7,q7⟩:=q7;exact⟨x7,EV,H7,I7.mW,r7,q7⟩
end
end L2
namespace L2
open PySem PySem.Spec PyProof.Rows
noncomputable abbrev R2:=V→V→Hp→VK→Prop
noncomputable def uw (X:Cx) (f:Value→Value→Sem Value) (r:R2):Prop:=
 ∀(pins:List (Addr×Obj)) (s:Shared) (σ:St) (H:Hp) (x y:V) (v u:Value) (Q:VK),Inv X pins σ H s→RelV x v→RelV y u→r x y H Q→
  wpAny (model X.prog X.w) X.A (f v u) (EP X pins σ Q) X.xe s
noncomputable def iu (X:Cx) (f:Value) (r:List V→Hp→VK→Prop):Prop:=
 ∀(pins:List (Addr×Obj)) (s:Shared) (σ:St) (H:Hp) (xs:List V) (us:List Value) (Q:VK),Inv X pins σ H s→Vals xs us→r xs H Q→
  wpAny (model X.prog X.w) X.A (call f us) (EP X pins σ Q) X.xe s
noncomputable def Na (r:R2) (ta tb:TE):TE:=fun σ H Q=>ta σ H fun x H1=>tb σ H1 fun y H2=>r x y H2 Q
noncomputable def rI (C:Int→Int→Prop) (g:Int→Int→V):R2:=fun x y H Q=>∃i j,x= .int i∧y= .int j∧C i j∧Q (g i j) H
noncomputable def KU (g:Int→Int→V):R2:=fun x y H Q=>∃i j,x= .int i∧y= .int j∧Q (g i j) H
section
variable {X:Cx}{a b c:Expr}{ta tb tc:TE}{pos:Pos}
theorem KW (ha:PE X a ta) (hb:PE X b tb){pins:List (Addr×Obj)}{s:Shared}{σ:St}{H:Hp}{R:V→V→Hp→Prop}(I:Inv X pins σ H s)
  (h:ta σ H fun x H1=>tb σ H1 fun y H2=>R x y H2){Q:Value→Shared→Prop}{f:Value→Value→Sem Value}
  (hf:∀v u s2 x y H2,Inv X pins σ H2 s2→RelV x v→RelV y u→R x y H2→wpAny (model X.prog X.w) X.A (f v u) Q X.xe s2):
  wpAny (model X.prog X.w) X.A (eval a X.env) (fun v s₁=>wpAny (model X.prog X.w) X.A (eval b X.env) (fun u s₂=>wpAny (model X.prog X.w) X.A (f v u) Q X.xe s₂) X.xe s₁) X.xe s:=by
 refine d9 (ha pins s σ H _ I h) fun v s1 ⟨x,H1,I1,r1,q1⟩=>?_
 refine d9 (hb pins s1 σ H1 _ I1 q1) fun u s2 ⟨y,H2,I2,r2,q2⟩=>?_
 exact hf v u s2 x y H2 I2 r1 r2 q2
theorem N2 {op:Operator}{r:R2}(ho:uw X (binaryOp op) r) (ha:PE X a ta) (hb:PE X b tb):PE X (.BinOp a op b pos) (Na r ta tb):=by
 intro pins s σ H Q I h
 exact wpAny_BinOp (KW ha hb I h fun v u s2 x y H2 I2 rx ry q=>ho pins s2 σ H2 x y v u Q I2 rx ry q)
theorem Q4 {f:Value→Value→Sem Value}{C:Int→Int→Prop}{g:Int→Int→Int}
  (rule:∀(i j:Int) (t u:Tok) (s:Shared) (Q:Value→Shared→Prop) (E:Value→Shared→Prop),C i j→Q (.int (g i j) s.toks) {s with toks:=s.toks+1}→wpAny (model X.prog X.w) X.A (f (.int i t) (.int j u)) Q E s):
  uw X f (rI C fun i j=>.int (g i j)):=by
 intro pins s σ H x y v u Q I rx ry h
 obtain⟨i,j,rfl,rfl,hc,q⟩:=h
 obtain⟨t,rfl⟩:=rx
 obtain⟨t',rfl⟩:=ry
 exact rule i j t t' s _ _ hc ⟨.int (g i j),H,I.tok _,⟨_,rfl⟩,q⟩
theorem N3 {f:Value→Value→Sem Value}{g:Int→Int→Int}
  (rule:∀(i j:Int) (t u:Tok) (s:Shared) (Q:Value→Shared→Prop) (E:Value→Shared→Prop),Q (.int (g i j) s.toks) {s with toks:=s.toks+1}→wpAny (model X.prog X.w) X.A (f (.int i t) (.int j u)) Q E s):
  uw X f (KU fun i j=>.int (g i j)):=by
 intro pins s σ H x y v u Q I rx ry h
 obtain⟨i,j,rfl,rfl,q⟩:=h
 obtain⟨t,rfl⟩:=rx
 obtain⟨t',rfl⟩:=ry
 exact rule i j t t' s _ _ ⟨.int (g i j),H,I.tok _,⟨_,rfl⟩,q⟩
theorem KY {f:Value→Value→Sem Value}{g:Int→Int→Bool}
  (rule:∀(i j:Int) (t u:Tok) (s:Shared) (Q:Value→Shared→Prop) (E:Value→Shared→Prop),Q (.bool (g i j)) s→wpAny (model X.prog X.w) X.A (f (.int i t) (.int j u)) Q E s):
  uw X f (KU fun i j=>.bl (g i j)):=by
 intro pins s σ H x y v u Q I rx ry h
 obtain⟨i,j,rfl,rfl,q⟩:=h
 obtain⟨t,rfl⟩:=rx
 obtain⟨t',rfl⟩:=ry
 exact rule i j t t' s _ _ ⟨.bl (g i j),H,I,rfl,q⟩
noncomputable def N4 (i j:Int):Prop:=0 < j∧j < 1073741824
noncomputable def Ti (i j:Int):Prop:=0≤j∧j≤1000000∧i.natAbs < 2 ^ 64
noncomputable def KZ (i j:Int):Prop:=(-(2 ^ 64) < i∧i < 2 ^ 64)∨(-(2 ^ 64) < j∧j < 2 ^ 64)
theorem KZ.ok {i j:Int}(h:KZ i j):IntMulOk i j:=by
 rcases h with⟨h1,h2⟩ | ⟨h1,h2⟩
 ·exact .of_left (intBits_le_64 h1 h2)
 ·exact .of_right (intBits_le_64 h1 h2)
theorem K0:uw X (binaryOp .Add) (KU fun i j=>.int (i+j)):=N3 fun _ _ _ _ _ _ _ q=>add_int q
theorem K1:uw X (binaryOp .Sub) (KU fun i j=>.int (i - j)):=N3 fun _ _ _ _ _ _ _ q=>sub_int q
theorem K2:uw X (binaryOp .Mult) (rI KZ fun i j=>.int (i * j)):=Q4 fun _ _ _ _ _ _ _ hc q=>mul_int q hc.ok
theorem HP:uw X (binaryOp .FloorDiv) (rI N4 fun i j=>.int (i / j)):=Q4 fun i j _ _ _ _ _ hc q=>by
 have h1:(0:Int) < j:=hc.1
 have h2:j < 1073741824:=hc.2
 exact floordiv_int (by omega) (by rw[Int.fdiv_eq_ediv_of_nonneg i (by omega)];exact q) (.inl (PyProof.noPylong_small (by omega)))
theorem K3:uw X (binaryOp .Mod) (rI (fun _ j=>0 < j) fun i j=>.int (i % j)):=Q4 fun i j _ _ _ _ _ hc q=>by
 have h1:(0:Int) < j:=hc
 exact mod_int' (by omega) (by rw[Int.fmod_eq_emod_of_nonneg i (by omega)];exact q)
theorem K4:uw X (binaryOp .Pow) (rI Ti fun i j=>.int (i ^ j.toNat)):=Q4 fun _ _ _ _ _ _ _ hc q=>pow_int_small hc.1 hc.2.1 hc.2.2 q
end
section
variable {X:Cx}{a b c:Expr}{ta tb tc:TE}{pos:Pos}
theorem K5 {pins:List (Addr×Obj)}{σ:St}{H:Hp}{s:Shared}{Q:VK}{k k':Bool}(I:Inv X pins σ H s) (q:Q (.bl k) H) (e:k=k'):EP X pins σ Q (.bool k') s:=by
 subst e
 exact⟨.bl k,H,I,rfl,q⟩
theorem N5:uw X (compareOp .Lt) (KU fun i j=>.bl (decide (i < j))):=KY fun _ _ _ _ _ _ _ q=>lt_int q
theorem N6:uw X (compareOp .LtE) (KU fun i j=>.bl (decide (i≤j))):=KY fun _ _ _ _ _ _ _ q=>le_int q
theorem N7:uw X (compareOp .Gt) (KU fun i j=>.bl (decide (j < i))):=KY fun _ _ _ _ _ _ _ q=>gt_int q
theorem Dk:uw X (compareOp .In) (fun x y H Q=>∃i j,x= .str i∧y= .str j∧Q (.bl (!(Builtin.Str.occurrences j i 0 j.length 1).isEmpty)) H):=by
 intro pins s σ H x y v u Q I rx ry h
 obtain⟨i,j,rfl,rfl,q⟩:=h
 obtain⟨t,rfl⟩:=rx
 obtain⟨t',rfl⟩:=ry
 exact in_str (K5 I q rfl)
theorem uw.or {f:Value→Value→Sem Value}{r r':R2}(h:uw X f r) (h':uw X f r'):uw X f (fun x y H Q=>r x y H Q∨r' x y H Q):=by
 intro pins s σ H x y v u Q I rx ry q
 rcases q with q | q
 ·exact h pins s σ H x y v u Q I rx ry q
 ·exact h' pins s σ H x y v u Q I rx ry q
theorem EW (b:Expr){op:CmpOp}(h:op≠.In:=by decide) (h2:op≠.NotIn:=by decide):behindInMarks op b=false:=by
 have e1:(op == CmpOp.In)=false:=by cases op <;> first | rfl | exact absurd rfl h
 have e2:(op == CmpOp.NotIn)=false:=by cases op <;> first | rfl | exact absurd rfl h2
 cases b <;> simp[behindInMarks,e1,e2]
theorem HQ {op:CmpOp}{r:R2}(ho:uw X (compareOp op) r) (ha:PE X a ta) (hb:PE X b tb) (hm:behindInMarks op b=false):PE X (.Compare a [op] [b] pos) (Na r ta tb):=by
 intro pins s σ H Q I h
 exact wpAny_Compare1 (KW ha hb I h fun v u s2 x y H2 I2 rx ry q=>ho pins s2 σ H2 x y v u Q I2 rx ry q) hm
noncomputable def N8 (t:TE):TT:=fun σ H Q=>t σ H fun x H'=>∃k,x= .bl k∧Q k H'
theorem HR {op:CmpOp}{r:R2}(ho:uw X (compareOp op) r) (ha:PE X a ta) (hb:PE X b tb) (hm:behindInMarks op b=false):PT X (.Compare a [op] [b] pos) (N8 (Na r ta tb)):=by
 intro pins s σ H Q I h
 refine wpAny_isTrue_Compare1 (d9 (ha pins s σ H _ I h) fun v s1 ⟨x,H1,I1,r1,q1⟩=>d9 (hb pins s1 σ H1 _ I1 q1) fun u s2 ⟨y,H2,I2,r2,q2⟩=>
  d9 (ho pins s2 σ H2 x y v u _ I2 r1 r2 q2) fun c s3 ⟨z,H3,I3,r3,k,e,q3⟩=>?_) hm
 subst e
 cases r3
 exact wpAny_truthy_bool ⟨H3,I3,q3⟩
theorem rQ:(sizeLine:Nat) < 2 ^ 63:=by rw[sizeLine_eq];decide
theorem Bj:uw X (binaryOp .Add) (fun x y H Q=>∃i j,x= .str i∧y= .str j∧i.length+j.length≤sizeLine∧Q (.str (i++j)) H):=by
 intro pins s σ H x y v u Q I rx ry h
 obtain⟨i,j,rfl,rfl,hz,q⟩:=h
 obtain⟨t,rfl⟩:=rx
 obtain⟨t',rfl⟩:=ry
 exact add_str (fun t' tk=>⟨.str (i++j),H,I.tok _,⟨_,rfl⟩,q⟩) hz
theorem vals1 {x:V}{us:List Value}(r:Vals [x] us):∃u,us=[u]∧RelV x u:=by
 cases r with
 | cons r1 r2=>cases r2;exact⟨_,rfl,r1⟩
theorem vals2 {x y:V}{us:List Value}(r:Vals [x,y] us):∃u w',us=[u,w']∧RelV x u∧RelV y w':=by
 cases r with
 | cons r1 r2=>
  cases r2 with
  | cons r3 r4=>cases r4;exact⟨_,_,rfl,r1,r3⟩
theorem Dl (hc:X.calm=true):iu X (.builtin "max") (fun xs H Q=>∃i j,xs=[.int i,.int j]∧Q (.int (if j > i then j else i)) H):=by
 intro pins s σ H xs us Q I r h
 obtain⟨i,j,rfl,q⟩:=h
 obtain⟨u,w',rfl,⟨t,rfl⟩,⟨t',rfl⟩⟩:=vals2 r
 refine max_two_ints (I.ok.hd hc) fun h' tk k=>⟨_,H,I.kept k,?_,q⟩
 by_cases hj:j > i
 ·rw[if_pos hj,if_pos hj];exact⟨_,rfl⟩
 ·rw[if_neg hj,if_neg hj];exact⟨_,rfl⟩
end
end L2
namespace L2
open PySem PySem.Spec PyProof.Rows
structure Bk (h:Heap) (x dx C:Addr) (mA:Str→Option Value):Prop where
 obj:h.get? x=some (PySem.W.instObj C dx)
 ns:h.Ns1 dx mA
 ne:dx≠x
theorem Dm {h:Heap}{dx:Addr}{mA:Str→Option Value}(n:h.Ns1 dx mA):∃od,h.get? dx=some od∧∀name,PySem.W.lookIn name od=some (mA name):=by
 obtain⟨o,es,ep,ho,hd,hk,_,hm⟩:=n
 refine⟨o,ho,fun name=>?_⟩
 have e:=hm name
 unfold nsFind findBy at e
 rw[←Array.find?_toList] at e
 unfold PySem.W.lookIn
 rw[hd]
 dsimp only
 split
 ·rename_i y q
  rw[q] at e
  exact congrArg some e
 ·rename_i q
  rw[q] at e
  have a:es.toList.any (·.refKey)=false:=by
   rw[List.any_eq_false]
   intro y hy
   obtain⟨z,t,hkey⟩:=hk y (Array.mem_toList_iff.mp hy)
   simp[DictEntry.refKey,hkey]
  have a':¬es.toList.any (·.refKey)=true:=by rw[a];exact Bool.false_ne_true
  rw[if_neg a']
  exact congrArg some e
theorem Bk.look {h:Heap}{x dx C:Addr}{mA:Str→Option Value}(I:Bk h x dx C mA):∃od,PySem.W.InstAt h x (PySem.W.instObj C dx) C (some od)∧∀name,PySem.W.lookIn name od=some (mA name):=
 let⟨od,ho,hl⟩:=Dm I.ns
 ⟨od,⟨I.obj,rfl,rfl,ho⟩,hl⟩
section
variable {prog:Program}{w:World}{A:Around}{E:Value→Shared→Prop}{s:Shared}{K:PySem.W.Frag}{x dx C f:Addr}{mA:Str→Option Value}{name:Str}{v:Value}
theorem get_map {expr:Bool}{Q:Value→Shared→Prop}(X:K.In s.heap) (I:Bk s.heap x dx C mA) (hg:PySem.W.plainGet K C name=true) (hh:PySem.W.hasDictIn K C=true)
  (ha:PySem.W.findIn K (.ref C) name=some none) (hv:mA name=some v) (hv':PySem.W.handedIn v=true) (h:Q v {s with toks:=s.toks+1}):
  wpAny (model prog w) A (getAttr (.ref x) name expr) Q E s:=by
 obtain⟨od,J,hl⟩:=I.look
 exact PySem.W.get_value X J (PySem.W.plainGet_of hg).1 (PySem.W.findObj_own hh ha rfl (by rw[hl,hv])) hv' h
theorem EX {pl:Sem Bool}{Q:Value×List Value→Shared→Prop}(X:K.In s.heap) (I:Bk s.heap x dx C mA) (hg:PySem.W.plainGet K C name=true)
  (hf:PySem.W.findIn K (.ref C) name=some (some (.ref f))) (ht:PySem.W.isFn K (.ref f)=true) (hv:mA name=none) (h:Q (.ref f,[.ref x]) s):
  wpAny (model prog w) A (getMethod (.ref x) name pl) Q E s:=by
 obtain⟨od,J,hl⟩:=I.look
 exact PySem.W.method_fn X J (PySem.W.plainGet_of hg).1 (PySem.W.plainGet_of hg).2 hf (beq_iff_eq.mp ht) (by show(PySem.W.lookIn name od).map (·.isSome)=some false;rw[hl,hv];rfl) h
theorem HS {ns:List Str}{Q:Unit→Shared→Prop}(X:K.In s.heap) (I:Bk s.heap x dx C mA)
  (hs:PySem.W.findIn K (.ref C) "__setattr__" =some (some (.builtin "object.__setattr__"))) (hp:PySem.W.plainOver K C=true) (ht:PySem.W.takerIn K C name=some none) (hh:PySem.W.hasDictIn K C=true)
  (hw:PySem.Within mA ns) (hsz:ns.length≤sizeLine)
  (h:∀h',Bk h' x dx C (fun y=>if y=name then some v else mA y)→Heap.SameBut dx s.heap h'→Q () {s with heap:=h',toks:=s.toks+2}):
  wpAny (model prog w) A (setAttr (.ref x) name v) Q E s:=by
 obtain⟨od,J,hl⟩:=I.look
 refine PySem.W.set_plain X J hs (PySem.W.osa_open (s:={s with toks:=s.toks+1}) (r:=none) X J hp ht fun b=>?_)
 obtain⟨cd,hc,hd'⟩:=PySem.W.any_some hh
 have hx:s.heap.get? x=some ⟨.ref C,some dx,.plain,#[]⟩:=I.obj
 refine wpAny_bind (wpAny_pure (wpAny_bind (wpAny_bind (wpAny_loadPart hx (wpAny_bind (PySem.W.Looks.here (s:={s with toks:=s.toks+1}) (PySem.W.looks_clsIn X hc) ?_))))))
 rw[hd']
 refine wpAny_pure (a:=some dx) (wpAny_bind (wpAny_pure (wpAny_bind ?_)))
 refine wpAny_nsSet1 (s:={s with toks:=s.toks+1}) I.ns fun h' hn2 hs2=>?_
 obtain⟨oD,esD,epD,hoD,hdD,hcD⟩:=hn2.count (PySem.Within.cons name v hw)
 refine wpAny_bind (wpAny_lookBehind hoD (by rw[hdD];exact pastItsLine_dict (Nat.le_trans hcD (by rw[List.length_cons];omega))) ?_)
 exact wpAny_pure (h _ ⟨(hs2.2 _ (Ne.symm I.ne)).trans I.obj,hn2,I.ne⟩ hs2)
theorem EY {R:Result→Shared→Prop}{vs:List Value}{kw:List (Str×Value)}(X:K.In s.heap) (hm:PySem.W.makesIn K C=true)
  (hi:PySem.W.findIn K (.ref C) "__init__" =some (some (.ref f))) (hf:PySem.W.typeIn K (.ref f)=some (.type "function"))
  (h:codeAny (model prog w) (A.under (.builtin "type.__call__" ⟨.ref C :: vs,kw⟩)) (.call (.ref f) ⟨.ref (s.heap.objs.size+1) :: vs,kw⟩) (PySem.W.InitBack (s.heap.objs.size+1) R)
   {s with heap:=(s.heap.push PySem.W.emptyDict).push (PySem.W.instObj C s.heap.objs.size)}):
  codeAny (model prog w) A (.call (.ref C) ⟨vs,kw⟩) R s:=by
 obtain⟨hh,g,d,t,os⟩:=s
 exact PySem.W.make_core (PySem.W.makes_of X hm) (PySem.W.looks_findIn X hi) (fun self=>PySem.W.bind_fn X self hf) (.inl rfl) h
end
noncomputable def kL (f:Str) (v:V):List (Str×V)→List (Str×V)
 | []=>[(f,v)]
 | (g,x) :: r=>if g=f then(g,v) :: r else(g,x) :: kL f v r
theorem sX (f g : Str) (v : V) : ∀ fs : List (Str × V), (kL f v fs).lookup g = if g = f then some v else fs.lookup g
  | []=>by
    show List.lookup g [(f,v)]=_
    by_cases h:g=f
    · have hb:(g == f)=true:=beq_iff_eq.mpr h
      simp only[List.lookup,hb,if_pos h]
    · have hb:(g == f)=false:=beq_eq_false_iff_ne.mpr h
      simp only[List.lookup,hb,if_neg h]
  | (k, x) :: r => by
    have ih:=sX f g v r
    rw[show kL f v ((k,x) :: r)=(if k=f then(k,v) :: r else(k,x) :: kL f v r) from rfl]
    by_cases hk:k=f
    · rw[if_pos hk]
      by_cases h:g=k
      · have hb:(g == k)=true:=beq_iff_eq.mpr h
        simp only[List.lookup,hb,if_pos (h.trans hk)]
      · have hb:(g == k)=false:=beq_eq_false_iff_ne.mpr h
        simp only[List.lookup,hb,if_neg (fun e:g=f=>h (e.trans hk.symm))]
    · rw[if_neg hk]
      by_cases h:g=k
      · have hb:(g == k)=true:=beq_iff_eq.mpr h
        simp only[List.lookup,hb,if_neg (fun e:g=f=>hk (h.symm.trans e))]
      · have hb:(g == k)=false:=beq_eq_false_iff_ne.mpr h
        simp only[List.lookup,hb]
        exact ih
theorem rR (f : Str) (v : V) : ∀ fs : List (Str × V), f ∈ (kL f v fs).map (·.1) ∧ ∀ g, g ∈ fs.map (·.1) → g ∈ (kL f v fs).map (·.1)
  | []=>⟨by simp[kL],fun g h=>by simp at h⟩
  | (k, x) :: r => by
    obtain⟨i1,i2⟩:=rR f v r
    rw[show kL f v ((k,x) :: r)=(if k=f then(k,v) :: r else(k,x) :: kL f v r) from rfl]
    by_cases hk:k=f
    · rw[if_pos hk]
      subst hk
      exact⟨by simp,fun g h=>by simpa using h⟩
    · rw[if_neg hk]
      refine⟨?_,fun g h=>?_⟩
      · rw[List.map_cons]
        exact List.mem_cons_of_mem _ i1
      · rw[List.map_cons] at h ⊢
        rcases List.mem_cons.mp h with e | e
        · exact List.mem_cons.mpr (.inl e)
        · exact List.mem_cons_of_mem _ (i2 g e)
theorem sY (f:Str) (v:V):∀fs:List (Str×V),(kL f v fs).length≤fs.length+1
 | []=>by simp[kL]
 | (k,x) :: r=>by
  have ih:=sY f v r
  rw[show kL f v ((k,x) :: r)=(if k=f then(k,v) :: r else(k,x) :: kL f v r) from rfl]
  by_cases hk:k=f
  ·rw[if_pos hk,List.length_cons,List.length_cons];omega
  ·rw[if_neg hk,List.length_cons,List.length_cons];omega
theorem mS.some_of {v:V}{o:Option Value}(r:mS (some v) o):∃u,o=some u∧RelV v u:=by
 cases o with
 | none=>exact(show False from r).elim
 | some u=>exact⟨u,rfl,r⟩
theorem mS.none_of {o:Option Value}(r:mS none o):o=none:=by
 cases o with
 | none=>rfl
 | some u=>exact(show False from r).elim
theorem Dn {v:V}{u:Value}(r:RelV v u):PySem.W.handedIn u=true:=by
 cases v with
 | bZ=>cases(show u=Value.none from r);rfl
 | bl b=>cases(show u=Value.bool b from r);rfl
 | int i=>obtain⟨t,e⟩:=(show ∃t,u=Value.int i t from r);cases e;rfl
 | str x=>obtain⟨t,e⟩:=(show ∃t,u=Value.str x t from r);cases e;rfl
 | QX b=>obtain⟨t,e⟩:=(show ∃t,u=Value.bytes b t from r);cases e;rfl
 | flt b=>obtain⟨t,e⟩:=(show ∃t,u=Value.float b t from r);cases e;rfl
 | ref a=>cases(show u=Value.ref a from r);rfl
 | ty n=>cases(show u=Value.type n from r);rfl
section
variable {P:Program}{w:World}{H H':Hp}{h h':Heap}{a C dx:Addr}{fs fs':List (Str×V)}
theorem yC (hok:oh P w H h) (e:H a=some (.ins C dx fs)):∃mA,Bk h a dx C mA∧(∀f,mS (fs.lookup f) (mA f))∧PySem.Within mA (fs.map (·.1))∧fs.length≤1000∧H dx=some (.own a):=by
 obtain⟨d,z,ne,ob,mA,n,r,q⟩:=(show gF P w H h a (.ins C dx fs) from hok a _ e)
 exact⟨mA,⟨ob,n,ne⟩,r,q,z,d⟩
end
structure rS (K:PySem.W.Frag) (C:Addr):Prop where
 pg:PySem.W.plainGet K C Str.empty=true
 hd:PySem.W.hasDictIn K C=true
 po:PySem.W.plainOver K C=true
 sa:PySem.W.findIn K (.ref C) "__setattr__" =some (some (.builtin "object.__setattr__"))
theorem rS.get {K:PySem.W.Frag}{C:Addr}(c:rS K C) (f:Str):PySem.W.plainGet K C f=true:=c.pg
noncomputable def fy (K:PySem.W.Frag) (C:Addr) (f:Str):Prop:=PySem.W.findIn K (.ref C) f=some none
theorem fy.N9 {K:PySem.W.Frag}{C:Addr}{f:Str}(n:fy K C f):PySem.W.takerIn K C f=some none:=by
 unfold PySem.W.takerIn
 rw[show PySem.W.findIn K (.ref C) f=some none from n]
 rfl
structure Meth (K:PySem.W.Frag) (C:Addr) (m:Str) (f:Addr):Prop where
 at_:PySem.W.findIn K (.ref C) m=some (some (.ref f))
 fn:PySem.W.isFn K (.ref f)=true
 kp:PySem.W.keepIn K (.ref f)=true
section
variable {X:Cx}{pins:List (Addr×Obj)}{σ:St}{H:Hp}{s:Shared}{a C dx:Addr}{fs:List (Str×V)}{f:Str}{v:V}{A:Around}{E:Value→Shared→Prop}
theorem uE {b:Bool}{Q:Value→Shared→Prop}(I:Inv X pins σ H s) (e:H a=some (.ins C dx fs)) (c:rS X.K C) (n:fy X.K C f) (l:fs.lookup f=some v)
  (h:∀u s',Inv X pins σ H s'→RelV v u→Q u s'):wpAny (model X.prog X.w) A (getAttr (.ref a) f b) Q E s:=by
 obtain⟨mA,O,r,_,_,_⟩:=yC I.hok e
 obtain⟨u,hu,ru⟩:=mS.some_of (v:=v) (o:=mA f) (by rw[←l];exact r f)
 exact get_map I.uC O (c.get f) c.hd n hu (Dn ru) (h u _ (I.tok _) ru)
theorem pI {m:Str}{g:Addr}{pl:Sem Bool}{Q:Value×List Value→Shared→Prop}(I:Inv X pins σ H s) (e:H a=some (.ins C dx fs)) (c:rS X.K C) (k:Meth X.K C m g) (l:fs.lookup m=none)
  (h:Q (.ref g,[.ref a]) s):wpAny (model X.prog X.w) A (getMethod (.ref a) m pl) Q E s:=by
 obtain⟨mA,O,r,_,_,_⟩:=yC I.hok e
 have hn:mA m=none:=mS.none_of (by rw[←l];exact r m)
 exact EX I.uC O (c.get m) k.at_ k.fn hn h
theorem uF {y:V}{u:Value}{Q:Unit→Shared→Prop}(I:Inv X pins σ H s) (e:H a=some (.ins C dx fs)) (c:rS X.K C) (n:fy X.K C f) (hl:fs.length < 1000) (ry:RelV y u)
  (h:∀s',Inv X pins σ (upd H a (.ins C dx (kL f y fs))) s'→Q () s'):wpAny (model X.prog X.w) A (setAttr (.ref a) f u) Q E s:=by
 obtain⟨mA,O,r,wi,_,ho⟩:=yC I.hok e
 have hz:(fs.map (·.1)).length≤sizeLine:=by rw[List.length_map,sizeLine_eq];omega
 refine HS I.uC O c.sa c.po n.N9 c.hd wi hz fun h' O' sb=>h _ ?_
 have hd:∃o,h'.get? dx=some o:=let⟨o,_,_,e',_⟩:=O'.ns;⟨o,e'⟩
 refine I.write (x:=a) (e:=dx) (by rw[e];exact True.intro) (.inr ho) (fun b q hb z=>(sb.2 b hb).trans z) hd ?_
 refine⟨by rw[aP O.ne];exact ho,?_,O.ne,O'.obj,_,O'.ns,fun g=>?_,fun g hg=>?_⟩
 ·have:=sY f y fs;omega
 ·show mS ((kL f y fs).lookup g) (if g=f then some u else mA g)
  rw[sX]
  by_cases q:g=f
  ·rw[if_pos q,if_pos q];exact ry
  ·rw[if_neg q,if_neg q];exact r g
 ·by_cases q:g=f
  ·rw[q];exact(rR f y fs).1
  ·refine(rR f y fs).2 g (wi g fun z=>hg ?_)
   show(if g=f then some u else mA g)=none
   rw[if_neg q];exact z
theorem Inv.made (I:Inv X pins σ H s):Inv X pins σ (upd (upd H s.heap.objs.size (.own (s.heap.objs.size+1))) (s.heap.objs.size+1) (.ins C s.heap.objs.size []))
  {s with heap:=(s.heap.push PySem.W.emptyDict).push (PySem.W.instObj C s.heap.objs.size)}:=by
 have e1:(s.heap.push PySem.W.emptyDict).get? s.heap.objs.size=some PySem.W.emptyDict:=Heap.get?_push_size s.heap rfl
 have e2:((s.heap.push PySem.W.emptyDict).push (PySem.W.instObj C s.heap.objs.size)).get? (s.heap.objs.size+1)=some (PySem.W.instObj C s.heap.objs.size):=by
  have:=Heap.get?_push_size (s.heap.push PySem.W.emptyDict) (o:=PySem.W.instObj C s.heap.objs.size) rfl
  rwa [Heap.size_push] at this
 have e3:(s.heap.push PySem.W.emptyDict).Ns s.heap.objs.size (fun _=>none):=⟨PySem.W.emptyDict,#[],_,e1,rfl,(fun e he=>absurd he (by simp)),fun _=>rfl⟩
 have I1:=I.laid (a:=s.heap.objs.size) (o:=.own (s.heap.objs.size+1)) (h':=s.heap.push PySem.W.emptyDict) (t':=s.toks) (fun b u q=>Heap.get?_push_of_some _ q) (Nat.le_refl _) ⟨_,e1⟩
 refine I1.laid (a:=s.heap.objs.size+1) (o:=.ins C s.heap.objs.size []) (t':=s.toks) (fun b u q=>Heap.get?_push_of_some _ q) (Nat.le_of_eq (Heap.size_push _ _)) ?_
 have ne:s.heap.objs.size≠s.heap.objs.size+1:=Nat.ne_of_lt (Nat.lt_succ_self _)
 refine⟨by rw[aP ne,aW],Nat.zero_le _,ne,e2,fun _=>none,(Heap.Ns1.of_empty e3).at fun o q=>Heap.get?_push_of_some _ q,fun _=>True.intro,fun y hy=>absurd rfl hy⟩
theorem HU {prog:Program}{w:World}{env:Env}{e:Expr}{f:Str}{pos:Pos}{s:Shared}{Q:Value→Shared→Prop}(hb:attributeBase e f env (eval e env)=eval e env)
  (h:wpAny (model prog w) A (eval e env) (fun o s₁=>wpAny (model prog w) A (getAttr o f true) Q E s₁) E s):wpAny (model prog w) A (eval (.Attribute e f pos) env) Q E s:=
 Attribute_any_ h (by rw[arm_eval_Attribute,hb])
end
noncomputable def Tj (K:PySem.W.Frag) (ta:TE) (f:Str):TE:=fun σ H Q=>ta σ H fun x H1=>∃a C dx fs v,x= .ref a∧H1 a=some (.ins C dx fs)∧rS K C∧fy K C f∧fs.lookup f=some v∧Q v H1
noncomputable def Tn (K:PySem.W.Frag) (ta tv:TE) (f:Str):TS:=fun D σ H=>tv σ H fun y H1=>ta σ H1 fun x H2=>∃a C dx fs,x= .ref a∧H2 a=some (.ins C dx fs)∧rS K C∧fy K C f∧fs.length < 1000∧
 D.nx σ (upd H2 a (.ins C dx (kL f y fs)))
noncomputable def K6 (X:Cx) (op:Operator) (rd:V→V→Hp→VK→Prop):Prop:=
 ∀(pins:List (Addr×Obj)) (s:Shared) (σ:St) (H:Hp) (x y:V) (u v:Value) (Q:VK),Inv X pins σ H s→RelV x u→RelV y v→rd x y H Q→wpAny (model X.prog X.w) X.A (inplaceOp op u v) (EP X pins σ Q) X.xe s
noncomputable def HV (K:PySem.W.Frag) (ta tv:TE) (rd:V→V→Hp→VK→Prop) (f:Str):TS:=fun D σ H=>ta σ H fun x H1=>∃a C dx fs v,x= .ref a∧H1 a=some (.ins C dx fs)∧rS K C∧fy K C f∧fs.lookup f=some v∧
 tv σ H1 fun y H2=>rd v y H2 fun z H3=>∃Oa fs',H3 a=some (.ins C Oa fs')∧fs'.length < 1000∧D.nx σ (upd H3 a (.ins C Oa (kL f z fs')))
section
variable {X:Cx}{o e value:Expr}{f:Str}{pos pos' tpos:Pos}{ta tv:TE}
theorem K7 (he:PE X e ta) (hb:attributeBase e f X.env (eval e X.env)=eval e X.env):PE X (.Attribute e f pos) (Tj X.K ta f):=by
 intro pins s σ H Q I h
 refine HU hb (d9 (he pins s σ H _ I h) fun u s1 ⟨x,H1,I1,rx,a,C,dx,fs,v,ex,ea,c,n,l,q⟩=>?_)
 subst ex
 obtain rfl:u=Value.ref a:=rx
 exact uE I1 ea c n l fun u' s2 I2 ru=>⟨v,H1,I2,ru,q⟩
theorem K8 (ha:PE X o ta) (hv:PE X value tv) (hs:swapsWith value (some (.Attribute o f pos')) pos.line X.env=pure false):PS X (.Assign [.Attribute o f pos'] value pos) (Tn X.K ta tv f):=by
 intro pins s σ H D I h
 refine plainObj_wpAny_Assign_Attribute (d9 (hv pins s σ H _ I h) fun u s1 ⟨y,H1,I1,ry,q⟩=>d9 (ha pins s1 σ H1 _ I1 q) fun ov s2 ⟨x,H2,I2,rx,a,C,dx,fs,ex,ea,c,n,l,q2⟩=>?_) hs
 subst ex
 obtain rfl:ov=Value.ref a:=rx
 exact uF I2 ea c n l ry fun s3 I3=>⟨σ,_,I3,q2⟩
theorem Dp {op:Operator}{rd:V→V→Hp→VK→Prop}(ha:PE X o ta) (hv:PE X value tv) (hop:K6 X op rd):PS X (.AugAssign (.Attribute o f tpos) op value pos) (HV X.K ta tv rd f):=by
 intro pins s σ H D I h
 refine wpAny_AugAssign_AttributeAny (d9 (ha pins s σ H _ I h) fun ov s1 ⟨x,H1,I1,rx,a,C,dx,fs,v,ex,ea,c,n,l,q⟩=>?_)
 subst ex
 obtain rfl:ov=Value.ref a:=rx
 refine uE I1 ea c n l fun u s2 I2 ru=>d9 (hv pins s2 σ H1 _ I2 q) fun w3 s3 ⟨y,H2,I3,ry,q3⟩=>d9 (hop pins s3 σ H2 v y u w3 _ I3 ru ry q3) fun w4 s4 ⟨z,H3,I4,rz,Oa,fs',ea',l',q4⟩=>?_
 exact uF I4 ea' c n l' rz fun s5 I5=>⟨σ,_,I5,q4⟩
noncomputable def To:V→V→Hp→VK→Prop:=fun x y H Q=>∃i j,x= .int i∧y= .int j∧Q (.int (i+j)) H
theorem Bl:K6 X .Add To:=by
 rintro pins s σ H x y u v Q I rx ry ⟨i,j,rfl,rfl,q⟩
 obtain⟨t,rfl⟩:=(show ∃t,u=Value.int i t from rx)
 obtain⟨t',rfl⟩:=(show ∃t',v=Value.int j t' from ry)
 exact PyProof.Rows.iadd_int ⟨.int (i+j),H,I.tok _,⟨_,rfl⟩,q⟩
theorem JL {pl:Sem Bool}{m:Str}{apos:Pos}{args:List Expr}{pins:List (Addr×Obj)}{s:Shared}{σ:St}{H:Hp}{Q:Value→Shared→Prop}{te:TE}(he:PE X e te) (I:Inv X pins σ H s)
  (h:te σ H fun x H1=>∃a C dx fs g,x= .ref a∧H1 a=some (.ins C dx fs)∧rS X.K C∧Meth X.K C m g∧fs.lookup m=none∧
   ∀s1,Inv X pins σ H1 s1→wpAny (model X.prog X.w) X.A (callWith pos (.ref g) [.ref a] (backTo pos (starEach args X.env)) (backToKw pos (keywordEach [] X.env))) Q X.xe s1)
  (ht:eval (.Call (.Attribute e m apos) args [] pos) X.env=(do
   let ov ←eval e X.env
   standAt apos.atName
   let(f,first) ←holding [ov] (getMethod ov m pl)
   callWith pos f first (backTo pos (starEach args X.env)) (backToKw pos (keywordEach [] X.env)))):
  wpAny (model X.prog X.w) X.A (eval (.Call (.Attribute e m apos) args [] pos) X.env) Q X.xe s:=by
 refine PySem.W.methodCall_KW (pl:=pl) (d9 (he pins s σ H _ I h) fun u s1 ⟨x,H1,I1,rx,a,C,dx,fs,g,ex,ea,c,k,l,q⟩=>?_) ht
 subst ex
 obtain rfl:u=Value.ref a:=rx
 exact pI I1 ea c k l (q s1 I1)
end
section
variable {X:Cx}{pins:List (Addr×Obj)}{σ:St}{H:Hp}{s:Shared}{A:Around}{E:Value→Shared→Prop}{Q:Value→Shared→Prop}{c:Value}{b:Bool}
inductive tY (K:PySem.W.Frag) (H:Hp):V→Value→Prop where
 | bZ:tY K H .bZ (.type "NoneType")
 | bl (x:Bool):tY K H (.bl x) (.type "bool")
 | int (i:Int):tY K H (.int i) (.type "int")
 | str (x:Str):tY K H (.str x) (.type "str")
 | flt (x:UInt64):tY K H (.flt x) (.type "float")
 | lst {a:Addr}{xs:List V}(e:H a=some (.lst xs)):tY K H (.ref a) (.type "list")
 | jV {a:Addr}{o:Obj}{xs:List V}(e:H a=some (.jV o (.lst xs))):tY K H (.ref a) (.type "list")
 | tup {a:Addr}{xs:List V}(e:H a=some (.tup xs)):tY K H (.ref a) (.type "tuple")
 | dK {a:Addr}{kvs:List (Key×V)}(e:H a=some (.dK kvs)):tY K H (.ref a) (.type "dict")
 | dT {a:Addr}{kvs:List (List Key×V)}(e:H a=some (.dT kvs)):tY K H (.ref a) (.type "dict")
 | ins {a C dx:Addr}{fs:List (Str×V)}(e:H a=some (.ins C dx fs)) (cl:rS K C) (ha:PySem.W.findIn K (.ref C) "__class__" =some (some (.builtin "object.__class__")))
   (hn:PySem.W.specialIn K (.builtin "object.__class__") "__get__" =some (some (.builtin "getset_descriptor.__get__"))) (htk:PySem.W.takesIn K (.builtin "object.__class__")=some true)
   (hm:PySem.W.mroIn K C (.type "object")=some true):tY K H (.ref a) (.ref C)
end
end L2
namespace L2
open PySem PySem.Spec PyProof.Rows
structure gG (k:Nat) (A:Around):Prop where
 hd:A.handled=none
 dp:A.depth+3 * k+5 < recursionLimit
 un:A.units+16 * k+200 < cLine
 gd:A.guards=some []
theorem gG.mono {j k:Nat}{A:Around}(r:gG k A) (h:j≤k):gG j A:=⟨r.hd,by have:=r.dp;omega,by have:=r.un;omega,r.gd⟩
theorem gG.deeper {k:Nat}{A:Around}(r:gG (k+1) A) (env:Env):gG k (A.deeper env):=
 ⟨r.hd,by have:=r.dp;show A.depth+1+3 * k+5 < _;omega,by have:=r.un;show A.units+3+16 * k+200 < _;omega,r.gd⟩
theorem gG.in1 {k:Nat}{A:Around}(r:gG (k+1) A):gG k A.in1:=
 ⟨r.hd,by have:=r.dp;show A.depth+3 * k+5 < _;omega,by have:=r.un;show A.units+1+16 * k+200 < _;omega,r.gd⟩
theorem Bm {A:Around}{C:Addr}{us:List Value}{kw:List (Str×Value)}:(A.under (.builtin "type.__call__" ⟨.ref C :: us,kw⟩)).depth=A.depth+1:=by
 first | rfl | simp[Around.under,Code.weight,Code.isCreation,Code.isGuard,Code.isCaller,Code.frames,Code.isFrame,guardIds]
theorem Bo {A:Around}{C:Addr}{us:List Value}{kw:List (Str×Value)}:(A.under (.builtin "type.__call__" ⟨.ref C :: us,kw⟩)).units=A.units+1:=by
 first | rfl | simp[Around.under,Code.cUnits,Code.frames,Code.isFrame]
theorem gG.make {k:Nat}{A:Around}(r:gG (k+1) A) (C:Addr) (us:List Value) (kw:List (Str×Value)):gG k (A.under (.builtin "type.__call__" ⟨.ref C :: us,kw⟩)):=
 ⟨r.hd,by have:=r.dp;rw[Bm];omega,by have:=r.un;rw[Bo];omega,r.gd⟩
theorem gG.depth {k:Nat}{A:Around}(r:gG k A):A.depth < recursionLimit:=by have:=r.dp;omega
theorem gG.units {k:Nat}{A:Around}(r:gG k A):A.units+64 < cLine:=by have:=r.un;omega
noncomputable def HW:TA:=fun _ H Q=>Q [] H
noncomputable def JM (ta:TE) (tr:TA):TA:=fun σ H Q=>ta σ H fun x H1=>tr σ H1 fun xs H2=>Q (x :: xs) H2
section
variable {X:Cx}{e:Expr}{es:List Expr}{te:TE}{t:TA}{pos:Pos}
theorem yD:PA X [] HW:=fun _ _ _ _ H Q I h=>Calls.spliced_nil ⟨[],H,I,.nil,h⟩
theorem ou (ha:PE X e te) (hr:PA X es t) (hs:starEach (e :: es) X.env=(false,eval e X.env) :: starEach es X.env:=by rfl):PA X (e :: es) (JM te t):=by
 intro pos pins s σ H Q I h
 rw[hs]
 show wpAny _ _ (spliced ((false,eval e X.env) :: backTo pos (starEach es X.env))) _ _ s
 refine Calls.spliced_cons (d9 (ha pins s σ H _ I h) fun u s1 ⟨x,H1,I1,r1,q1⟩=>?_)
 exact d9 (hr pos pins s1 σ H1 _ I1 q1) fun us s2 ⟨xs,H2,I2,r2,q2⟩=>⟨x :: xs,H2,I2,.cons r1 r2,q2⟩
noncomputable def Tp (t:TA):TE:=fun σ H Q=>t σ H fun xs H1=>xs.length≤sizeLine∧∀p,H1 p=none→Q (.ref p) (upd H1 p (.tup xs))
noncomputable def Tq (t:TA):TE:=fun σ H Q=>t σ H fun xs H1=>xs.length≤sizeLine∧∀p,H1 p=none→Q (.ref p) (upd H1 p (.lst xs))
theorem K9 {x1}(h:PA X es t):PE X (.Tuple es x1 pos) (Tp t):=by
 intro pins s σ H Q I hq
 refine wpAny_Tuple_spliced (d9 (h pos pins s σ H _ I hq) fun us s1 ⟨xs,H1,I1,r,z,q⟩=>⟨by rw[←r.length];exact z,?_⟩)
 have hf:H1 s1.heap.objs.size=none:=I1.hok.fresh (Nat.le_refl _)
 refine⟨.ref s1.heap.objs.size,upd H1 s1.heap.objs.size (.tup xs),I1.laid (t':=s1.toks) (fun b u e=>Heap.get?_push_of_some _ e) (Nat.le_refl _) ?_,rfl,q _ hf⟩
 exact⟨z,us,r,⟨_,Heap.get?_push_size _ rfl,rfl,_,rfl⟩⟩
theorem La (h:PA X es t):PE X (.List es pos) (Tq t):=by
 intro pins s σ H Q I hq
 refine wpAny_List_spliced (d9 (h pos pins s σ H _ I hq) fun us s1 ⟨xs,H1,I1,r,z,q⟩=>⟨by rw[←r.length];exact z,?_⟩)
 have hf:H1 s1.heap.objs.size=none:=I1.hok.fresh (Nat.le_refl _)
 refine⟨.ref s1.heap.objs.size,upd H1 s1.heap.objs.size (.lst xs),I1.laid (t':=s1.toks) (fun b u e=>Heap.get?_push_of_some _ e) (Nat.le_refl _) ?_,rfl,q _ hf⟩
 exact⟨z,us,0,r,Heap.get?_push_size _ rfl⟩
end
noncomputable abbrev Sp:=List V→Hp→VK→XK→Prop
noncomputable abbrev Dq:=List Env→Hp→Shared→XK→Value→Shared→Prop
structure wj (P:Program) (w:World) (K:PySem.W.Frag) (mg:Str→Option Value) (base:Heap) (A:Around) (outer:List Env) (s:Shared) (H:Hp):Prop where
 frames:A.frames=some outer
 mod:Mod K mg base
 bs:∀b o,base.get? b=some o→s.heap.get? b=some o∧H b=none
 EJ:base.objs.size≤s.heap.objs.size
 rN:s.heap.FunFrames base outer
 JJ:∀b∈frs outer,H b=none
 hok:oh P w H s.heap
 bare:AllBare s.gens
noncomputable def CE (outer:List Env) (P:Program) (w:World) (H:Hp) (s:Shared) (Q:VK) (u:Value) (s':Shared):Prop:=
 ∃v H',s'.os=s.os∧AllBare s'.gens∧Un (frs outer) [] H H' s.heap s'.heap∧oh P w H' s'.heap∧RelV v u∧Q v H'
noncomputable def CR (CX:Dq) (outer:List Env) (P:Program) (w:World) (H:Hp) (s:Shared) (Q:VK) (E:XK) (r:Result) (s':Shared):Prop:=
 match r with
 | .ok (.ret u)=>CE outer P w H s Q u s'
 | .ok _=>False
 | .error e=>CX outer H s E e s'
structure aX (P:Program) (w:World) (K:PySem.W.Frag) (mg:Str→Option Value) (base:Heap) (CX:Dq) (k:Nat) (f:Addr) (fd:FuncData) (ps:List Str) (sp:Sp):Prop where
 len:∀vs H Q E,sp vs H Q E→vs.length=ps.length
 run:∀(A:Around) (outer:List Env) (s:Shared) (H:Hp) (args:Args) (us:List Value) (vs:List V) (Q:VK) (E:XK),gG k A→wj P w K mg base A outer s H→BindsTo s fd args (ps.zip us)→Vals vs us→sp vs H Q E→
  codeAny (model P w) A (.call (.ref f) args) (CR CX outer P w H s Q E) s
theorem aX.mono {P:Program}{w:World}{K:PySem.W.Frag}{mg:Str→Option Value}{base:Heap}{CX:Dq}{j k:Nat}{f:Addr}{fd:FuncData}{ps:List Str}{sp:Sp}(F:aX P w K mg base CX j f fd ps sp) (h:j≤k):
  aX P w K mg base CX k f fd ps sp:=⟨F.len,fun A outer s H args us vs Q E hr=>F.run A outer s H args us vs Q E (hr.mono h)⟩
theorem aX.imp {P:Program}{w:World}{K:PySem.W.Frag}{mg:Str→Option Value}{base:Heap}{CX:Dq}{k:Nat}{f:Addr}{fd:FuncData}{ps:List Str}{sp Zg:Sp}(F:aX P w K mg base CX k f fd ps sp)
  (h:∀vs H Q E,Zg vs H Q E→sp vs H Q E):aX P w K mg base CX k f fd ps Zg:=
 ⟨fun vs H Q E q=>F.len vs H Q E (h _ _ _ _ q),fun A outer s H args us vs Q E hr he hb hv hs=>F.run A outer s H args us vs Q E hr he hb hv (h _ _ _ _ hs)⟩
theorem wj.make {P:Program}{w:World}{K:PySem.W.Frag}{mg:Str→Option Value}{base:Heap}{A:Around}{outer:List Env}{s:Shared}{H:Hp}(e:wj P w K mg base A outer s H) (C:Addr) (us:List Value) (kw:List (Str×Value)):
  wj P w K mg base (A.under (.builtin "type.__call__" ⟨.ref C :: us,kw⟩)) outer s H:=⟨by first | exact e.frames | (simpa[Around.under,Code.envs,Code.isFrame,pushEnvs] using e.frames),e.mod,e.bs,e.EJ,e.rN,e.JJ,e.hok,e.bare⟩
theorem wj.in1 {P:Program}{w:World}{K:PySem.W.Frag}{mg:Str→Option Value}{base:Heap}{A:Around}{outer:List Env}{s:Shared}{H:Hp}(e:wj P w K mg base A outer s H):
  wj P w K mg base A.in1 outer s H:=⟨e.frames,e.mod,e.bs,e.EJ,e.rN,e.JJ,e.hok,e.bare⟩
section
variable {X:Cx}{pins:List (Addr×Obj)}{σ:St}{H:Hp}{s s':Shared}
theorem Inv.Ob (I:Inv X pins σ H s):wj X.prog X.w X.K X.mg X.base X.A X.stack s H:=
 ⟨I.ok.frames,I.ok.mod,I.bs,Nat.le_trans I.ok.EJ I.sz,I.stack,I.Ct,I.hok,I.bare⟩
theorem Inv.after {Q:VK}{u:Value}(I:Inv X pins σ H s) (h:CE X.stack X.prog X.w H s Q u s'):EP X pins σ Q u s':=by
 obtain⟨v,H',os,bare,un,hok,r,q⟩:=h
 obtain⟨hh,g,d,t,os'⟩:=s'
 obtain rfl:os'=s.os:=os
 exact⟨v,H',I.call (h':=hh) (g':=g) (d':=d) (t':=t) (ch:=[]) un hok bare (fun b z=>absurd z (by simp)),r,q⟩
end
noncomputable def JN (sp:Sp) (uG:List V) (E:XK) (t:TA):TE:=fun σ H Q=>t σ H fun vs H1=>sp (vs++uG) H1 Q E
noncomputable def JP (C:Addr) (m:Str) (sp:Sp) (uG:List V) (E:XK) (ta:TE) (t:TA):TE:=fun σ H Q=>ta σ H fun x H1=>∃a dx fs,x= .ref a∧H1 a=some (.ins C dx fs)∧fs.lookup m=none∧
 t σ H1 fun vs H2=>sp (x :: (vs++uG)) H2 Q E
noncomputable def Oc (C:Addr) (sp:Sp) (uG:List V) (E:XK) (t:TA):TE:=fun σ H Q=>t σ H fun vs H1=>∀x dx,H1 x=none→H1 dx=none→dx≠x→
 sp (.ref x :: (vs++uG)) (upd (upd H1 dx (.own x)) x (.ins C dx [])) (fun v H2=>v= .bZ∧Q (.ref x) H2) E
noncomputable def Binds (K:PySem.W.Frag) (fd:FuncData) (ps:List Str) (ds:List Value):Prop:=
 ∀(s:Shared) (us:List Value),K.In s.heap→(us++ds).length=ps.length→BindsTo s fd ⟨us,[]⟩ (ps.zip (us++ds))
theorem Binds.all {K:PySem.W.Frag}{fd:FuncData}{ps:List Str}(h:∀us:List Value,us.length=ps.length→bindArgs fd ⟨us,[]⟩=pure (ps.zip us)):Binds K fd ps []:=fun s us _ hl=>by
 rw[List.append_nil] at hl ⊢
 exact .of_eq (h us hl)
noncomputable def Passes (CX:Dq) (X:Cx) (E:XK):Prop:=∀(pins:List (Addr×Obj)) (σ:St) (H:Hp) (s:Shared) (e:Value) (s':Shared),Inv X pins σ H s→CX X.stack H s E e s'→X.xe e s'
section
variable {X:Cx}{CX:Dq}{k:Nat}{f C:Addr}{fd:FuncData}{ps:List Str}{sp:Sp}{uG:List V}{ds:List Value}{E:XK}{x m:Str}{p pos apos:Pos}{e o:Expr}{es:List Expr}{ta:TE}{t:TA}
theorem yE {pins:List (Addr×Obj)}{σ:St}{H:Hp}{s:Shared}{Q:VK}{us:List Value}{vs:List V}(F:aX X.prog X.w X.K X.mg X.base CX k f fd ps sp) (hr:gG k X.A) (hb:Binds X.K fd ps ds) (hd:Vals uG ds) (hx:Passes CX X E)
  (I:Inv X pins σ H s) (r:Vals vs us) (h:sp (vs++uG) H Q E):wpAny (model X.prog X.w) X.A (call (.ref f) us) (EP X pins σ Q) X.xe s:=by
 have r2:Vals (vs++uG) (us++ds):=r.append hd
 have hl:(us++ds).length=ps.length:=by rw[←r2.length];exact F.len _ _ _ _ h
 refine wpAny_call (codeAny_mono (F.run X.A X.stack s H ⟨us,[]⟩ (us++ds) (vs++uG) Q E hr I.Ob (hb s us I.uC hl) r2 h) fun r s' hq=>?_)
 cases r with
 | error e=>exact hx pins σ H s e s' I hq
 | ok fl=>
  cases fl with
  | ret u=>exact I.after hq
  | next=>exact False.elim hq
  | brk=>exact False.elim hq
  | cont=>exact False.elim hq
theorem HX (F:aX X.prog X.w X.K X.mg X.base CX k f fd ps sp) (hr:gG k X.A) (hg:Gl X x) (hm:X.mg x=some (.ref f)) (hk:PySem.W.keepIn X.K (.ref f)=true) (hb:Binds X.K fd ps ds) (hd:Vals uG ds) (hx:Passes CX X E)
  (ha:PA X (e :: es) t) (hdb:(x == ("__debug__":Str))=false:=by decide) (he:starEach (e :: es) X.env=(false,eval e X.env) :: starEach es X.env:=by rfl) (hpl:(backTo pos (starEach es X.env)).any (·.1)=false:=by rfl):
  PE X (.Call (.Name x p) (e :: es) [] pos) (JN sp uG E t):=by
 intro pins s σ H Q I h
 refine wpAny_Call_Name_kw (uv I hg hm ?_ hdb)
 refine PySem.W.callWith_K (h₀:=X.base) I.ok.mod.NL hk (d9 (ha pos pins s σ H _ I h) fun us s1 ⟨vs,H1,I1,r,q⟩=>⟨I1.uC,?_⟩) he hpl
 exact yE F hr hb hd hx I1 r q
theorem EZ (F:aX X.prog X.w X.K X.mg X.base CX k f fd ps sp) (hr:gG k X.A) (hg:Gl X x) (hm:X.mg x=some (.ref f)) (hk:PySem.W.keepIn X.K (.ref f)=true) (hb:Binds X.K fd ps ds) (hd:Vals uG ds) (hx:Passes CX X E)
  (hdb:(x == ("__debug__":Str))=false:=by decide):PE X (.Call (.Name x p) [] [] pos) (JN sp uG E HW):=by
 intro pins s σ H Q I h
 refine wpAny_Call_Name_kw (uv I hg hm ?_ hdb)
 exact PySem.W.callWith_K0 I.uC hk (yE (us:=[]) F hr hb hd hx I .nil h)
theorem HY {pl:Sem Bool}(he:PE X o ta) (c:rS X.K C) (hm:Meth X.K C m f) (F:aX X.prog X.w X.K X.mg X.base CX k f fd ps sp) (hr:gG k X.A) (hb:Binds X.K fd ps ds) (hd:Vals uG ds) (hx:Passes CX X E) (ha:PA X (e :: es) t)
  (hst:starEach (e :: es) X.env=(false,eval e X.env) :: starEach es X.env:=by rfl) (hpl:(backTo pos (starEach es X.env)).any (·.1)=false:=by rfl)
  (ht:eval (.Call (.Attribute o m apos) (e :: es) [] pos) X.env=(do
   let ov ←eval o X.env
   standAt apos.atName
   let(f,first) ←holding [ov] (getMethod ov m pl)
   callWith pos f first (backTo pos (starEach (e :: es) X.env)) (backToKw pos (keywordEach [] X.env))):=by rfl):
  PE X (.Call (.Attribute o m apos) (e :: es) [] pos) (JP C m sp uG E ta t):=by
 intro pins s σ H Q I h
 refine PySem.W.methodCall_KW (pl:=pl) (d9 (he pins s σ H _ I h) fun u s1 ⟨x,H1,I1,rx,a,dx,fs,ex,ea,l,q⟩=>?_) ht
 subst ex
 obtain rfl:u=Value.ref a:=rx
 refine pI I1 ea c hm l ?_
 refine PySem.W.callWith_K (first:=[.ref a]) (h₀:=X.base) I.ok.mod.NL hm.kp (d9 (ha pos pins s1 σ H1 _ I1 q) fun us s2 ⟨vs,H2,I2,r,q2⟩=>⟨I2.uC,?_⟩) hst hpl
 exact yE (us:=.ref a :: us) (vs:=.ref a :: vs) F hr hb hd hx I2 (.cons rfl r) q2
theorem E1 {pl:Sem Bool}(he:PE X o ta) (c:rS X.K C) (hm:Meth X.K C m f) (F:aX X.prog X.w X.K X.mg X.base CX k f fd ps sp) (hr:gG k X.A) (hb:Binds X.K fd ps ds) (hd:Vals uG ds) (hx:Passes CX X E)
  (ht:eval (.Call (.Attribute o m apos) [] [] pos) X.env=(do
   let ov ←eval o X.env
   standAt apos.atName
   let(f,first) ←holding [ov] (getMethod ov m pl)
   callWith pos f first (backTo pos (starEach [] X.env)) (backToKw pos (keywordEach [] X.env))):=by rfl):
  PE X (.Call (.Attribute o m apos) [] [] pos) (JP C m sp uG E ta HW):=by
 intro pins s σ H Q I h
 refine PySem.W.methodCall_KW (pl:=pl) (d9 (he pins s σ H _ I h) fun u s1 ⟨x,H1,I1,rx,a,dx,fs,ex,ea,l,q⟩=>?_) ht
 subst ex
 obtain rfl:u=Value.ref a:=rx
 refine pI I1 ea c hm l ?_
 exact PySem.W.callWith_K0 (first:=[.ref a]) I1.uC hm.kp (yE (us:=[.ref a]) (vs:=[.ref a]) F hr hb hd hx I1 (.cons rfl .nil) q)
structure Mk (K:PySem.W.Frag) (C f:Addr):Prop where
 makes:PySem.W.makesIn K C=true
 init:PySem.W.findIn K (.ref C) "__init__" =some (some (.ref f))
 fn:PySem.W.isFn K (.ref f)=true
 kp:PySem.W.keepIn K (.ref C)=true
theorem E2 {pins:List (Addr×Obj)}{σ:St}{H:Hp}{s:Shared}{Q:VK}{us:List Value}{vs:List V}(M:Mk X.K C f) (F:aX X.prog X.w X.K X.mg X.base CX k f fd ps sp) (hr:gG (k+1) X.A) (hb:Binds X.K fd ps ds) (hd:Vals uG ds)
  (hx:Passes CX X E) (I:Inv X pins σ H s) (r:Vals vs us)
  (h:∀x dx,H x=none→H dx=none→dx≠x→sp (.ref x :: (vs++uG)) (upd (upd H dx (.own x)) x (.ins C dx [])) (fun v H2=>v= .bZ∧Q (.ref x) H2) E):
  wpAny (model X.prog X.w) X.A (call (.ref C) us) (EP X pins σ Q) X.xe s:=by
 have hq:=h (s.heap.objs.size+1) s.heap.objs.size (I.hok.fresh (Nat.le_succ _)) (I.hok.fresh (Nat.le_refl _)) (Nat.ne_of_lt (Nat.lt_succ_self _))
 have I2:=Inv.made (C:=C) I
 have r2:Vals (V.ref (s.heap.objs.size+1) :: (vs++uG)) (Value.ref (s.heap.objs.size+1) :: (us++ds)):=.cons rfl (r.append hd)
 have hl:(Value.ref (s.heap.objs.size+1) :: us++ds).length=ps.length:=by
  have e:=r2.length
  rw[F.len _ _ _ _ hq] at e
  exact e.symm
 refine wpAny_call (EY (f:=f) I.uC M.makes M.init (beq_iff_eq.mp M.fn) (codeAny_mono (F.run _ X.stack _ _ ⟨Value.ref (s.heap.objs.size+1) :: us,[]⟩ (Value.ref (s.heap.objs.size+1) :: (us++ds)) _ _ E (hr.make C us [])
  (I2.Ob.make C us []) (hb _ (Value.ref (s.heap.objs.size+1) :: us) I2.uC hl) r2 hq) fun r s' hq'=>?_))
 cases r with
 | error e=>exact hx pins σ _ _ e s' I2 hq'
 | ok fl=>
  cases fl with
  | ret u=>
   obtain⟨v,H',I3,rv,ev,q3⟩:=I2.after hq'
   subst ev
   exact⟨rv,⟨V.ref (s.heap.objs.size+1),H',I3,rfl,q3⟩⟩
  | next=>exact False.elim hq'
  | brk=>exact False.elim hq'
  | cont=>exact False.elim hq'
theorem HZ (M:Mk X.K C f) (F:aX X.prog X.w X.K X.mg X.base CX k f fd ps sp) (hr:gG (k+1) X.A) (hg:Gl X x) (hm:X.mg x=some (.ref C)) (hb:Binds X.K fd ps ds) (hd:Vals uG ds) (hx:Passes CX X E)
  (ha:PA X (e :: es) t) (hdb:(x == ("__debug__":Str))=false:=by decide) (he:starEach (e :: es) X.env=(false,eval e X.env) :: starEach es X.env:=by rfl) (hpl:(backTo pos (starEach es X.env)).any (·.1)=false:=by rfl):
  PE X (.Call (.Name x p) (e :: es) [] pos) (Oc C sp uG E t):=by
 intro pins s σ H Q I h
 refine wpAny_Call_Name_kw (uv I hg hm ?_ hdb)
 refine PySem.W.callWith_K (h₀:=X.base) I.ok.mod.NL M.kp (d9 (ha pos pins s σ H _ I h) fun us s1 ⟨vs,H1,I1,r,q⟩=>⟨I1.uC,?_⟩) he hpl
 exact E2 M F hr hb hd hx I1 r q
end
section
variable {X:Cx}{CX:Dq}{k:Nat}{f C:Addr}{fd:FuncData}{ps ks:List Str}{sp:Sp}{E:XK}{x m:Str}{p pos apos kpos:Pos}{e o:Expr}{es:List Expr}{kws:List Keyword}{te ta:TE}{t tk:TA}{nm:Option Str}
variable {g:List Value→List Value→List Value}{gV:List V→List V→List V}
end
structure bJ (N P:List Str) (sc:Scope):Prop where
 kind:sc.kind= .function
 co:sc.isCoroutine=false
 gen:sc.isGenerator=false
 nd:N.Nodup
 pre:N.take P.length=P
 par:∀x∈P,sc.names.lookup x=some .local∨sc.names.lookup x=some .cell
 Lb:∀y∈sc.names,y.2≠.free
theorem xq {kindOf:Str→Option NameKind}{x:Str}:∀{binds:List (Str×Value)}{m:Str→Option Value},(∀v,(x,v)∉binds)→bindL kindOf binds m x=m x
 | [],_,_=>rfl
 | (n,v) :: r,m,h=>by
  unfold bindL
  rw[xq fun w hw=>h w (List.mem_cons_of_mem _ hw)]
  split
  ·have:x≠n:=by rintro rfl;exact h v List.mem_cons_self
   simp[this]
  ·rfl
theorem xr {kindOf:Str→Option NameKind}{x:Str}:∀{binds:List (Str×Value)}{m:Str→Option Value},(∀v,(x,v)∉binds)→bindC kindOf binds m x=m x
 | [],_,_=>rfl
 | (n,v) :: r,m,h=>by
  unfold bindC
  rw[xr fun w hw=>h w (List.mem_cons_of_mem _ hw)]
  split
  ·rfl
  ·have:x≠n:=by rintro rfl;exact h v List.mem_cons_self
   simp[this]
theorem xu {kindOf:Str→Option NameKind}{x:Str}{v:Value}:∀{P:List Str}{vs:List Value}{i:Nat}{m:Str→Option Value},P.Nodup→P[i]? =some x→vs[i]? =some v→kindOf x=some .local→
  bindL kindOf (P.zip vs) m x=some v
 | [],_,_,_,_,h,_,_=>by simp at h
 | _ :: _,[],_,_,_,_,h,_=>by simp at h
 | p :: P,w :: vs,0,m,nd,h1,h2,hk=>by
  simp at h1 h2;subst h1;subst h2
  show bindL kindOf ((p,w) :: P.zip vs) m p=_
  unfold bindL
  rw[xq fun v hv=>(List.nodup_cons.mp nd).1 (List.of_mem_zip hv).1,if_pos hk]
  simp
 | p :: P,w :: vs,i+1,m,nd,h1,h2,hk=>by
  show bindL kindOf ((p,w) :: P.zip vs) m x=_
  unfold bindL
  exact xu (i:=i) (List.nodup_cons.mp nd).2 (by simpa using h1) (by simpa using h2) hk
theorem xw {kindOf:Str→Option NameKind}{x:Str}{v:Value}:∀{P:List Str}{vs:List Value}{i:Nat}{m:Str→Option Value},P.Nodup→P[i]? =some x→vs[i]? =some v→kindOf x≠some .local→
  bindC kindOf (P.zip vs) m x=some v
 | [],_,_,_,_,h,_,_=>by simp at h
 | _ :: _,[],_,_,_,_,h,_=>by simp at h
 | p :: P,w :: vs,0,m,nd,h1,h2,hk=>by
  simp at h1 h2;subst h1;subst h2
  show bindC kindOf ((p,w) :: P.zip vs) m p=_
  unfold bindC
  rw[xr fun v hv=>(List.nodup_cons.mp nd).1 (List.of_mem_zip hv).1,if_neg hk]
  simp
 | p :: P,w :: vs,i+1,m,nd,h1,h2,hk=>by
  show bindC kindOf ((p,w) :: P.zip vs) m x=_
  unfold bindC
  exact xw (i:=i) (List.nodup_cons.mp nd).2 (by simpa using h1) (by simpa using h2) hk
noncomputable def start (N:List Str) (vs:List V):St:=vs.map some++List.replicate (N.length - vs.length) none
noncomputable def Bp (CX:Dq) (P:Program) (w:World) (K:PySem.W.Frag) (mg:Str→Option Value) (base:Heap) (N:List Str) (qual:Str) (scope:Scope) (f:Addr) (cd:Value) (A:Around) (outer:List Env) (s:Shared) (H:Hp) (E:XK):Cx where
 prog:=P
 w:=w
 K:=K
 mg:=mg
 base:=base
 A:=A.deeper (envOfC qual scope s.heap.objs.size f cd)
 N:=N
 s₀:=s
 H₀:=H
 env:=envOfC qual scope s.heap.objs.size f cd
 outer:=outer
 stack:=envOfC qual scope s.heap.objs.size f cd :: outer
 ex:=[]
 calm:=true
 fn:=fun _=>true
 pn:=[]
 xe:=fun e s'=>wpAny (model P w) (A.deeper (envOfC qual scope s.heap.objs.size f cd)) (leaving (envOfC qual scope s.heap.objs.size f cd) e) (fun _ s''=>CX outer H s E e s'') (fun e' s''=>CX outer H s E e' s'') s'
theorem zQ {sc:Scope}{n:Nat}{x:Str}(h:sc.names.lookup x=some .cell):∃c,(cellsFrom n sc.names []).lookup x=some c:=by
 have q:=PySem.W.cellsFrom_some sc.names n [] (.inl h)
 exact Option.isSome_iff_exists.mp q
theorem Ds {CX : Dq} {P : Program} {w : World} {K : PySem.W.Frag} {mg : Str → Option Value} {base : Heap} {N ps : List Str} {qual : Str} {scope : Scope} {f : Addr} {cd : Value} {A : Around} {outer : List Env} {s s1 : Shared} {H : Hp} {E : XK} {us : List Value} {vs : List V}
    (S:bJ N ps scope) (hd:A.handled=none) (e0:wj P w K mg base A outer s H) (hl:vs.length=ps.length) (r:Vals vs us)
    (x:InCallC s s.heap.objs.size (bindL (envOfC qual scope s.heap.objs.size f cd).kindOf (ps.zip us) fun _=>none) (cellsFrom (s.heap.objs.size+1) scope.names []) (bindC (envOfC qual scope s.heap.objs.size f cd).kindOf (ps.zip us) fun _=>none) s1):
    Inv (Bp CX P w K mg base N qual scope f cd A outer s H E) [] (start N vs) H s1:=by
  have hpl:ps.length≤N.length:=by have:=congrArg List.length S.pre;rw[List.length_take] at this;omega
  obtain⟨h1,tk,rfl,hk⟩:=x.done
  have Od:∀b:Addr,b∉(Bp CX P w K mg base N qual scope f cd A outer s H E).ex:=fun b z=>absurd (show b∈([]:List Addr) from z) (by simp)
  refine⟨⟨e0.mod,S.kind,rfl,rfl,Nat.le_refl _,fun y z c h1 h2=>?_,fun y hy=>?_,fun y c _ h=>?_,fun _=>hd,Around.frames_deeper e0.frames,.inr ⟨rfl,rfl⟩,fun b z=>absurd z (Od b),e0.bs,e0.EJ,fun b _ _=>Od b,fun b z=>absurd z (Od b),e0.rN,e0.JJ⟩,
    rfl,e0.bare,Un.kept hk,⟨_,x.toInCall.ns,fun i y v h1 h2 h3=>?_⟩,fun y c h=>⟨_,x.cell y c h⟩,e0.hok.fresh (Nat.le_refl _),fun y c h=>?_,fun p hp=>absurd (show p∈([]:List (Addr×Obj)) from hp) (by simp),e0.hok.kept hk,?_⟩
  · exact name_of_addr x.apart (PySem.mem_of_lookup h1) (PySem.mem_of_lookup h2)
  · have hy:scope.names.lookup y=some .cell∨scope.names.lookup y=some .free:=hy
    rcases hy with hy | hy
    · exact zQ hy
    · exact absurd rfl (S.Lb _ (PySem.mem_of_lookup hy))
  · exact Nat.le_of_lt (x.above y c (PySem.mem_of_lookup h))
  · have hi:i < vs.length:=by
      unfold start at h2
      by_cases hi:i < vs.length
      · exact hi
      · rw[List.getElem?_append_right (by simpa using hi)] at h2
        rw[List.getElem?_replicate] at h2
        split at h2 <;> cases h2
    have ha:vs[i]? =some v:=by
      unfold start at h2
      rw[List.getElem?_append_left (by simpa using hi),List.getElem?_map] at h2
      cases e:vs[i]? with
      | none=>rw[e] at h2;cases h2
      | some a=>rw[e] at h2;cases h2;rfl
    obtain⟨u,hu,rv⟩:=r.get ha
    have hp:ps[i]? =some y:=by
      rw[←S.pre,List.getElem?_take_of_lt (by omega)];exact h1
    have Zh:ps.Nodup:=by rw[←S.pre];exact S.nd.sublist (List.take_sublist _ _)
    refine⟨u,rv,?_⟩
    rcases S.par y (List.mem_of_getElem? hp) with k | k
    · exact .inl ⟨k,xu Zh hp hu k⟩
    · obtain⟨c,e⟩:=zQ (n:=s.heap.objs.size+1) k
      refine .inr ⟨.inl k,c,e,?_⟩
      have q:=x.cell y c e
      rw[xw Zh hp hu (by show scope.names.lookup y≠_;rw[k];decide)] at q
      exact q
  · exact e0.hok.fresh (Nat.le_of_lt (x.above y c (PySem.mem_of_lookup h)))
  · unfold start
    show _=N.length
    rw[List.length_append,List.length_map,List.length_replicate]
    omega
theorem Oe {CX:Dq}{P:Program}{w:World}{K:PySem.W.Frag}{mg:Str→Option Value}{base:Heap}{k:Nat}{f:Addr}{name qual:Str}{params:Arguments}{body:List Stmt}{scope:Scope}{dV kV doc pm cdv ct oc:Value}{an od:Option Addr}
  {osl:Array (Option Value)}{N ps:List Str}{sp:Sp}(lk:K.lookup f=some ⟨oc,od,.func (PySem.W.fnOf name qual params body scope dV kV doc pm an cdv ct),osl⟩) (hcd:PySem.W.codeIn K cdv qual=true) (S:bJ N ps scope)
  (len:∀vs H Q E,sp vs H Q E→vs.length=ps.length)
  (hbody:∀(A:Around) (outer:List Env) (s:Shared) (H:Hp) (vs:List V) (Q:VK) (E:XK),gG k (A.deeper (envOfC qual scope s.heap.objs.size f cdv))→sp vs H Q E→
   ∃t,Be (Bp CX P w K mg base N qual scope f cdv A outer s H E) body t∧t {nx:=fun _ H'=>Q .bZ H',rt:=Q} (start N vs) H):
  aX P w K mg base CX (k+1) f (PySem.W.fnOf name qual params body scope dV kV doc pm an cdv ct) ps sp:=by
 refine⟨len,fun A outer s H args us vs Q E hr e0 hb r JQ=>?_⟩
 have hl:=len _ _ _ _ JQ
 have KX:K.In s.heap:=e0.mod.NL.keeps fun b o e=>(e0.bs b o e).1
 have lim:s.heap.NoLimit:=e0.mod.nolimit.keeps fun b o e=>(e0.bs b o e).1
 have hkind:∀y∈ps.zip us,scope.names.lookup y.1=some .local∨(scope.names.lookup y.1=some .cell∧((cellsFrom (s.heap.objs.size+1) scope.names []).lookup y.1).isSome=true):=fun⟨n,v⟩ hy=>by
  rcases S.par n (List.of_mem_zip hy).1 with q | q
  ·exact .inl q
  ·exact .inr ⟨q,PySem.W.cellsFrom_some _ _ _ (.inl q)⟩
 refine codeAny_call_function hr.depth (KX _ _ lk) rfl S.co S.gen rfl (PySem.W.codeRec_of KX hcd) (hb _ _ _ _ ?_)
 refine wpAny_newFunctionEnv_cells S.kind hkind fun env he s1 x=>?_
 subst he
 refine⟨lim.keeps x.toInCall.keep,codeAny_func ?_⟩
 obtain⟨t,ht,hq⟩:=hbody A outer s H vs Q E (hr.deeper _) JQ
 have I:Inv (Bp CX P w K mg base N qual scope f cdv A outer s H E) [] (start N vs) H s1:=Ds S hr.hd e0 hl r x
 refine wpAny_mono (ht [] s1 (start N vs) H _ I hq) (fun fl s' hs=>?_) fun e s' hs=>hs
 have fin:∀{σ':St}{H':Hp}{v:V}{u:Value},Inv (Bp CX P w K mg base N qual scope f cdv A outer s H E) [] σ' H' s'→RelV v u→Q v H'→CE outer P w H s Q u s':=
  fun {σ' H' v u} J rv q=>⟨v,H',J.os,J.bare,J.base,J.hok,rv,q⟩
 cases fl with
 | ret u=>
  obtain⟨v,σ',H',J,rv,q⟩:=hs
  exact fin J rv q
 | next=>
  obtain⟨σ',H',J,q⟩:=hs
  exact fin (v:=V.bZ) (u:=Value.none) J rfl q
 | brk=>
  obtain⟨_,_,_,q⟩:=hs
  exact False.elim q
 | cont=>
  obtain⟨_,_,_,q⟩:=hs
  exact False.elim q
end L2
namespace L2
open PySem PySem.Spec PyProof.Rows
section
variable {X:Cx}{x:Str}{p pos:Pos}{e:Expr}{es:List Expr}{t:TA}{id T:String}{r:List V→Hp→VK→Prop}
noncomputable def Zi (r:List V→Hp→VK→Prop) (t:TA):TE:=fun σ H Q=>t σ H fun vs H1=>r vs H1 Q
theorem mX (hc:iu X (.builtin id) r) (hg:Gl X x) (hm:X.mg x=none) (hv:bootBuiltins x=some (.builtin id)) (ha:PA X (e :: es) t) (hn:x≠"__name__":=by decide) (hdb:(x == ("__debug__":Str))=false:=by decide)
  (he:starEach (e :: es) X.env=(false,eval e X.env) :: starEach es X.env:=by rfl) (hpl:(backTo pos (starEach es X.env)).any (·.1)=false:=by rfl):PE X (.Call (.Name x p) (e :: es) [] pos) (Zi r t):=by
 intro pins s σ H Q I h
 refine wpAny_Call_Name_kw (yz I hg hm hv ?_ hn hdb)
 exact PyProof.Rows.callWith_builtin1 (d9 (ha pos pins s σ H _ I h) fun us s1 ⟨vs,H1,I1,r1,q1⟩=>hc pins s1 σ H1 vs us Q I1 r1 q1) he hpl
theorem Dt (hc:iu X (.type T) r) (hg:Gl X x) (hm:X.mg x=none) (hv:bootBuiltins x=some (.type T)) (ha:PA X (e :: es) t) (hn:x≠"__name__":=by decide) (hdb:(x == ("__debug__":Str))=false:=by decide)
  (he:starEach (e :: es) X.env=(false,eval e X.env) :: starEach es X.env:=by rfl) (hpl:(backTo pos (starEach es X.env)).any (·.1)=false:=by rfl):PE X (.Call (.Name x p) (e :: es) [] pos) (Zi r t):=by
 intro pins s σ H Q I h
 refine wpAny_Call_Name_kw (yz I hg hm hv ?_ hn hdb)
 exact PyProof.Rows.callWith_type1 (d9 (ha pos pins s σ H _ I h) fun us s1 ⟨vs,H1,I1,r1,q1⟩=>hc pins s1 σ H1 vs us Q I1 r1 q1) he hpl
end
end L2
namespace L2
open PySem PySem.Spec PyProof.Rows
section
variable {κ:Type} [DecidableEq κ]
noncomputable def pJ (kvs:List (κ×V)) (k:κ):Option V:=(kvs.find? fun kv=>decide (kv.1=k)).map (·.2)
noncomputable def putK (kvs:List (κ×V)) (k:κ) (v:V):List (κ×V):=
 if(kvs.any fun kv=>decide (kv.1=k))=true then kvs.map (fun kv=>if kv.1=k then(kv.1,v) else kv) else kvs++[(k,v)]
noncomputable def JR (kvs:List (κ×V)) (k:κ):List (κ×V):=kvs.filter fun kv=>decide (kv.1≠k)
theorem qm {p:κ×V}{r:List (κ×V)}{k:κ}(e:p.1=k):pJ (p :: r) k=some p.2:=by simp[pJ,List.find?_cons,e]
theorem mY {p:κ×V}{r:List (κ×V)}{k:κ}(e:¬p.1=k):pJ (p :: r) k=pJ r k:=by simp[pJ,List.find?_cons,e]
theorem zR (k:κ):∀kvs:List (κ×V),(kvs.any fun kv=>decide (kv.1=k))=(pJ kvs k).isSome
 | []=>rfl
 | p :: r=>by
  rw[List.any_cons]
  by_cases e:p.1=k
  ·simp only[qm e,decide_eq_true e,Bool.true_or,Option.isSome_some]
  ·rw[mY e,decide_eq_false e,Bool.false_or];exact zR k r
theorem mZ (kvs:List (κ×V)) (k:κ) (v:V):(putK kvs k v).length≤kvs.length+1:=by
 unfold putK
 split
 ·rw[List.length_map];omega
 ·rw[List.length_append,List.length_cons,List.length_nil];omega
theorem mS.Du {o:Option V}{u:Option Value}(r:mS o u):o.isSome=u.isSome:=by
 cases o with
 | none=>cases u with
  | none=>rfl
  | some _=>exact(show False from r).elim
 | some _=>cases u with
  | none=>exact(show False from r).elim
  | some _=>rfl
theorem mS.getD {o:Option V}{u:Option Value}{d:V}{d':Value}(r:mS o u) (rd:RelV d d'):RelV (o.getD d) (u.getD d'):=by
 cases o with
 | none=>cases u with
  | none=>exact rd
  | some _=>exact(show False from r).elim
 | some _=>cases u with
  | none=>exact(show False from r).elim
  | some _=>exact r
theorem KV.val {kvs:List (κ×V)}{vs:List (κ×Value)}(r:KV kvs vs) (k:κ):mS (pJ kvs k) (valueAt vs k):=by
 unfold KV at r
 induction r with
 | nil=>exact True.intro
 | @cons p q ps qs h t ih=>
  obtain⟨h1,h2⟩:=h
  by_cases e:p.1=k
  ·have e':q.1=k:=h1.symm.trans e
   have b:valueAt (q :: qs) k=some q.2:=by simp[valueAt,List.find?_cons,e']
   rw[qm e,b];exact h2
  ·have e':¬q.1=k:=fun z=>e (h1.trans z)
   have b:valueAt (q :: qs) k=valueAt qs k:=by simp[valueAt,List.find?_cons,e']
   rw[mY e,b];exact ih
theorem KV.any {kvs:List (κ×V)}{vs:List (κ×Value)}(r:KV kvs vs) (k:κ):(kvs.any fun kv=>decide (kv.1=k))=vs.any fun kv=>decide (kv.1=k):=by
 unfold KV at r
 induction r with
 | nil=>rfl
 | cons h t ih=>rw[List.any_cons,List.any_cons,ih,h.1]
theorem KV.repl {kvs:List (κ×V)}{vs:List (κ×Value)}(r:KV kvs vs) (k:κ){y:V}{u:Value}(ry:RelV y u):
  KV (kvs.map fun kv=>if kv.1=k then(kv.1,y) else kv) (vs.map fun kv=>if kv.1=k then(kv.1,u) else kv):=by
 unfold KV at r ⊢
 induction r with
 | nil=>exact .nil
 | @cons p q ps qs h t ih=>
  rw[List.map_cons,List.map_cons]
  refine .cons ?_ ih
  obtain⟨h1,h2⟩:=h
  by_cases e:p.1=k
  ·rw[if_pos e,if_pos (h1.symm.trans e)];exact⟨h1,ry⟩
  ·rw[if_neg e,if_neg (fun z=>e (h1.trans z))];exact⟨h1,h2⟩
theorem KV.put {kvs:List (κ×V)}{vs:List (κ×Value)}(r:KV kvs vs) (k:κ){y:V}{u:Value}(ry:RelV y u):KV (putK kvs k y) (stored vs k u):=by
 unfold putK stored
 rw[r.any k]
 by_cases e:(vs.any fun kv=>decide (kv.1=k))=true
 ·rw[if_pos e,if_pos e];exact r.repl k ry
 ·rw[if_neg e,if_neg e];exact Paired.snoc r ⟨rfl,ry⟩
theorem KV.drop {kvs:List (κ×V)}{vs:List (κ×Value)}(r:KV kvs vs) (k:κ):KV (JR kvs k) (without vs k):=by
 unfold KV at r ⊢
 unfold JR without
 induction r with
 | nil=>exact .nil
 | @cons p q ps qs h t ih=>
  obtain⟨h1,h2⟩:=h
  rw[List.filter_cons,List.filter_cons]
  by_cases e:p.1=k
  ·have a:¬decide (p.1≠k)=true:=by simp[e]
   have b:¬decide (q.1≠k)=true:=by simp[h1.symm.trans e]
   rw[if_neg a,if_neg b];exact ih
  ·have e':¬q.1=k:=fun z=>e (h1.trans z)
   have a:decide (p.1≠k)=true:=by simp[e]
   have b:decide (q.1≠k)=true:=by simp[e']
   rw[if_pos a,if_pos b];exact .cons ⟨h1,h2⟩ ih
theorem KV.length {kvs:List (κ×V)}{vs:List (κ×Value)}(r:KV kvs vs):kvs.length=vs.length:=Paired.length r
end
theorem sZ {P:Program}{w:World}{k:Key}{u:Value}(r:RelV (kV k) u):(bY P w).is k u=true:=by
 cases k with
 | inl i=>obtain⟨t,e⟩:=(show ∃t,u=Value.int i t from r);subst e;exact zK P w i t
 | inr x=>obtain⟨t,e⟩:=(show ∃t,u=Value.str x t from r);subst e;exact mU P w x t
theorem xx {P:Program}{w:World}:∀{ks:List Key}{us:List Value},Vals (ks.map kV) us→ItemsAre (bY P w) ks us
 | [],_,r=>by rw[List.map_nil] at r;cases r;exact .nil
 | k :: ks,_,r=>by
  rw[List.map_cons] at r
  cases r with
  | cons h t=>exact .cons (sZ h) (xx t)
noncomputable abbrev KT (H:Hp):List (List Key×V)→List (List Key×Addr×Value)→Prop:=Paired fun p q=>p.1=q.1∧H q.2.1=some (.tup (p.1.map kV))∧RelV p.2 q.2.2
theorem KT.val {H:Hp}{kvs:List (List Key×V)}{xs:List (List Key×Addr×Value)}(r:KT H kvs xs) (k:List Key):mS (pJ kvs k) ((atKey xs k).map (·.2)):=by
 induction r with
 | nil=>exact True.intro
 | @cons p q ps qs h t ih=>
  obtain⟨h1,_,h2⟩:=h
  by_cases e:p.1=k
  ·have e':q.1=k:=h1.symm.trans e
   have b:atKey (q :: qs) k=some q.2:=by simp[atKey,List.find?_cons,e']
   rw[qm e,b];exact h2
  ·have e':¬q.1=k:=fun z=>e (h1.trans z)
   have b:atKey (q :: qs) k=atKey qs k:=by simp[atKey,List.find?_cons,e']
   rw[mY e,b];exact ih
theorem KT.repl {H:Hp}{kvs:List (List Key×V)}{xs:List (List Key×Addr×Value)}(r:KT H kvs xs) (k:List Key){y:V}{u:Value}(ry:RelV y u):
  KT H (kvs.map fun kv=>if kv.1=k then(kv.1,y) else kv) (xs.map (putAt k u)):=by
 induction r with
 | nil=>exact .nil
 | @cons p q ps qs h t ih=>
  rw[List.map_cons,List.map_cons]
  refine .cons ?_ ih
  obtain⟨h1,h2,h3⟩:=h
  unfold putAt
  by_cases e:p.1=k
  ·rw[if_pos e,if_pos (h1.symm.trans e)];exact⟨h1,h2,ry⟩
  ·rw[if_neg e,if_neg (fun z=>e (h1.trans z))];exact⟨h1,h2,h3⟩
theorem KT.put {H:Hp}{kvs:List (List Key×V)}{xs:List (List Key×Addr×Value)}(r:KT H kvs xs) (k:List Key){b:Addr}{y:V}{u:Value}(hb:H b=some (.tup (k.map kV))) (ry:RelV y u):
  KT H (putK kvs k y) (storedH xs k b u):=by
 have e:(kvs.any fun kv=>decide (kv.1=k))=(atKey xs k).isSome:=by
  rw[zR,(r.val k).Du,Option.isSome_map]
 unfold putK storedH
 rw[e]
 by_cases q:(atKey xs k).isSome=true
 ·rw[if_pos q,if_pos q];exact r.repl k ry
 ·rw[if_neg q,if_neg q];exact Paired.snoc r ⟨rfl,hb,ry⟩
theorem KT.keeps {H H':Hp}{kvs:List (List Key×V)}{xs:List (List Key×Addr×Value)}(r:KT H kvs xs) (ht:∀b ys,H b=some (.tup ys)→H' b=some (.tup ys)):KT H' kvs xs:=
 Paired.De r fun _ _ z=>⟨z.1,ht _ _ z.2.1,z.2.2⟩
section
variable {P:Program}{w:World}{H:Hp}{h:Heap}{a:Addr}
theorem JV {u:HO}(ok:oh P w H h) (e:Rd H a u):gF P w H h a u:=e.ok ok
theorem xy {kvs:List (Key×V)}(ok:oh P w H h) (e:Rd H a (.dK kvs)):kvs.length≤sizeLine∧(a == sysModules)=false∧∃vs,KV kvs vs∧h.DictOf (bY P w) a vs:=
 show gF P w H h a (.dK kvs) from JV ok e
theorem Cw {kvs:List (Key×V)}(ok:oh P w H h) (e:H a=some (.dK kvs)):kvs.length≤sizeLine∧(a == sysModules)=false∧∃vs,KV kvs vs∧h.DictOf (bY P w) a vs:=xy ok (.inl e)
theorem yF {ks:List Key}(ok:oh P w H h) (e:H a=some (.tup (ks.map kV))):(tupleKind (bY P w)).is h ks a:=by
 obtain⟨_,its,r,o,h1,h2,n,h3⟩:=(show gF P w H h a (.tup (ks.map kV)) from ok a _ e)
 exact⟨o,its.toArray,n,h1,h2,h3,by simpa using xx r⟩
theorem zS {kvs : List (List Key × V)} (ok : oh P w H h) (e : Rd H a (.dT kvs)) : kvs.length ≤ sizeLine ∧ (a == sysModules) = false ∧
    ∃xs,KT H kvs xs∧h.DictOfH (tupleKind (bY P w)) a xs:=by
  obtain⟨z,y,xs,r,o,es,ep,h1,h2,h3,h4,h5⟩:=(show gF P w H h a (.dT kvs) from JV ok e)
  refine⟨z,y,xs,r,o,es,ep,h1,h2,h3,h4,fun x hx=>?_,h5⟩
  have all:∀{l:List (List Key×V)}{m:List (List Key×Addr×Value)},KT H l m→∀x∈m,(tupleKind (bY P w)).is h x.1 x.2.1:=by
    intro l m q
    induction q with
    | nil=>intro x hx;exact nomatch hx
    | @cons p q ps qs hq t ih=>
      intro x hx
      rcases List.mem_cons.mp hx with e | hx
      · subst e
        exact yF ok (by rw[←hq.1];exact hq.2.1)
      · exact ih x hx
  exact all r x hx
theorem Of {kvs:List (List Key×V)}(ok:oh P w H h) (e:H a=some (.dT kvs)):kvs.length≤sizeLine∧(a == sysModules)=false∧
  ∃xs,KT H kvs xs∧h.DictOfH (tupleKind (bY P w)) a xs:=zS ok (.inl e)
end
noncomputable def oX (H:Hp) (a:Addr) (y:V) (r:Option V):Prop:=
 (∃kvs k,Rd H a (.dK kvs)∧y=kV k∧r=pJ kvs k)∨∃kvs k b,Rd H a (.dT kvs)∧y= .ref b∧H b=some (.tup (k.map kV))∧r=pJ kvs k
noncomputable def zT (H:Hp) (a:Addr) (y v:V) (H':Hp):Prop:=
 (∃kvs k,H a=some (.dK kvs)∧y=kV k∧kvs.length < sizeLine∧H'=upd H a (.dK (putK kvs k v)))∨
 ∃kvs k b,H a=some (.dT kvs)∧y= .ref b∧H b=some (.tup (k.map kV))∧kvs.length < sizeLine∧H'=upd H a (.dT (putK kvs k v))
theorem oX.k {H:Hp}{a:Addr}{kvs:List (Key×V)}{k:Key}(e:H a=some (.dK kvs)):oX H a (kV k) (pJ kvs k):=.inl ⟨kvs,k,.inl e,rfl,rfl⟩
theorem oX.t {H:Hp}{a b:Addr}{kvs:List (List Key×V)}{k:List Key}(e:H a=some (.dT kvs)) (eb:H b=some (.tup (k.map kV))):oX H a (.ref b) (pJ kvs k):=.inr ⟨kvs,k,b,.inl e,rfl,eb,rfl⟩
theorem zT.k {H:Hp}{a:Addr}{kvs:List (Key×V)}{k:Key}{v:V}(e:H a=some (.dK kvs)) (hl:kvs.length < sizeLine):zT H a (kV k) v (upd H a (.dK (putK kvs k v))):=.inl ⟨kvs,k,e,rfl,hl,rfl⟩
theorem zT.t {H:Hp}{a b:Addr}{kvs:List (List Key×V)}{k:List Key}{v:V}(e:H a=some (.dT kvs)) (eb:H b=some (.tup (k.map kV))) (hl:kvs.length < sizeLine):
  zT H a (.ref b) v (upd H a (.dT (putK kvs k v))):=.inr ⟨kvs,k,b,e,rfl,eb,hl,rfl⟩
section
variable {X:Cx}{pins:List (Addr×Obj)}{σ:St}{H:Hp}{s:Shared}{a:Addr}{y v:V}{u r:Value}{o:Option V}{A:Around}{E:Value→Shared→Prop}
theorem Inv.big (I:Inv X pins σ H s):sysModules < s.heap.objs.size:=by
 have h:mainGlobals < s.heap.objs.size:=(I.mod.glob.keeps I.bk).lt
 exact Nat.lt_trans (by decide) h
theorem Dv {Q:Value→Shared→Prop}(hu:A.units+1 < cLine) (I:Inv X pins σ H s) (g:oX H a y (some v)) (ry:RelV y u) (h:∀w' s',Inv X pins σ H s'→RelV v w'→Q w' s'):
  wpAny (model X.prog X.w) A (getItem (.ref a) u) Q E s:=by
 rcases g with⟨kvs,k,e,ey,l⟩ | ⟨kvs,k,b,e,ey,eb,l⟩
 ·subst ey
  obtain⟨z,hd,vs,rel,dd⟩:=xy I.hok e
  obtain⟨w',hw,rw'⟩:=mS.some_of (v:=v) (o:=valueAt vs k) (by rw[l];exact rel.val k)
  exact wpAny_getItem_of (sZ ry) dd.mapOf hw (h w' _ (I.tok _) rw')
 ·subst ey
  cases(show u=Value.ref b from ry)
  obtain⟨z,hd,xs,rel,dd⟩:=zS I.hok e
  obtain⟨w',hw,rw'⟩:=mS.some_of (v:=v) (o:=(atKey xs k).map (·.2)) (by rw[l];exact rel.val k)
  obtain⟨p,hp,hp2⟩:=Option.map_eq_some_iff.mp hw
  refine wpAny_getItem_heap (tupleKind_room_in1 hu) (yF I.hok eb) dd hp ?_
  rw[hp2]
  exact h w' _ (I.tok _) rw'
theorem ux {h':Heap}{t':Nat}{ob:HO}(I:Inv X pins σ H s) (mu:NJ (H a)) (hs:Heap.SameBut a s.heap h') (he:∃q,h'.get? a=some q) (new:gF X.prog X.w (upd H a ob) h' a ob):
  Inv X pins σ (upd H a ob) {s with heap:=h',toks:=t'}:=
 I.write (x:=a) (e:=a) mu (.inl rfl) (fun b q hb z=>(hs.2 b hb).trans z) he new
theorem Bq {P:Program}{w:World}{H':Hp}{h':Heap}{kvs:List (Key×V)}{vs:List (Key×Value)}(z:kvs.length≤sizeLine) (hd:(a == sysModules)=false) (rel:KV kvs vs) (dd:h'.DictOf (bY P w) a vs):
  gF P w H' h' a (.dK kvs):=⟨z,hd,vs,rel,dd⟩
theorem Dw {H':Hp}{Q:Unit→Shared→Prop}(hu:A.units+1 < cLine) (I:Inv X pins σ H s) (g:zT H a y v H') (ry:RelV y u) (rv:RelV v r) (h:∀s',Inv X pins σ H' s'→Q () s'):
  wpAny (model X.prog X.w) A (setItem (.ref a) u r) Q E s:=by
 rcases g with⟨kvs,k,e,ey,l,eH⟩ | ⟨kvs,k,b,e,ey,eb,l,eH⟩
 ·subst ey eH
  obtain⟨z,hd,vs,rel,dd⟩:=Cw I.hok e
  have hz:vs.length≤sizeLine:=by rw[←rel.length];exact z
  have hl:(putK kvs k v).length≤sizeLine:=by have:=mZ kvs k v;omega
  refine wpAny_setItem_pairs (hsz:=hz) (sZ ry) dd fun h' Hy hs=>h _ ?_
  have he:∃q,h'.get? a=some q:=let⟨q,_,_,hq,_⟩:=Hy;⟨q,hq⟩
  exact ux I (by rw[e];exact True.intro) hs he (Bq hl hd (rel.put k rv) Hy)
 ·subst ey eH
  cases(show u=Value.ref b from ry)
  obtain⟨z,hd,xs,rel,dd⟩:=Of I.hok e
  have hz:xs.length≤sizeLine:=by rw[←Paired.length rel];exact z
  have hl:(putK kvs k v).length≤sizeLine:=by have:=mZ kvs k v;omega
  refine wpAny_setItem_heap (hsz:=hz) (tupleKind_room_in1 hu) (yF I.hok eb) dd fun h' Hy hs=>h _ ?_
  obtain⟨q,es,ep,hq,h2,h3,h4,_,h5⟩:=Hy
  refine ux I (by rw[e];exact True.intro) hs ⟨q,hq⟩ ⟨hl,hd,_,(rel.put k eb rv).keeps fun c ys ec=>?_,q,es,ep,hq,h2,h3,h4,h5⟩
  rw[aP (NI ec e (fun z=>nomatch z))]
  exact ec
end
section
variable {X:Cx}{pins:List (Addr×Obj)}{σ:St}{H:Hp}{s:Shared}{a:Addr}{kvs:List (Key×V)}{k:Key}{u:Value}{A:Around}{E:Value→Shared→Prop}
theorem Og {Q:Value→Shared→Prop}(I:Inv X pins σ H s) (e:Rd H a (.dK kvs)) (h:∀t s',Inv X pins σ H s'→Q (.int kvs.length t) s'):wpAny (model X.prog X.w) A (call (.builtin "len") [.ref a]) Q E s:=by
 obtain⟨z,hd,vs,rel,dd⟩:=xy I.hok e
 refine call_len_dict hd dd (by rw[←rel.length];rw[sizeLine_eq] at z;omega) ?_
 rw[←rel.length]
 exact h _ _ (I.tok _)
end
noncomputable def Ia (i:Expr):Prop:=∀ov iv,subscripted i false ov iv=operate [ov,iv] (getItem ov iv)
theorem Cy {prog:Program}{w:World}{A:Around}{E:Value→Shared→Prop}{s:Shared}{env:Env}{value slice:Expr}{pos:Pos}{T id:String}{Q:Value→Shared→Prop}
  (hl:typeLookup (.type T) "__getitem__" =pure (some (.builtin id))) (hs:Ia slice)
  (h:wpAny (model prog w) A (eval value env) (fun o s₁=>wpAny (model prog w) A (eval slice env) (fun i s₂=>s₂.TypeIs o T∧wpAny (model prog w) A (getItem o i) Q E s₂) E s₁) E s):
  wpAny (model prog w) A (eval (.Subscript value slice pos) env) Q E s:=by
 refine Subscript_ (wpAny_mono h (fun o s₁ h₁=>wpAny_mono h₁ (fun i s₂ h₂=>?_) fun _ _ x=>x) fun _ _ x=>x)
 obtain⟨hT,h₂⟩:=h₂
 unfold subscriptTail
 refine wpAny_bind ?_
 rw[getitemInPython_of_ne hT.not_modules]
 refine wpAny_bind (wpAny_specialOf hT hl ?_)
 have fin:wpAny (model prog w) A (subscripted slice false o i) (fun r s₃=>wpAny (model prog w) A (letTemporaryGo value o r >>= fun _=>pure r) Q E s₃) E s₂:=by
  rw[hs o i]
  exact wpAny_operating (wpAny_mono h₂ (fun r s₃ h₃=>wpAny_bind (wpAny_letTemporaryGo (wpAny_pure h₃))) fun _ _ x=>x)
 first
  | exact wpAny_pure (wpAny_bind fin)
  | exact wpAny_bind (wpAny_pure (wpAny_bind fin))
  | exact wpAny_bind fin
theorem zU {X:Cx}{pins:List (Addr×Obj)}{σ:St}{H:Hp}{s:Shared}{a:Addr}{y:V}{o:Option V}(I:Inv X pins σ H s) (g:oX H a y o):s.TypeIs (.ref a) "dict":=by
 rcases g with⟨kvs,k,e,_,_⟩ | ⟨kvs,k,b,e,_,_,_⟩
 ·obtain⟨_,_,vs,_,dd⟩:=xy I.hok e
  exact dd.typeIs
 ·obtain⟨_,_,xs,_,dd⟩:=zS I.hok e
  exact dd.typeIs
noncomputable def Oh (td ty:TE):TE:=fun σ H Q=>td σ H fun x H1=>ty σ H1 fun y H2=>∃a v,x= .ref a∧oX H2 a y (some v)∧Q v H2
noncomputable def Oi (td ty tv:TE):TS:=fun D σ H=>tv σ H fun v H1=>td σ H1 fun x H2=>ty σ H2 fun y H3=>∃a H4,x= .ref a∧zT H3 a y v H4∧D.nx σ H4
section
variable {X:Cx}{o i e value:Expr}{pos pos' tpos:Pos}{td ty tv:TE}
theorem Cz (hu:X.A.units+1 < cLine) (ho:PE X o td) (hi:PE X i ty) (hs:Ia i):PE X (.Subscript o i pos) (Oh td ty):=by
 intro pins s σ H Q I h
 refine Cy PySem.F.slot_dict_getitem.lookup hs (d9 (ho pins s σ H _ I h) fun u s1 ⟨x,H1,I1,rx,q1⟩=>d9 (hi pins s1 σ H1 _ I1 q1) fun iv s2 ⟨y,H2,I2,ry,a,v,ex,g,q2⟩=>?_)
 subst ex
 obtain rfl:u=Value.ref a:=rx
 exact⟨zU I2 g,Dv hu I2 g ry fun w' s3 I3 rw'=>⟨v,H2,I3,rw',q2⟩⟩
theorem CA (hu:X.A.units+1 < cLine) (ho:PE X o td) (hi:PE X i ty) (hv:PE X value tv) (hs:swapsWith value (some (.Subscript o i pos')) pos.line X.env=pure false):
  PS X (.Assign [.Subscript o i pos'] value pos) (Oi td ty tv):=by
 intro pins s σ H D I h
 refine wpAny_Assign_Subscript (d9 (hv pins s σ H _ I h) fun r s1 ⟨v,H1,I1,rv,q1⟩=>d9 (ho pins s1 σ H1 _ I1 q1) fun u s2 ⟨x,H2,I2,rx,q2⟩=>d9 (hi pins s2 σ H2 _ I2 q2) fun iv s3 ⟨y,H3,I3,ry,a,H4,ex,g,q3⟩=>?_) hs
 subst ex
 obtain rfl:u=Value.ref a:=rx
 exact Dw hu I3 g ry rv fun s4 I4=>⟨σ,H4,I4,q3⟩
end
theorem E3 {P:Program}{w:World}{H:Hp}(h:Heap) (hb:sysModules < h.objs.size):gF P w H (h.push {cls:=.type "dict",data:=.dict #[]}) h.objs.size (.dK []):=
 ⟨Nat.zero_le _,beq_eq_false_iff_ne.mpr (Ne.symm (Nat.ne_of_lt hb)),[],.nil,Heap.DictOf.new h⟩
section
variable {X:Cx}{pos:Pos}
end
noncomputable def uH:List (TE×TE)→St→Hp→(List (V×V)→Hp→Prop)→Prop
 | [],_,H,Q=>Q [] H
 | (tk,tv) :: r,σ,H,Q=>tk σ H fun x H1=>tv σ H1 fun y H2=>uH r σ H2 fun ps H3=>Q ((x,y) :: ps) H3
noncomputable abbrev VV:List (V×V)→List (Value×Value)→Prop:=Paired fun p q=>RelV p.1 q.1∧RelV p.2 q.2
noncomputable def Oj (X:Cx) (pos:Pos) (keys:List (Option Expr)) (values:List Expr) (Ib:List (TE×TE)):Prop:=
 ∀(pins:List (Addr×Obj)) (s:Shared) (σ:St) (H:Hp) (Q:List (V×V)→Hp→Prop),Inv X pins σ H s→uH Ib σ H Q→
  wpAny (model X.prog X.w) X.A (evalPairs (pairTrees keys values X.env pos)) (fun vs s'=>∃ps H',Inv X pins σ H' s'∧VV ps vs∧Q ps H') X.xe s
theorem Ic {X:Cx}{pos:Pos}:Oj X pos [] [] []:=fun pins s σ H Q I h=>pairTrees_nil_walk ⟨[],H,I,.nil,h⟩
theorem E4 {X:Cx}{pos:Pos}{k v:Expr}{ks:List (Option Expr)}{vs:List Expr}{tk tv:TE}{Ib:List (TE×TE)}(hk:PE X k tk) (hv:PE X v tv) (hr:Oj X pos ks vs Ib):
  Oj X pos (some k :: ks) (v :: vs) ((tk,tv) :: Ib):=fun pins s σ H Q I h=>
 pairTrees_cons_walk (d9 (hk pins s σ H _ I h) fun u s1 ⟨x,H1,I1,rx,q1⟩=>d9 (hv pins s1 σ H1 _ I1 q1) fun w2 s2 ⟨y,H2,I2,ry,q2⟩=>
  d9 (hr pins s2 σ H2 _ I2 q2) fun ws s3 ⟨ps,H3,I3,rel,q3⟩=>⟨(x,y) :: ps,H3,I3,.cons ⟨rx,ry⟩ rel,q3⟩)
noncomputable def j9 (kvs more:List (Key×V)):List (Key×V):=more.foldl (fun acc kv=>putK acc kv.1 kv.2) kvs
theorem KV.merge:∀{more:List (Key×V)}{rs:List (Key×Value)}{kvs:List (Key×V)}{vs:List (Key×Value)},KV more rs→KV kvs vs→KV (j9 kvs more) (merged vs rs):=by
 intro more rs kvs vs r
 unfold KV at r
 induction r generalizing kvs vs with
 | nil=>intro q;exact q
 | @cons p q ps qs h t ih=>
  intro r0
  have e:KV (putK kvs p.1 p.2) (stored vs q.1 q.2):=by
   have:=r0.put p.1 h.2
   rw[←h.1];exact this
  exact ih e
theorem kQ:∀(more kvs:List (Key×V)),(j9 kvs more).length≤kvs.length+more.length
 | [],kvs=>by show kvs.length≤kvs.length+0;omega
 | p :: r,kvs=>by
  have h1:=kQ r (putK kvs p.1 p.2)
  have h2:=mZ kvs p.1 p.2
  show(j9 (putK kvs p.1 p.2) r).length≤_
  rw[List.length_cons];omega
theorem uI {P:Program}{w:World}:∀{kvs:List (Key×V)}{ws:List (Value×Value)},VV (kvs.map fun kv=>(kV kv.1,kv.2)) ws→∃rs,Carries (bY P w) ws rs∧KV kvs rs
  | [],_,r=>by rw[List.map_nil] at r;cases r;exact⟨[],True.intro,.nil⟩
  | p :: kvs, _, r => by
    rw[List.map_cons] at r
    cases r with
    | @cons a b as bs h t=>
      obtain⟨rs,c,q⟩:=uI (P:=P) (w:=w) t
      obtain⟨b1,b2⟩:=b
      exact⟨(p.1,b2) :: rs,⟨sZ h.1,rfl,c⟩,.cons ⟨rfl,h.2⟩ q⟩
noncomputable def Ol (Ib:List (TE×TE)):TE:=fun σ H Q=>∀p,H p=none→uH Ib σ (upd H p (.dK [])) fun ps H2=>H2 p=some (.dK [])∧∃kvs:List (Key×V),ps=kvs.map (fun kv=>(kV kv.1,kv.2))∧kvs.length≤15∧Q (.ref p) (upd H2 p (.dK (j9 [] kvs)))
theorem Ie {X:Cx}{pos:Pos}{keys:List (Option Expr)}{values:List Expr}{Ib:List (TE×TE)}(h:Oj X pos keys values Ib) (hall:keys.all (·.isSome)=true) (hl:keys.length=values.length) (h0:keys≠[])
  (Om:keys.length≤15):PE X (.Dict keys values pos) (Ol Ib):=by
 intro pins s σ H Q I q
 have hn:=I.hok.fresh (Nat.le_refl s.heap.objs.size)
 have I1:=I.laid (a:=s.heap.objs.size) (o:=.dK []) (h':=s.heap.push {cls:=.type "dict",data:=.dict #[]}) (t':=s.toks) (fun _ _ q=>Heap.get?_push_of_some _ q) (Nat.le_refl _) (E3 s.heap I.big)
 refine wpAny_Dict_walk (knd:=bY X.prog X.w) hall hl h0 Om (d9 (h pins _ σ _ _ I1 (q _ hn)) fun ws s2 ⟨ps,H2,I2,rel,e,kvs,ep,lk,q2⟩=>?_)
 subst ep
 obtain⟨rs,c,rk⟩:=uI (P:=X.prog) (w:=X.w) rel
 obtain⟨z,hd,Zj,r0,dd⟩:=Cw I2.hok e
 cases r0
 refine⟨rs,c,dd,fun h' Hy hs=>⟨.ref s.heap.objs.size,_,?_,rfl,q2⟩⟩
 have hz:(j9 [] kvs).length≤sizeLine:=by
  have h1:=kQ kvs []
  rw[List.length_nil] at h1
  rw[sizeLine_eq];omega
 have he:∃q,h'.get? s.heap.objs.size=some q:=let⟨q,_,_,hq,_⟩:=Hy;⟨q,hq⟩
 exact ux I2 (by rw[e];exact True.intro) hs he (Bq hz hd (rk.merge .nil) Hy)
structure M1 (X:Cx) (o:Expr) (m:Str) (apos:Pos) (e:Expr) (cpos:Pos):Prop where
 base:attributeBase o m X.env (eval o X.env)=eval o X.env
 few:((backTo cpos (starEach [e] X.env)).all (fun x=>!x.1) && (backToKw cpos (keywordEach [] X.env)).all (fun x=>x.1.isSome)
  && decide (([e]:List Expr).length+([]:List Keyword).length+(if([]:List Keyword).isEmpty then 0 else 1) < 30))=true
 line:(apos.endLine == cpos.line)=true
 trees:backTo cpos (starEach [e] X.env)=[(false,eval e X.env)]
structure M2 (X:Cx) (o:Expr) (m:Str) (apos:Pos) (e f:Expr) (cpos:Pos):Prop where
 base:attributeBase o m X.env (eval o X.env)=eval o X.env
 few:((backTo cpos (starEach [e,f] X.env)).all (fun x=>!x.1) && (backToKw cpos (keywordEach [] X.env)).all (fun x=>x.1.isSome)
  && decide (([e,f]:List Expr).length+([]:List Keyword).length+(if([]:List Keyword).isEmpty then 0 else 1) < 30))=true
 line:(apos.endLine == cpos.line)=true
 trees:backTo cpos (starEach [e,f] X.env)=[(false,eval e X.env),(false,eval f X.env)]
noncomputable def Q5 (H:Hp) (a:Addr):Prop:=(∃kvs,Rd H a (.dK kvs))∨∃kvs,Rd H a (.dT kvs)
theorem E5 {X:Cx}{pins:List (Addr×Obj)}{σ:St}{H:Hp}{s:Shared}{a:Addr}(I:Inv X pins σ H s) (d:Q5 H a):
  s.TypeIs (.ref a) "dict"∧(∀b,Value.ref a= .ref b→∃ob,s.heap.get? b=some ob∧ob.dict=none)∧(a == sysModules)=false:=by
 rcases d with⟨kvs,e⟩ | ⟨kvs,e⟩
 ·obtain⟨_,hd,vs,_,dd⟩:=xy I.hok e
  refine⟨dd.typeIs,fun b q=>?_,hd⟩
  cases q
  obtain⟨ob,_,_,h1,h2,_⟩:=dd
  exact⟨ob,h1,h2.2.1⟩
 ·obtain⟨_,hd,xs,_,dd⟩:=zS I.hok e
  refine⟨dd.typeIs,fun b q=>?_,hd⟩
  cases q
  obtain⟨ob,_,_,h1,h2,_⟩:=dd
  exact⟨ob,h1,h2.2.1⟩
section
variable {X:Cx}{pins:List (Addr×Obj)}{σ:St}{H:Hp}{s:Shared}{a:Addr}{y d:V}{u r:Value}{o:Option V}{A:Around}{E:Value→Shared→Prop}
theorem Lc {Q:Value→Shared→Prop}(hu:A.units+1 < cLine) (I:Inv X pins σ H s) (g:oX H a y o) (ry:RelV y u) (rd:RelV d r) (h:∀w' s',Inv X pins σ H s'→RelV (o.getD d) w'→Q w' s'):
  wpAny (model X.prog X.w) A (call (.builtin "dict.get") [.ref a,u,r]) Q E s:=by
 rcases g with⟨kvs,k,e,ey,l⟩ | ⟨kvs,k,b,e,ey,eb,l⟩
 ·subst ey
  obtain⟨z,hd,vs,rel,dd⟩:=xy I.hok e
  refine call_meetsIn PySem.F.slot_dict_get dd.typeIs PySem.F.entry_dict_get (PySem.F.args_dict_get_3 _ _ _) (meets_dict_get_default (bY X.prog X.w) a (sZ ry) hd r) ⟨_,dd.mapOf,h _ _ (I.tok _) ?_⟩
  rw[l]
  exact(rel.val k).getD rd
 ·subst ey
  cases(show u=Value.ref b from ry)
  obtain⟨z,hd,xs,rel,dd⟩:=zS I.hok e
  refine call_meetsIn PySem.F.slot_dict_get dd.typeIs PySem.F.entry_dict_get (PySem.F.args_dict_get_3 _ _ _) (meetsH_dict_get_default (tupleKind (bY X.prog X.w)) a b hd r) ⟨tupleKind_room_in1 hu,k,xs,yF I.hok eb,dd,h _ _ (I.tok _) ?_⟩
  rw[l]
  exact(rel.val k).getD rd
end
noncomputable def Ld (td ty tx:TE):TE:=fun σ H Q=>td σ H fun x H1=>∃a,x= .ref a∧Q5 H1 a∧ty σ H1 fun y H2=>tx σ H2 fun z H3=>∃o,oX H3 a y o∧Q (o.getD z) H3
section
variable {X:Cx}{o e f:Expr}{apos cpos:Pos}{td ty tx:TE}
theorem E6 (hu:X.A.units+1 < cLine) (ho:PE X o td) (he:PE X e ty) (hf:PE X f tx) (m:M2 X o "get" apos e f cpos):PE X (.Call (.Attribute o "get" apos) [e,f] [] cpos) (Ld td ty tx):=by
 intro pins s σ H Q I h
 refine wpAny_Call_method m.base m.few m.line PySem.F.plainAttrs_dict PySem.F.slot_dict_get PySem.F.type_dict_get (d9 (ho pins s σ H _ I h) fun u s1 ⟨x,H1,I1,rx,a,ex,d,q1⟩=>?_)
 subst ex
 obtain rfl:u=Value.ref a:=rx
 obtain⟨t1,t2,_⟩:=E5 I1 d
 refine⟨t1,t2,?_⟩
 rw[m.trees]
 refine Calls.callWith_builtin rfl (Calls.evalArgs_plain (Calls.spliced_cons (d9 (he pins s1 σ H1 _ I1 q1) fun iv s2 ⟨y,H2,I2,ry,q2⟩=>
  Calls.spliced_cons (d9 (hf pins s2 σ H2 _ I2 q2) fun fv s3 ⟨z,H3,I3,rz,ov,g,q3⟩=>Calls.spliced_nil ?_))))
 exact Lc hu I3 g ry rz fun w' s4 I4 rw'=>⟨_,H3,I4,rw',q3⟩
end
section
variable {X:Cx}{pins:List (Addr×Obj)}{σ:St}{H:Hp}{s:Shared}{a:Addr}{kvs:List (Key×V)}{A:Around}{E:Value→Shared→Prop}
end
section
variable {X:Cx}{pins:List (Addr×Obj)}{σ:St}{H:Hp}{s:Shared}{a:Addr}{y:V}{u:Value}{A:Around}{E:Value→Shared→Prop}
end
end L2
namespace HT
open PySem PyProof.Rows
section
open PySem.SeqAt
open PySem.AutoSeq1 (wpAny_loadPart')
open PySem.MeetsSeq PySem.MeetsSeq2 PySem.MeetsSeq3
end
section
variable {prog:Program}{w:World}{A:Around}{E:Value→Shared→Prop}{s:Shared}
theorem Ig {t b:Addr}{vs ws:List Value}{Q:Value→Shared→Prop}(ht:IsTup s.heap t vs.toArray) (hb:IsTup s.heap b ws.toArray) (hv:vs≠[])
  (h1:ws=[]→Q (.ref t) s) (h2:ws≠[]→Q (.ref s.heap.objs.size) {s with heap:=s.heap.push {cls:=.type "tuple",data:=.seq (vs++ws).toArray}})
  (hsz:vs.length+ws.length≤sizeLine):wpAny (model prog w) A (binaryOp .Add (.ref t) (.ref b)) Q E s:=by
 obtain⟨⟨cls,dd,data,sl⟩,ho,hc,n,hd⟩:=id ht
 obtain⟨⟨Tr,dd2,data2,sl2⟩,ho2,hc2,n2,hd2⟩:=id hb
 simp only at hc hd hc2 hd2
 subst hc hd hc2 hd2
 have e:vs.toArray++ws.toArray=(vs++ws).toArray:=by simp
 by_cases hw:ws=[]
 ·exact concat_meets ⟨_,ho,rfl⟩ ⟨_,ho2,rfl⟩ noFill_tuple_add seq_tuple_add PySem.F.slot_tuple_add PySem.F.entry_tuple_add (PySem.F.args_tuple_add_2 _ _)
   (tuple_addW1 t b vs.toArray ws.toArray n n2 dd dd2 sl sl2 (by simpa using hv) (by simp[hw])) ⟨ho,ho2,h1 hw⟩
 ·refine concat_meets ⟨_,ho,rfl⟩ ⟨_,ho2,rfl⟩ noFill_tuple_add seq_tuple_add PySem.F.slot_tuple_add PySem.F.entry_tuple_add (PySem.F.args_tuple_add_2 _ _)
   (tuple_addW2 t b vs.toArray ws.toArray n n2 dd dd2 sl sl2 (by simpa using hv) (by simpa using hw) (by rw[List.size_toArray,List.size_toArray];exact hsz)) ⟨ho,ho2,?_⟩
  rw[e]
  exact h2 hw
noncomputable def gY (n d:Nat):Option Int→Nat
 | none=>d
 | some v=>if v < 0 then(v+(n:Int)).toNat else min v.toNat n
theorem E7 (n d:Nat):gY n d none=d:=rfl
theorem Ih (n d k:Nat):gY n d (some (k:Int))=min k n:=by
 show(if(k:Int) < 0 then((k:Int)+(n:Int)).toNat else min (k:Int).toNat n)=min k n
 rw[if_neg (by omega),Int.toNat_natCast]
theorem Le (n d:Nat) (hd:d≤n) (o:Option Int):gY n d o≤n:=by
 cases o with
 | none=>exact hd
 | some v=>
  show(if v < 0 then(v+(n:Int)).toNat else min v.toNat n)≤n
  by_cases hv:v < 0
  ·rw[if_pos hv];omega
  ·rw[if_neg hv];exact Nat.min_le_right _ _
theorem CB (v:Int) (n d:Nat):(if v < 0 then max (v+(n:Int)) 0 else min v (n:Int))=((gY n d (some v):Nat):Int):=by
 show(if v < 0 then max (v+(n:Int)) 0 else min v (n:Int))=(((if v < 0 then(v+(n:Int)).toNat else min v.toNat n):Nat):Int)
 by_cases hv:v < 0
 ·simp only[if_pos hv];omega
 ·simp only[if_neg hv];omega
theorem Br (lo hi:Option Int) (n:Nat):Builtin.Slice.sliceAdjust lo hi 1 (n:Int)=(((gY n 0 lo:Nat):Int),((gY n n hi:Nat):Int)):=by
 have h1:¬((1:Int) < 0):=by omega
 unfold Builtin.Slice.sliceAdjust
 simp only[h1,if_false]
 refine Prod.ext ?_ ?_
 ·cases lo with
  | none=>rfl
  | some v=>exact CB v n 0
 ·cases hi with
  | none=>rfl
  | some v=>exact CB v n n
theorem Bs (i j:Nat):Builtin.Slice.slicePlaces (i:Int) (j:Int) 1=j - i:=by
 unfold Builtin.Slice.slicePlaces
 have h1:(1:Int) > 0:=by omega
 simp only[h1,if_true,Int.ediv_one]
 split <;> omega
theorem uJ {v:Value}{o:Option Int}{Q:Option Int→Shared→Prop}(p:IsPart v o) (h:Q o s):wpAny (model prog w) A (Builtin.Slice.slicePartIndex v) Q E s:=by
 cases p with
 | none=>exact slicePart_none h
 | int i t=>exact slicePart_int h
theorem lD {sl:Addr}{vl vu:Value}{lo hi:Option Int}{n:Nat}{Q:Int×Int×Nat→Shared→Prop}(hs:s.heap.IsSliceOf sl vl vu .none) (pl:IsPart vl lo) (pu:IsPart vu hi)
  (h:Q (((gY n 0 lo:Nat):Int),1,gY n n hi - gY n 0 lo) s):wpAny (model prog w) A (Builtin.Slice.sliceApplied (.ref sl) (pure (n:Int))) Q E s:=by
 obtain⟨os,hos,hcs,hds⟩:=id hs
 unfold Builtin.Slice.sliceApplied Builtin.Slice.sliceFields
 refine wpAny_bind (wpAny_bind (wpAny_field hos hds (x:=vl) rfl (wpAny_bind (wpAny_field hos hds (x:=vu) rfl (wpAny_bind (wpAny_field hos hds (x:=.none) rfl (wpAny_pure ?_)))))))
 refine wpAny_bind (slicePart_none ?_)
 show wpAny _ _ (if((1:Int) == 0)=true then _ else _) _ _ s
 rw[if_neg (by decide)]
 refine wpAny_bind (uJ pl (wpAny_bind (uJ pu (wpAny_bind (wpAny_pure ?_)))))
 show wpAny _ _ (match Builtin.Slice.sliceAdjust lo hi 1 (n:Int) with | (lo,hi)=>pure (lo,(1:Int),Builtin.Slice.slicePlaces lo hi 1)) _ _ s
 rw[Br lo hi n]
 show wpAny _ _ (pure (((gY n 0 lo:Nat):Int),(1:Int),Builtin.Slice.slicePlaces ((gY n 0 lo:Nat):Int) ((gY n n hi:Nat):Int) 1)) _ _ s
 rw[Bs]
 exact wpAny_pure h
theorem E8 (xs:Array Value) (i k:Nat):((List.range k).filterMap fun(m:Nat)=>xs[((i:Int)+(m:Int) * 1).toNat]?).toArray=((xs.toList.drop i).take k).toArray:=by
 have e:(fun(m:Nat)=>xs[((i:Int)+(m:Int) * 1).toNat]?)=fun m=>xs[i+m]?:=by
  funext m
  have:((i:Int)+(m:Int) * 1).toNat=i+m:=by omega
  rw[this]
 rw[e]
 have:=pick_run xs i k
 rw[List.filterMap_map] at this
 have e2:((fun x=>xs[x]?) ∘ fun x=>i+x)=fun m=>xs[i+m]?:=rfl
 rw[e2] at this
 rw[this]
theorem qo {t sl:Addr}{items:Array Value}{vl vu:Value}{lo hi:Option Int}{Q:Value→Shared→Prop}(ht:IsTup s.heap t items) (hs:s.heap.IsSliceOf sl vl vu .none) (pl:IsPart vl lo) (pu:IsPart vu hi)
  (hw:¬(gY items.size 0 lo=0∧gY items.size items.size hi=items.size))
  (h:Q (.ref s.heap.objs.size) {s with heap:=s.heap.push {cls:=.type "tuple",data:=.seq ((items.toList.drop (gY items.size 0 lo)).take (gY items.size items.size hi - gY items.size 0 lo)).toArray}})
  (hsz:items.size≤sizeLine):wpAny (model prog w) A (getItem (.ref t) (.ref sl)) Q E s:=by
 have CC:sizeOk (.seq ((items.toList.drop (gY items.size 0 lo)).take (gY items.size items.size hi - gY items.size 0 lo)).toArray):=by
  show((items.toList.drop (gY items.size 0 lo)).take (gY items.size items.size hi - gY items.size 0 lo)).toArray.size≤sizeLine
  rw[List.size_toArray,List.length_take,List.length_drop,Array.length_toList]
  omega
 have hj:gY items.size items.size hi≤items.size:=Le _ _ (Nat.le_refl _) hi
 obtain⟨os,hos,hcs,hds⟩:=id hs
 have Tt:s.TypeIs (.ref sl) "slice":=⟨os,hos,hcs⟩
 unfold getItem
 try with_reducible refine wpAny_holding ?_
 first | refine wpAny_bind (wpAny_pure ?_) | skip
 refine wpAny_bind (wpAny_sequenceKey ht.typeIs (by decide) ?_)
 refine wpAny_bind (wpAny_callSpecial?_slot (name:=Str.ofString "__getitem__") ht.typeIs PyProof.Rows.slot_tuple_getitem
  (wpAny_call_entry PyProof.Rows.slot_tuple_getitem ht.typeIs entry_tuple_getitem ?_ (args_tuple_getitem _ _)))
 show wpAny _ _ (Builtin.Tuple.tupleItemsOf (.ref t) >>= _) _ _ s
 refine wpAny_bind (tupleItemsOf_ ht ?_)
 refine wpAny_bind (wpAny_typeOf Tt ?_)
 rw[if_pos (by decide)]
 refine wpAny_bind (lD hs pl pu ?_)
 have hno:¬((((gY items.size 0 lo:Nat):Int) == 0 && (1:Int) == 1 && (gY items.size items.size hi - gY items.size 0 lo) == items.size)=true):=by
  intro q
  rw[Bool.and_eq_true,Bool.and_eq_true] at q
  have q1:((gY items.size 0 lo:Nat):Int)=0:=eq_of_beq q.1.1
  have q2:gY items.size items.size hi - gY items.size 0 lo=items.size:=eq_of_beq q.2
  exact hw ⟨by omega,by omega⟩
 show wpAny _ _ (if(((gY items.size 0 lo:Nat):Int) == 0 && (1:Int) == 1 && (gY items.size items.size hi - gY items.size 0 lo) == items.size)=true then _ else _) _ _ s
 rw[if_neg hno,E8]
 first
  | exact wpAny_bind (m:=Builtin.Tuple.tupleExact _) (wpAny_newObj_type (wpAny_pure ⟨_,rfl,wpAny_pure h⟩) CC)
  | exact wpAny_bind (m:=Builtin.Tuple.tupleExact _) (wpAny_newObj_type (wpAny_bind (wpAny_pure (wpAny_pure ⟨_,rfl,wpAny_pure h⟩))) CC)
  | exact wpAny_bind (wpAny_bind (m:=Builtin.Tuple.tupleExact _) (wpAny_newObj_type (wpAny_pure (wpAny_pure ⟨_,rfl,wpAny_pure h⟩)) CC))
  | exact wpAny_bind (wpAny_bind (m:=Builtin.Tuple.tupleExact _) (wpAny_newObj_type (wpAny_pure ⟨_,rfl,wpAny_pure h⟩) CC))
end
end HT
namespace L2
open PySem PySem.Spec PyProof.Rows
noncomputable abbrev TO:=St→Hp→(Option Int→Hp→Prop)→Prop
noncomputable def PO (X:Cx) (e:Option Expr) (t:TO):Prop:=
 ∀(pins:List (Addr×Obj)) (s:Shared) (σ:St) (H:Hp) (Q:Option Int→Hp→Prop),Inv X pins σ H s→t σ H Q→
  wpAny (model X.prog X.w) X.A (evalPart e X.env) (fun u s'=>∃o H',Inv X pins σ H' s'∧IsPart u o∧Q o H') X.xe s
noncomputable def Ii:TO:=fun _ H Q=>Q none H
noncomputable def Oo (t:TE):TO:=fun σ H Q=>t σ H fun x H1=>∃i,x= .int i∧Q (some i) H1
section
variable {X:Cx}{e:Expr}{te:TE}{lo hi:Option Expr}{tl th:TO}{pos p2:Pos}
theorem Ij:PO X none Ii:=by
 intro pins s σ H Q I h
 rw[evalPart_none]
 exact wpAny_pure ⟨none,H,I,.none,h⟩
theorem Ik (h:PE X e te):PO X (some e) (Oo te):=by
 intro pins s σ H Q I hw
 rw[evalPart_some]
 refine d9 (h pins s σ H _ I hw) fun u s1 ⟨x,H1,I1,r1,q1⟩=>?_
 obtain⟨i,rfl,q⟩:=q1
 obtain⟨t,rfl⟩:=r1
 exact⟨some i,H1,I1,.int i t,q⟩
noncomputable def Il (X:Cx) (r:V→Option Int→Option Int→Hp→VK→Prop):Prop:=
 ∀(pins:List (Addr×Obj)) (s:Shared) (σ:St) (H:Hp) (x:V) (v vl vu:Value) (lo hi:Option Int) (sl:Addr) (Q:VK),Inv X pins σ H s→RelV x v→s.heap.IsSliceOf sl vl vu .none→IsPart vl lo→IsPart vu hi→r x lo hi H Q→
  ∃T id,typeLookup (.type T) "__getitem__" =pure (some (.builtin id))∧s.TypeIs v T∧wpAny (model X.prog X.w) X.A (getItem v (.ref sl)) (EP X pins σ Q) X.xe s
theorem Il.or {r r':V→Option Int→Option Int→Hp→VK→Prop}(h:Il X r) (h':Il X r'):Il X (fun x lo hi H Q=>r x lo hi H Q∨r' x lo hi H Q):=by
 intro pins s σ H x v vl vu lo hi sl Q I rx hs pl pu q
 rcases q with q | q
 ·exact h pins s σ H x v vl vu lo hi sl Q I rx hs pl pu q
 ·exact h' pins s σ H x v vl vu lo hi sl Q I rx hs pl pu q
noncomputable def tSl (r:V→Option Int→Option Int→Hp→VK→Prop) (te:TE) (tl th:TO):TE:=fun σ H Q=>te σ H fun x H1=>tl σ H1 fun l H2=>th σ H2 fun u H3=>r x l u H3 Q
theorem zV {r:V→Option Int→Option Int→Hp→VK→Prop}(hr:Il X r) (he:PE X e te) (hl:PO X lo tl) (hu:PO X hi th):PE X (.Subscript e (.Slice lo hi none p2) pos) (tSl r te tl th):=by
 intro pins s σ H Q I h
 refine Subscript_ (d9 (he pins s σ H _ I h) fun v s1 ⟨x,H1,I1,r1,q1⟩=>?_)
 refine wpAny_Slice (d9 (hl pins s1 σ H1 _ I1 q1) fun vl s2 ⟨l,H2,I2,pl,q2⟩=>d9 (hu pins s2 σ H2 _ I2 q2) fun vu s3 ⟨u,H3,I3,pu,q3⟩=>?_)
 rw[evalPart_none]
 refine wpAny_pure ?_
 have I4:Inv X pins σ H3 {s3 with heap:=s3.heap.push {cls:=.type "slice",data:=.fields #[vl,vu,.none]}}:=I3.kept (t':=s3.toks) fun b ob q=>Heap.get?_push_of_some _ q
 obtain⟨T,id,hT,ht,hg⟩:=hr pins {s3 with heap:=s3.heap.push {cls:=.type "slice",data:=.fields #[vl,vu,.none]}} σ H3 x v vl vu l u s3.heap.objs.size Q I4 r1 (Heap.IsSliceOf.new ..) pl pu q3
 show wpAny (model X.prog X.w) X.A (subscriptTail e (.Slice lo hi none p2) v (.ref s3.heap.objs.size)) (EP X pins σ Q) X.xe {s3 with heap:=s3.heap.push {cls:=.type "slice",data:=.fields #[vl,vu,.none]}}
 exact tail_any (ops:=[.ref s3.heap.objs.size,v]) ht hT hg (by with_unfolding_all rfl)
noncomputable def wk (xs:List V) (lo hi:Option Int):List V:=(xs.drop (HT.gY xs.length 0 lo)).take (HT.gY xs.length xs.length hi - HT.gY xs.length 0 lo)
theorem s8 (xs:List V) (lo hi:Option Int):(wk xs lo hi).length≤xs.length:=by
 unfold wk
 rw[List.length_take,List.length_drop]
 omega
noncomputable def Tu (K:PySem.W.Frag):V→Option Int→Option Int→Hp→VK→Prop:=fun x lo hi H Q=>∃a xs,x= .ref a∧zO K H a xs∧
 ¬(HT.gY xs.length 0 lo=0∧HT.gY xs.length xs.length hi=xs.length)∧∀p,H p=none→Q (.ref p) (upd H p (.tup (wk xs lo hi)))
theorem Lf:Il X (Tu X.K):=by
 intro pins s σ H x v vl vu lo hi sl Q I rx hs pl pu h
 obtain⟨a,xs,rfl,hx,hw,q⟩:=h
 cases rx
 obtain⟨its,r,ht,hz⟩:=I.tuple hx
 have hlen:its.toArray.size=xs.length:=by rw[List.size_toArray];exact r.length.symm
 refine⟨"tuple",_,PyProof.Rows.slot_tuple_getitem.lookup,ht.typeIs,?_⟩
 refine HT.qo ht hs pl pu (by rw[hlen];exact hw) ?_ (by rw[hlen];exact hz)
 rw[hlen]
 refine⟨.ref s.heap.objs.size,_,I.laid (t':=s.toks) (o:=.tup (wk xs lo hi)) (fun b ob q=>Heap.get?_push_of_some _ q) (Nat.le_refl _) ?_,rfl,q _ (I.hok.fresh (Nat.le_refl _))⟩
 exact⟨Nat.le_trans (s8 xs lo hi) hz,_,(r.drop (HT.gY xs.length 0 lo)).take (HT.gY xs.length xs.length hi - HT.gY xs.length 0 lo),IsTup.new _ _⟩
noncomputable def Oq (K:PySem.W.Frag):R2:=fun x y H Q=>∃a b xs ys,x= .ref a∧y= .ref b∧zO K H a xs∧zO K H b ys∧xs≠[]∧xs.length+ys.length≤sizeLine∧
 (ys=[]→Q (.ref a) H)∧(ys≠[]→∀p,H p=none→Q (.ref p) (upd H p (.tup (xs++ys))))
theorem Vals.yG {xs:List V}{us:List Value}(r:Vals xs us):us=[]↔xs=[]:=by
 cases r with
 | nil=>simp
 | cons _ _=>simp
theorem Im:uw X (binaryOp .Add) (Oq X.K):=by
 intro pins s σ H x y v u Q I rx ry h
 obtain⟨a,b,xs,ys,rfl,rfl,ha,hb,hx,hz,q1,q2⟩:=h
 cases rx
 cases ry
 obtain⟨its,r1,p1,_⟩:=I.tuple ha
 obtain⟨its2,r2,p2,_⟩:=I.tuple hb
 refine HT.Ig p1 p2 (fun z=>hx (r1.yG.mp z)) (fun z=>⟨.ref a,H,I,rfl,q1 (r2.yG.mp z)⟩) (fun z=>?_) (by rw[←r1.length,←r2.length];exact hz)
 refine⟨.ref s.heap.objs.size,_,I.laid (t':=s.toks) (o:=.tup (xs++ys)) (fun b ob q=>Heap.get?_push_of_some _ q) (Nat.le_refl _) ?_,rfl,q2 (fun w=>z (r2.yG.mpr w)) _ (I.hok.fresh (Nat.le_refl _))⟩
 exact⟨by rw[List.length_append];exact hz,_,r1.append r2,IsTup.new _ _⟩
end
end L2
namespace L2
open PySem PySem.Spec PyProof.Rows
noncomputable def Dy (n:Nat) (i:Int):Option Nat:=if 0≤i then(if i < n then some i.toNat else none) else if -(n:Int)≤i then some (i+n).toNat else none
noncomputable def iS {α:Type}(xs:List α) (i:Int):Option α:=(Dy xs.length i).bind fun j=>xs[j]?
theorem CD {n:Nat}{i:Int}{j:Nat}(h:Dy n i=some j):seqIndex? i n=some j∧j < n∧-(n:Int)≤i∧i < n:=by
 unfold Dy at h
 by_cases h0:0≤i
 ·rw[if_pos h0] at h
  by_cases h1:i < n
  ·rw[if_pos h1] at h
   have e:i.toNat=j:=Option.some.inj h
   exact⟨by rw[seqIndex_of h0 h1,e],by omega,by omega,h1⟩
  ·rw[if_neg h1] at h;cases h
 ·rw[if_neg h0] at h
  by_cases h1:-(n:Int)≤i
  ·rw[if_pos h1] at h
   have e:(i+n).toNat=j:=Option.some.inj h
   exact⟨by rw[seqIndex_neg (by omega) h1,e],by omega,h1,by omega⟩
  ·rw[if_neg h1] at h;cases h
theorem yH {α:Type}{xs:List α}{i:Int}{v:α}(h:iS xs i=some v):∃j,seqIndex? i xs.length=some j∧xs[j]? =some v∧j < xs.length∧-(xs.length:Int)≤i∧i < xs.length:=by
 unfold iS at h
 cases e:Dy xs.length i with
 | none=>rw[e] at h;cases h
 | some j=>
  rw[e] at h
  obtain⟨h1,h2,h3,h4⟩:=CD e
  exact⟨j,h1,h,h2,h3,h4⟩
noncomputable def yI (b:Expr):Prop:=∀o i,subscripted b false o i=operate [o,i] (getItem o i)
noncomputable def E9 (X:Cx) (r:R2):Prop:=
 ∀(value slice:Expr) (pins:List (Addr×Obj)) (s:Shared) (σ:St) (H:Hp) (x y:V) (v u:Value) (Q:VK),Inv X pins σ H s→RelV x v→RelV y u→r x y H Q→
  subscripted slice false v u=operate [v,u] (getItem v u)→wpAny (model X.prog X.w) X.A (subscriptTail value slice v u) (EP X pins σ Q) X.xe s
noncomputable def Lg (X:Cx) (id:String) (r:V→List V→Hp→VK→Prop):Prop:=
 ∀(pins:List (Addr×Obj)) (s:Shared) (σ:St) (H:Hp) (x:V) (xs:List V) (v:Value) (us:List Value) (Q:VK),Inv X pins σ H s→RelV x v→Vals xs us→r x xs H Q→
  wpAny (model X.prog X.w) X.A (call (.builtin id) (v :: us)) (EP X pins σ Q) X.xe s
section
variable {X:Cx}{a b:Expr}{ta tb:TE}{pos:Pos}
theorem E9.or {r r':R2}(h:E9 X r) (h':E9 X r'):E9 X (fun x y H Q=>r x y H Q∨r' x y H Q):=by
 intro value slice pins s σ H x y v u Q I rx ry q hs
 rcases q with q | q
 ·exact h value slice pins s σ H x y v u Q I rx ry q hs
 ·exact h' value slice pins s σ H x y v u Q I rx ry q hs
theorem Lg.or {id:String}{r r':V→List V→Hp→VK→Prop}(h:Lg X id r) (h':Lg X id r'):Lg X id (fun x xs H Q=>r x xs H Q∨r' x xs H Q):=by
 intro pins s σ H x xs v us Q I rx rs q
 rcases q with q | q
 ·exact h pins s σ H x xs v us Q I rx rs q
 ·exact h' pins s σ H x xs v us Q I rx rs q
theorem Fb {r:R2}(hr:E9 X r) (ha:PE X a ta) (hb:PE X b tb) (hs:yI b):PE X (.Subscript a b pos) (Na r ta tb):=by
 intro pins s σ H Q I h
 exact Subscript_ (KW ha hb I h fun v u s2 x y H2 I2 rx ry q=>hr a b pins s2 σ H2 x y v u Q I2 rx ry q (hs _ _))
noncomputable def Ot (K:PySem.W.Frag):R2:=fun x y H Q=>∃p xs i v,x= .ref p∧y= .int i∧pG K H p xs∧iS xs i=some v∧Q v H
noncomputable def Ou (K:PySem.W.Frag):R2:=fun x y H Q=>∃p xs i v,x= .ref p∧y= .int i∧zO K H p xs∧iS xs i=some v∧Q v H
noncomputable def Ov:R2:=fun x y H Q=>∃z i c,x= .str z∧y= .int i∧z.length≤sizeLine∧iS z.cps.toList i=some c∧Q (.str ⟨#[c]⟩) H
theorem CF:E9 X (Ot X.K):=by
 intro value slice pins s σ H x y v u Q I rx ry h hs
 obtain⟨p,xs,i,z,rfl,rfl,hq,he,q⟩:=h
 cases rx
 obtain⟨t,rfl⟩:=ry
 obtain⟨its,r,pl,hz⟩:=I.list hq
 obtain⟨j,h1,h2,h3,h4,h5⟩:=yH he
 obtain⟨w,ew,rw'⟩:=r.get h2
 have hl:=r.length
 have hn:=rQ
 have fin:EP X pins σ Q w s:=⟨z,H,I,rw',q⟩
 by_cases h0:0≤i
 ·have hj:i.toNat=j:=by
   rw[seqIndex_of h0 h5] at h1
   exact Option.some.inj h1
  exact item_listR pl.isList h0 (by omega) (by rw[hj];simpa using ew) fin hs
 ·have hj:(i+(its.toArray.size:Int)).toNat=j:=by
   rw[seqIndex_neg (by omega) h4] at h1
   rw[List.size_toArray,←hl]
   exact Option.some.inj h1
  exact subscriptTail_builtinR (x:=w) pl.isList.typeIs slot_list_getitem.lookup
   (wpAny_getItem_list_neg (Q:=fun r s'=>r=w∧EP X pins σ Q r s') pl.isList (by omega) (by rw[List.size_toArray] <;> omega) (by omega) (by rw[hj];simpa using ew) ⟨rfl,fin⟩) hs
theorem Fc:E9 X (Ou X.K):=by
 intro value slice pins s σ H x y v u Q I rx ry h hs
 obtain⟨p,xs,i,z,rfl,rfl,hq,he,q⟩:=h
 cases rx
 obtain⟨t,rfl⟩:=ry
 obtain⟨its,r,pl,hz⟩:=I.tuple hq
 obtain⟨j,h1,h2,h3,h4,h5⟩:=yH he
 obtain⟨w,ew,rw'⟩:=r.get h2
 have hl:=r.length
 have hn:=rQ
 have fin:EP X pins σ Q w s:=⟨z,H,I,rw',q⟩
 exact subscriptTail_builtinR (x:=w) pl.typeIs slot_tuple_getitem.lookup
  (getItem_tuple (j:=j) (Q:=fun r s'=>r=w∧EP X pins σ Q r s') pl (by omega) (by omega) (by rw[List.size_toArray,←hl];exact h1) (by simpa using ew) ⟨rfl,fin⟩) hs
theorem Fd:E9 X Ov:=by
 intro value slice pins s σ H x y v u Q I rx ry h hs
 obtain⟨z,i,c,rfl,rfl,hz,he,q⟩:=h
 obtain⟨t,rfl⟩:=rx
 obtain⟨t',rfl⟩:=ry
 obtain⟨j,h1,h2,h3,h4,h5⟩:=yH he
 have hl:z.cps.toList.length=z.length:=by simp[Str.length]
 rw[hl] at h1 h4 h5
 have hn:=rQ
 exact tail_any (typeIs_str s z t) slot_str_getitem.lookup (getItem_str (c:=c) (by
  have e1:decide (i < -(2 ^ 63:Int))=false:=decide_eq_false (by omega)
  have e2:decide (i≥2 ^ 63)=false:=decide_eq_false (by omega)
  rw[e1,e2,Bool.or_false]) (by rw[h1];simpa using h2) ⟨.str ⟨#[c]⟩,H,I.tok _,⟨_,rfl⟩,q⟩) hs
noncomputable def rIx (K:PySem.W.Frag):R2:=fun x y H Q=>Ot K x y H Q∨Ou K x y H Q∨Ov x y H Q
theorem Fe:E9 X (rIx X.K):=CF.or (Fc.or Fd)
theorem Bt (its:List Value) (n j:Nat) (u:Value):Obj.mapSeq (·.setIfInBounds j u) {cls:=.type "list",data:=.seq its.toArray n}={cls:=.type "list",data:=.seq (its.set j u).toArray n}:=by
 simp[Obj.mapSeq]
theorem Inv.lst {pins:List (Addr×Obj)}{σ:St}{H:Hp}{s:Shared}{p:Addr}{xs:List V}(I:Inv X pins σ H s) (h:H p=some (.lst xs)):
  ∃(its:List Value) (n:Nat),Vals xs its∧s.heap.get? p=some {cls:=.type "list",data:=.seq its.toArray n}∧xs.length≤sizeLine:=by
 obtain⟨z,its,n,r,e⟩:=I.hok p _ h
 exact⟨its,n,r,e,z⟩
theorem Inv.Lh {pins:List (Addr×Obj)}{σ:St}{H:Hp}{s:Shared}{p:Addr}{xs ys:List V}{its its':List Value}{n n':Nat}{f:Obj→Obj}(I:Inv X pins σ H s) (h:H p=some (.lst xs))
  (ho:s.heap.get? p=some {cls:=.type "list",data:=.seq its.toArray n}) (hf:f {cls:=.type "list",data:=.seq its.toArray n}={cls:=.type "list",data:=.seq its'.toArray n'}) (r:Vals ys its') (hz:ys.length≤sizeLine) (t:Nat):
  Inv X pins σ (upd H p (.lst ys)) {s with heap:=s.heap.update p f,toks:=t}:=by
 have e:(s.heap.update p f).get? p=some {cls:=.type "list",data:=.seq its'.toArray n'}:=by
  rw[Heap.get?_update_self f ho (by rw[hf] <;> rfl),hf]
 refine I.write (x:=p) (e:=p) (by rw[h];trivial) (.inl rfl) (fun b u hb q=>(Heap.get?_update_other _ _ (Ne.symm hb)).trans q) ⟨_,e⟩ ?_
 exact⟨hz,its',n',r,e⟩
noncomputable def Ow:V→V→V→Hp→(Hp→Prop)→Prop:=fun o i v H Q=>∃p xs k j,o= .ref p∧i= .int k∧H p=some (.lst xs)∧Dy xs.length k=some j∧Q (upd H p (.lst (xs.set j v)))
theorem set_list:NY X Ow:=by
 intro pins s σ H o i v ov iv u Q I ro ri rv h
 obtain⟨p,xs,k,j,rfl,rfl,hp,hj,q⟩:=h
 cases ro
 obtain⟨t,rfl⟩:=ri
 obtain⟨its,n,r,ho,hz⟩:=I.lst hp
 obtain⟨h1,h2,h3,h4⟩:=CD hj
 have hl:=r.length
 have hn:=rQ
 have I':Inv X pins σ (upd H p (.lst (xs.set j v))) {s with heap:=s.heap.update p (Obj.mapSeq (·.setIfInBounds j u))}:=
  I.Lh hp ho (Bt its n j u) (r.set rv j) (by rw[List.length_set];exact hz) s.toks
 by_cases h0:0≤k
 ·have hk:k.toNat=j:=by
   rw[seqIndex_of h0 h4] at h1
   exact Option.some.inj h1
  exact PySem.W.ki_setAt ho h0 (by omega) (by rw[List.size_toArray,←hl];exact h4) (by rw[hk];exact⟨_,I',q⟩)
 ·have hk:(k+(its.toArray.size:Int)).toNat=j:=by
   rw[seqIndex_neg (by omega) h3] at h1
   rw[List.size_toArray,←hl]
   exact Option.some.inj h1
  exact PySem.W.ki_setBack ho (by omega) (by rw[List.size_toArray,←hl];exact h3) (by omega) (by rw[hk];exact⟨_,I',q⟩)
theorem yJ (lo hi:Option Int) (n:Nat):(sliceBounds lo hi none n).1=((HT.gY n 0 lo:Nat):Int)∧(sliceBounds lo hi none n).2.1=((HT.gY n n hi:Nat):Int)∧(sliceBounds lo hi none n).2.2=1:=by
 refine⟨?_,?_,rfl⟩
 ·cases lo with
  | none=>simp[sliceBounds,HT.gY]
  | some i=>
   simp only[sliceBounds,HT.gY,Option.getD_none,show(1:Int) > 0 by decide,if_true]
   by_cases h:i < 0
   ·simp only[h,if_true] <;> omega
   ·simp only[h,if_false] <;> omega
 ·cases hi with
  | none=>simp[sliceBounds,HT.gY]
  | some i=>
   simp only[sliceBounds,HT.gY,Option.getD_none,show(1:Int) > 0 by decide,if_true]
   by_cases h:i < 0
   ·simp only[h,if_true] <;> omega
   ·simp only[h,if_false] <;> omega
theorem wm (its:List Value) (lo hi:Option Int):slicePick its.toArray lo hi none=((its.drop (HT.gY its.length 0 lo)).take (HT.gY its.length its.length hi - HT.gY its.length 0 lo)).toArray:=by
 obtain⟨h1,h2,h3⟩:=yJ lo hi its.toArray.size
 unfold slicePick
 rw[h1,h2,h3]
 simp only[sliceRange_one,pick_run,List.size_toArray] <;> rfl
noncomputable def Tv (K:PySem.W.Frag):V→Option Int→Option Int→Hp→VK→Prop:=fun x lo hi H Q=>∃a xs,x= .ref a∧pG K H a xs∧∀p,H p=none→Q (.ref p) (upd H p (.lst (wk xs lo hi)))
theorem CG:Il X (Tv X.K):=by
 intro pins s σ H x v vl vu lo hi sl Q I rx hs pl pu h
 obtain⟨a,xs,rfl,hx,q⟩:=h
 cases rx
 obtain⟨its,r,ht,hz⟩:=I.list hx
 have hlen:=r.length
 refine⟨"list",_,slot_list_getitem.lookup,ht.isList.typeIs,?_⟩
 refine wpAny_getItem_list_slice ht.isList hs pl pu .none (by simp) ?_ (by rw[List.size_toArray] <;> omega)
 rw[wm,←hlen]
 refine⟨.ref s.heap.objs.size,_,I.laid (t':=s.toks) (o:=.lst (wk xs lo hi)) (fun b ob q=>Heap.get?_push_of_some _ q) (Nat.le_refl _) ?_,rfl,q _ (I.hok.fresh (Nat.le_refl _))⟩
 exact⟨Nat.le_trans (s8 xs lo hi) hz,_,0,(r.drop (HT.gY xs.length 0 lo)).take (HT.gY xs.length xs.length hi - HT.gY xs.length 0 lo),Heap.get?_push_size _ rfl⟩
theorem lU:iu X (.builtin "len") (fun xs H Q=>∃p ys,xs=[.ref p]∧(pG X.K H p ys∨zO X.K H p ys)∧Q (.int ys.length) H):=by
 intro pins s σ H xs us Q I r h
 obtain⟨p,ys,rfl,hq,q⟩:=h
 obtain⟨u,rfl,rx⟩:=vals1 r
 cases rx
 have hn:=rQ
 rcases hq with hq | hq
 ·obtain⟨its,r',pl,hz⟩:=I.list hq
  have hlen:=r'.length
  exact Calls.call_len_list pl.isList (by simp only[List.size_toArray] <;> omega) ⟨.int ys.length,H,I.tok _,⟨s.toks+1,by rw[List.size_toArray,hlen]⟩,q⟩
 ·obtain⟨its,r',pl,hz⟩:=I.tuple hq
  have hlen:=r'.length
  exact len_tuple pl (by simp only[List.size_toArray] <;> omega) ⟨.int ys.length,H,I.tok _,⟨s.toks+1,by rw[List.size_toArray,hlen]⟩,q⟩
theorem qp:iu X (.builtin "len") (fun xs H Q=>∃z,xs=[.str z]∧z.length≤sizeLine∧Q (.int z.length) H):=by
 intro pins s σ H xs us Q I r h
 obtain⟨z,rfl,hz,q⟩:=h
 obtain⟨u,rfl,t,rfl⟩:=vals1 r
 have hn:=rQ
 exact len_str (by omega) ⟨.int z.length,H,I.tok _,⟨_,rfl⟩,q⟩
theorem iu.or {f:Value}{r r':List V→Hp→VK→Prop}(h:iu X f r) (h':iu X f r'):iu X f (fun xs H Q=>r xs H Q∨r' xs H Q):=by
 intro pins s σ H xs us Q I rs q
 rcases q with q | q
 ·exact h pins s σ H xs us Q I rs q
 ·exact h' pins s σ H xs us Q I rs q
noncomputable def Zk (K:PySem.W.Frag) (T:String) (x:V) (H:Hp):Prop:=match x with
 | .str _=>T="str"
 | .int _=>T="int"
 | .ref p=>(T="list"∧∃xs,pG K H p xs)∨(T="tuple"∧∃o,K.lookup p=some o∧o.cls= .type "tuple"∧o.dict=none)∨
   (T="dict"∧((∃kvs,H p=some (.dK kvs))∨∃kvs,H p=some (.dT kvs)))∨(T="set"∧∃S n,H p=some (.set S n))
 | _=>False
theorem Li {pins : List (Addr × Obj)} {σ : St} {H : Hp} {s : Shared} {T : String} {x : V} {v : Value} (I : Inv X pins σ H s) (r : RelV x v) (ty : Zk X.K T x H) :
    s.TypeIs v T∧∀a,v= .ref a→∃ob,s.heap.get? a=some ob∧ob.dict=none:=by
  cases x with
  | str z=>
    obtain⟨t,rfl⟩:=r
    cases(show T="str" from ty)
    exact⟨typeIs_str s z t,fun _ e=>nomatch e⟩
  | int i=>
    obtain⟨t,rfl⟩:=r
    cases(show T="int" from ty)
    exact⟨typeIs_int s i t,fun _ e=>nomatch e⟩
  | ref p =>
    cases r
    rcases ty with⟨rfl,xs,hq⟩ | ⟨rfl,o,hk,hc,hd⟩ | ⟨rfl,hk⟩ | ⟨rfl,S,n,hk⟩
    · obtain⟨its,_,pl,_⟩:=I.list hq
      refine⟨pl.isList.typeIs,fun a e=>?_⟩
      cases e
      obtain⟨o,n,e,c,hd,_⟩:=pl
      exact⟨o,e,hd⟩
    · refine⟨⟨o,I.uC p o hk,hc⟩,fun a e=>?_⟩
      cases e
      exact⟨o,I.uC _ o hk,hd⟩
    · have z:∃o,s.heap.get? p=some o∧o.ExactDict:=by
        rcases hk with⟨kvs,hk⟩ | ⟨kvs,hk⟩
        · obtain⟨_,_,_,_,o,_,_,e,ex,_⟩:=I.hok p _ hk
          exact⟨o,e,ex⟩
        · obtain⟨_,_,_,_,o,_,_,e,ex,_⟩:=I.hok p _ hk
          exact⟨o,e,ex⟩
      obtain⟨o,e,ex⟩:=z
      refine⟨⟨o,e,ex.1⟩,fun a e2=>?_⟩
      cases e2
      exact⟨o,e,ex.2.1⟩
    · obtain⟨o,_,_,_,e,ex,_⟩:=I.hok p _ hk
      refine⟨⟨o,e,ex.1⟩,fun a e2=>?_⟩
      cases e2
      exact⟨o,e,ex.2.1⟩
  | _=>exact False.elim ty
noncomputable def tBM (K:PySem.W.Frag) (T:String) (r:V→List V→Hp→VK→Prop) (to:TE) (t:TA):TE:=fun σ H Q=>to σ H fun x H1=>Zk K T x H1∧t σ H1 fun xs H2=>r x xs H2 Q
variable {o e:Expr}{es:List Expr}{to:TE}{t:TA}{name:Str}{apos cpos:Pos}{T id:String}{r:V→List V→Hp→VK→Prop}
theorem Ox (pa:PlainAttrs T) (slot:Slot T name id) (hty:typeOf (.builtin id)=pure (.type "method_descriptor")) (hm:Lg X id r) (ho:PE X o to) (ha:PA X (e :: es) t)
  (hbase:attributeBase o name X.env (eval o X.env)=eval o X.env:=by rfl)
  (hfew:((backTo cpos (starEach (e :: es) X.env)).all (fun x=>!x.1) && (backToKw cpos (keywordEach [] X.env)).all (fun x=>x.1.isSome)
   && decide ((e :: es).length+([]:List Keyword).length+(if([]:List Keyword).isEmpty then 0 else 1) < 30))=true:=by rfl)
  (hline:(apos.endLine == cpos.line)=true:=by rfl) (hs:starEach (e :: es) X.env=(false,eval e X.env) :: starEach es X.env:=by rfl) (hplain:(backTo cpos (starEach es X.env)).any (·.1)=false:=by rfl):
  PE X (.Call (.Attribute o name apos) (e :: es) [] cpos) (tBM X.K T r to t):=by
 intro pins s σ H Q I h
 refine wpAny_Call_method_late hbase hfew hline rfl (d9 (ho pins s σ H _ I h) fun v s1 ⟨x,H1,I1,r1,ty,q1⟩=>?_)
 obtain⟨h1,h2⟩:=Li I1 r1 ty
 refine⟨T,id,pa,slot,hty,h1,h2,?_⟩
 have hA:=ha cpos pins s1 σ H1 _ I1 q1
 rw[hs] at hA ⊢
 refine Calls.callWith_builtin (by show(false || (backTo cpos (starEach es X.env)).any (·.1))=false;rw[hplain] <;> rfl) (Calls.evalArgs_plain ?_)
 exact d9 hA fun us s2 ⟨vs,H2,I2,r2,q2⟩=>hm pins s2 σ H2 x vs v us Q I2 r1 r2 q2
end
end L2
namespace L2
open PySem PySem.Spec PyProof.Rows
noncomputable def MtM (X:Cx) (id:String) (r:V→List V→Hp→VK→Prop):Prop:=
 ∀(pins:List (Addr×Obj)) (s:Shared) (σ:St) (H:Hp) (x:V) (xs:List V) (v:Value) (us:List Value) (Q:VK),Inv X pins σ H s→RelV x v→Vals xs us→r x xs H Q→
  wpAny (model X.prog X.w) X.A (call (.builtin id) (v :: us)) (EP X pins σ Q) X.xe s
theorem Vals.one:∀{x:V}{us:List Value},Vals [x] us→∃u,us=[u]∧RelV x u
 | _,_,.cons r .nil=>⟨_,rfl,r⟩
theorem Vals.two:∀{x y:V}{us:List Value},Vals [x,y] us→∃u v,us=[u,v]∧RelV x u∧RelV y v
 | _,_,_,.cons r (.cons q .nil)=>⟨_,_,rfl,r,q⟩
theorem Vals.reverse {xs:List V}{us:List Value}(h:Vals xs us):Vals xs.reverse us.reverse:=by
 induction h with
 | nil=>exact .nil
 | cons r t ih=>rw[List.reverse_cons,List.reverse_cons];exact Vals.append ih (.cons r .nil)
theorem Vals.rep {xs:List V}{us:List Value}(h:Vals xs us):∀k:Nat,Vals (List.replicate k xs).flatten (List.replicate k us).flatten
 | 0=>.nil
 | k+1=>by
  rw[List.replicate_succ,List.replicate_succ,List.flatten_cons,List.flatten_cons]
  exact Vals.append h (Vals.rep h k)
section
variable {X:Cx}{pins:List (Addr×Obj)}{σ:St}{H:Hp}{s:Shared}{l b:Addr}{xs ys zs:List V}
theorem Inv.Oz {its its':List Value}{n:Nat}{f:Array Value→Array Value}{t':Nat}(I:Inv X pins σ H s) (hH:H l=some (.lst xs))
  (e:s.heap.get? l=some {cls:=.type "list",data:=.seq its.toArray n}) (hf:f its.toArray=its'.toArray) (hv:Vals ys its') (hz:ys.length≤sizeLine):
  Inv X pins σ (upd H l (.lst ys)) {s with heap:=s.heap.update l (Obj.mapSeq f),toks:=t'}:=by
 have q:=PySem.IsL.update e f
 rw[hf] at q
 refine I.write (x:=l) (e:=l) (by rw[hH];exact trivial) (.inl rfl) (fun b' u hb hu=>(Heap.get?_update_other s.heap (Obj.mapSeq f) (Ne.symm hb)).trans hu) ⟨_,q⟩ ?_
 exact⟨hz,its',_,hv,q⟩
theorem Inv.Tw {its:List Value}{t':Nat}(I:Inv X pins σ H s) (hv:Vals ys its) (hz:ys.length≤sizeLine):
  Inv X pins σ (upd H s.heap.objs.size (.lst ys)) {s with heap:=s.heap.push {cls:=.type "list",data:=.seq its.toArray},toks:=t'}:=
 I.laid (fun _ _ q=>Heap.get?_push_of_some _ q) (Nat.le_refl _) ⟨hz,its,0,hv,Heap.get?_push_size _ rfl⟩
theorem Inv.fresh (I:Inv X pins σ H s):H s.heap.objs.size=none:=I.hok.fresh (Nat.le_refl _)
theorem Inv.Dz (I:Inv X pins σ H s) (hH:H l=some (.lst xs)):xs.length≤sizeLine∧∃(its:List Value) (n:Nat),Vals xs its∧xs.length=its.length∧s.heap.get? l=some {cls:=.type "list",data:=.seq its.toArray n}:=by
 obtain⟨z,its,n,r,e⟩:=I.hok l _ hH
 exact⟨z,its,n,r,r.length,e⟩
theorem Ff {n:Nat}(h:n≤sizeLine):Builtin.List.listTooLong n=false:=by
 unfold Builtin.List.listTooLong
 exact decide_eq_false (by omega)
end
section
variable {X:Cx}
noncomputable def CH:V→List V→Hp→VK→Prop:=fun x vs H Q=>∃l xs y,x= .ref l∧vs=[y]∧H l=some (.lst xs)∧xs.length < sizeLine∧Q .bZ (upd H l (.lst (xs++[y])))
theorem DA:MtM X "list.append" CH:=by
 intro pins s σ H x vs v us Q I rx rv h
 obtain⟨l,xs,y,rfl,rfl,hH,hz,q⟩:=h
 cases rx
 obtain⟨u,rfl,ru⟩:=rv.one
 obtain⟨z,its,n,r,hl,e⟩:=I.Dz hH
 refine call_meets F.slot_list_append ⟨_,e,rfl⟩ F.entry_list_append (F.args_list_append_2 _ _) (PySem.list_append l its.toArray n u (by rw[List.size_toArray];omega)) ⟨e,?_⟩
 refine⟨.bZ,_,I.Oz (its':=its++[u]) hH e (by simp) (r.append (.cons ru .nil)) ?_,rfl,q⟩
 rw[List.length_append,List.length_singleton]
 omega
end
section
variable {prog:Program}{w:World}{A:Around}{E:Value→Shared→Prop}{s:Shared}
end
section
variable {X:Cx}
end
end L2
namespace Zl
open PySem PySem.W PySem.Calls PyProof.Rows
theorem tZ {P:Params}{h:Heap}:∀(ns:List Int) (vs:List Value),WellAll P h vs (ns.map WData.int)→IntsAre vs ns:=by
 intro ns
 induction ns with
 | nil=>
  intro vs w
  rw[List.map_nil] at w
  cases w
  exact .nil
 | cons n ns ih=>
  intro vs w
  rw[List.map_cons] at w
  cases w with
  | cons a b=>
   cases a
   exact .cons _ _ (ih _ b)
theorem DB {l:OpenLaw}{n:Nat}(hn:l.most=some n){P:Params}{h:Heap}{args:List WData}{vals:List Value}
  (hpre:l.row.toRowW.claim.pre args=true) (hwl:WellAll P h vals args):
  ∃a vs ns,vals=[Value.ref a]∧args=[WData.list (ns.map WData.int)]∧h.get? a=some {cls:=.type "list",data:=.seq vs.toArray}∧IntsAre vs ns∧ns.length≤n:=by
 have hsh:WShape.hasAll [] args [.list .int]=true:=(pre_splitW hpre).1
 have hc:l.pre.holds [] {args:=args}=true:=(pre_splitW hpre).2
 obtain⟨d,r,rfl,h1,h2⟩:=hasAllW_cons hsh
 obtain rfl:=hasAllW_nil h2
 obtain⟨xs,rfl,h3⟩:=hasW_list h1
 obtain⟨ns,rfl⟩:=items_int h3
 have hlen:ns.length≤n:=by
  unfold OpenLaw.pre at hc
  have h4:(WTm.not (.lt (.lit (.int (n:Int))) (.len (.arg 0)))).holds [] {args:=[.list (ns.map .int)]}=true:=by
   have h4:=(holds_andW hc).1
   rw[hn] at h4
   exact h4
  have h5:=condW_of h4 (w_not (w_lt w_lit (w_len_list (w_arg rfl))))
  rw[List.length_map] at h5
  refine Nat.le_of_not_lt fun q=>?_
  have q':(n:Int) < ((ns.length:Nat):Int):=by omega
  first
   | (rw[decide_eq_true q'] at h5;exact absurd h5 (by decide))
   | (simp at h5;omega)
 cases hwl with
 | cons w1 w2=>
  cases w2
  cases w1 with
  | list ho hall=>exact⟨_,_,ns,rfl,rfl,ho,tZ ns _ hall,hlen⟩
theorem DC (l:OpenLaw) (args:List WData):l.row.toRowW.claim.post args (.bool true) args=true:=
 postW_of (r:=l.row.toRowW) (X:=(true == true))
  (show WShape.has [] (.bool true) .bool=true by first | rfl | decide | simp[WShape.has,WShape.arms,WShape.armsAll])
  (show(WTm.eq .res (.lit (.bool true))).value [] {args:=args,res:=some (.bool true),after:=args}=some (.bool (true == true)) from w_eq_bool (w_res rfl) w_lit) rfl
theorem zW {l:OpenLaw}{n:Nat}{q:Program}{loose:List Str}{XP:(Str→Option Value)→Heap→Prop}{YP:World→Heap→Prop}{d:DefRec}
  (hn:l.most=some n) (hdf:d.params.defaults=[])
  (call:∀(w:World) (s₀ s₁:Shared) (mg mb:Str→Option Value) (fa:Addr) (o:Obj) (pm cd doc:Value) (a:Addr) (vs:List Value) (ns:List Int),
   Ground q loose [] XP w s₀ mg mb s₁.heap→YP w s₁.heap→
   s₁.heap.get? fa=some o→o.data= .func (docDef d.name d.params d.body d.scope pm cd doc)→s₁.heap.CodeRec cd d.name→mg d.name=some (.ref fa)→
   s₁.heap.get? a=some {cls:=.type "list",data:=.seq vs.toArray}→IntsAre vs ns→ns.length≤n→s₁.gens=#[]→
   codeAny (model l.prog w) callerA (.call (.ref fa) ⟨[.ref a],[]⟩) (fun r s'=>r= .ok (.ret (.bool true))∧OldK s₁.heap s'.heap∧s'.os=s₁.os∧AllBare s'.gens) s₁):
  WalkO q loose XP YP l.row.toRowW d [] (fun f vs=>PySem.call f vs):=by
 intro w s₀ s₁ mg mb G Y fa o pm cd doc dV kV ho hd hcd hD hmg hg args vals as hpre hlay hrd hwl hlo
 obtain rfl:dV= .none:=Dflts.none hD hdf
 obtain rfl:kV= .none:=Dflts.noKw hD
 obtain⟨a,vs,ns,rfl,rfl,hobj,hints,hlen⟩:=DB hn hpre hwl
 refine enter_call (codeAny_mono (call w s₀ s₁ mg mb fa o pm cd doc a vs ns G Y ho (fd_plain hd) hcd hmg hobj hints hlen hg) fun r s' hq=>?_)
 obtain⟨rfl,h2,h3,h4⟩:=hq
 exact⟨.inl ⟨.bool true,.bool true,[],rfl,fun _=>rfl,.bool true,DC l _,fun _=>⟨List.Pairwise.nil,fun _ hm=>(nomatch hm)⟩⟩,h2,h3,h4⟩
section
variable {prog:Program}{w:World}{A:Around}{E:Value→Shared→Prop}{s:Shared}{K:Frag}
end
end Zl
namespace L2
open PySem PySem.Spec PyProof.Rows
theorem xA:∀{vs:List Value}{ns:List Int},IntsAre vs ns→Vals (ns.map V.int) vs
 | _,_,.nil=>.nil
 | _,_,.cons n t h=>.cons ⟨t,rfl⟩ (xA h)
noncomputable def Io (H:Hp):Prop:=∀b,H b=none∨∃o xs,H b=some (.jV o (.lst xs))
theorem Fg {P : Program} {w : World} {K : PySem.W.Frag} {mg mb : Str → Option Value} {CX : Dq} {k : Nat} {fa a : Addr} {fd : FuncData} {x : Str} {sp : Sp} {s₁ : Shared} {vs : List Value} {ns : List Int}
    (KX:K.In s₁.heap) (hns:s₁.heap.Ns mainGlobals mg) (hb:s₁.heap.Ns builtinsNs mb) (hbb:∀x:Str,x≠"__name__"→mb x=bootBuiltins x) (hlim:s₁.heap.NoLimit) (hg:s₁.gens=#[])
    (ha:s₁.heap.get? a=some {cls:=.type "list",data:=.seq vs.toArray}) (hi:IntsAre vs ns) (hl:ns.length≤sizeLine) (hr:gG k callerA)
    (F:∀base:Heap,K.In base→base.Ns mainGlobals mg→aX P w K mg base CX k fa fd [x] sp) (hbind:∀(s:Shared) (u:Value),BindsTo s fd ⟨[u],[]⟩ [(x,u)])
    (JQ:∀H:Hp,Io H→pG K H a (ns.map V.int)→sp [.ref a] H (fun v _=>v= .bl true) fun _ _ _=>False)
    (Tz:∀H e s',CX [] H s₁ (fun _ _ _=>False) e s'→False):
    codeAny (model P w) callerA (.call (.ref fa) ⟨[.ref a],[]⟩) (fun r s'=>r= .ok (.ret (.bool true))∧OldK s₁.heap s'.heap∧s'.os=s₁.os∧AllBare s'.gens) s₁:=by
  have rv:=xA hi
  have lenV:=hi.length
  have core : ∀ H : Hp, Io H → pG K H a (ns.map V.int) → oh P w H s₁.heap → (∀ b, H b ≠ none → b = a) → (H a ≠ none → K.lookup a = none) →
      codeAny (model P w) callerA (.call (.ref fa) ⟨[.ref a],[]⟩) (fun r s'=>r= .ok (.ret (.bool true))∧OldK s₁.heap s'.heap∧s'.os=s₁.os∧AllBare s'.gens) s₁:=by
    intro H hO hS hok hA hK
    have CI:∀{b:Addr}{o:Obj},s₁.heap.get? b=some o→H b=none→(yx s₁.heap H).get? b=some o:=fun e n=>EI e n
    have Od:∀{b:Addr}{o:Obj}{es:Array DictEntry}{ep:Nat},s₁.heap.get? b=some o→o.data= .dict es ep→H b=none:=fun {b o es ep} e d=>by
      cases q:H b with
      | none=>rfl
      | some u=>
        have e':b=a:=hA b (by rw[q];simp)
        subst e'
        rw[ha] at e;cases e
        have d':Data.seq vs.toArray _=Data.dict es ep:=d
        cases d'
    have Q6:∀{b:Addr}{m:Str→Option Value},s₁.heap.Ns b m→(yx s₁.heap H).Ns b m:=fun {b m} ⟨o,es,ep,e,d,r⟩=>⟨o,es,ep,CI e (Od e d),d,r⟩
    have Zm:K.In (yx s₁.heap H):=fun b o e=>CI (KX b o e) (by
      cases q:H b with
      | none=>rfl
      | some u=>
        have e':b=a:=hA b (by rw[q];simp)
        subst e'
        rw[hK (by rw[q];simp)] at e;cases e)
    have hM:Mod K mg (yx s₁.heap H):=⟨Zm,Q6 hns,⟨mb,Q6 hb,hbb⟩,let⟨mc,h1,h2⟩:=hlim;⟨mc,Q6 h1,h2⟩⟩
    have e0:wj P w K mg (yx s₁.heap H) callerA [] s₁ H:=⟨rfl,hM,fun b o e=>HF e,Nat.le_of_eq (Df _ _),trivial,fun b hb=>absurd (show b∈([]:List Addr) from hb) (by simp),hok,.of_eq hg⟩
    refine codeAny_mono ((F _ Zm (Q6 hns)).run callerA [] s₁ H ⟨[.ref a],[]⟩ [.ref a] [.ref a] _ _ hr e0 (hbind s₁ (.ref a)) (.cons rfl .nil) (JQ H hO hS)) fun r s' h=>?_
    cases r with
    | error e=>exact(Tz H e s' h).elim
    | ok fl =>
      cases fl with
      | next=>exact False.elim h
      | brk=>exact False.elim h
      | cont=>exact False.elim h
      | ret u =>
        obtain⟨v,H',os,bare,un,TF,r',q⟩:=h
        have q':v= .bl true:=q
        subst q'
        obtain rfl:u=Value.bool true:=r'
        refine⟨rfl,OldK.of_keep fun b o e=>?_,os,bare⟩
        cases q:H b with
        | none=>exact un.keep b o e q (by intro z;exact absurd (show b∈([]:List Addr) from z) (by simp)) (by simp)
        | some u=>
          rcases hO b with z | ⟨ob,xs,z⟩
          · rw[q] at z;cases z
          · have z2:=un.ql b ob _ z
            obtain⟨e1,_⟩:=hok b _ z
            obtain⟨e2,_⟩:=TF b _ z2
            rw[e] at e1;cases e1
            exact e2
  cases hk:K.lookup a with
  | some o=>
    have e:=KX a o hk
    rw[ha] at e
    cases e
    refine core (fun _=>none) (fun _=>.inl rfl) (.inr ⟨_,vs.toArray,_,hk,rfl,rfl,rfl,by rw[List.size_toArray,lenV];exact hl,by simpa using rv⟩) (fun b u z=>by have z':(none:Option HO)=some u:=z;cases z') (fun b z=>absurd rfl z) fun z=>absurd rfl z
  | none=>
    refine core (fun b=>if b=a then some (.jV {cls:=.type "list",data:=.seq vs.toArray} (.lst (ns.map V.int))) else none) (fun b=>?_) (.inl (.inr ⟨{cls:=.type "list",data:=.seq vs.toArray},if_pos rfl⟩)) (fun b u z=>?_) (fun b z=>?_) fun _=>hk
    · by_cases hb:b=a
      · exact .inr ⟨_,_,if_pos hb⟩
      · exact .inl (if_neg hb)
    · by_cases hb:b=a
      · have z':=(if_pos hb).symm.trans z
        cases z'
        subst hb
        exact⟨ha,by rw[List.length_map];exact hl,vs,_,rv,ha⟩
      · have z':=(if_neg hb).symm.trans z
        cases z'
    · by_cases hb:b=a
      · exact hb
      · exact absurd (if_neg hb) z
end L2
namespace L2
open PySem PySem.Spec PyProof.Rows
noncomputable abbrev KOf {K:PySem.W.Frag}{h:Heap}(_:K.In h):PySem.W.Frag:=K
theorem Ip {l : PySem.W.OpenLaw} {n k : Nat} {q : Program} {loose : List Str} {XP : (Str → Option Value) → Heap → Prop} {YP : World → Heap → Prop} {d : DefRec} {K : Params → PySem.W.Frag} {CX : World → Dq} {sp : World → Sp} {x : Str}
    (hn:l.most=some n) (hn2:n≤sizeLine) (hdf:d.params.defaults=[]) (hr:gG k callerA)
    (hY:∀(w:World) (h:Heap),YP w h→(K w.params).In h)
    (F:∀(w:World) (mg:Str→Option Value) (fa:Addr) (h:Heap),(K w.params).In h→h.Ns mainGlobals mg→mg d.name=some (.ref fa)→
      ∃fd:FuncData,(∀(s:Shared) (u:Value),BindsTo s fd ⟨[u],[]⟩ [(x,u)])∧
        ∀base:Heap,(K w.params).In base→base.Ns mainGlobals mg→aX l.prog w (K w.params) mg base (CX w) k fa fd [x] (sp w))
    (JQ:∀(w:World) (H:Hp) (a:Addr) (ns:List Int),ns.length≤n→Io H→pG (K w.params) H a (ns.map V.int)→sp w [.ref a] H (fun v _=>v= .bl true) fun _ _ _=>False)
    (Tz:∀(w:World) (H:Hp) (s:Shared) (e:Value) (s':Shared),CX w [] H s (fun _ _ _=>False) e s'→False):
    PySem.W.WalkO q loose XP YP l.row.toRowW d [] (fun f vs=>PySem.call f vs):=by
  refine Zl.zW hn hdf fun w s₀ s₁ mg mb fa o pm cd doc a vs ns G Y ho hd hcd hmg hobj hints hlen hg=>?_
  have KX:=hY w _ Y
  obtain⟨fd,hb,hF⟩:=F w mg fa _ KX G.T.g hmg
  exact Fg KX G.T.g G.T.b G.T.builtins G.T.nolimit hg hobj hints (Nat.le_trans hlen hn2) hr hF hb (fun H hO hS=>JQ w H a ns hlen hO hS) fun H e s'=>Tz w H s₁ e s'
end L2
namespace L2
open PySem PySem.Spec PyProof.Rows
noncomputable def bw (s:Stmt):Arguments:=match s with
 | .FunctionDef _ a _ _ _ _ _ _ _ _=>a
 | _=>{posonlyargs:=[],args:=[],vararg:=none,kwonlyargs:=[],kw_defaults:=[],kwarg:=none,defaults:=[]}
noncomputable def aY (s:Stmt):List Stmt:=match s with
 | .FunctionDef _ _ b _ _ _ _ _ _ _=>b
 | _=>[]
noncomputable def az (s:Stmt):Scope:=match s with
 | .FunctionDef _ _ _ _ _ _ sc _ _ _=>sc
 | _=>{kind:=.function,names:=[],isGenerator:=false,isCoroutine:=false}
noncomputable abbrev eO:Dq:=fun _ _ _ _ _ _=>False
noncomputable abbrev E0:XK:=fun _ _ _=>False
theorem zX {X:Cx}:Passes eO X E0:=fun _ _ _ _ _ _ _ h=>h.elim
structure oY (K:PySem.W.Frag) (x qual:Str) (st:Stmt) (f:Addr) (fd:FuncData):Prop where
 ex:∃(oc:Value) (od:Option Addr) (kV doc pm:Value) (an:Option Addr) (cdv ct:Value) (osl:Array (Option Value)),
  fd=PySem.W.fnOf x qual (bw st) (aY st) (az st) .none kV doc pm an cdv ct∧K.lookup f=some ⟨oc,od,.func fd,osl⟩∧PySem.W.codeIn K cdv qual=true
 kp:PySem.W.keepIn K (.ref f)=true
section
variable {P:Program}{w:World}{K:PySem.W.Frag}{mg:Str→Option Value}{base:Heap}
theorem oY.ok {x qual:Str}{st:Stmt}{f:Addr}{fd:FuncData}{N ps:List Str}{k:Nat}{sp:Sp}(F:oY K x qual st f fd) (S:bJ N ps (az st)) (len:∀vs H Q E,sp vs H Q E→vs.length=ps.length)
  (hbody:∀(cdv:Value) (A:Around) (outer:List Env) (s:Shared) (H:Hp) (vs:List V) (Q:VK) (E:XK),gG k (A.deeper (envOfC qual (az st) s.heap.objs.size f cdv))→sp vs H Q E→
   ∃t,Be (Bp eO P w K mg base N qual (az st) f cdv A outer s H E).HJ (aY st) t∧t {nx:=fun _ H'=>Q .bZ H',rt:=Q} (start N vs) H):aX P w K mg base eO (k+1) f fd ps sp:=by
 obtain⟨oc,od,kV,doc,pm,an,cdv,ct,osl,rfl,lk,hcd⟩:=F.ex
 refine Oe lk hcd S len fun A outer s H vs Q E hr JQ=>?_
 obtain⟨t,h,q⟩:=hbody cdv A outer s H vs Q E hr JQ
 exact⟨t,h.HJ,q⟩
theorem oY.binds {x qual:Str}{st:Stmt}{f:Addr}{fd:FuncData}{ps:List Str}(F:oY K x qual st f fd)
  (h:∀(kV doc pm:Value) (an:Option Addr) (cdv ct:Value) (us:List Value),us.length=ps.length→bindArgs (PySem.W.fnOf x qual (bw st) (aY st) (az st) .none kV doc pm an cdv ct) ⟨us,[]⟩=pure (ps.zip us)):Binds K fd ps []:=by
 obtain⟨oc,od,kV,doc,pm,an,cdv,ct,osl,rfl,lk,hcd⟩:=F.ex
 exact .all (h kV doc pm an cdv ct)
theorem cW {x qual:Str}{st:Stmt}{f:Addr}{oc:Value}{od an:Option Addr}{osl:Array (Option Value)}{kV doc pm cdv ct:Value}(l:K.lookup f=some ⟨oc,od,.func (PySem.W.fnOf x qual (bw st) (aY st) (az st) .none kV doc pm an cdv ct),osl⟩)
  (c:PySem.W.codeIn K cdv qual=true) (k:PySem.W.keepIn K (.ref f)=true):oY K x qual st f (PySem.W.fnOf x qual (bw st) (aY st) (az st) .none kV doc pm an cdv ct):=⟨⟨oc,od,kV,doc,pm,an,cdv,ct,osl,rfl,l,c⟩,k⟩
end
theorem dz {A:Around}{k:Nat}(hr:gG k A):A.units+1 < cLine:=Nat.lt_of_le_of_lt (Nat.add_le_add_left (by decide:1≤64) _) hr.units
section
variable {X:Cx}
theorem DE:iu X (.builtin "len") (fun xs H Q=>∃a kvs,xs=[V.ref a]∧H a=some (.dK kvs)∧Q (.int kvs.length) H):=by
 intro pins s σ H xs us Q I r h
 obtain⟨a,kvs,rfl,ha,q⟩:=h
 obtain⟨u,rfl,ru⟩:=vals1 r
 cases ru
 exact Og I (.inl ha) fun t s' I'=>⟨.int kvs.length,H,I',⟨t,rfl⟩,q⟩
end
theorem Bu {A B:Prop}(h:B):if false=true then A else B:=by
 rw[if_neg Bool.false_ne_true]
 exact h
theorem Bv {A B:Prop}(h:A):if true=true then A else B:=by
 rw[if_pos rfl]
 exact h
noncomputable def uK (H H':Hp):Prop:=∀b o,H b=some o→H' b=some o
theorem uK.refl (H:Hp):uK H H:=fun _ _ h=>h
theorem uK.trans {H H1 H2:Hp}(a:uK H H1) (b:uK H1 H2):uK H H2:=fun c o h=>b c o (a c o h)
theorem uK.free {H H':Hp}(e:uK H H'){l:Addr}(h:H' l=Option.none):H l=Option.none:=by
 cases q:H l with
 | none=>rfl
 | some o=>
  rw[e l o q] at h
  cases h
theorem uK.seq {K:PySem.W.Frag}{H H':Hp}{a:Addr}{xs:List V}(e:uK H H') (h:pG K H a xs):pG K H' a xs:=by
 rcases h with(h | ⟨o,h⟩) | h
 ·exact .inl (.inl (e _ _ h))
 ·exact .inl (.inr ⟨o,e _ _ h⟩)
 ·exact .inr h
section
variable {κ:Type} [DecidableEq κ]
end
end L2
end
section
set_option Elab.async false
set_option linter.all false
set_option maxRecDepth 100000
namespace L2
open PySem PySem.Spec PyProof.Rows
theorem oh.OA {P:Program}{w:World}{H:Hp}{h:Heap}{a:Addr}{o:HO}(x:oh P w H h) (hn:H a=none) (new:gF P w (upd H a o) h a o):oh P w (upd H a o) h:=fun b u e=>by
 by_cases hb:b=a
 ·subst hb;rw[aW] at e;cases e;exact new
 ·rw[aP hb] at e
  exact(x b u e).stay (fun c v _ q=>q) (fun c q=>by rw[aP (bH q hn)];exact q) fun c xs q=>by rw[aP (bH q hn)];exact q
noncomputable def kR (X:Cx) (N':List Str) (scope:Scope) (cl:List (Str×Addr)) (C:Addr) (s:Shared) (H:Hp) (fp:List Addr):Cx:=
 {X with N:=N',s₀:=s,H₀:=H,env:=compEnvC scope cl C X.env,outer:=X.stack,stack:=X.stack,ex:=fp,fn:=fun _=>false,pn:=[],xe:=fun _ _=>False}
noncomputable def gH (cap:List Nat) (σ:St):St:=cap.map fun i=>(σ[i]?).join
structure qq (X:Cx) (x:Str) (jW:List Str) (cap:List Nat) (scope:Scope) (cl:List (Str×Addr)):Prop where
 clos:closureFor scope X.env=pure cl
 Lj:∀y∈scope.names,y.2≠.cell
 kind:scope.kind= .function
 names:∀y∈scope.names,y.2= .local→scope.names.lookup y.1=some .local
 loc:scope.names.lookup x=some .local
 cells:∀n c,cl.lookup n=some c→X.env.cells.lookup n=some c
 has:∀n,((relabel scope X.env).names.lookup n=some .cell∨(relabel scope X.env).names.lookup n=some .free)→∃c,cl.lookup n=some c
 nd:(x :: jW).Nodup
 len:cap.length=jW.length
 slot:∀(j:Nat) n,jW[j]? =some n→∃i:Nat,cap[j]? =some i∧X.N[i]? =some n∧Bd X.env.scope n
 vis:∀n,n∈jW→((relabel scope X.env).names.lookup n=some .cell∨(relabel scope X.env).names.lookup n=some .free)∧(∃c,cl.lookup n=some c)∧X.env.scope.names.lookup n≠some .local
noncomputable def TH (wi:TI) (cap:List Nat) (tc:TT) (te:TE):TE:=fun σ H Q=>wi σ H fun J H1=>∃W:Nat→Nat→List V→Hp→Prop,(∃m,W 0 m [] H1)∧∀i m ys H,W i m ys H→ys.length < sizeLine∧
  ((J.stop i H∧∀p,H p=none→Q (.ref p) (upd H p (.lst ys)))∨
   (J.go i H∧∀x H',J.Q2 i H x H'→tc (some x :: gH cap σ) H' fun b H2=>if b=true then te (some x :: gH cap σ) H2 fun y H3=>∃m',m' < m∧W (i+1) m' (ys++[y]) H3 else ∃m',m' < m∧W (i+1) m' ys H2))
noncomputable def TJ:TT:=fun _ H Q=>Q true H
noncomputable def OB (X:Cx) (ifs:List Expr) (tc:TT):Prop:=
 ∀(pins:List (Addr×Obj)) (s:Shared) (σ:St) (H:Hp) (Q:Bool→Hp→Prop),Inv X pins σ H s→tc σ H Q→
  wpAny (model X.prog X.w) X.A (forIn ifs true fun c r=>if r=true then do let ok ←isTrue c X.env (eval c X.env);pure (ForInStep.yield ok) else pure (ForInStep.yield r)) (TP X pins σ Q) X.xe s
theorem Iq {X:Cx}:OB X [] TJ:=fun pins s σ H Q I h=>wpAny_tests_nil ⟨H,I,h⟩
theorem Lk (ys:List Value) (y:Value):({cls:=.type "list",data:=.seq (ys.toArray.push y) (ys.length+1)}:Obj)={cls:=.type "list",data:=.seq (ys++[y]).toArray (ys++[y]).length}:=by
 rw[List.length_append,List.length_singleton,List.push_toArray]
theorem Fi {X : Cx} {pins : List (Addr × Obj)} {σ : St} {H : Hp} {s s4 : Shared} {x : Str} {jW : List Str} {cap : List Nat} {scope : Scope} {cl : List (Str × Addr)} {C : Addr} {fp : List Addr} {m' : Str → Option Value}
    (I:Inv X pins σ H s) (T:qq X x jW cap scope cl) (hfp:∀b∈fp,uD X pins H b) (hfo:∀b∈fp,∃o,s.heap.get? b=some o)
    (hC:s.heap.objs.size≤C) (hns:s4.heap.Ns C m') (hos:s4.os=s.os) (hg:s4.gens=s.gens)
    (kept:∀b o,s.heap.get? b=some o→s4.heap.get? b=some o):
    Inv (kR X (x :: jW) scope cl C s H fp) [] (none :: gH cap σ) H s4:=by
  have fr:∀b,s.heap.objs.size≤b→H b=none:=fun b hb=>I.hok.fresh hb
  refine⟨⟨I.ok.mod,T.kind,I.ok.glob,I.ok.blt,hC,fun y z c h1 h2=>I.ok.inj y z c (T.cells _ _ h1) (T.cells _ _ h2),fun y hy=>T.has y hy,fun y c h=>(by cases h),I.ok.hd,I.ok.frames,.inl rfl,fun b hb=>⟨?_,fun y c e z=>?_⟩,I.bs,Nat.le_trans I.ok.EJ I.sz,fun b o e hb=>?_,fun b hb z=>?_,I.stack,I.Ct⟩,
    hos,by rw[hg];exact I.bare,Un.kept kept,⟨m',hns,fun i y v h1 h2 h3=>?_⟩,fun y c h=>?_,fr C hC,fun y c h=>I.mV y c (T.cells _ _ h),fun p hp=>?_,I.hok.kept kept,?_⟩
  · obtain⟨o,e⟩:=hfo b hb
    exact Nat.ne_of_lt (Nat.lt_of_lt_of_le (Heap.lt_size e) hC)
  · exact(hfp b hb).2.2.2.2.1 y c (T.cells _ _ e) z
  · rcases(hfp b hb).2.2.2.1 with z | z
    · exact I.ok.EK b o e z
    · exact absurd (Nat.lt_of_lt_of_le (Heap.lt_size e) (Nat.le_trans I.ok.EJ z)) (Nat.lt_irrefl _)
  · rcases List.mem_cons.mp (I.yy b z) with q | q
    · exact(hfp b hb).2.1 q
    · exact(hfp b hb).2.2.1 q
  · cases i with
    | zero=>cases h2
    | succ j=>
      have h1:jW[j]? =some y:=by simpa[kR] using h1
      have h2:(gH cap σ)[j]? =some (some v):=by simpa using h2
      obtain⟨i,e1,e2,e3⟩:=T.slot j y h1
      have e4:σ[i]? =some (some v):=by
        unfold gH at h2
        rw[List.getElem?_map,e1] at h2
        have h2:some ((σ[i]?).join)=some (some v):=h2
        have h2:=Option.some.inj h2
        cases q:σ[i]? with
        | none=>rw[q] at h2;cases h2
        | some o=>rw[q] at h2;cases h2;rfl
      obtain⟨m,hn,hl⟩:=I.loc
      obtain⟨u,r,l⟩:=hl i y v e2 e4 e3
      obtain⟨k1,⟨c,hc⟩,k3⟩:=T.vis y (List.mem_of_getElem? h1)
      refine⟨u,r,.inr ⟨k1,c,hc,?_⟩⟩
      rcases l with⟨hk,_⟩ | ⟨hk,c',hc',z⟩
      · exact absurd hk k3
      · rw[T.cells _ _ hc] at hc'
        cases hc'
        obtain⟨o,ho,hd⟩:=z
        exact⟨o,kept _ _ ho,hd⟩
  · obtain⟨v,o,ho,hd⟩:=I.cell y c (T.cells _ _ h)
    exact⟨v,o,kept _ _ ho,hd⟩
  · exact absurd (show p∈([]:List (Addr×Obj)) from hp) (by simp)
  · show(none :: gH cap σ).length=(x :: jW).length
    simp[gH,T.len]
end L2
end
section
set_option Elab.async false
set_option linter.all false
set_option maxRecDepth 100000
namespace L2
open PySem PySem.Spec PyProof.Rows
theorem Fj {α:Type}{M:Model}{A:Around}{E E':Value→Shared→Prop}{s:Shared}{t:Sem α}{Q:Unit→Shared→Prop}{Q':α→Shared→Prop}(h:wpAny M A (pure ():Sem Unit) Q E s) (k:Q () s→wpAny M A t Q' E' s):wpAny M A t Q' E' s:=
 fun Γ p hΓ=>k (h Γ p hΓ) Γ p hΓ
theorem Bw {X:Cx}{elt iter:Expr}{ifs:List Expr}{x:Str}{px pos:Pos}{scope:Scope}{cl:List (Str×Addr)}{jW:List Str}{cap:List Nat}{wi:TI}{tc:TT}{te:TE}{pins:List (Addr×Obj)}{s:Shared}{σ:St}{H:Hp}{Q:VK}{use:Option (Value→Sem Unit)}{Qf:Value→Shared→Prop}{pos2:Pos}
    (T:qq X x jW cap scope cl) (hc:X.calm=true) (hi:PI X (.Name x px) iter wi)
    (ht:∀C s H fp,OB (kR X (x :: jW) scope cl C s H fp) ifs tc) (he:∀C s H fp,PE (kR X (x :: jW) scope cl C s H fp) elt te)
    (hs:∀x,foldedSetIterable iter X.env x=pure x) (I:Inv X pins σ H s) (h:TH wi cap tc te σ H Q)
    (hend:∀(D C:Addr) (s7:Shared) (H6:Hp) (ys:List V),Inv X pins σ (upd H6 D (.lst ys)) s7→(∃m,s7.heap.Ns C m)→uD X pins (upd H6 D (.lst ys)) C→Q (.ref D) (upd H6 D (.lst ys))→compPost (model X.prog X.w) X.A X.xe use Qf (.ref D) C (.ok .next) s7):
    wpAny (model X.prog X.w) X.A (comprehension (.ListComp elt [⟨.Name x px,iter,ifs,0⟩] scope pos) scope X.env pos2 (newList []) false (eval iter X.env) use) Qf X.xe s:=by
  refine wpAny_comprehension_free (use:=use) rfl hs T.clos T.kind T.names (d9 (hi pins s σ H _ I h) fun v s1 h1=>d9 h1 fun itv s2 h2=>?_)
  obtain⟨it,fp,tn,J,H2,rfl,I2,Hz,st2,f2,W,⟨m0,w0⟩,turn⟩:=h2
  refine wpAny_newObj_type (wpAny_newFunctionEnv T.Lj (by intro y hy;simp at hy) (fun h4 Ir Fl=>?_) T.kind)
  dsimp only at Ir Fl ⊢
  generalize TL:s2.heap.push {cls:=.type "list",dict:=none,data:=.seq ([]:List Value).toArray}=H3 at Ir Fl ⊢
  have eC:H3.objs.size=s2.heap.objs.size+1:=by rw[←TL,Heap.size_push]
  generalize eC':H3.objs.size=C at eC Ir Fl ⊢
  generalize eD:s2.heap.objs.size=D at eC ⊢
  have OC:C=D+1:=eC
  have hDC:D≠C:=by rw[OC];exact Nat.ne_of_lt (Nat.lt_succ_self D)
  have hC:s2.heap.objs.size≤C:=by rw[eD,OC];exact Nat.le_succ D
  have hD:s2.heap.objs.size≤D:=by rw[eD];exact Nat.le_refl D
  have kept:∀b o,s2.heap.get? b=some o→h4.get? b=some o:=fun b o e=>Fl.extBut b o (Nat.ne_of_lt (Nat.lt_of_lt_of_le (Heap.lt_size e) hC)) (Heap.get?_push_of_some _ (TL▸Heap.get?_push_of_some _ e))
  have hacc:h4.get? D=some {cls:=.type "list",data:=.seq ([]:List Value).toArray ([]:List Value).length}:=Fl.extBut _ _ hDC (Heap.get?_push_of_some _ (TL▸eD▸Heap.get?_push_size _ rfl))
  have Zn:∀b∈fp,∃o,s2.heap.get? b=some o:=fun b hb=>let⟨o,e,_⟩:=Hz.obj _ _ st2 b hb;⟨o,e⟩
  have hDf:D∉fp:=fun hb=>by
    obtain⟨o,e⟩:=Zn D hb
    exact absurd (Nat.lt_of_lt_of_le (Heap.lt_size e) hD) (Nat.lt_irrefl _)
  have Zo:tn 0 h4:=Hz.keep _ _ _ st2 fun b _ o e=>kept b o e
  have key : ∀ s5 : Shared, s5 = { s2 with heap := h4, toks := s2.toks + ([] : List (Str × Value)).length } →
      codeAny (model X.prog X.w) X.A (.compLoop (.ListComp elt [⟨.Name x px,iter,ifs,0⟩] scope pos) 0 (.ref it) (.ref D) (compEnvC scope cl C X.env)) (compPost (model X.prog X.w) X.A X.xe use Qf (.ref D) C) s5:=by
    rintro s5 rfl
    have I4:Inv (kR X (x :: jW) scope cl C s2 H2 fp) [] (none :: gH cap σ) H2 {s2 with heap:=h4,toks:=s2.toks+([]:List (Str×Value)).length}:=
      Fi (s4:={s2 with heap:=h4,toks:=s2.toks+([]:List (Str×Value)).length}) I2 T f2 Zn hC Ir rfl rfl kept
    generalize hY:kR X (x :: jW) scope cl C s2 H2 fp=Y at I4
    have fD:∀{H':Hp},H' D=none→uD Y [] H' D:=fun {H'} hn=>by
      subst hY
      refine⟨hn,hDC,fun z=>(List.mem_cons.mp (I2.yy D z)).elim (fun q=>absurd (Nat.lt_of_lt_of_le (q▸I2.lt) hD) (Nat.lt_irrefl _)) fun q=>I2.NO hD q,.inr hD,fun y c e z=>?_,fun p hp=>absurd (show p∈([]:List (Addr×Obj)) from hp) (by simp)⟩
      obtain⟨v,q⟩:=I2.cell y c (T.cells _ _ e)
      exact absurd (Nat.lt_of_lt_of_le q.lt (by rw[z];exact hD)) (Nat.lt_irrefl _)
    have fF:∀{H':Hp},(∀b∈fp,H' b=none)→∀b∈fp,uD Y [] H' b:=fun {H'} hn b hb=>by
      have q:=I4.ok.SQ b (by subst hY;exact hb)
      exact⟨hn b hb,fun z=>q.1 z,I4.ok.EL b (by subst hY;exact hb),.inl (by subst hY;exact hb),fun y c e z=>q.2 y c e z,fun p hp=>absurd (show p∈([]:List (Addr×Obj)) from(by subst hY;exact hp)) (by simp)⟩
    have eA:Y.A=X.A:=by subst hY;rfl
    have eP:Y.prog=X.prog:=by subst hY;rfl
    have eW:Y.w=X.w:=by subst hY;rfl
    have eK:Y.K=X.K:=by subst hY;rfl
    have eE:Y.env=compEnvC scope cl C X.env:=by subst hY;rfl
    have eX:Y.xe=fun _ _=>False:=by subst hY;rfl
    have eN:Y.N=x :: jW:=by subst hY;rfl
    have TM:Y.calm=true:=by subst hY;exact hc
    have htY:OB Y ifs tc:=by subst hY;exact ht _ _ _ _
    have heY:PE Y elt te:=by subst hY;exact he _ _ _ _
    have hgY:PG Y (.Name x px) (zP 0):=Cv (by rw[eN];exact T.nd) (by rw[eN];rfl) (by rw[eE];exact .inl (lookup_relabel_local T.loc)) (.inr (by rw[eE];exact lookup_relabel_local T.loc))
    have Bx:∀(E':Value→Shared→Prop) (e:Value) (s':Shared),Y.xe e s'→E' e s':=fun E' e s' z=>by rw[eX] at z;exact z.elim
    refine codeAny_compLoop_tests (fun n s'=>∃i ys us H' o,Inv Y [] (o :: gH cap σ) H' s'∧tn i s'.heap∧(∀b∈fp,H' b=none)∧H' D=none∧s'.heap.get? D=some {cls:=.type "list",data:=.seq us.toArray us.length}∧Vals ys us∧W i n ys H') ?_ m0
      ⟨0,[],[],H2,none,I4,Zo,fun b hb=>(f2 b hb).1,I2.hok.fresh hD,hacc,.nil,w0⟩
    rintro n s6 ⟨i,ys,us,H6,o6,I6,TN,TQ,d6,a6,v6,w6⟩
    have hul:us.length=ys.length:=v6.length.symm
    obtain⟨hz,OD⟩:=turn i n ys H6 w6
    rcases OD with⟨stop,qn⟩ | ⟨go,step⟩
    · have q := Hz.done Y eP eW eK TM i [] s6 (o6 :: gH cap σ) H6 (notedBy (model X.prog X.w) X.A (compEnvC scope cl C X.env) fun e s' => compPost (model X.prog X.w) X.A X.xe use Qf (.ref D) C (.error e) s') I6 (fF TQ) TN stop
      rw[eA] at q
      have TR:=I6.pinned (fp:=[D]) (fun b hb=>by rw[List.mem_singleton.mp hb];exact fD d6) (fun b hb=>by rw[List.mem_singleton.mp hb];exact⟨_,a6,fun v z=>by cases z⟩)
      have q:=Hz.done Y eP eW eK TM i _ s6 (o6 :: gH cap σ) H6 (notedBy (model X.prog X.w) X.A (compEnvC scope cl C X.env) fun e s'=>compPost (model X.prog X.w) X.A X.xe use Qf (.ref D) C (.error e) s') TR (fun b hb=>?_) TN stop
      · rw [eA] at q
        refine d9 q fun r s7 ⟨hr,I7⟩=>?_
        subst hr
        have a7:s7.heap.get? D=_:=(I7.pin (D,{cls:=.type "list",data:=.seq us.toArray us.length}) (List.mem_append_right _ (List.mem_append_right _ (iE (List.mem_singleton.mpr rfl) a6)))).1
        obtain⟨m7,Q7,_⟩:=I7.loc
        rw[eE] at Q7
        have OE:H6 D=none:=d6
        have hCn:H6 C=none:=by have:=I7.free;rw[eE] at this;exact this
        have TU:oh X.prog X.w H6 s7.heap:=by have q:=I7.hok;rw[eP,eW] at q;exact q
        have new:gF X.prog X.w (upd H6 D (.lst ys)) s7.heap D (.lst ys):=⟨Nat.le_of_lt hz,us,us.length,v6,a7⟩
        have u7:Un (frs X.stack) fp H2 H6 s2.heap s7.heap:=by have:=I7.base;subst hY;exact this
        have neD:∀b o,s2.heap.get? b=some o→b≠D:=fun b o e=>Nat.ne_of_lt (Nat.lt_of_lt_of_le (Heap.lt_size e) hD)
        have u8:Un (frs X.stack) fp H2 (upd H6 D (.lst ys)) s2.heap s7.heap:=
          ⟨u7.keep,u7.slot,fun b o e n hx=>by rw[aP (neD b o e)];exact u7.free b o e n hx,u7.there,
           fun b xs e=>by have z:=u7.tups b xs e;rw[aP (bH z OE)];exact z,fun b o u e=>by have z:=u7.ql b o u e;rw[aP (bH z OE)];exact z,
           fun b ps e=>by obtain⟨more,z⟩:=u7.rM b ps e;exact⟨more,by rw[aP (bH z OE)];exact z⟩⟩
        have os7:s7.os=s2.os:=by have:=I7.os;subst hY;exact this
        have I9:Inv X pins σ (upd H6 D (.lst ys)) s7:=I2.NR (ch:=fp) os7 u8 (TU.OA OE new) I7.bare fun b hb=>⟨(f2 b hb).2.2.2.1,(f2 b hb).2.1,(f2 b hb).2.2.2.2.1,(f2 b hb).2.2.2.2.2⟩
        exact hend D C s7 H6 ys I9 ⟨m7,Q7⟩ (I2.ES hC (by rw[aP (Ne.symm hDC)];exact hCn)) (qn D OE)
      · obtain⟨f0,f1,TV,f3,f4,f5⟩:=fF TQ b hb
        refine⟨f0,f1,TV,f3,f4,fun p hp z=>?_⟩
        rcases List.mem_append.mp hp with q' | q'
        · exact f5 p (List.mem_append_left _ q') z
        · rcases List.mem_append.mp q' with q' | q'
          · exact absurd q' (by simp)
          · have:=(rO q').1
            rw[List.mem_singleton.mp this] at z
            exact hDf (z▸hb)
    · have TR:=I6.pinned (fp:=[D]) (fun b hb=>by rw[List.mem_singleton.mp hb];exact fD d6) (fun b hb=>by rw[List.mem_singleton.mp hb];exact⟨_,a6,fun v z=>by cases z⟩)
      have Zp:∀{H':Hp},(∀b∈fp,H' b=none)→∀b∈fp,uD Y ([]++pH [D] s6.heap) H' b:=fun {H'} hn b hb=>by
        obtain⟨f0,f1,TV,f3,f4,f5⟩:=fF hn b hb
        refine⟨f0,f1,TV,f3,f4,fun p hp z=>?_⟩
        rcases List.mem_append.mp hp with q' | q'
        · exact f5 p (List.mem_append_left _ q') z
        · rcases List.mem_append.mp q' with q' | q'
          · exact absurd q' (by simp)
          · have:=(rO q').1
            rw[List.mem_singleton.mp this] at z
            exact hDf (z▸hb)
      have q:=Hz.item Y eP eW eK TM i _ s6 (o6 :: gH cap σ) H6 (notedBy (model X.prog X.w) X.A (compEnvC scope cl C X.env) fun e s'=>compPost (model X.prog X.w) X.A X.xe use Qf (.ref D) C (.error e) s') TR (Zp TQ) TN go
      rw[eA] at q
      refine d9 q fun r s7 ⟨u,hr,h7⟩=>?_
      subst hr
      refine Fj h7 fun⟨xv,H8,I8,r8,y8,TX,fr8⟩=>?_
      have I8':=I8.pinned (Zp fr8) (Hz.obj _ _ TX)
      have qa:=hgY _ s7 (o6 :: gH cap σ) H8 xv u _ I8' r8 (show zP 0 xv (o6 :: gH cap σ) H8 (fun σ' H'=>σ'=some xv :: gH cap σ∧H'=H8) from⟨rfl,rfl⟩)
      rw[eP,eW,eA,eE] at qa
      refine wpAny_mono qa (fun _ s9 h9=>?_) (Bx _)
      obtain⟨σ9,H9,I9,e9,e9'⟩:=h9
      subst e9 e9'
      have qt:=htY _ s9 _ _ _ I9 (step xv _ y8)
      rw[eP,eW,eA,eE] at qt
      refine wpAny_mono qt (fun ok s10 h10=>?_) (Bx _)
      obtain⟨H10,Zq,Q8⟩:=h10
      have back:∀{s':Shared}{H':Hp},Inv Y (([]++pH [D] s6.heap)++pH fp s7.heap) (some xv :: gH cap σ) H' s'→Inv Y [] (some xv :: gH cap σ) H' s'∧tn (i+1) s'.heap∧(∀b∈fp,H' b=none)∧H' D=none∧s'.heap.get? D=some {cls:=.type "list",data:=.seq us.toArray us.length}:=fun {s' H'} J=>by
        refine⟨J.mW.mW,Hz.keep _ _ _ TX fun b hb o e=>(J.pin (b,o) (List.mem_append_right _ (List.mem_append_right _ (iE hb e)))).1,fun b hb=>?_,?_,?_⟩
        · obtain⟨o,e,d⟩:=Hz.obj _ _ TX b hb
          exact(J.pin (b,o) (List.mem_append_right _ (List.mem_append_right _ (iE hb e)))).2.1
        · exact(J.pin (D,_) (List.mem_append_right _ (List.mem_append_left _ (List.mem_append_right _ (iE (List.mem_singleton.mpr rfl) a6))))).2.1
        · exact(J.pin (D,_) (List.mem_append_right _ (List.mem_append_left _ (List.mem_append_right _ (iE (List.mem_singleton.mpr rfl) a6))))).1
      cases ok with
      | false=>
        rw[if_neg (by decide)] at Q8 ⊢
        obtain⟨m',hm,w10⟩:=Q8
        obtain⟨b1,b2,b3,b4,b5⟩:=back Zq
        exact⟨m',hm,i+1,ys,us,H10,some xv,b1,b2,b3,b4,b5,v6,w10⟩
      | true=>
        rw[if_pos rfl] at Q8 ⊢
        have qe:=heY _ s10 _ _ _ Zq Q8
        rw[eP,eW,eA,eE] at qe
        refine wpAny_mono qe (fun y TY h11=>?_) (Bx _)
        obtain⟨yv,Zr,I11,r11,m',hm,w11⟩:=h11
        obtain⟨b1,b2,b3,b4,b5⟩:=back I11
        refine append_at (hsz:=by rw[List.size_toArray,hul];exact Nat.le_of_lt hz) b5 fun h12 TZ T5=>?_
        have Ll:∀b o,b≠D→TY.heap.get? b=some o→h12.get? b=some o:=fun b o hb e=>TZ.extBut b o hb e
        obtain⟨g0,g1,g2,g3,g4,g5⟩:=fD b4
        have I12:Inv Y [] (some xv :: gH cap σ) Zr {TY with heap:=h12}:=b1.turned (t':=TY.toks) Ll g0 g1 g3 g4 g5
        refine⟨m',hm,i+1,ys++[yv],us++[y],Zr,some xv,I12,Hz.keep _ _ _ b2 fun b hb o e=>Ll b o (fun z=>hDf (z▸hb)) e,b3,b4,T5.trans (congrArg some (Lk us y)),v6.append (.cons r11 .nil),w11⟩
  exact codeAny_compStart_list (key _ rfl) (Hz.self _ 0 _ _ _ Zo (key _ rfl))
theorem Fo {X:Cx}{elt iter:Expr}{ifs:List Expr}{x:Str}{px pos:Pos}{scope:Scope}{cl:List (Str×Addr)}{jW:List Str}{cap:List Nat}{wi:TI}{tc:TT}{te:TE}
  (T:qq X x jW cap scope cl) (hc:X.calm=true) (hi:PI X (.Name x px) iter wi)
  (ht:∀C s H fp,OB (kR X (x :: jW) scope cl C s H fp) ifs tc) (he:∀C s H fp,PE (kR X (x :: jW) scope cl C s H fp) elt te)
  (hs:∀x,foldedSetIterable iter X.env x=pure x:=by intro _;rfl):
  PE X (.ListComp elt [⟨.Name x px,iter,ifs,0⟩] scope pos) (TH wi cap tc te):=by
 intro pins s σ H Q I h
 rw[eval_ListComp]
 refine Bw T hc hi ht he hs I h ?_
 rintro p C s7 H6 ys I9 ⟨m7,Q7⟩ ⟨g0,g1,g2,g3,g4,g5⟩ q
 exact⟨m7,Q7,fun h' hs'=>⟨.ref p,_,I9.turned (t':=s7.toks) (fun b o hb e=>hs'.extBut b o hb e) g0 g1 g3 g4 g5,rfl,q⟩⟩
end L2
end
section
set_option Elab.async false
set_option linter.all false
set_option maxRecDepth 100000
namespace L2
open PySem PySem.Spec PyProof.Rows
noncomputable def T6 (z:Str):It:=⟨fun i _=>i < z.cps.size,fun i H x H'=>H'=H∧∃c,z.cps[i]? =some c∧x= .str ⟨#[c]⟩,fun i _=>z.cps.size≤i⟩
theorem Fp {P:Program}{w:World}{K:PySem.W.Frag}{x:Str}{px:Pos}(z:Str) (it:Addr) (t:Tok) (ty:String) (hW:∀A':Around,A'.handled=none→Walks P w A' it [it] [it] z.cps.size (SignAt z) fun i h=>h.IsStrIter it ty z t i)
  (hself:∀(A:Around) (i:Nat) (s:Shared) (Q:Value→Shared→Prop) (E:Value→Shared→Prop),s.heap.IsStrIter it ty z t i→Q (.ref it) s→wpAny (model P w) A (pyIter (.ref it)) Q E s):
  Turn P w K (.Name x px) (T6 z) [it] it (fun i h=>i≤z.cps.size∧h.IsStrIter it ty z t i) where
 mem:=by simp
 obj:=fun i h st b hb=>by
  obtain rfl:b=it:=by simpa using hb
  obtain⟨o,e,c,d⟩:=st.2
  exact⟨o,e,fun v q=>by rw[d] at q;cases q⟩
 keep:=fun i h h' st k=>by
  obtain⟨o,e,r⟩:=st.2
  exact⟨st.1,o,k it (by simp) o e,r⟩
 item:=by
  intro X hP hw hK hc i pins s σ H E I hf st hg
  subst hP hw hK
  obtain⟨f0,f1,f2,f3,f4,f5⟩:=hf it (by simp)
  refine(hW X.A (I.ok.hd hc)).item i s _ _ hg st.2 fun v h' tk hv st' kk=>?_
  obtain⟨c,u,hc',rfl⟩:=hv
  exact⟨_,rfl,wpAny_pure ⟨.str ⟨#[c]⟩,H,I.turned (fun b o hb e=>kk b o (by simpa using hb) e) f0 f1 f3 f4 f5,⟨u,rfl⟩,⟨rfl,c,hc',rfl⟩,⟨hg,st'⟩,fun b hb=>(hf b hb).1⟩⟩
 done:=by
  intro X hP hw hK hc i pins s σ H E I hf st hg
  subst hP hw hK
  obtain⟨f0,f1,f2,f3,f4,f5⟩:=hf it (by simp)
  obtain⟨s1,s2⟩:=st
  have e:i=z.cps.size:=Nat.le_antisymm s1 hg
  subst e
  exact(hW X.A (I.ok.hd hc)).done s _ _ s2 fun h' tk kk=>⟨rfl,I.turned (fun b o hb e=>kk b o (by simpa using hb) e) f0 f1 f3 f4 f5⟩
 self:=fun A i s Q E st h=>hself A i s Q E st.2 h
noncomputable def T7 (tl:TE):TI:=fun σ H R=>tl σ H fun x H1=>∃z,x= .str z∧R (T6 z) H1
theorem Lm {X:Cx}{x:Str}{px:Pos}{l:Expr}{tl:TE}(hl:PE X l tl):PI X (.Name x px) l (T7 tl):=by
 intro pins s σ H R I h
 refine d9 (hl pins s σ H _ I h) fun v s1 ⟨y,H1,I1,r1,q1⟩=>?_
 obtain⟨z,rfl,q⟩:=q1
 obtain⟨t,rfl⟩:=r1
 refine wpAny_pyIter_strU ?_
 have hst:∀ty,strIterType z=ty→(s1.heap.push {cls:=.type (strIterType z),data:=.fields #[.str z t,.int 0 0]}).IsStrIter s1.heap.objs.size ty z t 0:=fun ty e=>⟨_,Heap.get?_push_size _ rfl,by rw[←e],rfl⟩
 have go:∀ty,strIterType z=ty→(∀A':Around,A'.handled=none→Walks X.prog X.w A' s1.heap.objs.size [s1.heap.objs.size] [s1.heap.objs.size] z.cps.size (SignAt z) fun i h=>h.IsStrIter s1.heap.objs.size ty z t i)→
   (∀(A:Around) (i:Nat) (s:Shared) (Q:Value→Shared→Prop) (E:Value→Shared→Prop),s.heap.IsStrIter s1.heap.objs.size ty z t i→Q (.ref s1.heap.objs.size) s→wpAny (model X.prog X.w) A (pyIter (.ref s1.heap.objs.size)) Q E s)→
   Tc X pins σ (.Name x px) R (.ref s1.heap.objs.size) {s1 with heap:=s1.heap.push {cls:=.type (strIterType z),data:=.fields #[.str z t,.int 0 0]}}:=fun ty e hW hself=>by
  refine⟨s1.heap.objs.size,[s1.heap.objs.size],_,_,H1,rfl,I1.kept (t':=s1.toks) fun b o e=>Heap.get?_push_of_some _ e,Fp z _ t ty hW hself,⟨Nat.zero_le _,hst ty e⟩,fun b hb=>?_,q⟩
  obtain rfl:b=s1.heap.objs.size:=by simpa using hb
  exact I1.ES (Nat.le_refl _) (I1.hok.fresh (Nat.le_refl _))
 cases ha:z.cps.all (· < 128)
 ·exact go "str_iterator" (by simp[strIterType,ha]) (fun A' hA=>Walks.strWide hA _ z t) fun A i s Q E st h=>wpAny_pyIter_striter_wide st h
 ·exact go "str_ascii_iterator" (by simp[strIterType,ha]) (fun A' hA=>Walks.strAscii hA _ z t) fun A i s Q E st h=>wpAny_pyIter_striter_ascii st h
theorem Fq {bs:List Bool}:∀{us:List Value},Vals (bs.map V.bl) us→us=bs.map Value.bool:=by
 induction bs with
 | nil=>intro us r;cases r;rfl
 | cons b bs ih=>
  intro us r
  cases r with
  | cons r1 r2=>
   cases r1
   rw[ih r2]
   rfl
theorem By (bs:List Bool):((List.range bs.length).all fun i=>(bs[i]?).getD true)=bs.all id:=by
 rw[Bool.eq_iff_iff,List.all_eq_true,List.all_eq_true]
 constructor
 ·intro h b hb
  obtain⟨i,hi,rfl⟩:=List.mem_iff_getElem.mp hb
  have:=h i (List.mem_range.mpr hi)
  simpa[hi] using this
 ·intro h i hi
  have hi:=List.mem_range.mp hi
  simp only[List.getElem?_eq_getElem hi,Option.getD_some]
  exact h _ (List.getElem_mem hi)
theorem DF {X:Cx}(hc:X.calm=true):iu X (.builtin "all") (fun xs H Q=>∃(p:Addr) (bs:List Bool),xs=[.ref p]∧pG X.K H p (bs.map V.bl)∧Q (.bl (bs.all id)) H):=by
 intro pins s σ H xs us Q I r h
 obtain⟨p,bs,rfl,hp,q⟩:=h
 obtain⟨u,rfl,ru⟩:=vals1 r
 cases ru
 obtain⟨its,rv,pl,hz⟩:=I.list hp
 obtain rfl:=Fq rv
 have hlt:p < s.heap.objs.size:=by obtain⟨_,e,_⟩:=pl.isList;exact Heap.lt_size e
 refine call_all_walk (wpAny_pyIter_list pl.isList ?_)
 refine⟨s.heap.objs.size,[s.heap.objs.size,p],[s.heap.objs.size],_,_,_,fun i=>(bs[i]?).getD true,rfl,Walks.list (A:=X.A.in1) (I.ok.hd hc) _ p (Nat.ne_of_lt hlt) _,
  ⟨⟨_,Heap.get?_push_size _ rfl,rfl,rfl⟩,pl.isList.push _⟩,fun i v s' Q' E' hP hQ=>?_,fun h' tk hk=>?_⟩
 ·have hP:(bs.map Value.bool)[i]? =some v:=by simpa using hP
  rw[List.getElem?_map] at hP
  cases e:bs[i]? with
  | none=>rw[e] at hP;cases hP
  | some b=>
   rw[e] at hP
   cases hP
   simp only[e,Option.getD_some] at hQ
   exact wpAny_truthy_bool hQ
 ·have e:((List.range (bs.map Value.bool).toArray.size).all fun i=>(bs[i]?).getD true)=bs.all id:=by
   rw[List.size_toArray,List.length_map];exact By bs
  rw[e]
  exact⟨.bl (bs.all id),H,I.kept (t':=tk) fun b o e=>hk b o (fun hm=>by rw[List.mem_singleton.mp hm] at e;exact Nat.lt_irrefl _ (Heap.lt_size e)) (Heap.get?_push_of_some _ e),rfl,q⟩
noncomputable def T8:V→Option Int→Option Int→Hp→VK→Prop:=fun x lo hi H Q=>∃z,x= .str z∧z.length≤sizeLine∧((Txt.slice z lo hi).length≤z.length→Q (.str (Txt.slice z lo hi)) H)
theorem Ln {X:Cx}:Il X T8:=by
 intro pins s σ H x v vl vu lo hi sl Q I rx hs pl pu h
 obtain⟨z,rfl,hz,q⟩:=h
 obtain⟨t,rfl⟩:=rx
 have q:=q (Txt.slice_le z _ _)
 refine⟨"str",_,F.slot_str_getitem.lookup,typeIs_str _ _ _,?_⟩
 cases pl with
 | none=>
  cases pu with
  | none=>exact wpAny_getItem_str_slice (l:=none) (u:=none) (st:=none) hs rfl (post_val_or_str ⟨Nat.le_trans (Txt.slice_le z _ _) hz,fun t' k=>⟨V.str (Txt.slice z none none),H,I.tok k,⟨t',rfl⟩,q⟩⟩)
  | int j u=>exact wpAny_getItem_str_slice (l:=none) (u:=some (j,u)) (st:=none) hs rfl (post_val_or_str ⟨Nat.le_trans (Txt.slice_le z _ _) hz,fun t' k=>⟨V.str (Txt.slice z none (some j)),H,I.tok k,⟨t',rfl⟩,q⟩⟩)
 | int i u'=>
  cases pu with
  | none=>exact wpAny_getItem_str_slice (l:=some (i,u')) (u:=none) (st:=none) hs rfl (post_val_or_str ⟨Nat.le_trans (Txt.slice_le z _ _) hz,fun t' k=>⟨V.str (Txt.slice z (some i) none),H,I.tok k,⟨t',rfl⟩,q⟩⟩)
  | int j u=>exact wpAny_getItem_str_slice (l:=some (i,u')) (u:=some (j,u)) (st:=none) hs rfl (post_val_or_str ⟨Nat.le_trans (Txt.slice_le z _ _) hz,fun t' k=>⟨V.str (Txt.slice z (some i) (some j)),H,I.tok k,⟨t',rfl⟩,q⟩⟩)
end L2
end
section
set_option Elab.async false
set_option linter.all false
set_option maxRecDepth 100000
namespace L2
open PySem PySem.Spec PyProof.Rows
inductive D where
 | bZ | bl (b:Bool) | int (i:Int) | str (z:Str) | tup (ds:List D) | lst (ds:List D)
mutual
inductive Rep (H:Hp):V→D→Prop
 | bZ:Rep H .bZ .bZ
 | bl (b:Bool):Rep H (.bl b) (.bl b)
 | int (i:Int):Rep H (.int i) (.int i)
 | str (z:Str):Rep H (.str z) (.str z)
 | tup {a:Addr}{vs:List V}{ds:List D}(e:H a=some (.tup vs)) (r:bx H vs ds):Rep H (.ref a) (.tup ds)
 | lst {a:Addr}{vs:List V}{ds:List D}(e:H a=some (.lst vs)) (r:bx H vs ds):Rep H (.ref a) (.lst ds)
inductive bx (H:Hp):List V→List D→Prop
 | nil:bx H [] []
 | cons {v:V}{d:D}{vs:List V}{ds:List D}(r:Rep H v d) (rs:bx H vs ds):bx H (v :: vs) (d :: ds)
end
noncomputable def T9:HO→Bool
 | .lst _=>true
 | .tup _=>true
 | .jV _ _=>true
 | _=>false
noncomputable def wu (H H':Hp):Prop:=∀b o,T9 o=true→H b=some o→H' b=some o
theorem wu.refl (H:Hp):wu H H:=fun _ _ _ h=>h
theorem wu.trans {H H1 H2:Hp}(x:wu H H1) (y:wu H1 H2):wu H H2:=fun b o s h=>y b o s (x b o s h)
theorem wu.seq {K:PySem.W.Frag}{H H':Hp}{a:Addr}{xs:List V}(e:wu H H') (h:pG K H a xs):pG K H' a xs:=by
 rcases h with(h | ⟨o,h⟩) | h
 ·exact .inl (.inl (e _ _ rfl h))
 ·exact .inl (.inr ⟨o,e _ _ rfl h⟩)
 ·exact .inr h
theorem wu.of {H H':Hp}(x:uK H H'):wu H H':=fun b o _ h=>x b o h
theorem bx.length {H:Hp}:∀{vs:List V}{ds:List D},bx H vs ds→vs.length=ds.length
 | _,_,.nil=>rfl
 | _,_,.cons _ rs=>congrArg Nat.succ (bx.length rs)
theorem bx.get {H:Hp}:∀{vs:List V}{ds:List D}{i:Nat}{d:D},bx H vs ds→ds[i]? =some d→∃v,vs[i]? =some v∧Rep H v d
 | _,_,_,_,.nil,e=>by simp at e
 | _,_,0,_,.cons r _,e=>by simp at e;subst e;exact⟨_,rfl,r⟩
 | _,_,i+1,_,.cons _ rs,e=>by
  obtain⟨v,h1,h2⟩:=bx.get (i:=i) rs (by simpa using e)
  exact⟨v,by simpa using h1,h2⟩
theorem bx.append {H:Hp}:∀{vs ws:List V}{ds es:List D},bx H vs ds→bx H ws es→bx H (vs++ws) (ds++es)
 | _,_,_,_,.nil,s=>s
 | _,_,_,_,.cons r rs,s=>.cons r (bx.append rs s)
theorem bx.take {H:Hp}:∀{vs:List V}{ds:List D}(n:Nat),bx H vs ds→bx H (vs.take n) (ds.take n)
 | _,_,0,_=>.nil
 | _,_,_+1,.nil=>.nil
 | _,_,n+1,.cons r rs=>.cons r (bx.take n rs)
theorem bx.drop {H:Hp}:∀{vs:List V}{ds:List D}(n:Nat),bx H vs ds→bx H (vs.drop n) (ds.drop n)
 | _,_,0,rs=>rs
 | _,_,_+1,.nil=>.nil
 | _,_,n+1,.cons _ rs=>bx.drop n rs
noncomputable def JX:D→String
 | .bZ=>"NoneType" | .bl _=>"bool" | .int _=>"int" | .str _=>"str" | .tup _=>"tuple" | .lst _=>"list"
open PySem.W in
noncomputable def iQ (T U:String):Option Bool:=if(Value.type T == Value.type U)=true then some true else if kitMeta U=true then(fastBuiltinMro T).map (·.contains (Value.type U)) else none
theorem Rep.ty {K:PySem.W.Frag}{H:Hp}{v:V}{d:D}(r:Rep H v d):tY K H v (.type (JX d)):=by
 cases r with
 | bZ=>exact .bZ
 | bl b=>exact .bl b
 | int i=>exact .int i
 | str z=>exact .str z
 | tup e _=>exact .tup e
 | lst e _=>exact .lst e
noncomputable def Ft:D→Bool
 | .tup _=>true
 | _=>false
noncomputable def Fv:D→Bool
 | .lst _=>true
 | _=>false
noncomputable def pK:D→Bool
 | .str _=>true
 | _=>false
noncomputable def JY:D→Bool
 | .bl _=>true
 | _=>false
noncomputable def Fw:D→Bool
 | .int _=>true
 | .bl _=>true
 | _=>false
theorem Iu {K:PySem.W.Frag}(d:D):PySem.W.kitOne K (.type (JX d)) (.type "tuple")=some (Ft d):=by
 cases d with
 | bZ=>exact(show iQ "NoneType" "tuple" =some false by decide +kernel)
 | bl b=>exact(show iQ "bool" "tuple" =some false by decide +kernel)
 | int i=>exact(show iQ "int" "tuple" =some false by decide +kernel)
 | str z=>exact(show iQ "str" "tuple" =some false by decide +kernel)
 | tup ds=>exact(show iQ "tuple" "tuple" =some true by decide +kernel)
 | lst ds=>exact(show iQ "list" "tuple" =some false by decide +kernel)
theorem Iv {K:PySem.W.Frag}(d:D):PySem.W.kitOne K (.type (JX d)) (.type "list")=some (Fv d):=by
 cases d with
 | bZ=>exact(show iQ "NoneType" "list" =some false by decide +kernel)
 | bl b=>exact(show iQ "bool" "list" =some false by decide +kernel)
 | int i=>exact(show iQ "int" "list" =some false by decide +kernel)
 | str z=>exact(show iQ "str" "list" =some false by decide +kernel)
 | tup ds=>exact(show iQ "tuple" "list" =some false by decide +kernel)
 | lst ds=>exact(show iQ "list" "list" =some true by decide +kernel)
theorem Fx {K:PySem.W.Frag}(d:D):PySem.W.kitOne K (.type (JX d)) (.type "str")=some (pK d):=by
 cases d with
 | bZ=>exact(show iQ "NoneType" "str" =some false by decide +kernel)
 | bl b=>exact(show iQ "bool" "str" =some false by decide +kernel)
 | int i=>exact(show iQ "int" "str" =some false by decide +kernel)
 | str z=>exact(show iQ "str" "str" =some true by decide +kernel)
 | tup ds=>exact(show iQ "tuple" "str" =some false by decide +kernel)
 | lst ds=>exact(show iQ "list" "str" =some false by decide +kernel)
theorem Lo {K:PySem.W.Frag}(d:D):PySem.W.kitOne K (.type (JX d)) (.type "bool")=some (JY d):=by
 cases d with
 | bZ=>exact(show iQ "NoneType" "bool" =some false by decide +kernel)
 | bl b=>exact(show iQ "bool" "bool" =some true by decide +kernel)
 | int i=>exact(show iQ "int" "bool" =some false by decide +kernel)
 | str z=>exact(show iQ "str" "bool" =some false by decide +kernel)
 | tup ds=>exact(show iQ "tuple" "bool" =some false by decide +kernel)
 | lst ds=>exact(show iQ "list" "bool" =some false by decide +kernel)
theorem Iw {K:PySem.W.Frag}(d:D):PySem.W.kitOne K (.type (JX d)) (.type "int")=some (Fw d):=by
 cases d with
 | bZ=>exact(show iQ "NoneType" "int" =some false by decide +kernel)
 | bl b=>exact(show iQ "bool" "int" =some true by decide +kernel)
 | int i=>exact(show iQ "int" "int" =some true by decide +kernel)
 | str z=>exact(show iQ "str" "int" =some false by decide +kernel)
 | tup ds=>exact(show iQ "tuple" "int" =some false by decide +kernel)
 | lst ds=>exact(show iQ "list" "int" =some false by decide +kernel)
end L2
end
section
set_option Elab.async false
set_option linter.all false
set_option maxRecDepth 100000
namespace HT
open PySem PySem.Spec PyProof.Rows
section
variable {prog:Program}{w:World}{A:Around}{E:Value→Shared→Prop}{s:Shared}
theorem DG {t sl:Addr}{items:Array Value}{vl vu:Value}{lo hi:Option Int}{Q:Value→Shared→Prop}(ht:IsTup s.heap t items) (hs:s.heap.IsSliceOf sl vl vu .none) (pl:IsPart vl lo) (pu:IsPart vu hi)
  (hw:gY items.size 0 lo=0∧gY items.size items.size hi=items.size) (h:Q (.ref t) s):wpAny (model prog w) A (getItem (.ref t) (.ref sl)) Q E s:=by
 obtain⟨os,hos,hcs,hds⟩:=id hs
 have Tt:s.TypeIs (.ref sl) "slice":=⟨os,hos,hcs⟩
 unfold getItem
 try with_reducible refine wpAny_holding ?_
 first | refine wpAny_bind (wpAny_pure ?_) | skip
 refine wpAny_bind (wpAny_sequenceKey ht.typeIs (by decide) ?_)
 refine wpAny_bind (wpAny_callSpecial?_slot (name:=Str.ofString "__getitem__") ht.typeIs PyProof.Rows.slot_tuple_getitem
  (wpAny_call_entry PyProof.Rows.slot_tuple_getitem ht.typeIs entry_tuple_getitem ?_ (args_tuple_getitem _ _)))
 show wpAny _ _ (Builtin.Tuple.tupleItemsOf (.ref t) >>= _) _ _ s
 refine wpAny_bind (tupleItemsOf_ ht ?_)
 refine wpAny_bind (wpAny_typeOf Tt ?_)
 rw[if_pos (by decide)]
 refine wpAny_bind (lD hs pl pu ?_)
 have hyes:(((gY items.size 0 lo:Nat):Int) == 0 && (1:Int) == 1 && (gY items.size items.size hi - gY items.size 0 lo) == items.size)=true:=by
  rw[hw.1,hw.2];simp
 show wpAny _ _ (if(((gY items.size 0 lo:Nat):Int) == 0 && (1:Int) == 1 && (gY items.size items.size hi - gY items.size 0 lo) == items.size)=true then _ else _) _ _ s
 rw[if_pos hyes]
 have hex:∀{α:Type}{k:Bool→Sem α}{Q':α→Shared→Prop}{E':Value→Shared→Prop}{A':Around},wpAny (model prog w) A' (k true) Q' E' s→wpAny (model prog w) A' (Builtin.Tuple.tupleIsExact (.ref t) >>= k) Q' E' s:=fun {α k Q' E' A'} hk=>by
  refine wpAny_bind ?_
  unfold Builtin.Tuple.tupleIsExact
  exact wpAny_bind (wpAny_typeOf ht.typeIs (wpAny_pure hk))
 first
  | (refine hex ?_;exact wpAny_rule (wpAny_pure ⟨_,rfl,wpAny_pure h⟩))
  | (refine hex ?_;refine wpAny_bind (wpAny_rule ?_);exact wpAny_pure ⟨_,rfl,wpAny_pure h⟩)
end
end HT
end
section
set_option Elab.async false
set_option linter.all false
set_option maxRecDepth 100000
namespace L2
open PySem PySem.Spec PyProof.Rows
section
variable {X:Cx}
theorem Rep.pB {H:Hp}{v:V}{ds:List D}(r:Rep H v (.tup ds)):∃a vs,v= .ref a∧H a=some (.tup vs)∧bx H vs ds:=by
 cases r with
 | tup e rs=>exact⟨_,_,rfl,e,rs⟩
theorem Rep.lE {H:Hp}{v:V}{ds:List D}(r:Rep H v (.lst ds)):∃a vs,v= .ref a∧H a=some (.lst vs)∧bx H vs ds:=by
 cases r with
 | lst e rs=>exact⟨_,_,rfl,e,rs⟩
noncomputable def cutD (ds:List D) (lo hi:Option Int):List D:=(ds.drop (HT.gY ds.length 0 lo)).take (HT.gY ds.length ds.length hi - HT.gY ds.length 0 lo)
theorem bx.iS {H:Hp}{vs:List V}{ds:List D}{i:Int}{d:D}(r:bx H vs ds) (h:L2.iS ds i=some d):∃v,L2.iS vs i=some v∧Rep H v d:=by
 have hl:=r.length
 unfold L2.iS at h ⊢
 rw[hl]
 cases e:Dy ds.length i with
 | none=>rw[e] at h;cases h
 | some j=>
  rw[e] at h
  exact r.get h
end
end L2
end
section
set_option Elab.async false
set_option linter.all false
set_option maxRecDepth 100000
namespace L2
open PySem PySem.Spec PyProof.Rows
theorem zY {scope:Scope}{env:Env}{n:Str}{k:NameKind}(h:(relabel scope env).names.lookup n=some k):(n,k)∈(relabel scope env).names:=PySem.mem_of_lookup h
theorem pL {X:Cx}{x:Str}{scope:Scope}(h1:∀y∈scope.names,y.2≠.free) (h2:∀y∈scope.names,y.2≠.cell) (h3:scope.kind= .function) (h4:∀y∈scope.names,y.2= .local→scope.names.lookup y.1=some .local) (h5:scope.names.lookup x=some .local):
  qq X x [] [] scope []:=by
 refine⟨closureFor_none h1,h2,h3,h4,h5,fun n c h=>(by cases h),fun n h=>?_,by simp,rfl,fun j n h=>(by simp at h),fun n h=>(by simp at h)⟩
 have no:∀k,(k=NameKind.cell∨k=NameKind.free)→(relabel scope X.env).names.lookup n≠some k:=fun k hk e=>by
  have m:=zY e
  unfold relabel at m
  obtain⟨⟨n',k'⟩,hm,q⟩:=List.mem_map.mp m
  have z:(k' == NameKind.free)=false:=by simpa using h1 _ hm
  simp only[z,Bool.false_and,if_false] at q
  have q2:k'=k:=by
   have:=congrArg Prod.snd q
   simpa using this
  rcases hk with rfl | rfl
  ·exact h2 _ hm q2
  ·exact h1 _ hm q2
 rcases h with h | h
 ·exact absurd h (no _ (.inl rfl))
 ·exact absurd h (no _ (.inr rfl))
mutual
noncomputable def wz (n:Nat):D→Prop
 | .str z=>z.length≤n
 | .tup ds=>ds.length≤n∧Fits n ds
 | .lst ds=>ds.length≤n∧Fits n ds
 | .bZ=>True
 | .bl _=>True
 | .int _=>True
noncomputable def Fits (n:Nat):List D→Prop
 | []=>True
 | d :: ds=>wz n d∧Fits n ds
end
mutual
theorem wz.mono {n m:Nat}(l:n≤m):∀{d:D},wz n d→wz m d
 | .str _,h=>Nat.le_trans h l
 | .tup _,h=>⟨Nat.le_trans h.1 l,Fits.mono l h.2⟩
 | .lst _,h=>⟨Nat.le_trans h.1 l,Fits.mono l h.2⟩
 | .bZ,_=>True.intro
 | .bl _,_=>True.intro
 | .int _,_=>True.intro
theorem Fits.mono {n m:Nat}(l:n≤m):∀{ds:List D},Fits n ds→Fits m ds
 | [],_=>True.intro
 | _ :: _,h=>⟨wz.mono l h.1,Fits.mono l h.2⟩
end
theorem Fits.append {n:Nat}:∀{ds es:List D},Fits n ds→Fits n es→Fits n (ds++es)
 | [],_,_,h=>h
 | _ :: _,_,h,k=>⟨h.1,Fits.append h.2 k⟩
theorem Fits.take {n:Nat}:∀{ds:List D}(k:Nat),Fits n ds→Fits n (ds.take k)
 | _,0,_=>True.intro
 | [],_+1,_=>True.intro
 | _ :: _,k+1,h=>⟨h.1,Fits.take k h.2⟩
theorem Fits.drop {n:Nat}:∀{ds:List D}(k:Nat),Fits n ds→Fits n (ds.drop k)
 | _,0,h=>h
 | [],_+1,_=>True.intro
 | _ :: _,k+1,h=>Fits.drop k h.2
theorem Fits.get {n:Nat}:∀{ds:List D}{i:Nat}{d:D},Fits n ds→ds[i]? =some d→wz n d
 | [],_,_,_,e=>by simp at e
 | _ :: _,0,_,h,e=>by simp at e;subst e;exact h.1
 | _ :: _,i+1,_,h,e=>Fits.get (i:=i) h.2 (by simpa using e)
theorem Fits.cut {n:Nat}{ds:List D}(h:Fits n ds) (lo hi:Option Int):Fits n (cutD ds lo hi):=(h.drop _).take _
noncomputable def kg (d:D) (l m:Int):Bool:=match d with
 | .int i=>decide (l≤i) && decide (i≤m)
 | _=>false
end L2
end
section
set_option Elab.async false
set_option linter.all false
set_option maxRecDepth 100000
namespace L2
open PySem PySem.Spec PyProof.Rows
end L2
end
section
set_option Elab.async false
set_option linter.all false
set_option maxRecDepth 100000
namespace L2
open PySem PySem.Spec PyProof.Rows
end L2
end
section
set_option Elab.async false
set_option linter.all false
set_option maxRecDepth 100000
namespace L2
open PySem PySem.Spec PyProof.Rows
mutual
noncomputable def toPy:D→PyData
 | .bZ=>.none
 | .bl b=>.bool b
 | .int i=>.int i
 | .str z=>.str z
 | .tup ds=>.tuple (iA ds)
 | .lst ds=>.list (iA ds)
noncomputable def iA:List D→List PyData
 | []=>[]
 | d :: ds=>toPy d :: iA ds
end
section
variable {X:Cx}{pins:List (Addr×Obj)}{σ:St}{H:Hp}{s:Shared}
end
mutual
theorem tu:∀d:D,(toPy d).hasDict=false
 | .bZ=>rfl
 | .bl _=>rfl
 | .int _=>rfl
 | .str _=>rfl
 | .tup ds=>lV ds
 | .lst ds=>lV ds
theorem lV:∀ds:List D,PyData.hasDictAll (iA ds)=false
 | []=>rfl
 | d :: ds=>by
  show((toPy d).hasDict || PyData.hasDictAll (iA ds))=false
  rw[tu d,lV ds]
  rfl
end
end L2
end
section
set_option Elab.async false
set_option linter.all false
set_option maxRecDepth 100000
namespace L2
open PySem PySem.Spec PyProof.Rows
inductive MO where
 | lst (ds:List D)
 | dct (kvs:List (Key×D))
 | xB (kvs:List (List Key×D))
 | ins (C:Addr) (kvs:List (Str×D))
inductive U where
 | t (d:D) | m (o:MO) | b (o:MO) | v (i:Nat) | s (ns:List Int) | f (a:Addr)
noncomputable abbrev SS:=List (Option U)
noncomputable def Sub (F H:Hp):Prop:=∀a o,F a=some o→H a=some o
noncomputable def fL {κ:Type}(F:Hp) (p:κ×V) (q:κ×D):Prop:=p.1=q.1∧Rep F p.2 q.2
noncomputable def At (F H:Hp) (a:Addr):MO→Prop
 | .lst ds=>∃vs,H a=some (.lst vs)∧bx F vs ds
 | .dct kvs=>∃ws,H a=some (.dK ws)∧Paired (fL F) ws kvs
 | .xB kvs=>∃ws,H a=some (.dT ws)∧Paired (fL F) ws kvs
 | .ins C kvs=>∃ws,(∃dx,H a=some (.ins C dx ws))∧Paired (fL F) ws kvs
noncomputable def gg:U→Bool
 | .m _=>true
 | .b _=>true
 | _=>false
noncomputable def dB (S:SS) (σ:St) (a:Addr):Prop:=∃(i:Nat) (u:U),S[i]? =some (some u)∧gg u=true∧σ[i]? =some (some (.ref a))
noncomputable def Iz (K:PySem.W.Frag) (H:Hp) (a:Addr) (ns:List Int):Prop:=
 (∃o,H a=some (.jV o (.lst (ns.map V.int))))∨∃(o:Obj) (its:Array Value) (n:Nat),K.lookup a=some o∧o.cls= .type "list"∧o.dict=none∧o.data= .seq its n∧its.size≤sizeLine∧Vals (ns.map V.int) its.toList
theorem Iz.sq {K:PySem.W.Frag}{H:Hp}{a:Addr}{ns:List Int}:Iz K H a ns→pG K H a (ns.map V.int)
 | .inl h=>.inl (.inr h)
 | .inr h=>.inr h
noncomputable def wA (K:PySem.W.Frag) (F H:Hp) (v:V):U→Prop
 | .t d=>Rep F v d
 | .m o=>∃a,v= .ref a∧F a=none∧At F H a o
 | .b o=>∃a,v= .ref a∧F a=none∧At F H a o
 | .v _=>False
 | .s ns=>∃a,v= .ref a∧Iz K H a ns
 | .f a=>v= .ref a
structure Ext (M:Addr→Prop) (F H F' H':Hp):Prop where
 le:∀b o,F b=some o→F' b=some o
 keep:∀b o,H b=some o→¬M b→H' b=some o
 jR:∀b o,H b=some o→¬M b→F b=none→F' b=none
 there:∀b o,H b=some o→∃o',H' b=some o'
 jV:∀b o u,H b=some (.jV o u)→H' b=some (.jV o u)
structure Base where
 P:List (Option Addr)
 F:Hp
 H:Hp
noncomputable def Base.M (B:Base) (a:Addr):Prop:=some a∈B.P
structure Rel (K:PySem.W.Frag) (B:Base) (S:SS) (σ:St) (F H:Hp):Prop where
 sub:Sub F H
 len:S.length=σ.length
 rep:∀(i:Nat) u,S[i]? =some (some u)→∃v,σ[i]? =some (some v)∧wA K F H v u
 CJ:∀(i j:Nat) u w a,S[i]? =some (some u)→gg u=true→S[j]? =some (some w)→gg w=true→σ[i]? =some (some (.ref a))→σ[j]? =some (some (.ref a))→i=j
 own:∀(i:Nat) o a,S[i]? =some (some (.m o))→σ[i]? =some (some (.ref a))→B.H a=none
 bor:∀(i:Nat) o a,S[i]? =some (some (.b o))→σ[i]? =some (some (.ref a))→B.M a
 par:∀(i:Nat) a,B.P[i]? =some (some a)→σ[i]? =some (some (.ref a))∧∃o,S[i]? =some (some (.b o))
 ext:Ext B.M B.F B.H F H
structure Step (S S':SS) (σ:St) (F H F' H':Hp):Prop where
 ext:Ext (dB S σ) F H F' H'
 mu:∀a,dB S' σ a→dB S σ a
 slots:∀(i:Nat) u,S[i]? =some (some u)→∃u',S'[i]? =some (some u')
theorem Ext.refl (M:Addr→Prop) (F H:Hp):Ext M F H F H:=⟨fun _ _ h=>h,fun _ _ h _=>h,fun _ _ _ _ h=>h,fun _ o h=>⟨o,h⟩,fun _ _ _ h=>h⟩
theorem Ext.trans {M M':Addr→Prop}{F H F1 H1 F2 H2:Hp}(x:Ext M F H F1 H1) (y:Ext M' F1 H1 F2 H2) (s:∀b,M' b→M b∨H b=none):Ext M F H F2 H2 where
 le:=fun b o h=>y.le b o (x.le b o h)
 keep:=fun b o h n=>y.keep b o (x.keep b o h n) fun q=>(s b q).elim n fun z=>by rw[h] at z;cases z
 jR:=fun b o h n f=>y.jR b o (x.keep b o h n) (fun q=>(s b q).elim n fun z=>by rw[h] at z;cases z) (x.jR b o h n f)
 there:=fun b o h=>let⟨o',h'⟩:=x.there b o h;y.there b o' h'
 jV:=fun b o u h=>y.jV b o u (x.jV b o u h)
theorem Step.refl (S:SS) (σ:St) (F H:Hp):Step S S σ F H F H:=⟨Ext.refl _ _ _,fun _ h=>h,fun _ u h=>⟨u,h⟩⟩
theorem Step.trans {S S1 S2:SS}{σ:St}{F H F1 H1 F2 H2:Hp}(x:Step S S1 σ F H F1 H1) (y:Step S1 S2 σ F1 H1 F2 H2):Step S S2 σ F H F2 H2:=
 ⟨x.ext.trans y.ext fun b q=>.inl (x.mu b q),fun a q=>x.mu a (y.mu a q),fun i u h=>let⟨u',h'⟩:=x.slots i u h;y.slots i u' h'⟩
mutual
theorem Rep.le {F F':Hp}(g:∀b o,F b=some o→F' b=some o):∀{v:V}{d:D},Rep F v d→Rep F' v d
 | _,_,.bZ=>.bZ
 | _,_,.bl b=>.bl b
 | _,_,.int i=>.int i
 | _,_,.str z=>.str z
 | _,_,.tup e r=>.tup (g _ _ e) (bx.le g r)
 | _,_,.lst e r=>.lst (g _ _ e) (bx.le g r)
theorem bx.le {F F':Hp}(g:∀b o,F b=some o→F' b=some o):∀{vs:List V}{ds:List D},bx F vs ds→bx F' vs ds
 | _,_,.nil=>.nil
 | _,_,.cons r rs=>.cons (Rep.le g r) (bx.le g rs)
end
theorem uL {κ:Type}{F F':Hp}(g:∀b o,F b=some o→F' b=some o){ws:List (κ×V)}{kvs:List (κ×D)}(r:Paired (fL F) ws kvs):Paired (fL F') ws kvs:=
 Paired.De r fun _ _ z=>⟨z.1,z.2.le g⟩
theorem At.le {F F' H H':Hp}{a:Addr}(g:∀b o,F b=some o→F' b=some o) (k:∀o,H a=some o→H' a=some o):∀{o:MO},At F H a o→At F' H' a o
 | .lst _,⟨vs,e,r⟩=>⟨vs,k _ e,r.le g⟩
 | .dct _,⟨ws,e,r⟩=>⟨ws,k _ e,uL g r⟩
 | .xB _,⟨ws,e,r⟩=>⟨ws,k _ e,uL g r⟩
 | .ins _ _,⟨ws,⟨dx,e⟩,r⟩=>⟨ws,⟨dx,k _ e⟩,uL g r⟩
theorem At.has {F H:Hp}{a:Addr}:∀{o:MO},At F H a o→∃u,H a=some u
 | .lst _,⟨_,e,_⟩=>⟨_,e⟩
 | .dct _,⟨_,e,_⟩=>⟨_,e⟩
 | .xB _,⟨_,e,_⟩=>⟨_,e⟩
 | .ins _ _,⟨_,⟨_,e⟩,_⟩=>⟨_,e⟩
noncomputable def iB (K:PySem.W.Frag) (B:Base) (S:SS) (σ:St) (H0 F H:Hp) (v:V):U→Prop
 | .t d=>Rep F v d
 | .m o=>∃a,v= .ref a∧H0 a=none∧F a=none∧At F H a o∧¬dB S σ a∧B.H a=none
 | .v i=>σ[i]? =some (some v)∧∃u,S[i]? =some (some u)
 | .b _=>False
 | .s ns=>∃a,v= .ref a∧Iz K H a ns
 | .f a=>v= .ref a
theorem PE.imp {X:Cx}{e:Expr}{t t':TE}(h:PE X e t) (k:∀σ H Q,t' σ H Q→t σ H Q):PE X e t':=fun pins s σ H Q I q=>h pins s σ H Q I (k σ H Q q)
theorem PT.imp {X:Cx}{e:Expr}{t t':TT}(h:PT X e t) (k:∀σ H Q,t' σ H Q→t σ H Q):PT X e t':=fun pins s σ H Q I q=>h pins s σ H Q I (k σ H Q q)
theorem PW.imp {X:Cx}{e:Expr}{t t':TT}(h:PW X e t) (k:∀σ H Q,t' σ H Q→t σ H Q):PW X e t':=fun w pins s σ H Q I q=>h w pins s σ H Q I (k σ H Q q)
theorem PA.imp {X:Cx}{e:List Expr}{t t':TA}(h:PA X e t) (k:∀σ H Q,t' σ H Q→t σ H Q):PA X e t':=fun p pins s σ H Q I q=>h p pins s σ H Q I (k σ H Q q)
theorem PS.imp {X:Cx}{e:Stmt}{t t':TS}(h:PS X e t) (k:∀D σ H,t' D σ H→t D σ H):PS X e t':=fun pins s σ H Q I q=>h pins s σ H Q I (k Q σ H q)
theorem Be.imp {X:Cx}{e:List Stmt}{t t':TS}(h:Be X e t) (k:∀D σ H,t' D σ H→t D σ H):Be X e t':=fun pins s σ H Q I q=>h pins s σ H Q I (k Q σ H q)
theorem PE.orelse {X:Cx}{e:Expr}{t:TE}(h:∀σ H Q,t σ H Q→∃t',PE X e t'∧t' σ H Q):PE X e t:=fun pins s σ H Q I q=>let⟨_,h1,h2⟩:=h σ H Q q;h1 pins s σ H Q I h2
theorem PS.orelse {X:Cx}{e:Stmt}{t:TS}(h:∀D σ H,t D σ H→∃t',PS X e t'∧t' D σ H):PS X e t:=fun pins s σ H Q I q=>let⟨_,h1,h2⟩:=h Q σ H q;h1 pins s σ H Q I h2
noncomputable abbrev GE:=SS→Option (U×SS)
noncomputable abbrev GD:=SS→Option (D×SS)
noncomputable abbrev GT:=SS→Option (Bool×SS)
noncomputable abbrev GA:=SS→Option (List D×SS)
inductive Out where
 | nx (S:SS) | rt (u:U) (S:SS) | bk (S:SS) | ct (S:SS)
noncomputable abbrev GS:=SS→Option Out
noncomputable def tE (K:PySem.W.Frag) (B:Base) (g:GE):TE:=fun σ H Q=>∃S F u S',Rel K B S σ F H∧g S=some (u,S')∧∀v F' H',Rel K B S' σ F' H'→Step S S' σ F H F' H'→iB K B S' σ H F' H' v u→Q v H'
noncomputable def tD (K:PySem.W.Frag) (B:Base) (g:GD):TE:=fun σ H Q=>∃S F d S',Rel K B S σ F H∧g S=some (d,S')∧∀v F' H',Rel K B S' σ F' H'→Step S S' σ F H F' H'→Rep F' v d→Q v H'
noncomputable def tQ (K:PySem.W.Frag) (B:Base) (g:GT):TT:=fun σ H Q=>∃S F b S',Rel K B S σ F H∧g S=some (b,S')∧∀F' H',Rel K B S' σ F' H'→Step S S' σ F H F' H'→Q b H'
noncomputable def Zs (K:PySem.W.Frag) (B:Base) (g:GA):TA:=fun σ H Q=>∃S F ds S',Rel K B S σ F H∧g S=some (ds,S')∧∀vs F' H',Rel K B S' σ F' H'→Step S S' σ F H F' H'→bx F' vs ds→Q vs H'
noncomputable def CK (K:PySem.W.Frag) (B:Base) (F:Hp) (D:Ends):Out→Prop
 | .nx S=>∀σ' F' H',Rel K B S σ' F' H'→(∀b o,F b=some o→F' b=some o)→D.nx σ' H'
 | .bk S=>∀σ' F' H',Rel K B S σ' F' H'→(∀b o,F b=some o→F' b=some o)→D.bk σ' H'
 | .ct S=>∀σ' F' H',Rel K B S σ' F' H'→(∀b o,F b=some o→F' b=some o)→D.ct σ' H'
 | .rt u S=>∀v σ' F' H',Rel K B S σ' F' H'→(∀b o,F b=some o→F' b=some o)→iB K B S σ' B.H F' H' v u→D.rt v H'
noncomputable def tO (K:PySem.W.Frag) (B:Base) (g:GS):TS:=fun D σ H=>∃S F o,Rel K B S σ F H∧g S=some o∧CK K B F D o
structure JE (X:Cx) (e:Expr) (g:GE):Prop where
 h:∀B,PE X e (tE X.K B g)
structure JD (X:Cx) (e:Expr) (g:GD):Prop where
 h:∀B,PE X e (tD X.K B g)
structure JT (X:Cx) (e:Expr) (g:GT):Prop where
 h:∀B,PT X e (tQ X.K B g)
structure JW (X:Cx) (e:Expr) (g:GT):Prop where
 h:∀B,PW X e (tQ X.K B g)
structure JA (X:Cx) (es:List Expr) (g:GA):Prop where
 h:∀B,PA X es (Zs X.K B g)
structure JS (X:Cx) (st:Stmt) (g:GS):Prop where
 h:∀B,PS X st (tO X.K B g)
structure JB (X:Cx) (st:List Stmt) (g:GS):Prop where
 h:∀B,Be X st (tO X.K B g)
noncomputable def fz:U→SS→Option (D×SS)
 | .t d,S=>some (d,S)
 | .m (.lst ds),S=>some (.lst ds,S)
 | .v i,S=>match S[i]? with
  | some (some (.t d))=>some (d,S)
  | some (some (.m (.lst ds)))=>some (.lst ds,S.set i (some (.t (.lst ds))))
  | _=>none
 | _,_=>none
theorem get_set {α:Type}{l:List α}{i j:Nat}{x y:α}(h:(l.set i x)[j]? =some y):(i=j∧x=y∧i < l.length)∨(i≠j∧l[j]? =some y):=by
 by_cases e:i=j
 ·subst e
  by_cases hl:i < l.length
  ·rw[List.getElem?_set_self hl] at h;exact .inl ⟨rfl,Option.some.inj h,hl⟩
  ·rw[List.getElem?_eq_none (by simpa using hl)] at h;cases h
 ·rw[List.getElem?_set_ne e] at h;exact .inr ⟨e,h⟩
theorem Sub.jV {F H:Hp}{a:Addr}{o:HO}(s:Sub F H) (h:H a=some o):Sub (upd F a o) H:=fun b u e=>by
 by_cases hb:b=a
 ·subst hb;rw[aW] at e;cases e;exact h
 ·rw[aP hb] at e;exact s b u e
theorem Sub.fresh {F H:Hp}{p:Addr}(s:Sub F H) (h:H p=Option.none):F p=Option.none:=by
 cases e:F p with
 | none=>rfl
 | some o=>have q:=s p o e;rw[h] at q;cases q
theorem rT {F:Hp}{a:Addr}{o:HO}(h:F a=none):∀b u,F b=some u→upd F a o b=some u:=fun b u e=>by rw[aP (bH e h)];exact e
theorem Iz.le {K:PySem.W.Frag}{H H':Hp}{a:Addr}{ns:List Int}(k:∀b o u,H b=some (.jV o u)→H' b=some (.jV o u)):Iz K H a ns→Iz K H' a ns
 | .inl ⟨o,h⟩=>.inl ⟨o,k _ _ _ h⟩
 | .inr h=>.inr h
theorem wA.le {K:PySem.W.Frag}{F F' H H':Hp}{v:V}(g:∀b o,F b=some o→F' b=some o) (kf:∀b o u,H b=some (.jV o u)→H' b=some (.jV o u)):∀{u:U},wA K F H v u→(∀a,gg u=true→v= .ref a→(∀o,H a=some o→H' a=some o)∧F' a=none)→wA K F' H' v u
 | .t _,h,_=>Rep.le g h
 | .m _,⟨a,e,_,h⟩,k=>let⟨k1,k2⟩:=k a rfl e;⟨a,e,k2,h.le g k1⟩
 | .b _,⟨a,e,_,h⟩,k=>let⟨k1,k2⟩:=k a rfl e;⟨a,e,k2,h.le g k1⟩
 | .v _,h,_=>h
 | .s _,⟨a,e,h⟩,_=>⟨a,e,h.le kf⟩
 | .f _,h,_=>h
theorem Fy {K : PySem.W.Frag} {B : Base} {S S' : SS} {σ : St} {H0 F0 F H : Hp} {v : V} {u : U} {d : D} {S0 : SS} (R : Rel K B S σ F H) (st : Step S0 S σ F0 H0 F H) (r : iB K B S σ H0 F H v u) (e : fz u S = some (d, S')) :
    ∃F',Rel K B S' σ F' H∧Step S0 S' σ F0 H0 F' H∧Rep F' v d:=by
  cases u with
  | t d'=>cases e;exact⟨F,R,st,r⟩
  | b o=>cases r
  | s o=>cases e
  | f o=>cases e
  | m o =>
    cases o with
    | dct kvs=>cases e
    | xB kvs=>cases e
    | ins C kvs=>cases e
    | lst ds=>
      cases e
      obtain⟨a,rfl,h0,hf,⟨vs,ha,rs⟩,nm,hB⟩:=r
      have g:=rT (o:=.lst vs) hf
      refine⟨upd F a (.lst vs),⟨R.sub.jV ha,R.len,fun i u h=>?_,R.CJ,R.own,R.bor,R.par,?_⟩,⟨⟨fun b o h=>g b o (st.ext.le b o h),st.ext.keep,fun b o h n f=>?_,st.ext.there,st.ext.jV⟩,st.mu,st.slots⟩,.lst aW (rs.le g)⟩
      · obtain⟨w,h1,h2⟩:=R.rep i u h
        refine⟨w,h1,h2.le g (fun _ _ _ z=>z) fun c hm hc=>⟨fun o q=>q,?_⟩⟩
        have hca:c≠a:=fun z=>nm ⟨i,u,h,hm,by rw[h1,hc,z]⟩
        rw[aP hca]
        cases u with
        | m o=>obtain⟨c',e',f',_⟩:=h2;rw[hc] at e';cases e';exact f'
        | b o=>obtain⟨c',e',f',_⟩:=h2;rw[hc] at e';cases e';exact f'
        | t d=>cases hm
        | v j=>cases hm
        | s j=>cases hm
        | f j=>cases hm
      · exact⟨fun b o h=>g b o (R.ext.le b o h),R.ext.keep,fun b o h n f=>by rw[aP (fun z=>by rw[z,hB] at h;cases h)];exact R.ext.jR b o h n f,R.ext.there,R.ext.jV⟩
      · rw[aP (fun z=>by rw[z,h0] at h;cases h)]
        exact st.ext.jR b o h n f
  | v i =>
    obtain⟨hv,u,hu⟩:=r
    unfold fz at e
    simp only[hu] at e
    cases u with
    | t d'=>
      cases e
      obtain⟨w,h1,h2⟩:=R.rep i _ hu
      rw[hv] at h1
      cases h1
      exact⟨F,R,st,h2⟩
    | b o=>cases e
    | v j=>cases e
    | s j=>cases e
    | f j=>cases e
    | m o =>
      cases o with
      | dct kvs=>cases e
      | xB kvs=>cases e
      | ins C kvs=>cases e
      | lst ds =>
        cases e
        obtain⟨w,h1,a,rfl,hf,⟨vs,ha,rs⟩⟩:=R.rep i _ hu
        have hiv:σ[i]? =some (some (.ref a)):=h1
        rw[hv] at h1
        cases h1
        have hB:=R.own i _ a hu hiv
        have g:=rT (o:=.lst vs) hf
        have back:∀j w,(S.set i (some (.t (.lst ds))))[j]? =some (some w)→gg w=true→i≠j∧S[j]? =some (some w):=fun j w h hm=>by
          rcases get_set h with⟨_,q,_⟩ | q
          · cases q;cases hm
          · exact q
        have mu:∀c,dB (S.set i (some (.t (.lst ds)))) σ c→dB S σ c:=fun c ⟨j,w,h,hm,z⟩=>⟨j,w,(back j w h hm).2,hm,z⟩
        refine⟨upd F a (.lst vs),⟨R.sub.jV ha,by rw[List.length_set];exact R.len,fun j u h=>?_,fun j k u w c h1 m1 h2 m2=>R.CJ j k u w c (back j u h1 m1).2 m1 (back k w h2 m2).2 m2,fun j o c h=>R.own j o c (back j _ h rfl).2,fun j o c h=>R.bor j o c (back j _ h rfl).2,fun j c h=>?_,?_⟩,
          ⟨⟨fun b o h=>g b o (st.ext.le b o h),st.ext.keep,fun b o h n f=>?_,st.ext.there,st.ext.jV⟩,fun c q=>st.mu c (mu c q),fun j u h=>?_⟩,.lst aW (rs.le g)⟩
        · rcases get_set h with⟨rfl,q,_⟩ | ⟨ne,q⟩
          · cases q
            exact⟨.ref a,hiv,.lst aW (rs.le g)⟩
          · obtain⟨w,h1,h2⟩:=R.rep j u q
            refine⟨w,h1,h2.le g (fun _ _ _ z=>z) fun c hm hc=>⟨fun o q=>q,?_⟩⟩
            have hca:c≠a:=fun z=>ne (R.CJ i j _ u a hu rfl q hm hiv (by rw[h1,hc,z]))
            rw[aP hca]
            cases u with
            | m o=>obtain⟨c',e',f',_⟩:=h2;rw[hc] at e';cases e';exact f'
            | b o=>obtain⟨c',e',f',_⟩:=h2;rw[hc] at e';cases e';exact f'
            | t d=>cases hm
            | v j=>cases hm
            | s j=>cases hm
            | f j=>cases hm
        · obtain⟨h1,o,h2⟩:=R.par j c h
          refine⟨h1,o,?_⟩
          have ne:i≠j:=fun z=>by subst z;rw[hu] at h2;cases h2
          rw[List.getElem?_set_ne ne]
          exact h2
        · exact⟨fun b o h=>g b o (R.ext.le b o h),R.ext.keep,fun b o h n f=>by rw[aP (fun z=>by rw[z,hB] at h;cases h)];exact R.ext.jR b o h n f,R.ext.there,R.ext.jV⟩
        · have hb:b≠a:=fun z=>n (st.mu b ⟨i,_,hu,rfl,by rw[z];exact hiv⟩)
          rw[aP hb]
          exact st.ext.jR b o h n f
        · obtain⟨u',h'⟩:=st.slots j u h
          by_cases hj:i=j
          · subst hj
            exact⟨.t (.lst ds),List.getElem?_set_self (List.getElem?_eq_some_iff.mp h').1⟩
          · exact⟨u',by rw[List.getElem?_set_ne hj];exact h'⟩
noncomputable def eF (g:GE):GD:=fun S=>(g S).bind fun p=>fz p.1 p.2
theorem JE.d {X:Cx}{e:Expr}{g:GE}(h:JE X e g):JD X e (eF g):=⟨fun B=>(h.h B).imp fun σ H Q ⟨S,F,d,S',R,hg,q⟩=>by
 unfold eF at hg
 cases e1:g S with
 | none=>rw[e1] at hg;cases hg
 | some p=>
  obtain⟨u,S1⟩:=p
  rw[e1] at hg
  refine⟨S,F,u,S1,R,e1,fun v F1 H1 R1 st1 r1=>?_⟩
  obtain⟨F2,R2,st2,r2⟩:=Fy R1 st1 r1 hg
  exact q v F2 H1 R2 st2 r2⟩
noncomputable def eT (g:GD):GE:=fun S=>(g S).map fun p=>(.t p.1,p.2)
theorem JD.e {X:Cx}{e:Expr}{g:GD}(h:JD X e g):JE X e (eT g):=⟨fun B=>(h.h B).imp fun σ H Q ⟨S,F,u,S',R,hg,q⟩=>by
 unfold eT at hg
 cases e1:g S with
 | none=>rw[e1] at hg;cases hg
 | some p=>
  obtain⟨d,S1⟩:=p
  rw[e1] at hg
  cases hg
  exact⟨S,F,d,S1,R,e1,fun v F1 H1 R1 st1 r1=>q v F1 H1 R1 st1 r1⟩⟩
end L2
end
section
set_option Elab.async false
set_option linter.all false
set_option maxRecDepth 100000
namespace L2
open PySem PySem.Spec PyProof.Rows
structure jj (F H F' H':Hp):Prop where
 le:∀b o,F b=some o→F' b=some o
 same:∀b o,H b=some o→H' b=some o
 jR:∀b o,H b=some o→F b=none→F' b=none
theorem jj.refl (F H:Hp):jj F H F H:=⟨fun _ _ h=>h,fun _ _ h=>h,fun _ _ _ h=>h⟩
theorem jj.trans {F H F1 H1 F2 H2:Hp}(x:jj F H F1 H1) (y:jj F1 H1 F2 H2):jj F H F2 H2:=
 ⟨fun b o h=>y.le b o (x.le b o h),fun b o h=>y.same b o (x.same b o h),fun b o h f=>y.jR b o (x.same b o h) (x.jR b o h f)⟩
theorem jj.step {S:SS}{σ:St}{F H F' H':Hp}(n:jj F H F' H'):Step S S σ F H F' H':=
 ⟨⟨n.le,fun b o h _=>n.same b o h,fun b o h _ f=>n.jR b o h f,fun b o h=>⟨o,n.same b o h⟩,fun b o u h=>n.same b _ h⟩,fun _ h=>h,fun _ u h=>⟨u,h⟩⟩
theorem jj.obj {F H:Hp}{p:Addr}(h:H p=none) (o:HO):jj F H F (upd H p o):=
 ⟨fun _ _ q=>q,fun b u q=>by rw[aP (bH q h)];exact q,fun _ _ _ q=>q⟩
theorem Rd.same {H H':Hp}{a:Addr}{u:HO}(k:∀b o,H b=some o→H' b=some o):Rd H a u→Rd H' a u
 | .inl h=>.inl (k _ _ h)
 | .inr ⟨o,h⟩=>.inr ⟨o,k _ _ h⟩
theorem Sub.same {F H H':Hp}(s:Sub F H) (k:∀b o,H b=some o→H' b=some o):Sub F H':=fun a o e=>k a o (s a o e)
theorem Sub.BA {F H:Hp}{p:Addr}{o:HO}(s:Sub F H) (h:H p=none):Sub (upd F p o) (upd H p o):=fun b u e=>by
 by_cases hb:b=p
 ·subst hb;rw[aW] at e;cases e;exact aW
 ·rw[aP hb] at e;have q:=s b u e;rw[aP (bH q h)];exact q
theorem jj.root {F H:Hp}{p:Addr}(s:Sub F H) (h:H p=none) (o:HO):jj F H (upd F p o) (upd H p o):=
 ⟨rT (s.fresh h),fun b u q=>by rw[aP (bH q h)];exact q,fun b u q f=>by rw[aP (bH q h)];exact f⟩
theorem Rel.has {K:PySem.W.Frag}{B:Base}{S:SS}{σ:St}{F H:Hp}(R:Rel K B S σ F H){a:Addr}(m:dB S σ a):∃o,H a=some o:=by
 obtain⟨i,u,h,hm,hv⟩:=m
 obtain⟨v,h1,h2⟩:=R.rep i u h
 rw[hv] at h1
 cases h1
 cases u with
 | t d=>cases hm
 | v j=>cases hm
 | s j=>cases hm
 | f j=>cases hm
 | m o=>obtain⟨b,e,_,h⟩:=h2;cases e;exact h.has
 | b o=>obtain⟨b,e,_,h⟩:=h2;cases e;exact h.has
theorem Rel.new {K:PySem.W.Frag}{B:Base}{S:SS}{σ:St}{F H F' H':Hp}(R:Rel K B S σ F H) (n:jj F H F' H') (s:Sub F' H'):Rel K B S σ F' H' where
 sub:=s
 len:=R.len
 rep:=fun i u h=>by
  obtain⟨v,h1,h2⟩:=R.rep i u h
  refine⟨v,h1,h2.le n.le (fun b o u z=>n.same b _ z) fun a hm ha=>⟨fun o q=>n.same a o q,?_⟩⟩
  obtain⟨o,ho⟩:=R.has ⟨i,u,h,hm,by rw[h1,ha]⟩
  refine n.jR a o ho ?_
  cases u with
  | t d=>cases hm
  | v j=>cases hm
  | s j=>cases hm
  | f j=>cases hm
  | m o=>obtain⟨b,e,f,_⟩:=h2;rw[ha] at e;cases e;exact f
  | b o=>obtain⟨b,e,f,_⟩:=h2;rw[ha] at e;cases e;exact f
 CJ:=R.CJ
 own:=R.own
 bor:=R.bor
 par:=R.par
 ext:=⟨fun b o h=>n.le b o (R.ext.le b o h),fun b o h m=>n.same b o (R.ext.keep b o h m),fun b o h m f=>n.jR b o (R.ext.keep b o h m) (R.ext.jR b o h m f),fun b o h=>let⟨o',h'⟩:=R.ext.there b o h;⟨o',n.same b o' h'⟩,fun b o u h=>n.same b _ (R.ext.jV b o u h)⟩
noncomputable def DH (H0 F H:Hp) (v:V):U→Prop
 | .t d=>Rep F v d
 | .m o=>∃a,v= .ref a∧H0 a=none∧F a=none∧At F H a o
 | _=>False
theorem none_of {H H':Hp}{a:Addr}(t:∀b o,H b=some o→∃o',H' b=some o') (h:H' a=none):H a=none:=by
 cases e:H a with
 | none=>rfl
 | some o=>obtain⟨o',h'⟩:=t a o e;rw[h] at h';cases h'
theorem DH.Fz {K:PySem.W.Frag}{B:Base}{S S0:SS}{σ:St}{H0 F0 F1 H1 F H:Hp}{v:V}{u:U}(R:Rel K B S σ F1 H1) (st:Step S0 S σ F0 H0 F1 H1) (r:DH H1 F H v u):iB K B S σ H0 F H v u:=by
 cases u with
 | t d=>exact r
 | b o=>cases r
 | v i=>cases r
 | s i=>cases r
 | f i=>cases r
 | m o=>
  obtain⟨a,e,h0,f,h⟩:=r
  refine⟨a,e,none_of st.ext.there h0,f,h,fun m=>?_,none_of R.ext.there h0⟩
  obtain⟨o,ho⟩:=R.has m
  rw[h0] at ho
  cases ho
noncomputable def rP (f:List D→Option U):List V→Hp→VK→Prop:=fun xs H Q=>∃F ds u,Sub F H∧bx F xs ds∧f ds=some u∧∀v F' H',jj F H F' H'→Sub F' H'→DH H F' H' v u→Q v H'
noncomputable def tw:D→Bool
 | .tup _=>false
 | .lst _=>false
 | _=>true
noncomputable def toV:D→V
 | .bl b=>.bl b
 | .int i=>.int i
 | .str z=>.str z
 | _=>.bZ
theorem zZ {F:Hp}:∀{d:D},tw d=true→Rep F (toV d) d
 | .bZ,_=>.bZ
 | .bl b,_=>.bl b
 | .int i,_=>.int i
 | .str z,_=>.str z
 | .tup _,h=>by cases h
 | .lst _,h=>by cases h
noncomputable def aC (i:Nat):GE:=fun S=>match S[i]? with
 | some (some (.t d))=>some (.t d,S)
 | some (some (.s d))=>some (.s d,S) | some (some (.f d))=>some (.f d,S)
 | some (some _)=>some (.v i,S)
 | _=>none
noncomputable def eC (d:D):GD:=fun S=>some (d,S)
noncomputable def aA:GA:=fun S=>some ([],S)
noncomputable def aa (g:GD) (ga:GA):GA:=fun S=>(g S).bind fun p=>(ga p.2).map fun q=>(p.1 :: q.1,q.2)
noncomputable def eP (f:List D→Option U) (ga:GA):GE:=fun S=>(ga S).bind fun p=>(f p.1).map fun u=>(u,p.2)
section
variable {X:Cx}{a b c e:Expr}{es:List Expr}{pos p p2:Pos}{x:Str}{g ga gb gc:GD}{gA:GA}{f f':List D→Option U}
theorem ak (i:Nat) (hN:X.N[i]? =some x:=by rfl) (hv:Bd X.env.scope x:=by first | exact Or.inl rfl | exact Or.inr (Or.inl rfl) | exact Or.inr (Or.inr rfl)) (hd:(x == ("__debug__":Str))=false:=by decide)
  (hcd:(x == ("__classdict__":Str))=false:=by decide):JE X (.Name x pos) (aC i):=⟨fun B=>(gw hN hv hd hcd).imp fun σ H Q ⟨S,F,u,S',R,hg,q⟩=>by
 unfold aC at hg
 cases hs:S[i]? with
 | none=>rw[hs] at hg;cases hg
 | some o=>
  cases o with
  | none=>rw[hs] at hg;cases hg
  | some w=>
   rw[hs] at hg
   obtain⟨v,h1,h2⟩:=R.rep i w hs
   refine⟨v,h1,?_⟩
   cases w with
   | t d=>cases hg;exact q v F H R (Step.refl ..) h2
   | m o=>cases hg;exact q v F H R (Step.refl ..) ⟨h1,_,hs⟩
   | b o=>cases hg;exact q v F H R (Step.refl ..) ⟨h1,_,hs⟩
   | s j=>cases hg;exact q v F H R (Step.refl ..) h2
   | f j=>cases hg;exact q v F H R (Step.refl ..) h2
   | v j=>cases hg;exact q v F H R (Step.refl ..) ⟨h1,_,hs⟩⟩
theorem FA {d:D}(hf:tw d=true) (h:PE X e (tC (toV d))):JD X e (eC d):=⟨fun B=>h.imp fun σ H Q ⟨S,F,u,S',R,hg,q⟩=>by
 cases hg
 exact q _ F H R (Step.refl ..) (zZ hf)⟩
theorem au {i j}:JD X (.Constant (.int i) j pos) (eC (.int i)):=FA rfl Ky
theorem CL {i j}:JD X (.Constant (.bool i) j pos) (eC (.bl i)):=FA rfl NS
theorem aJ {i j}:JD X (.Constant (.str i) j pos) (eC (.str i)):=FA rfl EM
theorem aF:JA X [] aA:=⟨fun B=>yD.imp fun σ H Q ⟨S,F,u,S',R,hg,q⟩=>by
 cases hg
 exact q [] F H R (Step.refl ..) .nil⟩
theorem ah {α β:Type}{o:Option α}{f:α→Option β}{y:β}(h:o.bind f=some y):∃z,o=some z∧f z=some y:=by
 cases o with
 | none=>cases h
 | some z=>exact⟨z,rfl,h⟩
theorem aq {α β:Type}{o:Option α}{f:α→β}{y:β}(h:o.map f=some y):∃z,o=some z∧f z=y:=by
 cases o with
 | none=>cases h
 | some z=>exact⟨z,rfl,Option.some.inj h⟩
theorem aj (h:JD X e g) (hr:JA X es gA) (hs:starEach (e :: es) X.env=(false,eval e X.env) :: starEach es X.env:=by rfl):JA X (e :: es) (aa g gA):=
 ⟨fun B=>(ou (h.h B) (hr.h B) hs).imp fun σ H Q ⟨S,F,u,S',R,hg,q⟩=>by
 obtain⟨⟨d,S1⟩,h1,hg⟩:=ah hg
 obtain⟨⟨ds,S2⟩,h2,hg⟩:=aq hg
 cases hg
 exact⟨S,F,d,S1,R,h1,fun v F1 H1 R1 st1 r1=>⟨S1,F1,ds,S2,R1,h2,fun vs F2 H2 R2 st2 r2=>q _ F2 H2 R2 (st1.trans st2) (.cons (r1.le st2.ext.le) r2)⟩⟩⟩
theorem lW {K:PySem.W.Frag}{B:Base}{σ:St}{H:Hp}{Q:VK}{r:List V→Hp→VK→Prop}(hr:∀vs H1 Q1,rP f vs H1 Q1→r vs H1 Q1) (h:tE K B (eP f gA) σ H Q):Zs K B gA σ H fun vs H1=>r vs H1 Q:=by
 obtain⟨S,F,u,S',R,hg,q⟩:=h
 obtain⟨⟨ds,S1⟩,h1,hg⟩:=ah hg
 obtain⟨u',h2,hg⟩:=aq hg
 cases hg
 exact⟨S,F,ds,S1,R,h1,fun vs F1 H1 R1 st1 r1=>hr _ _ _ ⟨F1,ds,_,R1.sub,r1,h2,fun v F2 H2 n s2 r2=>q v F2 H2 (R1.new n s2) (st1.trans n.step) (r2.Fz R1 st1)⟩⟩
theorem jE {id:String}(hc:iu X (.builtin id) (rP f)) (hg:Gl X x) (hm:X.mg x=none) (hv:bootBuiltins x=some (.builtin id)) (ha:JA X (e :: es) gA) (hn:x≠"__name__":=by decide) (hdb:(x == ("__debug__":Str))=false:=by decide)
  (he:starEach (e :: es) X.env=(false,eval e X.env) :: starEach es X.env:=by rfl) (hpl:(backTo pos (starEach es X.env)).any (·.1)=false:=by rfl):JE X (.Call (.Name x p) (e :: es) [] pos) (eP f gA):=
 ⟨fun B=>(mX hc hg hm hv (ha.h B) hn hdb he hpl).imp fun σ H Q h=>lW (fun _ _ _ z=>z) h⟩
theorem rU {T:String}(hc:iu X (.type T) (rP f)) (hg:Gl X x) (hm:X.mg x=none) (hv:bootBuiltins x=some (.type T)) (ha:JA X (e :: es) gA) (hn:x≠"__name__":=by decide) (hdb:(x == ("__debug__":Str))=false:=by decide)
  (he:starEach (e :: es) X.env=(false,eval e X.env) :: starEach es X.env:=by rfl) (hpl:(backTo pos (starEach es X.env)).any (·.1)=false:=by rfl):JE X (.Call (.Name x p) (e :: es) [] pos) (eP f gA):=
 ⟨fun B=>(Dt hc hg hm hv (ha.h B) hn hdb he hpl).imp fun σ H Q h=>lW (fun _ _ _ z=>z) h⟩
noncomputable abbrev Bf (X:Cx) (o:Value→Value→Sem Value) (f:List D→Option U):Prop:=uw X o (fun x y H Q=>rP f [x,y] H Q)
theorem qu {K:PySem.W.Frag}{B:Base}{σ:St}{H:Hp}{Q:VK}(h:tE K B (eP f (aa ga (aa gb aA))) σ H Q):Na (fun x y H Q=>rP f [x,y] H Q) (tD K B ga) (tD K B gb) σ H Q:=by
 obtain⟨S,F,u,S',R,hg,q⟩:=h
 obtain⟨⟨ds,S1⟩,h1,hg⟩:=ah hg
 obtain⟨u',h2,hg⟩:=aq hg
 cases hg
 obtain⟨⟨d1,T1⟩,k1,h1⟩:=ah h1
 obtain⟨⟨ds2,T2⟩,k2,h1⟩:=aq h1
 cases h1
 obtain⟨⟨d2,T3⟩,k3,k2⟩:=ah k2
 obtain⟨⟨ds3,T4⟩,k4,k2⟩:=aq k2
 cases k2
 cases k4
 exact⟨S,F,d1,T1,R,k1,fun v1 F1 H1 R1 st1 r1=>⟨T1,F1,d2,_,R1,k3,fun v2 F2 H2 R2 st2 r2=>⟨F2,_,_,R2.sub,.cons (r1.le st2.ext.le) (.cons r2 .nil),h2,fun v F3 H3 n s3 r3=>q v F3 H3 (R2.new n s3) ((st1.trans st2).trans n.step) (r3.Fz R2 (st1.trans st2))⟩⟩⟩
theorem bF {op:Operator}(ho:Bf X (binaryOp op) f) (ha:JD X a ga) (hb:JD X b gb):JE X (.BinOp a op b pos) (eP f (aa ga (aa gb aA))):=
 ⟨fun B=>(N2 ho (ha.h B) (hb.h B)).imp fun σ H Q h=>qu h⟩
theorem pM {op:CmpOp}(ho:Bf X (compareOp op) f) (ha:JD X a ga) (hb:JD X b gb) (hm:behindInMarks op b=false:=by first | exact EW _ | rfl):JE X (.Compare a [op] [b] pos) (eP f (aa ga (aa gb aA))):=
 ⟨fun B=>(HQ ho (ha.h B) (hb.h B) hm).imp fun σ H Q h=>qu h⟩
theorem qw (hr:E9 X (fun x y H Q=>rP f [x,y] H Q)) (ha:JD X a ga) (hb:JD X b gb) (hs:yI b):JE X (.Subscript a b pos) (eP f (aa ga (aa gb aA))):=
 ⟨fun B=>(Fb hr (ha.h B) (hb.h B) hs).imp fun σ H Q h=>qu h⟩
noncomputable def eu:List D→Option U:=fun ds=>if ds.length≤100000 then some (.t (.tup ds)) else none
noncomputable def iT:List D→Option U:=fun ds=>if ds.length≤100000 then some (.m (.lst ds)) else none
theorem jX {n:Nat}(h:n≤100000):n≤sizeLine:=Nat.le_trans h (by decide)
end
end L2
end
section
set_option Elab.async false
set_option linter.all false
set_option maxRecDepth 100000
namespace L2
open PySem PySem.Spec PyProof.Rows
section
variable {X:Cx}{a b c e:Expr}{es:List Expr}{pos p p2:Pos}{x:Str}{g ga gb gc:GD}{gA:GA}{f f':List D→Option U}
theorem bG {x1}(h:JA X es gA):JE X (.Tuple es x1 pos) (eP eu gA):=
 ⟨fun B=>(K9 (h.h B)).imp fun σ H Q z=>lW (r:=fun xs H1 Q=>xs.length≤sizeLine∧∀p,H1 p=none→Q (.ref p) (upd H1 p (.tup xs))) (fun vs H1 Q1 ⟨F,ds,u,sb,rs,hf,q⟩=>by
 unfold eu at hf
 split at hf
 ·rename_i hl
  cases hf
  refine⟨by rw[rs.length];exact jX hl,fun p hp=>?_⟩
  exact q _ _ _ (jj.root sb hp _) (sb.BA hp) (.tup aW (rs.le (rT (sb.fresh hp))))
 ·cases hf) z⟩
theorem dc (h:JA X es gA):JE X (.List es pos) (eP iT gA):=
 ⟨fun B=>(La (h.h B)).imp fun σ H Q z=>lW (r:=fun xs H1 Q=>xs.length≤sizeLine∧∀p,H1 p=none→Q (.ref p) (upd H1 p (.lst xs))) (fun vs H1 Q1 ⟨F,ds,u,sb,rs,hf,q⟩=>by
 unfold iT at hf
 split at hf
 ·rename_i hl
  cases hf
  refine⟨by rw[rs.length];exact jX hl,fun p hp=>?_⟩
  exact q _ F _ (jj.obj hp _) (sb.same (jj.obj (F:=F) hp _).same) ⟨p,rfl,hp,sb.fresh hp,vs,aW,rs⟩
 ·cases hf) z⟩
noncomputable def qB (g:GD):GT:=fun S=>(g S).bind fun p=>match p.1 with
 | .bl k=>some (k,p.2)
 | _=>none
noncomputable def FD (g:GT):GT:=fun S=>(g S).map fun p=>(!p.1,p.2)
noncomputable def qx (g h:GT):GT:=fun S=>(g S).bind fun p=>if p.1 then h p.2 else some (false,p.2)
noncomputable def FE (g h:GT):GT:=fun S=>(g S).bind fun p=>if p.1 then some (true,p.2) else h p.2
noncomputable def eQ (g:GT):GD:=fun S=>(g S).map fun p=>(.bl p.1,p.2)
theorem ow {S:SS}{k:Bool}{S':SS}(h:qB g S=some (k,S')):g S=some (.bl k,S'):=by
 obtain⟨⟨d,S1⟩,h1,h⟩:=ah h
 cases d <;> cases h
 exact h1
theorem pN {F:Hp}{v:V}{k:Bool}(r:Rep F v (.bl k)):v= .bl k:=by cases r;rfl
theorem jY {F:Hp}{v:V}{i:Int}(r:Rep F v (.int i)):v= .int i:=by cases r;rfl
theorem CM {F:Hp}{v:V}{i:Str}(r:Rep F v (.str i)):v= .str i:=by cases r;rfl
theorem IA {F:Hp}{v:V}(r:Rep F v .bZ):v= .bZ:=by cases r;rfl
theorem BB (h:JD X e g) (he:∀whole,isTrue e X.env whole=(do let v ←whole;standAt e.pos;holding [v] (truthy v)):=by intro _;rfl):JT X e (qB g):=
 ⟨fun B=>(KC (h.h B) he).imp fun σ H Q ⟨S,F,k,S',R,hg,q⟩=>⟨S,F,.bl k,S',R,ow hg,fun v F' H' R' st r=>⟨k,pN r,q F' H' R' st⟩⟩⟩
theorem OF {K:PySem.W.Frag}{B:Base}{gE:GE}{σ:St}{H:Hp}{Q:VK}(h:tD K B (eF gE) σ H Q):tE K B gE σ H Q:=by
 obtain⟨S,F,d,S',R,hg,q⟩:=h
 obtain⟨⟨u,S1⟩,h1,hg⟩:=ah hg
 refine⟨S,F,u,S1,R,h1,fun v F1 H1 R1 st1 r1=>?_⟩
 obtain⟨F2,R2,st2,r2⟩:=Fy R1 st1 r1 hg
 exact q v F2 H1 R2 st2 r2
theorem cG {op:CmpOp}(ho:Bf X (compareOp op) f) (ha:JD X a ga) (hb:JD X b gb) (hm:behindInMarks op b=false:=by first | exact EW _ | rfl):JT X (.Compare a [op] [b] pos) (qB (eF (eP f (aa ga (aa gb aA))))):=
 ⟨fun B=>(HR ho (ha.h B) (hb.h B) hm).imp fun σ H Q ⟨S,F,k,S',R,hg,q⟩=>qu (OF ⟨S,F,.bl k,S',R,ow hg,fun v F' H' R' st r=>⟨k,pN r,q F' H' R' st⟩⟩)⟩
theorem BC {q1:GT}(h:JT X a q1):JT X (.UnaryOp .Not a pos) (FD q1):=
 ⟨fun B=>(KD (h.h B)).imp fun σ H Q ⟨S,F,k,S',R,hg,q⟩=>by
 obtain⟨⟨d,S1⟩,h1,hg⟩:=aq hg
 cases hg
 exact⟨S,F,d,_,R,h1,fun F' H' R' st=>q F' H' R' st⟩⟩
theorem pO {q1:GT}(h:JT X a q1):JW X (.BoolOp .And [a] pos) q1:=⟨fun B=>pw_and1 (h.h B)⟩
theorem rW {q1:GT}(h:JT X a q1):JW X (.BoolOp .Or [a] pos) q1:=⟨fun B=>pw_or1 (h.h B)⟩
theorem BD {r:List Expr}{q1 q2:GT}(h:JT X a q1) (hr:JW X (.BoolOp .And (b :: r) pos) q2):JW X (.BoolOp .And (a :: b :: r) pos) (qx q1 q2):=
 ⟨fun B=>(pw_and (h.h B) (hr.h B)).imp fun σ H Q ⟨S,F,k,S',R,hg,q⟩=>by
 obtain⟨⟨d,S1⟩,h1,hg⟩:=ah hg
 refine⟨S,F,d,S1,R,h1,fun F1 H1 R1 st1=>?_⟩
 cases d with
 | true=>exact Bv ⟨S1,F1,k,S',R1,hg,fun F2 H2 R2 st2=>q F2 H2 R2 (st1.trans st2)⟩
 | false=>cases hg;exact Bu (q F1 H1 R1 st1)⟩
theorem xC {r:List Expr}{q1 q2:GT}(h:JT X a q1) (hr:JW X (.BoolOp .Or (b :: r) pos) q2):JW X (.BoolOp .Or (a :: b :: r) pos) (FE q1 q2):=
 ⟨fun B=>(pw_or (h.h B) (hr.h B)).imp fun σ H Q ⟨S,F,k,S',R,hg,q⟩=>by
 obtain⟨⟨d,S1⟩,h1,hg⟩:=ah hg
 refine⟨S,F,d,S1,R,h1,fun F1 H1 R1 st1=>?_⟩
 cases d with
 | false=>exact Bu ⟨S1,F1,k,S',R1,hg,fun F2 H2 R2 st2=>q F2 H2 R2 (st1.trans st2)⟩
 | true=>cases hg;exact Bv (q F1 H1 R1 st1)⟩
theorem JW.t {q1:GT}(h:JW X e q1):JT X e q1:=⟨fun B=>(h.h B).pt⟩
theorem yK {op}(h:JD X a g):JD X (.BoolOp op [a] pos) (eQ (qB g)):=⟨fun B=>(KG (h.h B)).imp fun σ H Q ⟨S,F,k,S',R,hg,q⟩=>by
 obtain⟨⟨d,S1⟩,h1,hg⟩:=aq hg
 cases hg
 exact⟨S,F,.bl d,_,R,ow h1,q⟩⟩
theorem BE {r:List Expr}{q2:GT}(h:JD X a g) (hr:JD X (.BoolOp .And (b :: r) pos) (eQ q2)):JD X (.BoolOp .And (a :: b :: r) pos) (eQ (qx (qB g) q2)):=
 ⟨fun B=>(KH (h.h B) (hr.h B)).imp fun σ H Q ⟨S,F,k,S',R,hg,q⟩=>by
 obtain⟨⟨d,S1⟩,h1,hg⟩:=aq hg
 cases hg
 obtain⟨⟨d1,S2⟩,h1,h2⟩:=ah h1
 refine⟨S,F,.bl d1,S2,R,ow h1,fun v F1 H1 R1 st1 r1=>⟨d1,pN r1,?_⟩⟩
 cases d1 with
 | true=>
  have h2:q2 S2=some (d,S1):=h2
  exact Bv ⟨S2,F1,.bl d,S1,R1,by show(q2 S2).map _=_;rw[h2];rfl,fun v F2 H2 R2 st2 r2=>q v F2 H2 R2 (st1.trans st2) r2⟩
 | false=>cases h2;exact Bu (q _ F1 H1 R1 st1 (.bl false))⟩
theorem OG {r:List Expr}{q2:GT}(h:JD X a g) (hr:JD X (.BoolOp .Or (b :: r) pos) (eQ q2)):JD X (.BoolOp .Or (a :: b :: r) pos) (eQ (FE (qB g) q2)):=
 ⟨fun B=>(NU (h.h B) (hr.h B)).imp fun σ H Q ⟨S,F,k,S',R,hg,q⟩=>by
 obtain⟨⟨d,S1⟩,h1,hg⟩:=aq hg
 cases hg
 obtain⟨⟨d1,S2⟩,h1,h2⟩:=ah h1
 refine⟨S,F,.bl d1,S2,R,ow h1,fun v F1 H1 R1 st1 r1=>⟨d1,pN r1,?_⟩⟩
 cases d1 with
 | false=>
  have h2:q2 S2=some (d,S1):=h2
  exact Bu ⟨S2,F1,.bl d,S1,R1,by show(q2 S2).map _=_;rw[h2];rfl,fun v F2 H2 R2 st2 r2=>q v F2 H2 R2 (st1.trans st2) r2⟩
 | true=>cases h2;exact Bv (q _ F1 H1 R1 st1 (.bl true))⟩
noncomputable def Ua (q:GT) (g h:GE):GE:=fun S=>(q S).bind fun p=>if p.1 then g p.2 else h p.2
theorem iB.weak {K:PySem.W.Frag}{B:Base}{S:SS}{σ:St}{H0 H1 F H:Hp}{v:V}(t:∀b o,H0 b=some o→∃o',H1 b=some o'):∀{u:U},iB K B S σ H1 F H v u→iB K B S σ H0 F H v u
 | .t _,h=>h
 | .s _,h=>h
 | .f _,h=>h
 | .m _,⟨a,e,h0,h⟩=>⟨a,e,none_of t h0,h⟩
 | .v _,h=>h
 | .b _,h=>h
theorem OH {q1:GT}{g1 g2:GE}(hc:JT X c q1) (ha:JE X a g1) (hb:JE X b g2):JE X (.IfExp c a b pos) (Ua q1 g1 g2):=
 ⟨fun B=>(EN (hc.h B) (ha.h B) (hb.h B)).imp fun σ H Q ⟨S,F,u,S',R,hg,q⟩=>by
 obtain⟨⟨d,S1⟩,h1,hg⟩:=ah hg
 refine⟨S,F,d,S1,R,h1,fun F1 H1 R1 st1=>?_⟩
 cases d with
 | true=>exact Bv ⟨S1,F1,u,S',R1,hg,fun v F2 H2 R2 st2 r2=>q v F2 H2 R2 (st1.trans st2) (r2.weak st1.ext.there)⟩
 | false=>exact Bu ⟨S1,F1,u,S',R1,hg,fun v F2 H2 R2 st2 r2=>q v F2 H2 R2 (st1.trans st2) (r2.weak st1.ext.there)⟩⟩
noncomputable def eCh (f f':List D→Option U) (ga gb gc:GD):GD:=fun S=>(ga S).bind fun p=>(gb p.2).bind fun q=>match f [p.1,q.1] with
 | some (.t (.bl k))=>if k then(gc q.2).bind fun r=>match f' [q.1,r.1] with
   | some (.t (.bl k'))=>some (.bl k',r.2)
   | _=>none
  else some (.bl false,q.2)
 | _=>none
end
end L2
end
section
set_option Elab.async false
set_option linter.all false
set_option maxRecDepth 100000
namespace L2
open PySem PySem.Spec PyProof.Rows
theorem bL {α:Type}{c:Prop}{i:Decidable c}{x w:α}(h:(@ite _ c i (some x) none)=some w):c∧x=w:=by
 by_cases hc:c
 ·rw[if_pos hc] at h;exact⟨hc,Option.some.inj h⟩
 ·rw[if_neg hc] at h;cases h
theorem fB {α:Type}{c:Prop}{i:Decidable c}{x:Option α}{w:α}(h:(@ite _ c i x none)=some w):c∧x=some w:=by
 by_cases hc:c
 ·rw[if_pos hc] at h;exact⟨hc,h⟩
 ·rw[if_neg hc] at h;cases h
theorem JZ {F:Hp}{x:V}{ds:List D}(r:bx F [x] ds):∃d,ds=[d]∧Rep F x d:=by
 cases r with
 | cons r rs=>cases rs;exact⟨_,rfl,r⟩
theorem xD {F:Hp}{x y:V}{ds:List D}(r:bx F [x,y] ds):∃d e,ds=[d,e]∧Rep F x d∧Rep F y e:=by
 cases r with
 | cons r rs=>obtain⟨e,rfl,r2⟩:=JZ rs;exact⟨_,e,rfl,r,r2⟩
noncomputable def FF (C:Int→Int→Bool) (h:Int→Int→D):List D→Option U
 | [.int i,.int j]=>if C i j then some (.t (h i j)) else none
 | _=>none
section
variable {X:Cx}
theorem tF {o:Value→Value→Sem Value}{C:Int→Int→Bool}{h:Int→Int→D}{r:R2}(hr:uw X o r) (k:∀i j H Q,C i j=true→Q (toV (h i j)) H→r (.int i) (.int j) H Q) (hf:∀i j,tw (h i j)=true):Bf X o (FF C h):=by
 intro pins s σ H x y v u Q I rx ry ⟨F,ds,w,sb,rs,hw,q⟩
 obtain⟨d,e,rfl,r1,r2⟩:=xD rs
 cases r1 <;> cases r2 <;> try (simp[FF] at hw;done)
 rename_i i j
 obtain⟨hc,rfl⟩:=bL hw
 exact hr pins s σ H _ _ v u Q I rx ry (k i j H Q hc (q _ F H (jj.refl ..) sb (zZ (hf i j))))
noncomputable abbrev oZ:=FF (fun _ _=>true) fun i j=>.int (i - j)
noncomputable abbrev FG:=FF (fun _ _=>true) fun i j=>.bl (decide (i < j))
noncomputable abbrev IB:=FF (fun _ _=>true) fun i j=>.bl (decide (i≤j))
noncomputable abbrev Nb:=FF (fun _ _=>true) fun i j=>.bl (decide (j < i))
noncomputable abbrev IC:=FF (fun _ j=>decide (0 < j) && decide (j < 1073741824)) fun i j=>.int (i / j)
noncomputable abbrev wB:=FF (fun _ j=>decide (0 < j)) fun i j=>.int (i % j)
noncomputable abbrev OI:=FF (fun i j=>decide (0≤j) && (decide (j≤1000) && decide (i.natAbs < 2 ^ 64))) fun i j=>.int (i ^ j.toNat)
theorem fP:Bf X (binaryOp .Sub) oZ:=tF K1 (fun i j H Q _ q=>⟨i,j,rfl,rfl,q⟩) fun _ _=>rfl
theorem m6:Bf X (compareOp .Lt) FG:=tF N5 (fun i j H Q _ q=>⟨i,j,rfl,rfl,q⟩) fun _ _=>rfl
theorem BF:Bf X (compareOp .LtE) IB:=tF N6 (fun i j H Q _ q=>⟨i,j,rfl,rfl,q⟩) fun _ _=>rfl
theorem uM:Bf X (compareOp .Gt) Nb:=tF N7 (fun i j H Q _ q=>⟨i,j,rfl,rfl,q⟩) fun _ _=>rfl
theorem yL:Bf X (binaryOp .FloorDiv) IC:=tF HP (fun i j H Q c q=>⟨i,j,rfl,rfl,by simpa[N4] using c,q⟩) fun _ _=>rfl
theorem jZ:Bf X (binaryOp .Mod) wB:=tF K3 (fun i j H Q c q=>⟨i,j,rfl,rfl,by simpa using c,q⟩) fun _ _=>rfl
theorem ID:Bf X (binaryOp .Pow) OI:=tF K4 (fun i j H Q c q=>⟨i,j,rfl,rfl,by
 simp only[Bool.and_eq_true,decide_eq_true_eq] at c
 exact⟨c.1,Int.le_trans c.2.1 (by decide),c.2.2⟩,q⟩) fun _ _=>rfl
theorem Sub.pB {F H:Hp}{v:V}{ds:List D}(s:Sub F H) (r:Rep F v (.tup ds)):∃a vs,v= .ref a∧F a=some (.tup vs)∧Rd H a (.tup vs)∧bx F vs ds:=by
 cases r with
 | tup e rs=>exact⟨_,_,rfl,e,Rd.of (s _ _ e),rs⟩
theorem Sub.lE {F H:Hp}{v:V}{ds:List D}(s:Sub F H) (r:Rep F v (.lst ds)):∃a vs,v= .ref a∧F a=some (.lst vs)∧Rd H a (.lst vs)∧bx F vs ds:=by
 cases r with
 | lst e rs=>exact⟨_,_,rfl,e,Rd.of (s _ _ e),rs⟩
theorem _root_.L2.Rd.Dz {pins:List (Addr×Obj)}{σ:St}{H:Hp}{s:Shared}(I:Inv X pins σ H s){l:Addr}{xs:List V}(h:Rd H l (.lst xs)):
  xs.length≤sizeLine∧∃its n,Vals xs its∧xs.length=its.length∧s.heap.get? l=some {cls:=.type "list",data:=.seq its.toArray n}:=by
 obtain⟨z,its,n,r,e⟩:=(h.ok I.hok:gF X.prog X.w H s.heap l (.lst xs))
 exact⟨z,its,n,r,r.length,e⟩
noncomputable def iF:List D→Option U
 | [.int i,.int j]=>some (.t (.int (i+j)))
 | [.str i,.str j]=>if i.length+j.length≤100000 then some (.t (.str (i++j))) else none
 | [.tup i,.tup j]=>if i.length+j.length≤100000 then some (.t (.tup (i++j))) else none
 | [.lst i,.lst j]=>if i.length+j.length≤100000 then some (.m (.lst (i++j))) else none
 | _=>none
theorem cX : Bf X (binaryOp .Add) iF := by
  intro pins s σ H x y v u Q I rx ry ⟨F,ds,w,sb,rs,hw,q⟩
  obtain⟨d,e,rfl,r1,r2⟩:=xD rs
  cases d <;> cases e <;> try (simp[iF] at hw;done)
  · rename_i i j
    cases hw
    cases r1
    cases r2
    exact K0 pins s σ H _ _ v u Q I rx ry ⟨i,j,rfl,rfl,q _ F H (jj.refl ..) sb (.int _)⟩
  · rename_i i j
    obtain⟨hl,rfl⟩:=bL hw
    cases r1
    cases r2
    exact Bj pins s σ H _ _ v u Q I rx ry ⟨i,j,rfl,rfl,jX hl,q _ F H (jj.refl ..) sb (.str _)⟩
  · rename_i i j
    obtain⟨hl,rfl⟩:=bL hw
    have rb2:=r2
    have rb1:=r1
    obtain⟨a,xs,rfl,fa,ha,zH⟩:=sb.pB r1
    obtain⟨b,ys,rfl,fb,hb,IE⟩:=sb.pB r2
    by_cases hx:xs=[]
    · subst hx
      cases zH
      cases rx
      cases ry
      obtain⟨its,r1',p1,_⟩:=I.tuple (.inl ha)
      obtain⟨its2,r2',p2,_⟩:=I.tuple (.inl hb)
      cases r1'
      obtain⟨⟨cls,dd,data,sl⟩,ho,hc,n,hd⟩:=id p1
      obtain⟨⟨Tr,dd2,data2,sl2⟩,ho2,hc2,n2,hd2⟩:=id p2
      simp only at hc hd hc2 hd2
      subst hc hd hc2 hd2
      exact concat_meets ⟨_,ho,rfl⟩ ⟨_,ho2,rfl⟩ noFill_tuple_add seq_tuple_add PySem.F.slot_tuple_add PySem.F.entry_tuple_add (PySem.F.args_tuple_add_2 _ _)
        (tuple_addW0 a b _ _ n n2 dd dd2 sl sl2 (by simp)) ⟨ho,ho2,⟨.ref b,H,I,rfl,q _ F H (jj.refl ..) sb rb2⟩⟩
    · refine Im pins s σ H (.ref a) (.ref b) v u Q I rx ry ⟨a,b,xs,ys,rfl,rfl,.inl ha,.inl hb,hx,?_,fun hy=>?_,fun hy p hp=>?_⟩
      · rw[zH.length,IE.length];exact jX hl
      · subst hy
        cases IE
        exact q _ F H (jj.refl ..) sb (by show Rep F (.ref a) (.tup (i++[]));rw[List.append_nil];exact rb1)
      · exact q _ _ _ (jj.root sb hp _) (sb.BA hp) (.tup aW ((zH.append IE).le (rT (sb.fresh hp))))
  · rename_i i j
    obtain⟨hl,rfl⟩:=bL hw
    obtain⟨a,xs,rfl,fa,ha,zH⟩:=sb.lE r1
    obtain⟨b,ys,rfl,fb,hb,IE⟩:=sb.lE r2
    cases rx
    cases ry
    obtain⟨z,its,n,r,hl1,e⟩:=Rd.Dz I ha
    obtain⟨z2,its2,n2,r2,hl2,e2⟩:=Rd.Dz I hb
    have hlen:xs.length+ys.length≤sizeLine:=by rw[zH.length,IE.length];exact jX hl
    refine PySem.P.add_list e e2 ?_ (by rw[List.size_toArray,List.size_toArray];omega)
    have ea:its.toArray++its2.toArray=(its++its2).toArray:=by simp
    rw[ea]
    have hp:H s.heap.objs.size=none:=I.fresh
    refine⟨.ref _,_,I.Tw (t':=s.toks) (r.append r2) (by rw[List.length_append];omega),rfl,?_⟩
    exact q _ F _ (jj.obj hp _) (sb.same (jj.obj (F:=F) hp _).same) ⟨_,rfl,hp,sb.fresh hp,_,aW,zH.append IE⟩
noncomputable def BG:List D→Option U:=FF (fun i j=>(decide (-(2 ^ 64) < i) && decide (i < 2 ^ 64)) || (decide (-(2 ^ 64) < j) && decide (j < 2 ^ 64))) fun i j=>.int (i * j)
theorem qy:Bf X (binaryOp .Mult) BG:=tF K2 (fun i j H Q c q=>⟨i,j,rfl,rfl,by
 simp only[Bool.or_eq_true,Bool.and_eq_true,decide_eq_true_eq] at c
 exact c,q⟩) fun _ _=>rfl
noncomputable def Ub:List D→Option U
 | [.int i]=>some (.t (.int (-i)))
 | _=>none
noncomputable def DI:List D→Option U
 | [.tup ds,.int i]=>(iS ds i).map .t
 | [.lst ds,.int i]=>(iS ds i).map .t
 | [.str z,.int i]=>if z.length≤100000 then(iS z.cps.toList i).map fun c=>.t (.str ⟨#[c]⟩) else none
 | _=>none
theorem yM:E9 X (fun x y H Q=>rP DI [x,y] H Q):=by
 intro value slice pins s σ H x y v u Q I rx ry ⟨F,ds,w,sb,rs,hw,q⟩ hsb
 obtain⟨d,e,rfl,r1,r2⟩:=xD rs
 cases d <;> cases e <;> try (simp[DI] at hw;done)
 ·rename_i z i
  obtain⟨hl,hw⟩:=fB hw
  obtain⟨c,hc,hw⟩:=aq hw
  subst hw
  cases r1
  cases r2
  exact Fd value slice pins s σ H _ _ v u Q I rx ry ⟨z,i,c,rfl,rfl,jX hl,hc,q _ F H (jj.refl ..) sb (.str _)⟩ hsb
 ·rename_i ds i
  obtain⟨c,hc,hw⟩:=aq (show(iS ds i).map U.t=some w from hw)
  subst hw
  obtain⟨a,xs,rfl,fa,ha,zH⟩:=sb.pB r1
  cases r2
  obtain⟨w',h1,h2⟩:=zH.iS hc
  exact Fc value slice pins s σ H _ _ v u Q I rx ry ⟨a,xs,i,w',rfl,rfl,.inl ha,h1,q _ F H (jj.refl ..) sb h2⟩ hsb
 ·rename_i ds i
  obtain⟨c,hc,hw⟩:=aq (show(iS ds i).map U.t=some w from hw)
  subst hw
  obtain⟨a,xs,rfl,fa,ha,zH⟩:=sb.lE r1
  cases r2
  obtain⟨w',h1,h2⟩:=zH.iS hc
  exact CF value slice pins s σ H _ _ v u Q I rx ry ⟨a,xs,i,w',rfl,rfl,.inl ha,h1,q _ F H (jj.refl ..) sb h2⟩ hsb
noncomputable def uc:List D→Option U
 | [.tup ds]=>some (.t (.int ds.length))
 | [.lst ds]=>some (.t (.int ds.length))
 | [.str z]=>if z.length≤100000 then some (.t (.int z.length)) else none
 | _=>none
theorem rX:iu X (.builtin "len") (rP uc):=by
 intro pins s σ H xs us Q I r ⟨F,ds,w,sb,rs,hw,q⟩
 match xs,ds,rs with
 | [],[],_=>exact absurd hw (by simp[uc])
 | [x],_,rs=>
  obtain⟨d,rfl,r1⟩:=JZ rs
  cases d <;> try (simp[uc] at hw;done)
  ·rename_i z
   obtain⟨hl,rfl⟩:=bL hw
   cases r1
   exact qp pins s σ H _ us Q I r ⟨z,rfl,jX hl,q _ F H (jj.refl ..) sb (.int _)⟩
  ·cases hw
   obtain⟨a,xs,rfl,fa,ha,zH⟩:=sb.pB r1
   exact lU pins s σ H _ us Q I r ⟨a,xs,rfl,.inr (.inl ha),by rw[zH.length];exact q _ F H (jj.refl ..) sb (.int _)⟩
  ·cases hw
   obtain⟨a,xs,rfl,fa,ha,zH⟩:=sb.lE r1
   exact lU pins s σ H _ us Q I r ⟨a,xs,rfl,.inl (.inl ha),by rw[zH.length];exact q _ F H (jj.refl ..) sb (.int _)⟩
 | _ :: _ :: _,[],rs=>cases rs
 | _ :: _ :: _,[_],rs=>cases rs with | cons _ rs=>cases rs
 | _ :: _ :: _,_ :: _ :: _,_=>exact absurd hw (by simp[uc])
end
end L2
end
section
set_option Elab.async false
set_option linter.all false
set_option maxRecDepth 100000
namespace L2
open PySem PySem.Spec PyProof.Rows
noncomputable def o7 (i:Nat) (u:U) (S:SS):Option SS:=match S[i]? with
 | some (some (.b _))=>none
 | some _=>some (S.set i (some u))
 | none=>none
theorem DJ {i:Nat}{u:U}{S S':SS}(h:o7 i u S=some S'):S'=S.set i (some u)∧i < S.length∧∀o,S[i]?≠some (some (.b o)):=by
 unfold o7 at h
 cases e:S[i]? with
 | none=>rw[e] at h;cases h
 | some w=>
  have hl:i < S.length:=(List.getElem?_eq_some_iff.mp e).1
  rw[e] at h
  cases w with
  | none=>cases h;exact⟨rfl,hl,fun o z=>by cases z⟩
  | some w=>
   cases w with
   | b o=>cases h
   | t d=>cases h;exact⟨rfl,hl,fun o z=>by cases z⟩
   | m d=>cases h;exact⟨rfl,hl,fun o z=>by cases z⟩
   | v d=>cases h;exact⟨rfl,hl,fun o z=>by cases z⟩
   | s d=>cases h;exact⟨rfl,hl,fun o z=>by cases z⟩
   | f d=>cases h;exact⟨rfl,hl,fun o z=>by cases z⟩
noncomputable def J0 (B:Base) (S:SS) (σ:St) (F H:Hp) (v:V):U→Prop
 | .t d=>Rep F v d
 | .m o=>∃a,v= .ref a∧F a=none∧At F H a o∧¬dB S σ a∧B.H a=none
 | _=>False
theorem Rel.put {K : PySem.W.Frag} {B : Base} {S S' : SS} {σ : St} {F H : Hp} {i : Nat} {u : U} {v : V} (R : Rel K B S σ F H) (h : o7 i u S = some S') (p : J0 B S σ F H v u) : Rel K B S' (σ.set i (some v)) F H := by
  obtain⟨rfl,hl,nb⟩:=DJ h
  have hl':i < σ.length:=by rw[←R.len];exact hl
  have out:∀{j:Nat},i≠j→(σ.set i (some v))[j]? =σ[j]?:=fun ne=>List.getElem?_set_ne ne
  have DK:(σ.set i (some v))[i]? =some (some v):=List.getElem?_set_self hl'
  have J1:∀j w a,i≠j→S[j]? =some (some w)→gg w=true→gg u=true→σ[j]? =some (some (.ref a))→v≠.ref a:=fun j w a ne hj hm hu hv z=>by
    cases u with
    | t d=>cases hu
    | v k=>cases hu
    | s k=>cases hu
    | f k=>cases hu
    | b o=>exact p
    | m o=>
      obtain⟨c,e,_,_,nm,_⟩:=p
      rw[z] at e
      cases e
      exact nm ⟨j,w,hj,hm,hv⟩
  refine⟨R.sub,by rw[List.length_set,List.length_set];exact R.len,fun j w hj=>?_,fun j k w1 w2 a h1 m1 h2 m2 v1 v2=>?_,fun j o a hj hv=>?_,fun j o a hj hv=>?_,fun j a hj=>?_,R.ext⟩
  · rcases get_set hj with⟨rfl,q,_⟩ | ⟨ne,q⟩
    · cases q
      refine⟨v,DK,?_⟩
      cases u with
      | t d=>exact p
      | m o=>obtain⟨a,e,f,h,_⟩:=p;exact⟨a,e,f,h⟩
      | b o=>cases p
      | v k=>cases p
      | s k=>cases p
      | f k=>cases p
    · rw[out ne];exact R.rep j w q
  · rcases get_set h1 with⟨rfl,q1,_⟩ | ⟨ne1,q1⟩
    · rcases get_set h2 with⟨rfl,q2,_⟩ | ⟨ne2,q2⟩
      · rfl
      · cases q1
        rw[DK] at v1
        rw[out ne2] at v2
        cases v1
        exact absurd rfl (J1 k w2 a ne2 q2 m2 m1 v2)
    · rcases get_set h2 with⟨rfl,q2,_⟩ | ⟨ne2,q2⟩
      · cases q2
        rw[DK] at v2
        rw[out ne1] at v1
        cases v2
        exact absurd rfl (J1 j w1 a ne1 q1 m1 m2 v1)
      · rw[out ne1] at v1
        rw[out ne2] at v2
        exact R.CJ j k w1 w2 a q1 m1 q2 m2 v1 v2
  · rcases get_set hj with⟨rfl,q,_⟩ | ⟨ne,q⟩
    · cases q
      rw[DK] at hv
      cases hv
      obtain⟨c,e,_,_,_,hB⟩:=p
      cases e
      exact hB
    · rw[out ne] at hv;exact R.own j o a q hv
  · rcases get_set hj with⟨rfl,q,_⟩ | ⟨ne,q⟩
    · cases q;cases p
    · rw[out ne] at hv;exact R.bor j o a q hv
  · obtain⟨h1,o,h2⟩:=R.par j a hj
    have ne:i≠j:=fun z=>by subst z;exact nb o h2
    exact⟨by rw[out ne];exact h1,o,by rw[List.getElem?_set_ne ne];exact h2⟩
noncomputable def ji:GS:=fun S=>some (.nx S)
noncomputable def bD (a b:GS):GS:=fun S=>(a S).bind fun o=>match o with
 | .nx S1=>b S1
 | o=>some o
noncomputable def dR (i:Nat) (g:GE):GS:=fun S=>(g S).bind fun p=>match p.1 with
 | .m o=>(o7 i (.m o) p.2).map .nx
 | u=>(fz u p.2).bind fun q=>(o7 i (.t q.1) q.2).map .nx
noncomputable def mO (g:GE):GS:=fun S=>(g S).map fun p=>.nx p.2
noncomputable def eZ (g:GE):GS:=fun S=>(g S).bind fun p=>match p.1 with
 | .v i=>match p.2[i]? with
  | some (some (.t d))=>some (.rt (.t d) p.2)
  | some (some (.m o))=>some (.rt (.m o) (p.2.set i none))
  | _=>none
 | .s _=>none
 | .f _=>none
 | u=>some (.rt u p.2)
noncomputable def OJ:GS:=fun S=>some (.rt (.t .bZ) S)
noncomputable def rK (q:GT) (a b:GS):GS:=fun S=>(q S).bind fun p=>if p.1 then a p.2 else b p.2
theorem CK.mono {K:PySem.W.Frag}{B:Base}{F F1:Hp}{D:Ends}(g:∀b o,F b=some o→F1 b=some o):∀{o:Out},CK K B F D o→CK K B F1 D o
 | .nx _,h=>fun σ' F' H' R le=>h σ' F' H' R fun b o z=>le b o (g b o z)
 | .bk _,h=>fun σ' F' H' R le=>h σ' F' H' R fun b o z=>le b o (g b o z)
 | .ct _,h=>fun σ' F' H' R le=>h σ' F' H' R fun b o z=>le b o (g b o z)
 | .rt _ _,h=>fun v σ' F' H' R le=>h v σ' F' H' R fun b o z=>le b o (g b o z)
section
variable {X:Cx}{a b c e:Expr}{pos p p2:Pos}{x:Str}{st:Stmt}{rest b1 b2 body:List Stmt}{g:GE}{s1 s2:GS}{q1:GT}
theorem dg:JB X [] ji:=⟨fun B=>HK.imp fun D σ H ⟨S,F,o,R,h,k⟩=>by cases h;exact k σ F H R fun _ _ z=>z⟩
theorem aB (h1:JS X st s1) (h2:JB X rest s2):JB X (st :: rest) (bD s1 s2):=⟨fun B=>(ER (h1.h B) (h2.h B)).imp fun D σ H ⟨S,F,o,R,h,k⟩=>by
 obtain⟨o1,e1,h⟩:=ah h
 refine⟨S,F,o1,R,e1,?_⟩
 cases o1 with
 | nx S1=>exact fun σ' F' H' R' le=>⟨S1,F',o,R',h,k.mono le⟩
 | rt u S1=>cases h;exact k
 | bk S1=>cases h;exact k
 | ct S1=>cases h;exact k⟩
theorem aR (h1:JS X st s1):JB X [st] s1:=⟨fun B=>HL (h1.h B)⟩
theorem iB.put {K:PySem.W.Frag}{B:Base}{S:SS}{σ:St}{H0 F H:Hp}{v:V}{o:MO}(r:iB K B S σ H0 F H v (.m o)):J0 B S σ F H v (.m o):=by
 obtain⟨a,e,_,f,h,n,hB⟩:=r
 exact⟨a,e,f,h,n,hB⟩
theorem IF {i:Nat}{K:PySem.W.Frag}{B:Base}{D:Ends}{σ:St}{H:Hp}(h:tO K B (dR i g) D σ H):KN (tE K B g) (zP i) D σ H:=by
 obtain⟨S,F,o,R,h,k⟩:=h
 obtain⟨⟨u,S1⟩,h1,h⟩:=ah h
 refine⟨S,F,u,S1,R,h1,fun v F1 H1 R1 st1 r1=>?_⟩
 have go:(∀o',u≠.m o')→(fz u S1).bind (fun q=>(o7 i (.t q.1) q.2).map Out.nx)=some o→D.nx (σ.set i (some v)) H1:=fun _ h=>by
  obtain⟨⟨d,S2⟩,h2,h⟩:=ah h
  obtain⟨S3,h3,h⟩:=aq h
  subst h
  obtain⟨F2,R2,st2,r2⟩:=Fy R1 st1 r1 h2
  exact k _ F2 H1 (R2.put h3 r2) st2.ext.le
 cases u with
 | m o'=>
  obtain⟨S3,h3,h⟩:=aq (show(o7 i (.m o') S1).map Out.nx=some o from h)
  subst h
  exact k _ F1 H1 (R1.put h3 r1.put) st1.ext.le
 | t d=>exact go (fun _ z=>by cases z) h
 | b d=>exact go (fun _ z=>by cases z) h
 | s d=>exact go (fun _ z=>by cases z) h
 | f d=>exact go (fun _ z=>by cases z) h
 | v d=>exact go (fun _ z=>by cases z) h
theorem bB {i:Nat}{pos':Pos}(hN:X.N.Nodup) (hi:X.N[i]? =some x) (hx:Loc X.env.scope x) (he:JE X e g) (hs:swapsWith e (some (.Name x pos')) pos.line X.env=pure false:=by rfl)
  (hf:X.fn x=true∨X.env.scope.names.lookup x=some .local:=by first | exact .inl rfl | exact .inr rfl | assumption):JS X (.Assign [.Name x pos'] e pos) (dR i g):=
 ⟨fun B=>(KP hN hi hx (he.h B) hs hf).imp fun D σ H h=>IF h⟩
theorem jB (he:JE X e g) (hs:swapsWith e none pos.line X.env=pure false:=by rfl):JS X (.Expr e pos) (mO g):=⟨fun B=>(HM (he.h B) hs).imp fun D σ H ⟨S,F,o,R,h,k⟩=>by
 obtain⟨⟨u,S1⟩,h1,h⟩:=aq h
 subst h
 exact⟨S,F,u,S1,R,h1,fun v F1 H1 R1 st1 r1=>k σ F1 H1 R1 st1.ext.le⟩⟩
theorem Rel.drop {K:PySem.W.Frag}{B:Base}{S:SS}{σ:St}{F H:Hp}{i:Nat}{o:MO}(R:Rel K B S σ F H) (h:S[i]? =some (some (.m o))):Rel K B (S.set i none) σ F H:=by
 have back:∀{j w},(S.set i none)[j]? =some (some w)→i≠j∧S[j]? =some (some w):=fun {j w} z=>by
  rcases get_set z with⟨_,q,_⟩ | q
  ·cases q
  ·exact q
 refine⟨R.sub,by rw[List.length_set];exact R.len,fun j w z=>R.rep j w (back z).2,fun j k w1 w2 a h1 m1 h2 m2=>R.CJ j k w1 w2 a (back h1).2 m1 (back h2).2 m2,fun j o a z=>R.own j o a (back z).2,fun j o a z=>R.bor j o a (back z).2,fun j a z=>?_,R.ext⟩
 obtain⟨k1,o',k2⟩:=R.par j a z
 have ne:i≠j:=fun z=>by subst z;rw[h] at k2;cases k2
 exact⟨k1,o',by rw[List.getElem?_set_ne ne];exact k2⟩
theorem bE (he:JE X e g):JS X (.Return (some e) pos) (eZ g):=⟨fun B=>(KI (he.h B)).imp fun D σ H ⟨S,F,o,R,h,k⟩=>by
  obtain⟨⟨u,S1⟩,h1,h⟩:=ah h
  refine⟨S,F,u,S1,R,h1,fun v F1 H1 R1 st1 r1=>?_⟩
  cases u with
  | t d=>cases h;exact k v σ F1 H1 R1 st1.ext.le r1
  | b d=>cases h;cases r1
  | s d=>cases h
  | f d=>cases h
  | m o'=>cases h;exact k v σ F1 H1 R1 st1.ext.le (by obtain⟨a,e,h0,f,h,n,hB⟩:=r1;exact⟨a,e,hB,f,h,n,hB⟩)
  | v i =>
    obtain⟨hv,w,hw⟩:=r1
    dsimp only at h
    rw[hw] at h
    obtain⟨v',z1,z2⟩:=R1.rep i w hw
    rw[hv] at z1
    cases z1
    cases w with
    | t d=>cases h;exact k v σ F1 H1 R1 st1.ext.le z2
    | b d=>cases h
    | v d=>cases h
    | s d=>cases h
    | f d=>cases h
    | m o'=>
      cases h
      obtain⟨a,rfl,f,ha⟩:=z2
      have hB:=R1.own i o' a hw hv
      refine k _ σ F1 H1 (R1.drop hw) st1.ext.le ⟨a,rfl,hB,f,ha,fun⟨j,w,z,hm,hj⟩=>?_,hB⟩
      rcases get_set z with⟨_,q,_⟩ | ⟨ne,q⟩
      · cases q
      · exact ne (R1.CJ i j _ w a hw rfl q hm hv hj)⟩
theorem fM (hc:JT X c q1) (ha:JB X b1 s1) (hb:JB X b2 s2):JS X (.If c b1 b2 pos) (rK q1 s1 s2):=⟨fun B=>(NX (hc.h B) (ha.h B) (hb.h B)).imp fun D σ H ⟨S,F,o,R,h,k⟩=>by
 obtain⟨⟨d,S1⟩,h1,h⟩:=ah h
 refine⟨S,F,d,S1,R,h1,fun F1 H1 R1 st1=>?_⟩
 cases d with
 | true=>exact Bv ⟨S1,F1,o,R1,h,k.mono st1.ext.le⟩
 | false=>exact Bu ⟨S1,F1,o,R1,h,k.mono st1.ext.le⟩⟩
noncomputable abbrev GB:=D→SS→Option SS
noncomputable def tBd (K:PySem.W.Frag) (B:Base) (bd:GB):TG:=fun v σ H Q=>∃S F d S',Rel K B S σ F H∧Rep F v d∧bd d S=some S'∧∀σ',Rel K B S' σ' F H→Q σ' H
structure JG (X:Cx) (tg:Expr) (bd:GB):Prop where
 h:∀B,PG X tg (tBd X.K B bd)
noncomputable abbrev J2:=List D→SS→Option SS
theorem PG.imp {tg:Expr}{t t':TG}(h:PG X tg t) (k:∀v σ H Q,t' v σ H Q→t v σ H Q):PG X tg t':=fun pins s σ H v u Q I r q=>h pins s σ H v u Q I r (k v σ H Q q)
theorem S8.imp {tg:List Expr}{t t':Ze}(h:S8 X tg t) (k:∀v σ H Q,t' v σ H Q→t v σ H Q):S8 X tg t':=fun pins s σ H v u Q I r q=>h pins s σ H v u Q I r (k v σ H Q q)
noncomputable def bName (i:Nat):GB:=fun d S=>o7 i (.t d) S
theorem uy {i:Nat}(hN:X.N.Nodup) (hi:X.N[i]? =some x) (hx:Loc X.env.scope x) (hf:X.fn x=true∨X.env.scope.names.lookup x=some .local:=by first | exact .inl rfl | exact .inr rfl | assumption):JG X (.Name x pos) (bName i):=
 ⟨fun B=>(Cv hN hi hx hf).imp fun v σ H Q ⟨S,F,d,S',R,r,h,k⟩=>k _ (R.put h r)⟩
noncomputable def Uc:J2:=fun ds S=>match ds with
 | []=>some S
 | _=>none
noncomputable def OL (b:GB) (bs:J2):J2:=fun ds S=>match ds with
 | d :: r=>(b d S).bind fun S1=>bs r S1
 | []=>none
noncomputable def Ud (n:Nat) (bs:J2):GB:=fun d S=>match d with
 | .tup ds=>if ds.length=n then bs ds S else none
 | _=>none
noncomputable def Ue (bd:GB) (g:GD):GS:=fun S=>(g S).bind fun p=>(bd p.1 p.2).map .nx
noncomputable def Walk (J:It) (F:Hp) (ds:List D):Prop:=∀F' H',(∀b o,F b=some o→F' b=some o)→Sub F' H'→∀i,(∀d,ds[i]? =some d→J.go i H'∧∀x H2,J.Q2 i H' x H2→H2=H'∧Rep F' x d)∧(ds.length≤i→J.stop i H')
noncomputable abbrev GI:=SS→Option (List D×SS)
noncomputable def Zt (K:PySem.W.Frag) (B:Base) (gi:GI):TI:=fun σ H R=>∃S F ds S',Rel K B S σ F H∧gi S=some (ds,S')∧∀J F' H',Rel K B S' σ F' H'→Step S S' σ F H F' H'→Walk J F' ds→R J H'
structure JI (X:Cx) (tg e:Expr) (gi:GI):Prop where
 h:∀B,PI X tg e (Zt X.K B gi)
theorem PI.orelse {tg:Expr}{wi:TI}(h:∀σ H R,wi σ H R→∃wi',PI X tg e wi'∧wi' σ H R):PI X tg e wi:=fun pins s σ H R I q=>let⟨_,h1,h2⟩:=h σ H R q;h1 pins s σ H R I h2
noncomputable def Ug (g:GD):GI:=fun S=>(g S).bind fun p=>match p.1 with
 | .tup ds=>some (ds,p.2)
 | .lst ds=>some (ds,p.2)
 | _=>none
noncomputable def z4 (g:GD):GI:=fun S=>(g S).bind fun p=>match p.1 with
 | .tup ds=>some (ds,p.2)
 | .lst ds=>some (ds,p.2)
 | .str z=>some (z.cps.toList.map fun c=>.str ⟨#[c]⟩,p.2)
 | _=>none
theorem DL {K:PySem.W.Frag}{F:Hp}{a:Addr}{vs:List V}{ds:List D}(fa:F a=some (.lst vs)) (rs:bx F vs ds):Walk (Td K a) F ds:=fun F' H' le sb i=>by
 have ha:pG K H' a vs:=.inl (Rd.of (sb a _ (le _ _ fa)))
 refine⟨fun d hd=>?_,fun hl=>⟨vs,ha,by rw[rs.length];exact hl⟩⟩
 obtain⟨v,h1,h2⟩:=rs.get hd
 refine⟨⟨vs,v,ha,h1⟩,fun x H2 y=>⟨y.1,?_⟩⟩
 have:=y.2 vs ha
 rw[h1] at this
 cases this
 exact h2.le le
theorem FH {K:PySem.W.Frag}{F:Hp}{a:Addr}{vs:List V}{ds:List D}(fa:F a=some (.tup vs)) (rs:bx F vs ds):Walk (Te K a) F ds:=fun F' H' le sb i=>by
 have ha:zO K H' a vs:=.inl (Rd.of (sb a _ (le _ _ fa)))
 refine⟨fun d hd=>?_,fun hl=>⟨vs,ha,by rw[rs.length];exact hl⟩⟩
 obtain⟨v,h1,h2⟩:=rs.get hd
 refine⟨⟨vs,v,ha,h1⟩,fun x H2 y=>⟨y.1,?_⟩⟩
 have:=y.2 vs ha
 rw[h1] at this
 cases this
 exact h2.le le
theorem FI {F:Hp}{z:Str}:Walk (T6 z) F (z.cps.toList.map fun c=>.str ⟨#[c]⟩):=fun F' H' le sb i=>by
 refine⟨fun d hd=>?_,fun hl=>(show z.cps.size≤i by simpa using hl)⟩
 rw[List.getElem?_map] at hd
 obtain⟨c,hc,rfl⟩:=aq hd
 have hc':z.cps[i]? =some c:=by rw[←Array.getElem?_toList];exact hc
 refine⟨(Array.getElem?_eq_some_iff.mp hc').1,fun x H2 y=>⟨y.1,?_⟩⟩
 obtain⟨c2,k1,rfl⟩:=y.2
 rw[hc'] at k1
 cases k1
 exact .str _
theorem uN {gd:GD}(h:JD X e gd):JI X (.Name x pos) e (z4 gd):=⟨fun B=>PI.orelse fun σ H R0 ⟨S,F,ds,S',R,hg,k⟩=>by
 obtain⟨⟨d,S1⟩,h1,hg⟩:=ah hg
 cases d <;> try (cases hg)
 ·refine⟨_,Lm (h.h B),S,F,_,_,R,h1,fun v F1 H1 R1 st1 r1=>?_⟩
  exact⟨_,CM r1,k _ F1 H1 R1 st1 FI⟩
 ·refine⟨_,KQ (h.h B),S,F,_,_,R,h1,fun v F1 H1 R1 st1 r1=>?_⟩
  obtain⟨a,vs,rfl,fa,ha,rs⟩:=R1.sub.pB r1
  exact⟨a,rfl,⟨vs,.inl ha⟩,k _ F1 H1 R1 st1 (FH fa rs)⟩
 ·refine⟨_,HN (h.h B),S,F,_,_,R,h1,fun v F1 H1 R1 st1 r1=>?_⟩
  obtain⟨a,vs,rfl,fa,ha,rs⟩:=R1.sub.lE r1
  exact⟨a,rfl,⟨vs,.inl ha⟩,k _ F1 H1 R1 st1 (DL fa rs)⟩⟩
noncomputable def xm (lo:Int) (n:Nat):List D:=(List.range n).map fun(k:Nat)=>D.int (lo+(k:Int))
noncomputable def uO (gA:GA):GI:=fun S=>(gA S).bind fun p=>match p.1 with
 | [.int j]=>if j < 1000000∧-1000000 < j then some (xm 0 j.toNat,p.2) else none
 | _=>none
noncomputable def OM (gA:GA):GI:=fun S=>(gA S).bind fun p=>match p.1 with
 | [.int i,.int j]=>if i < 1000000∧-1000000 < i∧j < 1000000∧-1000000 < j then some (xm i (j - i).toNat,p.2) else none
 | _=>none
theorem FJ {F:Hp}{lo:Int}{n:Nat}:Walk (Q3 lo n) F (xm lo n):=fun F' H' le sb i=>by
 refine⟨fun d hd=>?_,fun hl=>(show n≤i by simpa[xm] using hl)⟩
 unfold xm at hd
 rw[List.getElem?_map] at hd
 obtain⟨c,hc,rfl⟩:=aq hd
 obtain⟨hl,e⟩:=List.getElem?_eq_some_iff.mp hc
 rw[List.getElem_range] at e
 subst e
 refine⟨show i < n by simpa using hl,fun x H2 y=>⟨y.1,?_⟩⟩
 rw[y.2]
 exact .int _
theorem xE {tg : Expr} {gA : GA} (hg : Gl X "range") (hm : X.mg "range" = none) (ha : JA X [a] gA) (hs : starEach [a] X.env = [(false, eval a X.env)] := by rfl) : JI X tg (.Call (.Name "range" p) [a] [] pos) (uO gA) :=
  ⟨fun B=>PI.orelse fun σ H R0 ⟨S,F,ds,S',R,hg',k⟩=>by
  obtain⟨⟨d,S1⟩,h1,hg'⟩:=ah hg'
  refine⟨_,Dj hg hm (ha.h B) hs,S,F,d,S1,R,h1,fun vs F1 H1 R1 st1 r1=>?_⟩
  dsimp only at hg'
  split at hg'
  · split at hg'
    · rename_i j hj
      cases hg'
      cases r1 with
      | cons r rs=>
        cases rs
        exact⟨j,by rw[jY r],by omega,by omega,k _ F1 H1 R1 st1 FJ⟩
    · cases hg'
  · cases hg'⟩
noncomputable def loop (bd:GB) (body:GS):List D→SS→Option Out
 | [],S=>some (.nx S)
 | d :: ds,S=>(bd d S).bind fun S1=>(body S1).bind fun o=>match o with
  | .nx S2=>loop bd body ds S2
  | .ct S2=>loop bd body ds S2
  | .bk S2=>some (.nx S2)
  | .rt u S2=>some (.rt u S2)
noncomputable def DM (bd:GB) (gi:GI) (body:GS):GS:=fun S=>(gi S).bind fun p=>loop bd body p.1 p.2
theorem yN {tg iter:Expr}{bd:GB}{gi:GI}(hp:PassesOwn (model X.prog X.w) X.A X.env X.xe) (hc:X.calm=true) (hi:JI X tg iter gi) (hg:JG X tg bd) (hb:JB X body s1) (hs:∀x,foldedSetIterable iter X.env x=pure x:=by intro _;rfl):
  JS X (.For tg iter body [] pos) (DM bd gi s1):=⟨fun B=>(KR hp hc (hi.h B) (hg.h B) (hb.h B) hs).imp fun D σ H ⟨S,F,o,R,h,k⟩=>by
 obtain⟨⟨ds,S1⟩,h1,h⟩:=ah h
 refine⟨S,F,ds,S1,R,h1,fun J F1 H1 R1 st1 w=>?_⟩
 refine⟨fun i m σ' H'=>∃S' F',Rel X.K B S' σ' F' H'∧(∀b o,F1 b=some o→F' b=some o)∧i≤ds.length∧m=ds.length - i∧loop bd s1 (ds.drop i) S'=some o,⟨_,S1,F1,R1,fun _ _ z=>z,Nat.zero_le _,rfl,h⟩,?_⟩
 rintro i m σ' H' ⟨S',F',R',le,hl,rfl,m8⟩
 have w':=w F' H' le R'.sub i
 by_cases hlt:i < ds.length
 ·have hd:ds[i]? =some ds[i]:=List.getElem?_eq_getElem hlt
  obtain⟨go,yl⟩:=w'.1 _ hd
  rw[List.drop_eq_getElem_cons hlt] at m8
  obtain⟨S2,e2,m8⟩:=ah m8
  obtain⟨o2,e3,m8⟩:=ah m8
  refine .inr ⟨go,_,fun σ2 H2 n=>⟨ds.length - (i+1),by omega,n⟩,fun x H2 y=>?_⟩
  obtain⟨rfl,rx⟩:=yl x H2 y
  refine⟨S',F',_,S2,R',rx,e2,fun σ3 R3=>⟨S2,F',o2,R3,e3,?_⟩⟩
  cases o2 with
  | nx S3=>exact fun ON F4 H4 R4 Lp=>⟨S3,F4,R4,fun b o z=>Lp b o (le b o z),hlt,rfl,m8⟩
  | ct S3=>exact fun ON F4 H4 R4 Lp=>⟨S3,F4,R4,fun b o z=>Lp b o (le b o z),hlt,rfl,m8⟩
  | bk S3=>cases m8;exact fun ON F4 H4 R4 Lp=>k ON F4 H4 R4 fun b o z=>Lp b o (le b o (st1.ext.le b o z))
  | rt u S3=>cases m8;exact fun v ON F4 H4 R4 Lp=>k v ON F4 H4 R4 fun b o z=>Lp b o (le b o (st1.ext.le b o z))
 ·have e:i=ds.length:=by omega
  subst e
  rw[List.drop_length] at m8
  cases m8
  exact .inl ⟨w'.2 (Nat.le_refl _),k σ' F' H' R' fun b o z=>le b o (st1.ext.le b o z)⟩⟩
end
end L2
end
section
set_option Elab.async false
set_option linter.all false
set_option maxRecDepth 100000
namespace L2
open PySem PySem.Spec PyProof.Rows
noncomputable def Nc:U→MO→Option U
 | .m _,o=>some (.m o)
 | .b _,o=>some (.b o)
 | _,_=>none
noncomputable def J3:U→Option MO
 | .m o=>some o
 | .b o=>some o
 | _=>none
noncomputable def qz (S:SS) (i:Nat) (f:MO→Option (D×MO)):Option (D×SS):=match S[i]? with
 | some (some (.m o))=>(f o).map fun r=>(r.1,S.set i (some (.m r.2)))
 | some (some (.b o))=>(f o).map fun r=>(r.1,S.set i (some (.b r.2)))
 | _=>none
theorem At.OO {F H:Hp}{a:Addr}{o:MO}{ob:Obj}{u:HO}(h:At F H a o):H a≠some (.jV ob u):=fun z=>by
 cases o with
 | lst ds=>obtain⟨vs,e,_⟩:=h;rw[z] at e;cases e
 | dct ds=>obtain⟨vs,e,_⟩:=h;rw[z] at e;cases e
 | xB ds=>obtain⟨vs,e,_⟩:=h;rw[z] at e;cases e
 | ins C ds=>obtain⟨vs,⟨dx,e⟩,_⟩:=h;rw[z] at e;cases e
theorem wA.dB {K:PySem.W.Frag}{F H:Hp}{v:V}{u:U}(r:wA K F H v u) (hm:gg u=true):∃a o,v= .ref a∧F a=none∧J3 u=some o∧At F H a o:=by
 cases u with
 | t d=>cases hm
 | v d=>cases hm
 | s d=>cases hm
 | f d=>cases hm
 | m o=>obtain⟨a,e,f,h⟩:=r;exact⟨a,o,e,f,rfl,h⟩
 | b o=>obtain⟨a,e,f,h⟩:=r;exact⟨a,o,e,f,rfl,h⟩
theorem Rel.write {K : PySem.W.Frag} {B : Base} {S : SS} {σ : St} {F H : Hp} {i : Nat} {u u' : U} {a : Addr} {ho : HO} {o : MO} (R : Rel K B S σ F H) (hS : S[i]? = some (some u)) (hu : Nc u o = some u') (hv : σ[i]? = some (some (.ref a))) (ha : At F (upd H a ho) a o) :
    Rel K B (S.set i (some u')) σ F (upd H a ho)∧Step S (S.set i (some u')) σ F H F (upd H a ho):=by
  have hm:gg u=true∧gg u'=true:=by cases u <;> cases hu <;> exact⟨rfl,rfl⟩
  have OP:F a=none∧∀b ob w,H b=some (.jV ob w)→b≠a:=by
    obtain⟨v,h1,h2⟩:=R.rep i u hS
    rw[hv] at h1
    cases h1
    obtain⟨b,_,e,f,_,k⟩:=h2.dB hm.1
    cases e
    exact⟨f,fun b ob w z e=>k.OO (by rw[e] at z;exact z)⟩
  have OQ:=OP.1
  have Nd:∀b ob w,H b=some (.jV ob w)→upd H a ho b=some (.jV ob w):=fun b ob w z=>by rw[aP (OP.2 b ob w z)];exact z
  have mAt:L2.dB S σ a:=⟨i,u,hS,hm.1,hv⟩
  have hl:i < S.length:=(List.getElem?_eq_some_iff.mp hS).1
  have kb:∀{j w},(S.set i (some u'))[j]? =some (some w)→(i=j∧u'=w)∨(i≠j∧S[j]? =some (some w)):=fun {j w} z=>by
    rcases get_set z with⟨e,q,_⟩ | q
    · exact .inl ⟨e,Option.some.inj q⟩
    · exact .inr q
  have orig:∀{j w},(S.set i (some u'))[j]? =some (some w)→gg w=true→∃w0,S[j]? =some (some w0)∧gg w0=true:=fun {j w} z hw=>by
    rcases kb z with⟨rfl,rfl⟩ | ⟨_,q⟩
    · exact⟨u,hS,hm.1⟩
    · exact⟨w,q,hw⟩
  have keepR:∀b o,b≠a→Rd H b o→Rd (upd H a ho) b o:=fun b o ne r=>by
    rcases r with r | ⟨ob,r⟩
    · exact .inl (by rw[aP ne];exact r)
    · exact .inr ⟨ob,by rw[aP ne];exact r⟩
  refine⟨⟨fun b o z=>by rw[aP (fun e=>by rw[e,OQ] at z;cases z)];exact R.sub b o z,by rw[List.length_set];exact R.len,fun j w z=>?_,fun j k w1 w2 c z1 m1 z2 m2=>?_,fun j o' c z hc=>?_,fun j o' c z hc=>?_,fun j c z=>?_,?_⟩,⟨?_,fun c ⟨j,w,z,hw,hc⟩=>?_,fun j w z=>?_⟩⟩
  · rcases kb z with⟨rfl,rfl⟩ | ⟨ne,q⟩
    · refine⟨.ref a,hv,?_⟩
      cases u <;> cases hu
      · exact⟨a,rfl,OQ,ha⟩
      · exact⟨a,rfl,OQ,ha⟩
    · obtain⟨v,h1,h2⟩:=R.rep j w q
      refine⟨v,h1,?_⟩
      by_cases hw:gg w=true
      · obtain⟨c,o',rfl,f,e,h⟩:=h2.dB hw
        have hca:c≠a:=fun z=>ne (R.CJ i j u w a hS hm.1 q hw hv (by rw[h1,z]))
        have h':At F (upd H a ho) c o':=h.le (fun _ _ z=>z) fun o z=>by rw[aP hca];exact z
        cases w <;> cases hw <;> cases e
        · exact⟨c,rfl,f,h'⟩
        · exact⟨c,rfl,f,h'⟩
      · cases w with
        | t d=>exact h2
        | v d=>exact h2
        | s d=>obtain⟨c,e,h⟩:=h2;exact⟨c,e,h.le Nd⟩
        | f d=>exact h2
        | m o=>exact absurd rfl hw
        | b o=>exact absurd rfl hw
  · obtain⟨Uh,q1,n1⟩:=orig z1 m1
    obtain⟨Ui,q2,n2⟩:=orig z2 m2
    exact R.CJ j k Uh Ui c q1 n1 q2 n2
  · rcases kb z with⟨rfl,rfl⟩ | ⟨_,q⟩
    · cases u <;> cases hu
      exact R.own _ _ c hS hc
    · exact R.own j o' c q hc
  · rcases kb z with⟨rfl,rfl⟩ | ⟨_,q⟩
    · cases u <;> cases hu
      exact R.bor _ _ c hS hc
    · exact R.bor j o' c q hc
  · obtain⟨k1,o',k2⟩:=R.par j c z
    refine⟨k1,?_⟩
    by_cases e:i=j
    · subst e
      rw[hS] at k2
      cases k2
      cases hu
      exact⟨o,List.getElem?_set_self hl⟩
    · exact⟨o',by rw[List.getElem?_set_ne e];exact k2⟩
  · refine⟨R.ext.le,fun b o z n=>?_,R.ext.jR,fun b o z=>?_,fun b o w z=>Nd b o w (R.ext.jV b o w z)⟩
    · have hb:b≠a:=fun e=>by
        subst e
        cases u with
        | m o'=>rw[R.own i o' b hS hv] at z;cases z
        | b o'=>exact n (R.bor i o' b hS hv)
        | t d=>cases hu
        | v d=>cases hu
        | s d=>cases hu
        | f d=>cases hu
      rw[aP hb]
      exact R.ext.keep b o z n
    · by_cases hb:b=a
      · exact⟨ho,by rw[hb,aW]⟩
      · rw[aP hb];exact R.ext.there b o z
  · refine⟨fun _ _ z=>z,fun b o z n=>?_,fun _ _ _ _ z=>z,fun b o z=>?_,Nd⟩
    · rw[aP (fun e=>n (by rw[e];exact mAt))];exact z
    · by_cases hb:b=a
      · exact⟨ho,by rw[hb,aW]⟩
      · exact⟨o,by rw[aP hb];exact z⟩
  · obtain⟨w0,q,n⟩:=orig z hw
    exact⟨j,w0,q,n,hc⟩
  · by_cases e:i=j
    · subst e;exact⟨u',List.getElem?_set_self hl⟩
    · exact⟨w,by rw[List.getElem?_set_ne e];exact z⟩
theorem oz {S S':SS}{i:Nat}{f:MO→Option (D×MO)}{d:D}(h:qz S i f=some (d,S')):∃u u' o o',S[i]? =some (some u)∧gg u=true∧J3 u=some o∧f o=some (d,o')∧Nc u o'=some u'∧S'=S.set i (some u'):=by
 unfold qz at h
 split at h
 ·rename_i o e
  obtain⟨⟨d',o'⟩,h1,h⟩:=aq h
  cases h
  exact⟨_,_,o,o',e,rfl,rfl,h1,rfl,rfl⟩
 ·rename_i o e
  obtain⟨⟨d',o'⟩,h1,h⟩:=aq h
  cases h
  exact⟨_,_,o,o',e,rfl,rfl,h1,rfl,rfl⟩
 ·cases h
noncomputable def Uj (r:V→List V→Hp→VK→Prop) (h:List D→MO→Option (D×MO)):Prop:=
 ∀F H a vs xs ds args res o',Sub F H→H a=some (.lst vs)→F a=none→bx F vs ds→bx F xs args→h args (.lst ds)=some (res,o')→
  ∀Q:VK,(∀rv ho,Rep F rv res→At F (upd H a ho) a o'→Q rv (upd H a ho))→r (.ref a) xs H Q
noncomputable def fq:MO→Bool
 | .lst _=>true
 | _=>false
noncomputable def Lq (S:SS) (i:Nat):Bool:=match S[i]? with
 | some (some (.m (.lst _)))=>true
 | some (some (.b (.lst _)))=>true
 | _=>false
theorem Lr {K:PySem.W.Frag}{B:Base}{S:SS}{σ:St}{F H:Hp}{i:Nat}(R:Rel K B S σ F H) (h:Lq S i=true):∃u a vs ds,S[i]? =some (some u)∧gg u=true∧J3 u=some (.lst ds)∧σ[i]? =some (some (.ref a))∧F a=none∧H a=some (.lst vs)∧bx F vs ds:=by
 unfold Lq at h
 split at h
 ·rename_i ds e
  obtain⟨v,k1,a,rfl,f,vs,k2,k3⟩:=R.rep i _ e
  exact⟨_,a,vs,ds,e,rfl,rfl,k1,f,k2,k3⟩
 ·rename_i ds e
  obtain⟨v,k1,a,rfl,f,vs,k2,k3⟩:=R.rep i _ e
  exact⟨_,a,vs,ds,e,rfl,rfl,k1,f,k2,k3⟩
 ·cases h
noncomputable def eM (i:Nat) (h:List D→MO→Option (D×MO)) (gA:GA):GD:=fun S=>if Lq S i then(gA S).bind fun p=>qz p.2 i (h p.1) else none
theorem FL {K:PySem.W.Frag}{B:Base}{S:SS}{σ:St}{F H:Hp}{i:Nat}{a:Addr}{u:U}{ds:List D}(R:Rel K B S σ F H) (hS:S[i]? =some (some u)) (hm:gg u=true) (hi:J3 u=some (.lst ds)) (hv:σ[i]? =some (some (.ref a))):F a=none∧∃vs,H a=some (.lst vs)∧bx F vs ds:=by
 obtain⟨v,k1,k2⟩:=R.rep i u hS
 rw[hv] at k1
 cases k1
 obtain⟨b,o2,e1,f,e2,k⟩:=k2.dB hm
 cases e1
 rw[hi] at e2
 cases e2
 exact⟨f,k⟩
section
variable {X:Cx}{a b c e:Expr}{es:List Expr}{pos p p2 apos cpos px:Pos}{x name:Str}{g ga gb gc:GD}{gA:GA}{id:String}
theorem CN {i:Nat}{r:V→List V→Hp→VK→Prop}{h:List D→MO→Option (D×MO)}(slot:Slot "list" name id) (hty:typeOf (.builtin id)=pure (.type "method_descriptor")) (hm:Lg X id r) (hh:Uj r h) (hl:∀args o,fq o=false→h args o=none) (ha:JA X (e :: es) gA)
  (hN:X.N[i]? =some x:=by rfl) (hv:Bd X.env.scope x:=by first | exact Or.inl rfl | exact Or.inr (Or.inl rfl) | exact Or.inr (Or.inr rfl))
  (hbase:attributeBase (.Name x px) name X.env (eval (.Name x px) X.env)=eval (.Name x px) X.env:=by rfl)
  (hfew:((backTo cpos (starEach (e :: es) X.env)).all (fun x=>!x.1) && (backToKw cpos (keywordEach [] X.env)).all (fun x=>x.1.isSome)
   && decide ((e :: es).length+([]:List Keyword).length+(if([]:List Keyword).isEmpty then 0 else 1) < 30))=true:=by rfl)
  (hline:(apos.endLine == cpos.line)=true:=by rfl) (hs:starEach (e :: es) X.env=(false,eval e X.env) :: starEach es X.env:=by rfl) (hplain:(backTo cpos (starEach es X.env)).any (·.1)=false:=by rfl)
  (hd:(x == ("__debug__":Str))=false:=by decide) (hcd:(x == ("__classdict__":Str))=false:=by decide):
  JD X (.Call (.Attribute (.Name x px) name apos) (e :: es) [] cpos) (eM i h gA):=
 ⟨fun B=>(Ox PySem.F.plainAttrs_list slot hty hm (gw hN hv hd hcd) (ha.h B) hbase hfew hline hs hplain).imp fun σ H Q ⟨S,F,d,S',R,hg,q⟩=>by
 unfold eM at hg
 split at hg
 ·rename_i hL
  obtain⟨⟨args,S1⟩,h1,hg⟩:=ah hg
  obtain⟨u,u',o,o',hS,DN,hio,hf,IG,rfl⟩:=oz hg
  obtain⟨u0,a,Zj,ds0,_,_,_,hv0,_,hH,_⟩:=Lr R hL
  cases o with
  | dct kvs=>rw[hl _ _ rfl] at hf;cases hf
  | xB kvs=>rw[hl _ _ rfl] at hf;cases hf
  | ins C kvs=>rw[hl _ _ rfl] at hf;cases hf
  | lst ds=>
   refine⟨.ref a,hv0,.inl ⟨rfl,Zj,pG.of hH⟩,S,F,args,S1,R,h1,fun xs F1 H1 R1 st1 r1=>?_⟩
   obtain⟨hf1,vs,hH1,rs⟩:=FL R1 hS DN hio hv0
   refine hh F1 H1 a vs xs ds args d o' R1.sub hH1 hf1 rs r1 hf Q fun rv ho rr ha=>?_
   obtain⟨R2,st2⟩:=R1.write hS IG hv0 ha
   exact q rv F1 _ R2 (st1.trans st2) rr
 ·cases hg⟩
noncomputable def hAppend:List D→MO→Option (D×MO)
 | [d],.lst ds=>if ds.length < 100000 then some (.bZ,.lst (ds++[d])) else none
 | _,_=>none
theorem DO : Uj CH hAppend := by
  intro F H a vs xs ds args res o' sb hH fa rs rx hw Q q
  unfold hAppend at hw
  split at hw
  · rename_i d ds' e2
    cases e2
    split at hw
    · rename_i hl
      cases hw
      cases rx with
      | cons r rr=>
        cases rr
        exact⟨a,vs,_,rfl,rfl,hH,by rw[rs.length];exact Nat.lt_of_lt_of_le hl (by decide),q .bZ _ .bZ ⟨_,aW,rs.append (.cons r .nil)⟩⟩
    · cases hw
  · cases hw
noncomputable def z5:List D→MO→Option (D×MO)
 | [],.lst ds=>some (.bZ,.lst ds.reverse)
 | _,_=>none
theorem bx.reverse {F:Hp}:∀{vs:List V}{ds:List D},bx F vs ds→bx F vs.reverse ds.reverse
 | _,_,.nil=>.nil
 | _,_,.cons r rs=>by rw[List.reverse_cons,List.reverse_cons];exact(bx.reverse rs).append (.cons r .nil)
end
end L2
end
section
set_option Elab.async false
set_option linter.all false
set_option maxRecDepth 100000
namespace L2
open PySem PySem.Spec PyProof.Rows
theorem iB.step {K:PySem.W.Frag}{B:Base}{S S':SS}{σ:St}{H0 F H F' H':Hp}{v:V}{u:U}(r:iB K B S σ H0 F H v u) (st:Step S S' σ F H F' H'):iB K B S' σ H0 F' H' v u:=by
 cases u with
 | t d=>exact r.le st.ext.le
 | b o=>exact r
 | v i=>obtain⟨h1,u,h2⟩:=r;exact⟨h1,st.slots i u h2⟩
 | s i=>obtain⟨a,e,h⟩:=r;exact⟨a,e,h.le st.ext.jV⟩
 | f i=>exact r
 | m o=>
  obtain⟨a,e,h0,f,h,n,hB⟩:=r
  obtain⟨ho,hh⟩:=h.has
  exact⟨a,e,h0,st.ext.jR a ho hh n f,h.le st.ext.le fun o z=>st.ext.keep a o z n,fun m=>n (st.mu a m),hB⟩
noncomputable abbrev GU:=SS→Option (List U×SS)
noncomputable def tAU (K:PySem.W.Frag) (B:Base) (gu:GU):TA:=fun σ H Q=>∃S F us S',Rel K B S σ F H∧gu S=some (us,S')∧∀vs F' H',Rel K B S' σ F' H'→Step S S' σ F H F' H'→Paired (fun v u=>iB K B S' σ H F' H' v u) vs us→Q vs H'
structure JU (X:Cx) (es:List Expr) (gu:GU):Prop where
 h:∀B,PA X es (tAU X.K B gu)
 len:∀S us S',gu S=some (us,S')→us.length=es.length
noncomputable def br:GU:=fun S=>some ([],S)
noncomputable def bh (g:GD) (gu:GU):GU:=fun S=>(g S).bind fun p=>(gu p.2).map fun q=>(.t p.1 :: q.1,q.2)
noncomputable def iG (g:GE) (gu:GU):GU:=fun S=>(g S).bind fun p=>(gu p.2).map fun q=>(p.1 :: q.1,q.2)
section
variable {X:Cx}{e:Expr}{es:List Expr}{g:GD}{ge:GE}{gu:GU}
theorem bu:JU X [] br:=⟨fun B=>yD.imp fun σ H Q ⟨S,F,us,S',R,hg,q⟩=>by
 cases hg
 exact q [] F H R (Step.refl ..) .nil,fun S us S' h=>by cases h;rfl⟩
theorem aM (h:JD X e g) (hr:JU X es gu) (hs:starEach (e :: es) X.env=(false,eval e X.env) :: starEach es X.env:=by rfl):JU X (e :: es) (bh g gu):=
 ⟨fun B=>(ou (h.h B) (hr.h B) hs).imp fun σ H Q ⟨S,F,us,S',R,hg,q⟩=>by
 obtain⟨⟨d,S1⟩,h1,hg⟩:=ah hg
 obtain⟨⟨Ls,S2⟩,h2,hg⟩:=aq hg
 cases hg
 exact⟨S,F,d,S1,R,h1,fun v F1 H1 R1 st1 r1=>⟨S1,F1,Ls,S2,R1,h2,fun vs F2 H2 R2 st2 r2=>q _ F2 H2 R2 (st1.trans st2) (.cons (r1.le st2.ext.le) (Paired.De r2 fun _ _ z=>z.weak st1.ext.there))⟩⟩,
 fun S us S' hg=>by
  obtain⟨⟨d,S1⟩,h1,hg⟩:=ah hg
  obtain⟨⟨Ls,S2⟩,h2,hg⟩:=aq hg
  cases hg
  show Ls.length+1=es.length+1
  rw[hr.len _ _ _ h2]⟩
theorem cI (h:JE X e ge) (hr:JU X es gu) (hs:starEach (e :: es) X.env=(false,eval e X.env) :: starEach es X.env:=by rfl):JU X (e :: es) (iG ge gu):=
 ⟨fun B=>(ou (h.h B) (hr.h B) hs).imp fun σ H Q ⟨S,F,us,S',R,hg,q⟩=>by
 obtain⟨⟨d,S1⟩,h1,hg⟩:=ah hg
 obtain⟨⟨Ls,S2⟩,h2,hg⟩:=aq hg
 cases hg
 exact⟨S,F,d,S1,R,h1,fun v F1 H1 R1 st1 r1=>⟨S1,F1,Ls,S2,R1,h2,fun vs F2 H2 R2 st2 r2=>q _ F2 H2 R2 (st1.trans st2) (.cons (r1.step st2) (Paired.De r2 fun _ _ z=>z.weak st1.ext.there))⟩⟩,
 fun S us S' hg=>by
  obtain⟨⟨d,S1⟩,h1,hg⟩:=ah hg
  obtain⟨⟨Ls,S2⟩,h2,hg⟩:=aq hg
  cases hg
  show Ls.length+1=es.length+1
  rw[hr.len _ _ _ h2]⟩
end
noncomputable def resolve (S:SS):U→Option U
 | .t d=>some (.t d)
 | .v i=>match S[i]? with
  | some (some (.m o))=>some (.b o)
  | some (some (.b o))=>some (.b o)
  | _=>none
 | .m o=>some (.b o)
 | .b _=>none
 | .s ns=>some (.s ns)
 | .f a=>some (.f a)
noncomputable def aO (S:SS):List U→Option (List U)
 | []=>some []
 | u :: us=>(resolve S u).bind fun w=>(aO S us).map fun ws=>w :: ws
noncomputable def slotsOf:List U→List Nat
 | []=>[]
 | .v i :: us=>i :: slotsOf us
 | _ :: us=>slotsOf us
noncomputable def aT:List U→Nat
 | []=>0
 | .m _ :: us=>aT us+1
 | _ :: us=>aT us
noncomputable def wb:List U→List MO→SS→Option SS
 | [],[],S=>some S
 | .v i :: us,o :: outs,S=>match S[i]? with
  | some (some (.m _))=>wb us outs (S.set i (some (.m o)))
  | some (some (.b _))=>wb us outs (S.set i (some (.b o)))
  | _=>none
 | .m _ :: us,_ :: outs,S=>wb us outs S
 | .t _ :: us,outs,S=>wb us outs S
 | .s _ :: us,outs,S=>wb us outs S
 | .f _ :: us,outs,S=>wb us outs S
 | _,_,_=>none
noncomputable abbrev FM:=List U→Option (U×List MO)
noncomputable def bW (f:FM) (gu:GU):GE:=fun S=>(gu S).bind fun p=>
 if(slotsOf p.1).Nodup∧aT p.1≤1 then(aO p.2 p.1).bind fun us=>(f us).bind fun r=>(wb p.1 r.2 p.2).map fun S2=>(r.1,S2) else none
noncomputable def FN (K:PySem.W.Frag) (F H:Hp) (v:V):U→Prop
 | .s ns=>∃a,v= .ref a∧Iz K H a ns
 | .f a=>v= .ref a
 | .t d=>Rep F v d
 | .b o=>∃a,v= .ref a∧F a=none∧At F H a o
 | _=>False
noncomputable def addrs:List V→List U→List Addr
 | .ref a :: vs,.b _ :: us=>a :: addrs vs us
 | _ :: vs,_ :: us=>addrs vs us
 | _,_=>[]
structure Post (F H F' H':Hp) (as:List Addr) (outs:List MO):Prop where
 sub:Sub F' H'
 ext:Ext (fun a=>a∈as) F H F' H'
 out:Paired (fun a o=>F' a=none∧At F' H' a o) as outs
noncomputable def spT (K:PySem.W.Frag) (n:Nat) (f:FM):Sp:=fun vs H Q _=>vs.length=n∧∃F us r outs,Sub F H∧Paired (FN K F H) vs us∧(addrs vs us).Nodup∧f us=some (r,outs)∧∀v F' H',Post F H F' H' (addrs vs us) outs→DH H F' H' v r→Q v H'
section
variable {K:PySem.W.Frag}{B:Base}{S S1 S2:SS}{σ:St}{H0 F H F' H':Hp}
theorem oA {i:Nat}{w:U}(h:resolve S (.v i)=some w):∃u o,S[i]? =some (some u)∧gg u=true∧J3 u=some o∧w= .b o:=by
 unfold resolve at h
 dsimp only at h
 split at h
 ·rename_i o e;cases h;exact⟨_,o,e,rfl,rfl,rfl⟩
 ·rename_i o e;cases h;exact⟨_,o,e,rfl,rfl,rfl⟩
 ·cases h
theorem qA (R:Rel K B S σ F H):∀{vs:List V}{us ws:List U},Paired (fun v u=>iB K B S σ H0 F H v u) vs us→aO S us=some ws→Paired (FN K F H) vs ws
 | _,_,_,.nil,h=>by cases h;exact .nil
 | _,_,_,@Paired.cons _ _ _ v u vs us r rs,h=>by
  obtain⟨w,h1,h⟩:=ah h
  obtain⟨ws,h2,h⟩:=aq h
  subst h
  refine .cons ?_ (qA R rs h2)
  cases u with
  | t d=>cases h1;exact r
  | s d=>cases h1;exact r
  | f d=>cases h1;exact r
  | b o=>cases h1
  | m o=>cases h1;obtain⟨a,e,_,f,k,_⟩:=r;exact⟨a,e,f,k⟩
  | v i=>
   obtain⟨u,o,hu,hm,hi,rfl⟩:=oA h1
   obtain⟨hv,_⟩:=r
   obtain⟨v',k1,k2⟩:=R.rep i u hu
   rw[hv] at k1
   cases k1
   obtain⟨a,o2,e,f,e2,k⟩:=k2.dB hm
   rw[hi] at e2
   cases e2
   exact⟨a,e,f,k⟩
theorem qC (R : Rel K B S σ F H) : ∀ {vs : List V} {us ws : List U}, Paired (fun v u => iB K B S σ H0 F H v u) vs us → aO S us = some ws → ∀ a ∈ addrs vs ws,
    (∃i u,i∈slotsOf us∧S[i]? =some (some u)∧gg u=true∧σ[i]? =some (some (.ref a)))∨(0 < aT us∧H0 a=none∧B.H a=none∧¬dB S σ a)
  | _,_,_,.nil,h,a,ha=>by cases h;cases ha
  | _,_,_,@Paired.cons _ _ _ v u vs us r rs,h,a,ha=>by
    obtain⟨w,h1,h⟩:=ah h
    obtain⟨ws,h2,h⟩:=aq h
    subst h
    have ih:=qC R rs h2
    cases u with
    | t d=>
      cases h1
      have ha:a∈addrs vs ws:=by cases v <;> exact ha
      exact ih a ha
    | s d=>
      cases h1
      have ha:a∈addrs vs ws:=by cases v <;> exact ha
      exact ih a ha
    | f d=>
      cases h1
      have ha:a∈addrs vs ws:=by cases v <;> exact ha
      exact ih a ha
    | b o=>cases h1
    | m o =>
      cases h1
      obtain⟨c,rfl,k0,f,k,n,hB⟩:=r
      rcases List.mem_cons.mp (show a∈c :: addrs vs ws from ha) with rfl | ha
      · exact .inr ⟨Nat.succ_pos _,k0,hB,n⟩
      · rcases ih a ha with z | ⟨_,z⟩
        · exact .inl z
        · exact .inr ⟨Nat.succ_pos _,z⟩
    | v i =>
      obtain⟨u,o,hu,hm,hi,rfl⟩:=oA h1
      obtain⟨hv,_⟩:=r
      obtain⟨v',k1,k2⟩:=R.rep i u hu
      rw[hv] at k1
      cases k1
      obtain⟨c,o2,rfl,f,e2,k⟩:=k2.dB hm
      rcases List.mem_cons.mp (show a∈c :: addrs vs ws from ha) with rfl | ha
      · exact .inl ⟨i,u,List.mem_cons_self,hu,hm,hv⟩
      · rcases ih a ha with⟨j,w,z,z2⟩ | z
        · exact .inl ⟨j,w,List.mem_cons_of_mem _ z,z2⟩
        · exact .inr z
theorem eU (R : Rel K B S σ F H) : ∀ {vs : List V} {us ws : List U}, Paired (fun v u => iB K B S σ H0 F H v u) vs us → aO S us = some ws → (slotsOf us).Nodup → aT us ≤ 1 → (addrs vs ws).Nodup
  | _,_,_,.nil,h,_,_=>by cases h;exact List.nodup_nil
  | _,_,_,@Paired.cons _ _ _ v u vs us r rs,h,nd,fr=>by
    obtain⟨w,h1,h⟩:=ah h
    obtain⟨ws,h2,h⟩:=aq h
    subst h
    cases u with
    | t d=>
      cases h1
      have:=eU R rs h2 nd fr
      cases v <;> exact this
    | s d=>
      cases h1
      have:=eU R rs h2 nd fr
      cases v <;> exact this
    | f d=>
      cases h1
      have:=eU R rs h2 nd fr
      cases v <;> exact this
    | b o=>cases h1
    | m o=>
      cases h1
      have fr0:aT us=0:=by have:aT us+1≤1:=fr;omega
      obtain⟨c,rfl,k0,f,k,n,hB⟩:=r
      refine List.nodup_cons.mpr ⟨fun hc=>?_,eU R rs h2 nd (by omega)⟩
      rcases qC R rs h2 c hc with⟨j,w,_,z1,z2,z3⟩ | ⟨z,_⟩
      · exact n ⟨j,w,z1,z2,z3⟩
      · omega
    | v i =>
      obtain⟨u,o,hu,hm,hi,rfl⟩:=oA h1
      obtain⟨hv,_⟩:=r
      obtain⟨v',k1,k2⟩:=R.rep i u hu
      rw[hv] at k1
      cases k1
      obtain⟨c,o2,rfl,f,e2,k⟩:=k2.dB hm
      obtain⟨Uk,Ul⟩:=List.nodup_cons.mp (show(i :: slotsOf us).Nodup from nd)
      refine List.nodup_cons.mpr ⟨fun hc=>?_,eU R rs h2 Ul fr⟩
      rcases qC R rs h2 c hc with⟨j,w,z0,z1,z2,z3⟩ | ⟨_,_,_,z⟩
      · have:=R.CJ i j u w c hu hm z1 z2 hv z3
        subst this
        exact Uk z0
      · exact z ⟨i,u,hu,hm,hv⟩
theorem oB (R : Rel K B S σ F H) (P : Addr → MO → Prop) : ∀ {vs : List V} {us ws : List U} {outs : List MO} {S1 S2 : SS}, Paired (fun v u => iB K B S σ H0 F H v u) vs us → aO S us = some ws → wb us outs S1 = some S2 → (slotsOf us).Nodup → Paired P (addrs vs ws) outs →
    S2.length=S1.length∧(∀j,j∉slotsOf us→S2[j]? =S1[j]?)∧∀j∈slotsOf us,∃u u' o a,S1[j]? =some (some u)∧Nc u o=some u'∧S2[j]? =some (some u')∧σ[j]? =some (some (.ref a))∧P a o
  | _,_,_,_,_,_,.nil,h,hw,_,hp=>by
    cases h
    cases hp
    cases hw
    exact⟨rfl,fun _ _=>rfl,fun j hj=>by cases hj⟩
  | _, _, _, outs, S1, S2, @Paired.cons _ _ _ v u vs us r rs, h, hw, nd, hp => by
    obtain⟨w,h1,h⟩:=ah h
    obtain⟨ws,h2,h⟩:=aq h
    subst h
    cases u with
    | t d =>
      cases h1
      have hp:Paired P (addrs vs ws) outs:=by cases v <;> exact hp
      have hw:wb us outs S1=some S2:=by
        cases outs <;> exact hw
      have ih:=oB R P rs h2 hw nd hp
      exact ih
    | s d =>
      cases h1
      have hp:Paired P (addrs vs ws) outs:=by cases v <;> exact hp
      have hw:wb us outs S1=some S2:=by
        cases outs <;> exact hw
      have ih:=oB R P rs h2 hw nd hp
      exact ih
    | f d =>
      cases h1
      have hp:Paired P (addrs vs ws) outs:=by cases v <;> exact hp
      have hw:wb us outs S1=some S2:=by
        cases outs <;> exact hw
      have ih:=oB R P rs h2 hw nd hp
      exact ih
    | b o=>cases h1
    | m o =>
      cases h1
      obtain⟨c,rfl,k0,f,k,n,hB⟩:=r
      cases hp with
      | cons p1 p2=>
        have ih:=oB R P rs h2 (show wb us _ S1=some S2 from hw) nd p2
        exact ih
    | v i =>
      obtain⟨u0,o0,hu,hm,hi,rfl⟩:=oA h1
      obtain⟨hv,_⟩:=r
      obtain⟨v',k1,k2⟩:=R.rep i u0 hu
      rw[hv] at k1
      cases k1
      obtain⟨c,o2,rfl,f,e2,k⟩:=k2.dB hm
      obtain⟨Uk,Ul⟩:=List.nodup_cons.mp (show(i :: slotsOf us).Nodup from nd)
      cases hp with
      | @cons _ o _ outs p1 p2 =>
        have go : ∀ u u', S1[i]? = some (some u) → Nc u o = some u' → wb us outs (S1.set i (some u')) = some S2 → S2.length = S1.length ∧ (∀ j, j ∉ i :: slotsOf us → S2[j]? = S1[j]?) ∧ ∀ j ∈ i :: slotsOf us, ∃ u u' o a, S1[j]? = some (some u) ∧ Nc u o = some u' ∧ S2[j]? = some (some u') ∧ σ[j]? = some (some (.ref a)) ∧ P a o := fun u u' e1 e2 hw => by
          obtain⟨l,out,DK⟩:=oB R P rs h2 hw Ul p2
          refine⟨by rw[l,List.length_set],fun j hj=>?_,fun j hj=>?_⟩
          · rw[out j fun z=>hj (List.mem_cons_of_mem _ z),List.getElem?_set_ne fun z=>hj (by rw[z];exact List.mem_cons_self)]
          · by_cases e:i=j
            · subst e
              exact⟨u,u',o,c,e1,e2,by rw[out i Uk];exact List.getElem?_set_self (List.getElem?_eq_some_iff.mp e1).1,hv,p1⟩
            · rcases List.mem_cons.mp hj with z | z
              · exact absurd z.symm e
              · obtain⟨w,w',o',a',q1,q2,q3,q4,q5⟩:=DK j z
                rw[List.getElem?_set_ne e] at q1
                exact⟨w,w',o',a',q1,q2,q3,q4,q5⟩
        unfold wb at hw
        split at hw
        · rename_i o' e;exact go _ _ e rfl hw
        · rename_i o' e;exact go _ _ e rfl hw
        · cases hw
end
theorem kh {K : PySem.W.Frag} {B : Base} {S0 S S2 : SS} {σ : St} {F0 H0 F H F' H' : Hp} {vs : List V} {us ws : List U} {outs : List MO} (R : Rel K B S σ F H) (st : Step S0 S σ F0 H0 F H) (rr : Paired (fun v u => iB K B S σ H0 F H v u) vs us) (hr : aO S us = some ws) (hw : wb us outs S = some S2) (nd : (slotsOf us).Nodup) (p : Post F H F' H' (addrs vs ws) outs) :
    Rel K B S2 σ F' H'∧Step S0 S2 σ F0 H0 F' H'∧∀a,dB S2 σ a→dB S σ a:=by
  obtain⟨hl,out,DK⟩:=oB R (fun a o=>F' a=none∧At F' H' a o) rr hr hw nd p.out
  have reM:∀{u:U}{o:MO}{u':U},Nc u o=some u'→gg u=true∧gg u'=true∧J3 u'=some o:=fun {u o u'} h=>by cases u <;> cases h <;> exact⟨rfl,rfl,rfl⟩
  have orig:∀{j w},S2[j]? =some (some w)→gg w=true→∃w0,S[j]? =some (some w0)∧gg w0=true:=fun {j w} z hm=>by
    by_cases hj:j∈slotsOf us
    · obtain⟨u,u',o,a,q1,q2,q3,q4,q5⟩:=DK j hj
      exact⟨u,q1,(reM q2).1⟩
    · rw[out j hj] at z;exact⟨w,z,hm⟩
  have mu:∀a,dB S2 σ a→dB S σ a:=fun a ⟨j,w,z,hm,hv⟩=>let⟨w0,q,n⟩:=orig z hm;⟨j,w0,q,n,hv⟩
  have CO:=qC R rr hr
  refine⟨⟨p.sub,by rw[hl];exact R.len,fun j w z=>?_,fun j k w1 w2 c z1 m1 z2 m2=>?_,fun j o a z hv=>?_,fun j o a z hv=>?_,fun j a z=>?_,?_⟩,⟨⟨?_,?_,?_,?_,fun b o u z=>p.ext.jV b o u (st.ext.jV b o u z)⟩,fun a m=>st.mu a (mu a m),fun j u z=>?_⟩,mu⟩
  · by_cases hj:j∈slotsOf us
    · obtain⟨u,u',o,a,q1,q2,q3,q4,q5,q6⟩:=DK j hj
      rw[q3] at z
      cases z
      refine⟨.ref a,q4,?_⟩
      cases u <;> cases q2
      · exact⟨a,rfl,q5,q6⟩
      · exact⟨a,rfl,q5,q6⟩
    · rw[out j hj] at z
      obtain⟨v,h1,h2⟩:=R.rep j w z
      refine⟨v,h1,h2.le p.ext.le p.ext.jV fun a hm ha=>?_⟩
      have hna:a∉addrs vs ws:=fun hc=>by
        rcases CO a hc with⟨i,u,q0,q1,q2,q3⟩ | ⟨_,_,_,q⟩
        · have:=R.CJ i j u w a q1 q2 z hm q3 (by rw[h1,ha])
          subst this
          exact hj q0
        · exact q ⟨j,w,z,hm,by rw[h1,ha]⟩
      obtain⟨c,o,e,f,_,k⟩:=h2.dB hm
      rw[ha] at e
      cases e
      obtain⟨ho,hh⟩:=k.has
      exact⟨fun o q=>p.ext.keep a o q hna,p.ext.jR a ho hh hna f⟩
  · obtain⟨Uh,q1,n1⟩:=orig z1 m1
    obtain⟨Ui,q2,n2⟩:=orig z2 m2
    exact R.CJ j k Uh Ui c q1 n1 q2 n2
  · by_cases hj:j∈slotsOf us
    · obtain⟨u,u',o',a',q1,q2,q3,q4,q5⟩:=DK j hj
      rw[q3] at z
      cases z
      cases u <;> cases q2
      exact R.own j _ a q1 hv
    · rw[out j hj] at z;exact R.own j o a z hv
  · by_cases hj:j∈slotsOf us
    · obtain⟨u,u',o',a',q1,q2,q3,q4,q5⟩:=DK j hj
      rw[q3] at z
      cases z
      cases u <;> cases q2
      exact R.bor j _ a q1 hv
    · rw[out j hj] at z;exact R.bor j o a z hv
  · obtain⟨k1,o,k2⟩:=R.par j a z
    refine⟨k1,?_⟩
    by_cases hj:j∈slotsOf us
    · obtain⟨u,u',o',a',q1,q2,q3,q4,q5⟩:=DK j hj
      rw[k2] at q1
      cases q1
      cases q2
      exact⟨_,q3⟩
    · exact⟨o,by rw[out j hj];exact k2⟩
  · refine R.ext.trans p.ext fun b hb=>?_
    rcases CO b hb with⟨i,u,q0,q1,q2,q3⟩ | ⟨_,_,q,_⟩
    · cases u with
      | t d=>cases q2
      | v d=>cases q2
      | s d=>cases q2
      | f d=>cases q2
      | m o=>exact .inr (R.own i o b q1 q3)
      | b o=>exact .inl (R.bor i o b q1 q3)
    · exact .inr q
  · exact fun b o h=>p.ext.le b o (st.ext.le b o h)
  · intro b o h n
    refine p.ext.keep b o (st.ext.keep b o h n) fun hb=>?_
    rcases CO b hb with⟨i,u,q0,q1,q2,q3⟩ | ⟨_,q,_⟩
    · exact n (st.mu b ⟨i,u,q1,q2,q3⟩)
    · rw[h] at q;cases q
  · intro b o h n f
    refine p.ext.jR b o (st.ext.keep b o h n) (fun hb=>?_) (st.ext.jR b o h n f)
    rcases CO b hb with⟨i,u,q0,q1,q2,q3⟩ | ⟨_,q,_⟩
    · exact n (st.mu b ⟨i,u,q1,q2,q3⟩)
    · rw[h] at q;cases q
  · intro b o h
    obtain⟨o',h'⟩:=st.ext.there b o h
    exact p.ext.there b o' h'
  · obtain⟨u',h'⟩:=st.slots j u z
    by_cases hj:j∈slotsOf us
    · obtain⟨_,u2,_,_,_,_,q3,_⟩:=DK j hj
      exact⟨u2,q3⟩
    · exact⟨u',by rw[out j hj];exact h'⟩
section
variable {X:Cx}{e:Expr}{es:List Expr}{gu:GU}{x:Str}{p pos:Pos}{f:FM}{fa:Addr}{fd:FuncData}{ps:List Str}{k n:Nat}
theorem bC (F:aX X.prog X.w X.K X.mg X.base eO k fa fd ps (spT X.K n f)) (hr:gG k X.A) (hg:Gl X x) (hm:X.mg x=some (.ref fa)) (hk:PySem.W.keepIn X.K (.ref fa)=true) (hb:Binds X.K fd ps []) (ha:JU X (e :: es) gu) (hn:(e :: es).length=n:=by rfl)
  (hdb:(x == ("__debug__":Str))=false:=by decide) (he:starEach (e :: es) X.env=(false,eval e X.env) :: starEach es X.env:=by rfl) (hpl:(backTo pos (starEach es X.env)).any (·.1)=false:=by rfl):
  JE X (.Call (.Name x p) (e :: es) [] pos) (bW f gu):=⟨fun B=>(HX F hr hg hm hk hb .nil zX (ha.h B) hdb he hpl).imp fun σ H Q ⟨S,F0,u,S',R,hg,q⟩=>by
 obtain⟨⟨us,S1⟩,h1,hg⟩:=ah hg
 dsimp only at hg
 split at hg
 ·rename_i hc
  obtain⟨ws,h2,hg⟩:=ah hg
  obtain⟨⟨r,outs⟩,h3,hg⟩:=ah hg
  obtain⟨S2,h4,hg⟩:=aq hg
  cases hg
  refine⟨S,F0,us,S1,R,h1,fun vs F1 H1 R1 st1 rr=>?_⟩
  show spT X.K n f (vs++[]) H1 Q E0
  rw[List.append_nil]
  have hlen:vs.length=n:=by rw[rr.length,ha.len _ _ _ h1];exact hn
  refine⟨hlen,F1,ws,r,outs,R1.sub,qA R1 rr h2,eU R1 rr h2 hc.1 hc.2,h3,fun v F2 H2 po rn=>?_⟩
  obtain⟨R2,st2,mu⟩:=kh R1 st1 rr h2 h4 hc.1 po
  refine q v F2 H2 R2 st2 ?_
  cases r with
  | t d=>exact rn
  | b o=>cases rn
  | v i=>cases rn
  | s i=>cases rn
  | f i=>cases rn
  | m o=>
   obtain⟨a,e,h0,f,h⟩:=rn
   refine⟨a,e,none_of st1.ext.there h0,f,h,fun m=>?_,none_of R1.ext.there h0⟩
   obtain⟨o',ho⟩:=R1.has (mu a m)
   rw[h0] at ho
   cases ho
 ·cases hg⟩
end
end L2
end
section
set_option Elab.async false
set_option linter.all false
set_option maxRecDepth 100000
namespace L2
open PySem PySem.Spec PyProof.Rows
noncomputable def aD:List U→SS→Option (List MO)
 | [],_=>some []
 | .b _ :: us,some (.b o) :: S=>(aD us S).map fun os=>o :: os
 | .b _ :: _,_=>none
 | _ :: us,_ :: S=>aD us S
 | _ :: _,[]=>none
noncomputable def aE (n:Nat) (g:GS):FM:=fun us=>(g (us.map some++List.replicate (n - us.length) none)).bind fun o=>match o with
 | .rt (.t d) S=>(aD us S).map fun os=>(.t d,os)
 | .rt (.m o) S=>(aD us S).map fun os=>(.m o,os)
 | .nx S=>(aD us S).map fun os=>(.t .bZ,os)
 | _=>none
noncomputable def lent:List V→List U→List (Option Addr)
 | .ref a :: vs,.b _ :: us=>some a :: lent vs us
 | _ :: vs,_ :: us=>none :: lent vs us
 | _,_=>[]
theorem m9:∀(vs:List V) (us:List U) (a:Addr),some a∈lent vs us↔a∈addrs vs us
 | [],us,a=>by cases us <;> simp[lent,addrs]
 | v :: vs,[],a=>by cases v <;> simp[lent,addrs]
 | v :: vs,u :: us,a=>by
  have ih:=m9 vs us a
  cases v <;> cases u <;> simp[lent,addrs,ih]
theorem z6:∀{vs:List V}{us:List U}{i:Nat}{a:Addr},(lent vs us)[i]? =some (some a)→vs[i]? =some (.ref a)∧∃o,us[i]? =some (.b o)
 | [],us,i,a,h=>by cases us <;> simp[lent] at h
 | v :: vs,[],i,a,h=>by cases v <;> simp[lent] at h
 | v :: vs,u :: us,0,a,h=>by
  cases v <;> cases u <;> simp[lent] at h
  subst h
  exact⟨rfl,_,rfl⟩
 | v :: vs,u :: us,i+1,a,h=>by
  have h':(lent vs us)[i]? =some (some a):=by cases v <;> cases u <;> simpa[lent] using h
  simpa using z6 h'
theorem yO {K:PySem.W.Frag}:∀{F H:Hp}{vs:List V}{us:List U}{i:Nat}{o:MO},Paired (FN K F H) vs us→us[i]? =some (.b o)→∃a,vs[i]? =some (.ref a)∧(lent vs us)[i]? =some (some a)∧F a=none∧At F H a o
 | _,_,_,_,_,_,.nil,h=>by simp at h
 | _,_,_,_,0,o,@Paired.cons _ _ _ v u vs us r rs,h=>by
  simp at h
  subst h
  obtain⟨a,rfl,f,k⟩:=r
  exact⟨a,rfl,rfl,f,k⟩
 | _,_,_,_,i+1,o,@Paired.cons _ _ _ v u vs us r rs,h=>by
  obtain⟨a,h1,h2,h3⟩:=yO (i:=i) rs (by simpa using h)
  refine⟨a,by simpa using h1,?_,h3⟩
  cases v <;> cases u <;> simpa[lent] using h2
theorem xF : ∀ {vs : List V} {us : List U} {i j : Nat} {a : Addr}, (addrs vs us).Nodup → (lent vs us)[i]? = some (some a) → (lent vs us)[j]? = some (some a) → i = j
  | [],us,i,j,a,_,h,_=>by cases us <;> simp[lent] at h
  | v :: vs,[],i,j,a,_,h,_=>by cases v <;> simp[lent] at h
  | v :: vs, u :: us, i, j, a, nd, h1, h2 => by
    have ih:∀{i j},(addrs vs us).Nodup→(lent vs us)[i]? =some (some a)→(lent vs us)[j]? =some (some a)→i=j:=fun {i j}=>xF (i:=i) (j:=j)
    by_cases Um:∃c o,v= .ref c∧u= .b o
    · obtain⟨c,o,rfl,rfl⟩:=Um
      obtain⟨n1,n2⟩:=List.nodup_cons.mp (show(c :: addrs vs us).Nodup from nd)
      cases i with
      | zero=>
        cases j with
        | zero=>rfl
        | succ j=>
          have e1:c=a:=by simpa[lent] using h1
          have e2:(lent vs us)[j]? =some (some a):=by simpa[lent] using h2
          subst e1
          exact absurd ((m9 vs us c).mp (List.mem_of_getElem? e2)) n1
      | succ i=>
        have e1:(lent vs us)[i]? =some (some a):=by simpa[lent] using h1
        cases j with
        | zero=>
          have e2:c=a:=by simpa[lent] using h2
          subst e2
          exact absurd ((m9 vs us c).mp (List.mem_of_getElem? e1)) n1
        | succ j=>exact congrArg Nat.succ (ih n2 e1 (by simpa[lent] using h2))
    · have e1:lent (v :: vs) (u :: us)=none :: lent vs us:=by cases v <;> cases u <;> first | rfl | exact absurd ⟨_,_,rfl,rfl⟩ Um
      have e2:addrs (v :: vs) (u :: us)=addrs vs us:=by cases v <;> cases u <;> first | rfl | exact absurd ⟨_,_,rfl,rfl⟩ Um
      rw[e1] at h1 h2
      rw[e2] at nd
      cases i with
      | zero=>simp at h1
      | succ i=>
        cases j with
        | zero=>simp at h2
        | succ j=>exact congrArg Nat.succ (ih nd (by simpa using h1) (by simpa using h2))
theorem pP {α β:Type}{P:α→β→Prop}:∀{l:List α}{r:List β}{i:Nat}{y:β},Paired P l r→r[i]? =some y→∃x,l[i]? =some x∧P x y
 | _,_,_,_,.nil,h=>by simp at h
 | _,_,0,_,.cons p _,h=>by simp at h;subst h;exact⟨_,rfl,p⟩
 | _,_,i+1,_,.cons _ ps,h=>by
  obtain⟨x,h1,h2⟩:=pP (i:=i) ps (by simpa using h)
  exact⟨x,by simpa using h1,h2⟩
theorem xG {K:PySem.W.Frag}{F H:Hp}{vs:List V}{us:List U}{n:Nat}(sb:Sub F H) (ar:Paired (FN K F H) vs us) (nd:(addrs vs us).Nodup) (N:List Str) (hN:N.length=n):
  Rel K ⟨lent vs us,F,H⟩ (us.map some++List.replicate (n - us.length) none) (start N vs) F H:=by
 have hl:vs.length=us.length:=ar.length
 have gS:∀{i:Nat}{u:U},(us.map some++List.replicate (n - us.length) none)[i]? =some (some u)→us[i]? =some u:=fun {i u} h=>by
  rw[List.getElem?_append] at h
  split at h
  ·rw[List.getElem?_map] at h
   obtain⟨w,h1,h2⟩:=aq h
   cases h2
   exact h1
  ·rw[List.getElem?_replicate] at h
   split at h <;> cases h
 have Uo:∀{i:Nat}{v:V},vs[i]? =some v→(start N vs)[i]? =some (some v):=fun {i v} h=>by
  unfold start
  have hi:=(List.getElem?_eq_some_iff.mp h).1
  rw[List.getElem?_append_left (by simpa using hi),List.getElem?_map,h]
  rfl
 have vb:∀{i:Nat}{v w:V},vs[i]? =some v→(start N vs)[i]? =some (some w)→v=w:=fun {i v w} h k=>by
  rw[Uo h] at k
  cases k
  rfl
 have II:∀{i:Nat}{u:U},us[i]? =some u→gg u=true→∃o a,u= .b o∧vs[i]? =some (.ref a)∧(lent vs us)[i]? =some (some a)∧F a=none∧At F H a o:=fun {i u} h hm=>by
  obtain⟨v,h1,h2⟩:=pP ar h
  cases u with
  | t d=>cases hm
  | v d=>cases hm
  | s d=>cases hm
  | f d=>cases hm
  | m o=>cases h2
  | b o=>obtain⟨a,k1,k2,k3,k4⟩:=yO ar h;exact⟨o,a,rfl,k1,k2,k3,k4⟩
 refine⟨sb,?_,fun i u h=>?_,fun i j u w a h1 m1 h2 m2 v1 v2=>?_,fun i o a h hv=>?_,fun i o a h hv=>?_,fun i a h=>?_,Ext.refl ..⟩
 ·unfold start;simp[hl,hN]
 ·obtain⟨v,h1,h2⟩:=pP ar (gS h)
  refine⟨v,Uo h1,?_⟩
  cases u with
  | t d=>exact h2
  | s d=>exact h2
  | f d=>exact h2
  | v d=>cases h2
  | m o=>cases h2
  | b o=>exact h2
 ·obtain⟨_,a1,_,k1,k2,_⟩:=II (gS h1) m1
  obtain⟨_,a2,_,l1,l2,_⟩:=II (gS h2) m2
  have e1:=vb k1 v1
  have e2:=vb l1 v2
  cases e1
  cases e2
  exact xF nd k2 l2
 ·obtain⟨_,_,e,_⟩:=II (gS h) rfl
  cases e
 ·obtain⟨_,a1,_,k1,k2,_⟩:=II (gS h) rfl
  have e1:=vb k1 hv
  cases e1
  exact List.mem_of_getElem? k2
 ·obtain⟨k1,o,k2⟩:=z6 h
  refine⟨Uo k1,o,?_⟩
  have hi:=(List.getElem?_eq_some_iff.mp k2).1
  rw[List.getElem?_append_left (by simpa using hi),List.getElem?_map,k2]
  rfl
theorem yP {F' H' : Hp} : ∀ {vs : List V} {us : List U} {S : SS} {os : List MO}, aD us S = some os → vs.length = us.length → (∀ (i : Nat) (o : MO) (a : Addr), (lent vs us)[i]? = some (some a) → S[i]? = some (some (.b o)) → F' a = none ∧ At F' H' a o) → (∀ (i : Nat) (o : MO), us[i]? = some (.b o) → ∃ a, vs[i]? = some (.ref a)) →
    Paired (fun a o=>F' a=none∧At F' H' a o) (addrs vs us) os
  | [],[],S,os,h,_,_,_=>by cases S <;> (simp[aD] at h;subst h;exact .nil)
  | [],_ :: _,_,_,_,l,_,_=>by cases l
  | _ :: _,[],_,_,_,l,_,_=>by cases l
  | v :: vs, u :: us, S, os, h, l, k, kb => by
    have l':vs.length=us.length:=by simpa using l
    have kb':∀(i:Nat) (o:MO),us[i]? =some (.b o)→∃a,vs[i]? =some (.ref a):=fun i o z=>by simpa using kb (i+1) o (by simpa using z)
    by_cases hu:∃o,u= .b o
    · obtain⟨o,rfl⟩:=hu
      obtain⟨a,ha⟩:=kb 0 o rfl
      have ha:v= .ref a:=by simpa using ha
      subst ha
      cases S with
      | nil=>simp[aD] at h
      | cons s S=>
        cases s with
        | none=>simp[aD] at h
        | some s=>
          cases s with
          | b o'=>
            obtain⟨os',h1,h2⟩:=aq (show(aD us S).map (fun os=>o' :: os)=some os from h)
            subst h2
            exact .cons (k 0 o' a rfl rfl) (yP h1 l' (fun i o a z1 z2=>k (i+1) o a (by simpa[lent] using z1) (by simpa using z2)) kb')
          | t d=>simp[aD] at h
          | m d=>simp[aD] at h
          | v d=>simp[aD] at h
          | s d=>simp[aD] at h
          | f d=>simp[aD] at h
    · cases S with
      | nil=>cases u <;> first | (simp[aD] at h;done) | exact absurd ⟨_,rfl⟩ hu
      | cons s S=>
        have h':aD us S=some os:=by cases u <;> first | exact absurd ⟨_,rfl⟩ hu | simpa[aD] using h
        have e2:addrs (v :: vs) (u :: us)=addrs vs us:=by cases v <;> cases u <;> first | rfl | exact absurd ⟨_,rfl⟩ hu
        have e1:lent (v :: vs) (u :: us)=none :: lent vs us:=by cases v <;> cases u <;> first | rfl | exact absurd ⟨_,rfl⟩ hu
        rw[e2]
        exact yP h' l' (fun i o a z1 z2=>k (i+1) o a (by rw[e1];simpa using z1) (by simpa using z2)) kb'
theorem post_of {K:PySem.W.Frag}{F0 H:Hp}{vs:List V}{us:List U}(ar:Paired (FN K F0 H) vs us) (S':SS) (σ':St) (F' H':Hp) (os:List MO) (R':Rel K ⟨lent vs us,F0,H⟩ S' σ' F' H') (ho':aD us S'=some os):Post F0 H F' H' (addrs vs us) os:=by
 refine⟨R'.sub,⟨R'.ext.le,fun b o z n=>R'.ext.keep b o z fun m=>n ((m9 vs us b).mp m),fun b o z n=>R'.ext.jR b o z fun m=>n ((m9 vs us b).mp m),R'.ext.there,R'.ext.jV⟩,yP ho' ar.length (fun i o a z1 z2=>?_) fun i o z=>?_⟩
 ·obtain⟨k1,o2,k2⟩:=R'.par i a z1
  obtain⟨v,j1,j2⟩:=R'.rep i _ z2
  rw[k1] at j1
  cases j1
  obtain⟨c,e,f,k⟩:=j2
  cases e
  exact⟨f,k⟩
 ·obtain⟨a,h1,_⟩:=yO ar z
  exact⟨a,h1⟩
section
variable {P:Program}{w:World}{K:PySem.W.Frag}{mg:Str→Option Value}{base:Heap}
theorem rY {x qual:Str}{st:Stmt}{f:Addr}{fd:FuncData}{N ps:List Str}{k:Nat}{fm:FM}{g:GS}(F:oY K x qual st f fd) (Sc:bJ N ps (az st))
  (hb:∀(cdv:Value) (A:Around) (outer:List Env) (s:Shared) (H:Hp) (E:XK),gG k (A.deeper (envOfC qual (az st) s.heap.objs.size f cdv))→JB (Bp eO P w K mg base N qual (az st) f cdv A outer s H E).HJ (aY st) g)
  (hf:∀us r,fm us=some r→aE N.length g us=some r):aX P w K mg base eO (k+1) f fd ps (spT K ps.length fm):=by
 refine F.ok Sc (fun vs H Q E h=>h.1) fun cdv A outer s H vs Q E hr h=>?_
 obtain⟨hlen,F0,us,r,outs,sb,ar,nd,hfm,q⟩:=h
 have hrun:=hf us (r,outs) hfm
 have J:=hb cdv A outer s H E hr
 refine⟨_,J.h ⟨lent vs us,F0,H⟩,?_⟩
 have R0:=xG sb ar nd N rfl
 obtain⟨o,ho,hrun⟩:=ah hrun
 refine⟨_,F0,o,R0,ho,?_⟩
 have post:=post_of ar
 cases o with
 | bk S'=>cases hrun
 | ct S'=>cases hrun
 | nx S'=>
  obtain⟨os,h1,h2⟩:=aq (show(aD us S').map _=some (r,outs) from hrun)
  cases h2
  exact fun σ' F' H' R' le=>q .bZ F' H' (post S' σ' F' H' outs R' h1) .bZ
 | rt u S'=>
  cases u with
  | b o=>cases hrun
  | v i=>cases hrun
  | s i=>cases hrun
  | f i=>cases hrun
  | t d=>
   obtain⟨os,h1,h2⟩:=aq (show(aD us S').map _=some (r,outs) from hrun)
   cases h2
   exact fun v σ' F' H' R' le rr=>q v F' H' (post S' σ' F' H' outs R' h1) rr
  | m o=>
   obtain⟨os,h1,h2⟩:=aq (show(aD us S').map _=some (r,outs) from hrun)
   cases h2
   exact fun v σ' F' H' R' le rr=>q v F' H' (post S' σ' F' H' outs R' h1) (by obtain⟨a,e,h0,f,h,n,hB⟩:=rr;exact⟨a,e,hB,f,h⟩)
end
end L2
end
section
set_option Elab.async false
set_option linter.all false
set_option maxRecDepth 100000
namespace L2
open PySem PySem.Spec PyProof.Rows
noncomputable def FO (S:SS) (i:Nat):Option U:=match S[i]? with
 | some (some (.t d))=>some (.t d)
 | some (some (.s d))=>some (.s d)
 | some (some (.f d))=>some (.f d)
 | some (some (.m _))=>some (.v i)
 | some (some (.b _))=>some (.v i)
 | _=>none
noncomputable def d7 (S:SS):List Nat→Option (List U)
 | []=>some []
 | i :: cap=>(FO S i).bind fun u=>(d7 S cap).map fun us=>u :: us
noncomputable def iU:GT:=fun S=>some (true,S)
noncomputable def iw (cap:List Nat) (q:GT) (g:GD):List D→SS→List D→Option (List D×SS)
  | [],S,acc=>some (acc,S)
  | d :: ds, S, acc => (d7 S cap).bind fun us =>
    if(slotsOf us).Nodup∧aT us≤1 then(aO S us).bind fun ws=>(q (some (.t d) :: ws.map some)).bind fun p=>
      if p.1 then(g p.2).bind fun r=>(aD (.t d :: ws) r.2).bind fun outs=>(wb us outs S).bind fun S'=>iw cap q g ds S' (acc++[r.1])
      else(aD (.t d :: ws) p.2).bind fun outs=>(wb us outs S).bind fun S'=>iw cap q g ds S' acc
    else none
noncomputable def xH (cap:List Nat) (gi:GI) (q:GT) (g:GD):GE:=fun S=>(gi S).bind fun p=>if p.1.length≤100000 then(iw cap q g p.1 p.2 []).map fun r=>(.m (.lst r.1),r.2) else none
structure Zu (X:Cx) (es:List Expr) (q:GT):Prop where
 h:∀B,OB X es (tQ X.K B q)
theorem yQ {X:Cx}:Zu X [] iU:=⟨fun B pins s σ H Q I ⟨S,F,b,S',R,hg,q⟩=>by cases hg;exact Iq pins s σ H Q I (q F H R (Step.refl ..))⟩
theorem FP {K:PySem.W.Frag}{B:Base}{S:SS}{σ:St}{F H:Hp}(R:Rel K B S σ F H):∀{cap:List Nat}{us:List U},d7 S cap=some us→∃vs:List V,gH cap σ=vs.map some∧Paired (fun v u=>iB K B S σ H F H v u) vs us
  | [],us,h=>by cases h;exact⟨[],rfl,.nil⟩
  | i :: cap, us, h => by
    obtain⟨u,h1,h⟩:=ah h
    obtain⟨us',h2,h⟩:=aq h
    subst h
    obtain⟨vs,k1,k2⟩:=FP R h2
    have one:∀w,S[i]? =some (some w)→∃v,σ[i]? =some (some v)∧wA K F H v w:=R.rep i
    unfold FO at h1
    have fin:∀v,σ[i]? =some (some v)→iB K B S σ H F H v u→∃vs:List V,gH (i :: cap) σ=vs.map some∧Paired (fun v u=>iB K B S σ H F H v u) vs (u :: us'):=fun v e r=>
      ⟨v :: vs,by show(σ[i]?).join :: gH cap σ=_;rw[e,k1];rfl,.cons r k2⟩
    split at h1
    · rename_i d e
      cases h1
      obtain⟨v,e1,r⟩:=one _ e
      exact fin v e1 r
    · rename_i d e
      cases h1
      obtain⟨v,e1,r⟩:=one _ e
      exact fin v e1 r
    · rename_i d e
      cases h1
      obtain⟨v,e1,r⟩:=one _ e
      exact fin v e1 r
    · rename_i o e
      cases h1
      obtain⟨v,e1,r⟩:=one _ e
      exact fin v e1 ⟨e1,_,e⟩
    · rename_i o e
      cases h1
      obtain⟨v,e1,r⟩:=one _ e
      exact fin v e1 ⟨e1,_,e⟩
    · cases h1
theorem FQ {K:PySem.W.Frag}{B:Base}{S:SS}{σ:St}{F H:Hp}(R:Rel K B S σ F H) (d:D){us ws:List U}(h:aO S us=some ws):aO S (.t d :: us)=some (.t d :: ws):=by
 show(some (U.t d)).bind _=_
 show(aO S us).map _=_
 rw[h]
 rfl
theorem FT {K : PySem.W.Frag} {B : Base} {cap : List Nat} {gi : GI} {q : GT} {g : GD} {σ : St} {H : Hp} {Q : VK} (h : tE K B (xH cap gi q g) σ H Q) : TH (Zt K B gi) cap (fun σ H Q => ∃ B, tQ K B q σ H Q) (fun σ H Q => ∃ B, tD K B g σ H Q) σ H Q := by
  obtain⟨x,_⟩:∃x:Str,True:=⟨"",trivial⟩
  obtain⟨S,F,u,S',R,hg,k⟩:=h
  obtain⟨⟨ds,S1⟩,h1,hg⟩:=ah hg
  dsimp only at hg
  split at hg
  · rename_i hlen
    obtain⟨⟨res,Sf⟩,h2,hg⟩:=aq hg
    cases hg
    refine⟨S,F,ds,S1,R,h1,fun J F1 H1 R1 st1 w=>?_⟩
    refine⟨fun i m ys H'=>∃S2 F2 acc,Rel K B S2 σ F2 H'∧Step S S2 σ F H F2 H'∧(∀b o,F1 b=some o→F2 b=some o)∧bx F2 ys acc∧acc.length≤i∧i≤ds.length∧m=ds.length - i∧iw cap q g (ds.drop i) S2 acc=some (res,Sf),
      ⟨_,S1,F1,[],R1,st1,fun _ _ z=>z,.nil,Nat.le_refl _,Nat.zero_le _,rfl,h2⟩,?_⟩
    rintro i m ys H' ⟨S2,F2,acc,R2,st2,le,ry,ha,hl,rfl,m8⟩
    refine⟨by rw[ry.length];exact Nat.lt_of_le_of_lt (Nat.le_trans ha (Nat.le_trans hl hlen)) (by decide),?_⟩
    have w':=w F2 H' le R2.sub i
    by_cases hlt:i < ds.length
    · have hd:ds[i]? =some ds[i]:=List.getElem?_eq_getElem hlt
      obtain⟨go,yl⟩:=w'.1 _ hd
      rw[List.drop_eq_getElem_cons hlt] at m8
      refine .inr ⟨go,fun xv H3 y=>?_⟩
      obtain⟨rfl,rx⟩:=yl xv H3 y
      obtain⟨us,e1,m8⟩:=ah m8
      skip
      split at m8
      · rename_i hnd
        obtain⟨ws,e2,m8⟩:=ah m8
        obtain⟨⟨bk,T1⟩,e3,m8⟩:=ah m8
        obtain⟨vs,k1,k2⟩:=FP R2 e1
        have rr:Paired (fun v u=>iB K B S2 σ H3 F2 H3 v u) (xv :: vs) (.t ds[i] :: us):=.cons rx k2
        have er:=FQ R2 ds[i] e2
        have ar:=qA R2 rr er
        have nd:=eU R2 rr er hnd.1 hnd.2
        have R3:=xG (n:=ws.length+1) R2.sub ar nd (List.replicate (ws.length+1) x) (by simp)
        have hvl:vs.length=ws.length:=by have:=ar.length;simpa using this
        have es:start (List.replicate (ws.length+1) x) (xv :: vs)=some xv :: gH cap σ:=by
          unfold start;rw[k1];simp[hvl]
        have eS:(U.t ds[i] :: ws).map some++List.replicate (ws.length+1 - (U.t ds[i] :: ws).length) none=some (U.t ds[i]) :: ws.map some:=by simp
        rw[es,eS] at R3
        have back:∀(T2:SS) (F3 H4:Hp) (outs:List MO) (S3:SS),Rel K ⟨lent (xv :: vs) (U.t ds[i] :: ws),F2,H3⟩ T2 (some xv :: gH cap σ) F3 H4→aD (U.t ds[i] :: ws) T2=some outs→wb us outs S2=some S3→Rel K B S3 σ F3 H4∧Step S S3 σ F H F3 H4∧(∀b o,F2 b=some o→F3 b=some o):=fun T2 F3 H4 outs S3 RT ho hw=>by
          have po:=post_of ar T2 _ F3 H4 outs RT ho
          obtain⟨Ra,J4,_⟩:=kh (S0:=S2) (F0:=F2) (H0:=H3) R2 (Step.refl ..) rr er (show wb (U.t ds[i] :: us) outs S2=some S3 by cases outs <;> exact hw) hnd.1 po
          exact⟨Ra,st2.trans J4,J4.ext.le⟩
        refine⟨_,_,F2,bk,T1,R3,e3,fun F3 H4 Zv aa3=>?_⟩
        cases bk with
        | true=>
          obtain⟨⟨yd,T2⟩,e4,m8⟩:=ah (show(g T1).bind _=_ from m8)
          obtain⟨outs,e5,m8⟩:=ah m8
          obtain⟨S3,e6,m8⟩:=ah m8
          refine Bv ⟨_,T1,F3,yd,T2,Zv,e4,fun yv F4 H5 RT2 aa5 Up=>?_⟩
          obtain⟨Ra,J4,OR⟩:=back T2 F4 H5 outs S3 RT2 e5 e6
          refine⟨ds.length - (i+1),by omega,S3,F4,acc++[yd],Ra,J4,fun b o z=>OR b o (le b o z),(ry.le OR).append (.cons Up .nil),by simp;omega,hlt,rfl,m8⟩
        | false=>
          obtain⟨outs,e5,m8⟩:=ah (show(aD (U.t ds[i] :: ws) T1).bind _=_ from m8)
          obtain⟨S3,e6,m8⟩:=ah m8
          obtain⟨Ra,J4,OR⟩:=back T1 F3 H4 outs S3 Zv e5 e6
          exact Bu ⟨ds.length - (i+1),by omega,S3,F3,acc,Ra,J4,fun b o z=>OR b o (le b o z),ry.le OR,by omega,hlt,rfl,m8⟩
      · cases m8
    · have e:i=ds.length:=by omega
      subst e
      rw[List.drop_length] at m8
      cases m8
      refine .inl ⟨w'.2 (Nat.le_refl _),fun p hp=>?_⟩
      have n:=jj.obj (F:=F2) hp (.lst ys)
      refine k (.ref p) F2 _ (R2.new n (R2.sub.same n.same)) (st2.trans n.step) ⟨p,rfl,none_of st2.ext.there hp,R2.sub.fresh hp,⟨ys,aW,ry⟩,fun m=>?_,none_of R2.ext.there hp⟩
      obtain⟨o,ho⟩:=R2.has m
      rw[hp] at ho
      cases ho
  · cases hg
theorem yR {X:Cx}{elt iter:Expr}{ifs:List Expr}{x:Str}{px pos:Pos}{scope:Scope}{cl:List (Str×Addr)}{jW:List Str}{cap:List Nat}{gi:GI}{q:GT}{g:GD}(T:qq X x jW cap scope cl) (hc:X.calm=true) (hi:JI X (.Name x px) iter gi)
  (ht:∀C s H fp,Zu (kR X (x :: jW) scope cl C s H fp) ifs q) (he:∀C s H fp,JD (kR X (x :: jW) scope cl C s H fp) elt g)
  (hs:∀x,foldedSetIterable iter X.env x=pure x:=by intro _;rfl):JE X (.ListComp elt [⟨.Name x px,iter,ifs,0⟩] scope pos) (xH cap gi q g):=⟨fun B=>by
 exact(Fo (tc:=fun σ H Q=>∃B,tQ X.K B q σ H Q) (te:=fun σ H Q=>∃B,tD X.K B g σ H Q) T hc (hi.h B) (fun C s H fp pins s' σ H' Q I ⟨B',z⟩=>(ht C s H fp).h B' pins s' σ H' Q I z) (fun C s H fp pins s' σ H' Q I ⟨B',z⟩=>(he C s H fp).h B' pins s' σ H' Q I z) hs).imp fun σ H Q h=>FT h⟩
end L2
end
section
set_option Elab.async false
set_option linter.all false
set_option maxRecDepth 100000
namespace L2
open PySem PySem.Spec PyProof.Rows
mutual
noncomputable def lT:D→D→Bool
 | .bZ,.bZ=>true
 | .bl a,.bl b=>a == b
 | .int a,.int b=>a == b
 | .bl a,.int b=>(if a then 1 else 0) == b
 | .int a,.bl b=>a == (if b then 1 else 0)
 | .str a,.str b=>a == b
 | .tup a,.tup b=>pQ a b
 | .lst a,.lst b=>pQ a b
 | _,_=>false
noncomputable def pQ:List D→List D→Bool
 | [],[]=>true
 | a :: as,b :: bs=>lT a b && pQ as bs
 | _,_=>false
end
mutual
noncomputable def cJ:D→Nat
 | .tup ds=>bM ds+1
 | .lst ds=>bM ds+1
 | _=>0
noncomputable def bM:List D→Nat
 | []=>0
 | d :: ds=>max (cJ d) (bM ds)
end
mutual
theorem ng:∀d:D,lT d d=true
 | .bZ=>rfl
 | .bl a=>by simp[lT]
 | .int a=>by simp[lT]
 | .str a=>by simp[lT]
 | .tup a=>by unfold lT;exact lF a
 | .lst a=>by unfold lT;exact lF a
theorem lF:∀ds:List D,pQ ds ds=true
 | []=>rfl
 | d :: ds=>by unfold pQ;rw[ng d,lF ds];rfl
end
noncomputable def nh (as bs:List D) (j:Nat):Bool:=match as[j]?,bs[j]? with
 | some a,some b=>lT a b
 | _,_=>true
theorem uP (n:Nat) (e:Nat→Bool):(List.range (n+1)).all e=(e 0 && (List.range n).all fun j=>e (j+1)):=by
 rw[List.range_succ_eq_map,List.all_cons,List.all_map]
 rfl
theorem ni:∀{as bs:List D},as.length≠bs.length→pQ as bs=false
 | [],[],h=>absurd rfl h
 | [],_ :: _,_=>rfl
 | _ :: _,[],_=>rfl
 | a :: as,b :: bs,h=>by
  unfold pQ
  rw[ni (as:=as) (bs:=bs) (fun z=>h (by simp[z])),Bool.and_false]
theorem ki:∀{as bs:List D},as.length=bs.length→(List.range as.length).all (nh as bs)=pQ as bs
 | [],[],_=>rfl
 | [],_ :: _,h=>by cases h
 | _ :: _,[],h=>by cases h
 | a :: as,b :: bs,h=>by
  have h':as.length=bs.length:=by simpa using h
  show(List.range (as.length+1)).all _=_
  rw[uP]
  unfold pQ
  have ih:=ki h'
  have e:(fun j=>nh (a :: as) (b :: bs) (j+1))=nh as bs:=by funext j;simp[nh]
  rw[e,ih]
  rfl
mutual
theorem Rep.uniq {F:Hp}:∀{v:V}{d e:D},Rep F v d→Rep F v e→d=e
 | _,_,_,.bZ,r=>by cases r;rfl
 | _,_,_,.bl b,r=>by cases r;rfl
 | _,_,_,.int b,r=>by cases r;rfl
 | _,_,_,.str b,r=>by cases r;rfl
 | _,_,_,.tup e1 r1,r=>by
  cases r with
  | tup e2 r2=>rw[e1] at e2;cases e2;rw[bx.uniq r1 r2]
  | lst e2 r2=>rw[e1] at e2;cases e2
 | _,_,_,.lst e1 r1,r=>by
  cases r with
  | tup e2 r2=>rw[e1] at e2;cases e2
  | lst e2 r2=>rw[e1] at e2;cases e2;rw[bx.uniq r1 r2]
theorem bx.uniq {F:Hp}:∀{vs:List V}{ds es:List D},bx F vs ds→bx F vs es→ds=es
 | _,_,_,.nil,r=>by cases r;rfl
 | _,_,_,.cons r1 s1,r=>by
  cases r with
  | cons r2 s2=>rw[Rep.uniq r1 r2,bx.uniq s1 s2]
end
section
variable {X:Cx}{pins:List (Addr×Obj)}{σ:St}{F H:Hp}{s:Shared}
theorem Sub.isTup (I:Inv X pins σ H s) (sb:Sub F H){a:Addr}{vs:List V}(h:F a=some (.tup vs)):∃its:List Value,Vals vs its∧s.heap.IsTuple a its.toArray:=by
 obtain⟨its,rv,p,_⟩:=I.tuple (.inl (Rd.of (sb a _ h)))
 exact⟨its,rv,p⟩
theorem Sub.fq (I:Inv X pins σ H s) (sb:Sub F H){a:Addr}{vs:List V}(h:F a=some (.lst vs)):∃its:List Value,Vals vs its∧s.heap.IsList a its.toArray:=by
 obtain⟨its,rv,p,_⟩:=I.list (.inl (Rd.of (sb a _ h)))
 exact⟨its,rv,p.isList⟩
noncomputable def jC (A:Around) (s:Shared) (its cu:List Value) (ds es:List D):Prop:=∀j (h1:j < its.toArray.size) (h2:j < cu.toArray.size),SeqAt.EqAt A.in1 s its.toArray[j] cu.toArray[j] (nh ds es j)
theorem CP {n m:Nat}(h:n=m) (e:Nat→Bool):((List.range (min n m)).all e && n == m)=(List.range n).all e:=by
 subst h;simp
theorem qD {A:Around}{ca cb:Addr}{iy cu:List Value}{ds es:List D}(hu:A.units < cLine) (pa:s.heap.IsTuple ca iy.toArray) (pb:s.heap.IsTuple cb cu.toArray) (la:iy.length=ds.length) (lb:cu.length=es.length) (h:jC A s iy cu ds es):
  SeqAt.RcAt A s (.ref ca) (.ref cb) (pQ ds es):=by
 have q:=SeqAt.RcAt.tuples (e:=nh ds es) pa pb hu h
 rw[List.size_toArray,List.size_toArray,la,lb] at q
 by_cases hl:ds.length=es.length
 ·rw[CP hl,ki hl] at q;exact q
 ·rw[ni hl]
  have:(ds.length == es.length)=false:=by simpa using hl
  rw[this,Bool.and_false] at q
  exact q
theorem uQ {A:Around}{ca cb:Addr}{iy cu:List Value}{ds es:List D}(hu:A.units < cLine) (pa:s.heap.IsTuple ca iy.toArray) (pb:s.heap.IsTuple cb cu.toArray) (la:iy.length=ds.length) (lb:cu.length=es.length) (h:jC A s iy cu ds es):
  SeqAt.RcNeAt A s (.ref ca) (.ref cb) (!pQ ds es):=by
 have q:=SeqAt.RcNeAt.tuples (e:=nh ds es) pa pb hu h
 rw[List.size_toArray,List.size_toArray,la,lb] at q
 by_cases hl:ds.length=es.length
 ·rw[CP hl,ki hl] at q;exact q
 ·rw[ni hl]
  have:(ds.length == es.length)=false:=by simpa using hl
  rw[this,Bool.and_false] at q
  exact q
theorem tG {A:Around}{ca cb:Addr}{iy cu:List Value}{ds es:List D}(hu:A.units < cLine) (pa:s.heap.IsList ca iy.toArray) (pb:s.heap.IsList cb cu.toArray) (la:iy.length=ds.length) (lb:cu.length=es.length) (h:jC A s iy cu ds es):
  SeqAt.RcAt A s (.ref ca) (.ref cb) (pQ ds es):=by
 by_cases hl:ds.length=es.length
 ·have q:=SeqAt.RcAt.lists (e:=nh ds es) pa pb (by rw[List.size_toArray,List.size_toArray,la,lb];exact hl) hu h
  rw[List.size_toArray,la,ki hl] at q;exact q
 ·rw[ni hl]
  exact SeqAt.RcAt.lists_lengths pa pb (by rw[List.size_toArray,List.size_toArray,la,lb];simpa using hl) hu
theorem wC {A:Around}{ca cb:Addr}{iy cu:List Value}{ds es:List D}(hu:A.units < cLine) (pa:s.heap.IsList ca iy.toArray) (pb:s.heap.IsList cb cu.toArray) (la:iy.length=ds.length) (lb:cu.length=es.length) (h:jC A s iy cu ds es):
  SeqAt.RcNeAt A s (.ref ca) (.ref cb) (!pQ ds es):=by
 by_cases hl:ds.length=es.length
 ·have q:=SeqAt.RcNeAt.lists (e:=nh ds es) pa pb (by rw[List.size_toArray,List.size_toArray,la,lb];exact hl) hu h
  rw[List.size_toArray,la,ki hl] at q;exact q
 ·rw[ni hl]
  exact SeqAt.RcNeAt.lists_lengths pa pb (by rw[List.size_toArray,List.size_toArray,la,lb];simpa using hl) hu
theorem eB {α:Type}(l:List α) (j:Nat) (h:j < l.toArray.size):l[j]? =some l.toArray[j]:=by
 have z:j < l.length:=by simpa using h
 simp[z]
mutual
theorem J5 (I : Inv X pins σ H s) (sb : Sub F H) : ∀ (d : D) {e : D} {A : Around} {x y : V} {u w' : Value}, Rep F x d → Rep F y e → RelV x u → RelV y w' → A.units + cJ d < cLine → SeqAt.EqAt A s u w' (lT d e) := fun d {e A x y u w'} r1 r2 rx ry hu => by
  cases r1 with
  | bZ=>
    cases rx
    cases r2 with
    | bZ=>cases ry;exact SeqAt.EqAt.same _
    | bl b=>cases ry;exact SeqAt.EqAt.none_bool b
    | int b=>obtain⟨tb,rfl⟩:=ry;exact SeqAt.EqAt.none_int b tb
    | str b=>obtain⟨tb,rfl⟩:=ry;exact SeqAt.EqAt.none_str b tb
    | @tup cb nj lG eb rb=>cases ry;obtain⟨cu,kj,pb⟩:=sb.isTup I eb;exact SeqAt.EqAt.none_tuple pb (by omega)
    | @lst cb nj lG eb rb=>cases ry;obtain⟨cu,kj,pb⟩:=sb.fq I eb;exact SeqAt.EqAt.none_list pb (by omega)
  | bl a=>
    cases rx
    cases r2 with
    | bZ=>cases ry;exact SeqAt.EqAt.bool_none a
    | bl b=>cases ry;exact SeqAt.EqAt.bool_bool a b
    | int b=>obtain⟨tb,rfl⟩:=ry;exact SeqAt.EqAt.bool_int a b tb
    | str b=>obtain⟨tb,rfl⟩:=ry;exact SeqAt.EqAt.bool_str a b tb
    | @tup cb nj lG eb rb=>cases ry;obtain⟨cu,kj,pb⟩:=sb.isTup I eb;exact SeqAt.EqAt.bool_tuple a pb (by omega)
    | @lst cb nj lG eb rb=>cases ry;obtain⟨cu,kj,pb⟩:=sb.fq I eb;exact SeqAt.EqAt.bool_list a pb (by omega)
  | int a=>
    obtain⟨ta,rfl⟩:=rx
    cases r2 with
    | bZ=>cases ry;exact SeqAt.EqAt.int_none a ta
    | bl b=>cases ry;exact SeqAt.EqAt.int_bool a ta b
    | int b=>obtain⟨tb,rfl⟩:=ry;exact SeqAt.EqAt.int_int a ta b tb
    | str b=>obtain⟨tb,rfl⟩:=ry;exact SeqAt.EqAt.int_str a ta b tb
    | @tup cb nj lG eb rb=>cases ry;obtain⟨cu,kj,pb⟩:=sb.isTup I eb;exact SeqAt.EqAt.int_tuple a ta pb (by omega)
    | @lst cb nj lG eb rb=>cases ry;obtain⟨cu,kj,pb⟩:=sb.fq I eb;exact SeqAt.EqAt.int_list a ta pb (by omega)
  | str a=>
    obtain⟨ta,rfl⟩:=rx
    cases r2 with
    | bZ=>cases ry;exact SeqAt.EqAt.str_none a ta
    | bl b=>cases ry;exact SeqAt.EqAt.str_bool a ta b
    | int b=>obtain⟨tb,rfl⟩:=ry;exact SeqAt.EqAt.str_int a ta b tb
    | str b=>obtain⟨tb,rfl⟩:=ry;exact SeqAt.EqAt.str_str a ta b tb
    | @tup cb nj lG eb rb=>cases ry;obtain⟨cu,kj,pb⟩:=sb.isTup I eb;exact SeqAt.EqAt.str_tuple a ta pb (by omega)
    | @lst cb nj lG eb rb=>cases ry;obtain⟨cu,kj,pb⟩:=sb.fq I eb;exact SeqAt.EqAt.str_list a ta pb (by omega)
  | @tup ca OS o8 ea ra=>
    cases rx;obtain⟨iy,z7,pa⟩:=sb.isTup I ea
    cases r2 with
    | bZ=>cases ry;exact SeqAt.EqAt.tuple_none pa (by omega)
    | bl b=>cases ry;exact SeqAt.EqAt.tuple_bool b pa (by omega)
    | int b=>obtain⟨tb,rfl⟩:=ry;exact SeqAt.EqAt.tuple_int b tb pa (by omega)
    | str b=>obtain⟨tb,rfl⟩:=ry;exact SeqAt.EqAt.tuple_str b tb pa (by omega)
    | @tup cb nj lG eb rb=>cases ry;obtain⟨cu,kj,pb⟩:=sb.isTup I eb;exact(by
      have hd:A.units+(bM o8+1) < cLine:=hu
      have items:jC A s iy cu o8 lG:=fun j h1 h2=>kq I sb o8 (A:=A.in1) ra rb z7 kj (by show A.units+1+bM o8 < cLine;omega) (eB iy j h1) (eB cu j h2)
      by_cases hc:ca=cb
      · subst hc
        rw[ea] at eb
        cases eb
        obtain rfl:=bx.uniq ra rb
        show SeqAt.EqAt A s _ _ (pQ o8 o8)
        rw[lF]
        exact SeqAt.EqAt.same _
      · exact SeqAt.EqAt.of_refs hc (qD (by omega) pa pb (z7.length.symm.trans ra.length) (kj.length.symm.trans rb.length) items))
    | @lst cb nj lG eb rb=>cases ry;obtain⟨cu,kj,pb⟩:=sb.fq I eb;exact SeqAt.EqAt.tuple_list pa pb (by omega)
  | @lst ca OS o8 ea ra=>
    cases rx;obtain⟨iy,z7,pa⟩:=sb.fq I ea
    cases r2 with
    | bZ=>cases ry;exact SeqAt.EqAt.list_none pa (by omega)
    | bl b=>cases ry;exact SeqAt.EqAt.list_bool b pa (by omega)
    | int b=>obtain⟨tb,rfl⟩:=ry;exact SeqAt.EqAt.list_int b tb pa (by omega)
    | str b=>obtain⟨tb,rfl⟩:=ry;exact SeqAt.EqAt.list_str b tb pa (by omega)
    | @tup cb nj lG eb rb=>cases ry;obtain⟨cu,kj,pb⟩:=sb.isTup I eb;exact SeqAt.EqAt.list_tuple pa pb (by omega)
    | @lst cb nj lG eb rb=>cases ry;obtain⟨cu,kj,pb⟩:=sb.fq I eb;exact(by
      have hd:A.units+(bM o8+1) < cLine:=hu
      have items:jC A s iy cu o8 lG:=fun j h1 h2=>kq I sb o8 (A:=A.in1) ra rb z7 kj (by show A.units+1+bM o8 < cLine;omega) (eB iy j h1) (eB cu j h2)
      by_cases hc:ca=cb
      · subst hc
        rw[ea] at eb
        cases eb
        obtain rfl:=bx.uniq ra rb
        show SeqAt.EqAt A s _ _ (pQ o8 o8)
        rw[lF]
        exact SeqAt.EqAt.same _
      · exact SeqAt.EqAt.of_refs hc (tG (by omega) pa pb (z7.length.symm.trans ra.length) (kj.length.symm.trans rb.length) items))
theorem kq (I : Inv X pins σ H s) (sb : Sub F H) : ∀ (ds : List D) {es : List D} {A : Around} {vs ws : List V} {us us' : List Value} {j : Nat} {u w' : Value}, bx F vs ds → bx F ws es → Vals vs us → Vals ws us' → A.units + bM ds < cLine → us[j]? = some u → us'[j]? = some w' → SeqAt.EqAt A s u w' (nh ds es j) := fun ds {es A vs ws us us' j u w'} r1 r2 v1 v2 hu h1 h2 => by
  cases r1 with
  | nil=>cases v1;simp at h1
  | @cons v d vs ds r rs =>
    cases v1 with
    | cons q qs=>
      cases r2 with
      | nil=>cases v2;simp at h2
      | @cons w e ws es r' rs'=>
        cases v2 with
        | cons q' qs'=>
          have hd:A.units+max (cJ d) (bM ds) < cLine:=hu
          cases j with
          | zero=>
            simp at h1 h2
            subst h1 h2
            exact J5 I sb d r r' q q' (by omega)
          | succ j=>
            simp at h1 h2
            have:=kq I sb ds (A:=A) rs rs' qs qs' (j:=j) (by omega) h1 h2
            simpa[nh] using this
end
end
end L2
end
section
set_option Elab.async false
set_option linter.all false
set_option maxRecDepth 100000
namespace L2
open PySem PySem.Spec PyProof.Rows
section
variable {X:Cx}{pins:List (Addr×Obj)}{σ:St}{F H:Hp}{s:Shared}
theorem OT (I:Inv X pins σ H s) (sb:Sub F H){d e:D}{A:Around}{x y:V}{u w':Value}(r1:Rep F x d) (r2:Rep F y e) (rx:RelV x u) (ry:RelV y w') (hu:A.units+cJ d < cLine):SeqAt.RcAt A s u w' (lT d e):=by
 cases r1 with
 | bZ=>
  cases rx
  cases r2 with
  | bZ=>cases ry;exact SeqAt.RcAt.none_none
  | bl b=>cases ry;exact SeqAt.RcAt.none_bool b
  | int b=>obtain⟨tb,rfl⟩:=ry;exact SeqAt.RcAt.none_int b tb
  | str b=>obtain⟨tb,rfl⟩:=ry;exact SeqAt.RcAt.none_str b tb
  | @tup cb nj lG eb rb=>cases ry;obtain⟨cu,kj,pb⟩:=sb.isTup I eb;exact SeqAt.RcAt.none_tuple pb (by omega)
  | @lst cb nj lG eb rb=>cases ry;obtain⟨cu,kj,pb⟩:=sb.fq I eb;exact SeqAt.RcAt.none_list pb (by omega)
 | bl a=>
  cases rx
  cases r2 with
  | bZ=>cases ry;exact SeqAt.RcAt.bool_none a
  | bl b=>cases ry;exact SeqAt.RcAt.bool_bool a b
  | int b=>obtain⟨tb,rfl⟩:=ry;exact SeqAt.RcAt.bool_int a b tb
  | str b=>obtain⟨tb,rfl⟩:=ry;exact SeqAt.RcAt.bool_str a b tb
  | @tup cb nj lG eb rb=>cases ry;obtain⟨cu,kj,pb⟩:=sb.isTup I eb;exact SeqAt.RcAt.bool_tuple a pb (by omega)
  | @lst cb nj lG eb rb=>cases ry;obtain⟨cu,kj,pb⟩:=sb.fq I eb;exact SeqAt.RcAt.bool_list a pb (by omega)
 | int a=>
  obtain⟨ta,rfl⟩:=rx
  cases r2 with
  | bZ=>cases ry;exact SeqAt.RcAt.int_none a ta
  | bl b=>cases ry;exact SeqAt.RcAt.int_bool a ta b
  | int b=>obtain⟨tb,rfl⟩:=ry;exact SeqAt.RcAt.int_int a ta b tb
  | str b=>obtain⟨tb,rfl⟩:=ry;exact SeqAt.RcAt.int_str a ta b tb
  | @tup cb nj lG eb rb=>cases ry;obtain⟨cu,kj,pb⟩:=sb.isTup I eb;exact SeqAt.RcAt.int_tuple a ta pb (by omega)
  | @lst cb nj lG eb rb=>cases ry;obtain⟨cu,kj,pb⟩:=sb.fq I eb;exact SeqAt.RcAt.int_list a ta pb (by omega)
 | str a=>
  obtain⟨ta,rfl⟩:=rx
  cases r2 with
  | bZ=>cases ry;exact SeqAt.RcAt.str_none a ta
  | bl b=>cases ry;exact SeqAt.RcAt.str_bool a ta b
  | int b=>obtain⟨tb,rfl⟩:=ry;exact SeqAt.RcAt.str_int a ta b tb
  | str b=>obtain⟨tb,rfl⟩:=ry;exact SeqAt.RcAt.str_str a ta b tb
  | @tup cb nj lG eb rb=>cases ry;obtain⟨cu,kj,pb⟩:=sb.isTup I eb;exact SeqAt.RcAt.str_tuple a ta pb (by omega)
  | @lst cb nj lG eb rb=>cases ry;obtain⟨cu,kj,pb⟩:=sb.fq I eb;exact SeqAt.RcAt.str_list a ta pb (by omega)
 | @tup ca OS o8 ea ra=>
  cases rx;obtain⟨iy,z7,pa⟩:=sb.isTup I ea
  cases r2 with
  | bZ=>cases ry;exact SeqAt.RcAt.tuple_none pa (by omega)
  | bl b=>cases ry;exact SeqAt.RcAt.tuple_bool b pa (by omega)
  | int b=>obtain⟨tb,rfl⟩:=ry;exact SeqAt.RcAt.tuple_int b tb pa (by omega)
  | str b=>obtain⟨tb,rfl⟩:=ry;exact SeqAt.RcAt.tuple_str b tb pa (by omega)
  | @tup cb nj lG eb rb=>cases ry;obtain⟨cu,kj,pb⟩:=sb.isTup I eb;exact(by
   have hd:A.units+(bM o8+1) < cLine:=hu
   have items:jC A s iy cu o8 lG:=fun j h1 h2=>kq I sb o8 (A:=A.in1) ra rb z7 kj (by show A.units+1+bM o8 < cLine;omega) (eB iy j h1) (eB cu j h2)
   exact qD (by omega) pa pb (z7.length.symm.trans ra.length) (kj.length.symm.trans rb.length) items)
  | @lst cb nj lG eb rb=>cases ry;obtain⟨cu,kj,pb⟩:=sb.fq I eb;exact SeqAt.RcAt.tuple_list pa pb (by omega)
 | @lst ca OS o8 ea ra=>
  cases rx;obtain⟨iy,z7,pa⟩:=sb.fq I ea
  cases r2 with
  | bZ=>cases ry;exact SeqAt.RcAt.list_none pa (by omega)
  | bl b=>cases ry;exact SeqAt.RcAt.list_bool b pa (by omega)
  | int b=>obtain⟨tb,rfl⟩:=ry;exact SeqAt.RcAt.list_int b tb pa (by omega)
  | str b=>obtain⟨tb,rfl⟩:=ry;exact SeqAt.RcAt.list_str b tb pa (by omega)
  | @tup cb nj lG eb rb=>cases ry;obtain⟨cu,kj,pb⟩:=sb.isTup I eb;exact SeqAt.RcAt.list_tuple pa pb (by omega)
  | @lst cb nj lG eb rb=>cases ry;obtain⟨cu,kj,pb⟩:=sb.fq I eb;exact(by
   have hd:A.units+(bM o8+1) < cLine:=hu
   have items:jC A s iy cu o8 lG:=fun j h1 h2=>kq I sb o8 (A:=A.in1) ra rb z7 kj (by show A.units+1+bM o8 < cLine;omega) (eB iy j h1) (eB cu j h2)
   exact tG (by omega) pa pb (z7.length.symm.trans ra.length) (kj.length.symm.trans rb.length) items)
theorem IJ (I:Inv X pins σ H s) (sb:Sub F H){d e:D}{A:Around}{x y:V}{u w':Value}(r1:Rep F x d) (r2:Rep F y e) (rx:RelV x u) (ry:RelV y w') (hu:A.units+cJ d < cLine):SeqAt.RcNeAt A s u w' (!lT d e):=by
 cases r1 with
 | bZ=>
  cases rx
  cases r2 with
  | bZ=>cases ry;exact SeqAt.RcNeAt.none_none
  | bl b=>cases ry;exact SeqAt.RcNeAt.none_bool b
  | int b=>obtain⟨tb,rfl⟩:=ry;exact SeqAt.RcNeAt.none_int b tb
  | str b=>obtain⟨tb,rfl⟩:=ry;exact SeqAt.RcNeAt.none_str b tb
  | @tup cb nj lG eb rb=>cases ry;obtain⟨cu,kj,pb⟩:=sb.isTup I eb;exact SeqAt.RcNeAt.none_tuple pb (by omega)
  | @lst cb nj lG eb rb=>cases ry;obtain⟨cu,kj,pb⟩:=sb.fq I eb;exact SeqAt.RcNeAt.none_list pb (by omega)
 | bl a=>
  cases rx
  cases r2 with
  | bZ=>cases ry;exact SeqAt.RcNeAt.bool_none a
  | bl b=>cases ry;exact SeqAt.RcNeAt.bool_bool a b
  | int b=>obtain⟨tb,rfl⟩:=ry;exact SeqAt.RcNeAt.bool_int a b tb
  | str b=>obtain⟨tb,rfl⟩:=ry;exact SeqAt.RcNeAt.bool_str a b tb
  | @tup cb nj lG eb rb=>cases ry;obtain⟨cu,kj,pb⟩:=sb.isTup I eb;exact SeqAt.RcNeAt.bool_tuple a pb (by omega)
  | @lst cb nj lG eb rb=>cases ry;obtain⟨cu,kj,pb⟩:=sb.fq I eb;exact SeqAt.RcNeAt.bool_list a pb (by omega)
 | int a=>
  obtain⟨ta,rfl⟩:=rx
  cases r2 with
  | bZ=>cases ry;exact SeqAt.RcNeAt.int_none a ta
  | bl b=>cases ry;exact SeqAt.RcNeAt.int_bool a ta b
  | int b=>obtain⟨tb,rfl⟩:=ry;exact SeqAt.RcNeAt.int_int a ta b tb
  | str b=>obtain⟨tb,rfl⟩:=ry;exact SeqAt.RcNeAt.int_str a ta b tb
  | @tup cb nj lG eb rb=>cases ry;obtain⟨cu,kj,pb⟩:=sb.isTup I eb;exact SeqAt.RcNeAt.int_tuple a ta pb (by omega)
  | @lst cb nj lG eb rb=>cases ry;obtain⟨cu,kj,pb⟩:=sb.fq I eb;exact SeqAt.RcNeAt.int_list a ta pb (by omega)
 | str a=>
  obtain⟨ta,rfl⟩:=rx
  cases r2 with
  | bZ=>cases ry;exact SeqAt.RcNeAt.str_none a ta
  | bl b=>cases ry;exact SeqAt.RcNeAt.str_bool a ta b
  | int b=>obtain⟨tb,rfl⟩:=ry;exact SeqAt.RcNeAt.str_int a ta b tb
  | str b=>obtain⟨tb,rfl⟩:=ry;exact SeqAt.RcNeAt.str_str a ta b tb
  | @tup cb nj lG eb rb=>cases ry;obtain⟨cu,kj,pb⟩:=sb.isTup I eb;exact SeqAt.RcNeAt.str_tuple a ta pb (by omega)
  | @lst cb nj lG eb rb=>cases ry;obtain⟨cu,kj,pb⟩:=sb.fq I eb;exact SeqAt.RcNeAt.str_list a ta pb (by omega)
 | @tup ca OS o8 ea ra=>
  cases rx;obtain⟨iy,z7,pa⟩:=sb.isTup I ea
  cases r2 with
  | bZ=>cases ry;exact SeqAt.RcNeAt.tuple_none pa (by omega)
  | bl b=>cases ry;exact SeqAt.RcNeAt.tuple_bool b pa (by omega)
  | int b=>obtain⟨tb,rfl⟩:=ry;exact SeqAt.RcNeAt.tuple_int b tb pa (by omega)
  | str b=>obtain⟨tb,rfl⟩:=ry;exact SeqAt.RcNeAt.tuple_str b tb pa (by omega)
  | @tup cb nj lG eb rb=>cases ry;obtain⟨cu,kj,pb⟩:=sb.isTup I eb;exact(by
   have hd:A.units+(bM o8+1) < cLine:=hu
   have items:jC A s iy cu o8 lG:=fun j h1 h2=>kq I sb o8 (A:=A.in1) ra rb z7 kj (by show A.units+1+bM o8 < cLine;omega) (eB iy j h1) (eB cu j h2)
   exact uQ (by omega) pa pb (z7.length.symm.trans ra.length) (kj.length.symm.trans rb.length) items)
  | @lst cb nj lG eb rb=>cases ry;obtain⟨cu,kj,pb⟩:=sb.fq I eb;exact SeqAt.RcNeAt.tuple_list pa pb (by omega)
 | @lst ca OS o8 ea ra=>
  cases rx;obtain⟨iy,z7,pa⟩:=sb.fq I ea
  cases r2 with
  | bZ=>cases ry;exact SeqAt.RcNeAt.list_none pa (by omega)
  | bl b=>cases ry;exact SeqAt.RcNeAt.list_bool b pa (by omega)
  | int b=>obtain⟨tb,rfl⟩:=ry;exact SeqAt.RcNeAt.list_int b tb pa (by omega)
  | str b=>obtain⟨tb,rfl⟩:=ry;exact SeqAt.RcNeAt.list_str b tb pa (by omega)
  | @tup cb nj lG eb rb=>cases ry;obtain⟨cu,kj,pb⟩:=sb.isTup I eb;exact SeqAt.RcNeAt.list_tuple pa pb (by omega)
  | @lst cb nj lG eb rb=>cases ry;obtain⟨cu,kj,pb⟩:=sb.fq I eb;exact(by
   have hd:A.units+(bM o8+1) < cLine:=hu
   have items:jC A s iy cu o8 lG:=fun j h1 h2=>kq I sb o8 (A:=A.in1) ra rb z7 kj (by show A.units+1+bM o8 < cLine;omega) (eB iy j h1) (eB cu j h2)
   exact wC (by omega) pa pb (z7.length.symm.trans ra.length) (kj.length.symm.trans rb.length) items)
noncomputable def BH:List D→Option U
 | [a,b]=>if cJ a≤40 then some (.t (.bl (lT a b))) else none
 | _=>none
noncomputable def Lu:List D→Option U
 | [a,b]=>if cJ a≤40 then some (.t (.bl (!lT a b))) else none
 | _=>none
theorem jm (hu:X.A.units+64 < cLine):Bf X (compareOp .Eq) BH:=by
 intro pins s σ H x y v u Q I rx ry ⟨F,ds,w,sb,rs,hw,q⟩
 obtain⟨d,e,rfl,r1,r2⟩:=xD rs
 obtain⟨hd,rfl⟩:=bL (show(if cJ d≤40 then some (U.t (.bl (lT d e))) else none)=some w from hw)
 exact OT I sb r1 r2 rx ry (by omega) _ _ _ _ ⟨.bl _,H,I,rfl,q _ F H (jj.refl ..) sb (.bl _)⟩
theorem yS (hu:X.A.units+64 < cLine):Bf X (compareOp .NotEq) Lu:=by
 intro pins s σ H x y v u Q I rx ry ⟨F,ds,w,sb,rs,hw,q⟩
 obtain⟨d,e,rfl,r1,r2⟩:=xD rs
 obtain⟨hd,rfl⟩:=bL (show(if cJ d≤40 then some (U.t (.bl (!lT d e))) else none)=some w from hw)
 exact IJ I sb r1 r2 rx ry (by omega) _ _ _ _ ⟨.bl _,H,I,rfl,q _ F H (jj.refl ..) sb (.bl _)⟩
noncomputable def inD (x:D) (ds:List D):Bool:=ds.any fun y=>lT y x
noncomputable def z8:List D→Option U
 | [x,.tup ds]=>if bM ds≤40 then some (.t (.bl (inD x ds))) else none
 | [x,.lst ds]=>if bM ds≤40 then some (.t (.bl (inD x ds))) else none
 | [.str i,.str j]=>some (.t (.bl (!(Builtin.Str.occurrences j i 0 j.length 1).isEmpty)))
 | _=>none
theorem xJ:∀{ds:List D}{d:D},d∈ds→cJ d≤bM ds
 | d :: ds,e,h=>by
  show cJ e≤max (cJ d) (bM ds)
  rcases List.mem_cons.mp h with rfl | h
  ·exact Nat.le_max_left _ _
  ·exact Nat.le_trans (xJ h) (Nat.le_max_right _ _)
theorem RelV.uniq {v w':V}{u:Value}(a:RelV v u) (b:RelV w' u):v=w':=by
 cases v <;> cases w' <;> simp only[RelV] at a b <;> first
  | rfl
  | (subst a;cases b;done)
  | (subst a;cases b;rfl)
  | (obtain⟨t,rfl⟩:=a;obtain⟨t',e⟩:=b;cases e;done)
  | (obtain⟨t,rfl⟩:=a;obtain⟨t',e⟩:=b;cases e;rfl)
  | (obtain⟨t,rfl⟩:=a;cases b;done)
  | (obtain⟨t,rfl⟩:=b;cases a;done)
open Classical in
noncomputable def BI (F:Hp) (d:D) (y:Value):Bool:=if h:∃(v:V) (dd:D),RelV v y∧Rep F v dd then lT (Classical.choose (Classical.choose_spec h)) d else false
theorem FU {v:V}{dd d:D}{y:Value}(a:RelV v y) (r:Rep F v dd):BI F d y=lT dd d:=by
 unfold BI
 have h:∃(v:V) (dd:D),RelV v y∧Rep F v dd:=⟨v,dd,a,r⟩
 rw[dif_pos h]
 have k:=Classical.choose_spec (Classical.choose_spec h)
 have e1:=RelV.uniq k.1 a
 have r':Rep F (Classical.choose h) dd:=by rw[e1];exact r
 rw[Rep.uniq k.2 r']
theorem qE (I:Inv X pins σ H s) (sb:Sub F H){A:Around}{x:V}{u:Value}{d:D}(r:Rep F x d) (rx:RelV x u):∀{vs:List V}{ds:List D}{its:List Value},bx F vs ds→Vals vs its→A.units+bM ds < cLine→
  (∀y∈its,SeqAt.EqAt A s y u (BI F d y))∧its.any (BI F d)=inD d ds
 | _,_,_,.nil,.nil,_=>⟨(fun y hy=>absurd hy (by simp)),rfl⟩
 | _,_,_,@bx.cons _ v dd vs ds r1 rs,.cons q qs,hu=>by
  have hd:A.units+max (cJ dd) (bM ds) < cLine:=hu
  obtain⟨h1,h2⟩:=qE I sb (A:=A) r rx rs qs (by omega)
  refine⟨fun y hy=>?_,?_⟩
  ·rcases List.mem_cons.mp hy with rfl | hy
   ·rw[FU q r1];exact J5 I sb dd r1 r q rx (by omega)
   ·exact h1 y hy
  ·rw[List.any_cons,h2,FU q r1]
   rfl
theorem yT (hu:X.A.units+64 < cLine):Bf X (compareOp .In) z8:=by
 intro pins s σ H x y v u Q I rx ry ⟨F,ds,w,sb,rs,hw,q⟩
 obtain⟨d,e,rfl,r1,r2⟩:=xD rs
 cases e with
 | tup ds=>
  obtain⟨hd,rfl⟩:=bL (show(if bM ds≤40 then some (U.t (.bl (inD d ds))) else none)=some w by cases d <;> exact hw)
  obtain⟨a,vs,rfl,fa,ha,rs⟩:=sb.pB r2
  cases ry
  obtain⟨its,rv,p⟩:=sb.isTup I fa
  obtain⟨h1,h2⟩:=qE I sb (A:=X.A.in1) r1 rx rs rv (by show X.A.units+1+bM ds < cLine;omega)
  refine SeqAt.in_tupleAt (BI F d) p (fun y hy=>h1 y (by simpa using hy)) ⟨.bl _,H,I,rfl,?_⟩
  rw[show its.toArray.any (BI F d)=its.any (BI F d) by simp,h2]
  exact q _ F H (jj.refl ..) sb (.bl _)
 | lst ds=>
  obtain⟨hd,rfl⟩:=bL (show(if bM ds≤40 then some (U.t (.bl (inD d ds))) else none)=some w by cases d <;> exact hw)
  obtain⟨a,vs,rfl,fa,ha,rs⟩:=sb.lE r2
  cases ry
  obtain⟨its,rv,p⟩:=sb.fq I fa
  obtain⟨h1,h2⟩:=qE I sb (A:=X.A.in1) r1 rx rs rv (by show X.A.units+1+bM ds < cLine;omega)
  refine SeqAt.in_listAt (BI F d) p (fun y hy=>h1 y (by simpa using hy)) ⟨.bl _,H,I,rfl,?_⟩
  rw[show its.toArray.any (BI F d)=its.any (BI F d) by simp,h2]
  exact q _ F H (jj.refl ..) sb (.bl _)
 | str j=>
  cases d <;> try (simp[z8] at hw;done)
  rename_i i
  cases hw
  cases r1
  cases r2
  exact Dk pins s σ H _ _ v u Q I rx ry ⟨i,j,rfl,rfl,q _ F H (jj.refl ..) sb (.bl _)⟩
 | bZ=>cases d <;> (simp[z8] at hw;done)
 | bl b=>cases d <;> (simp[z8] at hw;done)
 | int b=>cases d <;> (simp[z8] at hw;done)
end
end L2
end
section
set_option Elab.async false
set_option linter.all false
set_option maxRecDepth 100000
namespace L2
open PySem PySem.Spec PyProof.Rows
noncomputable def uR (T:String) (d:D):Option Bool:=match T with
 | "tuple"=>some (Ft d)
 | "list"=>some (Fv d)
 | "str"=>some (pK d)
 | "bool"=>some (JY d)
 | "int"=>some (Fw d)
 | _=>none
theorem FW {K:PySem.W.Frag}{T:String}{d:D}{b:Bool}(h:uR T d=some b):PySem.W.kitOne K (.type (JX d)) (.type T)=some b:=by
 unfold uR at h
 split at h
 ·cases h;exact Iu d
 ·cases h;exact Iv d
 ·cases h;exact Fx d
 ·cases h;exact Lo d
 ·cases h;exact Iw d
 ·cases h
noncomputable def mQ:List String→D→Option Bool
 | [],_=>some false
 | T :: Ts,d=>match uR T d with
  | some true=>some true
  | some false=>mQ Ts d
  | none=>none
section
variable {X:Cx}{pins:List (Addr×Obj)}{σ:St}{F H:Hp}{s:Shared}
theorem IK (I:Inv X pins σ H s) (sb:Sub F H){A:Around}{E:Value→Shared→Prop}{Q:Value→Shared→Prop}{x:V}{u:Value}{d:D}{c:Value}{b:Bool}(r:Rep F x d) (rx:RelV x u) (e:PySem.W.kitOne X.K (.type (JX d)) c=some b) (h:∀tk,Q (.bool b) {s with toks:=tk}):
  wpAny (model X.prog X.w) A (call (.builtin "isinstance") [u,c]) Q E s:=by
 cases r with
 | bZ=>cases rx;exact PySem.W.kia_one PySem.W.kitx_none I.uC True.intro e (fun z=>nomatch z) h
 | bl y=>cases rx;exact PySem.W.kia_one PySem.W.kitx_bool I.uC True.intro e (fun z=>nomatch z) h
 | int i=>obtain⟨t,rfl⟩:=rx;exact PySem.W.kia_one PySem.W.kitx_int I.uC True.intro e (fun z=>nomatch z) h
 | str y=>obtain⟨t,rfl⟩:=rx;exact PySem.W.kia_one PySem.W.kitx_str I.uC True.intro e (fun z=>nomatch z) h
 | tup ea _=>
  cases rx
  obtain⟨its,_,o,h1,h2,_⟩:=sb.isTup I ea
  exact PySem.W.kia_one PySem.W.kitx_tuple I.uC ⟨o,h1,h2⟩ e (fun z=>nomatch z) h
 | lst ea _=>
  cases rx
  obtain⟨its,_,o,h1,h2,_⟩:=sb.fq I ea
  exact PySem.W.kia_one PySem.W.kitx_list I.uC ⟨o,h1,h2⟩ e (fun z=>nomatch z) h
end
noncomputable def Q9 (Ts:List String) (g:GD):GD:=fun S=>(g S).bind fun p=>(mQ Ts p.1).map fun b=>(.bl b,p.2)
section
variable {X:Cx}{a b c e:Expr}{es:List Expr}{pos p p2 px:Pos}{x y:Str}{g ga gb gc:GD}{gA:GA}
theorem DP {T:String}{d:D}{b:Bool}(h:mQ [T] d=some b):uR T d=some b:=by
 unfold mQ at h
 cases e:uR T d with
 | none=>rw[e] at h;cases h
 | some k=>rw[e] at h;cases k <;> exact h
theorem xK {T:String}(hg:Gl X "isinstance") (hm:X.mg "isinstance" =none) (Uq:Gl X y) (hm2:X.mg y=none) (hv2:bootBuiltins y=some (.type T)) (ha:JD X a ga) (hn2:y≠"__name__":=by decide) (hd2:(y == ("__debug__":Str))=false:=by decide)
    (hs:starEach [a,.Name y px] X.env=(false,eval a X.env) :: starEach [.Name y px] X.env:=by rfl) (hs2:starEach [.Name y px] X.env=(false,eval (.Name y px) X.env) :: starEach [] X.env:=by rfl) (hpl:(backTo pos (starEach [.Name y px] X.env)).any (·.1)=false:=by rfl):
    JD X (.Call (.Name "isinstance" p) [a,.Name y px] [] pos) (Q9 [T] ga):=⟨fun B=>
  (mX (r := fun xs H Q => ∃ x F d b, xs = [x, .ty T] ∧ Sub F H ∧ Rep F x d ∧ uR T d = some b ∧ Q (.bl b) H) (fun pins s σ H xs us Q I r ⟨x, F, d, b, e1, sb, rd, hk, q⟩ => by
      subst e1
      obtain⟨u,w',rfl,ru,rw'⟩:=vals2 r
      cases rw'
      exact IK I sb rd ru (FW hk) fun tk=>⟨.bl b,H,I.tok tk,rfl,q⟩) hg hm PyProof.Rows.Boot.isinstance (ou (ha.h B) (ou (HH (v:=.ty T) Uq hm2 hv2 rfl hn2 hd2) yD hs2) hs) (by decide) (by decide) hs hpl).imp fun σ H Q ⟨S,F,d,S',R,hg,q⟩=>by
  obtain⟨⟨d1,S1⟩,h1,hg⟩:=ah hg
  obtain⟨k,h2,hg⟩:=aq hg
  cases hg
  exact⟨S,F,d1,_,R,h1,fun v F1 H1 R1 st1 r1=>⟨v,F1,d1,k,rfl,R1.sub,r1,DP h2,q _ F1 H1 R1 st1 (.bl k)⟩⟩⟩
noncomputable def kr:List D→Option (List Bool)
 | []=>some []
 | .bl b :: ds=>(kr ds).map fun bs=>b :: bs
 | _=>none
theorem tH {F:Hp}:∀{vs:List V}{ds:List D}{bs:List Bool},bx F vs ds→kr ds=some bs→vs=bs.map V.bl
 | _,_,_,.nil,h=>by cases h;rfl
 | _,_,_,@bx.cons _ v d vs ds r rs,h=>by
  cases d <;> try (simp[kr] at h;done)
  obtain⟨bs,h1,h2⟩:=aq (show(kr ds).map _=_ from h)
  subst h2
  rw[pN r,tH rs h1]
  rfl
noncomputable def IL:List D→Option U
 | [.lst ds]=>(kr ds).map fun bs=>.t (.bl (bs.all id))
 | _=>none
noncomputable def Ur:List D→Option U
 | [.lst ds]=>(kr ds).map fun bs=>.t (.bl (bs.any id))
 | _=>none
theorem CQ {P:D→Prop}{F:Hp}{xs:List V}{ds:List D}{f:List D→Option U}{w':U}(rs:bx F xs ds) (h:f ds=some w') (hn:f []=none) (h2:∀a b r,f (a :: b :: r)=none):∃x d,xs=[x]∧ds=[d]∧Rep F x d:=by
 cases rs with
 | nil=>rw[hn] at h;cases h
 | cons r rs=>
  cases rs with
  | nil=>exact⟨_,_,rfl,rfl,r⟩
  | cons _ _=>rw[h2] at h;cases h
theorem DQ (hc:X.calm=true):iu X (.builtin "all") (rP IL):=by
 intro pins s σ H xs us Q I r ⟨F,ds,w,sb,rs,hw,q⟩
 obtain⟨x,d,rfl,rfl,r1⟩:=CQ (P:=fun _=>True) rs hw rfl (fun d _ _=>by cases d <;> rfl)
 cases d <;> try (simp[IL] at hw;done)
 rename_i ds
 obtain⟨bs,h1,rfl⟩:=aq (show(kr ds).map _=some w from hw)
 obtain⟨a,vs,rfl,fa,ha,zH⟩:=sb.lE r1
 obtain rfl:=tH zH h1
 exact DF hc pins s σ H _ us Q I r ⟨a,bs,rfl,.inl ha,q _ F H (jj.refl ..) sb (.bl _)⟩
noncomputable def OU:List D→Option U
 | [.int i,.int j,.int k]=>some (.t (.int (if j < i then(if k < j then k else j) else if k < i then k else i)))
 | _=>none
noncomputable def OV:List D→Option U
 | [.int i,.int j]=>some (.t (.int (if j < i then j else i)))
 | _=>none
noncomputable def CS:List D→Option U
 | [.int i,.int j]=>some (.t (.int (if j > i then j else i)))
 | _=>none
theorem BJ (hc : X.calm = true) : iu X (.builtin "max") (rP CS) := by
  intro pins s σ H xs us Q I r ⟨F,ds,w,sb,rs,hw,q⟩
  unfold CS at hw
  split at hw
  · rename_i i j
    cases hw
    cases rs with
    | cons r1 rs=>cases rs with
      | cons r2 rs=>
        cases rs
        rw[jY r1,jY r2] at r
        exact Dl hc pins s σ H _ us Q I r ⟨i,j,rfl,q _ F H (jj.refl ..) sb (.int _)⟩
  · cases hw
noncomputable def J6:List D→Option U
 | [.tup ds]=>some (.m (.lst ds))
 | [.lst ds]=>some (.m (.lst ds))
 | _=>none
noncomputable def FY:List D→Option U
 | [.tup ds]=>some (.t (.tup ds))
 | [.lst ds]=>some (.t (.tup ds))
 | _=>none
end
end L2
end
section
set_option Elab.async false
set_option linter.all false
set_option maxRecDepth 100000
namespace L2
open PySem PySem.Spec PyProof.Rows
noncomputable def keyOf:D→Option Key
 | .int i=>some (.inl i)
 | .str z=>some (.inr z)
 | _=>none
theorem lH {F:Hp}{v:V}{d:D}{k:Key}(r:Rep F v d) (h:keyOf d=some k):v=kV k:=by
 cases r <;> cases h <;> rfl
noncomputable def cK {κ:Type} [DecidableEq κ] (kvs:List (κ×D)) (k:κ):Option D:=(kvs.find? fun kv=>decide (kv.1=k)).map (·.2)
noncomputable def putD {κ:Type} [DecidableEq κ] (kvs:List (κ×D)) (k:κ) (d:D):List (κ×D):=
 if(kvs.any fun kv=>decide (kv.1=k))=true then kvs.map (fun kv=>if kv.1=k then(kv.1,d) else kv) else kvs++[(k,d)]
theorem oE {κ:Type} [DecidableEq κ] {F:Hp}{k:κ}{d:D}:∀{ws:List (κ×V)}{kvs:List (κ×D)},Paired (fL F) ws kvs→cK kvs k=some d→∃v,pJ ws k=some v∧Rep F v d
 | _,_,.nil,h=>by cases h
 | _,_,@Paired.cons _ _ _ p q ws kvs r rs,h=>by
  by_cases e:q.1=k
  ·have e':p.1=k:=r.1.trans e
   refine⟨p.2,qm e',?_⟩
   have:cK (q :: kvs) k=some q.2:=by simp[cK,List.find?_cons,e]
   rw[this] at h
   cases h
   exact r.2
  ·have e':¬p.1=k:=fun z=>e (r.1.symm.trans z)
   have:cK (q :: kvs) k=cK kvs k:=by simp[cK,List.find?_cons,e]
   rw[this] at h
   obtain⟨v,h1,h2⟩:=oE rs h
   exact⟨v,by rw[mY e'];exact h1,h2⟩
theorem xM {κ:Type} [DecidableEq κ] {F:Hp}{k:κ}:∀{ws:List (κ×V)}{kvs:List (κ×D)},Paired (fL F) ws kvs→cK kvs k=none→pJ ws k=none
 | _,_,.nil,h=>rfl
 | _,_,@Paired.cons _ _ _ p q ws kvs r rs,h=>by
  by_cases e:q.1=k
  ·have:cK (q :: kvs) k=some q.2:=by simp[cK,List.find?_cons,e]
   rw[this] at h
   cases h
  ·have e':¬p.1=k:=fun z=>e (r.1.symm.trans z)
   have:cK (q :: kvs) k=cK kvs k:=by simp[cK,List.find?_cons,e]
   rw[this] at h
   rw[mY e']
   exact xM rs h
theorem z9 {κ:Type} [DecidableEq κ] {F:Hp}{k:κ}:∀{ws:List (κ×V)}{kvs:List (κ×D)},Paired (fL F) ws kvs→(ws.any fun kv=>decide (kv.1=k))=(kvs.any fun kv=>decide (kv.1=k))
 | _,_,.nil=>rfl
 | _,_,.cons r rs=>by rw[List.any_cons,List.any_cons,z9 rs,r.1]
theorem Aa {κ:Type} [DecidableEq κ] {F:Hp}{k:κ}{v:V}{d:D}(r:Rep F v d):∀{ws:List (κ×V)}{kvs:List (κ×D)},Paired (fL F) ws kvs→Paired (fL F) (ws.map fun kv=>if kv.1=k then(kv.1,v) else kv) (kvs.map fun kv=>if kv.1=k then(kv.1,d) else kv)
 | _,_,.nil=>.nil
 | _,_,@Paired.cons _ _ _ p q ws kvs h hs=>by
  refine .cons ?_ (Aa r hs)
  show fL F (if p.1=k then(p.1,v) else p) (if q.1=k then(q.1,d) else q)
  rw[h.1]
  by_cases e:q.1=k
  ·rw[if_pos e,if_pos e];exact⟨rfl,r⟩
  ·rw[if_neg e,if_neg e];exact h
theorem tK {α β:Type}{P:α→β→Prop}{x:α}{y:β}(p:P x y):∀{l:List α}{r:List β},Paired P l r→Paired P (l++[x]) (r++[y])
 | _,_,.nil=>.cons p .nil
 | _,_,.cons q qs=>.cons q (tK p qs)
theorem uS {κ:Type} [DecidableEq κ] {F:Hp}{k:κ}{v:V}{d:D}{ws:List (κ×V)}{kvs:List (κ×D)}(h:Paired (fL F) ws kvs) (r:Rep F v d):Paired (fL F) (putK ws k v) (putD kvs k d):=by
 unfold putK putD
 rw[z9 h]
 by_cases e:(kvs.any fun kv=>decide (kv.1=k))=true
 ·rw[if_pos e,if_pos e];exact Aa r h
 ·rw[if_neg e,if_neg e];exact tK ⟨rfl,r⟩ h
noncomputable def keysOf:List D→Option (List Key)
 | []=>some []
 | d :: ds=>(keyOf d).bind fun k=>(keysOf ds).map fun ks=>k :: ks
noncomputable def BK:D→Option (List Key)
 | .tup ds=>keysOf ds
 | _=>none
theorem tL {F:Hp}:∀{vs:List V}{ds:List D}{ks:List Key},bx F vs ds→keysOf ds=some ks→vs=ks.map kV
 | _,_,_,.nil,h=>by cases h;rfl
 | _,_,_,.cons r rs,h=>by
  obtain⟨k,h1,h⟩:=ah h
  obtain⟨ks,h2,rfl⟩:=aq h
  rw[lH r h1,tL rs h2]
  rfl
theorem qF {F H:Hp}{v:V}{d:D}{ks:List Key}(sb:Sub F H) (r:Rep F v d) (h:BK d=some ks):∃b,v= .ref b∧H b=some (.tup (ks.map kV)):=by
 cases r with
 | tup e rs=>exact⟨_,rfl,by rw[←tL rs h];exact sb _ _ e⟩
 | bZ=>cases h
 | bl _=>cases h
 | int _=>cases h
 | str _=>cases h
 | lst _ _=>cases h
noncomputable def qG:U→D→Option D
 | .t (.tup ds),.int i=>iS ds i
 | .t (.lst ds),.int i=>iS ds i
 | .m (.lst ds),.int i=>iS ds i
 | .b (.lst ds),.int i=>iS ds i
 | .s ns,.int i=>(iS ns i).map D.int
 | .m (.dct kvs),k=>(keyOf k).bind (cK kvs)
 | .b (.dct kvs),k=>(keyOf k).bind (cK kvs)
 | .m (.xB kvs),k=>(BK k).bind (cK kvs)
 | .b (.xB kvs),k=>(BK k).bind (cK kvs)
 | _,_=>none
noncomputable def gZ (i:Nat) (gb:GD):GD:=fun S=>match S[i]? with
 | some (some _)=>(gb S).bind fun p=>match p.2[i]? with
  | some (some u)=>(qG u p.1).map fun d=>(d,p.2)
  | _=>none
 | _=>none
theorem IM {α β:Type}(f:α→β){l:List α}{i:Int}{x:α}(h:iS l i=some x):iS (l.map f) i=some (f x):=by
 unfold iS at h ⊢
 rw[List.length_map]
 obtain⟨j,h1,h2⟩:=ah h
 rw[h1]
 show(l.map f)[j]? =_
 rw[List.getElem?_map,h2]
 rfl
section
variable {X:Cx}{a b c e value:Expr}{es:List Expr}{pos p p2 px pos':Pos}{x y:Str}{g ga gb gc gk gv:GD}{gA:GA}
theorem cH {i : Nat} (hu : X.A.units + 1 < cLine) (hb : JD X b gb) (hs : yI b := by first | (intro _ _; rfl)) (hN : X.N[i]? = some x := by rfl) (hv : Bd X.env.scope x := by first | exact Or.inl rfl | exact Or.inr (Or.inl rfl) | exact Or.inr (Or.inr rfl))
    (hd:(x == ("__debug__":Str))=false:=by decide) (hcd:(x == ("__classdict__":Str))=false:=by decide):JD X (.Subscript (.Name x px) b pos) (gZ i gb):=⟨fun B=>PE.orelse fun σ H Q ⟨S,F,d,S',R,hg,q⟩=>by
  unfold gZ at hg
  split at hg
  · rename_i u0 OW
    obtain⟨v0,hv0,_⟩:=R.rep i u0 OW
    obtain⟨⟨k,S1⟩,h1,hg⟩:=ah hg
    dsimp only at hg
    split at hg
    · rename_i u hS
      obtain⟨d',hr,hg⟩:=aq hg
      cases hg
      have CO:∀F1 H1,Rel X.K B S' σ F1 H1→wA X.K F1 H1 v0 u:=fun F1 H1 R1=>by
        obtain⟨v,k1,k2⟩:=R1.rep i u hS
        rw[hv0] at k1
        cases k1
        exact k2
      have seq:∀(Y:V→V→Hp→VK→Prop),PE X (.Subscript (.Name x px) b pos) (Na Y (Kw i) (tD X.K B gb))→(∀v F1 H1,Rel X.K B S' σ F1 H1→Step S S' σ F H F1 H1→Rep F1 v k→Y v0 v H1 Q)→∃t',PE X (.Subscript (.Name x px) b pos) t'∧t' σ H Q:=fun Y hY h=>
        ⟨_,hY,v0,hv0,S,F,k,S',R,h1,fun v F1 H1 R1 st1 r1=>h v F1 H1 R1 st1 r1⟩
      have dict:∀kvs,(∀F1 H1,Rel X.K B S' σ F1 H1→∃a ws,v0= .ref a∧H1 a=some (.dK ws)∧Paired (fL F1) ws kvs)→(keyOf k).bind (cK kvs)=some d→∃t',PE X (.Subscript (.Name x px) b pos) t'∧t' σ H Q:=fun kvs hat hr=>by
        obtain⟨kk,e1,e2⟩:=ah hr
        refine⟨_,Cz hu (gw hN hv hd hcd) (hb.h B) hs,v0,hv0,S,F,k,S',R,h1,fun v F1 H1 R1 st1 r1=>?_⟩
        obtain⟨a,ws,rfl,ha,pr⟩:=hat F1 H1 R1
        obtain⟨w',z1,z2⟩:=oE pr e2
        rw[lH r1 e1]
        exact⟨a,w',rfl,by rw[←z1];exact oX.k ha,q w' F1 H1 R1 st1 z2⟩
      have J7:∀kvs,(∀F1 H1,Rel X.K B S' σ F1 H1→∃a ws,v0= .ref a∧H1 a=some (.dT ws)∧Paired (fL F1) ws kvs)→(BK k).bind (cK kvs)=some d→∃t',PE X (.Subscript (.Name x px) b pos) t'∧t' σ H Q:=fun kvs hat hr=>by
        obtain⟨kk,e1,e2⟩:=ah hr
        refine⟨_,Cz hu (gw hN hv hd hcd) (hb.h B) hs,v0,hv0,S,F,k,S',R,h1,fun v F1 H1 R1 st1 r1=>?_⟩
        obtain⟨a,ws,rfl,ha,pr⟩:=hat F1 H1 R1
        obtain⟨w',z1,z2⟩:=oE pr e2
        obtain⟨b',rfl,hb'⟩:=qF R1.sub r1 e1
        exact⟨a,w',rfl,by rw[←z1];exact oX.t ha hb',q w' F1 H1 R1 st1 z2⟩
      have list:∀ds ii,k= .int ii→iS ds ii=some d→(∀F1 H1,Rel X.K B S' σ F1 H1→∃a vs,v0= .ref a∧(pG X.K H1 a vs∨zO X.K H1 a vs)∧bx F1 vs ds)→∃t',PE X (.Subscript (.Name x px) b pos) t'∧t' σ H Q:=fun ds ii ek hrr hat=>by
        subst ek
        refine seq _ (Fb Fe (gw hN hv hd hcd) (hb.h B) hs) fun v F1 H1 R1 st1 r1=>?_
        obtain⟨a,vs,rfl,ha,rs⟩:=hat F1 H1 R1
        obtain⟨w',z1,z2⟩:=rs.iS hrr
        rw[jY r1]
        rcases ha with ha | ha
        · exact .inl ⟨a,vs,ii,w',rfl,rfl,ha,z1,q w' F1 H1 R1 st1 z2⟩
        · exact .inr (.inl ⟨a,vs,ii,w',rfl,rfl,ha,z1,q w' F1 H1 R1 st1 z2⟩)
      unfold qG at hr
      split at hr
      · rename_i ds ii
        exact list ds ii rfl hr fun F1 H1 R1=>let⟨a,vs,e1,fa,ha,rs⟩:=R1.sub.pB (CO F1 H1 R1);⟨a,vs,e1,.inr (.inl ha),rs⟩
      · rename_i ds ii
        exact list ds ii rfl hr fun F1 H1 R1=>let⟨a,vs,e1,fa,ha,rs⟩:=R1.sub.lE (CO F1 H1 R1);⟨a,vs,e1,.inl (.inl ha),rs⟩
      · rename_i ds ii
        exact list ds ii rfl hr fun F1 H1 R1=>let⟨a,e1,fa,vs,ha,rs⟩:=CO F1 H1 R1;⟨a,vs,e1,.inl (pG.of ha),rs⟩
      · rename_i ds ii
        exact list ds ii rfl hr fun F1 H1 R1=>let⟨a,e1,fa,vs,ha,rs⟩:=CO F1 H1 R1;⟨a,vs,e1,.inl (pG.of ha),rs⟩
      · rename_i ns ii
        obtain⟨n,z1,z2⟩:=aq hr
        subst z2
        refine seq _ (Fb Fe (gw hN hv hd hcd) (hb.h B) hs) fun v F1 H1 R1 st1 r1=>?_
        obtain⟨a,e1,ha⟩:=CO F1 H1 R1
        rw[jY r1]
        exact .inl ⟨a,ns.map V.int,ii,.int n,e1,rfl,ha.sq,IM V.int z1,q _ F1 H1 R1 st1 (.int n)⟩
      · rename_i kvs
        exact dict kvs (fun F1 H1 R1=>let⟨a,e1,fa,ws,ha,pr⟩:=CO F1 H1 R1;⟨a,ws,e1,ha,pr⟩) hr
      · rename_i kvs
        exact dict kvs (fun F1 H1 R1=>let⟨a,e1,fa,ws,ha,pr⟩:=CO F1 H1 R1;⟨a,ws,e1,ha,pr⟩) hr
      · rename_i kvs
        exact J7 kvs (fun F1 H1 R1=>let⟨a,e1,fa,ws,ha,pr⟩:=CO F1 H1 R1;⟨a,ws,e1,ha,pr⟩) hr
      · rename_i kvs
        exact J7 kvs (fun F1 H1 R1=>let⟨a,e1,fa,ws,ha,pr⟩:=CO F1 H1 R1;⟨a,ws,e1,ha,pr⟩) hr
      · cases hr
    · cases hg
  · cases hg⟩
noncomputable def yU:U→Option Nat
 | .t (.tup ds)=>some ds.length
 | .t (.lst ds)=>some ds.length
 | .t (.str z)=>if z.length≤100000 then some z.length else none
 | .m (.lst ds)=>some ds.length
 | .b (.lst ds)=>some ds.length
 | .m (.dct ds)=>some ds.length
 | .b (.dct ds)=>some ds.length
 | .s ns=>some ns.length
 | _=>none
noncomputable def rZ (i:Nat):GD:=fun S=>match S[i]? with
 | some (some u)=>(yU u).map fun n=>(.int (n:Nat),S)
 | _=>none
theorem cY {α β:Type}{P:α→β→Prop}:∀{l:List α}{r:List β},Paired P l r→l.length=r.length
 | _,_,.nil=>rfl
 | _,_,.cons _ ps=>congrArg Nat.succ (cY ps)
theorem kT {i:Nat}(hg:Gl X "len") (hm:X.mg "len" =none) (hN:X.N[i]? =some x:=by rfl) (hv:Bd X.env.scope x:=by first | exact Or.inl rfl | exact Or.inr (Or.inl rfl) | exact Or.inr (Or.inr rfl))
  (hd:(x == ("__debug__":Str))=false:=by decide) (hcd:(x == ("__classdict__":Str))=false:=by decide) (he:starEach [.Name x px] X.env=(false,eval (.Name x px) X.env) :: starEach [] X.env:=by rfl) (hpl:(backTo pos (starEach [] X.env)).any (·.1)=false:=by rfl):
  JD X (.Call (.Name "len" p) [.Name x px] [] pos) (rZ i):=⟨fun B=>PE.orelse fun σ H Q ⟨S,F,d,S',R,hg',q⟩=>by
 unfold rZ at hg'
 split at hg'
 ·rename_i u hS
  obtain⟨n,hn,hg'⟩:=aq hg'
  cases hg'
  obtain⟨v0,hv0,r0⟩:=R.rep i u hS
  have fin:=q (.int n) F H R (Step.refl ..) (.int _)
  have arg:PA X [.Name x px] (JM (Kw i) HW):=ou (gw hN hv hd hcd) yD he
  have list:∀a vs,v0= .ref a→(pG X.K H a vs∨zO X.K H a vs)→vs.length=n→∃t',PE X (.Call (.Name "len" p) [.Name x px] [] pos) t'∧t' σ H Q:=fun a vs e1 ha hl=>
   ⟨_,mX lU hg hm PySem.boot_len arg (by decide) (by decide) he hpl,v0,hv0,a,vs,by rw[e1],ha,by rw[hl];exact fin⟩
  have dict:∀a ws,v0= .ref a→H a=some (.dK ws)→ws.length=n→∃t',PE X (.Call (.Name "len" p) [.Name x px] [] pos) t'∧t' σ H Q:=fun a vs e1 ha hl=>
   ⟨_,mX DE hg hm PySem.boot_len arg (by decide) (by decide) he hpl,v0,hv0,a,vs,by rw[e1],ha,by rw[hl];exact fin⟩
  unfold yU at hn
  split at hn
  ·cases hn;obtain⟨a,vs,e1,fa,ha,rs⟩:=R.sub.pB r0;exact list a vs e1 (.inr (.inl ha)) rs.length
  ·cases hn;obtain⟨a,vs,e1,fa,ha,rs⟩:=R.sub.lE r0;exact list a vs e1 (.inl (.inl ha)) rs.length
  ·rename_i z
   obtain⟨hl,rfl⟩:=bL hn
   exact⟨_,mX qp hg hm PySem.boot_len arg (by decide) (by decide) he hpl,v0,hv0,z,by rw[CM r0],jX hl,fin⟩
  ·cases hn;obtain⟨a,e1,fa,vs,ha,rs⟩:=r0;exact list a vs e1 (.inl (pG.of ha)) rs.length
  ·cases hn;obtain⟨a,e1,fa,vs,ha,rs⟩:=r0;exact list a vs e1 (.inl (pG.of ha)) rs.length
  ·cases hn;obtain⟨a,e1,fa,ws,ha,pr⟩:=r0;exact dict a ws e1 ha (cY pr)
  ·cases hn;obtain⟨a,e1,fa,ws,ha,pr⟩:=r0;exact dict a ws e1 ha (cY pr)
  ·cases hn;obtain⟨a,e1,ha⟩:=r0;exact list a _ e1 (.inl ha.sq) (by simp)
  ·cases hn
 ·cases hg'⟩
end
end L2
end
section
set_option Elab.async false
set_option linter.all false
set_option maxRecDepth 100000
namespace L2
open PySem PySem.Spec PyProof.Rows
noncomputable def uT (o:MO) (k d:D):Option MO:=match o with
 | .dct kvs=>(keyOf k).bind fun kk=>if kvs.length < 100000 then some (.dct (putD kvs kk d)) else none
 | .xB kvs=>(BK k).bind fun kk=>if kvs.length < 100000 then some (.xB (putD kvs kk d)) else none
 | .ins _ _=>none
 | .lst ds=>match k with
  | .int i=>(Dy ds.length i).map fun j=>.lst (ds.set j d)
  | _=>none
noncomputable def FZ (i:Nat) (gk gv:GD):GS:=fun S=>(gv S).bind fun p=>match p.2[i]? with
 | some (some _)=>(gk p.2).bind fun r=>(qz r.2 i fun o=>(uT o r.1 p.1).map fun o'=>(.bZ,o')).map fun z=>.nx z.2
 | _=>none
theorem bx.set {F:Hp}{v:V}{d:D}(r:Rep F v d):∀{vs:List V}{ds:List D}(j:Nat),bx F vs ds→bx F (vs.set j v) (ds.set j d)
 | _,_,_,.nil=>.nil
 | _,_,0,.cons _ rs=>.cons r rs
 | _,_,j+1,.cons q rs=>.cons q (bx.set r j rs)
section
variable {X:Cx}{a b c e value k:Expr}{es:List Expr}{pos p p2 px pos':Pos}{x y:Str}{g ga gb gc gk gv:GD}{gA:GA}
theorem BL {i:Nat}(hu:X.A.units+1 < cLine) (hk:JD X k gk) (hval:JD X value gv) (hN:X.N[i]? =some x:=by rfl) (hv:Bd X.env.scope x:=by first | exact Or.inl rfl | exact Or.inr (Or.inl rfl) | exact Or.inr (Or.inr rfl))
  (hd:(x == ("__debug__":Str))=false:=by decide) (hcd:(x == ("__classdict__":Str))=false:=by decide)
  (hs:swapsWith value (some (.Subscript (.Name x px) k pos')) pos.line X.env=pure false:=by rfl)
  (hs1:swapsWithSole [.Subscript (.Name x px) k pos'] value pos.line X.env=pure false:=by rfl) (hs2:swappedStores [.Subscript (.Name x px) k pos'] value X.env=pure none:=by rfl)
  (hs3:(assignEach [.Subscript (.Name x px) k pos'] X.env).map (·.2)=[assign (.Subscript (.Name x px) k pos') X.env]:=by rfl)
  (hs4:∀v,assign (.Subscript (.Name x px) k pos') X.env v=(do
   let ov ←holding [v] (eval (.Name x px) X.env)
   let iv ←holding [v,ov] (eval k X.env)
   standAt pos'
   holding [v,ov,iv] (setItem ov iv v)
   release [v,ov,iv] []):=by intro _;rfl):
  JS X (.Assign [.Subscript (.Name x px) k pos'] value pos) (FZ i gk gv):=⟨fun B=>PS.orelse fun D σ H ⟨S,F,o,R,hg,q⟩=>by
 obtain⟨⟨d,S1⟩,h1,hg⟩:=ah hg
 dsimp only at hg
 split at hg
 ·rename_i u0 OW
  obtain⟨⟨kd,S2⟩,h2,hg⟩:=ah hg
  obtain⟨⟨nd,S3⟩,h3,hg⟩:=aq hg
  subst hg
  obtain⟨u,u',mo,mo',hS,DN,hio,hf,IG,rfl⟩:=oz h3
  obtain⟨mo2,hw,hf2⟩:=aq hf
  cases hf2
  have hv0:∀F1 H1,Rel X.K B S1 σ F1 H1→∃v,σ[i]? =some (some v):=fun F1 H1 R1=>let⟨v,k1,_⟩:=R1.rep i u0 OW;⟨v,k1⟩
  cases mo with
  | dct kvs=>
   obtain⟨kk,e1,hw⟩:=ah hw
   obtain⟨hl,rfl⟩:=bL hw
   refine⟨_,CA hu (gw hN hv hd hcd) (hk.h B) (hval.h B) hs,S,F,d,S1,R,h1,fun v F1 H1 R1 st1 r1=>?_⟩
   obtain⟨v0,hv0⟩:=hv0 F1 H1 R1
   refine⟨v0,hv0,S1,F1,kd,S2,R1,h2,fun y F2 H2 R2 st2 r2=>?_⟩
   obtain⟨v',k1,k2⟩:=R2.rep i u hS
   rw[hv0] at k1
   cases k1
   obtain⟨a,o2,rfl,fa,eo,k3⟩:=k2.dB DN
   rw[hio] at eo
   cases eo
   obtain⟨ws,ha,pr⟩:=k3
   rw[lH r2 e1]
   refine⟨a,_,rfl,zT.k ha (by rw[cY pr];exact Nat.lt_of_lt_of_le hl (by decide)),?_⟩
   obtain⟨R3,st3⟩:=R2.write (ho:=.dK (putK ws kk v)) hS IG hv0 ⟨_,aW,uS pr (r1.le st2.ext.le)⟩
   exact q σ F2 _ R3 fun b o z=>st2.ext.le b o (st1.ext.le b o z)
  | ins C kvs=>cases hw
  | xB kvs=>
   obtain⟨kk,e1,hw⟩:=ah hw
   obtain⟨hl,rfl⟩:=bL hw
   refine⟨_,CA hu (gw hN hv hd hcd) (hk.h B) (hval.h B) hs,S,F,d,S1,R,h1,fun v F1 H1 R1 st1 r1=>?_⟩
   obtain⟨v0,hv0⟩:=hv0 F1 H1 R1
   refine⟨v0,hv0,S1,F1,kd,S2,R1,h2,fun y F2 H2 R2 st2 r2=>?_⟩
   obtain⟨v',k1,k2⟩:=R2.rep i u hS
   rw[hv0] at k1
   cases k1
   obtain⟨a,o2,rfl,fa,eo,k3⟩:=k2.dB DN
   rw[hio] at eo
   cases eo
   obtain⟨ws,ha,pr⟩:=k3
   obtain⟨b',rfl,hb'⟩:=qF R2.sub r2 e1
   refine⟨a,_,rfl,zT.t ha hb' (by rw[cY pr];exact Nat.lt_of_lt_of_le hl (by decide)),?_⟩
   obtain⟨R3,st3⟩:=R2.write (ho:=.dT (putK ws kk v)) hS IG hv0 ⟨_,aW,uS pr (r1.le st2.ext.le)⟩
   exact q σ F2 _ R3 fun b o z=>st2.ext.le b o (st1.ext.le b o z)
  | lst ds=>
   unfold uT at hw
   dsimp only at hw
   split at hw
   ·rename_i ii
    obtain⟨j,e1,rfl⟩:=aq hw
    refine⟨_,KO (hval.h B) (KL (gw hN hv hd hcd) (hk.h B) set_list hs4) hs1 hs2 hs3,S,F,d,S1,R,h1,fun v F1 H1 R1 st1 r1=>?_⟩
    obtain⟨v0,hv0⟩:=hv0 F1 H1 R1
    refine⟨v0,hv0,S1,F1,_,S2,R1,h2,fun y F2 H2 R2 st2 r2=>?_⟩
    obtain⟨v',k1,k2⟩:=R2.rep i u hS
    rw[hv0] at k1
    cases k1
    obtain⟨a,o2,rfl,fa,eo,k3⟩:=k2.dB DN
    rw[hio] at eo
    cases eo
    obtain⟨vs,ha,rs⟩:=k3
    rw[jY r2]
    refine⟨a,vs,_,j,rfl,rfl,ha,by rw[rs.length];exact e1,?_⟩
    obtain⟨R3,st3⟩:=R2.write (ho:=.lst (vs.set j v)) hS IG hv0 ⟨_,aW,rs.set (r1.le st2.ext.le) j⟩
    exact q σ F2 _ R3 fun b o z=>st2.ext.le b o (st1.ext.le b o z)
   ·cases hw
 ·cases hg⟩
theorem Rel.Us {K:PySem.W.Frag}{B:Base}{S:SS}{σ:St}{F H:Hp}{a:Addr}{o o':HO}(R:Rel K B S σ F H) (hn:¬dB S σ a) (hf:F a=none) (hB:B.H a=none) (hh:H a=some o) (hz:∀ob u,o≠.jV ob u):Rel K B S σ F (upd H a o'):=by
 have Nd:∀b ob w,H b=some (.jV ob w)→upd H a o' b=some (.jV ob w):=fun b ob w z=>by
  rw[aP (fun e=>by rw[e,hh] at z;cases z;exact hz _ _ rfl)];exact z
 refine⟨fun b u z=>?_,R.len,fun j w z=>?_,R.CJ,R.own,R.bor,R.par,⟨R.ext.le,fun b u z n=>?_,R.ext.jR,fun b u z=>?_,fun b ob w z=>Nd b ob w (R.ext.jV b ob w z)⟩⟩
 ·have hb:b≠a:=fun e=>by rw[e,hf] at z;cases z
  rw[aP hb];exact R.sub b u z
 ·obtain⟨v,h1,h2⟩:=R.rep j w z
  refine⟨v,h1,h2.le (fun _ _ z=>z) Nd fun c hm hc=>?_⟩
  have hca:c≠a:=fun e=>hn ⟨j,w,z,hm,by rw[h1,hc,e]⟩
  obtain⟨c',_,e,f,_⟩:=h2.dB hm
  rw[hc] at e
  cases e
  exact⟨fun o z=>by rw[aP hca];exact z,f⟩
 ·rw[aP (fun e=>by rw[e,hB] at z;cases z)];exact R.ext.keep b u z n
 ·by_cases hb:b=a
  ·exact⟨o',by rw[hb,aW]⟩
  ·rw[aP hb];exact R.ext.there b u z
noncomputable def lX:List (Str×GD)→SS→Option (List (Key×D)×SS)
 | [],S=>some ([],S)
 | (z,g) :: r,S=>(g S).bind fun p=>(lX r p.2).map fun q=>((.inr z,p.1) :: q.1,q.2)
noncomputable def dh (kvs more:List (Key×D)):List (Key×D):=more.foldl (fun acc kv=>putD acc kv.1 kv.2) kvs
theorem pR {F:Hp}:∀{more:List (Key×V)}{J8:List (Key×D)}{ws:List (Key×V)}{kvs:List (Key×D)},Paired (fL F) more J8→Paired (fL F) ws kvs→Paired (fL F) (j9 ws more) (dh kvs J8)
 | _,_,_,_,.nil,h=>h
 | _,_,ws,kvs,@Paired.cons _ _ _ p q _ _ r rs,h=>by
  have e:=uS (k:=q.1) h r.2
  show Paired (fL F) (j9 (putK ws p.1 p.2) _) (dh (putD kvs q.1 q.2) _)
  rw[r.1]
  exact pR rs e
noncomputable def qH (wF:List (Str×GD)):GE:=fun S=>(lX wF S).map fun p=>(.m (.dct (dh [] p.1)),p.2)
structure Rb (X:Cx) (pos:Pos) (keys:List (Option Expr)) (values:List Expr) (wF:List (Str×GD)):Prop where
 h:∀B,Oj X pos keys values (wF.map fun p=>(tC (.str p.1),tD X.K B p.2))
theorem qI:Rb X pos [] [] []:=⟨fun B=>Ic⟩
theorem cV {z:Str}{j:Nat}{pk:Pos}{v:Expr}{ks:List (Option Expr)}{vs:List Expr}{wF:List (Str×GD)}(hv:JD X v g) (hr:Rb X pos ks vs wF):Rb X pos (some (.Constant (.str z) j pk) :: ks) (v :: vs) ((z,g) :: wF):=⟨fun B=>E4 EM (hv.h B) (hr.h B)⟩
theorem Ab {B:Base}{σ:St}:∀{wF:List (Str×GD)}{S0 S:SS}{F0 H0 F H:Hp}{kvs:List (Key×D)}{S':SS}{Q:List (V×V)→Hp→Prop},Rel X.K B S σ F H→Step S0 S σ F0 H0 F H→lX wF S=some (kvs,S')→
  (∀(ws:List (Key×V)) (F' H':Hp),Rel X.K B S' σ F' H'→Step S0 S' σ F0 H0 F' H'→Paired (fL F') ws kvs→Q (ws.map fun kv=>(kV kv.1,kv.2)) H')→uH (wF.map fun p=>(tC (.str p.1),tD X.K B p.2)) σ H Q
 | [],S0,S,F0,H0,F,H,kvs,S',Q,R,st,h,q=>by cases h;exact q [] F H R st .nil
 | (z,g) :: r,S0,S,F0,H0,F,H,kvs,S',Q,R,st,h,q=>by
  obtain⟨⟨d,S1⟩,h1,h⟩:=ah h
  obtain⟨⟨aa9,S2⟩,h2,h⟩:=aq h
  cases h
  show tC (.str z) σ H fun x H1=>tD X.K B g σ H1 fun y H2=>uH _ σ H2 fun ps H3=>Q ((x,y) :: ps) H3
  refine⟨S,F,d,S1,R,h1,fun v F1 H1 R1 st1 r1=>?_⟩
  refine Ab (S0:=S1) (F0:=F1) (H0:=H1) R1 (Step.refl ..) h2 fun ws F2 H2 R2 st2 pr=>?_
  exact q ((.inr z,v) :: ws) F2 H2 R2 ((st.trans st1).trans st2) (.cons ⟨rfl,r1.le st2.ext.le⟩ pr)
theorem qJ {keys : List (Option Expr)} {values : List Expr} {wF : List (Str × GD)} (h : Rb X pos keys values wF) (hall : keys.all (·.isSome) = true := by rfl) (hl : keys.length = values.length := by rfl) (h0 : keys ≠ [] := by decide) (Om : keys.length ≤ 15 := by decide) (hk : wF.length ≤ 15 := by decide) :
    JE X (.Dict keys values pos) (qH wF):=⟨fun B=>(Ie (h.h B) hall hl h0 Om).imp fun σ H Q ⟨S,F,u,S',R,hg,q⟩=>by
  obtain⟨⟨kvs,S1⟩,h1,hg⟩:=aq hg
  cases hg
  intro p hp
  have n:=jj.obj (F:=F) hp (.dK [])
  have hn:¬dB S σ p:=fun m=>by obtain⟨o,ho⟩:=R.has m;rw[hp] at ho;cases ho
  refine Ab (S0:=S) (F0:=F) (H0:=upd H p (.dK [])) (R.new n (R.sub.same n.same)) (Step.refl ..) h1 fun ws F1 H1 R1 st1 pr=>?_
  have hp1:H1 p=some (.dK []):=st1.ext.keep p _ aW hn
  have hf1:F1 p=none:=st1.ext.jR p _ aW hn (R.sub.fresh hp)
  have hn1:¬dB S1 σ p:=fun m=>hn (st1.mu p m)
  have hB:B.H p=none:=none_of R.ext.there hp
  have len:ws.length≤15:=by
    rw[cY pr]
    have:∀{wF:List (Str×GD)}{S:SS}{kvs:List (Key×D)}{S':SS},lX wF S=some (kvs,S')→kvs.length=wF.length:=fun {wF}=>by
      induction wF with
      | nil=>intro S kvs S' h;cases h;rfl
      | cons p r ih=>
        intro S kvs S' h
        obtain⟨⟨d,T1⟩,k1,h⟩:=ah (show(p.2 S).bind _=_ from h)
        obtain⟨⟨kv2,T2⟩,k2,h⟩:=aq h
        cases h
        show kv2.length+1=r.length+1
        rw[ih k2]
    rw[this h1]
    exact hk
  refine⟨hp1,ws,rfl,len,?_⟩
  have R2:=R1.Us (o':=.dK (j9 [] ws)) hn1 hf1 hB hp1 (fun _ _ z=>by cases z)
  refine q (.ref p) F1 _ R2 ⟨⟨st1.ext.le,fun b o z m=>?_,fun b o z m f=>?_,fun b o z=>?_,fun b ob w z=>?_⟩,st1.mu,st1.slots⟩ ⟨p,rfl,hp,hf1,⟨_,aW,pR pr .nil⟩,hn1,hB⟩
  · have hb:b≠p:=bH z hp
    rw[aP hb]
    exact st1.ext.keep b o (by rw[aP hb];exact z) m
  · have hb:b≠p:=bH z hp
    exact st1.ext.jR b o (by rw[aP hb];exact z) m f
  · have hb:b≠p:=bH z hp
    rw[aP hb]
    exact st1.ext.there b o (by rw[aP hb];exact z)
  · have hb:b≠p:=bH z hp
    rw[aP hb]
    exact st1.ext.jV b ob w (by rw[aP hb];exact z)⟩
end
end L2
end
section
set_option Elab.async false
set_option linter.all false
set_option maxRecDepth 100000
namespace L2
open PySem PySem.Spec PyProof.Rows
noncomputable def ku (g:Option GD) (S:SS):Option (Option Int×SS):=match g with
 | none=>some (none,S)
 | some g=>(g S).bind fun p=>match p.1 with
  | .int i=>some (some i,p.2)
  | _=>none
noncomputable def tPO (K:PySem.W.Frag) (B:Base) (g:Option GD):TO:=fun σ H Q=>∃S F o S',Rel K B S σ F H∧ku g S=some (o,S')∧∀F' H',Rel K B S' σ F' H'→Step S S' σ F H F' H'→Q o H'
structure JO (X:Cx) (e:Option Expr) (g:Option GD):Prop where
 h:∀B,PO X e (tPO X.K B g)
theorem PO.imp {X:Cx}{e:Option Expr}{t t':TO}(h:PO X e t) (k:∀σ H Q,t' σ H Q→t σ H Q):PO X e t':=fun pins s σ H Q I q=>h pins s σ H Q I (k σ H Q q)
theorem CT {X:Cx}:JO X none none:=⟨fun B=>Ij.imp fun σ H Q ⟨S,F,o,S',R,h,q⟩=>by cases h;exact q F H R (Step.refl ..)⟩
theorem uz {X:Cx}{e:Expr}{g:GD}(h:JD X e g):JO X (some e) (some g):=⟨fun B=>(Ik (h.h B)).imp fun σ H Q ⟨S,F,o,S',R,h,q⟩=>by
 obtain⟨⟨d,S1⟩,h1,h⟩:=ah (show(g S).bind _=_ from h)
 cases d <;> try (cases h)
 exact⟨S,F,_,_,R,h1,fun v F1 H1 R1 st1 r1=>⟨_,jY r1,q F1 H1 R1 st1⟩⟩⟩
noncomputable def IP (d:D) (lo hi:Option Int):Option U:=match d with
 | .tup ds=>some (.t (.tup (cutD ds lo hi)))
 | .lst ds=>some (.m (.lst (cutD ds lo hi)))
 | .str z=>if z.length≤100000 then some (.t (.str (Txt.slice z lo hi))) else none
 | _=>none
theorem bx.cut {F:Hp}{vs:List V}{ds:List D}(rs:bx F vs ds) (lo hi:Option Int):bx F (wk vs lo hi) (cutD ds lo hi):=by
 unfold wk cutD
 rw[rs.length]
 exact(rs.drop _).take _
noncomputable def Ut:V→Option Int→Option Int→Hp→VK→Prop:=fun x lo hi H Q=>∃F d u,Sub F H∧Rep F x d∧IP d lo hi=some u∧∀v F' H',jj F H F' H'→Sub F' H'→DH H F' H' v u→Q v H'
theorem Uu {X : Cx} : Il X Ut := by
  intro pins s σ H x v vl vu lo hi sl Q I rx hs pl pu ⟨F,d,u,sb,r,hf,q⟩
  cases d with
  | tup ds =>
    cases hf
    have r0:=r
    obtain⟨a,xs,rfl,fa,ha,rs⟩:=sb.pB r
    have hl:=rs.length
    by_cases hw:HT.gY xs.length 0 lo=0∧HT.gY xs.length xs.length hi=xs.length
    · cases rx
      obtain⟨its,rv,ht,hz⟩:=I.tuple (.inl ha)
      have hlen:its.toArray.size=xs.length:=by rw[List.size_toArray];exact rv.length.symm
      refine⟨"tuple",_,PyProof.Rows.slot_tuple_getitem.lookup,ht.typeIs,?_⟩
      refine HT.DG ht hs pl pu (by rw[hlen];exact hw) ⟨.ref a,H,I,rfl,q _ F H (jj.refl ..) sb ?_⟩
      have e:cutD ds lo hi=ds:=by
        unfold cutD
        rw[←hl,hw.1,hw.2,List.drop_zero,Nat.sub_zero,List.take_of_length_le (by rw[hl];exact Nat.le_refl _)]
      show Rep F _ (.tup (cutD ds lo hi))
      rw[e]
      exact r0
    · exact Lf pins s σ H (.ref a) v vl vu lo hi sl Q I rx hs pl pu ⟨a,xs,rfl,.inl ha,hw,fun p hp=>q _ _ _ (jj.root sb hp _) (sb.BA hp) (.tup aW ((rs.cut lo hi).le (rT (sb.fresh hp))))⟩
  | lst ds=>
    cases hf
    obtain⟨a,xs,rfl,fa,ha,rs⟩:=sb.lE r
    exact CG pins s σ H (.ref a) v vl vu lo hi sl Q I rx hs pl pu ⟨a,xs,rfl,.inl ha,fun p hp=>q _ F _ (jj.obj hp _) (sb.same (jj.obj (F:=F) hp _).same) ⟨p,rfl,hp,sb.fresh hp,_,aW,rs.cut lo hi⟩⟩
  | str z=>
    obtain⟨hl,rfl⟩:=bL hf
    cases r
    exact Ln pins s σ H _ v vl vu lo hi sl Q I rx hs pl pu ⟨z,rfl,jX hl,fun _=>q _ F H (jj.refl ..) sb (.str _)⟩
  | bZ=>cases hf
  | bl b=>cases hf
  | int b=>cases hf
noncomputable def OX (g:GD) (lo hi:Option GD):GE:=fun S=>(g S).bind fun p=>(ku lo p.2).bind fun l=>(ku hi l.2).bind fun h=>(IP p.1 l.1 h.1).map fun u=>(u,h.2)
section
variable {X:Cx}{a b c e:Expr}{lo hi:Option Expr}{pos p p2 px:Pos}{x y:Str}{g ga:GD}{gA:GA}{gl gh:Option GD}
theorem Ac (he:JD X e g) (hl:JO X lo gl) (hh:JO X hi gh):JE X (.Subscript e (.Slice lo hi none p2) pos) (OX g gl gh):=⟨fun B=>(zV Uu (he.h B) (hl.h B) (hh.h B)).imp fun σ H Q ⟨S,F,u,S',R,hg,q⟩=>by
 obtain⟨⟨d,S1⟩,h1,hg⟩:=ah hg
 obtain⟨⟨l,S2⟩,h2,hg⟩:=ah hg
 obtain⟨⟨h,S3⟩,h3,hg⟩:=ah hg
 obtain⟨u',h4,hg⟩:=aq hg
 cases hg
 exact⟨S,F,d,S1,R,h1,fun v F1 H1 R1 st1 r1=>⟨S1,F1,l,S2,R1,h2,fun F2 H2 R2 st2=>⟨S2,F2,h,_,R2,h3,fun F3 H3 R3 st3=>⟨F3,d,_,R3.sub,r1.le (fun b o z=>st3.ext.le b o (st2.ext.le b o z)),h4,fun v F4 H4 n s4 r4=>q v F4 H4 (R3.new n s4) (((st1.trans st2).trans st3).trans n.step) (r4.Fz R3 ((st1.trans st2).trans st3))⟩⟩⟩⟩⟩
noncomputable def uU (ns:List Int) (lo hi:Option Int):List Int:=(ns.drop (HT.gY ns.length 0 lo)).take (HT.gY ns.length ns.length hi - HT.gY ns.length 0 lo)
noncomputable def Ga (i:Nat) (lo hi:Option GD):GE:=fun S=>match S[i]? with
 | some (some (.s ns))=>(ku lo S).bind fun l=>(ku hi l.2).map fun h=>(.m (.lst ((uU ns l.1 h.1).map D.int)),h.2)
 | _=>none
theorem xN {F:Hp}:∀ns:List Int,bx F (ns.map V.int) (ns.map D.int)
 | []=>.nil
 | n :: ns=>.cons (.int n) (xN ns)
theorem DR (ns:List Int) (lo hi:Option Int):wk (ns.map V.int) lo hi=(uU ns lo hi).map V.int:=by
 unfold wk uU
 rw[List.length_map,List.map_take,List.map_drop]
theorem DS {i:Nat}(hl:JO X lo gl) (hh:JO X hi gh) (hN:X.N[i]? =some x:=by rfl) (hv:Bd X.env.scope x:=by first | exact Or.inl rfl | exact Or.inr (Or.inl rfl) | exact Or.inr (Or.inr rfl))
  (hd:(x == ("__debug__":Str))=false:=by decide) (hcd:(x == ("__classdict__":Str))=false:=by decide):JE X (.Subscript (.Name x px) (.Slice lo hi none p2) pos) (Ga i gl gh):=⟨fun B=>(zV CG (gw hN hv hd hcd) (hl.h B) (hh.h B)).imp fun σ H Q ⟨S,F,u,S',R,hg,q⟩=>by
 unfold Ga at hg
 split at hg
 ·rename_i ns hS
  obtain⟨⟨l,S1⟩,h1,hg⟩:=ah hg
  obtain⟨⟨h,S2⟩,h2,hg⟩:=aq hg
  cases hg
  obtain⟨v0,hv0,a,rfl,sc⟩:=R.rep i _ hS
  refine⟨_,hv0,S,F,l,S1,R,h1,fun F1 H1 R1 st1=>⟨S1,F1,h,_,R1,h2,fun F2 H2 R2 st2=>?_⟩⟩
  have sc2:=(sc.le st1.ext.jV).le st2.ext.jV
  refine⟨a,_,rfl,sc2.sq,fun p hp=>?_⟩
  rw[DR]
  have n:=jj.obj (F:=F2) hp (.lst ((uU ns l h).map V.int))
  have st:=st1.trans st2
  exact q _ F2 _ (R2.new n (R2.sub.same n.same)) (st.trans n.step) (DH.Fz (u:=.m (.lst ((uU ns l h).map D.int))) R2 st ⟨p,rfl,hp,R2.sub.fresh hp,_,aW,xN _⟩)
 ·cases hg⟩
noncomputable def DT (d:D):Prop:=(toPy d).showable=true∧(toPy d).depth≤20∧(toPy d).shown.length≤sizeLine
noncomputable instance (d:D):Decidable (DT d):=by unfold DT;infer_instance
noncomputable def xO:List D→Option U
 | [d]=>if DT d then some (.t (.str (toPy d).shown)) else none
 | _=>none
mutual
theorem Rep.r9 {pins:List (Addr×Obj)}{σ:St}{F H:Hp}{s:Shared}(I:Inv X pins σ H s) (sb:Sub F H):∀{v:V}{d:D}{u:Value},Rep F v d→RelV v u→∃as,Reads s.heap u (toPy d) as
 | _,_,_,.bZ,r=>by cases r;exact⟨[],.none⟩
 | _,_,_,.bl b,r=>by cases r;exact⟨[],.bool b⟩
 | _,_,_,.int i,r=>by obtain⟨t,rfl⟩:=r;exact⟨[],.int i t⟩
 | _,_,_,.str z,r=>by obtain⟨t,rfl⟩:=r;exact⟨[],.str z t⟩
 | _,_,_,.tup e rs,r=>by
  cases r
  obtain⟨its,rv,p⟩:=sb.isTup I e
  obtain⟨as,h⟩:=bx.r9 I sb rs rv
  obtain⟨o,ho,hc,n,hd⟩:=p
  exact⟨as,.tuple ho hc hd (by simpa using h)⟩
 | _,_,_,.lst e rs,r=>by
  cases r
  obtain⟨its,rv,p⟩:=sb.fq I e
  obtain⟨as,h⟩:=bx.r9 I sb rs rv
  obtain⟨o,ho,hc,n,hd⟩:=p
  exact⟨_ :: as,.list ho hc hd (by simpa using h)⟩
theorem bx.r9 {pins:List (Addr×Obj)}{σ:St}{F H:Hp}{s:Shared}(I:Inv X pins σ H s) (sb:Sub F H):∀{vs:List V}{ds:List D}{us:List Value},bx F vs ds→Vals vs us→∃as,ReadsAll s.heap us (iA ds) as
 | _,_,_,.nil,r=>by cases r;exact⟨[],.nil⟩
 | _,_,_,.cons q qs,r=>by
  cases r with
  | cons r rs=>
   obtain⟨as,h⟩:=Rep.r9 I sb q r
   obtain⟨bs,k⟩:=bx.r9 I sb qs rs
   exact⟨as++bs,.cons h k⟩
end
theorem pS (hg:X.A.guards=some []) (hu:X.A.units+64 < cLine):iu X (.builtin "repr") (rP xO):=by
 intro pins s σ H xs us Q I r ⟨F,ds,w,sb,rs,hw,q⟩
 obtain⟨x,d,rfl,rfl,r1⟩:=CQ (P:=fun _=>True) rs hw rfl (fun d _ _=>rfl)
 obtain⟨hok,rfl⟩:=bL (show(if DT d then some (U.t (.str (toPy d).shown)) else none)=some w from hw)
 have fin:=q (.str (toPy d).shown) F H (jj.refl ..) sb (.str _)
 obtain⟨u,rfl,ru⟩:=vals1 r
 obtain⟨h1,h2,h3⟩:=hok
 have seq:∀a,x= .ref a→wpAny (model X.prog X.w) X.A (call (.builtin "repr") [u]) (EP X pins σ Q) X.xe s:=fun a e1=>by
  subst e1
  cases ru
  obtain⟨as,hr⟩:=Rep.r9 I sb r1 (u:=.ref a) rfl
  exact repr_of_reads' hr h1 (fun z=>by rw[tu] at z;cases z) hg (by omega) (fun _ _ e=>e) (fun h' u tk hk=>⟨.str _,H,I.kept (t':=tk) hk,⟨u,rfl⟩,fin⟩) h3
 cases r1 with
 | bZ=>cases ru;exact PySem.P.repr_of_none ⟨.str _,H,I.tok _,⟨_,rfl⟩,fin⟩
 | bl b=>cases ru;exact PySem.P.repr_of_bool ⟨.str _,H,I.tok _,⟨_,rfl⟩,fin⟩
 | int i=>obtain⟨t,rfl⟩:=ru;exact PySem.P.repr_of_int (by simpa[toPy,PyData.showable] using h1) ⟨.str _,H,I.tok _,⟨_,rfl⟩,fin⟩
 | str z=>obtain⟨t,rfl⟩:=ru;exact PySem.P.repr_of_str ⟨.str _,H,I.tok _,⟨_,rfl⟩,fin⟩ h3
 | tup e rs=>exact seq _ rfl
 | lst e rs=>exact seq _ rfl
theorem IQ {z:Str}{t:Tok}(hg:Gl X x) (hm:X.mg x=some (.str z t)) (hd:(x == ("__debug__":Str))=false:=by decide):JD X (.Name x pos) (eC (.str z)):=FA rfl (oq (v:=.str z) hg hm ⟨t,rfl⟩ hd)
theorem qK {i:Int}{t:Tok}(hg:Gl X x) (hm:X.mg x=some (.int i t)) (hd:(x == ("__debug__":Str))=false:=by decide):JD X (.Name x pos) (eC (.int i)):=FA rfl (oq (v:=.int i) hg hm ⟨t,rfl⟩ hd)
end
end L2
end
section
set_option Elab.async false
set_option linter.all false
set_option maxRecDepth 100000
namespace L2
open PySem PySem.Spec PyProof.Rows
end L2
end
section
set_option Elab.async false
set_option linter.all false
set_option maxRecDepth 100000
namespace L2
open PySem PySem.Spec PyProof.Rows
section
variable {X:Cx}{a b c e:Expr}{es:List Expr}{pos p p2 px:Pos}{x y:Str}{f:FM}{fa:Addr}{fd:FuncData}{ps:List Str}{k n:Nat}
theorem Gb (F:aX X.prog X.w X.K X.mg X.base eO k fa fd ps (spT X.K 0 f)) (hr:gG k X.A) (hg:Gl X x) (hm:X.mg x=some (.ref fa)) (hk:PySem.W.keepIn X.K (.ref fa)=true) (hb:Binds X.K fd ps [])
  (hdb:(x == ("__debug__":Str))=false:=by decide):JE X (.Call (.Name x p) [] [] pos) (bW f br):=⟨fun B=>(EZ F hr hg hm hk hb .nil zX hdb).imp fun σ H Q ⟨S,F0,u,S',R,hg,q⟩=>by
 obtain⟨⟨us,S1⟩,h1,hg⟩:=ah hg
 cases h1
 have hg:=(fB hg).2
 obtain⟨ws,h2,hg⟩:=ah hg
 cases h2
 obtain⟨⟨r,outs⟩,h3,hg⟩:=ah hg
 obtain⟨S2,h4,hg⟩:=aq hg
 cases hg
 have st0:Step S S σ F0 H F0 H:=Step.refl ..
 refine⟨rfl,F0,[],r,outs,R.sub,.nil,List.nodup_nil,h3,fun v F2 H2 po rn=>?_⟩
 obtain⟨R2,st2,mu⟩:=kh (vs:=[]) (us:=[]) (ws:=[]) R st0 .nil rfl h4 List.nodup_nil po
 refine q v F2 H2 R2 st2 ?_
 cases r with
 | t d=>exact rn
 | b o=>cases rn
 | v i=>cases rn
 | s i=>cases rn
 | f i=>cases rn
 | m o=>
  obtain⟨a,e,h0,f,h⟩:=rn
  refine⟨a,e,h0,f,h,fun m=>?_,none_of R.ext.there h0⟩
  obtain⟨o',ho⟩:=R.has (mu a m)
  rw[h0] at ho
  cases ho⟩
theorem DU (a:List D) (o:MO) (h:fq o=false):hAppend a o=none:=by
 cases o with
 | lst ds=>cases h
 | dct k=>unfold hAppend;split <;> first | rfl | (rename_i e;cases e)
 | xB k=>unfold hAppend;split <;> first | rfl | (rename_i e;cases e)
 | ins C k=>unfold hAppend;split <;> first | rfl | (rename_i e;cases e)
end
end L2
end
section
set_option Elab.async false
set_option linter.all false
set_option maxRecDepth 100000
namespace L2
open PySem PySem.Spec PyProof.Rows
noncomputable def Ad:List D→Option (List Int)
 | []=>some []
 | .int b :: ds=>(Ad ds).map fun bs=>b :: bs
 | _=>none
section
variable {X:Cx}
end
end L2
end
section
set_option Elab.async false
set_option linter.all false
set_option maxRecDepth 100000
namespace L2
open PySem PySem.Spec PyProof.Rows
section
variable {prog:Program}{w:World}{A:Around}{R:Result→Shared→Prop}{I:Addr}{fp wr:List Addr}{G:Array GenState→Array GenState→Prop}{n:Nat}{P:Nat→Value→Prop}{St:Nat→Shared→Prop}
end
section
variable {prog:Program}{w:World}{A:Around}{E:Value→Shared→Prop}{s:Shared}
end
end L2
end
section
set_option Elab.async false
set_option linter.all false
set_option maxRecDepth 100000
namespace L2
open PySem PySem.Spec PyProof.Rows
noncomputable def qL:List D→Option (List Str)
 | []=>some []
 | .str b :: ds=>(qL ds).map fun bs=>b :: bs
 | _=>none
theorem uV {F:Hp}:∀{vs:List V}{ds:List D}{bs:List Str},bx F vs ds→qL ds=some bs→vs=bs.map V.str
 | _,_,_,.nil,h=>by cases h;rfl
 | _,_,_,@bx.cons _ v d vs ds r rs,h=>by
  cases d <;> try (simp[qL] at h;done)
  obtain⟨bs,h1,h2⟩:=aq (show(qL ds).map _=_ from h)
  subst h2
  cases r
  rw[uV rs h1]
  rfl
section
variable {X:Cx}{a:Expr}{pos p p1 p2:Pos}{ga:GD}
end
end L2
end
section
set_option Elab.async false
set_option linter.all false
set_option maxRecDepth 100000
namespace L2
open PySem PySem.Spec PyProof.Rows
noncomputable def Ae:U→Option (List D)
 | .t (.lst ds)=>some ds
 | .m (.lst ds)=>some ds
 | .b (.lst ds)=>some ds
 | _=>none
noncomputable def Uv (n:Bool) (i:Nat) (g:GD):GD:=fun S=>(g S).bind fun p=>match p.2[i]? with
 | some (some u)=>(Ae u).bind fun ds=>if bM ds≤40 then some (.bl (n != inD p.1 ds),p.2) else none
 | _=>none
section
variable {X:Cx}{a:Expr}{x:Str}{px pos:Pos}{ga:GD}
end
end L2
end
section
set_option Elab.async false
set_option linter.all false
set_option maxRecDepth 100000
namespace L2
open PySem PySem.Spec PyProof.Rows
noncomputable def look:U→Option D
 | .t d=>some d
 | .m (.lst ds)=>some (.lst ds)
 | .b (.lst ds)=>some (.lst ds)
 | _=>none
noncomputable def OY (f:List D→Option U) (i:Nat):GD:=fun S=>match S[i]? with
 | some (some u)=>(look u).bind fun d=>match f [d] with
  | some (.t e)=>if tw e=true then some (e,S) else none
  | _=>none
 | _=>none
noncomputable def Uw (Ts:List String) (i:Nat):GD:=fun S=>match S[i]? with
 | some (some u)=>(look u).bind fun d=>(mQ Ts d).map fun b=>(.bl b,S)
 | _=>none
section
variable {X:Cx}{x y:Str}{p px py pos:Pos}{f:List D→Option U}
end
section
variable (S:SS) (i:Nat) (g:GD)
@[simp] theorem Rc (f:List D→Option U):OY f i S=match S[i]? with
 | some (some u)=>(look u).bind fun d=>match f [d] with
  | some (.t e)=>if tw e=true then some (e,S) else none
  | _=>none
 | _=>none:=rfl
@[simp] theorem Ux (Ts:List String):Uw Ts i S=match S[i]? with | some (some u)=>(look u).bind fun d=>(mQ Ts d).map fun b=>(.bl b,S) | _=>none:=rfl
@[simp] theorem Uy (n:Bool):Uv n i g S=(g S).bind fun p=>match p.2[i]? with | some (some u)=>(Ae u).bind fun ds=>if bM ds≤40 then some (.bl (n != inD p.1 ds),p.2) else none | _=>none:=rfl
@[simp] theorem OZ (d:D):look (.t d)=some d:=rfl
@[simp] theorem O0 (ds:List D):look (.m (.lst ds))=some (.lst ds):=rfl
@[simp] theorem O1 (ds:List D):look (.b (.lst ds))=some (.lst ds):=rfl
@[simp] theorem Nf (ds:List D):Ae (.t (.lst ds))=some ds:=rfl
@[simp] theorem Ng (ds:List D):Ae (.m (.lst ds))=some ds:=rfl
@[simp] theorem Nh (ds:List D):Ae (.b (.lst ds))=some ds:=rfl
@[simp] theorem Ni (ds:List D):z5 [] (.lst ds)=some (.bZ,.lst ds.reverse):=rfl
end
end L2
end
section
set_option Elab.async false
set_option linter.all false
set_option maxRecDepth 100000
namespace L2
open PySem PySem.Spec PyProof.Rows
section
variable {X:Cx}{a b c e:Expr}{es:List Expr}{pos p p2 px:Pos}{x y:Str}
theorem bx.rep {F:Hp}{vs:List V}{ds:List D}(r:bx F vs ds):∀k:Nat,bx F (List.replicate k vs).flatten (List.replicate k ds).flatten
 | 0=>.nil
 | k+1=>by rw[List.replicate_succ,List.replicate_succ,List.flatten_cons,List.flatten_cons];exact r.append (bx.rep r k)
noncomputable def Uz:List D→Option U
 | [.lst ds,.int k]=>if 0≤k∧k.toNat≤100000∧ds.length * k.toNat≤100000 then some (.m (.lst (List.replicate k.toNat ds).flatten)) else none
 | _=>none
noncomputable def UA:List D→Option U
 | [.int i]=>some (.t (.int i))
 | [.bl k]=>some (.t (.int (if k then 1 else 0)))
 | _=>none
noncomputable def Af:V→List V→Hp→VK→Prop:=fun x vs H Q=>∃l b xs zs,x= .ref l∧vs=[.ref b]∧H l=some (.lst xs)∧Rd H b (.lst zs)∧xs.length+zs.length≤sizeLine∧Q .bZ (upd H l (.lst (xs++zs)))
theorem BN:Lg X "list.extend" Af:=by
 intro pins s σ H x vs v us Q I rx rv h
 obtain⟨l,b,xs,zs,rfl,rfl,hH,hB,hz,q⟩:=h
 cases rx
 obtain⟨u,rfl,ru⟩:=rv.one
 cases ru
 obtain⟨z,its,n,r,hl,e⟩:=I.Dz hH
 obtain⟨z2,its2,n2,r2,hl2,e2⟩:=hB.Dz I
 have hsz:its.toArray.size+its2.toArray.size≤sizeLine:=by rw[List.size_toArray,List.size_toArray];omega
 have Gd:¬(!its.toArray.isEmpty && Builtin.List.listTooLong (its.toArray.size+its2.toArray.size))=true:=by
  rw[Ff hsz,Bool.and_false]
  exact Bool.false_ne_true
 refine call_meets F.slot_list_extend ⟨_,e,rfl⟩ F.entry_list_extend (F.args_list_extend_2 _ _)
  (AutoSeq1.list_extend_list_list_0 l its.toArray n b its2.toArray n2 Gd (by rw[List.size_toArray];omega) (by omega)) ⟨e,e2,?_⟩
 refine⟨.bZ,_,I.Oz (its':=its++its2) hH e (by simp) (r.append r2) ?_,rfl,q⟩
 rw[List.length_append]
 omega
noncomputable def j0:List D→MO→Option (D×MO)
 | [.lst es],.lst ds=>if ds.length+es.length≤100000 then some (.bZ,.lst (ds++es)) else none
 | _,_=>none
theorem DV:Uj Af j0:=by
 intro F H a vs xs ds args res o' sb hH fa rs rx hw Q q
 unfold j0 at hw
 split at hw
 ·rename_i es ds' e2
  cases e2
  obtain⟨hl,hw⟩:=bL hw
  cases hw
  cases rx with
  | cons r rr=>
   cases rr
   obtain⟨b,zs,rfl,fb,hb,IE⟩:=sb.lE r
   exact⟨a,b,vs,zs,rfl,rfl,hH,hb,by rw[rs.length,IE.length];exact Nat.le_trans hl (by decide),q .bZ _ .bZ ⟨_,aW,rs.append IE⟩⟩
 ·cases hw
theorem DW (a:List D) (o:MO) (h:fq o=false):j0 a o=none:=by
 cases o with
 | lst ds=>cases h
 | dct k=>unfold j0;split <;> first | rfl | (rename_i e;cases e)
 | xB k=>unfold j0;split <;> first | rfl | (rename_i e;cases e)
 | ins C k=>unfold j0;split <;> first | rfl | (rename_i e;cases e)
noncomputable def J9:D→Bool
 | .bZ=>true
 | _=>false
noncomputable def UB:List D→Option U
 | [d,.bZ]=>some (.t (.bl (J9 d)))
 | _=>none
noncomputable def UC (f:Int→Int→Int) (i:Nat) (g:GD):GS:=fun S=>match S[i]? with
 | some (some (.t (.int n)))=>(g S).bind fun p=>match p.1 with
  | .int m=>(o7 i (.t (.int (f n m))) p.2).map .nx
  | _=>none
 | _=>none
end
end L2
end
section
set_option Elab.async false
set_option linter.all false
set_option maxRecDepth 100000
namespace L2
open PySem PySem.Spec PyProof.Rows
open AutoSeq1 (wpAny_loadPart')
noncomputable def O2 (k:Bool) (h:Heap) (a:Addr) (its:Array Value):Prop:=match k with
 | true=>h.IsList a its
 | false=>h.IsTuple a its
noncomputable def Lv (k:Bool) (h:Heap) (it a:Addr) (i:Nat):Prop:=match k with
 | true=>h.IsListIter it a i
 | false=>h.IsTupleIter it a i
noncomputable def itN:Bool→String
 | true=>"list_iterator"
 | false=>"tuple_iterator"
noncomputable def itO (k:Bool) (a:Addr):Obj:={cls:=.type (itN k),data:=.fields #[.ref a,.int 0 0]}
theorem O2.at {k:Bool}{h h':Heap}{a:Addr}{its:Array Value}(x:O2 k h a its) (g:∀o,h.get? a=some o→h'.get? a=some o):O2 k h' a its:=by
 cases k <;> exact let⟨o,ho,r⟩:=x;⟨o,g o ho,r⟩
theorem Lv.at {k:Bool}{h h':Heap}{it a:Addr}{i:Nat}(x:Lv k h it a i) (g:∀o,h.get? it=some o→h'.get? it=some o):Lv k h' it a i:=by
 cases k <;> exact let⟨o,ho,r⟩:=x;⟨o,g o ho,r⟩
theorem Lv.obj {k:Bool}{h:Heap}{it a:Addr}{i:Nat}(x:Lv k h it a i):∃o,h.get? it=some o∧∀v,o.data≠.cell v:=by
 cases k <;> exact let⟨o,ho,_,r⟩:=x;⟨o,ho,fun v z=>by rw[r] at z;cases z⟩
theorem Lv.new (k:Bool) (h:Heap) (a:Addr):Lv k (h.push (itO k a)) h.objs.size a 0:=by
 cases k <;> exact⟨_,Heap.get?_push_size _ rfl,rfl,rfl⟩
section
variable {prog:Program}{w:World}{A:Around}{E:Value→Shared→Prop}{s:Shared}
end
end L2
end
section
set_option Elab.async false
set_option linter.all false
set_option maxRecDepth 100000
namespace L2
open PySem PySem.Spec PyProof.Rows
section
variable {prog:Program}{w:World}{A:Around}{E:Value→Shared→Prop}{s:Shared}
end
section
variable {X:Cx}{pins:List (Addr×Obj)}{σ:St}{H:Hp}{s:Shared}
end
end L2
end
section
set_option Elab.async false
set_option linter.all false
set_option maxRecDepth 100000
namespace L2
open PySem PySem.Spec PyProof.Rows
section
variable {prog:Program}{w:World}{A:Around}{E:Value→Shared→Prop}{s:Shared}
end
end L2
end
section
set_option Elab.async false
set_option linter.all false
set_option maxRecDepth 100000
namespace L2
open PySem PySem.Spec PyProof.Rows
section
variable {X:Cx}{a b c e:Expr}{body elts:List Expr}{pos p tpos:Pos}{jt:Nat}
theorem O2.lt {k:Bool}{h:Heap}{a:Addr}{its:Array Value}(x:O2 k h a its):a < h.objs.size:=by
 cases k <;> exact let⟨o,ho,_⟩:=x;Heap.lt_size ho
noncomputable def Ag:D→Option (Bool×List D)
 | .lst ds=>some (true,ds)
 | .tup ds=>some (false,ds)
 | _=>none
noncomputable def Ka (ds:List D):List D:=ds.mapIdx fun i d=>.tup [.int i,d]
noncomputable def O3 (gA:GA):GI:=fun S=>(gA S).bind fun p=>match p.1 with
 | [d]=>(Ag d).map fun q=>(Ka q.2,p.2)
 | _=>none
noncomputable def O4 (gA:GA):GI:=fun S=>(gA S).bind fun p=>match p.1 with
 | [d,e]=>(Ag d).bind fun q=>(Ag e).map fun r=>(List.zipWith (fun a b=>.tup [a,b]) q.2 r.2,p.2)
 | _=>none
end
end L2
end
section
set_option Elab.async false
set_option linter.all false
set_option maxRecDepth 100000
namespace L2
open PySem PySem.Spec PyProof.Rows
section
variable {X:Cx}{a b c e:Expr}{x y:Str}{p px py pos pos' tpos:Pos}{f:List D→Option U}{gb:GD}
theorem Vals.repl {v:V}{u:Value}(r:RelV v u):∀m:Nat,Vals (List.replicate m v) (List.replicate m u)
 | 0=>.nil
 | m+1=>.cons r (Vals.repl r m)
theorem bx.repl {F:Hp}{v:V}{d:D}(r:Rep F v d):∀m:Nat,bx F (List.replicate m v) (List.replicate m d)
 | 0=>.nil
 | m+1=>.cons r (bx.repl r m)
end
end L2
end
section
set_option Elab.async false
set_option linter.all false
set_option maxRecDepth 100000
namespace L2
open PySem PySem.Spec PyProof.Rows
noncomputable def O5:GE:=fun S=>some (.m (.xB []),S)
noncomputable def O6:GE:=fun S=>some (.m (.dct []),S)
section
variable {X:Cx}{a b c e k:Expr}{x y:Str}{p px py pos pos' tpos apos cpos:Pos}{gk:GD}
noncomputable def Lw (d:D):List D→Option Nat
 | []=>none
 | e :: ds=>if lT e d then some 0 else(Lw d ds).map (· +1)
noncomputable def Lx:List D→MO→Option (D×MO)
 | [d],.lst ds=>if bM ds≤40∧ds.length < 100000 then(Lw d ds).map fun j=>(.int (j:Nat),.lst ds) else none
 | _,_=>none
end
end L2
end
section
set_option Elab.async false
set_option linter.all false
set_option maxRecDepth 100000
namespace L2
open PySem PySem.Spec PyProof.Rows
section
variable {X:Cx}{k v:Expr}{pos:Pos}{tk tv:TE}{gk gv:GD}
end
end L2
end
section
set_option Elab.async false
set_option linter.all false
set_option maxRecDepth 100000
namespace L2
open PySem PySem.Spec PyProof.Rows
noncomputable def dG (kvs:List (Str×Int)) (z:Str):Option Int:=(kvs.find? fun p=>decide (p.1=z)).map (·.2)
noncomputable def Ly:Option Int→Option Value→Prop
 | some i,u=>∃t,u=some (.int i t)
 | none,u=>u=none
noncomputable def KTab (P:Program) (w:World) (K:PySem.W.Frag) (a:Addr) (kvs:List (Str×Int)):Prop:=
 (a == sysModules)=false∧∃o es ep,K.lookup a=some o∧o.ExactDict∧o.data= .dict es ep∧KeysOf (bY P w) es∧∀z,Ly (dG kvs z) (findBy (bY P w).is es (.inr z))
noncomputable def pT (w:World):List (Str×Int)→List DictEntry→Prop
 | [],[]=>True
 | (z,i) :: r,e :: es=>(e.hash=hashStr w z∧(∃t,e.key= .str z t)∧∃t,e.val= .int i t)∧pT w r es
 | _,_=>False
theorem xP {P:Program}{w:World}:∀{kvs:List (Str×Int)}{es:List DictEntry},pT w kvs es→∀e∈es,∃k,(bY P w).is k e.key=true∧e.hash=(bY P w).hash k
 | [],[],_,e,he=>by cases he
 | (z,i) :: r,e :: es,h,e',he=>by
  obtain⟨⟨h1,⟨t,h2⟩,_⟩,h3⟩:=h
  rcases List.mem_cons.mp he with rfl | q
  ·exact⟨.inr z,by rw[h2];exact mU P w z t,h1⟩
  ·exact xP h3 e' q
 | [],_ :: _,h,_,_=>h.elim
 | _ :: _,[],h,_,_=>h.elim
theorem xQ {P:Program}{w:World}(z:Str):∀{kvs:List (Str×Int)}{es:List DictEntry},pT w kvs es→Ly (dG kvs z) ((es.find? fun e=>(bY P w).is (.inr z) e.key).map (·.val))
 | [],[],_=>rfl
 | (y,i) :: r,e :: es,h=>by
  obtain⟨⟨h1,⟨t,h2⟩,u,h4⟩,h3⟩:=h
  have k:(bY P w).is (.inr z) e.key=decide ((.inr z:Key)= .inr y):=KeyKind.is_eq_decide (knd:=bY P w) (k:=.inr y) (by rw[h2];exact mU P w y t) (.inr z)
  unfold dG
  by_cases q:y=z
  ·subst q
   rw[List.find?_cons_of_pos (by simp),List.find?_cons_of_pos (by rw[k];simp)]
   exact⟨u,by rw[Option.map_some,h4]⟩
  ·rw[List.find?_cons_of_neg (by simpa using q),List.find?_cons_of_neg (by rw[k];simp only[decide_eq_true_eq,Sum.inr.injEq];exact fun e=>q e.symm)]
   exact xQ z h3
 | [],_ :: _,h=>h.elim
 | _ :: _,[],h=>h.elim
theorem yV {P:Program}{w:World}{K:PySem.W.Frag}{a:Addr}{kvs:List (Str×Int)}{es:List DictEntry}{ep:Nat}(h:K.lookup a=some ⟨.type "dict",none,.dict es.toArray ep,#[]⟩) (hs:(a == sysModules)=false) (he:pT w kvs es):KTab P w K a kvs:=by
 refine⟨hs,_,es.toArray,ep,h,⟨rfl,rfl,rfl⟩,rfl,fun e q=>xP he e (by simpa using q),fun z=>?_⟩
 have:=xQ (P:=P) z he
 unfold findBy
 rw[List.find?_toArray]
 exact this
section
variable {X:Cx}{pins:List (Addr×Obj)}{σ:St}{H:Hp}{s:Shared}{a:Addr}{kvs:List (Str×Int)}
theorem KTab.map (I:Inv X pins σ H s) (h:KTab X.prog X.w X.K a kvs):∃f:Key→Option Value,s.heap.MapOf (bY X.prog X.w) a f∧∀z,Ly (dG kvs z) (f (.inr z)):=by
 obtain⟨_,o,es,ep,h1,h2,h3,h4,h5⟩:=h
 exact⟨_,⟨o,es,ep,I.uC a o h1,h2,h3,h4,fun _=>rfl⟩,h5⟩
end
noncomputable def yW (kvs:List (Str×Int)) (g:GD):GD:=fun S=>(g S).bind fun p=>match p.1 with
 | .str z=>(dG kvs z).map fun i=>(.int i,p.2)
 | _=>none
noncomputable def IS (kvs:List (Str×Int)) (g gd:GD):GD:=fun S=>(g S).bind fun p=>(gd p.2).bind fun q=>match p.1,q.1 with
 | .str z,.int j=>some (.int ((dG kvs z).getD j),q.2)
 | _,_=>none
noncomputable def nk (n:Bool) (kvs:List (Str×Int)) (g:GD):GD:=fun S=>(g S).bind fun p=>match p.1 with
 | .str z=>some (.bl (n != (dG kvs z).isSome),p.2)
 | _=>none
section
variable {X:Cx}{e f:Expr}{x:Str}{px pos apos cpos:Pos}{ty tx:TE}{g gd:GD}{a:Addr}{kvs:List (Str×Int)}
theorem Lz (hg:Gl X x) (hm:X.mg x=some (.ref a)) (hk:KTab X.prog X.w X.K a kvs) (he:PE X e ty) (hs:Ia e) (hd:(x == ("__debug__":Str))=false):
  PE X (.Subscript (.Name x px) e pos) (fun σ H Q=>ty σ H fun y H1=>∃z i,y= .str z∧dG kvs z=some i∧Q (.int i) H1):=by
 intro pins s σ H Q I h
 refine Cy PySem.F.slot_dict_getitem.lookup hs (d9 (oq (v:=.ref a) hg hm rfl hd pins s σ H (fun v H1=>v= .ref a∧H1=H) I ⟨rfl,rfl⟩) fun u s1 ⟨x',H1,I1,rx,ex,eH⟩=>?_)
 subst ex eH
 obtain rfl:u=Value.ref a:=rx
 refine d9 (he pins s1 σ _ _ I1 h) fun iv s2 ⟨y,H2,I2,ry,z,i,ey,el,q⟩=>?_
 subst ey
 obtain⟨fm,m1,m2⟩:=hk.map I2
 have r:=m2 z
 rw[el] at r
 obtain⟨t,r⟩:=r
 exact⟨m1.typeIs,wpAny_getItem_of (k:=.inr z) (sZ (k:=.inr z) ry) m1 r ⟨.int i,H2,I2.tok _,⟨t,rfl⟩,q⟩⟩
theorem Ge (hg:Gl X x) (hm:X.mg x=some (.ref a)) (hk:KTab X.prog X.w X.K a kvs) (he:PE X e ty) (hd:(x == ("__debug__":Str))=false):
  PC X .In e (.Name x px) (fun σ H Q=>ty σ H fun y H1=>∃z,y= .str z∧Q (.bl (dG kvs z).isSome) H1):=by
 intro pins s σ H Q I h
 refine d9 (he pins s σ H _ I h) fun iv s1 ⟨y,H1,I1,ry,z,ey,q⟩=>d9 (oq (v:=.ref a) hg hm rfl hd pins s1 σ H1 (fun v H2=>v= .ref a∧H2=H1) I1 ⟨rfl,rfl⟩) fun u s2 ⟨x',H2,I2,rx,ex,eH⟩=>?_
 subst ex eH ey
 obtain rfl:u=Value.ref a:=rx
 obtain⟨fm,m1,m2⟩:=hk.map I2
 refine wpAny_in_of (k:=.inr z) (sZ (k:=.inr z) ry) hk.1 m1 ?_
 have r:=m2 z
 have e:(fm (.inr z)).isSome=(dG kvs z).isSome:=by
  cases el:dG kvs z with
  | none=>rw[el] at r;rw[show fm (.inr z)=none from r];rfl
  | some i=>rw[el] at r;obtain⟨t,r⟩:=r;rw[r];rfl
 rw[e]
 exact⟨.bl _,_,I2.tok _,rfl,q⟩
theorem uW (hg:Gl X x) (hm:X.mg x=some (.ref a)) (hk:KTab X.prog X.w X.K a kvs) (he:JD X e g) (hs:Ia e:=by intro _ _;rfl) (hd:(x == ("__debug__":Str))=false:=by decide):JD X (.Subscript (.Name x px) e pos) (yW kvs g):=
 ⟨fun B=>(Lz hg hm hk (he.h B) hs hd).imp fun σ H Q ⟨S,F,d,S',R,hg',q⟩=>by
  obtain⟨⟨d1,S1⟩,h1,hg'⟩:=ah hg'
  cases d1 <;> try (cases hg')
  rename_i z
  obtain⟨i,h2,hg'⟩:=aq hg'
  cases hg'
  exact⟨S,F,.str z,_,R,h1,fun v F1 H1 R1 st1 r1=>by cases r1;exact⟨z,i,rfl,h2,q (.int i) F1 H1 R1 st1 (.int i)⟩⟩⟩
theorem DX {B:Base}{n:Bool}{σ:St}{H:Hp}{Q:VK}(h:tD X.K B (nk n kvs g) σ H Q):tD X.K B g σ H fun y H1=>∃z,y= .str z∧Q (.bl (n != (dG kvs z).isSome)) H1:=by
 obtain⟨S,F,d,S',R,hg',q⟩:=h
 obtain⟨⟨d1,S1⟩,h1,hg'⟩:=ah hg'
 cases d1 <;> try (cases hg')
 rename_i z
 exact⟨S,F,.str z,_,R,h1,fun v F1 H1 R1 st1 r1=>by cases r1;exact⟨z,rfl,q (.bl _) F1 H1 R1 st1 (.bl _)⟩⟩
theorem uX (hg:Gl X x) (hm:X.mg x=some (.ref a)) (hk:KTab X.prog X.w X.K a kvs) (he:JD X e g) (hd:(x == ("__debug__":Str))=false:=by decide) (hi:behindInMarks .In (.Name x px)=false:=by with_unfolding_all rfl):JD X (.Compare e [.In] [.Name x px] pos) (nk false kvs g):=
 ⟨fun B=>(Kz (Ge hg hm hk (he.h B) hd) hi).imp fun σ H Q h=>by simpa using DX h⟩
end
noncomputable def BO (K:PySem.W.Frag) (a:Addr) (zs:List Str):Prop:=∃(o:Obj) (its:List Value) (n:Nat),K.lookup a=some o∧o.cls= .type "tuple"∧o.data= .seq its.toArray n∧its.length≤1000∧Vals (zs.map V.str) its
noncomputable def yX:List Str→List Value→Prop
 | [],[]=>True
 | z :: r,v :: vs=>(∃t,v= .str z t)∧yX r vs
 | _,_=>False
theorem xR:∀{zs:List Str}{vs:List Value},yX zs vs→Vals (zs.map V.str) vs
 | [],[],_=>.nil
 | z :: r,v :: vs,h=>.cons h.1 (xR h.2)
 | [],_ :: _,h=>h.elim
 | _ :: _,[],h=>h.elim
theorem IT {K:PySem.W.Frag}{a:Addr}{zs:List Str}{its:List Value}{n:Nat}{od:Option Addr}{sl:Array (Option Value)}(h:K.lookup a=some ⟨.type "tuple",od,.seq its.toArray n,sl⟩) (hl:its.length≤1000) (hs:yX zs its):BO K a zs:=
 ⟨_,its,n,h,rfl,rfl,hl,xR hs⟩
theorem xS {F:Hp}:∀zs:List Str,bx F (zs.map V.str) (zs.map D.str)
 | []=>.nil
 | z :: zs=>.cons (.str z) (xS zs)
theorem uY:∀zs:List Str,bM (zs.map D.str)=0
 | []=>rfl
 | z :: zs=>by show max (cJ (.str z)) (bM (zs.map D.str))=0;rw[uY zs];rfl
noncomputable def wG (n:Bool) (zs:List Str) (g:GD):GD:=fun S=>(g S).map fun p=>(.bl (n != inD p.1 (zs.map D.str)),p.2)
section
variable {X:Cx}{e:Expr}{x:Str}{px pos:Pos}{g:GD}{a:Addr}{zs:List Str}
theorem LA (I:Inv X pins σ H s) (hk:BO X.K a zs) (hu:X.A.units+64 < cLine){F:Hp}{d:D}{v:V}{u:Value}(sb:Sub F H) (r:Rep F v d) (rv:RelV v u):∃its:List Value,IsTup s.heap a its.toArray∧(∀y∈its,SeqAt.EqAt X.A.in1 s y u (BI F d y))∧its.any (BI F d)=inD d (zs.map D.str):=by
 obtain⟨o,its,n,h1,h2,h3,h4,h5⟩:=hk
 obtain⟨k1,k2⟩:=qE I sb (A:=X.A.in1) r rv (xS zs) h5 (by rw[uY];show X.A.units+1+0 < cLine;omega)
 exact⟨its,⟨o,I.uC a o h1,h2,n,h3⟩,k1,k2⟩
theorem LB (hu:X.A.units+64 < cLine) (hg:Gl X x) (hm:X.mg x=some (.ref a)) (hk:BO X.K a zs){B:Base}(he:PE X e (tD X.K B g)) (hd:(x == ("__debug__":Str))=false):
  PC X .In e (.Name x px) (tD X.K B (wG false zs g)):=by
 intro pins s σ H Q I h
 obtain⟨S,F,d,S',R,hg',q⟩:=h
 obtain⟨⟨d1,S1⟩,h1,hg'⟩:=aq hg'
 cases hg'
 refine d9 (he pins s σ H (fun y H1=>∃F',Sub F' H1∧Rep F' y d1∧Q (.bl (false != inD d1 (zs.map D.str))) H1) I ⟨S,F,d1,_,R,h1,fun v F1 H1 R1 st1 r1=>⟨F1,R1.sub,r1,q (.bl _) F1 H1 R1 st1 (.bl _)⟩⟩) fun iv s1 ⟨y,H1,I1,ry,F',sb,r',q'⟩=>?_
 refine d9 (oq (v:=.ref a) hg hm rfl hd pins s1 σ H1 (fun v H2=>v= .ref a∧H2=H1) I1 ⟨rfl,rfl⟩) fun u s2 ⟨x',H2,I2,rx,ex,eH⟩=>?_
 subst ex eH
 obtain rfl:u=Value.ref a:=rx
 obtain⟨its,p,k1,k2⟩:=LA I2 hk hu sb r' ry
 refine SeqAt.in_tupleAt (BI F' d1) p (fun y hy=>k1 y (by simpa using hy)) ⟨.bl _,_,I2,rfl,?_⟩
 rw[show its.toArray.any (BI F' d1)=its.any (BI F' d1) by simp,k2]
 simpa using q'
theorem O7 {B:Base}{g:GD}{σ:St}{H:Hp}{Q:Bool→Hp→Prop}(h:tQ X.K B (qB g) σ H Q):tB (tD X.K B g) σ H Q:=by
 obtain⟨S,F,kk,S',R,hg',q⟩:=h
 exact⟨S,F,.bl kk,S',R,ow hg',fun v F' H' R' st r=>⟨kk,pN r,q F' H' R' st⟩⟩
theorem BP (hu:X.A.units+64 < cLine) (hg:Gl X x) (hm:X.mg x=some (.ref a)) (hk:BO X.K a zs) (he:JD X e g) (hd:(x == ("__debug__":Str))=false:=by decide) (hi:behindInMarks .In (.Name x px)=false:=by with_unfolding_all rfl):JT X (.Compare e [.In] [.Name x px] pos) (qB (wG false zs g)):=
 ⟨fun B=>(KA (LB hu hg hm hk (he.h B) hd) hi).imp fun σ H Q h=>O7 h⟩
end
end L2
end
section
set_option Elab.async false
set_option linter.all false
set_option maxRecDepth 100000
namespace L2
open PySem PySem.Spec PyProof.Rows
noncomputable def Gf:U→D→Option (Option D)
 | .m (.dct kvs),k=>(keyOf k).map (cK kvs)
 | .b (.dct kvs),k=>(keyOf k).map (cK kvs)
 | .m (.xB kvs),k=>(BK k).map (cK kvs)
 | .b (.xB kvs),k=>(BK k).map (cK kvs)
 | _,_=>none
noncomputable def uZ:U→Bool
 | .m (.dct _)=>true
 | .b (.dct _)=>true
 | .m (.xB _)=>true
 | .b (.xB _)=>true
 | _=>false
noncomputable def CU (i:Nat) (gk gd:GD):GD:=fun S=>match S[i]? with
 | some (some u)=>if uZ u then(gk S).bind fun p=>(gd p.2).bind fun q=>match q.2[i]? with
  | some (some u2)=>(Gf u2 p.1).map fun o=>(o.getD q.1,q.2)
  | _=>none
  else none
 | _=>none
noncomputable def O8 (F:Hp):Option V→Option D→Prop
 | some v,some d=>Rep F v d
 | none,none=>True
 | _,_=>False
theorem qM {κ:Type} [DecidableEq κ] {F:Hp}{ws:List (κ×V)}{kvs:List (κ×D)}(pr:Paired (fL F) ws kvs) (k:κ):O8 F (pJ ws k) (cK kvs k):=by
 cases e:cK kvs k with
 | none=>rw[xM pr e];exact True.intro
 | some d=>obtain⟨v,h,r⟩:=oE pr e;rw[h];exact r
theorem IU {K:PySem.W.Frag}{F H:Hp}{v w:V}{u:U}{d:D}{h:Option D}(sb:Sub F H) (r:wA K F H v u) (rk:Rep F w d) (e:Gf u d=some h):∃a o,v= .ref a∧oX H a w o∧O8 F o h:=by
 unfold Gf at e
 split at e
 ·obtain⟨kk,e1,rfl⟩:=aq e
  obtain⟨a,rfl,fa,ws,ha,pr⟩:=r
  rw[lH rk e1]
  exact⟨a,_,rfl,oX.k ha,qM pr kk⟩
 ·obtain⟨kk,e1,rfl⟩:=aq e
  obtain⟨a,rfl,fa,ws,ha,pr⟩:=r
  rw[lH rk e1]
  exact⟨a,_,rfl,oX.k ha,qM pr kk⟩
 ·obtain⟨kk,e1,rfl⟩:=aq e
  obtain⟨a,rfl,fa,ws,ha,pr⟩:=r
  obtain⟨b,rfl,hb⟩:=qF sb rk e1
  exact⟨a,_,rfl,oX.t ha hb,qM pr kk⟩
 ·obtain⟨kk,e1,rfl⟩:=aq e
  obtain⟨a,rfl,fa,ws,ha,pr⟩:=r
  obtain⟨b,rfl,hb⟩:=qF sb rk e1
  exact⟨a,_,rfl,oX.t ha hb,qM pr kk⟩
 ·cases e
theorem Ah {K:PySem.W.Frag}{F H:Hp}{v:V}{u:U}(r:wA K F H v u) (h:uZ u=true):∃a,v= .ref a∧Q5 H a:=by
 unfold uZ at h
 split at h
 ·obtain⟨a,rfl,fa,ws,ha,pr⟩:=r;exact⟨a,rfl,.inl ⟨ws,.inl ha⟩⟩
 ·obtain⟨a,rfl,fa,ws,ha,pr⟩:=r;exact⟨a,rfl,.inl ⟨ws,.inl ha⟩⟩
 ·obtain⟨a,rfl,fa,ws,ha,pr⟩:=r;exact⟨a,rfl,.inr ⟨ws,.inl ha⟩⟩
 ·obtain⟨a,rfl,fa,ws,ha,pr⟩:=r;exact⟨a,rfl,.inr ⟨ws,.inl ha⟩⟩
 ·cases h
section
variable {X:Cx}{e f:Expr}{x:Str}{px pos apos cpos:Pos}{gk gd:GD}{ge:GE}
theorem IV {i : Nat} (hu : X.A.units + 1 < cLine) (he : JD X e gk) (hf : JD X f gd) (hN : X.N[i]? = some x := by rfl) (hv : Bd X.env.scope x := by first | exact Or.inl rfl | exact Or.inr (Or.inl rfl) | exact Or.inr (Or.inr rfl))
    (hb:attributeBase (.Name x px) "get" X.env (eval (.Name x px) X.env)=eval (.Name x px) X.env:=by rfl)
    (hfew:((backTo cpos (starEach [e,f] X.env)).all (fun x=>!x.1) && (backToKw cpos (keywordEach [] X.env)).all (fun x=>x.1.isSome) && decide (([e,f]:List Expr).length+([]:List Keyword).length+(if([]:List Keyword).isEmpty then 0 else 1) < 30))=true:=by rfl)
    (hline:(apos.endLine == cpos.line)=true:=by rfl) (htr:backTo cpos (starEach [e,f] X.env)=[(false,eval e X.env),(false,eval f X.env)]:=by rfl) (hd:(x == ("__debug__":Str))=false:=by decide) (hcd:(x == ("__classdict__":Str))=false:=by decide):
    JD X (.Call (.Attribute (.Name x px) "get" apos) [e,f] [] cpos) (CU i gk gd):=
  ⟨fun B => (E6 hu (gw hN hv hd hcd) (he.h B) (hf.h B) ⟨hb, hfew, hline, htr⟩).imp fun σ H Q ⟨S, F, d, S', R, hg, q⟩ => by
    unfold CU at hg
    split at hg
    · rename_i u hS
      split at hg
      · rename_i hD
        obtain⟨⟨d1,S1⟩,h1,hg⟩:=ah hg
        obtain⟨⟨d2,S2⟩,h2,hg⟩:=ah hg
        dsimp only at hg
        split at hg
        · rename_i u2 O9
          obtain⟨o,h3,hg⟩:=aq hg
          cases hg
          obtain⟨v0,hv0,r0⟩:=R.rep i u hS
          obtain⟨a,rfl,ha⟩:=Ah r0 hD
          refine⟨.ref a,hv0,a,rfl,ha,S,F,d1,S1,R,h1,fun v1 F1 H1 R1 st1 r1=>⟨S1,F1,d2,_,R1,h2,fun v2 F2 H2 R2 st2 r2=>?_⟩⟩
          obtain⟨v3,Pa,r3⟩:=R2.rep i u2 O9
          rw[hv0] at Pa
          cases Pa
          obtain⟨a',ov,e1,g1,rl⟩:=IU R2.sub r3 (r1.le st2.ext.le) h3
          cases e1
          refine⟨ov,g1,q _ F2 H2 R2 (st1.trans st2) ?_⟩
          cases o with
          | none=>cases ov with
            | none=>exact r2
            | some _=>exact(show False from rl).elim
          | some d=>cases ov with
            | none=>exact(show False from rl).elim
            | some v=>exact rl
        · cases hg
      · cases hg
    · cases hg⟩
noncomputable def Pb (td te:TE):TE:=fun σ H Q=>td σ H fun x H1=>∃a,x= .ref a∧Q5 H1 a∧te σ H1 fun y H2=>∃p kvs more,y= .ref p∧H2 a=some (.dK kvs)∧H2 p=some (.dK more)∧a≠p∧kvs.length+more.length≤sizeLine∧Q .bZ (upd H2 a (.dK (j9 kvs more)))
theorem IW {o:Expr}{td te:TE}(ho:PE X o td) (he:PE X e te) (m:M1 X o "update" apos e cpos):PE X (.Call (.Attribute o "update" apos) [e] [] cpos) (Pb td te):=by
 intro pins s σ H Q I h
 refine wpAny_Call_method m.base m.few m.line PySem.F.plainAttrs_dict PySem.F.slot_dict_update PySem.F.type_dict_update (d9 (ho pins s σ H _ I h) fun u s1 ⟨x,H1,I1,rx,a,ex,d,q1⟩=>?_)
 subst ex
 obtain rfl:u=Value.ref a:=rx
 obtain⟨t1,t2,_⟩:=E5 I1 d
 refine⟨t1,t2,?_⟩
 rw[m.trees]
 refine Calls.callWith_builtin rfl (Calls.evalArgs_plain (Calls.spliced_cons (d9 (he pins s1 σ H1 _ I1 q1) fun iv s2 ⟨y,H2,I2,ry,p,kvs,more,ey,ha,hp,ne,hl,q2⟩=>Calls.spliced_nil ?_)))
 subst ey
 obtain rfl:iv=Value.ref p:=ry
 obtain⟨z1,d1,vs1,r1,Zw⟩:=Cw I2.hok ha
 obtain⟨z2,d2,vs2,r2,dd2⟩:=Cw I2.hok hp
 refine call_meetsIn PySem.F.slot_dict_update Zw.typeIs PySem.F.entry_dict_update (PySem.F.args_dict_update_2 _ _) (meets_dict_update (bY X.prog X.w) a p ne d2) ⟨vs1,vs2,Zw,dd2,(by rw[←r1.length,←r2.length];exact hl),fun h' Hy _ hs=>⟨.bZ,_,?_,rfl,q2⟩⟩
 have hz:(j9 kvs more).length≤sizeLine:=Nat.le_trans (kQ more kvs) hl
 have hee:∃q,h'.get? a=some q:=let⟨q,_,_,hq,_⟩:=Hy;⟨q,hq⟩
 exact ux I2 (by rw[ha];exact True.intro) hs hee (Bq hz d1 (r2.merge r1) Hy)
noncomputable def Ai (i:Nat) (ge:GE):GD:=fun S=>match S[i]? with
 | some (some u)=>if uZ u then(ge S).bind fun p=>match p.1 with
  | .m (.dct more)=>qz p.2 i fun o=>match o with
   | .dct kvs=>if kvs.length+more.length≤100000 then some (.bZ,.dct (dh kvs more)) else none
   | _=>none
  | _=>none
  else none
 | _=>none
theorem CV {i : Nat} (he : JE X e ge) (hN : X.N[i]? = some x := by rfl) (hv : Bd X.env.scope x := by first | exact Or.inl rfl | exact Or.inr (Or.inl rfl) | exact Or.inr (Or.inr rfl))
    (hb:attributeBase (.Name x px) "update" X.env (eval (.Name x px) X.env)=eval (.Name x px) X.env:=by rfl)
    (hfew:((backTo cpos (starEach [e] X.env)).all (fun x=>!x.1) && (backToKw cpos (keywordEach [] X.env)).all (fun x=>x.1.isSome) && decide (([e]:List Expr).length+([]:List Keyword).length+(if([]:List Keyword).isEmpty then 0 else 1) < 30))=true:=by rfl)
    (hline:(apos.endLine == cpos.line)=true:=by rfl) (htr:backTo cpos (starEach [e] X.env)=[(false,eval e X.env)]:=by rfl) (hd:(x == ("__debug__":Str))=false:=by decide) (hcd:(x == ("__classdict__":Str))=false:=by decide):
    JD X (.Call (.Attribute (.Name x px) "update" apos) [e] [] cpos) (Ai i ge):=
  ⟨fun B => (IW (gw hN hv hd hcd) (he.h B) ⟨hb, hfew, hline, htr⟩).imp fun σ H Q ⟨S, F, d, S', R, hg, q⟩ => by
    unfold Ai at hg
    split at hg
    · rename_i u hS
      split at hg
      · rename_i hD
        obtain⟨⟨u1,S1⟩,h1,hg⟩:=ah hg
        dsimp only at hg
        split at hg
        · rename_i more
          obtain⟨u2,u',o,o',O9,DN,hio,hf,IG,rfl⟩:=oz hg
          split at hf
          · rename_i kvs
            obtain⟨hl,hf⟩:=fB hf
            cases hf
            obtain⟨v0,hv0,r0⟩:=R.rep i u hS
            obtain⟨a,rfl,ha⟩:=Ah r0 hD
            refine⟨.ref a,hv0,a,rfl,ha,S,F,_,S1,R,h1,fun v1 F1 H1 R1 st1 r1=>?_⟩
            obtain⟨p,rfl,hp0,fp,⟨EF,hp,Zx⟩,hn,hB⟩:=r1
            obtain⟨v3,Pa,r3⟩:=R1.rep i u2 O9
            rw[hv0] at Pa
            cases Pa
            have mA:dB S1 σ a:=⟨i,u2,O9,DN,hv0⟩
            have ne:a≠p:=fun z=>hn (z▸mA)
            obtain⟨b,o2,e1,fa,e2,k⟩:=r3.dB DN
            cases e1
            rw[hio] at e2
            cases e2
            obtain⟨Gg,ha1,Zy⟩:=k
            refine⟨p,Gg,EF,rfl,ha1,hp,ne,?_,?_⟩
            · rw[cY Zy,cY Zx,sizeLine_eq];omega
            · obtain⟨R2,st2⟩:=R1.write (ho:=.dK (j9 Gg EF)) O9 IG hv0 ⟨_,aW,pR Zx Zy⟩
              exact q .bZ F1 _ R2 (st1.trans st2) .bZ
          · cases hf
        · cases hg
      · cases hg
    · cases hg⟩
end
noncomputable def Kc (i:Nat) (S:SS):SS:=match S[i]? with
 | some (some (.m (.lst ds)))=>S.set i (some (.t (.lst ds)))
 | _=>S
noncomputable def UD (i:Nat) (g:GE):GE:=fun S=>g (Kc i S)
end L2
end
section
set_option Elab.async false
set_option linter.all false
set_option maxRecDepth 100000
namespace HT
open PySem PySem.Spec PyProof.Rows
section
variable {prog:Program}{w:World}{A:Around}{E:Value→Shared→Prop}{s:Shared}
end
end HT
namespace L2
open PySem PySem.Spec PyProof.Rows
section
variable {X:Cx}{e st:Expr}{te ts:TE}{pos p2:Pos}
noncomputable def Gh (d:D):Option U:=match d with
 | .tup ds=>some (.t (.tup ds.reverse))
 | .lst ds=>some (.m (.lst ds.reverse))
 | _=>none
noncomputable def UE (g:GD) (gs:GD):GE:=fun S=>(g S).bind fun p=>(gs p.2).bind fun l=>match l.1 with
 | .int i=>if i=-1 then(Gh p.1).map fun u=>(u,l.2) else none
 | _=>none
@[simp] theorem UG (g gs:GD) (S:SS):UE g gs S=(g S).bind fun p=>(gs p.2).bind fun l=>match l.1 with
 | .int i=>if i=-1 then(Gh p.1).map fun u=>(u,l.2) else none
 | _=>none:=rfl
end
noncomputable def LC:List Int→Int
 | []=>0
 | [a]=>a
 | a :: b :: r=>max a (LC (b :: r))
noncomputable def LD:List Int→Int
 | []=>0
 | [a]=>a
 | a :: b :: r=>min a (LD (b :: r))
noncomputable def Pc:List D→Option U
 | [.lst ds]=>(Ad ds).bind fun bs=>if bs=[] then none else some (.t (.int (LC bs)))
 | _=>none
noncomputable def Pd:List D→Option U
 | [.lst ds]=>(Ad ds).bind fun bs=>if bs=[] then none else some (.t (.int (LD bs)))
 | _=>none
section
variable {X:Cx}
end
@[simp] theorem Rf (ds:List D):Pc [.lst ds]=(Ad ds).bind fun bs=>if bs=[] then none else some (.t (.int (LC bs))):=rfl
@[simp] theorem Rg (ds:List D):Pd [.lst ds]=(Ad ds).bind fun bs=>if bs=[] then none else some (.t (.int (LD bs))):=rfl
end L2
namespace HT
open PySem PySem.Spec PyProof.Rows
section
variable {prog:Program}{w:World}{A:Around}{E:Value→Shared→Prop}{s:Shared}
end
end HT
namespace L2
open PySem PySem.Spec PyProof.Rows
section
variable {X:Cx}{pos:Pos}
noncomputable def UH (n:Nat) (bs:J2):GB:=fun d S=>match d with
 | .lst ds=>if ds.length=n then bs ds S else none
 | _=>none
end
@[simp] theorem UI (n:Nat) (bs:J2) (ds:List D) (S:SS):UH n bs (.lst ds) S=if ds.length=n then bs ds S else none:=rfl
noncomputable def Pe:List D→Option U
 | [.bl a,.bl b]=>some (.t (.bl (a == b)))
 | _=>none
@[simp] theorem Rh (a b:Bool):Pe [.bl a,.bl b]=some (.t (.bl (a == b))):=rfl
end L2
end
section
set_option Elab.async false
set_option linter.all false
set_option maxRecDepth 100000
namespace L2
open PySem PySem.Spec PyProof.Rows PySem.Calls
noncomputable def Kd (h:Heap) (a:Addr) (ep:Nat) (t:SetTable):Prop:=∃o,h.get? a=some o∧o.ExactSet∧o.data= .set #[] ep t∧t.fits 0=true
theorem Kd.typeIs {s:Shared}{a:Addr}{ep:Nat}{t:SetTable}(h:Kd s.heap a ep t):s.TypeIs (.ref a) "set":=let⟨o,h1,h2,_⟩:=h;⟨o,h1,h2.1⟩
section
variable {prog:Program}{w:World}{A:Around}{E:Value→Shared→Prop}{s:Shared}{a I:Addr}{ep:Nat}{t:SetTable}
noncomputable def Gi (h:Heap) (I a:Addr) (ep:Nat):Prop:=∃o,h.get? I=some o∧o.cls= .type "set_iterator"∧o.data= .fields #[.int 0 0,.int 0 0,.ref a,.int 0 0,.int ep 0]
theorem Gi.typeIs (h:Gi s.heap I a ep):s.TypeIs (.ref I) "set_iterator":=let⟨o,h1,h2,_⟩:=h;⟨o,h1,h2⟩
end
section
variable {X:Cx}{a:Expr}{pos p p1 p2:Pos}{ga:GD}
end
end L2
end
section
set_option Elab.async false
set_option linter.all false
set_option maxRecDepth 100000
namespace L2
open PySem PySem.Spec PyProof.Rows
section
variable {X:Cx}{x:Str}{p:Pos}{a:Addr}
end
noncomputable def Defs (X:Cx) (k n:Nat):List (Addr×FM)→Prop
 | []=>True
 | (a,f) :: r=>(PySem.W.keepIn X.K (.ref a)=true∧∃fd ps,Binds X.K fd ps []∧aX X.prog X.w X.K X.mg X.base eO k a fd ps (spT X.K n f))∧Defs X k n r
theorem Defs.get {X:Cx}{k n:Nat}{a:Addr}{p:Addr×FM}:∀{Hx:List (Addr×FM)},Defs X k n Hx→Hx.find? (fun p=>p.1 == a)=some p→p.1=a∧PySem.W.keepIn X.K (.ref a)=true∧∃fd ps,Binds X.K fd ps []∧aX X.prog X.w X.K X.mg X.base eO k a fd ps (spT X.K n p.2)
 | [],_,h=>by cases h
 | (b,f) :: r,h,e=>by
  rw[List.find?_cons] at e
  cases q:(b == a) with
  | true=>rw[q] at e;cases e;obtain rfl:=eq_of_beq q;exact⟨rfl,h.1.1,h.1.2⟩
  | false=>rw[q] at e;exact Defs.get h.2 e
section
variable {X:Cx}{e:Expr}{es:List Expr}{gu:GU}{x:Str}{p pos:Pos}{k n i:Nat}{t:TA}
end
end L2
end
section
set_option Elab.async false
set_option linter.all false
set_option maxRecDepth 100000
namespace L2
open PySem PySem.Spec PyProof.Rows
end L2
end
section
set_option Elab.async false
set_option linter.all false
set_option maxRecDepth 100000
namespace L2
open PySem PySem.Spec PyProof.Rows PySem.Calls
section
variable {X:Cx}{o e:Expr}{m:Str}{apos cpos:Pos}{id:String}{go ge:GD}{f:List D→Option U}
theorem u5 (hc:iu X (.builtin id) (rP f)) (slot:Slot "str" m id) (ty:typeOf (.builtin id)=pure (.type "method_descriptor")) (hstr:∀d1 d2 u,f [d1,d2]=some u→∃z,d1= .str z) (ho:JD X o go) (he:JD X e ge)
  (hb:attributeBase o m X.env (eval o X.env)=eval o X.env:=by rfl)
  (hfew:((backTo cpos (starEach [e] X.env)).all (fun x=>!x.1) && (backToKw cpos (keywordEach [] X.env)).all (fun x=>x.1.isSome) && decide (([e]:List Expr).length+([]:List Keyword).length+(if([]:List Keyword).isEmpty then 0 else 1) < 30))=true:=by rfl)
  (hline:(apos.endLine == cpos.line)=true:=by rfl) (htr:backTo cpos (starEach [e] X.env)=[(false,eval e X.env)]:=by rfl):
  JE X (.Call (.Attribute o m apos) [e] [] cpos) (eP f (aa go (aa ge aA))):=⟨fun B=>by
 rintro pins s σ H Q I ⟨S,F,u,S',R,hg,q⟩
 obtain⟨⟨dl,S1⟩,h1,hg⟩:=ah hg
 obtain⟨w,hf,hg⟩:=aq hg
 cases hg
 obtain⟨⟨d1,Sa⟩,k1,h1⟩:=ah h1
 obtain⟨⟨dr,Sb⟩,kk,h1⟩:=aq h1
 cases h1
 obtain⟨⟨d2,Sc⟩,k2,h2⟩:=ah kk
 clear kk
 obtain⟨⟨dn,Sd⟩,k3,h2⟩:=aq h2
 cases k3
 cases h2
 obtain⟨z,rfl⟩:=hstr _ _ _ hf
 refine wpAny_Call_method hb hfew hline PySem.F.plainAttrs_str slot ty (d9 (ho.h B pins s σ H (fun v H1=>∃F1,Rel X.K B Sa σ F1 H1∧Step S Sa σ F H F1 H1∧Rep F1 v (.str z)) I ⟨S,F,_,Sa,R,k1,fun v F1 H1 R1 st1 r1=>⟨F1,R1,st1,r1⟩⟩) ?_)
 rintro ov s1 ⟨x,H1,I1,rx,F1,R1,st1,r1⟩
 cases r1
 obtain⟨t,rfl⟩:∃t,ov= .str z t:=rx
 refine⟨typeIs_str _ _ _,(fun _ e=>nomatch e),?_⟩
 rw[htr]
 refine Calls.callWith_builtin rfl (Calls.evalArgs_plain (Calls.spliced_cons (d9 (he.h B pins s1 σ H1 (fun v H2=>∃F2,Rel X.K B Sc σ F2 H2∧Step Sa Sc σ F1 H1 F2 H2∧Rep F2 v d2) I1 ⟨Sa,F1,d2,Sc,R1,k2,fun v F2 H2 R2 st2 r2=>⟨F2,R2,st2,r2⟩⟩) ?_)))
 rintro iv s2 ⟨y,H2,I2,ry,F2,R2,st2,r2⟩
 refine Calls.spliced_nil ?_
 exact hc pins s2 σ H2 [.str z,y] _ Q I2 (.cons ⟨t,rfl⟩ (.cons ry .nil)) ⟨F2,[.str z,d2],u,R2.sub,.cons (.str z) (.cons r2 .nil),hf,fun v F3 H3 n s3 r3=>q v F3 H3 (R2.new n s3) ((st1.trans st2).trans n.step) (r3.Fz R2 (st1.trans st2))⟩⟩
end
theorem xT:∀{zs:List Str}{its:List Value},Vals (zs.map V.str) its→∃l:List (Str×Tok),its=strValues l∧l.map (·.1)=zs
  | [],_,h=>by cases h;exact⟨[],rfl,rfl⟩
  | z :: zs, _, h => by
    cases h with
    | cons r rs=>
      obtain⟨t,rfl⟩:=r
      obtain⟨l,rfl,e⟩:=xT rs
      exact⟨(z,t) :: l,rfl,by rw[List.map_cons,e]⟩
theorem xU:∀(l:List (Str×Tok)),Vals ((l.map (·.1)).map V.str) (strValues l)
 | []=>.nil
 | p :: l=>.cons ⟨p.2,rfl⟩ (xU l)
theorem xV (F:Hp):∀zs:List Str,bx F (zs.map V.str) (zs.map D.str)
 | []=>.nil
 | z :: zs=>.cons (.str z) (xV F zs)
noncomputable def qN:List D→Option U
 | [.str sep,.lst ds]=>(qL ds).bind fun zs=>if JoinOk sep zs=true then some (.t (.str (Txt.join sep zs))) else none
 | _=>none
theorem Aj {ds:List D}{u:U}(h:qN ds=some u):∃sep l zs,ds=[.str sep,.lst l]∧qL l=some zs∧JoinOk sep zs=true∧u= .t (.str (Txt.join sep zs)):=by
 unfold qN at h
 split at h
 ·obtain⟨zs,h1,h2⟩:=ah h
  obtain⟨h3,rfl⟩:=bL h2
  exact⟨_,_,zs,rfl,h1,h3,rfl⟩
 ·cases h
section
variable {X:Cx}
theorem u6 : iu X (.builtin "str.join") (rP qN) := by
  intro pins s σ H xs us Q I r ⟨F,ds,w,sb,rs,hw,q⟩
  obtain⟨sep,l,zs,rfl,h1,h2,rfl⟩:=Aj hw
  cases rs with
  | cons r1 rs=>
    cases rs with
    | cons r2 rs=>
      cases rs
      cases r1
      obtain⟨a,vs,rfl,fa,ha,zH⟩:=sb.lE r2
      obtain rfl:=uV zH h1
      obtain⟨t,u2,rfl,hu2⟩:∃t u2,us=[.str sep t,u2]∧RelV (.ref a) u2:=by
        cases r with
        | cons a1 r=>cases r with | cons a2 r=>cases r;obtain⟨t,rfl⟩:=a1;exact⟨t,_,rfl,a2⟩
      obtain rfl:u2= .ref a:=hu2
      obtain⟨its,rv,pl,hz⟩:=I.list (.inl ha)
      obtain⟨l',rfl,hl'⟩:=xT rv
      exact SC.join pl.isList hl' h2 fun t' k=>⟨.str _,H,I.tok _,⟨t',rfl⟩,q _ F H (jj.refl ..) sb (.str _)⟩
noncomputable def lY:List D→Option U
 | [.str x,.str y]=>if(y.length == 0)=false∧x.length≤100000∧(Txt.split x y).length≤100000 then some (.m (.lst ((Txt.split x y).map D.str))) else none
 | _=>none
theorem xW {ds:List D}{u:U}(h:lY ds=some u):∃x y,ds=[.str x,.str y]∧(y.length == 0)=false∧x.length≤100000∧(Txt.split x y).length≤100000∧u= .m (.lst ((Txt.split x y).map D.str)):=by
 unfold lY at h
 split at h
 ·obtain⟨h3,rfl⟩:=bL h
  exact⟨_,_,rfl,h3.1,h3.2.1,h3.2.2,rfl⟩
 ·cases h
theorem Gj {F:Hp}{xs:List V}{us:List Value}{x y:Str}(rs:bx F xs [.str x,.str y]) (r:Vals xs us):∃t u,us=[.str x t,.str y u]:=by
 cases rs with
 | cons r1 rs=>
  cases rs with
  | cons r2 rs=>
   cases rs
   cases r1
   cases r2
   cases r with
   | cons a1 r=>cases r with | cons a2 r=>cases r;obtain⟨t,rfl⟩:=a1;obtain⟨u,rfl⟩:=a2;exact⟨t,u,rfl⟩
theorem Ak:iu X (.builtin "str.split") (rP lY):=by
 intro pins s σ H xs us Q I r ⟨F,ds,w,sb,rs,hw,q⟩
 obtain⟨x,y,rfl,hy,hx,hn,rfl⟩:=xW hw
 obtain⟨t,u,rfl⟩:=Gj rs r
 have line:∀{n:Nat},n≤100000→n≤sizeLine:=fun h=>Nat.le_trans h (by decide)
 have fin:∀(l:List (Str×Tok)) (k:Nat),l.map (·.1)=Txt.split x y→EP X pins σ Q (.ref s.heap.objs.size) {s with toks:=k,heap:=s.heap.push {cls:=.type "list",data:=.seq (strValues l).toArray}}:=fun l k e=>by
  have hp:=I.hok.fresh (Nat.le_refl s.heap.objs.size)
  have hl:l.length=(Txt.split x y).length:=by rw[←e,List.length_map]
  refine⟨.ref s.heap.objs.size,_,I.laid (t':=k) (o:=.lst ((l.map (·.1)).map V.str)) (fun b ob q=>Heap.get?_push_of_some _ q) (Nat.le_refl _) ⟨by rw[List.length_map,List.length_map];exact line (by omega),strValues l,0,xU l,Heap.get?_push_size _ rfl⟩,rfl,?_⟩
  refine q _ F _ (jj.obj hp _) (sb.same (jj.obj (F:=F) hp _).same) ⟨_,rfl,hp,sb.fresh hp,_,aW,?_⟩
  rw[e]
  exact xV F _
 cases c1:(decide (x.length < y.length) || decide (Builtin.Str.strKind x < Builtin.Str.strKind y)) with
 | true=>
  have e:Txt.split x y=[x]:=by unfold Txt.split;rw[if_pos c1]
  exact call_meets PySem.F.slot_str_split (typeIs_str _ _ _) PySem.F.entry_str_split (PySem.F.args_str_split_2 _ _) (meets_str_split_cannot_occur x y t u c1) (fin [(x,t)] s.toks e.symm)
 | false=>
  cases c2:(Builtin.Str.occurrences x y 0 x.length (x.length+1)).isEmpty with
  | true=>
   have e:Txt.split x y=[x]:=by unfold Txt.split;rw[if_neg (by rw[c1];decide),if_pos c2]
   exact call_meets PySem.F.slot_str_split (typeIs_str _ _ _) PySem.F.entry_str_split (PySem.F.args_str_split_2 _ _) (meets_str_split_not_found x y t u c1 hy c2) (fin [(x,t)] s.toks e.symm)
  | false=>
   have e:Txt.split x y=Builtin.Str.partsBetween x (Builtin.Str.occurrences x y 0 x.length (x.length+1)) y.length:=by unfold Txt.split;rw[if_neg (by rw[c1];decide),if_neg (by rw[c2];decide)]
   refine call_meets PySem.F.slot_str_split (typeIs_str _ _ _) PySem.F.entry_str_split (PySem.F.args_str_split_2 _ _) (meets_str_split_sep x y t u c1 hy c2 (line hx) (by rw[←e];exact line hn)) ?_
   rw[strsFrom_eq]
   exact fin (numbered s.toks _) _ ((numbered_texts _ _).trans e.symm)
noncomputable def Gk:List D→Option U
 | [.int a]=>if a.natAbs < 10 ^ 30 then some (.t (.str (toString a))) else none
 | _=>none
theorem Gm {ds:List D}{u:U}(h:Gk ds=some u):∃a,ds=[.int a]∧a.natAbs < 10 ^ 30∧u= .t (.str (toString a)):=by
 unfold Gk at h
 split at h
 ·obtain⟨h3,rfl⟩:=bL h
  exact⟨_,rfl,h3,rfl⟩
 ·cases h
theorem BQ:iu X (.type "str") (rP Gk):=by
 intro pins s σ H xs us Q I r ⟨F,ds,w,sb,rs,hw,q⟩
 obtain⟨a,rfl,ha,rfl⟩:=Gm hw
 obtain⟨t,rfl⟩:∃t,us=[.int a t]:=by
  cases rs with
  | cons r1 rs=>cases rs;cases r1;cases r with | cons a1 r=>cases r;obtain⟨t,rfl⟩:=a1;exact⟨t,rfl⟩
 have hl:a.natAbs.log2 < 1920:=by
  by_cases hz:a.natAbs=0
  ·rw[hz];decide
  ·exact(Nat.log2_lt hz).mpr (Nat.lt_trans ha (Nat.lt_of_lt_of_le (show(10:Nat) ^ 30 < 2 ^ 100 by decide) (Nat.pow_le_pow_right (by decide) (by decide))))
 exact P.str_of_int hl ⟨.str _,H,I.tok _,⟨_,rfl⟩,q _ F H (jj.refl ..) sb (.str _)⟩
end
theorem Al (d1 d2:D) (u:U) (h:qN [d1,d2]=some u):∃z,d1= .str z:=by obtain⟨sep,l,zs,e,_⟩:=Aj h;cases e;exact⟨_,rfl⟩
theorem DY (d1 d2:D) (u:U) (h:lY [d1,d2]=some u):∃z,d1= .str z:=by obtain⟨x,y,e,_⟩:=xW h;cases e;exact⟨_,rfl⟩
noncomputable def Ri:GS:=fun _=>none
theorem Gn {X:Cx}{st:Stmt}:JS X st Ri:=⟨fun B pins s σ H Q I ⟨_,_,_,_,hg,_⟩=>by cases hg⟩
end L2
end
section
set_option Elab.async false
set_option linter.all false
set_option maxRecDepth 100000
namespace L2
open PySem PySem.Spec PyProof.Rows
end L2
end
section
set_option Elab.async false
set_option linter.all false
set_option maxRecDepth 100000
namespace L2
open PySem PySem.Spec PyProof.Rows
noncomputable def kN (C:Addr) (S:SS) (i:Nat):Option (List (Str×D)):=match S[i]? with
 | some (some (.m (.ins C' kvs)))=>if C'=C then some kvs else none
 | some (some (.b (.ins C' kvs)))=>if C'=C then some kvs else none
 | _=>none
theorem kB {C:Addr}{S:SS}{i:Nat}{kvs:List (Str×D)}(h:kN C S i=some kvs):∃u,S[i]? =some (some u)∧gg u=true∧J3 u=some (.ins C kvs):=by
 unfold kN at h
 split at h
 ·rename_i C' kvs' e
  obtain⟨hc,hk⟩:=fB h
  subst hc
  cases hk
  exact⟨_,e,rfl,rfl⟩
 ·rename_i C' kvs' e
  obtain⟨hc,hk⟩:=fB h
  subst hc
  cases hk
  exact⟨_,e,rfl,rfl⟩
 ·cases h
theorem u9 {F:Hp}{f:Str}{d:D}:∀{ws:List (Str×V)}{kvs:List (Str×D)},Paired (fL F) ws kvs→kvs.lookup f=some d→∃v,ws.lookup f=some v∧Rep F v d
 | _,_,.nil,h=>by cases h
 | _,_,@Paired.cons _ _ _ (k,v) (k',d') ws kvs r rs,h=>by
  obtain⟨e,r⟩:=r
  have e:k=k':=e
  subst e
  rw[List.lookup_cons] at h ⊢
  split at h
  ·rename_i q
   cases h
   exact⟨v,rfl,r⟩
  ·rename_i q
   exact u9 rs h
theorem vc {F:Hp}{f:Str}:∀{ws:List (Str×V)}{kvs:List (Str×D)},Paired (fL F) ws kvs→kvs.lookup f=none→ws.lookup f=none
 | _,_,.nil,h=>rfl
 | _,_,@Paired.cons _ _ _ (k,v) (k',d') ws kvs r rs,h=>by
  obtain⟨e,r⟩:=r
  have e:k=k':=e
  subst e
  rw[List.lookup_cons] at h ⊢
  split at h
  ·cases h
  ·rename_i q
   exact vc rs h
noncomputable def jk (f:Str) (d:D):List (Str×D)→List (Str×D)
 | []=>[(f,d)]
 | (g,x) :: r=>if g=f then(g,d) :: r else(g,x) :: jk f d r
theorem xX {F:Hp}{f:Str}{v:V}{d:D}(r:Rep F v d):∀{ws:List (Str×V)}{kvs:List (Str×D)},Paired (fL F) ws kvs→Paired (fL F) (kL f v ws) (jk f d kvs)
 | _,_,.nil=>.cons ⟨rfl,r⟩ .nil
 | _,_,@Paired.cons _ _ _ (k,v') (k',d') ws kvs q qs=>by
  obtain⟨e,q⟩:=q
  have e:k=k':=e
  subst e
  unfold kL jk
  split
  ·exact .cons ⟨rfl,r⟩ qs
  ·exact .cons ⟨rfl,q⟩ (xX r qs)
theorem qO {K:PySem.W.Frag}{B:Base}{S:SS}{σ:St}{F H:Hp}{C:Addr}{i:Nat}{u:U}{kvs:List (Str×D)}(R:Rel K B S σ F H) (hS:S[i]? =some (some u)) (hm:gg u=true) (hi:J3 u=some (.ins C kvs)):∃a ws dx,σ[i]? =some (some (.ref a))∧H a=some (.ins C dx ws)∧Paired (fL F) ws kvs:=by
 obtain⟨v,e,r⟩:=R.rep i u hS
 obtain⟨a,o,rfl,_,e2,h⟩:=r.dB hm
 rw[hi] at e2
 cases e2
 obtain⟨ws,⟨dx,h1⟩,h2⟩:=h
 exact⟨a,ws,dx,e,h1,h2⟩
noncomputable def kM (C:Addr) (i:Nat) (f:Str):GD:=fun S=>(kN C S i).bind fun kvs=>(kvs.lookup f).map fun d=>(d,S)
noncomputable def vd (C:Addr) (i:Nat) (f:Str) (g:GD):GS:=fun S=>(g S).bind fun p=>(kN C p.2 i).bind fun kvs=>if kvs.length < 900 then(qz p.2 i fun _=>some (.bZ,.ins C (jk f p.1 kvs))).map fun z=>.nx z.2 else none
noncomputable def qP (op:Int→Int→Int) (C:Addr) (i:Nat) (f:Str) (g:GD):GS:=fun S=>(kN C S i).bind fun Pf=>match Pf.lookup f with
 | some (.int n)=>(g S).bind fun p=>match p.1 with
  | .int m=>(kN C p.2 i).bind fun kvs=>if kvs.length < 900 then(qz p.2 i fun _=>some (.bZ,.ins C (jk f (.int (op n m)) kvs))).map fun z=>.nx z.2 else none
  | _=>none
 | _=>none
noncomputable def Gp (i:Nat) (gu:GU):GU:=fun S=>(gu S).map fun p=>(.v i :: p.1,p.2)
noncomputable def fO (C:Addr) (m:Str) (i:Nat) (f:FM) (gu:GU):GE:=fun S=>(kN C S i).bind fun kvs=>if kvs.lookup m=none then bW f (Gp i gu) S else none
noncomputable def Am (C:Addr) (f:FM) (gu:GU):GE:=fun S=>(gu S).bind fun p=>if slotsOf p.1=[]∧aT p.1=0 then(aO p.2 p.1).bind fun us=>(f (.b (.ins C []) :: us)).bind fun r=>match r with
 | (.t .bZ,[o])=>some (.m o,p.2)
 | _=>none else none
section
variable {X:Cx}{C:Addr}{e value:Expr}{es:List Expr}{gu:GU}{x y m:Str}{px p pos pos' apos tpos:Pos}{f:Str}{fm:FM}{fa:Addr}{fd:FuncData}{ps:List Str}{k n i:Nat}{g:GD}
theorem nq (i:Nat) (c:rS X.K C) (na:fy X.K C f) (hN:X.N[i]? =some x:=by rfl) (hv:Bd X.env.scope x:=by first | exact Or.inl rfl | exact Or.inr (Or.inl rfl) | exact Or.inr (Or.inr rfl))
  (hd:(x == ("__debug__":Str))=false:=by decide) (hcd:(x == ("__classdict__":Str))=false:=by decide) (hb:attributeBase (.Name x px) f X.env (eval (.Name x px) X.env)=eval (.Name x px) X.env:=by rfl):JD X (.Attribute (.Name x px) f pos) (kM C i f):=
 ⟨fun B=>(K7 (gw hN hv hd hcd) hb).imp fun σ H Q ⟨S,F,d,S',R,hg,q⟩=>by
 obtain⟨kvs,h1,hg⟩:=ah hg
 obtain⟨d',h2,hg⟩:=aq hg
 cases hg
 obtain⟨u,hS,hm,hi⟩:=kB h1
 obtain⟨a,ws,dx,e1,e2,e3⟩:=qO R hS hm hi
 obtain⟨v,l1,r1⟩:=u9 e3 h2
 exact⟨.ref a,e1,a,C,dx,ws,v,rfl,e2,c,na,l1,q v F H R (Step.refl ..) r1⟩⟩
theorem xY {B:Base}{S S':SS}{σ:St}{F H:Hp}{kvs:List (Str×D)}{dd:D}{d:D}{v:V}(R:Rel X.K B S σ F H) (h1:kN C S i=some kvs) (h3:qz S i (fun _=>some (.bZ,.ins C (jk f d kvs)))=some (dd,S')) (rv:Rep F v d):
  ∃a ws dx,σ[i]? =some (some (.ref a))∧H a=some (.ins C dx ws)∧ws.length=kvs.length∧Rel X.K B S' σ F (upd H a (.ins C dx (kL f v ws)))∧Step S S' σ F H F (upd H a (.ins C dx (kL f v ws))):=by
 obtain⟨u0,OW,hm0,hi0⟩:=kB h1
 obtain⟨a,ws,dx,e1,e2,e3⟩:=qO R OW hm0 hi0
 obtain⟨u,u',o,o',hS,DN,hio,hf,IG,rfl⟩:=oz h3
 cases hf
 obtain⟨R3,st3⟩:=R.write (ho:=.ins C dx (kL f v ws)) hS IG e1 ⟨_,⟨dx,aW⟩,xX rv e3⟩
 exact⟨a,ws,dx,e1,e2,cY e3,R3,st3⟩
theorem yY (i:Nat) (c:rS X.K C) (na:fy X.K C f) (hval:JD X value g) (hN:X.N[i]? =some x:=by rfl) (hv:Bd X.env.scope x:=by first | exact Or.inl rfl | exact Or.inr (Or.inl rfl) | exact Or.inr (Or.inr rfl))
  (hd:(x == ("__debug__":Str))=false:=by decide) (hcd:(x == ("__classdict__":Str))=false:=by decide) (hs:swapsWith value (some (.Attribute (.Name x px) f pos')) pos.line X.env=pure false:=by rfl):
  JS X (.Assign [.Attribute (.Name x px) f pos'] value pos) (vd C i f g):=⟨fun B=>(K8 (gw hN hv hd hcd) (hval.h B) hs).imp fun D σ H ⟨S,F,o,R,hg,q⟩=>by
 obtain⟨⟨d,S1⟩,h1,hg⟩:=ah hg
 obtain⟨kvs,h2,hg⟩:=ah hg
 obtain⟨hl,hg⟩:=fB hg
 obtain⟨⟨dd,S2⟩,h3,hg⟩:=aq hg
 subst hg
 refine⟨S,F,d,S1,R,h1,fun v F1 H1 R1 st1 r1=>?_⟩
 obtain⟨a,ws,dx,e1,e2,e3,R3,st3⟩:=xY R1 h2 h3 r1
 exact⟨.ref a,e1,a,C,dx,ws,rfl,e2,c,na,by rw[e3];omega,q σ F1 _ R3 st1.ext.le⟩⟩
theorem yZ (i:Nat){op:Operator}{fo:Int→Int→Int}(c:rS X.K C) (na:fy X.K C f) (ho:K6 X op fun x y H Q=>∃i j,x= .int i∧y= .int j∧Q (.int (fo i j)) H) (hval:JD X value g) (hN:X.N[i]? =some x:=by rfl) (hv:Bd X.env.scope x:=by first | exact Or.inl rfl | exact Or.inr (Or.inl rfl) | exact Or.inr (Or.inr rfl))
  (hd:(x == ("__debug__":Str))=false:=by decide) (hcd:(x == ("__classdict__":Str))=false:=by decide):
  JS X (.AugAssign (.Attribute (.Name x px) f tpos) op value pos) (qP fo C i f g):=⟨fun B=>(Dp (gw hN hv hd hcd) (hval.h B) ho).imp fun D σ H ⟨S,F,o,R,hg,q⟩=>by
 obtain⟨Pf,h0,hg⟩:=ah hg
 split at hg
 ·rename_i nn hn
  obtain⟨⟨d,S1⟩,h1,hg⟩:=ah hg
  dsimp only at hg
  split at hg
  ·rename_i mm
   obtain⟨kvs,h2,hg⟩:=ah hg
   obtain⟨hl,hg⟩:=fB hg
   obtain⟨⟨dd,S2⟩,h3,hg⟩:=aq hg
   subst hg
   obtain⟨u,hS,hm,hi⟩:=kB h0
   obtain⟨a,ws,dx,e1,e2,e3⟩:=qO R hS hm hi
   obtain⟨v0,l1,r1⟩:=u9 e3 hn
   obtain rfl:=jY r1
   refine⟨.ref a,e1,a,C,dx,ws,.int nn,rfl,e2,c,na,l1,S,F,_,S1,R,h1,fun y F1 H1 R1 st1 r1=>⟨nn,mm,rfl,jY r1,?_⟩⟩
   obtain⟨a',ws',Oa,f1,f2,f3,R3,st3⟩:=xY (v:=.int (fo nn mm)) R1 h2 h3 (.int _)
   rw[e1] at f1
   cases f1
   exact⟨Oa,ws',f2,by rw[f3];omega,q σ F1 _ R3 st1.ext.le⟩
  ·cases hg
 ·cases hg⟩
theorem CW {B:Base}{S S1 S':SS}{σ:St}{F0 H F1 H1:Hp}{Q:VK}{u u0:U}{us:List U}{vs:List V}{a:Addr}(hS:S[i]? =some (some u0)) (hv:σ[i]? =some (some (.ref a))) (R1:Rel X.K B S1 σ F1 H1) (st1:Step S S1 σ F0 H F1 H1) (rr:Paired (fun v u=>iB X.K B S1 σ H F1 H1 v u) vs us) (hlen:vs.length+1=n)
  (hg:(if(slotsOf (U.v i :: us)).Nodup∧aT (U.v i :: us)≤1 then(aO S1 (.v i :: us)).bind fun ws=>(fm ws).bind fun r=>(wb (.v i :: us) r.2 S1).map fun S2=>(r.1,S2) else none)=some (u,S'))
  (q:∀v F' H',Rel X.K B S' σ F' H'→Step S S' σ F0 H F' H'→iB X.K B S' σ H F' H' v u→Q v H'):spT X.K n fm (.ref a :: vs) H1 Q E0:=by
 obtain⟨hc,hg⟩:=fB hg
 obtain⟨ws,h2,hg⟩:=ah hg
 obtain⟨⟨r,outs⟩,h3,hg⟩:=ah hg
 obtain⟨S2,h4,hg⟩:=aq hg
 cases hg
 have LF:Paired (fun v u=>iB X.K B S1 σ H F1 H1 v u) (.ref a :: vs) (.v i :: us):=.cons ⟨hv,st1.slots i u0 hS⟩ rr
 refine⟨by show vs.length+1=n;exact hlen,F1,ws,r,outs,R1.sub,qA R1 LF h2,eU R1 LF h2 hc.1 hc.2,h3,fun v F2 H2 po rn=>?_⟩
 obtain⟨R2,st2,mu⟩:=kh R1 st1 LF h2 h4 hc.1 po
 refine q v F2 H2 R2 st2 ?_
 cases r with
 | t d=>exact rn
 | b o=>cases rn
 | v i=>cases rn
 | s i=>cases rn
 | f i=>cases rn
 | m o=>
  obtain⟨a2,e,h0,f,h⟩:=rn
  refine⟨a2,e,none_of st1.ext.there h0,f,h,fun m=>?_,none_of R1.ext.there h0⟩
  obtain⟨o',ho⟩:=R1.has (mu a2 m)
  rw[h0] at ho
  cases ho
theorem iV {pl:Sem Bool}(i:Nat) (c:rS X.K C) (hm:Meth X.K C m fa) (F:aX X.prog X.w X.K X.mg X.base eO k fa fd ps (spT X.K n fm)) (hr:gG k X.A) (hb:Binds X.K fd ps []) (ha:JU X (e :: es) gu) (hn:(e :: es).length+1=n:=by rfl)
  (hN:X.N[i]? =some x:=by rfl) (hv:Bd X.env.scope x:=by first | exact Or.inl rfl | exact Or.inr (Or.inl rfl) | exact Or.inr (Or.inr rfl)) (hd:(x == ("__debug__":Str))=false:=by decide) (hcd:(x == ("__classdict__":Str))=false:=by decide)
  (hst:starEach (e :: es) X.env=(false,eval e X.env) :: starEach es X.env:=by rfl) (hpl:(backTo pos (starEach es X.env)).any (·.1)=false:=by rfl)
  (ht:eval (.Call (.Attribute (.Name x px) m apos) (e :: es) [] pos) X.env=(do
   let ov ←eval (.Name x px) X.env
   standAt apos.atName
   let(f,first) ←holding [ov] (getMethod ov m pl)
   callWith pos f first (backTo pos (starEach (e :: es) X.env)) (backToKw pos (keywordEach [] X.env))):=by rfl):
  JE X (.Call (.Attribute (.Name x px) m apos) (e :: es) [] pos) (fO C m i fm gu):=⟨fun B=>(HY (pl:=pl) (gw hN hv hd hcd) c hm F hr hb .nil zX (ha.h B) hst hpl ht).imp fun σ H Q ⟨S,F0,u,S',R,hg,q⟩=>by
 obtain⟨kvs,h0,hg⟩:=ah hg
 obtain⟨hl,hg⟩:=fB hg
 obtain⟨⟨us',S1⟩,h1,hg⟩:=ah hg
 obtain⟨⟨us,S1'⟩,Zz,hq⟩:=aq h1
 cases hq
 obtain⟨u0,hS,DN,hi⟩:=kB h0
 obtain⟨a,ws,dx,e1,e2,e3⟩:=qO R hS DN hi
 refine⟨.ref a,e1,a,dx,ws,rfl,e2,vc e3 hl,S,F0,us,S1',R,Zz,fun vs F1 H1 R1 st1 rr=>?_⟩
 show spT X.K n fm (.ref a :: (vs++[])) H1 Q E0
 rw[List.append_nil]
 exact CW hS e1 R1 st1 rr (by rw[rr.length,ha.len _ _ _ Zz];exact hn) hg q⟩
theorem iW {pl:Sem Bool}(i:Nat) (c:rS X.K C) (hm:Meth X.K C m fa) (F:aX X.prog X.w X.K X.mg X.base eO k fa fd ps (spT X.K 1 fm)) (hr:gG k X.A) (hb:Binds X.K fd ps [])
  (hN:X.N[i]? =some x:=by rfl) (hv:Bd X.env.scope x:=by first | exact Or.inl rfl | exact Or.inr (Or.inl rfl) | exact Or.inr (Or.inr rfl)) (hd:(x == ("__debug__":Str))=false:=by decide) (hcd:(x == ("__classdict__":Str))=false:=by decide)
  (ht:eval (.Call (.Attribute (.Name x px) m apos) [] [] pos) X.env=(do
   let ov ←eval (.Name x px) X.env
   standAt apos.atName
   let(f,first) ←holding [ov] (getMethod ov m pl)
   callWith pos f first (backTo pos (starEach [] X.env)) (backToKw pos (keywordEach [] X.env))):=by rfl):
  JE X (.Call (.Attribute (.Name x px) m apos) [] [] pos) (fO C m i fm br):=⟨fun B=>(E1 (pl:=pl) (gw hN hv hd hcd) c hm F hr hb .nil zX ht).imp fun σ H Q ⟨S,F0,u,S',R,hg,q⟩=>by
 obtain⟨kvs,h0,hg⟩:=ah hg
 obtain⟨hl,hg⟩:=fB hg
 obtain⟨⟨us',S1⟩,h1,hg⟩:=ah hg
 cases h1
 obtain⟨u0,hS,DN,hi⟩:=kB h0
 obtain⟨a,ws,dx,e1,e2,e3⟩:=qO R hS DN hi
 refine⟨.ref a,e1,a,dx,ws,rfl,e2,vc e3 hl,?_⟩
 exact CW (S:=S) (F0:=F0) (H:=H) (vs:=[]) (us:=[]) hS e1 R (Step.refl ..) .nil rfl hg q⟩
theorem oF {B:Base}{S:SS}{σ:St}{H0 F H H':Hp}(k:∀b o,H b=some o→H' b=some o):∀{vs:List V}{us:List U},slotsOf us=[]→aT us=0→Paired (fun v u=>iB X.K B S σ H0 F H v u) vs us→Paired (fun v u=>iB X.K B S σ H0 F H' v u) vs us
  | [],[],_,_,_=>.nil
  | [],_ :: _,_,_,z=>by cases z
  | _ :: _,[],_,_,z=>by cases z
  | v :: vs, u :: us, h1, h2, z => by
    obtain⟨r,rs⟩:iB X.K B S σ H0 F H v u∧Paired (fun v u=>iB X.K B S σ H0 F H v u) vs us:=by cases z with | cons r rs=>exact⟨r,rs⟩
    cases u with
    | t d=>exact .cons r (oF k h1 h2 rs)
    | m o=>exact absurd h2 (Nat.succ_ne_zero _)
    | b o=>cases r
    | v j=>cases h1
    | s ns=>
      refine .cons ?_ (oF k h1 h2 rs)
      obtain⟨a,e,z⟩:=r
      refine⟨a,e,?_⟩
      rcases z with⟨o,z⟩ | z
      · exact .inl ⟨o,k _ _ z⟩
      · exact .inr z
    | f a=>exact .cons r (oF k h1 h2 rs)
theorem qQ {S:SS}:∀{us ws:List U},slotsOf us=[]→aT us=0→aO S us=some ws→wb us [] S=some S
 | [],_,_,_,_=>rfl
 | u :: us,ws,h1,h2,h3=>by
  obtain⟨w,e1,h3⟩:=ah h3
  obtain⟨ws',e2,h3⟩:=aq h3
  cases u with
  | t d=>exact qQ (us:=us) h1 h2 e2
  | m o=>exact absurd h2 (Nat.succ_ne_zero _)
  | b o=>cases e1
  | v j=>cases h1
  | s ns=>exact qQ (us:=us) h1 h2 e2
  | f a=>exact qQ (us:=us) h1 h2 e2
theorem IX {B:Base}{S S1:SS}{σ:St}{F0 H F1 H1:Hp}{Q:VK}{us ws:List U}{vs:List V}{o:MO}{xa dx:Addr}(R1:Rel X.K B S1 σ F1 H1) (st1:Step S S1 σ F0 H F1 H1) (rr:Paired (fun v u=>iB X.K B S1 σ H F1 H1 v u) vs us) (hlen:vs.length+1=n) (hc:slotsOf us=[]∧aT us=0) (h2:aO S1 us=some ws)
  (h3:fm (.b (.ins C []) :: ws)=some (.t .bZ,[o])) (hx:H1 xa=none) (hdx:H1 dx=none) (ne:dx≠xa)
  (q:∀v F' H',Rel X.K B S1 σ F' H'→Step S S1 σ F0 H F' H'→iB X.K B S1 σ H F' H' v (.m o)→Q v H'):spT X.K n fm (.ref xa :: vs) (upd (upd H1 dx (.own xa)) xa (.ins C dx [])) (fun v H2=>v= .bZ∧Q (.ref xa) H2) E0:=by
 have n1:jj F1 H1 F1 (upd H1 dx (.own xa)):=jj.obj hdx _
 have hx':(upd H1 dx (.own xa)) xa=none:=by rw[aP (Ne.symm ne)];exact hx
 have Rj:=n1.trans (jj.obj hx' (.ins C dx []))
 have Rk:=R1.new Rj (R1.sub.same Rj.same)
 have UJ:=st1.trans (Rj.step (S:=S1) (σ:=σ))
 have nm:¬dB S1 σ xa:=fun m=>by
  obtain⟨o',ho⟩:=R1.has m
  rw[hx] at ho
  cases ho
 have LF:Paired (fun v u=>iB X.K B S1 σ H F1 (upd (upd H1 dx (.own xa)) xa (.ins C dx [])) v u) (.ref xa :: vs) (.m (.ins C []) :: us):=
  .cons ⟨xa,rfl,none_of st1.ext.there hx,R1.sub.fresh hx,⟨[],⟨dx,aW⟩,.nil⟩,nm,none_of R1.ext.there hx⟩ (oF Rj.same hc.1 hc.2 rr)
 have hr':aO S1 (.m (.ins C []) :: us)=some (.b (.ins C []) :: ws):=by
  show(some (U.b (.ins C []))).bind (fun w=>(aO S1 us).map fun ws=>w :: ws)=_
  rw[h2]
  rfl
 have nd:(slotsOf (U.m (.ins C []) :: us)).Nodup:=by
  show(slotsOf us).Nodup
  rw[hc.1]
  exact List.nodup_nil
 refine⟨hlen,F1,_,_,_,Rk.sub,qA Rk LF hr',eU Rk LF hr' nd (by show aT us+1≤1;omega),h3,fun v F2 H2 po rn=>?_⟩
 obtain⟨R2,st2,mu⟩:=kh Rk UJ LF hr' (show wb (.m (.ins C []) :: us) [o] S1=some S1 from qQ hc.1 hc.2 h2) nd po
 refine⟨IA rn,q (.ref xa) F2 H2 R2 st2 ?_⟩
 have out:=po.out
 cases out with
 | cons z zs=>exact⟨xa,rfl,none_of st1.ext.there hx,z.1,z.2,nm,none_of R1.ext.there hx⟩
theorem DZ {fm:FM}{gu:GU}{S S':SS}{u:U}(h:Am C fm gu S=some (u,S')):∃us ws o,gu S=some (us,S')∧(slotsOf us=[]∧aT us=0)∧aO S' us=some ws∧fm (.b (.ins C []) :: ws)=some (.t .bZ,[o])∧u= .m o:=by
 obtain⟨⟨us,S1⟩,h1,h⟩:=ah h
 obtain⟨hc,h⟩:=fB h
 obtain⟨ws,h2,h⟩:=ah h
 obtain⟨r,h3,h⟩:=ah h
 dsimp only at h
 split at h
 ·cases h
  exact⟨us,ws,_,h1,hc,h2,h3,rfl⟩
 ·cases h
theorem IY (M:Mk X.K C fa) (F:aX X.prog X.w X.K X.mg X.base eO k fa fd ps (spT X.K n fm)) (hr:gG (k+1) X.A) (hg:Gl X x) (hm:X.mg x=some (.ref C)) (hb:Binds X.K fd ps []) (ha:JU X (e :: es) gu) (hn:(e :: es).length+1=n:=by rfl)
  (hdb:(x == ("__debug__":Str))=false:=by decide) (he:starEach (e :: es) X.env=(false,eval e X.env) :: starEach es X.env:=by rfl) (hpl:(backTo pos (starEach es X.env)).any (·.1)=false:=by rfl):
  JE X (.Call (.Name x p) (e :: es) [] pos) (Am C fm gu):=⟨fun B=>(HZ M F hr hg hm hb .nil zX (ha.h B) hdb he hpl).imp fun σ H Q ⟨S,F0,u,S',R,hg,q⟩=>by
 obtain⟨us,ws,o,h1,hc,h2,h3,hu⟩:=DZ hg
 subst hu
 refine⟨S,F0,us,S',R,h1,fun vs F1 H1 R1 st1 rr=>fun xa dx hx hdx ne=>?_⟩
 show spT X.K n fm (.ref xa :: (vs++[])) _ _ E0
 rw[List.append_nil]
 exact IX R1 st1 rr (by rw[rr.length,ha.len _ _ _ h1];exact hn) hc h2 h3 hx hdx ne q⟩
end
end L2
end
section
set_option Elab.async false
set_option linter.all false
set_option maxRecDepth 100000
namespace L2
open PySem PySem.Spec PyProof.Rows PySem.Calls
noncomputable def ve:List D→Option U
 | [.int a]=>if a.natAbs < 10 ^ 30 then some (.t (.str (toString a))) else none
 | [.str z]=>some (.t (.str z))
 | _=>none
section
variable {X:Cx}
theorem pU:iu X (.type "str") (rP ve):=by
 intro pins s σ H xs us Q I r ⟨F,ds,w,sb,rs,hw,q⟩
 unfold ve at hw
 split at hw
 ·rename_i a
  exact BQ pins s σ H xs us Q I r ⟨F,_,w,sb,rs,hw,q⟩
 ·rename_i z
  cases hw
  obtain⟨t,rfl⟩:∃t,us=[.str z t]:=by
   cases rs with
   | cons r1 rs=>cases rs;cases r1;cases r with | cons a1 r=>cases r;obtain⟨t,rfl⟩:=a1;exact⟨t,rfl⟩
  exact P.str_of_str ⟨.str _,H,I,⟨_,rfl⟩,q _ F H (jj.refl ..) sb (.str _)⟩
 ·cases hw
end
noncomputable def vf (kvs:List (Str×Int)) (g gd:GD):GD:=fun S=>(g S).bind fun p=>(gd p.2).bind fun q=>match p.1 with
 | .str z=>some ((match dG kvs z with | some i=>.int i | none=>q.1),q.2)
 | _=>none
section
variable {X:Cx}{e f:Expr}{x:Str}{px pos apos cpos:Pos}{ty tx:TE}{g gd:GD}{a:Addr}{kvs:List (Str×Int)}
theorem BR (hg:Gl X x) (hm:X.mg x=some (.ref a)) (hk:KTab X.prog X.w X.K a kvs) (he:PE X e ty) (hf:PE X f tx) (m:M2 X (.Name x px) "get" apos e f cpos) (hd:(x == ("__debug__":Str))=false):
  PE X (.Call (.Attribute (.Name x px) "get" apos) [e,f] [] cpos) (fun σ H Q=>ty σ H fun y H1=>tx σ H1 fun y2 H2=>∃z,y= .str z∧Q (match dG kvs z with | some i=>V.int i | none=>y2) H2):=by
 intro pins s σ H Q I h
 refine wpAny_Call_method m.base m.few m.line PySem.F.plainAttrs_dict PySem.F.slot_dict_get PySem.F.type_dict_get (d9 (oq (v:=.ref a) hg hm rfl hd pins s σ H (fun v H1=>v= .ref a∧H1=H) I ⟨rfl,rfl⟩) fun u s1 ⟨x',H1,I1,rx,ex,eH⟩=>?_)
 subst ex eH
 obtain rfl:u=Value.ref a:=rx
 obtain⟨fm,m1,m2⟩:=hk.map I1
 refine⟨m1.typeIs,fun b hb=>?_,?_⟩
 ·cases hb
  obtain⟨ob,_,_,h1,h2,_⟩:=m1
  exact⟨ob,h1,h2.2.1⟩
 rw[m.trees]
 refine Calls.callWith_builtin rfl (Calls.evalArgs_plain (Calls.spliced_cons (d9 (he pins s1 σ _ _ I1 h) fun iv s2 ⟨y,H2,I2,ry,q2⟩=>
  Calls.spliced_cons (d9 (hf pins s2 σ H2 _ I2 q2) fun fv s3 ⟨y2,H3,I3,Up,z,ey,q3⟩=>Calls.spliced_nil ?_))))
 subst ey
 obtain⟨ZA,k1,k2⟩:=hk.map I3
 refine call_meetsIn PySem.F.slot_dict_get k1.typeIs PySem.F.entry_dict_get (PySem.F.args_dict_get_3 _ _ _) (meets_dict_get_default (k:=.inr z) (bY X.prog X.w) a (sZ (k:=.inr z) ry) hk.1 fv) ⟨ZA,k1,(match dG kvs z with | some i=>V.int i | none=>y2),H3,I3.tok _,?_,q3⟩
 have r:=k2 z
 cases el:dG kvs z with
 | none=>rw[el] at r;rw[show ZA (.inr z)=none from r];exact Up
 | some i=>rw[el] at r;obtain⟨t,r⟩:=r;rw[r];exact⟨t,rfl⟩
theorem BS (hg:Gl X x) (hm:X.mg x=some (.ref a)) (hk:KTab X.prog X.w X.K a kvs) (he:JD X e g) (hf:JD X f gd) (hb:attributeBase (.Name x px) "get" X.env (eval (.Name x px) X.env)=eval (.Name x px) X.env:=by rfl)
  (hfew:((backTo cpos (starEach [e,f] X.env)).all (fun x=>!x.1) && (backToKw cpos (keywordEach [] X.env)).all (fun x=>x.1.isSome) && decide (([e,f]:List Expr).length+([]:List Keyword).length+(if([]:List Keyword).isEmpty then 0 else 1) < 30))=true:=by rfl)
  (hline:(apos.endLine == cpos.line)=true:=by rfl) (htr:backTo cpos (starEach [e,f] X.env)=[(false,eval e X.env),(false,eval f X.env)]:=by rfl) (hd:(x == ("__debug__":Str))=false:=by decide):
  JD X (.Call (.Attribute (.Name x px) "get" apos) [e,f] [] cpos) (vf kvs g gd):=
 ⟨fun B=>(BR hg hm hk (he.h B) (hf.h B) ⟨hb,hfew,hline,htr⟩ hd).imp fun σ H Q ⟨S,F,d,S',R,hg',q⟩=>by
  obtain⟨⟨d1,S1⟩,h1,hg'⟩:=ah hg'
  obtain⟨⟨d2,S2⟩,h2,Uq⟩:=ah hg'
  clear hg'
  cases d1 <;> try (cases Uq)
  rename_i z
  exact⟨S,F,.str z,_,R,h1,fun v F1 H1 R1 st1 r1=>by cases r1;exact⟨_,F1,d2,_,R1,h2,fun v2 F2 H2 R2 st2 r2=>⟨z,rfl,q _ F2 H2 R2 (st1.trans st2) (by cases dG kvs z with | none=>exact r2 | some i=>exact .int i)⟩⟩⟩⟩
end
end L2
end
section
set_option Elab.async false
set_option linter.all false
set_option maxRecDepth 100000
namespace L2
open PySem PySem.Spec PyProof.Rows
section
variable (S:SS) (d e:D) (o:MO) (i j:Nat) (g ga gb gc:GD) (ge:GE) (q q1 q2:GT) (gA:GA) (gu:GU) (a b:GS) (f f':List D→Option U) (fm:FM) (bd:GB) (gi:GI)
@[simp] theorem UK:aC i S=match S[i]? with | some (some (.t d))=>some (.t d,S) | some (some (.s d))=>some (.s d,S) | some (some (.f d))=>some (.f d,S) | some (some _)=>some (.v i,S) | _=>none:=rfl
@[simp] theorem abj:eC d S=some (d,S):=rfl
@[simp] theorem UL:aA S=some ([],S):=rfl
@[simp] theorem Rl:aa g gA S=(g S).bind fun p=>(gA p.2).map fun q=>(p.1 :: q.1,q.2):=rfl
@[simp] theorem abk:eP f gA S=(gA S).bind fun p=>(f p.1).map fun u=>(u,p.2):=rfl
@[simp] theorem abl:eF ge S=(ge S).bind fun p=>fz p.1 p.2:=rfl
@[simp] theorem abm:eT g S=(g S).map fun p=>(.t p.1,p.2):=rfl
@[simp] theorem UM:fz (.t d) S=some (d,S):=rfl
@[simp] theorem UN (ds:List D):fz (.m (.lst ds)) S=some (.lst ds,S):=rfl
@[simp] theorem UO:fz (.v i) S=match S[i]? with | some (some (.t d))=>some (d,S) | some (some (.m (.lst ds)))=>some (.lst ds,S.set i (some (.t (.lst ds)))) | _=>none:=rfl
@[simp] theorem abn:qB g S=(g S).bind fun p=>match p.1 with | .bl k=>some (k,p.2) | _=>none:=rfl
@[simp] theorem UP:FD q S=(q S).map fun p=>(!p.1,p.2):=rfl
@[simp] theorem UQ:qx q1 q2 S=(q1 S).bind fun p=>if p.1 then q2 p.2 else some (false,p.2):=rfl
@[simp] theorem ZC:FE q1 q2 S=(q1 S).bind fun p=>if p.1 then some (true,p.2) else q2 p.2:=rfl
@[simp] theorem abo:eQ q S=(q S).map fun p=>(.bl p.1,p.2):=rfl
@[simp] theorem Rm:iU S=some (true,S):=rfl
@[simp] theorem ZD:eCh f f' ga gb gc S=(ga S).bind fun p=>(gb p.2).bind fun q=>match f [p.1,q.1] with
 | some (.t (.bl k))=>if k then(gc q.2).bind fun r=>match f' [q.1,r.1] with
   | some (.t (.bl k'))=>some (.bl k',r.2)
   | _=>none
  else some (.bl false,q.2)
 | _=>none:=rfl
@[simp] theorem ZE (g1 g2:GE):Ua q g1 g2 S=(q S).bind fun p=>if p.1 then g1 p.2 else g2 p.2:=rfl
@[simp] theorem UR:ji S=some (.nx S):=rfl
@[simp] theorem za:bD a b S=(a S).bind fun o=>match o with | .nx S1=>b S1 | o=>some o:=rfl
@[simp] theorem US:dR i ge S=(ge S).bind fun p=>match p.1 with | .m o=>(o7 i (.m o) p.2).map .nx | u=>(fz u p.2).bind fun q=>(o7 i (.t q.1) q.2).map .nx:=rfl
@[simp] theorem vg (u:U):o7 i u S=match S[i]? with | some (some (.b _))=>none | some _=>some (S.set i (some u)) | none=>none:=rfl
@[simp] theorem Rn:mO ge S=(ge S).map fun p=>.nx p.2:=rfl
@[simp] theorem UT:eZ ge S=(ge S).bind fun p=>match p.1 with
 | .v i=>match p.2[i]? with
  | some (some (.t d))=>some (.rt (.t d) p.2)
  | some (some (.m o))=>some (.rt (.m o) (p.2.set i none))
  | _=>none
 | .s _=>none
 | .f _=>none
 | u=>some (.rt u p.2):=rfl
@[simp] theorem Ro:OJ S=some (.rt (.t .bZ) S):=rfl
@[simp] theorem ZF:rK q a b S=(q S).bind fun p=>if p.1 then a p.2 else b p.2:=rfl
@[simp] theorem UU:Ue bd g S=(g S).bind fun p=>(bd p.1 p.2).map .nx:=rfl
@[simp] theorem Rp:bName i d S=o7 i (.t d) S:=rfl
@[simp] theorem zb:DM bd gi a S=(gi S).bind fun p=>loop bd a p.1 p.2:=rfl
@[simp] theorem UW:Ug g S=(g S).bind fun p=>match p.1 with | .tup ds=>some (ds,p.2) | .lst ds=>some (ds,p.2) | _=>none:=rfl
@[simp] theorem zc:uO gA S=(gA S).bind fun p=>match p.1 with | [.int j]=>if j < 1000000∧-1000000 < j then some (xm 0 j.toNat,p.2) else none | _=>none:=rfl
@[simp] theorem Rq:OM gA S=(gA S).bind fun p=>match p.1 with | [.int i,.int j]=>if i < 1000000∧-1000000 < i∧j < 1000000∧-1000000 < j then some (xm i (j - i).toNat,p.2) else none | _=>none:=rfl
@[simp] theorem LG:loop bd a [] S=some (.nx S):=rfl
@[simp] theorem UX:br S=some ([],S):=rfl
@[simp] theorem UY:bh g gu S=(g S).bind fun p=>(gu p.2).map fun q=>(.t p.1 :: q.1,q.2):=rfl
@[simp] theorem UZ:iG ge gu S=(ge S).bind fun p=>(gu p.2).map fun q=>(p.1 :: q.1,q.2):=rfl
@[simp] theorem Rr:bW fm gu S=(gu S).bind fun p=>if(slotsOf p.1).Nodup∧aT p.1≤1 then(aO p.2 p.1).bind fun us=>(fm us).bind fun r=>(wb p.1 r.2 p.2).map fun S2=>(r.1,S2) else none:=rfl
@[simp] theorem Nj:aO S []=some []:=rfl
@[simp] theorem LH (u:U) (us:List U):aO S (u :: us)=(resolve S u).bind fun w=>(aO S us).map fun ws=>w :: ws:=rfl
@[simp] theorem Rt:resolve S (.t d)=some (.t d):=rfl
@[simp] theorem Ru:resolve S (.m o)=some (.b o):=rfl
@[simp] theorem Rv (ns:List Int):resolve S (.s ns)=some (.s ns):=rfl
@[simp] theorem Rw:resolve S (.v i)=match S[i]? with | some (some (.m o))=>some (.b o) | some (some (.b o))=>some (.b o) | _=>none:=rfl
@[simp] theorem Pg:slotsOf []=[]:=rfl
@[simp] theorem U0 (us:List U):slotsOf (.t d :: us)=slotsOf us:=rfl
@[simp] theorem U1 (us:List U):slotsOf (.m o :: us)=slotsOf us:=rfl
@[simp] theorem U3 (ns:List Int) (us:List U):slotsOf (.s ns :: us)=slotsOf us:=rfl
@[simp] theorem U4 (us:List U):slotsOf (.v i :: us)=i :: slotsOf us:=rfl
@[simp] theorem Ph:aT []=0:=rfl
@[simp] theorem U5 (us:List U):aT (.t d :: us)=aT us:=rfl
@[simp] theorem U6 (us:List U):aT (.m o :: us)=aT us+1:=rfl
@[simp] theorem U7 (ns:List Int) (us:List U):aT (.s ns :: us)=aT us:=rfl
@[simp] theorem U8 (us:List U):aT (.v i :: us)=aT us:=rfl
@[simp] theorem Pj:wb [] [] S=some S:=rfl
@[simp] theorem U9 (us:List U) (os:List MO):wb (.t d :: us) os S=wb us os S:=by cases os <;> rfl
@[simp] theorem Va (ns:List Int) (us:List U) (os:List MO):wb (.s ns :: us) os S=wb us os S:=by cases os <;> rfl
@[simp] theorem Vb (us:List U) (os:List MO):wb (.m o :: us) (o' :: os) S=wb us os S:=rfl
@[simp] theorem Vc (us:List U) (os:List MO):wb (.v i :: us) (o :: os) S=match S[i]? with | some (some (.m _))=>wb us os (S.set i (some (.m o))) | some (some (.b _))=>wb us os (S.set i (some (.b o))) | _=>none:=rfl
@[simp] theorem Vd:gZ i gb S=match S[i]? with | some (some _)=>(gb S).bind fun p=>(match p.2[i]? with | some (some u)=>(qG u p.1).map fun d=>(d,p.2) | _=>none) | _=>none:=rfl
@[simp] theorem Ve:rZ i S=match S[i]? with | some (some u)=>(yU u).map fun n=>(.int (n:Nat),S) | _=>none:=rfl
@[simp] theorem abp (h:List D→MO→Option (D×MO)):eM i h gA S=if Lq S i then(gA S).bind fun p=>qz p.2 i (h p.1) else none:=rfl
@[simp] theorem Vf (gk gv:GD):FZ i gk gv S=(gv S).bind fun p=>match p.2[i]? with | some (some _)=>(gk p.2).bind fun r=>(qz r.2 i fun o=>(uT o r.1 p.1).map fun o'=>(.bZ,o')).map fun z=>.nx z.2 | _=>none:=rfl
@[simp] theorem ZG (Ts:List String):Q9 Ts g S=(g S).bind fun p=>(mQ Ts p.1).map fun b=>(.bl b,p.2):=rfl
@[simp] theorem LI (ds:List D) (k:Int):qG (.t (.tup ds)) (.int k)=iS ds k:=rfl
@[simp] theorem LJ (ds:List D) (k:Int):qG (.t (.lst ds)) (.int k)=iS ds k:=rfl
@[simp] theorem LK (ds:List D) (k:Int):qG (.m (.lst ds)) (.int k)=iS ds k:=rfl
@[simp] theorem LL (ds:List D) (k:Int):qG (.b (.lst ds)) (.int k)=iS ds k:=rfl
@[simp] theorem LM (kvs:List (Key×D)) (k:D):qG (.b (.dct kvs)) k=(keyOf k).bind (cK kvs):=by cases k <;> rfl
@[simp] theorem Nk (ns:List Int) (k:Int):qG (.s ns) (.int k)=(iS ns k).map D.int:=rfl
@[simp] theorem Rx (k:Int):keyOf (.int k)=some (.inl k):=rfl
@[simp] theorem Ry (k:Str):keyOf (.str k)=some (.inr k):=rfl
@[simp] theorem Nl (ds:List D):yU (.t (.tup ds))=some ds.length:=rfl
@[simp] theorem Nm (ds:List D):yU (.t (.lst ds))=some ds.length:=rfl
@[simp] theorem Nn (ds:List D):yU (.m (.lst ds))=some ds.length:=rfl
@[simp] theorem Np (ds:List D):yU (.b (.lst ds))=some ds.length:=rfl
@[simp] theorem Pk (ns:List Int):yU (.s ns)=some ns.length:=rfl
@[simp] theorem ZI (C:Int→Int→Bool) (h:Int→Int→D) (x y:Int):FF C h [.int x,.int y]=if C x y then some (.t (h x y)) else none:=rfl
@[simp] theorem Pn (x y:Int):iF [.int x,.int y]=some (.t (.int (x+y))):=rfl
@[simp] theorem Po (x y:Str):iF [.str x,.str y]=if x.length+y.length≤100000 then some (.t (.str (x++y))) else none:=rfl
@[simp] theorem Pp (x y:List D):iF [.tup x,.tup y]=if x.length+y.length≤100000 then some (.t (.tup (x++y))) else none:=rfl
@[simp] theorem An (x y:List D):iF [.lst x,.lst y]=if x.length+y.length≤100000 then some (.m (.lst (x++y))) else none:=rfl
@[simp] theorem Vg (x y:Int):BG [.int x,.int y]=if((decide (-(2 ^ 64) < x) && decide (x < 2 ^ 64)) || (decide (-(2 ^ 64) < y) && decide (y < 2 ^ 64))) then some (.t (.int (x * y))) else none:=rfl
@[simp] theorem Vh (x:Int):Ub [.int x]=some (.t (.int (-x))):=rfl
@[simp] theorem Vi (ds:List D):eu ds=if ds.length≤100000 then some (.t (.tup ds)) else none:=rfl
@[simp] theorem Vj (ds:List D):iT ds=if ds.length≤100000 then some (.m (.lst ds)) else none:=rfl
@[simp] theorem Rz (ds:List D) (k:Int):DI [.tup ds,.int k]=(iS ds k).map .t:=rfl
@[simp] theorem RA (ds:List D) (k:Int):DI [.lst ds,.int k]=(iS ds k).map .t:=rfl
@[simp] theorem ZJ:BH [d,e]=if cJ d≤40 then some (.t (.bl (lT d e))) else none:=rfl
@[simp] theorem Pq:Lu [d,e]=if cJ d≤40 then some (.t (.bl (!lT d e))) else none:=rfl
@[simp] theorem RB (x y z:Int):OU [.int x,.int y,.int z]=some (.t (.int (if y < x then(if z < y then z else y) else if z < x then z else x))):=rfl
@[simp] theorem RC (x y:Int):CS [.int x,.int y]=some (.t (.int (if y > x then y else x))):=rfl
@[simp] theorem Pr (ds:List D):uc [.tup ds]=some (.t (.int ds.length)):=rfl
@[simp] theorem Pu (ds:List D):uc [.lst ds]=some (.t (.int ds.length)):=rfl
@[simp] theorem Nq (ds:List D):J6 [.tup ds]=some (.m (.lst ds)):=rfl
@[simp] theorem Nr (ds:List D):J6 [.lst ds]=some (.m (.lst ds)):=rfl
@[simp] theorem LN (ds:List D):FY [.tup ds]=some (.t (.tup ds)):=rfl
@[simp] theorem LO (ds:List D):FY [.lst ds]=some (.t (.tup ds)):=rfl
@[simp] theorem Vk (ds:List D):IL [.lst ds]=(kr ds).map fun bs=>.t (.bl (bs.all id)):=rfl
@[simp] theorem Vl (ds:List D):Ur [.lst ds]=(kr ds).map fun bs=>.t (.bl (bs.any id)):=rfl
@[simp] theorem IZ:xO [d]=if DT d then some (.t (.str (toPy d).shown)) else none:=rfl
@[simp] theorem RD (x y:Str):lT (.str x) (.str y)=(x == y):=by simp[lT]
@[simp] theorem RE (x y:Int):lT (.int x) (.int y)=(x == y):=by simp[lT]
@[simp] theorem RG (x:Str):cJ (.str x)=0:=by simp[cJ]
@[simp] theorem RH (x:Int):cJ (.int x)=0:=by simp[cJ]
@[simp] theorem Vm (h:MO→Option (D×MO)):qz S i h=match S[i]? with | some (some (.m o))=>(h o).map fun r=>(r.1,S.set i (some (.m r.2))) | some (some (.b o))=>(h o).map fun r=>(r.1,S.set i (some (.b r.2))) | _=>none:=rfl
@[simp] theorem ZK:Lq S i=match S[i]? with | some (some (.m (.lst _)))=>true | some (some (.b (.lst _)))=>true | _=>false:=rfl
@[simp] theorem Nt (kvs:List (Key×D)) (k:D):uT (.dct kvs) k d=(keyOf k).bind fun kk=>if kvs.length < 100000 then some (.dct (putD kvs kk d)) else none:=rfl
@[simp] theorem Nu (ds:List D) (k:Int):uT (.lst ds) (.int k) d=(Dy ds.length k).map fun j=>.lst (ds.set j d):=rfl
@[simp] theorem Pw (ds:List D):hAppend [d] (.lst ds)=if ds.length < 100000 then some (.bZ,.lst (ds++[d])) else none:=rfl
@[simp] theorem Nv:aD [] S=some []:=by cases S <;> rfl
@[simp] theorem RI (us:List U) (o2:MO):aD (.b o2 :: us) (some (.b o) :: S)=(aD us S).map fun os=>o :: os:=rfl
@[simp] theorem CY (us:List U) (x:Option U):aD (.t d :: us) (x :: S)=aD us S:=by cases x <;> rfl
@[simp] theorem RJ (ns:List Int) (us:List U) (x:Option U):aD (.s ns :: us) (x :: S)=aD us S:=by cases x <;> rfl
end
structure iR where
 c:Int
 l:Int
 n:Int
noncomputable def d8 (t:iR):List (Key×D):=[(.inr "cell",.int t.c),(.inr "left",.int t.l),(.inr "turn",.int t.n)]
noncomputable def se:List (Key×D)→Option iR
 | [(k1,.int c),(k2,.int l),(k3,.int n)]=>if k1= .inr "cell"∧k2= .inr "left"∧k3= .inr "turn" then some ⟨c,l,n⟩ else none
 | _=>none
@[simp] theorem LP (t:iR):se (d8 t)=some t:=by simp[se,d8]
theorem Ao {kvs:List (Key×D)}{t:iR}(h:se kvs=some t):kvs=d8 t:=by
 unfold se at h
 split at h
 ·obtain⟨⟨rfl,rfl,rfl⟩,rfl⟩:=bL h
  rfl
 ·cases h
@[simp] theorem Vn (t:iR):cK (d8 t) (.inr "cell")=some (.int t.c):=by rfl
@[simp] theorem Vo (t:iR):cK (d8 t) (.inr "left")=some (.int t.l):=by rfl
@[simp] theorem Vp (t:iR):cK (d8 t) (.inr "turn")=some (.int t.n):=by rfl
@[simp] theorem RK (t:iR) (x:Int):putD (d8 t) (.inr "turn") (.int x)=d8 {t with n:=x}:=by rfl
@[simp] theorem RL (t:iR) (x:Int):putD (d8 t) (.inr "left") (.int x)=d8 {t with l:=x}:=by rfl
@[simp] theorem Px (t:iR):(d8 t).length=3:=rfl
noncomputable def mixed (c n:Int):Int:=(((c % 2147483647+31 * (n+1) * (n+1)+1) * 48271) % 2147483629+7 * (n+1)) * 69621 % 2147483587 / 7
noncomputable def cU (t:iR) (m:Int):Int:=if 0 < t.l then t.l % m else mixed t.c t.n % m
noncomputable def bq (t:iR) (m:Int):iR:=if 0 < t.l then⟨t.c,t.l / m,t.n+1⟩ else⟨t.c,t.l,t.n+1⟩
noncomputable def jF:FM
 | [.b (.dct kvs),.t (.int m)]=>(se kvs).bind fun t=>if 0 < m∧m < 1000000∧0≤t.n∧t.n < 1000000 then some (.t (.int (cU t m)),[.dct (d8 (bq t m))]) else none
 | _=>none
noncomputable def jG:GS:=
 (bD (dR 2 (eP iF (aa (gZ 0 (eC (.str "turn"))) (aa (eC (.int 1)) aA))))
 (bD (FZ 0 (eC (.str "turn")) (eF (aC 2)))
 (bD (rK (qB (eF (eP Nb (aa (gZ 0 (eC (.str "left"))) (aa (eC (.int 0)) aA))))) (bD (dR 3 (eP wB (aa (gZ 0 (eC (.str "left"))) (aa (eF (aC 1)) aA))))
 (bD (FZ 0 (eC (.str "left")) (eF (eP IC (aa (gZ 0 (eC (.str "left"))) (aa (eF (aC 1)) aA)))))
 (eZ (aC 3)))) ji)
 (bD (dR 4 (eP BG (aa (eF (eP iF (aa (eF (eP iF (aa (eF (eP wB (aa (gZ 0 (eC (.str "cell"))) (aa (eC (.int 2147483647)) aA)))) (aa (eF (eP BG (aa (eF (eP BG (aa (eC (.int 31)) (aa (eF (aC 2)) aA)))) (aa (eF (aC 2)) aA)))) aA)))) (aa (eC (.int 1)) aA)))) (aa (eC (.int 48271)) aA))))
 (bD (dR 4 (eP BG (aa (eF (eP iF (aa (eF (eP wB (aa (eF (aC 4)) (aa (eC (.int 2147483629)) aA)))) (aa (eF (eP BG (aa (eC (.int 7)) (aa (eF (aC 2)) aA)))) aA)))) (aa (eC (.int 69621)) aA))))
 (eZ (eP wB (aa (eF (eP IC (aa (eF (eP wB (aa (eF (aC 4)) (aa (eC (.int 2147483587)) aA)))) (aa (eC (.int 7)) aA)))) (aa (eF (aC 1)) aA)))))))))
theorem pick_run:∀us r,jF us=some r→aE 5 jG us=some r:=by
 intro us r h
 unfold jF at h
 split at h
 ·rename_i kvs m
  obtain⟨t,h1,h⟩:=ah h
  obtain⟨⟨h2,h3,h4,h5⟩,rfl⟩:=bL h
  obtain rfl:=Ao h1
  have e1:-18446744073709551616 < t.n+1:=by omega
  have e2:t.n+1 < 18446744073709551616:=by omega
  have e3:m < 1073741824:=by omega
  by_cases hl:0 < t.l
  ·simp[aE,jG,cU,bq,hl,h2,e3]
  ·simp[aE,jG,cU,bq,hl,h2,e3,mixed,e1,e2]
 ·cases h
end L2
end
section
set_option Elab.async false
set_option linter.all false
set_option maxRecDepth 100000
namespace L2
open PySem PySem.Spec PyProof.Rows
noncomputable def Vq:FM
 | [.t d,.t (.int l),.t (.int m)]=>some (.t (.bl (kg d l m)),[])
 | _=>none
noncomputable def j3:GS:=
 (eZ (eP iT (aa (eC (.str "a")) (aa (eC (.str "ab")) (aa (eC (.str "abc")) (aa (eC (.str "b")) (aa (eC (.str "any")) (aa (eC (.str "name")) (aa (eC (.str "x")) (aa (eC (.str "zzzzzzzz")) aA))))))))))
noncomputable def sf:List Str:=["a","ab","abc","b","any","name","x","zzzzzzzz"]
noncomputable def sr:FM
 | []=>some (.m (.lst (sf.map D.str)),[])
 | _=>none
theorem D0:∀us r,sr us=some r→aE 0 j3 us=some r:=by
 intro us r h
 unfold sr at h
 split at h
 ·cases h
  simp[aE,j3,sf]
 ·cases h
noncomputable def jH:GS:=
 (bD (dR 2 (aC 1))
 (bD (rK (qB (eF (eP Nb (aa (rZ 0) (aa (eC (.int 0)) aA))))) (dR 2 (eP iF (aa (gZ 0 (eF (eP wB (aa (eF (aC 1)) (aa (rZ 0) aA))))) (aa (eF (eP IC (aa (eF (aC 1)) (aa (rZ 0) aA)))) aA)))) ji)
 (eZ (qH [("cell",(eF (aC 2))),("left",(eF (eP CS (aa (eC (.int 0)) (aa (eF (eP oZ (aa (eF (aC 2)) (aa (eF (eP OI (aa (eC (.int 10)) (aa (eC (.int 18)) aA)))) aA)))) aA))))),("turn",(eC (.int 0)))]))))
noncomputable def Aq (ns:List Int) (k:Int):Int:=if 0 < ns.length then(iS ns (k % ns.length)).getD 0+k / ns.length else k
noncomputable def Ar (ns:List Int) (k:Int):iR:=⟨Aq ns k,if Aq ns k - 10 ^ 18 > 0 then Aq ns k - 10 ^ 18 else 0,0⟩
noncomputable def vh:FM
 | [.s ns,.t (.int k)]=>if 0≤k∧k < 1000000∧ns.length < 1000000 then some (.m (.dct (d8 (Ar ns k))),[]) else none
 | _=>none
theorem Gq {α:Type}{l:List α}{i:Int}(h0:0≤i) (h1:i < l.length):∃x,iS l i=some x:=by
 unfold iS Dy
 rw[if_pos h0,if_pos h1]
 have:i.toNat < l.length:=by omega
 exact⟨l[i.toNat],List.getElem?_eq_getElem this⟩
@[simp] theorem Py (k1 k2 k3:Str) (g1 g2 g3:GD) (S:SS):qH [(k1,g1),(k2,g2),(k3,g3)] S=(g1 S).bind fun a=>(g2 a.2).bind fun b=>(g3 b.2).map fun c=>(.m (.dct (dh [] [(.inr k1,a.1),(.inr k2,b.1),(.inr k3,c.1)])),c.2):=by
 simp only[qH,lX]
 cases g1 S with
 | none=>rfl
 | some a=>
  simp only[Option.bind_some]
  cases g2 a.2 with
  | none=>rfl
  | some b=>
   simp only[Option.bind_some]
   cases g3 b.2 with
   | none=>rfl
   | some c=>rfl
theorem vj (c l n:Int):dh [] [(.inr "cell",.int c),(.inr "left",.int l),(.inr "turn",.int n)]=d8 ⟨c,l,n⟩:=rfl
theorem Gr:∀us r,vh us=some r→aE 3 jH us=some r:=by
 intro us r h
 unfold vh at h
 split at h
 ·rename_i ns k
  obtain⟨⟨h1,h2,h3⟩,rfl⟩:=bL h
  by_cases hl:0 < ns.length
  ·have e0:(0:Int) < ns.length:=by omega
   obtain⟨x,hx⟩:=Gq (l:=ns) (i:=k % ns.length) (Int.emod_nonneg _ (by omega)) (Int.emod_lt_of_pos _ e0)
   have e1:(ns.length:Int) < 1073741824:=by omega
   simp[aE,jH,e0,e1,hx,vj,Ar,Aq,hl]
  ·have e0:¬(0:Int) < ns.length:=by omega
   simp[aE,jH,e0,vj,Ar,Aq,hl]
 ·cases h
end L2
end
section
set_option Elab.async false
set_option linter.all false
set_option maxRecDepth 100000
namespace Sw
open PySem PySem.Spec PyProof.Rows L2
theorem cE {t:iR}{m:Int}(h:0 < m):0≤cU t m∧cU t m < m:=by
 unfold cU
 split
 ·exact⟨Int.emod_nonneg _ (by omega),Int.emod_lt_of_pos _ h⟩
 ·exact⟨Int.emod_nonneg _ (by omega),Int.emod_lt_of_pos _ h⟩
@[simp] theorem gC (t:iR) (m:Int):(bq t m).n=t.n+1:=by unfold bq;split <;> rfl
theorem Gs {t:iR}{m:Int}(h1:0 < m) (h2:m < 1000000) (h3:0≤t.n) (h4:t.n < 1000000):jF [.b (.dct (d8 t)),.t (.int m)]=some (.t (.int (cU t m)),[.dct (d8 (bq t m))]):=by
 simp[jF,h1,h2,h3,h4]
end Sw
end
section
set_option Elab.async false
set_option linter.all false
set_option maxRecDepth 100000
namespace Sw
open PySem PySem.Spec PyProof.Rows L2
end Sw
end
section
set_option Elab.async false
set_option linter.all false
set_option maxRecDepth 100000
namespace Sw
open PySem PySem.Spec PyProof.Rows L2
noncomputable def Vr:List D:=[.bZ,.bl true,.bl false,.int 0,.int (-1),.int 6,.int 10000000000000000000,.str "",.str "A",.str "a.b",.str "a1",.str "ninesigns",.tup [],.lst [],.tup [.str "a"],.lst [.str "a",.int 0],.tup [.str "a",.int 0]]
noncomputable def I0 (t:iR):D:=Vr.getD (cU t 17).toNat .bZ
noncomputable def zd (t:iR) (d:D):D×iR:=
 match d with
 | .tup ds=>if cU t 8 < 5 then
   (([.tup (cutD ds none (some (cU (bq t 8) (ds.length+1)))),.tup (ds++cutD ds (some (cU (bq t 8) (ds.length+1))) none),.tup (cutD ds none (some (cU (bq t 8) (ds.length+1)))++cutD ds (some (cU (bq t 8) (ds.length+1)+1)) none),.lst ds,.tup (ds++[.tup ds])]:List D).getD (cU t 8).toNat .bZ,bq (bq t 8) (ds.length+1))
  else(I0 (bq t 8),bq (bq t 8) 17)
 | .int i=>if kg (.int i) 0 100000000000000000000=true∧cU t 8 < 5 then(([.int (i+1),.int (i - 1),.int 5,.int 9,.int 10]:List D).getD (cU t 8).toNat .bZ,bq t 8) else(I0 (bq t 8),bq (bq t 8) 17)
 | .str z=>if cU t 8 < 6 then(([.str (z++("a":Str)),.str (Txt.slice z (some 1) none),.str (z++("A":Str)),.str "x",.str "now",.str "less"]:List D).getD (cU t 8).toNat .bZ,bq t 8) else(I0 (bq t 8),bq (bq t 8) 17)
 | _=>(I0 (bq t 8),bq (bq t 8) 17)
noncomputable def CZ:Nat→iR→D→D×iR
  | k + 1, t, .tup ds => if ds.length = 0 then zd t (.tup ds) else if 0 < cU t 4 then
      (.tup (cutD ds none (some (cU (bq t 4) ds.length))++[(CZ k (bq (bq t 4) ds.length) (ds.getD (cU (bq t 4) ds.length).toNat .bZ)).1]++cutD ds (some (cU (bq t 4) ds.length+1)) none),(CZ k (bq (bq t 4) ds.length) (ds.getD (cU (bq t 4) ds.length).toNat .bZ)).2)
    else zd (bq t 4) (.tup ds)
  | _,t,d=>zd t d
open Classical in
noncomputable def Vs (j:Nat):FM
 | [.b (.dct kvs),.t d,.t (.int k)]=>(se kvs).bind fun t=>if 0≤k∧k < j∧wz 5000 d∧0≤t.n∧t.n+2 * k < 600000 then some (.t (CZ k.toNat t d).1,[.dct (d8 (CZ k.toNat t d).2)]) else none
 | _=>none
@[simp] theorem Pz (g:GD) (lo hi:Option GD) (S:SS):OX g lo hi S=(g S).bind fun p=>(ku lo p.2).bind fun l=>(ku hi l.2).bind fun h=>(IP p.1 l.1 h.1).map fun u=>(u,h.2):=rfl
@[simp] theorem Vt (S:SS):ku none S=some (none,S):=rfl
@[simp] theorem Vu (g:GD) (S:SS):ku (some g) S=(g S).bind fun p=>match p.1 with | .int i=>some (some i,p.2) | _=>none:=rfl
@[simp] theorem Ja (ds:List D) (lo hi:Option Int):IP (.tup ds) lo hi=some (.t (.tup (cutD ds lo hi))):=rfl
@[simp] theorem Jb (ds:List D) (lo hi:Option Int):IP (.lst ds) lo hi=some (.m (.lst (cutD ds lo hi))):=rfl
@[simp] theorem RM (z:Str) (lo hi:Option Int):IP (.str z) lo hi=if z.length≤100000 then some (.t (.str (Txt.slice z lo hi))) else none:=rfl
theorem Fits.mem {n:Nat}:∀{ds:List D}{d:D},Fits n ds→d∈ds→wz n d
 | _ :: _,_,h,m=>by
  rcases List.mem_cons.mp m with rfl | m
  ·exact h.1
  ·exact Fits.mem h.2 m
end Sw
end
section
set_option Elab.async false
set_option linter.all false
set_option maxRecDepth 100000
namespace Sw
open PySem PySem.Spec PyProof.Rows L2
theorem Gu:∀(ts:List D) (S:SS),S.length=ts.length→aD (ts.map U.t) S=some []
 | [],S,_=>by cases S <;> rfl
 | d :: ts,[],h=>by cases h
 | d :: ts,x :: S,h=>by
  show aD (U.t d :: ts.map U.t) (x :: S)=_
  rw[CY]
  exact Gu ts S (by simpa using h)
theorem C0 (S:SS):∀ts:List D,aO S (ts.map U.t)=some (ts.map U.t)
 | []=>rfl
 | d :: ts=>by
  show(some (U.t d)).bind _=_
  rw[C0 S ts]
  rfl
theorem Jc:∀ts:List D,slotsOf (ts.map U.t)=[]
 | []=>rfl
 | d :: ts=>Jc ts
theorem Jd:∀ts:List D,aT (ts.map U.t)=0
 | []=>rfl
 | d :: ts=>Jd ts
theorem Gv (S:SS):∀ts:List D,wb (ts.map U.t) [] S=some S
 | []=>rfl
 | d :: ts=>Gv S ts
theorem ze {cap:List Nat}{q:GT}{g:GD}{S:SS}{ts:List D}(hc:d7 S cap=some (ts.map U.t)) (p:D→Bool) (f:D→D):∀(ds acc:List D),
    (∀d∈ds,q (some (.t d) :: ts.map fun x=>some (.t x))=some (p d,some (.t d) :: ts.map fun x=>some (.t x)))→(∀d∈ds,p d=true→g (some (.t d) :: ts.map fun x=>some (.t x))=some (f d,some (.t d) :: ts.map fun x=>some (.t x)))→
    iw cap q g ds S acc=some (acc++(ds.filter p).map f,S)
  | [],acc,_,_=>by simp[iw]
  | d :: ds, acc, hq, hg => by
    have em:(ts.map U.t).map some=ts.map fun x=>some (U.t x):=by simp
    have eo:aD (.t d :: ts.map U.t) (some (.t d) :: ts.map fun x=>some (.t x))=some []:=by rw[CY];exact Gu ts _ (by simp)
    have q0:=hq d (List.mem_cons_self)
    unfold iw
    rw[hc]
    simp only[Option.bind_some]
    rw[if_pos ⟨by rw[Jc];exact List.nodup_nil,by rw[Jd];exact Nat.zero_le _⟩,C0]
    simp only[Option.bind_some]
    rw[em,q0]
    simp only[Option.bind_some]
    by_cases hp:p d=true
    · rw[if_pos hp,hg d List.mem_cons_self hp]
      simp only[Option.bind_some]
      rw[eo]
      simp only[Option.bind_some]
      rw[Gv]
      simp only[Option.bind_some]
      rw[ze hc p f ds (acc++[f d]) (fun e he=>hq e (List.mem_cons_of_mem _ he)) (fun e he=>hg e (List.mem_cons_of_mem _ he)),List.filter_cons_of_pos hp]
      simp
    · rw[if_neg hp,eo]
      simp only[Option.bind_some]
      rw[Gv]
      simp only[Option.bind_some]
      rw[ze hc p f ds acc (fun e he=>hq e (List.mem_cons_of_mem _ he)) (fun e he=>hg e (List.mem_cons_of_mem _ he)),List.filter_cons_of_neg hp]
theorem D3 {cap:List Nat}{g:GD}{S:SS}{ts:List D}(hc:d7 S cap=some (ts.map U.t)) (f:D→D) (ds acc:List D) (hg:∀d∈ds,g (some (.t d) :: ts.map fun x=>some (.t x))=some (f d,some (.t d) :: ts.map fun x=>some (.t x))):
  iw cap iU g ds S acc=some (acc++ds.map f,S):=by
 rw[ze hc (fun _=>true) f ds acc (fun _ _=>rfl) (fun d hd _=>hg d hd),List.filter_eq_self.mpr (fun _ _=>rfl)]
@[simp] theorem RN (cap:List Nat) (gi:GI) (q:GT) (g:GD) (S:SS):xH cap gi q g S=(gi S).bind fun p=>if p.1.length≤100000 then(iw cap q g p.1 p.2 []).map fun r=>(.m (.lst r.1),r.2) else none:=rfl
theorem gz (g:GD) (S:SS):z4 g S=(g S).bind fun p=>match p.1 with | .tup ds=>some (ds,p.2) | .lst ds=>some (ds,p.2) | .str z=>some (z.cps.toList.map fun c=>.str ⟨#[c]⟩,p.2) | _=>none:=rfl
theorem xZ {α:Type}(f:α→Bool):∀ds:List α,kr (ds.map fun d=>.bl (f d))=some (ds.map f)
 | []=>rfl
 | d :: ds=>by simp[kr,xZ f ds]
end Sw
end
section
set_option Elab.async false
set_option linter.all false
set_option maxRecDepth 100000
namespace Sw
open PySem PySem.Spec PyProof.Rows L2
theorem su {x:D}{z:Str}(h:lT (.str z) x=true):x= .str z:=by
 cases x <;> simp[lT] at h
 rw[h]
end Sw
end
section
set_option Elab.async false
set_option linter.all false
set_option maxRecDepth 100000
namespace Sw
open PySem PySem.Spec PyProof.Rows L2
mutual
noncomputable def Sane:D→Prop
 | .int i=>i.natAbs < 10 ^ 30
 | .str z=>∀c∈z.cps.toList,c < 16 ^ 8
 | .tup ds=>iK ds
 | .lst ds=>iK ds
 | .bZ=>True
 | .bl _=>True
noncomputable def iK:List D→Prop
 | []=>True
 | d :: ds=>Sane d∧iK ds
end
mutual
noncomputable def wD:D→Nat
 | .bZ=>6
 | .bl _=>6
 | .int _=>40
 | .str z=>10 * z.length+2
 | .tup ds=>LQ ds+4
 | .lst ds=>LQ ds+4
noncomputable def LQ:List D→Nat
 | []=>0
 | d :: ds=>wD d+2+LQ ds
end
theorem D4 (s:String):(Str.ofString s).length=s.length:=PySem.ofString_length s
theorem C1:∀(ts:List Str) (k:Nat) (acc:Str),(textFrom k acc ts).length≤acc.length+piled ts
  | [],k,acc=>Nat.le_refl _
  | t :: ts, k, acc => by
    have ih:=C1 ts (k+1) (acc++(if k > 0 then ", " else "":String)++t)
    have e:(acc++(if k > 0 then ", " else "":String)++t).length≤acc.length+2+t.length:=by
      rw[strLen_append,strLen_append]
      split
      · show acc.length+2+t.length≤_;omega
      · show acc.length+0+t.length≤_;omega
    rw[piled_cons]
    show(textFrom (k+1) _ ts).length≤_
    omega
mutual
theorem shown_le:∀d:D,Sane d→(toPy d).shown.length≤wD d
 | .bZ,_=>by show(Str.ofString "None").length≤6;decide
 | .bl b,_=>by cases b <;> (show(Str.ofString _).length≤6;decide)
 | .int i,h=>by
  show(Str.ofString (toString i)).length≤40
  rw[D4]
  exact Nat.le_trans (int_text_length_le10 (k:=30) (by decide) h) (by decide)
 | .str z,h=>PySem.StrLaws.reprText_len z h
 | .tup ds,h=>by
  have k:=sA ds h
  show(tupleText (PyData.shownAll (iA ds))).length≤LQ ds+4
  unfold tupleText
  rw[strLen_append,strLen_append]
  have e1:("(":Str).length=1:=rfl
  have e2:((if(PyData.shownAll (iA ds)).length == 1 then ",)" else ")":String):Str).length≤2:=by split <;> decide
  by_cases hn:PyData.shownAll (iA ds)=[]
  ·rw[hn] at e2 ⊢
   have e3:(Str.join ", " []).length=0:=rfl
   omega
  ·have:=join_length_add _ hn
   omega
 | .lst ds,h=>by
  have k:=sA ds h
  show(listText (PyData.shownAll (iA ds))).length≤LQ ds+4
  unfold listText
  rw[strLen_append]
  have e1:=C1 (PyData.shownAll (iA ds)) 0 "["
  have e2:("[":Str).length=1:=rfl
  have e3:("]":Str).length=1:=rfl
  omega
theorem sA:∀ds:List D,iK ds→piled (PyData.shownAll (iA ds))≤LQ ds
 | [],_=>Nat.le_refl _
 | d :: ds,h=>by
  show piled ((toPy d).shown :: PyData.shownAll (iA ds))≤wD d+2+LQ ds
  rw[piled_cons]
  have:=shown_le d h.1
  have:=sA ds h.2
  omega
end
mutual
theorem tM:∀d:D,Sane d→(toPy d).showable=true
 | .bZ,_=>rfl
 | .bl b,_=>rfl
 | .int i,h=>by
  show decide (i.natAbs.log2 < 1920)=true
  rw[decide_eq_true_eq]
  by_cases hz:i.natAbs=0
  ·rw[hz];decide
  ·exact(Nat.log2_lt hz).mpr (Nat.lt_trans h (Nat.lt_of_lt_of_le (show(10:Nat) ^ 30 < 2 ^ 100 by decide) (Nat.pow_le_pow_right (by decide) (by decide))))
 | .str z,_=>rfl
 | .tup ds,h=>by show PyData.showableAll (iA ds)=true;exact lZ ds h
 | .lst ds,h=>by show PyData.showableAll (iA ds)=true;exact lZ ds h
theorem lZ:∀ds:List D,iK ds→PyData.showableAll (iA ds)=true
 | [],_=>rfl
 | d :: ds,h=>by
  show((toPy d).showable && PyData.showableAll (iA ds))=true
  rw[tM d h.1,lZ ds h.2]
  rfl
end
mutual
theorem depth_eq:∀d:D,(toPy d).depth=cJ d
 | .bZ=>rfl
 | .bl _=>rfl
 | .int _=>rfl
 | .str _=>rfl
 | .tup ds=>by show PyData.depthAll (iA ds)+1=bM ds+1;rw[sC ds]
 | .lst ds=>by show PyData.depthAll (iA ds)+1=bM ds+1;rw[sC ds]
theorem sC:∀ds:List D,PyData.depthAll (iA ds)=bM ds
 | []=>rfl
 | d :: ds=>by show max (toPy d).depth (PyData.depthAll (iA ds))=max (cJ d) (bM ds);rw[depth_eq d,sC ds]
end
theorem LR {d:D}(h:Sane d) (hw:wD d≤1000000) (hd:cJ d≤20):DT d:=
 ⟨tM d h,by rw[depth_eq];exact hd,Nat.le_trans (shown_le d h) (Nat.le_trans hw (by decide))⟩
theorem iK.append:∀{as bs:List D},iK as→iK bs→iK (as++bs)
 | [],_,_,h=>h
 | _ :: _,_,h,k=>⟨h.1,iK.append h.2 k⟩
theorem iK.mem:∀{ds:List D}{d:D},iK ds→d∈ds→Sane d
 | _ :: _,_,h,m=>by
  rcases List.mem_cons.mp m with rfl | m
  ·exact h.1
  ·exact iK.mem h.2 m
theorem iK.of:∀{ds:List D},(∀d∈ds,Sane d)→iK ds
 | [],_=>True.intro
 | d :: ds,h=>⟨h d List.mem_cons_self,iK.of fun e he=>h e (List.mem_cons_of_mem _ he)⟩
theorem iK.cut {ds:List D}(h:iK ds) (lo hi:Option Int):iK (cutD ds lo hi):=iK.of fun d hd=>h.mem (List.mem_of_mem_drop (List.mem_of_mem_take hd))
structure Good (n k:Nat) (d:D):Prop where
 ud:Sane d
 w:wD d≤n
 dep:cJ d≤k
theorem Good.mono {n k n' k':Nat}{d:D}(h:Good n k d) (a:n≤n') (b:k≤k'):Good n' k' d:=⟨h.ud,Nat.le_trans h.w a,Nat.le_trans h.dep b⟩
theorem Good.DT {n k:Nat}{d:D}(h:Good n k d) (a:n≤1000000) (b:k≤20):L2.DT d:=LR h.ud (Nat.le_trans h.w a) (Nat.le_trans h.dep b)
end Sw
end
section
set_option Elab.async false
set_option linter.all false
set_option maxRecDepth 100000
namespace Sw
open PySem PySem.Spec PyProof.Rows L2
end Sw
end
section
set_option Elab.async false
set_option linter.all false
set_option maxRecDepth 100000
namespace Sw
open PySem PySem.Spec PyProof.Rows L2
end Sw
end
section
set_option Elab.async false
set_option linter.all false
set_option maxRecDepth 100000
namespace Sw
open PySem PySem.Spec PyProof.Rows L2
noncomputable def BU (n:Nat):FM
 | [.s ns]=>if ns.length≤n then some (.t (.bl true),[]) else none
 | _=>none
theorem vm {P:Program}{w:World}{K:PySem.W.Frag}{mg:Str→Option Value}{base:Heap}{f:Addr}{fd:FuncData}{n k:Nat}{ps:List Str}{fm:FM}(h:∀us,fm us=none):aX P w K mg base eO n f fd ps (spT K k fm):=by
 have no:∀vs H Q E,¬spT K k fm vs H Q E:=fun vs H Q E ⟨_,F,us,r,outs,_,_,_,e,_⟩=>by rw[h us] at e;cases e
 exact⟨fun vs H Q E h=>absurd h (no vs H Q E),fun A outer s H args us vs Q E _ _ _ _ h=>absurd h (no vs H Q E)⟩
theorem LS {K:PySem.W.Frag}{H:Hp}{a:Addr}{ns:List Int}{n:Nat}{E:XK}(hl:ns.length≤n) (hO:Io H) (hS:pG K H a (ns.map V.int)):spT K 1 (BU n) [.ref a] H (fun v _=>v= .bl true) E:=by
 have sc:Iz K H a ns:=by
  rcases hS with(h | h) | h
  ·rcases hO a with z | ⟨o,xs,z⟩
   ·rw[h] at z;cases z
   ·rw[h] at z;cases z
  ·exact .inl h
  ·exact .inr h
 exact⟨rfl,fun _=>none,[.s ns],.t (.bl true),[],(fun b o z=>by cases z),.cons ⟨a,rfl,sc⟩ .nil,List.nodup_nil,by simp[BU,hl],fun v F' H' _ r=>pN r⟩
end Sw
end
section
set_option Elab.async false
set_option linter.all false
set_option maxRecDepth 100000
namespace Sw
open PySem PySem.Spec PyProof.Rows L2
noncomputable def PB:Str:="abcdefghijklmnopqrstuvwxyz"
noncomputable def wH (y:Str):Bool:=!(Builtin.Str.occurrences PB y 0 PB.length 1).isEmpty
noncomputable def signs (z:Str):List Str:=z.cps.toList.map fun c=>(⟨#[c]⟩:Str)
theorem D5 (z:Str):(signs z).length=z.length:=by unfold signs;rw[List.length_map];rfl
theorem Gw (z:Str):z4 (eF (aC 0)) [some (.t (.str z))]=some ((signs z).map D.str,[some (.t (.str z))]):=by unfold signs;rw[List.map_map];rfl
noncomputable def nameB:D→Bool
 | .str z=>decide (1≤z.length) && decide (z.length≤8) && (signs z).all wH
 | _=>false
theorem LU (y:Str):z8 [.str y,.str "abcdefghijklmnopqrstuvwxyz"]=some (.t (.bl (wH y))):=rfl
theorem nu {z:Str}(h:z.length≤20000):yU (.t (.str z))=some z.length:=by show(if z.length≤100000 then some z.length else none)=_;rw[if_pos (by omega)]
noncomputable def jo:GS:=
 (bD (rK (FE (FD (qB (Q9 ["str"] (eF (aC 0))))) (FE (qB (eF (eP FG (aa (rZ 0) (aa (eC (.int 1)) aA))))) (qB (eF (eP Nb (aa (rZ 0) (aa (eC (.int 8)) aA))))))) (eZ (eT (eC (.bl false)))) ji)
 (eZ (eP IL (aa (eF (xH [] (z4 (eF (aC 0))) iU (eF (eP z8 (aa (eF (aC 0)) (aa (eC (.str "abcdefghijklmnopqrstuvwxyz")) aA)))))) aA))))
noncomputable def Vv:D→Nat
 | .str z=>z.length
 | _=>0
noncomputable def ya:FM
 | [.t d]=>if Vv d≤20000 then some (.t (.bl (nameB d)),[]) else none
 | _=>none
theorem Gx : ∀ us r, ya us = some r → aE 1 jo us = some r := by
  intro us r h
  unfold ya at h
  split at h
  · rename_i d
    obtain⟨hb,rfl⟩:=bL h
    cases d with
    | str z =>
      have hb:z.length≤20000:=hb
      have nu:=nu hb
      by_cases h1:(z.length:Int) < 1
      · have h2:¬1≤z.length:=by omega
        simp[aE,jo,nameB,mQ,uR,pK,nu,h1,h2]
      · by_cases h3:(8:Int) < z.length
        · have h2:¬z.length≤8:=by omega
          simp[aE,jo,nameB,mQ,uR,pK,nu,h1,h2,h3]
        · have h4:1≤z.length:=by omega
          have h5:z.length≤8:=by omega
          have h6:((signs z).map D.str).length≤100000:=by rw[List.length_map,D5];omega
          have ei:=Gw z
          generalize hx:signs z=xs at h6 ei
          have e:=D3 (cap:=[]) (g:=eF (eP z8 (aa (eF (aC 0)) (aa (eC (.str "abcdefghijklmnopqrstuvwxyz")) aA)))) (S:=[some (.t (.str z))]) (ts:=[]) rfl (fun d=>match d with | .str y=>.bl (wH y) | _=>.bZ) (xs.map D.str) [] (fun d hd=>by
            obtain⟨c,_,rfl⟩:=List.mem_map.mp hd
            simp[LU])
          have e2:([]:List D)++((xs.map D.str).map fun d=>match d with | .str y=>D.bl (wH y) | _=>.bZ)=xs.map fun y=>D.bl (wH y):=by rw[List.map_map];rfl
          have e3:=xZ wH xs
          rw[e2] at e
          generalize xs.map D.str=L at e ei h6
          generalize (xs.map fun y=>D.bl (wH y))=M at e e3
          simp[aE,jo,nameB,mQ,uR,pK,nu,h1,h3,h4,h5,ei,h6,e,e3,hx]
    | _=>simp[aE,jo,nameB,mQ,uR,pK]
  · cases h
end Sw
end
section
set_option Elab.async false
set_option linter.all false
set_option maxRecDepth 100000
namespace L2
open PySem PySem.Spec PyProof.Rows
section
variable (S:SS) (d:D) (i:Nat) (g ga gb gc:GD) (gA:GA)
@[simp] theorem Vw (f:Int→Int→Int):UC f i g S=match S[i]? with
 | some (some (.t (.int n)))=>(g S).bind fun p=>match p.1 with
  | .int m=>(o7 i (.t (.int (f n m))) p.2).map .nx
  | _=>none
 | _=>none:=rfl
@[simp] theorem Vx:UB [d,.bZ]=some (.t (.bl (J9 d))):=rfl
@[simp] theorem RO (k:Bool):UA [.bl k]=some (.t (.int (if k then 1 else 0))):=rfl
@[simp] theorem Vy (ds:List D) (k:Int):Uz [.lst ds,.int k]=if 0≤k∧k.toNat≤100000∧ds.length * k.toNat≤100000 then some (.m (.lst (List.replicate k.toNat ds).flatten)) else none:=rfl
@[simp] theorem Nx (es ds:List D):j0 [.lst es] (.lst ds)=if ds.length+es.length≤100000 then some (.bZ,.lst (ds++es)) else none:=rfl
@[simp] theorem RP:O3 gA S=(gA S).bind fun p=>match p.1 with
 | [d]=>(Ag d).map fun q=>(Ka q.2,p.2)
 | _=>none:=rfl
@[simp] theorem RQ:O4 gA S=(gA S).bind fun p=>match p.1 with
 | [d,e]=>(Ag d).bind fun q=>(Ag e).map fun r=>(List.zipWith (fun a b=>.tup [a,b]) q.2 r.2,p.2)
 | _=>none:=rfl
@[simp] theorem PD (ds:List D):Ag (.lst ds)=some (true,ds):=rfl
@[simp] theorem PF (ds:List D):Ag (.tup ds)=some (false,ds):=rfl
@[simp] theorem RS (x y:Int):OV [.int x,.int y]=some (.t (.int (if y < x then y else x))):=rfl
end
end L2
namespace Sq
open PySem PySem.Spec PyProof.Rows L2 Sw
theorem C2 {bd:GB}{body:GS}:∀(ds:List D) (I:List D→SS→Prop) (S:SS),I ds S→(∀d r S,I (d :: r) S→∃S1 S2,bd d S=some S1∧body S1=some (.nx S2)∧I r S2)→∃S',loop bd body ds S=some (.nx S')∧I [] S'
 | [],I,S,h,_=>⟨S,rfl,h⟩
 | d :: ds,I,S,h,k=>by
  obtain⟨S1,S2,e1,e2,h2⟩:=k d ds S h
  obtain⟨S',e,h'⟩:=C2 ds I S2 h2 k
  refine⟨S',?_,h'⟩
  show((bd d S).bind fun S1=>(body S1).bind _)=_
  rw[e1,Option.bind_some,e2,Option.bind_some]
  exact e
theorem BV {α:Type}{l:List α}{i:Int}{x:α}(h0:0≤i) (h:l[i.toNat]? =some x):iS l i=some x:=by
 have hl:=(List.getElem?_eq_some_iff.mp h).1
 unfold iS Dy
 rw[if_pos h0,if_pos (by omega)]
 exact h
theorem LV {α:Type}{l:List α}{i:Int}(h0:0≤i) (h1:i < l.length):∃x,iS l i=some x∧l[i.toNat]? =some x:=by
 have h:i.toNat < l.length:=by omega
 exact⟨l[i.toNat],BV h0 (List.getElem?_eq_getElem h),List.getElem?_eq_getElem h⟩
theorem yc {gA:GA}{S S':SS}{j:Int}(h:gA S=some ([.int j],S')) (h1:j < 1000000) (h2:-1000000 < j):uO gA S=some (xm 0 j.toNat,S'):=by
 unfold uO
 rw[h]
 simp only[Option.bind_some]
 rw[if_pos ⟨h1,h2⟩]
noncomputable abbrev fd (c i l:Int):MO:=.lst [.int c,.int i,.int l]
end Sq
end
section
set_option Elab.async false
set_option linter.all false
set_option maxRecDepth 100000
namespace L2
open PySem PySem.Spec PyProof.Rows
noncomputable def qR:Option U→Bool
 | some (.b _)=>true
 | _=>false
@[simp] theorem ZL:qR none=false:=rfl
@[simp] theorem ZM (d:D):qR (some (.t d))=false:=rfl
@[simp] theorem ZN (o:MO):qR (some (.m o))=false:=rfl
theorem qT (i:Nat) (u:U) (S:SS):o7 i u S=(S[i]?).bind fun x=>if qR x then none else some (S.set i (some u)):=by
 unfold o7
 cases S[i]? with
 | none=>rfl
 | some x=>cases x with
  | none=>rfl
  | some u=>cases u <;> rfl
@[simp] theorem Vz (n:Nat) (bs:J2) (ds:List D) (S:SS):Ud n bs (.tup ds) S=if ds.length=n then bs ds S else none:=rfl
@[simp] theorem RU (b:GB) (bs:J2) (d:D) (r:List D) (S:SS):OL b bs (d :: r) S=(b d S).bind fun S1=>bs r S1:=rfl
@[simp] theorem VA (S:SS):Uc [] S=some S:=rfl
@[simp] theorem RV (S:SS):O5 S=some (.m (.xB []),S):=rfl
@[simp] theorem RW (S:SS):O6 S=some (.m (.dct []),S):=rfl
@[simp] theorem PJ (z:Str):tw (.str z)=true:=rfl
@[simp] theorem PK (b:Bool):tw (.bl b)=true:=rfl
@[simp] theorem PL (b:Int):tw (.int b)=true:=rfl
@[simp] theorem Pz (g:GD) (lo hi:Option GD) (S:SS):OX g lo hi S=(g S).bind fun p=>(ku lo p.2).bind fun l=>(ku hi l.2).bind fun h=>(IP p.1 l.1 h.1).map fun u=>(u,h.2):=rfl
@[simp] theorem Ny (S:SS):ku none S=some (none,S):=rfl
@[simp] theorem Nz (g:GD) (S:SS):ku (some g) S=(g S).bind fun p=>match p.1 with | .int i=>some (some i,p.2) | _=>none:=rfl
@[simp] theorem Ja (ds:List D) (lo hi:Option Int):IP (.tup ds) lo hi=some (.t (.tup (cutD ds lo hi))):=rfl
@[simp] theorem Jb (ds:List D) (lo hi:Option Int):IP (.lst ds) lo hi=some (.m (.lst (cutD ds lo hi))):=rfl
@[simp] theorem PM (d:D) (ds:List D):Lx [d] (.lst ds)=if bM ds≤40∧ds.length < 100000 then(Lw d ds).map fun j=>(.int (j:Nat),.lst ds) else none:=rfl
@[simp] theorem LW (ds:List D):z5 [] (.lst ds)=some (.bZ,.lst ds.reverse):=rfl
theorem Gy {bd:GB}{body:GS}(ds:List D) (I:Nat→SS→Prop) (S:SS) (h0:I 0 S) (hs:∀j d S,ds[j]? =some d→I j S→∃S1 S2,bd d S=some S1∧body S1=some (.nx S2)∧I (j+1) S2):∃S',loop bd body ds S=some (.nx S')∧I ds.length S':=by
 obtain⟨S',e,j,hr,hj,hI⟩:=Sq.C2 (bd:=bd) (body:=body) ds (fun r S=>∃j,ds.drop j=r∧j≤ds.length∧I j S) S ⟨0,rfl,Nat.zero_le _,h0⟩ (by
  rintro d r S ⟨j,hr,hj,hI⟩
  have hlt:j < ds.length:=by
   have:=congrArg List.length hr
   rw[List.length_drop,List.length_cons] at this
   omega
  rw[List.drop_eq_getElem_cons hlt] at hr
  injection hr with h1 h2
  obtain⟨S1,S2,e1,e2,h3⟩:=hs j d S (by rw[List.getElem?_eq_getElem hlt,h1]) hI
  exact⟨S1,S2,e1,e2,j+1,h2,hlt,h3⟩)
 have:j=ds.length:=by
  have:=congrArg List.length hr
  rw[List.length_drop,List.length_nil] at this
  omega
 subst this
 exact⟨S',e,hI⟩
theorem Je {n j:Nat}{d:D}(h:(xm 0 n)[j]? =some d):j < n∧d= .int j:=by
 unfold xm at h
 rw[List.getElem?_map] at h
 cases e:(List.range n)[j]? with
 | none=>rw[e] at h;cases h
 | some k=>
  rw[e] at h
  obtain⟨h1,h2⟩:=List.getElem?_eq_some_iff.mp e
  rw[List.getElem_range] at h2
  rw[List.length_range] at h1
  subst h2
  refine⟨h1,?_⟩
  have:=Option.some.inj h
  rw[←this]
  show D.int (0+(j:Int))=_
  rw[Int.zero_add]
end L2
end
section
set_option Elab.async false
set_option linter.all false
set_option maxRecDepth 100000
namespace Ss
open PySem PySem.Spec PyProof.Rows L2 Sw
@[simp] theorem BW (kvs:List (Str×Int)) (g:GD) (S:SS):yW kvs g S=(g S).bind fun p=>match p.1 with | .str z=>(dG kvs z).map fun i=>(.int i,p.2) | _=>none:=rfl
@[simp] theorem NB (kvs:List (Str×Int)) (g gd:GD) (S:SS):IS kvs g gd S=(g S).bind fun p=>(gd p.2).bind fun q=>match p.1,q.1 with | .str z,.int j=>some (.int ((dG kvs z).getD j),q.2) | _,_=>none:=rfl
@[simp] theorem VB (n:Bool) (zs:List Str) (g:GD) (S:SS):wG n zs g S=(g S).map fun p=>(.bl (n != inD p.1 (zs.map D.str)),p.2):=rfl
noncomputable def Sm (d:D):Prop:=wz 20000 d∧cJ d≤38
theorem As {n:Nat}:∀{ds:List D}{x:D},Fits n ds→x∈ds→wz n x
 | d :: ds,x,h,hx=>by
  rcases List.mem_cons.mp hx with rfl | q
  ·exact h.1
  ·exact As h.2 q
theorem Sm.mem {ds:List D}(h:Sm (.tup ds)){x:D}(hx:x∈ds):Sm x:=⟨As h.1.2 hx,by have:bM ds+1≤38:=h.2;have:=xJ hx;omega⟩
theorem ez (a:D) (r:List D):iS (a :: r) 0=some a:=by
 unfold iS Dy
 rw[if_pos (by decide),if_pos (by simp only[List.length_cons];omega)]
 rfl
theorem fQ (a b:D) (r:List D):iS (a :: b :: r) 1=some b:=by
 unfold iS Dy
 rw[if_pos (by decide),if_pos (by simp only[List.length_cons];omega)]
 rfl
theorem qU (a b c:D) (r:List D):iS (a :: b :: c :: r) 2=some c:=by
 unfold iS Dy
 rw[if_pos (by decide),if_pos (by simp only[List.length_cons];omega)]
 rfl
noncomputable def ue:List Str:=["less","same","more"]
noncomputable def Jf:List Str:=["each","one"]
noncomputable def yf (bs:List Str):D→Bool
 | .tup [a]=>lT a (.str "any")
 | .tup [a,b]=>if lT a (.str "name") then nameB b else inD a (ue.map D.str) && (kg b 0 9 || inD b (bs.map D.str))
 | _=>false
noncomputable def ZO:List (Str×Int):=[("yes",1),("no",1),("now",2),("not",2),("both",3),("either",3),("next",2),("till",3),("within",3),("always",2),("some",2),("each",4),("one",4)]
noncomputable def VC:List (Str×Int):=[("yes",1),("no",1),("now",2),("not",1),("both",1),("either",1),("next",1),("till",1),("within",2),("always",1),("some",1),("each",3),("one",3)]
noncomputable def iL (z:Str):Int:=(dG ZO z).getD 0
noncomputable def dI (z:Str):Nat:=((dG VC z).getD 0).toNat
noncomputable def bX (z:Str):Bool:=inD (.str z) (Jf.map D.str)
noncomputable def jl:List Str:=["yes","no","now","not","both","either","next","till","within","always","some","each","one"]
theorem qV {kvs:List (Str×Int)}{z:Str}(h:z∉kvs.map (·.1)):dG kvs z=none:=by
 unfold dG
 have:kvs.find? (fun p=>decide (p.1=z))=none:=List.find?_eq_none.mpr fun p hp q=>h (by rw[←of_decide_eq_true q];exact List.mem_map_of_mem hp)
 rw[this]
 rfl
theorem yg {z:Str}(h:z∉jl):iL z=0:=by unfold iL;rw[qV (show z∉ZO.map (·.1) from h)];rfl
theorem Au {z:Str}(h:iL z≠0):z∈jl:=Classical.byContradiction fun q=>h (yg q)
structure BX (z:Str):Prop where
 J4:dG VC z=some ((dI z:Nat):Int)
 s1:1≤dI z
 s4:(dI z:Int)≤iL z
 l4:iL z≤4
 few:iL z - dI z≤2
theorem C3:∀z∈jl,BX z:=by
 intro z hz
 simp only[jl,List.mem_cons,List.not_mem_nil,or_false] at hz
 rcases hz with rfl | rfl | rfl | rfl | rfl | rfl | rfl | rfl | rfl | rfl | rfl | rfl | rfl <;> exact⟨by decide,by decide,by decide,by decide,by decide⟩
noncomputable def kC:GS:=
 (eZ (OX (eF (aC 0)) (some (yW [("yes",1),("no",1),("now",2),("not",1),("both",1),("either",1),("next",1),("till",1),("within",2),("always",1),("some",1),("each",3),("one",3)] (gZ 0 (eC (.int 0))))) none))
noncomputable def fC:GS:=
 (bD (rK (qB (wG false ["each","one"] (gZ 0 (eC (.int 0))))) (eZ (eP iF (aa (eF (aC 1)) (aa (eF (eP eu (aa (gZ 0 (eC (.int 2))) aA))) aA)))) ji)
 (eZ (aC 1)))
noncomputable def pW:FM:=aE 1 kC
theorem D6:∀us r,pW us=some r→aE 1 kC us=some r:=fun _ _ h=>h
theorem Gz (ds:List D) (k:Nat):L2.cutD ds (some (k:Int)) none=ds.drop k:=by
 unfold L2.cutD
 rw[HT.E7,HT.Ih]
 by_cases h:k≤ds.length
 ·rw[Nat.min_eq_left h,List.take_of_length_le (by rw[List.length_drop];omega)]
 ·rw[Nat.min_eq_right (by omega),List.drop_of_length_le (Nat.le_refl _),List.drop_of_length_le (by omega),List.take_nil]
theorem GC {z:Str}{r:List D}(h:BX z):pW [.t (.tup (.str z :: r))]=some (.t (.tup ((.str z :: r).drop (dI z))),[]):=by
 have e:=h.J4
 unfold VC at e
 have c:=Gz (.str z :: r) (dI z)
 simp[pW,aE,kC,ez,e,c,aD]
noncomputable def nv:FM:=aE 2 fC
theorem D7:∀us r,nv us=some r→aE 2 fC us=some r:=fun _ _ h=>h
theorem nA {z:Str}{r:List D}{bd:D}(h:bX z=false):nv [.t (.tup (.str z :: r)),.t bd]=some (.t bd,[]):=by
 unfold bX Jf at h
 simp only[List.map_cons,List.map_nil] at h
 simp[nv,aE,fC,ez,h,aD]
theorem D8 {z:Str}{a b:D}{r:List D}{bs:List D}(h:bX z=true) (hl:bs.length≤1000):nv [.t (.tup (.str z :: a :: b :: r)),.t (.tup bs)]=some (.t (.tup (bs++[b])),[]):=by
 unfold bX Jf at h
 simp only[List.map_cons,List.map_nil] at h
 have e:bs.length+1≤100000:=by omega
 simp[nv,aE,fC,ez,qU,h,aD,e]
noncomputable def fE (bs:List Str) (z:Str) (r:List D):Bool:=
 if iL z=(r.length:Int)+1 then
  (match r with
  | []=>true
  | a :: r2=>if z="now" then yf bs a else if z="within" then kg a 0 5 else if bX z then(match r2 with | b :: _=>nameB a && nameB b | []=>false) else true)
 else false
end Ss
end
section
set_option Elab.async false
set_option linter.all false
set_option maxRecDepth 100000
namespace Ss
open PySem PySem.Spec PyProof.Rows L2 Sw
noncomputable def strOf:D→Str
 | .str z=>z
 | _=>""
noncomputable def iX (bs:List Str) (z:Str) (r:List D):List Str:=if bX z=true then bs++[strOf (r.getD 1 .bZ)] else bs
noncomputable def bN (z:Str) (r:List D):List D:=(.str z :: r).drop (dI z)
noncomputable def iH:Nat→List Str→D→Bool
 | 0,_,_=>false
 | n+1,bs,.tup (.str z :: r)=>fE bs z r && (bN z r).all (iH n (iX bs z r))
 | _+1,_,_=>false
theorem BY {bs:List Str}{z:Str}{r:List D}(h:fE bs z r=true):iL z=(r.length:Int)+1∧BX z∧z∈jl:=by
 unfold fE at h
 split at h
 ·rename_i c
  have:=Au (z:=z) (by omega)
  exact⟨c,C3 z this,this⟩
 ·cases h
theorem nB {d:D}(h:nameB d=true):∃y,d= .str y:=by
 cases d with
 | str z=>exact⟨z,rfl⟩
 | _=>cases h
noncomputable def lI:Nat→D→List D
 | 0,_=>[]
 | n+1,.tup (.str z :: r)=>.tup (.str z :: r) :: (bN z r).flatMap (lI n)
 | _+1,d=>[d]
theorem vn {n : Nat} {bs : List Str} {d : D} (h : iH (n + 1) bs d = true) : ∃ z r, d = .tup (.str z :: r) ∧ fE bs z r = true ∧ ∀ p ∈ bN z r, iH n (iX bs z r) p = true := by
  cases d with
  | tup ds =>
    cases ds with
    | nil=>cases h
    | cons a r=>
      cases a with
      | str z=>
        obtain⟨h1,h2⟩:=Bool.and_eq_true_iff.mp (show(fE bs z r && (bN z r).all (iH n (iX bs z r)))=true from h)
        exact⟨z,r,rfl,h1,fun p hp=>List.all_eq_true.mp h2 p hp⟩
      | _=>cases h
  | _=>cases h
noncomputable def dH (n:Nat) (d:D):Nat:=(lI n d).length
noncomputable def BZ:D→Bool
 | .tup (.str z :: _)=>bX z
 | _=>false
noncomputable def iz (n:Nat) (d:D):Nat:=((lI n d).filter BZ).length
noncomputable def LX (d:D):Bool:=iH 8 [] d && (decide (dH 8 d≤16) && decide (iz 8 d≤3))
end Ss
end
section
set_option Elab.async false
set_option linter.all false
set_option maxRecDepth 100000
namespace Ss
open PySem PySem.Spec PyProof.Rows L2 Sw
@[simp] theorem RX (wF:List (Str×GD)) (S:SS):qH wF S=(lX wF S).map fun p=>(.m (.dct (dh [] p.1)),p.2):=rfl
@[simp] theorem Jg (S:SS):lX [] S=some ([],S):=rfl
@[simp] theorem HA (z:Str) (g:GD) (r:List (Str×GD)) (S:SS):lX ((z,g) :: r) S=(g S).bind fun p=>(lX r p.2).map fun q=>((.inr z,p.1) :: q.1,q.2):=rfl
@[simp] theorem RY (i:Nat) (ge:GE) (S:SS):Ai i ge S=match S[i]? with
 | some (some u)=>if uZ u then(ge S).bind fun p=>match p.1 with
  | .m (.dct more)=>qz p.2 i fun o=>match o with
   | .dct kvs=>if kvs.length+more.length≤100000 then some (.bZ,.dct (dh kvs more)) else none
   | _=>none
  | _=>none
  else none
 | _=>none:=rfl
@[simp] theorem RZ (i:Nat) (gk gd:GD) (S:SS):CU i gk gd S=match S[i]? with
 | some (some u)=>if uZ u then(gk S).bind fun p=>(gd p.2).bind fun q=>match q.2[i]? with
  | some (some u2)=>(Gf u2 p.1).map fun o=>(o.getD q.1,q.2)
  | _=>none
  else none
 | _=>none:=rfl
@[simp] theorem R5 (kvs:List (Key×D)):uZ (.m (.dct kvs))=true:=rfl
@[simp] theorem VD (kvs:List (Key×D)) (k:D):Gf (.m (.dct kvs)) k=(keyOf k).map (cK kvs):=rfl
noncomputable def B0 (n:Int) (ps:List Int):D:=.tup [.int n,.lst (ps.map D.int)]
noncomputable def Jh:List (Key×D):=[(.inr "yes",B0 1 []),(.inr "no",B0 1 []),(.inr "now",B0 2 []),(.inr "not",B0 2 [1]),(.inr "next",B0 2 [1]),(.inr "always",B0 2 [1])]
noncomputable def Ji:List (Key×D):=[(.inr "some",B0 2 [1]),(.inr "both",B0 3 [1,2]),(.inr "either",B0 3 [1,2]),(.inr "till",B0 3 [1,2])]
noncomputable def LY:List (Key×D):=[(.inr "within",B0 3 [2]),(.inr "each",B0 4 [3]),(.inr "one",B0 4 [3])]
noncomputable def R6:List (Key×D):=dh (dh (dh [] Jh) (dh [] Ji)) (dh [] LY)
theorem Jj (kvs:List (Key×D)) (k:Key) (d:D):(putD kvs k d).length≤kvs.length+1:=by
 unfold putD
 split
 ·rw[List.length_map];omega
 ·rw[List.length_append];exact Nat.le_refl _
theorem lJ:∀(more kvs:List (Key×D)),(dh kvs more).length≤kvs.length+more.length
 | [],kvs=>Nat.le_refl _
 | p :: r,kvs=>by
  have h1:=lJ r (putD kvs p.1 p.2)
  have h2:=Jj kvs p.1 p.2
  show(dh (putD kvs p.1 p.2) r).length≤_
  rw[List.length_cons]
  omega
noncomputable def iY:GS:=
 (bD (dR 1 (qH [("yes",(eF (eP eu (aa (eC (.int 1)) (aa (eF (eP iT aA)) aA))))),("no",(eF (eP eu (aa (eC (.int 1)) (aa (eF (eP iT aA)) aA))))),("now",(eF (eP eu (aa (eC (.int 2)) (aa (eF (eP iT aA)) aA))))),("not",(eF (eP eu (aa (eC (.int 2)) (aa (eF (eP iT (aa (eC (.int 1)) aA))) aA))))),("next",(eF (eP eu (aa (eC (.int 2)) (aa (eF (eP iT (aa (eC (.int 1)) aA))) aA))))),("always",(eF (eP eu (aa (eC (.int 2)) (aa (eF (eP iT (aa (eC (.int 1)) aA))) aA)))))]))
 (bD (mO (eT (Ai 1 (qH [("some",(eF (eP eu (aa (eC (.int 2)) (aa (eF (eP iT (aa (eC (.int 1)) aA))) aA))))),("both",(eF (eP eu (aa (eC (.int 3)) (aa (eF (eP iT (aa (eC (.int 1)) (aa (eC (.int 2)) aA)))) aA))))),("either",(eF (eP eu (aa (eC (.int 3)) (aa (eF (eP iT (aa (eC (.int 1)) (aa (eC (.int 2)) aA)))) aA))))),("till",(eF (eP eu (aa (eC (.int 3)) (aa (eF (eP iT (aa (eC (.int 1)) (aa (eC (.int 2)) aA)))) aA)))))]))))
 (bD (mO (eT (Ai 1 (qH [("within",(eF (eP eu (aa (eC (.int 3)) (aa (eF (eP iT (aa (eC (.int 2)) aA))) aA))))),("each",(eF (eP eu (aa (eC (.int 4)) (aa (eF (eP iT (aa (eC (.int 3)) aA))) aA))))),("one",(eF (eP eu (aa (eC (.int 4)) (aa (eF (eP iT (aa (eC (.int 3)) aA))) aA)))))]))))
 (eZ (eT (CU 1 (eF (aC 0)) (eF (eP eu (aa (eC (.int 0)) (aa (eF (eP iT aA)) aA))))))))))
noncomputable def jq:FM:=aE 2 iY
theorem D9:∀us r,jq us=some r→aE 2 iY us=some r:=fun _ _ h=>h
theorem Ea (z:Str):jq [.t (.str z)]=some (.t ((cK R6 (.inr z)).getD (B0 0 [])),[]):=by
 have l1:=lJ Jh []
 have l2:=lJ Ji []
 have l3:=lJ LY []
 have l4:=lJ (dh [] Ji) (dh [] Jh)
 have k1:Jh.length=6:=rfl
 have k2:Ji.length=4:=rfl
 have k3:LY.length=3:=rfl
 rw[List.length_nil] at l1 l2 l3
 have b1:(dh [] Jh).length+(dh [] Ji).length≤100000:=by omega
 have b2:(dh (dh [] Jh) (dh [] Ji)).length+(dh [] LY).length≤100000:=by omega
 clear l1 l2 l3 l4 k1 k2 k3
 unfold R6
 unfold Jh Ji LY at *
 simp only[B0,List.map_nil,List.map_cons] at *
 simp[jq,aE,iY,aD,b1,b2]
noncomputable def VE (z:Str):List Int:=(List.range (iL z - dI z).toNat).map fun(k:Nat)=>(dI z:Int)+k
theorem GF {kvs:List (Key×D)}{k:Key}{d:D}{x:Key}(h:x∈(putD kvs k d).map (·.1)):x∈kvs.map (·.1)∨x=k:=by
 unfold putD at h
 split at h
 ·rw[List.map_map] at h
  obtain⟨kv,h1,h2⟩:=List.mem_map.mp h
  simp only[Function.comp] at h2
  split at h2
  ·exact .inl (List.mem_map.mpr ⟨kv,h1,h2⟩)
  ·exact .inl (List.mem_map.mpr ⟨kv,h1,h2⟩)
 ·rw[List.map_append] at h
  rcases List.mem_append.mp h with q | q
  ·exact .inl q
  ·exact .inr (by simpa using q)
theorem mh:∀{more kvs:List (Key×D)}{x:Key},x∈(dh kvs more).map (·.1)→x∈kvs.map (·.1)∨x∈more.map (·.1)
  | [],kvs,x,h=>.inl h
  | p :: r, kvs, x, h => by
    rcases mh (more:=r) (kvs:=putD kvs p.1 p.2) h with q | q
    · rcases GF q with y | y
      · exact .inl y
      · exact .inr (by rw[y];exact List.mem_cons_self)
    · exact .inr (List.mem_cons_of_mem _ q)
theorem B3 {kvs:List (Key×D)}{k:Key}(h:k∉kvs.map (·.1)):cK kvs k=none:=by
 unfold cK
 have:kvs.find? (fun kv=>decide (kv.1=k))=none:=List.find?_eq_none.mpr fun p hp q=>h (by rw[←of_decide_eq_true q];exact List.mem_map_of_mem hp)
 rw[this]
 rfl
theorem j6 (z : Str) : jq [.t (.str z)] = some (.t (.tup [.int (iL z), .lst ((VE z).map D.int)]), []) := by
  rw[Ea]
  by_cases h:z∈jl
  · simp only[jl,List.mem_cons,List.not_mem_nil,or_false] at h
    rcases h with rfl | rfl | rfl | rfl | rfl | rfl | rfl | rfl | rfl | rfl | rfl | rfl | rfl <;> rfl
  · have e1:cK R6 (.inr z)=none:=B3 fun q=>by
      unfold R6 at q
      have k1:(.inr z:Key)∈Jh.map (·.1)→False:=fun q=>by
        apply h
        simp only[Jh,List.map_cons,List.map_nil,List.mem_cons,List.not_mem_nil,or_false,Sum.inr.injEq] at q
        rcases q with rfl | rfl | rfl | rfl | rfl | rfl <;> decide
      have k2:(.inr z:Key)∈Ji.map (·.1)→False:=fun q=>by
        apply h
        simp only[Ji,List.map_cons,List.map_nil,List.mem_cons,List.not_mem_nil,or_false,Sum.inr.injEq] at q
        rcases q with rfl | rfl | rfl | rfl <;> decide
      have k3:(.inr z:Key)∈LY.map (·.1)→False:=fun q=>by
        apply h
        simp only[LY,List.map_cons,List.map_nil,List.mem_cons,List.not_mem_nil,or_false,Sum.inr.injEq] at q
        rcases q with rfl | rfl | rfl <;> decide
      have one:∀L:List (Key×D),((.inr z:Key)∈L.map (·.1)→False)→(.inr z:Key)∈(dh [] L).map (·.1)→False:=fun L k q=>by
        rcases mh q with q | q
        · cases q
        · exact k q
      rcases mh q with q | q
      · rcases mh q with q | q
        · exact one _ k1 q
        · exact one _ k2 q
      · exact one _ k3 q
    rw[e1]
    have e2:iL z=0:=yg h
    have e3:VE z=[]:=by unfold VE;rw[e2];rw[show((0:Int) - dI z).toNat=0 by omega];rfl
    rw[e2,e3]
    rfl
end Ss
end
section
set_option Elab.async false
set_option linter.all false
set_option maxRecDepth 100000
namespace Ss
open PySem PySem.Spec PyProof.Rows L2 Sw
@[simp] theorem VF (i:Nat) (g:GE) (S:SS):UD i g S=g (Kc i S):=rfl
section
variable {f1 f2 f3 f4 f5:FM}{z:Str}{r:List D}{vs dp:D}{c0 c1:Int}
end
end Ss
end
section
set_option Elab.async false
set_option linter.all false
set_option maxRecDepth 100000
namespace Ss
open PySem PySem.Spec PyProof.Rows L2 Sw
theorem C4:iL "now" =2∧iL "within" =3:=by decide
end Ss
end
section
set_option Elab.async false
set_option linter.all false
set_option maxRecDepth 100000
namespace Ss
open PySem PySem.Spec PyProof.Rows L2 Sw
theorem vo (n:Nat) (z:Str) (r:List D):(dH (n+1) (.tup (.str z :: r)):Int)=1+(((bN z r).flatMap (lI n)).length:Int):=by
 unfold dH
 show(((.tup (.str z :: r):D) :: (bN z r).flatMap (lI n)).length:Int)=_
 rw[List.length_cons]
 push_cast
 omega
theorem zf (n:Nat) (z:Str) (r:List D):(iz (n+1) (.tup (.str z :: r)):Int)=(if bX z=true then 1 else 0)+((((bN z r).flatMap (lI n)).filter BZ).length:Int):=by
 unfold iz
 show((((.tup (.str z :: r):D) :: (bN z r).flatMap (lI n)).filter BZ).length:Int)=_
 by_cases h:bX z=true
 ·rw[List.filter_cons_of_pos (by exact h),if_pos h,List.length_cons]
  push_cast
  omega
 ·rw[List.filter_cons_of_neg (by exact h),if_neg h]
  omega
theorem mj (n:Nat) (bs:List Str) (z:Str) (r:List D):iH (n+1) bs (.tup (.str z :: r))=true↔fE bs z r=true∧∀p∈bN z r,iH n (iX bs z r) p=true:=by
 show(fE bs z r && (bN z r).all (iH n (iX bs z r)))=true↔_
 rw[Bool.and_eq_true_iff,List.all_eq_true]
theorem Av {bs:List Str}{z:Str}{r:List D}(c:iL z=(r.length:Int)+1) (n1:¬z="now") (n2:¬(z="within"∧kg (r.getD 0 .bZ) 0 5=false)) (hb:bX z=false):fE bs z r=true:=by
 unfold fE
 rw[if_pos c]
 cases r with
 | nil=>rfl
 | cons a q=>
  simp only[n1,if_false,hb]
  by_cases k:z="within"
  ·rw[if_pos k]
   cases w:kg a 0 5 with
   | true=>rfl
   | false=>exact absurd ⟨k,w⟩ n2
  ·rw[if_neg k]
   rfl
end Ss
end
section
set_option Elab.async false
set_option linter.all false
set_option maxRecDepth 100000
namespace Ss
open PySem PySem.Spec PyProof.Rows L2 Sw
structure Dr (deep:Nat) (bs:List Str) (room:Nat) (bin:Nat) (d:D):Prop where
 fm:iH deep bs d=true
 sz:dH deep d≤room
 bn:iz deep d=bin
 fit:wz 8 d
 dep:cJ d≤deep+1
noncomputable def names18:List Str:=sf++(["not","now","yes","less","each","till","nows","anyone","lessx","withina"]:List Str)
noncomputable def zI:List D:=names18.map D.str
theorem PN:∀z∈names18,nameB (.str z)=true∧z.length≤8:=by decide +kernel
noncomputable def C5 (b:Int):List (Key×D):=[(.inr "names",.lst zI),(.inr "binders",.int b)]
theorem Ke (b:Int):cK (C5 b) (.inr "names")=some (.lst zI):=rfl
theorem Kf (b:Int):cK (C5 b) (.inr "binders")=some (.int b):=rfl
theorem PR (b x:Int):putD (C5 b) (.inr "binders") (.int x)=C5 x:=rfl
theorem uA:zI.length=18:=rfl
theorem Kg {i:Int}(h0:0≤i) (h1:i < 18):∃z,iS zI i=some (.str z)∧nameB (.str z)=true∧z.length≤8:=by
 have h:i.toNat < names18.length:=by show _ < 18;omega
 refine⟨names18[i.toNat],Sq.BV h0 (by unfold zI;rw[List.getElem?_map,List.getElem?_eq_getElem h];rfl),?_⟩
 exact PN _ (List.getElem_mem h)
noncomputable abbrev tp (t:iR):MO:=.dct (d8 t)
theorem gD {t:iR}{m:Int}(h1:0 < m) (h2:m < 1000) (h3:0≤t.n) (h4:t.n < 900000):jF [.b (tp t),.t (.int m)]=some (.t (.int (cU t m)),[tp (bq t m)]):=Gs h1 (by omega) h3 (by omega)
noncomputable def eV (aI:FM):GS:=
 (bD (dR 3 (bW aI (iG (aC 0) (bh (eC (.int 5)) br))))
 (bD (rK (qB (eF (eP BH (aa (eF (aC 3)) (aa (eC (.int 0)) aA))))) (eZ (eP eu (aa (eC (.str "any")) aA))) ji)
 (bD (rK (qB (eF (eP BH (aa (eF (aC 3)) (aa (eC (.int 1)) aA))))) (eZ (eP eu (aa (eC (.str "name")) (aa (gZ 1 (eF (bW aI (iG (aC 0) (bh (rZ 1) br))))) aA)))) ji)
 (bD (dR 4 (eP DI (aa (eF (eP iT (aa (eC (.int 0)) (aa (eC (.int 1)) (aa (eC (.int 2)) (aa (eC (.int 3)) (aa (eC (.int 5)) (aa (eC (.int 9)) aA)))))))) (aa (eF (bW aI (iG (aC 0) (bh (eC (.int 6)) br)))) aA))))
 (bD (rK (qx (qB (eF (eP Lu (aa (eF (aC 2)) (aa (eF (eP eu aA)) aA))))) (qB (eF (eP Nb (aa (eF (bW aI (iG (aC 0) (bh (eC (.int 3)) br)))) (aa (eC (.int 0)) aA)))))) (dR 4 (eT (gZ 2 (eF (bW aI (iG (aC 0) (bh (rZ 2) br))))))) ji)
 (eZ (eP eu (aa (eF (eP DI (aa (eF (eP iT (aa (eC (.str "less")) (aa (eC (.str "same")) (aa (eC (.str "more")) aA))))) (aa (eF (eP oZ (aa (eF (aC 3)) (aa (eC (.int 2)) aA)))) aA)))) (aa (eF (aC 4)) aA)))))))))
noncomputable def kD:FM:=aE 5 (eV jF)
theorem Eb:∀us r,kD us=some r→aE 5 (eV jF) us=some r:=fun _ _ h=>h
theorem tN {x:D}{l:List D}{i:Int}(h0:0≤i) (h1:i < l.length):∃y,iS l i=some y∧y∈l:=by
 obtain⟨y,a,b⟩:=Sq.LV (l:=l) h0 h1
 exact⟨y,a,List.mem_of_getElem? b⟩
theorem Aw (bs:List Str) (a b:D):yf bs (.tup [a,b])=if lT a (.str "name")=true then nameB b else inD a (ue.map D.str) && (kg b 0 9 || inD b (bs.map D.str)):=rfl
theorem GG {t : iR} {bs : List Str} (h0 : 0 ≤ t.n) (h1 : t.n < 800000) (hb : bs.length < 900) (hs : ∀ z ∈ bs, z.length ≤ 8) :
    ∃d t',kD [.b (tp t),.t (.lst zI),.t (.tup (bs.map D.str))]=some (.t d,[tp t'])∧yf bs d=true∧wz 8 d∧cJ d≤1∧t.n≤t'.n∧t'.n≤t.n+4:=by
  have p1:=gD (t:=t) (m:=5) (by omega) (by omega) h0 (by omega)
  obtain⟨w0,w1⟩:=cE (t:=t) (m:=5) (by omega)
  generalize hw:cU t 5=w at *
  have VG:(bq t 5).n=t.n+1:=gC t 5
  generalize bq t 5=t1 at *
  by_cases c0:w=0
  · subst c0
    exact⟨.tup [.str "any"],t1,by simp[kD,aE,eV,p1,aD],rfl,⟨(by show 1≤8;omega),(by show 3≤8;omega),True.intro⟩,by decide,by omega,by omega⟩
  · by_cases c1:w=1
    · subst c1
      have p2:=gD (t:=t1) (m:=18) (by omega) (by omega) (by omega) (by omega)
      obtain⟨v0,v1⟩:=cE (t:=t1) (m:=18) (by omega)
      generalize cU t1 18=v at *
      have NC:(bq t1 18).n=t1.n+1:=gC t1 18
      generalize bq t1 18=t2 at *
      obtain⟨z,a1,a2,a3⟩:=Kg v0 v1
      have nl:(zI.length:Int)=18:=rfl
      refine⟨.tup [.str "name",.str z],t2,by simp[kD,aE,eV,p1,aD,nl,p2,a1],?_,⟨(by show 2≤8;omega),(by show 4≤8;omega),a3,True.intro⟩,by show max 0 (max 0 0)+1≤1;omega,by omega,by omega⟩
      rw[Aw,if_pos (ng _)]
      exact a2
    · have p2:=gD (t:=t1) (m:=6) (by omega) (by omega) (by omega) (by omega)
      obtain⟨v0,v1⟩:=cE (t:=t1) (m:=6) (by omega)
      generalize cU t1 6=v at *
      have NC:(bq t1 6).n=t1.n+1:=gC t1 6
      generalize bq t1 6=t2 at *
      obtain⟨nb,b1,b2⟩:=tN (x:=.bZ) (l:=[.int 0,.int 1,.int 2,.int 3,.int 5,.int 9]) v0 v1
      have hnb:kg nb 0 9=true∧wz 8 nb∧cJ nb=0:=by
        simp only[List.mem_cons,List.not_mem_nil,or_false] at b2
        rcases b2 with rfl | rfl | rfl | rfl | rfl | rfl <;> exact⟨by decide,True.intro,rfl⟩
      obtain⟨hd,d1,d2⟩:=tN (x:=.bZ) (l:=[.str "less",.str "same",.str "more"]) (i:=w - 2) (by omega) (by simp only[List.length_cons,List.length_nil];omega)
      have R7:inD hd (ue.map D.str)=true∧lT hd (.str "name")=false∧wz 8 hd∧cJ hd=0:=by
        simp only[List.mem_cons,List.not_mem_nil,or_false] at d2
        rcases d2 with rfl | rfl | rfl <;> exact⟨by decide,by decide,(by show _≤8;decide),rfl⟩
      have fin:∀x:D,(kg x 0 9=true∨inD x (bs.map D.str)=true)→wz 8 x→cJ x=0→yf bs (.tup [hd,x])=true∧wz 8 (.tup [hd,x])∧cJ (.tup [hd,x])≤1:=fun x h1 h2 h3=>by
        refine⟨?_,⟨(by show 2≤8;omega),R7.2.2.1,h2,True.intro⟩,by show max (cJ hd) (max (cJ x) 0)+1≤1;rw[R7.2.2.2,h3];decide⟩
        rw[Aw,R7.2.1,R7.1]
        rcases h1 with q | q
        · rw[q];rfl
        · rw[q];simp
      have dv:cJ (.tup (bs.map D.str))≤40:=by show bM (bs.map D.str)+1≤40;rw[L2.uY];omega
      cases bs with
      | nil=>
        obtain⟨f1,f2,f3⟩:=fin nb (.inl hnb.1) hnb.2.1 hnb.2.2
        refine⟨.tup [hd,nb],t2,?_,f1,f2,f3,by omega,by omega⟩
        have q:lT (.tup []) (.tup [])=true:=rfl
        simp only[List.map_nil] at dv ⊢
        simp[kD,aE,eV,p1,aD,c0,c1,p2,b1,dv,q,d1]
      | cons y ys=>
        have q:lT (.tup ((y :: ys).map D.str)) (.tup [])=false:=rfl
        have p3:=gD (t:=t2) (m:=3) (by omega) (by omega) (by omega) (by omega)
        have t3n:(bq t2 3).n=t2.n+1:=gC t2 3
        generalize cU t2 3=u at *
        generalize bq t2 3=t3 at *
        by_cases c3:0 < u
        · have p4:=gD (t:=t3) (m:=((y :: ys).map D.str).length) (by rw[List.length_map];simp only[List.length_cons];omega) (by rw[List.length_map];omega) (by omega) (by omega)
          have t4n:(bq t3 ((y :: ys).map D.str).length).n=t3.n+1:=gC t3 _
          obtain⟨x0,x1⟩:=cE (t:=t3) (m:=((y :: ys).map D.str).length) (by rw[List.length_map];simp only[List.length_cons];omega)
          obtain⟨vv,g1,g2⟩:=tN (x:=.bZ) (l:=(y :: ys).map D.str) x0 x1
          generalize bq t3 ((y :: ys).map D.str).length=t4 at *
          generalize cU t3 ((y :: ys).map D.str).length=x at *
          obtain⟨vs,m1,rfl⟩:=List.mem_map.mp g2
          have iv:inD (.str vs) ((y :: ys).map D.str)=true:=by
            unfold inD
            exact List.any_eq_true.mpr ⟨.str vs,g2,ng _⟩
          obtain⟨f1,f2,f3⟩:=fin (.str vs) (.inr iv) (hs vs m1) rfl
          refine⟨.tup [hd,.str vs],t4,?_,f1,f2,f3,by omega,by omega⟩
          generalize (y :: ys).map D.str=L at *
          simp[kD,aE,eV,p1,aD,c0,c1,p2,b1,dv,q,p3,c3,p4,g1,d1]
        · obtain⟨f1,f2,f3⟩:=fin nb (.inl hnb.1) hnb.2.1 hnb.2.2
          refine⟨.tup [hd,nb],t3,?_,f1,f2,f3,by omega,by omega⟩
          generalize (y :: ys).map D.str=L at *
          simp[kD,aE,eV,p1,aD,c0,c1,p2,b1,dv,q,p3,c3,d1]
end Ss
end
section
set_option Elab.async false
set_option linter.all false
set_option maxRecDepth 100000
namespace Ss
open PySem PySem.Spec PyProof.Rows L2 Sw
theorem ZP {n room:Nat}{bs:List Str}{z:Str}{r:List D}(sh:fE bs z r=true) (pl:bN z r=[]) (nb:bX z=false) (hr:1≤room) (fit:wz 8 (.tup (.str z :: r))) (dep:cJ (.tup (.str z :: r))≤n+2):Dr (n+1) bs room 0 (.tup (.str z :: r)):=by
 have es:=vo n z r
 have eb:=zf n z r
 rw[pl] at es eb
 rw[nb] at eb
 simp at es eb
 exact⟨(mj n bs z r).mpr ⟨sh,by rw[pl];simp⟩,by omega,by omega,fit,dep⟩
theorem VH {n room b:Nat}{bs:List Str}{z:Str}{r:List D}{p:D}(sh:fE bs z r=true) (pl:bN z r=[p]) (h:Dr n (iX bs z r) room b p) (fit:wz 8 (.tup (.str z :: r))) (dep:cJ (.tup (.str z :: r))≤n+2):Dr (n+1) bs (room+1) ((if bX z=true then 1 else 0)+b) (.tup (.str z :: r)):=by
 have es:=vo n z r
 have eb:=zf n z r
 rw[pl] at es eb
 have e1:([p].flatMap (lI n)).length=dH n p:=by simp[dH]
 have e2:(([p].flatMap (lI n)).filter BZ).length=iz n p:=by simp[iz]
 rw[e1] at es
 rw[e2] at eb
 have:=h.sz
 have:=h.bn
 refine⟨(mj n bs z r).mpr ⟨sh,by rw[pl];intro q hq;rw[show q=p by simpa using hq];exact h.fm⟩,by omega,?_,fit,dep⟩
 by_cases hb:bX z=true
 ·rw[if_pos hb] at eb ⊢;omega
 ·rw[if_neg hb] at eb ⊢;omega
theorem dr2 {n r1 r2 b1 b2:Nat}{bs:List Str}{z:Str}{r:List D}{p q:D}(sh:fE bs z r=true) (pl:bN z r=[p,q]) (nb:bX z=false) (h1:Dr n bs r1 b1 p) (h2:Dr n bs r2 b2 q) (fit:wz 8 (.tup (.str z :: r))) (dep:cJ (.tup (.str z :: r))≤n+2):Dr (n+1) bs (r1+r2+1) (b1+b2) (.tup (.str z :: r)):=by
 have es:=vo n z r
 have eb:=zf n z r
 rw[pl] at es eb
 have e1:([p,q].flatMap (lI n)).length=dH n p+dH n q:=by simp[dH]
 have e2:(([p,q].flatMap (lI n)).filter BZ).length=iz n p+iz n q:=by simp[iz]
 rw[e1] at es
 rw[e2,nb] at eb
 simp at eb
 have:=h1.sz
 have:=h1.bn
 have:=h2.sz
 have:=h2.bn
 have ib:iX bs z r=bs:=by unfold iX;rw[if_neg (by rw[nb];simp)]
 refine⟨(mj n bs z r).mpr ⟨sh,by rw[pl,ib];intro x hx;simp at hx;rcases hx with rfl | rfl;exact h1.fm;exact h2.fm⟩,by omega,by omega,fit,dep⟩
theorem Dr.more {n room Kh b:Nat}{bs:List Str}{d:D}(h:Dr n bs room b d) (hr:room≤Kh):Dr n bs Kh b d:=⟨h.fm,Nat.le_trans h.sz hr,h.bn,h.fit,h.dep⟩
noncomputable def bg (aI:FM) (kE:FM) (aZ:FM) (jI:FM):GS:=
 (bD (dR 5 (bW aI (iG (aC 0) (bh (eC (.int 9)) br))))
 (bD (rK (FE (qB (eF (eP FG (aa (eF (aC 3)) (aa (eC (.int 2)) aA))))) (FE (qB (eF (eP FG (aa (eF (aC 4)) (aa (eC (.int 2)) aA))))) (qB (eF (eP BH (aa (eF (aC 5)) (aa (eC (.int 0)) aA))))))) (bD (rK (qB (eF (eP BH (aa (eF (eP wB (aa (eF (aC 5)) (aa (eC (.int 5)) aA)))) (aa (eC (.int 4)) aA))))) (eZ (eP eu (aa (eF (eP DI (aa (eF (eP iT (aa (eC (.str "yes")) (aa (eC (.str "no")) aA)))) (aa (eF (bW aI (iG (aC 0) (bh (eC (.int 2)) br)))) aA)))) aA))) ji)
 (eZ (eP eu (aa (eC (.str "now")) (aa (eF (bW kE (iG (aC 0) (bh (gZ 1 (eC (.str "names"))) (bh (eF (aC 2)) br))))) aA))))) ji)
 (bD (rK (qx (qB (eF (eP FG (aa (eF (aC 5)) (aa (eC (.int 5)) aA))))) (qB (eF (eP Nb (aa (eF (aC 3)) (aa (eC (.int 2)) aA)))))) (bD (dR 6 (eP iF (aa (eC (.int 1)) (aa (eF (bW aI (iG (aC 0) (bh (eF (eP oZ (aa (eF (aC 3)) (aa (eC (.int 2)) aA)))) br)))) aA))))
 (bD (dR 7 (bW aZ (iG (aC 0) (iG (aC 1) (bh (eF (aC 2)) (bh (eF (aC 6)) (bh (eF (eP oZ (aa (eF (aC 4)) (aa (eC (.int 1)) aA)))) br)))))))
 (bD (dR 8 (bW aZ (iG (aC 0) (iG (aC 1) (bh (eF (aC 2)) (bh (eF (eP oZ (aa (eF (eP oZ (aa (eF (aC 3)) (aa (eC (.int 1)) aA)))) (aa (eF (aC 6)) aA)))) (bh (eF (eP oZ (aa (eF (aC 4)) (aa (eC (.int 1)) aA)))) br)))))))
 (eZ (eP eu (aa (eF (eP DI (aa (eF (eP iT (aa (eC (.str "both")) (aa (eC (.str "either")) (aa (eC (.str "till")) (aa (eC (.str "till")) aA)))))) (aa (eF (eP oZ (aa (eF (aC 5)) (aa (eC (.int 1)) aA)))) aA)))) (aa (eF (aC 7)) (aa (eF (aC 8)) aA)))))))) ji)
 (eZ (bW jI (iG (aC 0) (iG (aC 1) (bh (eF (aC 2)) (bh (eF (aC 3)) (bh (eF (aC 4)) br))))))))))
noncomputable def cC (aI:FM) (aZ:FM):GS:=
 (bD (dR 5 (bW aI (iG (aC 0) (bh (eC (.int 8)) br))))
 (bD (rK (qx (qB (eF (eP FG (aa (eF (aC 5)) (aa (eC (.int 3)) aA))))) (qB (eF (eP FG (aa (gZ 1 (eC (.str "binders"))) (aa (eC (.int 3)) aA)))))) (bD (FZ 1 (eC (.str "binders")) (eF (eP iF (aa (gZ 1 (eC (.str "binders"))) (aa (eC (.int 1)) aA)))))
 (bD (dR 6 (eT (gZ 1 (eC (.str "names")))))
 (bD (dR 7 (eP DI (aa (eF (eP iT (aa (eC (.str "x")) (aa (eC (.str "k")) (aa (eC (.str "a")) (aa (eC (.str "ab")) aA)))))) (aa (eF (bW aI (iG (aC 0) (bh (eC (.int 4)) br)))) aA))))
 (bD (dR 8 (eP eu (aa (eF (eP DI (aa (eF (eP iT (aa (eC (.str "each")) (aa (eC (.str "one")) aA)))) (aa (eF (eP wB (aa (eF (aC 5)) (aa (eC (.int 2)) aA)))) aA)))) (aa (gZ 6 (eF (bW aI (iG (aC 0) (bh (rZ 6) br))))) (aa (eF (aC 7)) aA)))))
 (eZ (eP iF (aa (eF (aC 8)) (aa (eF (eP eu (aa (eF (bW aZ (iG (aC 0) (iG (aC 1) (bh (eF (eP iF (aa (eF (aC 2)) (aa (eF (eP eu (aa (eF (aC 7)) aA))) aA)))) (bh (eF (eP oZ (aa (eF (aC 3)) (aa (eC (.int 1)) aA)))) (bh (eF (eP oZ (aa (eF (aC 4)) (aa (eC (.int 1)) aA)))) br))))))) aA))) aA)))))))) ji)
 (bD (dR 8 (eP eu (aa (eF (eP DI (aa (eF (eP iT (aa (eC (.str "not")) (aa (eC (.str "next")) (aa (eC (.str "always")) (aa (eC (.str "some")) aA)))))) (aa (eF (eP wB (aa (eF (aC 5)) (aa (eC (.int 4)) aA)))) aA)))) aA)))
 (bD (rK (qB (eF (eP BH (aa (eF (aC 5)) (aa (eC (.int 3)) aA))))) (dR 8 (eP eu (aa (eC (.str "within")) (aa (eF (bW aI (iG (aC 0) (bh (eC (.int 6)) br)))) aA)))) ji)
 (eZ (eP iF (aa (eF (aC 8)) (aa (eF (eP eu (aa (eF (bW aZ (iG (aC 0) (iG (aC 1) (bh (eF (aC 2)) (bh (eF (eP oZ (aa (eF (aC 3)) (aa (eC (.int 1)) aA)))) (bh (eF (eP oZ (aa (eF (aC 4)) (aa (eC (.int 1)) aA)))) br))))))) aA))) aA))))))))
section
variable {f1 f2 f3 f4:FM}{T0 T1 T2 T3 T4:MO}{ws Gg EF:List (Key×D)}{vs nd d1 d2:D}{room deep w:Int}
theorem LZ {v:Int}{y:D}(p1:f1 [.b T0,.t (.int 9)]=some (.t (.int w),[T1])) (h:room < 2∨deep < 2∨w=0) (h5:w % 5=4) (p2:f1 [.b T1,.t (.int 2)]=some (.t (.int v),[T2])) (hy:iS [.str "yes",.str "no"] v=some y):
  aE 9 (bg f1 f2 f3 f4) [.b T0,.b (.dct ws),.t vs,.t (.int room),.t (.int deep)]=some (.t (.tup [y]),[T2,.dct ws]):=by
 by_cases a:room < 2
 ·simp[aE,bg,p1,a,h5,p2,hy,aD]
 ·by_cases b:deep < 2
  ·simp[aE,bg,p1,a,b,h5,p2,hy,aD]
  ·have c:w=0:=by rcases h with h | h | h;exact absurd h a;exact absurd h b;exact h
   subst c
   exact absurd h5 (by decide)
theorem L0 {d:D}(p1:f1 [.b T0,.t (.int 9)]=some (.t (.int w),[T1])) (h:room < 2∨deep < 2∨w=0) (h5:¬w % 5=4) (hn:cK ws (.inr "names")=some nd) (p2:f2 [.b T1,.t nd,.t vs]=some (.t d,[T2])):
  aE 9 (bg f1 f2 f3 f4) [.b T0,.b (.dct ws),.t vs,.t (.int room),.t (.int deep)]=some (.t (.tup [.str "now",d]),[T2,.dct ws]):=by
 by_cases a:room < 2
 ·simp[aE,bg,p1,a,h5,hn,p2,aD]
 ·by_cases b:deep < 2
  ·simp[aE,bg,p1,a,b,h5,hn,p2,aD]
  ·have c:w=0:=by rcases h with h | h | h;exact absurd h a;exact absurd h b;exact h
   subst c
   simp[aE,bg,p1,a,b,hn,p2,aD]
theorem L1 {fi:Int}{y:D}(p1:f1 [.b T0,.t (.int 9)]=some (.t (.int w),[T1])) (ha:¬room < 2) (hb:¬deep < 2) (hc:¬w=0) (h5:w < 5) (h2:2 < room) (p2:f1 [.b T1,.t (.int (room - 2))]=some (.t (.int fi),[T2]))
  (p3:f3 [.b T2,.b (.dct ws),.t vs,.t (.int (1+fi)),.t (.int (deep - 1))]=some (.t d1,[T3,.dct Gg])) (p4:f3 [.b T3,.b (.dct Gg),.t vs,.t (.int (room - 1 - (1+fi))),.t (.int (deep - 1))]=some (.t d2,[T4,.dct EF])) (hy:iS [.str "both",.str "either",.str "till",.str "till"] (w - 1)=some y):
  aE 9 (bg f1 f2 f3 f4) [.b T0,.b (.dct ws),.t vs,.t (.int room),.t (.int deep)]=some (.t (.tup [y,d1,d2]),[T4,.dct EF]):=by
 simp[aE,bg,p1,ha,hb,hc,h5,h2,p2,p3,p4,hy,aD]
theorem PU (p1:f1 [.b T0,.t (.int 9)]=some (.t (.int w),[T1])) (ha:¬room < 2) (hb:¬deep < 2) (hc:¬w=0) (h:¬(w < 5∧2 < room)) (p2:f4 [.b T1,.b (.dct ws),.t vs,.t (.int room),.t (.int deep)]=some (.t d1,[T2,.dct Gg])):
  aE 9 (bg f1 f2 f3 f4) [.b T0,.b (.dct ws),.t vs,.t (.int room),.t (.int deep)]=some (.t d1,[T2,.dct Gg]):=by
 by_cases a:w < 5
 ·have b:¬2 < room:=fun q=>h ⟨a,q⟩
  simp[aE,bg,p1,ha,hb,hc,a,b,p2,aD]
 ·simp[aE,bg,p1,ha,hb,hc,a,p2,aD]
theorem L3 {b x n:Int}{bl nl:List D}{xd hd nm:D}(p1:f1 [.b T0,.t (.int 8)]=some (.t (.int w),[T1])) (h3:w < 3) (hb:cK ws (.inr "binders")=some (.int b)) (b3:b < 3) (hl:ws.length < 100000) (hp:putD ws (.inr "binders") (.int (b+1))=Gg) (hn:cK Gg (.inr "names")=some (.lst nl))
  (p2:f1 [.b T1,.t (.int 4)]=some (.t (.int x),[T2])) (hx:iS [.str "x",.str "k",.str "a",.str "ab"] x=some xd) (hh:iS [.str "each",.str "one"] (w % 2)=some hd) (p3:f1 [.b T2,.t (.int (nl.length:Nat))]=some (.t (.int n),[T3])) (hm:iS nl n=some nm) (hv:bl.length+1≤100000)
  (p4:f2 [.b T3,.b (.dct Gg),.t (.tup (bl++[xd])),.t (.int (room - 1)),.t (.int (deep - 1))]=some (.t d1,[T4,.dct EF])):
  aE 9 (cC f1 f2) [.b T0,.b (.dct ws),.t (.tup bl),.t (.int room),.t (.int deep)]=some (.t (.tup [hd,nm,xd,d1]),[T4,.dct EF]):=by
 simp[aE,cC,p1,h3,hb,b3,hl,hp,hn,p2,hx,hh,p3,hm,hv,p4,aD]
theorem L4 {b:Int}{hd:D}(p1:f1 [.b T0,.t (.int 8)]=some (.t (.int w),[T1])) (hb:cK ws (.inr "binders")=some (.int b)) (h3:¬(w < 3∧b < 3)) (hw:¬w=3) (hh:iS [.str "not",.str "next",.str "always",.str "some"] (w % 4)=some hd)
  (p4:f2 [.b T1,.b (.dct ws),.t vs,.t (.int (room - 1)),.t (.int (deep - 1))]=some (.t d1,[T4,.dct EF])):
  aE 9 (cC f1 f2) [.b T0,.b (.dct ws),.t vs,.t (.int room),.t (.int deep)]=some (.t (.tup [hd,d1]),[T4,.dct EF]):=by
 by_cases a:w < 3
 ·have b:¬b < 3:=fun q=>h3 ⟨a,q⟩
  simp[aE,cC,p1,a,hb,b,hw,hh,p4,aD]
 ·simp[aE,cC,p1,a,hw,hh,p4,aD]
theorem Ec {k:Int}(p1:f1 [.b T0,.t (.int 8)]=some (.t (.int 3),[T1])) (p2:f1 [.b T1,.t (.int 6)]=some (.t (.int k),[T2]))
  (p4:f2 [.b T2,.b (.dct ws),.t vs,.t (.int (room - 1)),.t (.int (deep - 1))]=some (.t d1,[T4,.dct EF])):
  aE 9 (cC f1 f2) [.b T0,.b (.dct ws),.t vs,.t (.int room),.t (.int deep)]=some (.t (.tup [.str "within",.int k,d1]),[T4,.dct EF]):=by
 have hh:iS [D.str "not",.str "next",.str "always",.str "some"] 3=some (.str "some"):=rfl
 simp[aE,cC,p1,p2,hh,p4,aD]
end
end Ss
end
section
set_option Elab.async false
set_option linter.all false
set_option maxRecDepth 100000
namespace Ss
open PySem PySem.Spec PyProof.Rows L2 Sw
noncomputable def PV:Nat→FM×FM
 | 0=>(fun _=>none,fun _=>none)
 | j+1=>(aE 9 (bg jF kD (PV j).1 (PV j).2),aE 9 (cC jF (PV j).1))
noncomputable def sD (j:Nat):FM:=(PV j).1
noncomputable def GH (j:Nat):FM:=(PV j).2
theorem Jk (j:Nat):∀us r,sD (j+1) us=some r→aE 9 (bg jF kD (sD j) (GH j)) us=some r:=fun _ _ h=>h
theorem Jl (j:Nat):∀us r,GH (j+1) us=some r→aE 9 (cC jF (sD j)) us=some r:=fun _ _ h=>h
theorem Ed (us:List U):sD 0 us=none:=rfl
theorem Ef (us:List U):GH 0 us=none:=rfl
noncomputable def GJ (f:FM) (deep room:Nat):Prop:=∀(t:iR) (bs:List Str) (b:Nat),0≤t.n→t.n+8 * room < 700000→bs.length+deep < 800→(∀z∈bs,z.length≤8)→b≤3→
 ∃(d:D) (t':iR) (bin:Nat),f [.b (tp t),.b (.dct (C5 b)),.t (.tup (bs.map D.str)),.t (.int room),.t (.int deep)]=some (.t d,[tp t',.dct (C5 ((b+bin:Nat):Int))])∧Dr deep bs room bin d∧b+bin≤3∧t.n≤t'.n∧t'.n≤t.n+8 * room
theorem Eg {z:Str}(h:z.length≤8):wz 8 (.str z):=h
theorem vp {bs:List Str}{z:Str}{r:List D}(c:iL z=(r.length:Int)+1) (n1:z≠"now") (n2:z≠"within") (hb:bX z=false):fE bs z r=true:=Av c n1 (fun q=>n2 q.1) hb
theorem GK {f:FM}{deep room:Nat}(hr:2≤room) (hd:2≤deep) (ih:GJ f (deep - 1) (room - 1)):
  ∀(t:iR) (bs:List Str) (b:Nat),0≤t.n→t.n+8 * room < 700002→bs.length+deep < 800→(∀z∈bs,z.length≤8)→b≤3→
  ∃(d:D) (t':iR) (bin:Nat),aE 9 (cC jF f) [.b (tp t),.b (.dct (C5 b)),.t (.tup (bs.map D.str)),.t (.int room),.t (.int deep)]=some (.t d,[tp t',.dct (C5 ((b+bin:Nat):Int))])∧Dr deep bs room bin d∧b+bin≤3∧t.n≤t'.n∧t'.n+1≤t.n+8 * room:=by
 intro t bs b t0 t1 hl hs hb
 obtain⟨n,rfl⟩:∃n,deep=n+1:=⟨deep - 1,by omega⟩
 obtain⟨rm,rfl⟩:∃m,room=m+1:=⟨room - 1,by omega⟩
 have ih:GJ f n rm:=ih
 have er:(((rm+1:Nat):Int) - 1)=(rm:Int):=by omega
 have ed:(((n+1:Nat):Int) - 1)=(n:Int):=by omega
 have p1:=gD (t:=t) (m:=8) (by omega) (by omega) t0 (by omega)
 obtain⟨w0,w1⟩:=cE (t:=t) (m:=8) (by omega)
 have VG:(bq t 8).n=t.n+1:=gC t 8
 generalize cU t 8=w at *
 generalize bq t 8=ta at *
 by_cases c:w < 3∧(b:Int) < 3
 ·have p2:=gD (t:=ta) (m:=4) (by omega) (by omega) (by omega) (by omega)
  obtain⟨x0,x1⟩:=cE (t:=ta) (m:=4) (by omega)
  have NC:(bq ta 4).n=ta.n+1:=gC ta 4
  generalize cU ta 4=x at *
  generalize bq ta 4=tb at *
  have p3:=gD (t:=tb) (m:=(zI.length:Nat)) (by rw[uA];omega) (by rw[uA];omega) (by omega) (by omega)
  obtain⟨m0,m1⟩:=cE (t:=tb) (m:=(zI.length:Nat)) (by rw[uA];omega)
  have t3n:(bq tb (zI.length:Nat)).n=tb.n+1:=gC tb _
  generalize cU tb (zI.length:Nat)=m at *
  generalize bq tb (zI.length:Nat)=tc at *
  obtain⟨nm,a1,a2,a3⟩:=Kg m0 (by rw[uA] at m1;exact m1)
  obtain⟨xd,b1,b2⟩:=tN (x:=.bZ) (l:=[.str "x",.str "k",.str "a",.str "ab"]) x0 x1
  obtain⟨hd,d1,d2⟩:=tN (x:=.bZ) (l:=[.str "each",.str "one"]) (i:=w % 2) (Int.emod_nonneg _ (by decide)) (Int.emod_lt_of_pos _ (by decide))
  obtain⟨xs,rfl,xn,xl⟩:∃xs,xd= .str xs∧nameB (.str xs)=true∧xs.length≤8:=by
   simp only[List.mem_cons,List.not_mem_nil,or_false] at b2
   rcases b2 with rfl | rfl | rfl | rfl <;> exact⟨_,rfl,by decide +kernel,by decide⟩
  obtain⟨hs2,rfl,hbn,hhl,Gd⟩:∃z,hd= .str z∧bX z=true∧z.length≤8∧iL z=4∧dI z=3∧z≠"now"∧z≠"within":=by
   simp only[List.mem_cons,List.not_mem_nil,or_false] at d2
   rcases d2 with rfl | rfl <;> exact⟨_,rfl,by decide,by decide,by decide,by decide,by decide,by decide⟩
  obtain⟨l4,s3,n1,n2⟩:=Gd
  obtain⟨d,t',bin,g1,g2,g3,g4,g5⟩:=ih tc (bs++[xs]) (b+1) (by omega) (by omega) (by rw[List.length_append,List.length_singleton];omega) (by
   intro z hz
   rcases List.mem_append.mp hz with q | q
   ·exact hs z q
   ·rw[show z=xs by simpa using q];exact xl) (by omega)
  have ev:(bs++[xs]).map D.str=bs.map D.str++[.str xs]:=by rw[List.map_append];rfl
  have eb1:((b+1:Nat):Int)=(b:Int)+1:=by omega
  rw[ev,eb1] at g1
  have sh:fE bs hs2 [.str nm,.str xs,d]=true:=by
   unfold fE
   rw[if_pos (by rw[l4];rfl)]
   simp only[n1,n2,if_false,hbn,if_true,a2,xn]
   rfl
  have pl:bN hs2 [.str nm,.str xs,d]=[d]:=by unfold bN;rw[s3];rfl
  have ib:iX bs hs2 [.str nm,.str xs,d]=bs++[xs]:=by unfold iX;rw[if_pos hbn];rfl
  have dr:=VH (n:=n) (room:=rm) (b:=bin) (bs:=bs) (z:=hs2) (r:=[.str nm,.str xs,d]) sh pl (by rw[ib];exact g2) ⟨(by show 4≤8;omega),Eg hhl,Eg a3,Eg xl,g2.fit,True.intro⟩ (by
   have:=g2.dep
   show max 0 (max 0 (max 0 (max (cJ d) 0)))+1≤n+2
   omega)
  rw[if_pos hbn] at dr
  refine⟨_,t',1+bin,?_,dr,by omega,by omega,by omega⟩
  have VI:((b+(1+bin):Nat):Int)=((b+1+bin:Nat):Int):=by omega
  rw[VI]
  exact L3 (f1:=jF) (f2:=f) (ws:=C5 b) (Gg:=C5 ((b:Int)+1)) (EF:=C5 ((b+1+bin:Nat):Int)) p1 c.1 (Kf b) c.2 (by show 2 < 100000;omega) (PR b _) (Ke _) p2 b1 d1 p3 a1 (by rw[List.length_map];omega) (by rw[er,ed];exact g1)
 ·by_cases cw:w=3
  ·subst cw
   have p2:=gD (t:=ta) (m:=6) (by omega) (by omega) (by omega) (by omega)
   obtain⟨x0,x1⟩:=cE (t:=ta) (m:=6) (by omega)
   have NC:(bq ta 6).n=ta.n+1:=gC ta 6
   generalize cU ta 6=x at *
   generalize bq ta 6=tb at *
   obtain⟨d,t',bin,g1,g2,g3,g4,g5⟩:=ih tb bs b (by omega) (by omega) (by omega) hs hb
   have sh:fE bs "within" [.int x,d]=true:=by
    unfold fE
    rw[if_pos (by rw[C4.2];rfl)]
    simp only[show ¬(("within":Str)="now") by decide,if_false,if_true]
    show(decide (0≤x) && decide (x≤5))=true
    simp only[Bool.and_eq_true,decide_eq_true_eq]
    omega
   have pl:bN "within" [.int x,d]=[d]:=by unfold bN;rw[show dI "within" =2 by decide];rfl
   have nb:bX "within" =false:=by decide
   have ib:iX bs "within" [.int x,d]=bs:=by unfold iX;rw[if_neg (by rw[nb];simp)]
   have dr:=VH (n:=n) (room:=rm) (b:=bin) (bs:=bs) (z:="within") (r:=[.int x,d]) sh pl (by rw[ib];exact g2) ⟨(by show 3≤8;omega),(by show 6≤8;omega),True.intro,g2.fit,True.intro⟩ (by
    have:=g2.dep
    show max 0 (max 0 (max (cJ d) 0))+1≤n+2
    omega)
   rw[if_neg (by rw[nb];simp),Nat.zero_add] at dr
   exact⟨_,t',bin,Ec p1 p2 (by rw[er,ed];exact g1),dr,g3,by omega,by omega⟩
  ·obtain⟨d,t',bin,g1,g2,g3,g4,g5⟩:=ih ta bs b (by omega) (by omega) (by omega) hs hb
   obtain⟨hd,d1,d2⟩:=tN (x:=.bZ) (l:=[.str "not",.str "next",.str "always",.str "some"]) (i:=w % 4) (Int.emod_nonneg _ (by decide)) (Int.emod_lt_of_pos _ (by decide))
   obtain⟨z,rfl,nb,zl,l2,s1,n1,n2⟩:∃z,hd= .str z∧bX z=false∧z.length≤8∧iL z=2∧dI z=1∧z≠"now"∧z≠"within":=by
    simp only[List.mem_cons,List.not_mem_nil,or_false] at d2
    rcases d2 with rfl | rfl | rfl | rfl <;> exact⟨_,rfl,by decide,by decide,by decide,by decide,by decide,by decide⟩
   have sh:fE bs z [d]=true:=vp (by rw[l2];rfl) n1 n2 nb
   have pl:bN z [d]=[d]:=by unfold bN;rw[s1];rfl
   have ib:iX bs z [d]=bs:=by unfold iX;rw[if_neg (by rw[nb];simp)]
   have dr:=VH (n:=n) (room:=rm) (b:=bin) (bs:=bs) (z:=z) (r:=[d]) sh pl (by rw[ib];exact g2) ⟨(by show 2≤8;omega),Eg zl,g2.fit,True.intro⟩ (by
    have:=g2.dep
    show max 0 (max (cJ d) 0)+1≤n+2
    omega)
   rw[if_neg (by rw[nb];simp),Nat.zero_add] at dr
   exact⟨_,t',bin,L4 p1 (Kf b) c cw d1 (by rw[er,ed];exact g1),dr,g3,by omega,by omega⟩
theorem L5 : ∀ (deep : Nat), 1 ≤ deep → ∀ (j room : Nat), 2 * deep ≤ j → 1 ≤ room → room ≤ 100 → GJ (sD j) deep room := by
  intro deep
  induction deep with
  | zero=>intro h;omega
  | succ n ih=>
    intro _ j room hj hr hr9 t bs b t0 t1 hl hs hb
    obtain⟨i,rfl⟩:∃i,j=i+2:=⟨j - 2,by omega⟩
    have p1:=gD (t:=t) (m:=9) (by omega) (by omega) t0 (by omega)
    obtain⟨w0,w1⟩:=cE (t:=t) (m:=9) (by omega)
    have VG:(bq t 9).n=t.n+1:=gC t 9
    generalize cU t 9=w at *
    generalize bq t 9=ta at *
    show ∃d t' bin,aE 9 (bg jF kD (sD (i+1)) (GH (i+1))) _=_∧_
    by_cases c:(room:Int) < 2∨((n+1:Nat):Int) < 2∨w=0
    · by_cases c5:w % 5=4
      · have p2:=gD (t:=ta) (m:=2) (by omega) (by omega) (by omega) (by omega)
        obtain⟨v0,v1⟩:=cE (t:=ta) (m:=2) (by omega)
        have NC:(bq ta 2).n=ta.n+1:=gC ta 2
        generalize cU ta 2=v at *
        generalize bq ta 2=tb at *
        obtain⟨y,y1,y2⟩:=tN (x:=.bZ) (l:=[.str "yes",.str "no"]) v0 v1
        obtain⟨z,rfl,nb,zl,l2,s1,n1,n2⟩:∃z,y= .str z∧bX z=false∧z.length≤8∧iL z=1∧dI z=1∧z≠"now"∧z≠"within":=by
          simp only[List.mem_cons,List.not_mem_nil,or_false] at y2
          rcases y2 with rfl | rfl <;> exact⟨_,rfl,by decide,by decide,by decide,by decide,by decide,by decide⟩
        refine⟨_,tb,0,LZ p1 c c5 p2 y1,ZP (vp (by rw[l2];rfl) n1 n2 nb) (by unfold bN;rw[s1];rfl) nb hr ⟨(by show 1≤8;omega),Eg zl,True.intro⟩ (by show max 0 0+1≤n+2;omega),hb,by omega,by omega⟩
      · obtain⟨d,t',g1,g2,g3,g4,g5,g6⟩:=GG (t:=ta) (bs:=bs) (by omega) (by omega) (by omega) hs
        refine⟨_,t',0,L0 p1 c c5 (Ke b) g1,ZP (z:="now") (r:=[d]) ?_ (by unfold bN;rw[show dI "now" =2 by decide];rfl) (by decide) hr ⟨(by show 2≤8;omega),(by show 3≤8;omega),g3,True.intro⟩ (by show max 0 (max (cJ d) 0)+1≤n+2;omega),hb,by omega,by omega⟩
        unfold fE
        rw[if_pos (by rw[C4.1];rfl)]
        simp only[if_true]
        exact g2
    · have c1:¬(room:Int) < 2:=fun q=>c (.inl q)
      have c2:¬((n+1:Nat):Int) < 2:=fun q=>c (.inr (.inl q))
      have c3:¬w=0:=fun q=>c (.inr (.inr q))
      have ed:(((n+1:Nat):Int) - 1)=(n:Int):=by omega
      by_cases c4:w < 5∧2 < (room:Int)
      · have p2:=gD (t:=ta) (m:=(room:Int) - 2) (by omega) (by omega) (by omega) (by omega)
        obtain⟨v0,v1⟩:=cE (t:=ta) (m:=(room:Int) - 2) (by omega)
        have NC:(bq ta ((room:Int) - 2)).n=ta.n+1:=gC ta _
        generalize cU ta ((room:Int) - 2)=v at *
        generalize bq ta ((room:Int) - 2)=tb at *
        obtain⟨r1,hr1⟩:∃r1:Nat,(r1:Int)=1+v:=⟨(1+v).toNat,by omega⟩
        obtain⟨r2,hr2⟩:∃r2:Nat,(r2:Int)=(room:Int) - 1 - (1+v):=⟨((room:Int) - 1 - (1+v)).toNat,by omega⟩
        obtain⟨d1,ta1,b1,g1,g2,g3,g4,g5⟩:=ih (by omega) (i+1) r1 (by omega) (by omega) (by omega) tb bs b (by omega) (by omega) (by omega) hs hb
        obtain⟨d2,ta2,b2,k1,k2,k3,k4,k5⟩:=ih (by omega) (i+1) r2 (by omega) (by omega) (by omega) ta1 bs (b+b1) (by omega) (by omega) (by omega) hs g3
        obtain⟨y,y1,y2⟩:=tN (x:=.bZ) (l:=[.str "both",.str "either",.str "till",.str "till"]) (i:=w - 1) (by omega) (by simp only[List.length_cons,List.length_nil];omega)
        obtain⟨z,rfl,nb,zl,l2,s1,n1,n2⟩:∃z,y= .str z∧bX z=false∧z.length≤8∧iL z=3∧dI z=1∧z≠"now"∧z≠"within":=by
          simp only[List.mem_cons,List.not_mem_nil,or_false] at y2
          rcases y2 with rfl | rfl | rfl | rfl <;> exact⟨_,rfl,by decide,by decide,by decide,by decide,by decide,by decide⟩
        have dr:=dr2 (n:=n) (bs:=bs) (z:=z) (r:=[d1,d2]) (vp (by rw[l2];rfl) n1 n2 nb) (by unfold bN;rw[s1];rfl) nb g2 k2 ⟨(by show 3≤8;omega),Eg zl,g2.fit,k2.fit,True.intro⟩ (by
          have:=g2.dep
          have:=k2.dep
          show max 0 (max (cJ d1) (max (cJ d2) 0))+1≤n+2
          omega)
        have VI:((b+(b1+b2):Nat):Int)=((b+b1+b2:Nat):Int):=by omega
        refine⟨_,ta2,b1+b2,?_,dr.more (by omega),by omega,by omega,by omega⟩
        rw[VI]
        rw[hr1] at g1
        rw[hr2] at k1
        exact L1 p1 c1 c2 c3 c4.1 c4.2 p2 (by rw[ed];exact g1) (by rw[ed];exact k1) y1
      · obtain⟨d,t',bin,g1,g2,g3,g4,g5⟩:=GK (f:=sD i) (deep:=n+1) (room:=room) (by omega) (by omega) (ih (by omega) i (room - 1) (by omega) (by omega) (by omega)) ta bs b (by omega) (by omega) hl hs hb
        exact⟨d,t',bin,PU p1 c1 c2 c3 c4 g1,g2,g3,by omega,by omega⟩
end Ss
end
section
set_option Elab.async false
set_option linter.all false
set_option maxRecDepth 100000
namespace Ss
open PySem PySem.Spec PyProof.Rows L2 Sw
theorem vq {f g:D→List D}:∀{ps:List D},(∀p∈ps,f p=g p)→ps.flatMap f=ps.flatMap g
 | [],_=>rfl
 | p :: ps,h=>by rw[List.flatMap_cons,List.flatMap_cons,h p List.mem_cons_self,vq fun q hq=>h q (List.mem_cons_of_mem _ hq)]
theorem yh:∀{n:Nat}{bs:List Str}{d:D},iH n bs d=true→iH (n+1) bs d=true∧lI (n+1) d=lI n d
 | 0,_,_,h=>by cases h
 | n+1,bs,d,h=>by
  obtain⟨z,r,rfl,h1,h2⟩:=vn h
  have up:=fun p hp=>yh (h2 p hp)
  refine⟨(mj (n+1) bs z r).mpr ⟨h1,fun p hp=>(up p hp).1⟩,?_⟩
  show(.tup (.str z :: r):D) :: (bN z r).flatMap (lI (n+1))= .tup (.str z :: r) :: (bN z r).flatMap (lI n)
  rw[vq fun p hp=>(up p hp).2]
theorem Eh {n m:Nat}{bs:List Str}{d:D}(hm:n≤m) (h:iH n bs d=true):iH m bs d=true∧lI m d=lI n d:=by
  induction m with
  | zero => obtain rfl : n = 0 := by omega
            exact⟨h,rfl⟩
  | succ m ih=>
    by_cases e:n=m+1
    · subst e;exact⟨h,rfl⟩
    · obtain⟨a,b⟩:=ih (by omega)
      obtain⟨c,d⟩:=yh a
      exact⟨c,d.trans b⟩
theorem Dr.say {deep room bin:Nat}{d:D}(h:Dr deep [] room bin d) (h1:deep≤8) (h2:room≤16) (h3:bin≤3):LX d=true:=by
 obtain⟨a,b⟩:=Eh h1 h.fm
 have s:=h.sz
 have n:=h.bn
 unfold dH at s
 unfold iz at n
 unfold LX dH iz
 rw[a,b]
 simp only[Bool.true_and,Bool.and_eq_true,decide_eq_true_eq]
 omega
noncomputable def g7 (aZ:FM):GS:=
 (eZ (bW aZ (iG (aC 0) (iG (qH [("names",(eF (aC 1))),("binders",(eC (.int 0)))]) (bh (eF (eP eu aA)) (bh (eF (aC 2)) (bh (eF (aC 3)) br)))))))
noncomputable def vt:FM:=aE 4 (g7 (sD 17))
theorem B4:∀us r,vt us=some r→aE 4 (g7 (sD 17)) us=some r:=fun _ _ h=>h
theorem PX:dh [] [((.inr "names":Key),D.lst zI),(.inr "binders",.int 0)]=C5 0:=rfl
theorem Ei {t:iR}{room deep:Nat}(h0:0≤t.n) (h1:t.n < 600000) (r1:1≤room) (r2:room≤16) (d1:1≤deep) (d2:deep≤8):
  ∃d t',vt [.b (tp t),.t (.lst zI),.t (.int room),.t (.int deep)]=some (.t d,[tp t'])∧LX d=true∧wz 8 d∧cJ d≤9∧t.n≤t'.n∧t'.n≤t.n+128:=by
 obtain⟨d,t',bin,g1,g2,g3,g4,g5⟩:=L5 deep d1 17 room (by omega) r1 (by omega) t [] 0 h0 (by omega) (by simp only[List.length_nil];omega) (by simp) (by omega)
 have dp:=g2.dep
 refine⟨d,t',?_,g2.say d2 r2 (by omega),g2.fit,by omega,g4,by omega⟩
 have g1:sD 17 [.b (tp t),.b (.dct (C5 0)),.t (.tup []),.t (.int room),.t (.int deep)]=some (.t d,[tp t',.dct (C5 ((0+bin:Nat):Int))]):=g1
 have w0:=PX
 show aE 4 (g7 (sD 17)) _=_
 generalize sD 17=f at *
 generalize zI=nl at *
 simp[aE,g7,aD,w0,g1]
end Ss
end
section
set_option Elab.async false
set_option linter.all false
set_option maxRecDepth 100000
namespace Sp
open PySem PySem.Spec PyProof.Rows L2 Sw Ss
noncomputable def Kl:List Str:=["not","next","always","some"]
noncomputable def Km:List Str:=["both","either","till"]
inductive Ts (bs:List Str):D→Prop where
 | any:Ts bs (.tup [.str "any"])
 | name {a:Str}:nameB (.str a)=true→Ts bs (.tup [.str "name",.str a])
 | num {o:Str}{k:Int}:o∈ue→0≤k→k≤9→Ts bs (.tup [.str o,.int k])
 | var {o y:Str}:o∈ue→y∈bs→Ts bs (.tup [.str o,.str y])
inductive Sy:Nat→List Str→D→Prop where
 | leaf {n:Nat}{bs:List Str}{z:Str}:z="yes"∨z="no"→Sy (n+1) bs (.tup [.str z])
 | now {n:Nat}{bs:List Str}{t:D}:Ts bs t→Sy (n+1) bs (.tup [.str "now",t])
 | one {n:Nat}{bs:List Str}{z:Str}{p:D}:z∈Kl→Sy n bs p→Sy (n+1) bs (.tup [.str z,p])
 | two {n:Nat}{bs:List Str}{z:Str}{p q:D}:z∈Km→Sy n bs p→Sy n bs q→Sy (n+1) bs (.tup [.str z,p,q])
 | Jm {n:Nat}{bs:List Str}{k:Int}{p:D}:0≤k→k≤5→Sy n bs p→Sy (n+1) bs (.tup [.str "within",.int k,p])
 | bnd {n:Nat}{bs:List Str}{z a y:Str}{p:D}:z="each"∨z="one"→nameB (.str a)=true→nameB (.str y)=true→Sy n (bs++[y]) p→Sy (n+1) bs (.tup [.str z,.str a,.str y,p])
theorem C6 {x:D}{zs:List Str}(h:inD x (zs.map D.str)=true):∃z∈zs,x= .str z:=by
 unfold inD at h
 rw[List.any_map,List.any_eq_true] at h
 obtain⟨z,hz,e⟩:=h
 exact⟨z,hz,su (show lT (.str z) x=true from e)⟩
theorem C7 {z:Str}{zs:List Str}(h:z∈zs):inD (.str z) (zs.map D.str)=true:=by
 unfold inD
 rw[List.any_map,List.any_eq_true]
 exact⟨z,h,ng _⟩
theorem yi {b:D}{m:Int}(h:kg b 0 m=true):∃k,b= .int k∧0≤k∧k≤m:=by
 cases b with
 | int k=>simp only[kg,Bool.and_eq_true,decide_eq_true_eq] at h;exact⟨k,rfl,h.1,h.2⟩
 | _=>cases h
theorem Ts.of {bs : List Str} {t : D} (h : yf bs t = true) : Ts bs t := by
  unfold yf at h
  split at h
  · rename_i a
    have:lT (.str "any") a=true:=by cases a <;> simp[lT] at h ⊢;exact h.symm
    rw[su this]
    exact .any
  · rename_i a b
    split at h
    · rename_i c
      have:lT (.str "name") a=true:=by cases a <;> simp[lT] at c ⊢;exact c.symm
      rw[su this]
      obtain⟨y,rfl⟩:=nB h
      exact .name h
    · obtain⟨h1,h2⟩:=Bool.and_eq_true_iff.mp h
      obtain⟨o,ho,rfl⟩:=C6 h1
      rcases Bool.or_eq_true_iff.mp h2 with q | q
      · obtain⟨k,rfl,k0,k1⟩:=yi q
        exact .num ho k0 k1
      · obtain⟨y,hy,rfl⟩:=C6 q
        exact .var ho hy
  · cases h
theorem GL {o:Str}(h:o∈ue):o≠"name"∧o≠"any":=by
 simp only[ue,List.mem_cons,List.not_mem_nil,or_false] at h
 rcases h with rfl | rfl | rfl <;> decide
theorem Sy.of:∀{n:Nat}{bs:List Str}{d:D},iH n bs d=true→Sy n bs d
  | 0,_,_,h=>by cases h
  | n + 1, bs, d, h => by
    obtain⟨z,r,rfl,hs,hp⟩:=vn h
    obtain⟨c,hh,hz⟩:=BY hs
    unfold fE at hs
    rw[if_pos c] at hs
    simp only[jl,List.mem_cons,List.not_mem_nil,or_false] at hz
    have two:∀{k:Nat},iL z=(k:Int)+1→r.length=k:=fun e=>by omega
    have l0:r.length=0→r=[]:=List.eq_nil_of_length_eq_zero
    have l1:r.length=1→∃a,r=[a]:=fun e=>by match r,e with | [a],_=>exact⟨a,rfl⟩
    have l2:r.length=2→∃a b,r=[a,b]:=fun e=>by match r,e with | [a,b],_=>exact⟨a,b,rfl⟩
    have l3:r.length=3→∃a b p,r=[a,b,p]:=fun e=>by match r,e with | [a,b,p],_=>exact⟨a,b,p,rfl⟩
    rcases hz with rfl | rfl | rfl | rfl | rfl | rfl | rfl | rfl | rfl | rfl | rfl | rfl | rfl
    · rw[l0 (two (k:=0) (by decide))];exact .leaf (.inl rfl)
    · rw[l0 (two (k:=0) (by decide))];exact .leaf (.inr rfl)
    · obtain⟨a,rfl⟩:=l1 (two (k:=1) (by decide));exact .now (.of hs)
    · obtain⟨a,rfl⟩:=l1 (two (k:=1) (by decide));exact .one (by decide) (Sy.of (hp a (by show a∈[a];simp)))
    · obtain⟨a,b,rfl⟩:=l2 (two (k:=2) (by decide));exact .two (by decide) (Sy.of (hp a (by show a∈[a,b];simp))) (Sy.of (hp b (by show b∈[a,b];simp)))
    · obtain⟨a,b,rfl⟩:=l2 (two (k:=2) (by decide));exact .two (by decide) (Sy.of (hp a (by show a∈[a,b];simp))) (Sy.of (hp b (by show b∈[a,b];simp)))
    · obtain⟨a,rfl⟩:=l1 (two (k:=1) (by decide));exact .one (by decide) (Sy.of (hp a (by show a∈[a];simp)))
    · obtain⟨a,b,rfl⟩:=l2 (two (k:=2) (by decide));exact .two (by decide) (Sy.of (hp a (by show a∈[a,b];simp))) (Sy.of (hp b (by show b∈[a,b];simp)))
    · obtain⟨a,b,rfl⟩:=l2 (two (k:=2) (by decide));obtain⟨k,rfl,k0,k1⟩:=yi (m:=5) hs;exact .Jm k0 k1 (Sy.of (hp b (by show b∈[b];simp)))
    · obtain⟨a,rfl⟩:=l1 (two (k:=1) (by decide));exact .one (by decide) (Sy.of (hp a (by show a∈[a];simp)))
    · obtain⟨a,rfl⟩:=l1 (two (k:=1) (by decide));exact .one (by decide) (Sy.of (hp a (by show a∈[a];simp)))
    · obtain⟨a,b,p,rfl⟩:=l3 (two (k:=3) (by decide))
      obtain⟨h1,h2⟩:=Bool.and_eq_true_iff.mp (show(nameB a && nameB b)=true from hs)
      obtain⟨x,rfl⟩:=nB h1;obtain⟨y,rfl⟩:=nB h2
      exact .bnd (.inl rfl) h1 h2 (Sy.of (hp p (by show p∈[p];simp)))
    · obtain⟨a,b,p,rfl⟩:=l3 (two (k:=3) (by decide))
      obtain⟨h1,h2⟩:=Bool.and_eq_true_iff.mp (show(nameB a && nameB b)=true from hs)
      obtain⟨x,rfl⟩:=nB h1;obtain⟨y,rfl⟩:=nB h2
      exact .bnd (.inr rfl) h1 h2 (Sy.of (hp p (by show p∈[p];simp)))
theorem jr {z:Str}(h:z∈Kl):z="not"∨z="next"∨z="always"∨z="some":=by simpa[Kl] using h
theorem lK {z:Str}(h:z∈Km):z="both"∨z="either"∨z="till":=by simpa[Km] using h
theorem Ts.mono {bs cs:List Str}{t:D}(h:Ts bs t) (k:∀y∈bs,y∈cs):Ts cs t:=by
 cases h with
 | any=>exact .any
 | name h=>exact .name h
 | num a b c=>exact .num a b c
 | var a b=>exact .var a (k _ b)
theorem Sy.mono {n:Nat}{bs:List Str}{d:D}(h:Sy n bs d):∀{cs:List Str},(∀y∈bs,y∈cs)→Sy n cs d:=by
 induction h with
 | leaf h=>exact fun _=>.leaf h
 | now h=>exact fun k=>.now (h.mono k)
 | one hz _ ih=>exact fun k=>.one hz (ih k)
 | two hz _ _ i1 i2=>exact fun k=>.two hz (i1 k) (i2 k)
 | Jm a b _ ih=>exact fun k=>.Jm a b (ih k)
 | bnd hz a b _ ih=>exact fun k=>.bnd hz a b (ih fun y hy=>by
   rcases List.mem_append.mp hy with q | q
   ·exact List.mem_append.mpr (.inl (k y q))
   ·exact List.mem_append.mpr (.inr q))
end Sp
end
section
set_option Elab.async false
set_option linter.all false
set_option maxRecDepth 100000
namespace Sf
open PySem PySem.Spec PyProof.Rows L2 Sw Ss Sp
noncomputable def tW:D→Str
 | .str z=>z
 | .int k=>toString k
 | _=>""
noncomputable def wI:D→List Str
 | .tup ts=>ts.map tW
 | _=>[]
noncomputable def ju:Nat→D→List Str
 | n+1,.tup [.str z]=>[z]
 | n+1,.tup [.str z,p]=>if z="now" then z :: wI p else z :: ju n p
 | n+1,.tup [.str z,p,q]=>if z="within" then z :: tW p :: ju n q else z :: (ju n p++ju n q)
 | n+1,.tup [.str z,a,y,p]=>z :: tW a :: tW y :: ju n p
 | _,_=>[]
theorem Ax {n:Nat}{z:Str}:ju (n+1) (.tup [.str z])=[z]:=rfl
theorem qW {n:Nat}{t:D}:ju (n+1) (.tup [.str "now",t])=("now":Str) :: wI t:=by show(if _ then _ else _)=_;rw[if_pos rfl]
theorem qX {n:Nat}{z:Str}{p:D}(h:z≠"now"):ju (n+1) (.tup [.str z,p])=z :: ju n p:=by show(if _ then _ else _)=_;rw[if_neg h]
theorem qY {n:Nat}{z:Str}{p q:D}(h:z≠"within"):ju (n+1) (.tup [.str z,p,q])=z :: (ju n p++ju n q):=by show(if _ then _ else _)=_;rw[if_neg h]
theorem qZ {n:Nat}{p q:D}:ju (n+1) (.tup [.str "within",p,q])=("within":Str) :: tW p :: ju n q:=by show(if _ then _ else _)=_;rw[if_pos rfl]
theorem q8 {n:Nat}{z:Str}{a y p:D}:ju (n+1) (.tup [.str z,a,y,p])=z :: tW a :: tW y :: ju n p:=rfl
noncomputable def sL (ws:List Str):List D:=ws.map D.str
theorem GN {z:Str}(h:z∈Kl):z≠"now":=by rcases jr h with rfl | rfl | rfl | rfl <;> decide
theorem pX {z:Str}(h:z∈Km):z≠"within":=by rcases lK h with rfl | rfl | rfl <;> decide
theorem yj (a b:List Str):sL (a++b)=sL a++sL b:=List.map_append
theorem pY (a:List Str):(sL a).length=a.length:=List.length_map ..
theorem mq (z:Str):ve [.str z]=some (.t (.str z)):=rfl
theorem zg {k:Int}(h0:0≤k) (h9:k≤9):ve [.int k]=some (.t (.str (toString k))):=by
 show(if k.natAbs < 10 ^ 30 then some (U.t (.str (toString k))) else none)=_
 rw[if_pos (by omega)]
noncomputable def jJ (jv:FM) (dQ:FM):GS:=
 (mO (eT (eM 3 j0 (aa (eF (bW dQ (bh (eF (aC 4)) br))) aA))))
noncomputable def bK (jv:FM) (dQ:FM):GS:=
 (bD (dR 1 (bW jv (bh (eF (aC 0)) br)))
 (bD (dR 2 (Ua (qB (eF (eP BH (aa (gZ 0 (eC (.int 0))) (aa (eC (.str "now")) aA))))) (eT (gZ 0 (eC (.int 1)))) (OX (eF (aC 0)) (some (eC (.int 1))) (some (eF (eP oZ (aa (rZ 0) (aa (rZ 1) aA))))))))
 (bD (dR 3 (eP iF (aa (eF (eP iT (aa (gZ 0 (eC (.int 0))) aA))) (aa (eF (xH [] (z4 (eF (aC 2))) iU (eF (eP ve (aa (eF (aC 0)) aA))))) aA))))
 (bD (DM (bName 4) (z4 (eF (aC 1))) (jJ jv dQ))
 (eZ (aC 3))))))
section
variable {f1 f2:FM}{z:Str}{p q:D}{wp wq:List Str}
theorem L6 {ds:List D}{w:List Str}(h:ds.length+w.length≤100000):j0 [.lst (sL w)] (.lst ds)=some (.bZ,.lst (ds++sL w)):=by
 show(if _ then _ else _)=_
 rw[if_pos (by rw[pY];exact h)]
theorem VJ (a:D):L2.cutD [a] (some 1) (some 1)=[]:=rfl
theorem VL (a b:D):L2.cutD [a,b] (some 1) (some 1)=[]:=rfl
theorem VM (a b c:D):L2.cutD [a,b,c] (some 1) (some 1)=[]:=rfl
theorem VN (a b c:D):L2.cutD [a,b,c] (some 1) (some 2)=[b]:=rfl
theorem VO (a b c d:D):L2.cutD [a,b,c,d] (some 1) (some 3)=[b,c]:=rfl
theorem Ay {w:D→List Str}{a0 a1 a2:Option U}:∀(pl:List D) (ws:List Str) (x4:Option U),qR x4=false→(∀p∈pl,f2 [.t p]=some (.m (.lst (sL (w p))),[]))→ws.length+(pl.flatMap w).length≤90000→
  ∃y4,qR y4=false∧loop (bName 4) (jJ f1 f2) pl [a0,a1,a2,some (.m (.lst (sL ws))),x4]=some (.nx [a0,a1,a2,some (.m (.lst (sL (ws++pl.flatMap w)))),y4])
 | [],ws,x4,h4,_,_=>⟨x4,h4,by simp[loop]⟩
 | p :: pl,ws,x4,h4,hp,hl=>by
  have e2:=hp p List.mem_cons_self
  rw[List.flatMap_cons,List.length_append] at hl
  have x1:=L6 (ds:=sL ws) (w:=w p) (by rw[pY];omega)
  rw[←yj] at x1
  obtain⟨y4,q4,lp⟩:=Ay (a0:=a0) (a1:=a1) (a2:=a2) pl (ws++w p) (some (.t p)) rfl (fun q hq=>hp q (List.mem_cons_of_mem _ hq)) (by rw[List.length_append];omega)
  refine⟨y4,q4,?_⟩
  have eb:bName 4 p [a0,a1,a2,some (.m (.lst (sL ws))),x4]=some [a0,a1,a2,some (.m (.lst (sL ws))),some (.t p)]:=by simp[-vg,qT,h4]
  have tr:jJ f1 f2 [a0,a1,a2,some (.m (.lst (sL ws))),some (.t p)]=some (.nx [a0,a1,a2,some (.m (.lst (sL (ws++w p)))),some (.t p)]):=by simp[jJ,e2,x1,Lq,qz]
  show(bName 4 p _).bind (fun S1=>(jJ f1 f2 S1).bind _)=_
  rw[eb,Option.bind_some,tr,Option.bind_some,List.flatMap_cons,←List.append_assoc]
  exact lp
theorem Jo (hz:z≠"now") (e1:f1 [.t (.tup [.str z])]=some (.t (.tup []),[])):aE 5 (bK f1 f2) [.t (.tup [.str z])]=some (.m (.lst (sL [z])),[]):=by
 simp[aE,bK,e1,hz,gz,iw,d7,slotsOf,aT,aO,wb,iU,aD,sL,ez,VJ]
theorem R8 (z:Str):[D.str z]=sL [z]:=rfl
theorem L7 {w:D→List Str}(hz:z≠"now") (e1:f1 [.t (.tup [.str z,p])]=some (.t (.tup [p]),[])) (e2:f2 [.t p]=some (.m (.lst (sL (w p))),[])) (hl:(w p).length≤80000):aE 5 (bK f1 f2) [.t (.tup [.str z,p])]=some (.m (.lst (sL (z :: w p))),[]):=by
 obtain⟨y4,_,lp⟩:=Ay (f1:=f1) (f2:=f2) (w:=w) (a0:=some (.t (.tup [.str z,p]))) (a1:=some (.t (.tup [p]))) (a2:=some (.t (.tup []))) [p] [z] none rfl (fun q hq=>by rw[List.mem_singleton.mp hq];exact e2) (by simp;omega)
 rw[←R8] at lp
 simp[aE,bK,e1,hz,gz,iw,d7,slotsOf,aT,aO,wb,iU,aD,ez,VL,lp]
theorem L8 {w:D→List Str}(hz:z≠"now") (e1:f1 [.t (.tup [.str z,p,q])]=some (.t (.tup [p,q]),[])) (e2:f2 [.t p]=some (.m (.lst (sL (w p))),[])) (e3:f2 [.t q]=some (.m (.lst (sL (w q))),[])) (hl:(w p).length+(w q).length≤80000):aE 5 (bK f1 f2) [.t (.tup [.str z,p,q])]=some (.m (.lst (sL (z :: (w p++w q)))),[]):=by
 obtain⟨y4,_,lp⟩:=Ay (f1:=f1) (f2:=f2) (w:=w) (a0:=some (.t (.tup [.str z,p,q]))) (a1:=some (.t (.tup [p,q]))) (a2:=some (.t (.tup []))) [p,q] [z] none rfl (fun r hr=>by
  rcases List.mem_cons.mp hr with e | e
  ·rw[e];exact e2
  ·rw[List.mem_singleton.mp e];exact e3) (by simp;omega)
 rw[←R8] at lp
 simp[aE,bK,e1,hz,gz,iw,d7,slotsOf,aT,aO,wb,iU,aD,ez,VM,lp]
theorem Ma {w:D→List Str}{k:Int}(h0:0≤k) (h9:k≤9) (hz:z≠"now") (e1:f1 [.t (.tup [.str z,.int k,p])]=some (.t (.tup [p]),[])) (e2:f2 [.t p]=some (.m (.lst (sL (w p))),[])) (hl:(w p).length≤80000):aE 5 (bK f1 f2) [.t (.tup [.str z,.int k,p])]=some (.m (.lst (sL (z :: tW (.int k) :: w p))),[]):=by
 obtain⟨y4,_,lp⟩:=Ay (f1:=f1) (f2:=f2) (w:=w) (a0:=some (.t (.tup [.str z,.int k,p]))) (a1:=some (.t (.tup [p]))) (a2:=some (.t (.tup [.int k]))) [p] [z,tW (.int k)] none rfl (fun q hq=>by rw[List.mem_singleton.mp hq];exact e2) (by simp;omega)
 rw[show sL [z,tW (.int k)]=[D.str z,.str (toString k)] from rfl] at lp
 have e5:=zg h0 h9
 have e6:tW (.int k)=(toString k:Str):=rfl
 rw[e6] at lp ⊢
 generalize (Str.ofString (toString k))=tk at e5 lp ⊢
 simp[aE,bK,e1,hz,gz,iw,d7,slotsOf,aT,aO,wb,iU,aD,ez,VN,e5,lp]
theorem Mb {w:D→List Str}{a y:Str}(hz:z≠"now") (e1:f1 [.t (.tup [.str z,.str a,.str y,p])]=some (.t (.tup [p]),[])) (e2:f2 [.t p]=some (.m (.lst (sL (w p))),[])) (hl:(w p).length≤80000):aE 5 (bK f1 f2) [.t (.tup [.str z,.str a,.str y,p])]=some (.m (.lst (sL (z :: a :: y :: w p))),[]):=by
 obtain⟨y4,_,lp⟩:=Ay (f1:=f1) (f2:=f2) (w:=w) (a0:=some (.t (.tup [.str z,.str a,.str y,p]))) (a1:=some (.t (.tup [p]))) (a2:=some (.t (.tup [.str a,.str y]))) [p] [z,a,y] none rfl (fun q hq=>by rw[List.mem_singleton.mp hq];exact e2) (by simp;omega)
 rw[show sL [z,a,y]=[D.str z,.str a,.str y] from rfl] at lp
 simp[aE,bK,e1,hz,gz,iw,d7,slotsOf,aT,aO,wb,iU,aD,ez,VO,mq,lp]
theorem Mc {t:D}{bs:List Str}(h:Ts bs t) (e1:f1 [.t (.tup [.str "now",t])]=some (.t (.tup []),[])):aE 5 (bK f1 f2) [.t (.tup [.str "now",t])]=some (.m (.lst (sL ("now" :: wI t))),[]):=by
 cases h with
 | any=>simp[aE,bK,e1,gz,iw,d7,slotsOf,aT,aO,wb,iU,aD,ez,fQ,mq,wI,tW,sL]
 | name _=>simp[aE,bK,e1,gz,iw,d7,slotsOf,aT,aO,wb,iU,aD,ez,fQ,mq,wI,tW,sL]
 | num _ h0 h9=>simp[aE,bK,e1,gz,iw,d7,slotsOf,aT,aO,wb,iU,aD,ez,fQ,mq,zg h0 h9,wI,tW,sL]
 | var _ _=>simp[aE,bK,e1,gz,iw,d7,slotsOf,aT,aO,wb,iU,aD,ez,fQ,mq,wI,tW,sL]
end
theorem oG:∀{n:Nat}{bs:List Str}{d:D},Sy n bs d→(ju n d).length+4≤8 * 2 ^ n
 | _,_,_,.leaf (n:=n) _=>by
  rw[Ax]
  have:1≤2 ^ n:=Nat.one_le_two_pow
  rw[Nat.pow_succ]
  show 1+4≤_
  omega
 | _,_,_,.now (n:=n) h=>by
  rw[qW]
  have:1≤2 ^ n:=Nat.one_le_two_pow
  rw[Nat.pow_succ]
  cases h <;> (show _+1+4≤_;simp[wI];omega)
 | _,_,_,.one (n:=n) hz hp=>by
  have:=oG hp
  rw[qX (GN hz),Nat.pow_succ]
  show _+1+4≤_
  omega
 | _,_,_,.two (n:=n) hz hp hq=>by
  have:=oG hp
  have:=oG hq
  rw[qY (pX hz),Nat.pow_succ]
  rw[List.length_cons,List.length_append]
  omega
 | _,_,_,.Jm (n:=n) _ _ hp=>by
  have:=oG hp
  rw[qZ,Nat.pow_succ]
  show _+1+1+4≤_
  omega
 | _,_,_,.bnd (n:=n) _ _ _ hp=>by
  have:=oG hp
  rw[q8,Nat.pow_succ]
  show _+1+1+1+4≤_
  omega
theorem g8 {n:Nat}{bs:List Str}{d:D}(h:Sy n bs d) (hn:n≤8):(ju n d).length≤2048:=by
 have a:=oG h
 have b:2 ^ n≤2 ^ 8:=Nat.pow_le_pow_right (by decide) hn
 have c:2 ^ 8=256:=rfl
 omega
noncomputable def nC:Nat→FM
 | 0=>fun _=>none
 | j+1=>aE 5 (bK pW (nC j))
theorem Ej (j:Nat):∀us r,nC (j+1) us=some r→aE 5 (bK pW (nC j)) us=some r:=fun _ _ h=>h
theorem Az (us:List U):nC 0 us=none:=rfl
theorem oH {z:Str}{r:List D}(hz:z∈jl){pl:List D}(h:(.str z :: r).drop (dI z)=pl):pW [.t (.tup (.str z :: r))]=some (.t (.tup pl),[]):=by rw[GC (C3 z hz),h]
theorem q9 {z:Str}(h:z∈Kl):z∈jl∧dI z=1∧bX z=false∧z≠"now":=by rcases jr h with rfl | rfl | rfl | rfl <;> decide
theorem rq {z:Str}(h:z∈Km):z∈jl∧dI z=1∧bX z=false∧z≠"now":=by rcases lK h with rfl | rfl | rfl <;> decide
theorem oJ {z:Str}(h:z="yes"∨z="no"):z∈jl∧dI z=1∧bX z=false∧z≠"now":=by rcases h with rfl | rfl <;> decide
theorem vA:("within":Str)∈jl∧dI "within" =2∧bX "within" =false∧("within":Str)≠"now":=by decide
theorem rA {z:Str}(h:z="each"∨z="one"):z∈jl∧dI z=3∧bX z=true∧z≠"now":=by rcases h with rfl | rfl <;> decide
theorem nD:("now":Str)∈jl∧dI "now" =2:=by decide
theorem GO {n:Nat}{bs:List Str}{d:D}(h:Sy n bs d):∀{j:Nat},n≤j→n≤8→nC j [.t d]=some (.m (.lst (sL (ju n d))),[]):=by
 induction h with
 | leaf hz=>
  intro j hj _
  obtain⟨i,rfl⟩:∃i,j=i+1:=⟨j - 1,by omega⟩
  obtain⟨a,b,c,d⟩:=oJ hz
  exact Jo d (oH a (by rw[b];rfl))
 | now ht=>
  intro j hj _
  obtain⟨i,rfl⟩:∃i,j=i+1:=⟨j - 1,by omega⟩
  rw[qW]
  exact Mc ht (oH nD.1 (by rw[nD.2];rfl))
 | @one n bs z p hz hp ih=>
  intro j hj hn
  obtain⟨i,rfl⟩:∃i,j=i+1:=⟨j - 1,by omega⟩
  obtain⟨a,b,c,d⟩:=q9 hz
  have f:=g8 hp (by omega)
  rw[qX d]
  exact L7 (w:=ju n) d (oH a (by rw[b];rfl)) (ih (by omega) (by omega)) (by omega)
 | @two n bs z p q hz hp hq Jp Jq=>
  intro j hj hn
  obtain⟨i,rfl⟩:∃i,j=i+1:=⟨j - 1,by omega⟩
  obtain⟨a,b,c,d⟩:=rq hz
  have f:=g8 hp (by omega)
  have g:=g8 hq (by omega)
  rw[qY (pX hz)]
  exact L8 (w:=ju n) d (oH a (by rw[b];rfl)) (Jp (by omega) (by omega)) (Jq (by omega) (by omega)) (by omega)
 | @Jm n bs k p h0 h5 hp ih=>
  intro j hj hn
  obtain⟨i,rfl⟩:∃i,j=i+1:=⟨j - 1,by omega⟩
  obtain⟨a,b,c,d⟩:=vA
  have f:=g8 hp (by omega)
  rw[qZ]
  exact Ma (w:=ju n) h0 (by omega) d (oH a (by rw[b];rfl)) (ih (by omega) (by omega)) (by omega)
 | @bnd n bs z a y p hz ha hy hp ih=>
  intro j hj hn
  obtain⟨i,rfl⟩:∃i,j=i+1:=⟨j - 1,by omega⟩
  obtain⟨a1,b,c,d⟩:=rA hz
  have f:=g8 hp (by omega)
  rw[q8]
  exact Mb (w:=ju n) d (oH a1 (by rw[b];rfl)) (ih (by omega) (by omega)) (by omega)
end Sf
end
section
set_option Elab.async false
set_option linter.all false
set_option maxRecDepth 100000
namespace Sf
open PySem PySem.Spec PyProof.Rows L2 Sw Ss Sp
variable {C:Addr}{L:List Str}{k:Nat}{s b:Int}{w:Str}
noncomputable def zJ (L:List Str) (k:Nat) (s b:Int):List (Str×D):=[("words",.lst (sL L)),("at",.int k),("sayings",.int s),("binders",.int b)]
noncomputable def rd (C:Addr) (L:List Str) (k:Nat) (s b:Int):MO:=.ins C (zJ L k s b)
theorem VP:(zJ L k s b).lookup ("at":Str)=some (.int k):=rfl
theorem VQ:(zJ L k s b).lookup ("sayings":Str)=some (.int s):=rfl
theorem VR:(zJ L k s b).lookup ("binders":Str)=some (.int b):=rfl
theorem VS:(zJ L k s b).length=4:=rfl
theorem nF (i:Nat) (f:Str) (S:SS):kM C i f S=(kN C S i).bind fun kvs=>(kvs.lookup f).map fun d=>(d,S):=rfl
theorem rB (S:SS):kN C (some (.b (rd C L k s b)) :: S) 0=some (zJ L k s b):=by
 show(if C=C then some (zJ L k s b) else none)=_
 rw[if_pos rfl]
theorem B5 {op:Int→Int→Int}{f:Str}{g:GD}{S:SS}{n m:Int}(h1:(zJ L k s b).lookup f=some (.int n)) (h2:g (some (.b (rd C L k s b)) :: S)=some (.int m,some (.b (rd C L k s b)) :: S)):qP op C 0 f g (some (.b (rd C L k s b)) :: S)=some (.nx (some (.b (.ins C (jk f (.int (op n m)) (zJ L k s b)))) :: S)):=by
 unfold qP
 rw[rB,Option.bind_some,h1]
 dsimp only
 rw[h2,Option.bind_some]
 dsimp only
 rw[rB,Option.bind_some,if_pos (by rw[VS];decide)]
 rfl
theorem rL {m:Str}{f:FM}{gu:GU}{us:List D}{r:U}{o':MO}{S:SS}(hl:(zJ L k s b).lookup m=none) (hg:gu (some (.b (rd C L k s b)) :: S)=some (us.map U.t,some (.b (rd C L k s b)) :: S)) (hf:f (.b (rd C L k s b) :: us.map U.t)=some (r,[o'])):
  fO C m 0 f gu (some (.b (rd C L k s b)) :: S)=some (r,some (.b o') :: S):=by
 unfold fO
 rw[rB,Option.bind_some,if_pos hl]
 unfold bW Gp
 rw[hg]
 have q1:slotsOf (U.v 0 :: us.map U.t)=[0]:=by show 0 :: slotsOf (us.map U.t)=_;rw[Jc]
 have q2:aT (U.v 0 :: us.map U.t)=0:=Jd us
 have q3:aO (some (.b (rd C L k s b)) :: S) (.v 0 :: us.map U.t)=some (.b (rd C L k s b) :: us.map U.t):=by
  show(some (U.b (rd C L k s b))).bind (fun w=>(aO _ (us.map U.t)).map fun ws=>w :: ws)=_
  rw[C0]
  rfl
 have q4:wb (.v 0 :: us.map U.t) [o'] (some (.b (rd C L k s b)) :: S)=some (some (.b o') :: S):=Gv _ us
 simp only[Option.map_some,Option.bind_some]
 rw[if_pos ⟨by rw[q1];decide,by rw[q2];decide⟩,q3,Option.bind_some,hf,Option.bind_some,q4]
 rfl
noncomputable def gI (ao:Addr):GS:=
 (bD (rK (qB (eF (eP BH (aa (kM ao 0 "at") (aa (eF (eP uc (aa (kM ao 0 "words") aA))) aA))))) Ri ji)
 (bD (qP (fun i j=>i+j) ao 0 "at" (eC (.int 1)))
 (eZ (eP DI (aa (kM ao 0 "words") (aa (eF (eP oZ (aa (kM ao 0 "at") (aa (eC (.int 1)) aA)))) aA))))))
noncomputable def uf (C:Addr):FM:=aE 1 (gI C)
theorem Jr (C:Addr):∀us r,uf C us=some r→aE 1 (gI C) us=some r:=fun _ _ h=>h
theorem mw (h:L[k]? =some w) (hl:L.length≤10000):uf C [.b (rd C L k s b)]=some (.t (.str w),[rd C L (k+1) s b]):=by
 have hk:k < L.length:=(List.getElem?_eq_some_iff.mp h).1
 have e1:lT (.int (k:Int)) (.int (L.length:Int))=false:=by
  have:¬((k:Int)=(L.length:Int)):=by omega
  show decide _=false
  exact decide_eq_false this
 have e2:=B5 (C:=C) (L:=L) (k:=k) (s:=s) (b:=b) (op:=fun i j=>i+j) (f:="at") (g:=eC (.int 1)) (S:=[]) VP rfl
 have e3:iS (sL L) (k:Int)=some (.str w):=Sq.BV (by omega) (by rw[Int.toNat_natCast];show(L.map D.str)[k]? =_;rw[List.getElem?_map,h];rfl)
 have e4:(sL L).length≤100000:=by rw[pY];omega
 have e5:kM C 0 "at" [some (.b (rd C L k s b))]=some (.int k,[some (.b (rd C L k s b))]):=by rw[nF,rB];rfl
 have e6:kM C 0 "words" [some (.b (rd C L k s b))]=some (.lst (sL L),[some (.b (rd C L k s b))]):=by rw[nF,rB];rfl
 have e7:kM C 0 "at" [some (.b (rd C L (k+1) s b))]=some (.int ((k:Int)+1),[some (.b (rd C L (k+1) s b))]):=by rw[nF,rB];rfl
 have e8:kM C 0 "words" [some (.b (rd C L (k+1) s b))]=some (.lst (sL L),[some (.b (rd C L (k+1) s b))]):=by rw[nF,rB];rfl
 have e9:qP (fun i j=>i+j) C 0 "at" (eC (.int 1)) [some (.b (rd C L k s b))]=some (.nx [some (.b (rd C L (k+1) s b))]):=e2
 have VT:uc [.lst (sL L)]=some (.t (.int (L.length:Int))):=by
  show some (U.t (.int ((sL L).length:Nat)))=_
  rw[pY]
 simp[uf,aE,gI,e5,e6,e7,e8,e9,VT,e1,e3,aD]
noncomputable def gj:GS:=
 (rK (FD (qB (eF (aC 1)))) Ri ji)
noncomputable def mR:FM:=aE 2 gj
theorem GP:∀us r,mR us=some r→aE 2 gj us=some r:=fun _ _ h=>h
theorem rC (o:MO):mR [.b o,.t (.bl true)]=some (.t .bZ,[o]):=by simp[mR,aE,gj,aD]
noncomputable def cQ (aK:FM) (aG:FM) (nG:FM) (ao:Addr):GS:=
 (bD (dR 1 (fO ao "taken" 0 aK br))
 (bD (mO (fO ao "wanted" 0 aG (bh (eF (bW nG (bh (eF (aC 1)) br))) br)))
 (eZ (aC 1))))
theorem Js {f1 f2 f3:FM}(e1:f1 [.b (rd C L k s b)]=some (.t (.str w),[rd C L (k+1) s b])) (e2:f2 [.b (rd C L (k+1) s b),.t (.bl true)]=some (.t .bZ,[rd C L (k+1) s b])) (e3:f3 [.t (.str w)]=some (.t (.bl true),[])):
  aE 2 (cQ f1 f2 f3 C) [.b (rd C L k s b)]=some (.t (.str w),[rd C L (k+1) s b]):=by
 have m1:=rL (m:="taken") (gu:=br) (us:=[]) (S:=[none]) rfl rfl e1
 have m2:=rL (m:="wanted") (gu:=bh (eF (bW f3 (bh (eF (aC 1)) br))) br) (us:=[.bl true]) (S:=[some (.t (.str w))]) rfl (by simp[e3]) e2
 simp[aE,cQ,m1,m2,aD]
noncomputable def EG (C:Addr):FM:=aE 2 (cQ (uf C) mR ya C)
theorem Me (C:Addr):∀us r,EG C us=some r→aE 2 (cQ (uf C) mR ya C) us=some r:=fun _ _ h=>h
theorem Jt {z:Str}(h:nameB (.str z)=true):ya [.t (.str z)]=some (.t (.bl true),[]):=by
 have l:z.length≤20000:=by
  have h:(decide (1≤z.length) && decide (z.length≤8) && (Sw.signs z).all wH)=true:=h
  simp only[Bool.and_eq_true,decide_eq_true_eq] at h
  omega
 show(if z.length≤20000 then some (U.t (.bl (nameB (.str z))),[]) else none)=_
 rw[if_pos l,h]
theorem GQ (h:L[k]? =some w) (hl:L.length≤10000) (hn:nameB (.str w)=true):EG C [.b (rd C L k s b)]=some (.t (.str w),[rd C L (k+1) s b]):=Js (mw h hl) (rC _) (Jt hn)
noncomputable def oK:GS:=
 (eZ (eT (nk false [("yes",1),("no",1),("now",2),("not",2),("both",3),("either",3),("next",2),("till",3),("within",3),("always",2),("some",2),("each",4),("one",4)] (eF (aC 0)))))
noncomputable def AA:FM:=aE 1 oK
theorem GR:∀us r,AA us=some r→aE 1 oK us=some r:=fun _ _ h=>h
theorem Ju {z:Str}(h:z∈jl):AA [.t (.str z)]=some (.t (.bl true),[]):=by
 have:z∈(["yes","no","now","not","both","either","next","till","within","always","some","each","one"]:List Str):=h
 simp only[List.mem_cons,List.not_mem_nil,or_false] at this
 rcases this with rfl | rfl | rfl | rfl | rfl | rfl | rfl | rfl | rfl | rfl | rfl | rfl | rfl <;> rfl
noncomputable def cg (aK:FM) (aG:FM) (nH:FM) (ao:Addr):GS:=
 (bD (dR 2 (fO ao "taken" 0 aK br))
 (bD (qP (fun i j=>i+j) ao 0 "sayings" (eC (.int 1)))
 (bD (rK (qB (wG false ["each","one"] (eF (aC 2)))) (qP (fun i j=>i+j) ao 0 "binders" (eC (.int 1))) ji)
 (bD (mO (fO ao "wanted" 0 aG (bh (eQ (qx (qB (eF (bW nH (bh (eF (aC 2)) br)))) (qB (eF (eP IB (aa (kM ao 0 "sayings") (aa (eC (.int 16)) aA))))))) br)))
 (bD (mO (fO ao "wanted" 0 aG (bh (eQ (qx (qB (eF (eP FG (aa (eF (aC 1)) (aa (eC (.int 8)) aA))))) (qB (eF (eP IB (aa (kM ao 0 "binders") (aa (eC (.int 3)) aA))))))) br)))
 (eZ (aC 2)))))))
noncomputable def bI (z:Str):Int:=if bX z then 1 else 0
theorem Jv {f1 f2 f3:FM}{a:Int}(h1:s+1≤16) (h2:a < 8) (h3:b+bI w≤3) (e1:f1 [.b (rd C L k s b)]=some (.t (.str w),[rd C L (k+1) s b])) (e2:∀o,f2 [.b o,.t (.bl true)]=some (.t .bZ,[o])) (e3:f3 [.t (.str w)]=some (.t (.bl true),[])):
  aE 3 (cg f1 f2 f3 C) [.b (rd C L k s b),.t (.int a)]=some (.t (.str w),[rd C L (k+1) (s+1) (b+bI w)]):=by
 have m1:=rL (m:="taken") (gu:=br) (us:=[]) (S:=[some (.t (.int a)),none]) rfl rfl e1
 have m2:qP (fun i j=>i+j) C 0 "sayings" (eC (.int 1)) [some (.b (rd C L (k+1) s b)),some (.t (.int a)),some (.t (.str w))]=some (.nx [some (.b (rd C L (k+1) (s+1) b)),some (.t (.int a)),some (.t (.str w))]):=B5 (op:=fun i j=>i+j) (m:=1) VQ rfl
 have m3:qP (fun i j=>i+j) C 0 "binders" (eC (.int 1)) [some (.b (rd C L (k+1) (s+1) b)),some (.t (.int a)),some (.t (.str w))]=some (.nx [some (.b (rd C L (k+1) (s+1) (b+1))),some (.t (.int a)),some (.t (.str w))]):=B5 (op:=fun i j=>i+j) (m:=1) VR rfl
 have fs:∀b:Int,kM C 0 "sayings" [some (.b (rd C L (k+1) (s+1) b)),some (.t (.int a)),some (.t (.str w))]=some (.int (s+1),[some (.b (rd C L (k+1) (s+1) b)),some (.t (.int a)),some (.t (.str w))]):=fun b=>by rw[nF,rB];rfl
 have fb:∀b:Int,kM C 0 "binders" [some (.b (rd C L (k+1) (s+1) b)),some (.t (.int a)),some (.t (.str w))]=some (.int b,[some (.b (rd C L (k+1) (s+1) b)),some (.t (.int a)),some (.t (.str w))]):=fun b=>by rw[nF,rB];rfl
 cases hb:bX w with
 | false=>
  have e0:bI w=0:=by unfold bI;rw[hb];rfl
  rw[e0,Int.add_zero] at h3 ⊢
  have m4:=rL (C:=C) (L:=L) (m:="wanted") (k:=k+1) (s:=s+1) (b:=b) (gu:=bh (eQ (qx (qB (eF (bW f3 (bh (eF (aC 2)) br)))) (qB (eF (eP IB (aa (kM C 0 "sayings") (aa (eC (.int 16)) aA))))))) br) (us:=[.bl true]) (S:=[some (.t (.int a)),some (.t (.str w))]) rfl (by simp[e3,fs,h1]) (e2 _)
  have m5:=rL (C:=C) (L:=L) (m:="wanted") (k:=k+1) (s:=s+1) (b:=b) (gu:=bh (eQ (qx (qB (eF (eP FG (aa (eF (aC 1)) (aa (eC (.int 8)) aA))))) (qB (eF (eP IB (aa (kM C 0 "binders") (aa (eC (.int 3)) aA))))))) br) (us:=[.bl true]) (S:=[some (.t (.int a)),some (.t (.str w))]) rfl (by simp[fb,h2,h3]) (e2 _)
  unfold bX Jf at hb
  simp only[List.map_cons,List.map_nil] at hb
  simp[aE,cg,m1,m2,hb,m4,m5,wG,aD]
 | true=>
  have e0:bI w=1:=by unfold bI;rw[hb];rfl
  rw[e0] at h3 ⊢
  have m4:=rL (C:=C) (L:=L) (m:="wanted") (k:=k+1) (s:=s+1) (b:=b+1) (gu:=bh (eQ (qx (qB (eF (bW f3 (bh (eF (aC 2)) br)))) (qB (eF (eP IB (aa (kM C 0 "sayings") (aa (eC (.int 16)) aA))))))) br) (us:=[.bl true]) (S:=[some (.t (.int a)),some (.t (.str w))]) rfl (by simp[e3,fs,h1]) (e2 _)
  have m5:=rL (C:=C) (L:=L) (m:="wanted") (k:=k+1) (s:=s+1) (b:=b+1) (gu:=bh (eQ (qx (qB (eF (eP FG (aa (eF (aC 1)) (aa (eC (.int 8)) aA))))) (qB (eF (eP IB (aa (kM C 0 "binders") (aa (eC (.int 3)) aA))))))) br) (us:=[.bl true]) (S:=[some (.t (.int a)),some (.t (.str w))]) rfl (by simp[fb,h2,h3]) (e2 _)
  unfold bX Jf at hb
  simp only[List.map_cons,List.map_nil] at hb
  simp[aE,cg,m1,m2,m3,hb,m4,m5,wG,aD]
noncomputable def PY (C:Addr):FM:=aE 3 (cg (uf C) mR AA C)
theorem Mf (C:Addr):∀us r,PY C us=some r→aE 3 (cg (uf C) mR AA C) us=some r:=fun _ _ h=>h
theorem ym {a:Int}(h:L[k]? =some w) (hl:L.length≤10000) (hw:w∈jl) (h1:s+1≤16) (h2:a < 8) (h3:b+bI w≤3):PY C [.b (rd C L k s b),.t (.int a)]=some (.t (.str w),[rd C L (k+1) (s+1) (b+bI w)]):=Jv h1 h2 h3 (mw h hl) rC (Ju hw)
end Sf
end
section
set_option Elab.async false
set_option linter.all false
set_option maxRecDepth 100000
namespace Sf
open PySem PySem.Spec PyProof.Rows L2 Sw Ss Sp
variable {C:Addr}{L:List Str}{k:Nat}{s b:Int}{w:Str}
theorem BW (kvs:List (Str×Int)) (g:GD) (S:SS):yW kvs g S=(g S).bind fun p=>match p.1 with | .str z=>(dG kvs z).map fun i=>(.int i,p.2) | _=>none:=rfl
theorem vB (n:Bool) (kvs:List (Str×Int)) (g:GD) (S:SS):nk n kvs g S=(g S).bind fun p=>match p.1 with | .str z=>some (.bl (n != (dG kvs z).isSome),p.2) | _=>none:=rfl
theorem B6 (kvs:List (Str×Int)) (g gd:GD) (S:SS):vf kvs g gd S=(g S).bind fun p=>(gd p.2).bind fun q=>match p.1 with | .str z=>some ((match dG kvs z with | some i=>.int i | none=>q.1),q.2) | _=>none:=rfl
noncomputable def EH:List (Str×Int):=[("0",0),("1",1),("2",2),("3",3),("4",4),("5",5),("6",6),("7",7),("8",8),("9",9)]
theorem AB {k:Int}(h0:0≤k) (h1:k≤9):dG EH (tW (.int k))=some k:=by
 have:k=0∨k=1∨k=2∨k=3∨k=4∨k=5∨k=6∨k=7∨k=8∨k=9:=by omega
 rcases this with rfl | rfl | rfl | rfl | rfl | rfl | rfl | rfl | rfl | rfl <;> rfl
noncomputable def bA (aK:FM) (aV:FM) (aG:FM) (ao:Addr):GS:=
 (bD (dR 2 (fO ao "taken" 0 aK br))
 (bD (rK (qB (eF (eP BH (aa (eF (aC 2)) (aa (eC (.str "any")) aA))))) (eZ (eP eu (aa (eC (.str "any")) aA))) ji)
 (bD (rK (qB (eF (eP BH (aa (eF (aC 2)) (aa (eC (.str "name")) aA))))) (eZ (eP eu (aa (eC (.str "name")) (aa (eF (fO ao "name_taken" 0 aV br)) aA)))) ji)
 (bD (mO (fO ao "wanted" 0 aG (bh (eF (eP z8 (aa (eF (aC 2)) (aa (eF (eP eu (aa (eC (.str "less")) (aa (eC (.str "same")) (aa (eC (.str "more")) aA))))) aA)))) br)))
 (bD (dR 3 (fO ao "taken" 0 aK br))
 (bD (mO (fO ao "wanted" 0 aG (bh (eQ (FE (qB (nk false [("0",0),("1",1),("2",2),("3",3),("4",4),("5",5),("6",6),("7",7),("8",8),("9",9)] (eF (aC 3)))) (qB (eF (eP z8 (aa (eF (aC 3)) (aa (eF (aC 1)) aA))))))) br)))
 (eZ (eP eu (aa (eF (aC 2)) (aa (vf [("0",0),("1",1),("2",2),("3",3),("4",4),("5",5),("6",6),("7",7),("8",8),("9",9)] (eF (aC 3)) (eF (aC 3))) aA))))))))))
section
variable {f1 f2 f3:FM}{bd:D}
theorem Mg (e1:f1 [.b (rd C L k s b)]=some (.t (.str "any"),[rd C L (k+1) s b])):aE 4 (bA f1 f2 f3 C) [.b (rd C L k s b),.t bd]=some (.t (.tup [.str "any"]),[rd C L (k+1) s b]):=by
 have m1:=rL (m:="taken") (gu:=br) (us:=[]) (S:=[some (.t bd),none,none]) rfl rfl e1
 simp[aE,bA,m1,aD]
theorem Jw (e1:f1 [.b (rd C L k s b)]=some (.t (.str "name"),[rd C L (k+1) s b])) (e2:f2 [.b (rd C L (k+1) s b)]=some (.t (.str w),[rd C L (k+1+1) s b])):aE 4 (bA f1 f2 f3 C) [.b (rd C L k s b),.t bd]=some (.t (.tup [.str "name",.str w]),[rd C L (k+1+1) s b]):=by
 have m1:=rL (m:="taken") (gu:=br) (us:=[]) (S:=[some (.t bd),none,none]) rfl rfl e1
 have m2:=rL (m:="name_taken") (gu:=br) (us:=[]) (S:=[some (.t bd),some (.t (.str "name")),none]) rfl rfl e2
 have ne:¬(("name":Str)="any"):=by decide
 simp[aE,bA,m1,m2,ne,aD]
theorem GV {o:Str}{v:D}(ho:o∈ue) (e1:f1 [.b (rd C L k s b)]=some (.t (.str o),[rd C L (k+1) s b])) (e2:f1 [.b (rd C L (k+1) s b)]=some (.t (.str w),[rd C L (k+1+1) s b])) (e3:∀o,f3 [.b o,.t (.bl true)]=some (.t .bZ,[o]))
  (hin:(dG EH w).isSome=true∨((dG EH w)=none∧z8 [.str w,bd]=some (.t (.bl true)))) (hv:(match dG EH w with | some i=>D.int i | none=>.str w)=v):aE 4 (bA f1 f2 f3 C) [.b (rd C L k s b),.t bd]=some (.t (.tup [.str o,v]),[rd C L (k+1+1) s b]):=by
 have m1:=rL (m:="taken") (gu:=br) (us:=[]) (S:=[some (.t bd),none,none]) rfl rfl e1
 have m2:=rL (m:="taken") (gu:=br) (us:=[]) (S:=[some (.t bd),some (.t (.str o)),none]) rfl rfl e2
 have n1:o≠"any":=(GL ho).2
 have n2:o≠"name":=(GL ho).1
 have t3:inD (.str o) [.str "less",.str "same",.str "more"]=true:=C7 (zs:=ue) ho
 have m3:=rL (C:=C) (L:=L) (m:="wanted") (k:=k+1) (s:=s) (b:=b) (gu:=bh (eF (eP z8 (aa (eF (aC 2)) (aa (eF (eP eu (aa (eC (.str "less")) (aa (eC (.str "same")) (aa (eC (.str "more")) aA))))) aA)))) br) (us:=[.bl true]) (S:=[some (.t bd),some (.t (.str o)),none]) rfl (by simp[z8,t3,bM,cJ]) (e3 _)
 have m4:=rL (C:=C) (L:=L) (m:="wanted") (k:=k+1+1) (s:=s) (b:=b) (gu:=bh (eQ (FE (qB (nk false EH (eF (aC 3)))) (qB (eF (eP z8 (aa (eF (aC 3)) (aa (eF (aC 1)) aA))))))) br) (us:=[.bl true]) (S:=[some (.t bd),some (.t (.str o)),some (.t (.str w))]) rfl (by
  rcases hin with q | ⟨q1,q2⟩
  ·simp[vB,q]
  ·simp[vB,q1,q2]) (e3 _)
 unfold EH at m4 hv
 simp[aE,bA,m1,m2,m3,m4,n1,n2,B6,hv,aD]
end
end Sf
end
section
set_option Elab.async false
set_option linter.all false
set_option maxRecDepth 100000
namespace Sf
open PySem PySem.Spec PyProof.Rows L2 Sw Ss Sp
variable {C:Addr}{L:List Str}{k:Nat}{s b:Int}{w:Str}
theorem fu {ws:List Str}(h:L.drop k=w :: ws):L[k]? =some w∧L.drop (k+1)=ws:=by
 constructor
 ·have:(L.drop k)[0]? =some w:=by rw[h];rfl
  rw[List.getElem?_drop] at this
  exact this
 ·have:(L.drop k).drop 1=ws:=by rw[h];rfl
  rw[List.drop_drop] at this
  exact this
noncomputable def HB (C:Addr):FM:=aE 4 (bA (uf C) (EG C) mR C)
theorem Mh (C:Addr):∀us r,HB C us=some r→aE 4 (bA (uf C) (EG C) mR C) us=some r:=fun _ _ h=>h
theorem GW {y:Str}(h:nameB (.str y)=true):dG EH y=none:=by
 refine qV fun hm=>?_
 have:∀z∈EH.map (·.1),nameB (.str z)=false:=by decide +kernel
 rw[this y hm] at h
 cases h
theorem oM:∀bs:List Str,bM (bs.map D.str)≤40
 | []=>Nat.zero_le _
 | y :: bs=>by
  have:=oM bs
  show max (cJ (.str y)) (bM (bs.map D.str))≤40
  have e:cJ (.str y)=0:=rfl
  omega
theorem PZ {bs rest:List Str}{t:D}(h:Ts bs t) (hb:∀y∈bs,nameB (.str y)=true) (hl:L.length≤10000) (hd:L.drop k=wI t++rest):HB C [.b (rd C L k s b),.t (.tup (bs.map D.str))]=some (.t t,[rd C L (k+(wI t).length) s b])∧L.drop (k+(wI t).length)=rest:=by
 cases h with
 | any=>
  obtain⟨a1,a2⟩:=fu (show L.drop k=("any":Str) :: rest from hd)
  exact⟨Mg (mw a1 hl),a2⟩
 | @name w hn=>
  obtain⟨a1,a2⟩:=fu (show L.drop k=("name":Str) :: w :: rest from hd)
  obtain⟨a3,a4⟩:=fu a2
  exact⟨Jw (mw a1 hl) (GQ a3 hl hn),a4⟩
 | @num o i ho h0 h9=>
  obtain⟨a1,a2⟩:=fu (show L.drop k=o :: tW (.int i) :: rest from hd)
  obtain⟨a3,a4⟩:=fu a2
  have lf:=AB h0 h9
  exact⟨GV ho (mw a1 hl) (mw a3 hl) rC (.inl (by rw[lf];rfl)) (by rw[lf]),a4⟩
 | @var o y ho hy=>
  obtain⟨a1,a2⟩:=fu (show L.drop k=o :: y :: rest from hd)
  obtain⟨a3,a4⟩:=fu a2
  have lf:=GW (hb y hy)
  refine⟨GV ho (mw a1 hl) (mw a3 hl) rC (.inr ⟨lf,?_⟩) (by rw[lf]),a4⟩
  show(if bM (bs.map D.str)≤40 then some (U.t (.bl (inD (.str y) (bs.map D.str)))) else none)=_
  rw[if_pos (oM bs),C7 hy]
noncomputable def cy (aK:FM) (aG:FM) (ao:Addr):GS:=
 (bD (dR 1 (fO ao "taken" 0 aK br))
 (bD (mO (fO ao "wanted" 0 aG (bh (eQ (qx (qB (nk false [("0",0),("1",1),("2",2),("3",3),("4",4),("5",5),("6",6),("7",7),("8",8),("9",9)] (eF (aC 1)))) (qB (eF (eP IB (aa (yW [("0",0),("1",1),("2",2),("3",3),("4",4),("5",5),("6",6),("7",7),("8",8),("9",9)] (eF (aC 1))) (aa (eC (.int 5)) aA))))))) br)))
 (eZ (eT (yW [("0",0),("1",1),("2",2),("3",3),("4",4),("5",5),("6",6),("7",7),("8",8),("9",9)] (eF (aC 1)))))))
noncomputable def HC (C:Addr):FM:=aE 2 (cy (uf C) mR C)
theorem Mi (C:Addr):∀us r,HC C us=some r→aE 2 (cy (uf C) mR C) us=some r:=fun _ _ h=>h
theorem Jx {f1 f2:FM}{n:Int}(h5:n≤5) (hf:dG EH w=some n) (e1:f1 [.b (rd C L k s b)]=some (.t (.str w),[rd C L (k+1) s b])) (e2:∀o,f2 [.b o,.t (.bl true)]=some (.t .bZ,[o])):aE 2 (cy f1 f2 C) [.b (rd C L k s b)]=some (.t (.int n),[rd C L (k+1) s b]):=by
 have m1:=rL (m:="taken") (gu:=br) (us:=[]) (S:=[none]) rfl rfl e1
 have m2:=rL (C:=C) (L:=L) (m:="wanted") (k:=k+1) (s:=s) (b:=b) (gu:=bh (eQ (qx (qB (nk false EH (eF (aC 1)))) (qB (eF (eP IB (aa (yW EH (eF (aC 1))) (aa (eC (.int 5)) aA))))))) br) (us:=[.bl true]) (S:=[some (.t (.str w))]) rfl (by simp[vB,BW,hf,h5]) (e2 _)
 unfold EH at m2 hf
 simp[aE,cy,m1,m2,BW,hf,aD]
theorem P0 {n:Int}(h0:0≤n) (h5:n≤5) (h:L[k]? =some (tW (.int n))) (hl:L.length≤10000):HC C [.b (rd C L k s b)]=some (.t (.int n),[rd C L (k+1) s b]):=Jx h5 (AB h0 (by omega)) (mw h hl) rC
noncomputable def aQ (dU:FM) (dW:FM) (dj:FM) (aV:FM) (ao:Addr):GS:=
 (bD (dR 3 (fO ao "head_taken" 0 dU (bh (eF (aC 2)) br)))
 (bD (rK (qB (eF (eP BH (aa (eF (aC 3)) (aa (eC (.str "now")) aA))))) (eZ (eP eu (aa (eF (aC 3)) (aa (eF (fO ao "test_taken" 0 dW (bh (eF (aC 1)) br))) aA)))) ji)
 (bD (rK (qB (eF (eP BH (aa (eF (aC 3)) (aa (eC (.str "within")) aA))))) (eZ (eP eu (aa (eF (aC 3)) (aa (eF (fO ao "within_taken" 0 dj br)) aA)))) ji)
 (bD (rK (qB (wG false ["each","one"] (eF (aC 3)))) (bD (dR 4 (fO ao "name_taken" 0 aV br))
 (eZ (eP eu (aa (eF (aC 3)) (aa (eF (aC 4)) (aa (eF (fO ao "name_taken" 0 aV br)) aA)))))) ji)
 (eZ (eP eu (aa (eF (aC 3)) aA)))))))
section
variable {f1 f2 f3 f4:FM}{bd:D}{a:Int}{s' b':Int}
theorem Mj {t:D}{k':Nat}(e1:f1 [.b (rd C L k s b),.t (.int a)]=some (.t (.str "now"),[rd C L (k+1) s' b'])) (e2:f2 [.b (rd C L (k+1) s' b'),.t bd]=some (.t t,[rd C L k' s' b'])):aE 5 (aQ f1 f2 f3 f4 C) [.b (rd C L k s b),.t bd,.t (.int a)]=some (.t (.tup [.str "now",t]),[rd C L k' s' b']):=by
 have m1:=rL (m:="head_taken") (gu:=bh (eF (aC 2)) br) (us:=[.int a]) (S:=[some (.t bd),some (.t (.int a)),none,none]) rfl rfl e1
 have m2:=rL (m:="test_taken") (gu:=bh (eF (aC 1)) br) (us:=[bd]) (S:=[some (.t bd),some (.t (.int a)),some (.t (.str "now")),none]) rfl rfl e2
 simp[aE,aQ,m1,m2,aD]
theorem Ml {n:Int}(e1:f1 [.b (rd C L k s b),.t (.int a)]=some (.t (.str "within"),[rd C L (k+1) s' b'])) (e2:f3 [.b (rd C L (k+1) s' b')]=some (.t (.int n),[rd C L (k+1+1) s' b'])):aE 5 (aQ f1 f2 f3 f4 C) [.b (rd C L k s b),.t bd,.t (.int a)]=some (.t (.tup [.str "within",.int n]),[rd C L (k+1+1) s' b']):=by
 have m1:=rL (m:="head_taken") (gu:=bh (eF (aC 2)) br) (us:=[.int a]) (S:=[some (.t bd),some (.t (.int a)),none,none]) rfl rfl e1
 have m2:=rL (m:="within_taken") (gu:=br) (us:=[]) (S:=[some (.t bd),some (.t (.int a)),some (.t (.str "within")),none]) rfl rfl e2
 have ne:¬(("within":Str)="now"):=by decide
 simp[aE,aQ,m1,m2,ne,aD]
theorem Mm {x y:Str}(hw:bX w=true) (n1:w≠"now") (n2:w≠"within") (e1:f1 [.b (rd C L k s b),.t (.int a)]=some (.t (.str w),[rd C L (k+1) s' b'])) (e2:f4 [.b (rd C L (k+1) s' b')]=some (.t (.str x),[rd C L (k+1+1) s' b'])) (e3:f4 [.b (rd C L (k+1+1) s' b')]=some (.t (.str y),[rd C L (k+1+1+1) s' b'])):aE 5 (aQ f1 f2 f3 f4 C) [.b (rd C L k s b),.t bd,.t (.int a)]=some (.t (.tup [.str w,.str x,.str y]),[rd C L (k+1+1+1) s' b']):=by
 have m1:=rL (m:="head_taken") (gu:=bh (eF (aC 2)) br) (us:=[.int a]) (S:=[some (.t bd),some (.t (.int a)),none,none]) rfl rfl e1
 have m2:=rL (m:="name_taken") (gu:=br) (us:=[]) (S:=[some (.t bd),some (.t (.int a)),some (.t (.str w)),none]) rfl rfl e2
 have m3:=rL (m:="name_taken") (gu:=br) (us:=[]) (S:=[some (.t bd),some (.t (.int a)),some (.t (.str w)),some (.t (.str x))]) rfl rfl e3
 unfold bX Jf at hw
 simp only[List.map_cons,List.map_nil] at hw
 simp[aE,aQ,m1,m2,m3,n1,n2,hw,wG,aD]
theorem vC (hw:bX w=false) (n1:w≠"now") (n2:w≠"within") (e1:f1 [.b (rd C L k s b),.t (.int a)]=some (.t (.str w),[rd C L (k+1) s' b'])):aE 5 (aQ f1 f2 f3 f4 C) [.b (rd C L k s b),.t bd,.t (.int a)]=some (.t (.tup [.str w]),[rd C L (k+1) s' b']):=by
 have m1:=rL (m:="head_taken") (gu:=bh (eF (aC 2)) br) (us:=[.int a]) (S:=[some (.t bd),some (.t (.int a)),none,none]) rfl rfl e1
 unfold bX Jf at hw
 simp only[List.map_cons,List.map_nil] at hw
 simp[aE,aQ,m1,n1,n2,hw,wG,aD]
end
noncomputable def R9 (C:Addr):FM:=aE 5 (aQ (PY C) (HB C) (HC C) (EG C) C)
theorem Mn (C:Addr):∀us r,R9 C us=some r→aE 5 (aQ (PY C) (HB C) (HC C) (EG C) C) us=some r:=fun _ _ h=>h
end Sf
end
section
set_option Elab.async false
set_option linter.all false
set_option maxRecDepth 100000
namespace Sf
open PySem PySem.Spec PyProof.Rows L2 Sw Ss Sp
variable {C:Addr}{L:List Str}{k:Nat}{s b:Int}{w:Str}
noncomputable def iZ:GS:=
 (eZ (eP oZ (aa (yW [("yes",1),("no",1),("now",2),("not",2),("both",3),("either",3),("next",2),("till",3),("within",3),("always",2),("some",2),("each",4),("one",4)] (eF (aC 0))) (aa (yW [("yes",1),("no",1),("now",2),("not",1),("both",1),("either",1),("next",1),("till",1),("within",2),("always",1),("some",1),("each",3),("one",3)] (eF (aC 0))) aA))))
noncomputable def HD:FM:=aE 1 iZ
theorem pw_run:∀us r,HD us=some r→aE 1 iZ us=some r:=fun _ _ h=>h
theorem pw_leaf {z:Str}(h:z="yes"∨z="no"):HD [.t (.str z)]=some (.t (.int 0),[]):=by rcases h with rfl | rfl <;> rfl
theorem pw_now:HD [.t (.str "now")]=some (.t (.int 0),[]):=rfl
theorem pw_wth:HD [.t (.str "within")]=some (.t (.int 1),[]):=rfl
theorem pw_one {z:Str}(h:z∈Kl):HD [.t (.str z)]=some (.t (.int 1),[]):=by rcases jr h with rfl | rfl | rfl | rfl <;> rfl
theorem pw_two {z:Str}(h:z∈Km):HD [.t (.str z)]=some (.t (.int 2),[]):=by rcases lK h with rfl | rfl | rfl <;> rfl
theorem pw_bnd {z:Str}(h:z="each"∨z="one"):HD [.t (.str z)]=some (.t (.int 1),[]):=by rcases h with rfl | rfl <;> rfl
noncomputable def fR (cj:FM) (fc:FM) (ff:FM) (aN:FM) (ao:Addr):GS:=
 (dR 3 (eP iF (aa (eF (aC 3)) (aa (eF (eP eu (aa (eF (fO ao "saying_taken" 0 aN (bh (eF (aC 4)) (bh (eF (eP iF (aa (eF (aC 2)) (aa (eC (.int 1)) aA)))) br)))) aA))) aA))))
noncomputable def aU (cj:FM) (fc:FM) (ff:FM) (aN:FM) (ao:Addr):GS:=
 (bD (dR 3 (fO ao "begin_taken" 0 cj (bh (eF (aC 1)) (bh (eF (aC 2)) br))))
 (bD (dR 4 (bW fc (bh (eF (aC 3)) (bh (eF (aC 1)) br))))
 (bD (DM (bName 5) (uO (aa (eF (bW ff (bh (gZ 3 (eC (.int 0))) br))) aA)) (fR cj fc ff aN ao))
 (eZ (aC 3)))))
section
variable {f1 f2 f3 f4:FM}{bd ib:D}{a:Int}{z:Str}{r:List D}{k1 k2 k3:Nat}{s1 b1 s2 b2 s3 b3:Int}{p q:D}
theorem rg {n:Int}{S:SS}(h0:0≤n) (h1:n < 1000000) (e3:f3 [.t (.str z)]=some (.t (.int n),[])) (hS:S[3]? =some (some (.t (.tup (.str z :: r))))):uO (aa (eF (bW f3 (bh (gZ 3 (eC (.int 0))) br))) aA) S=some (xm 0 n.toNat,S):=by
 refine Sq.yc ?_ h1 (by omega)
 simp[hS,ez,e3]
theorem zh {j:Int}(hr:r.length≤1000) (e4:f4 [.b (rd C L k s b),.t ib,.t (.int (a+1))]=some (.t p,[rd C L k1 s1 b1])):
  fR f1 f2 f3 f4 C [some (.b (rd C L k s b)),some (.t bd),some (.t (.int a)),some (.t (.tup (.str z :: r))),some (.t ib),some (.t (.int j))]=some (.nx [some (.b (rd C L k1 s1 b1)),some (.t bd),some (.t (.int a)),some (.t (.tup (.str z :: (r++[p])))),some (.t ib),some (.t (.int j))]):=by
 have m1:=rL (m:="saying_taken") (gu:=bh (eF (aC 4)) (bh (eF (eP iF (aa (eF (aC 2)) (aa (eC (.int 1)) aA)))) br)) (us:=[ib,.int (a+1)]) (S:=[some (.t bd),some (.t (.int a)),some (.t (.tup (.str z :: r))),some (.t ib),some (.t (.int j))]) rfl (by simp) e4
 have l:r.length+1+1≤100000:=by omega
 simp[fR,m1,l]
theorem P1 (hr:r.length≤900) (e1:f1 [.b (rd C L k s b),.t bd,.t (.int a)]=some (.t (.tup (.str z :: r)),[rd C L k1 s1 b1])) (e2:f2 [.t (.tup (.str z :: r)),.t bd]=some (.t ib,[])) (e3:f3 [.t (.str z)]=some (.t (.int 0),[])):
  aE 6 (aU f1 f2 f3 f4 C) [.b (rd C L k s b),.t bd,.t (.int a)]=some (.t (.tup (.str z :: r)),[rd C L k1 s1 b1]):=by
 have m1:=rL (m:="begin_taken") (gu:=bh (eF (aC 1)) (bh (eF (aC 2)) br)) (us:=[bd,.int a]) (S:=[some (.t bd),some (.t (.int a)),none,none,none]) rfl rfl e1
 have g:=rg (n:=0) (S:=[some (.b (rd C L k1 s1 b1)),some (.t bd),some (.t (.int a)),some (.t (.tup (.str z :: r))),some (.t ib),none]) (by omega) (by omega) e3 rfl
 have e0:xm 0 (0:Int).toNat=[]:=rfl
 rw[e0] at g
 simp[-zc,aE,aU,m1,e2,zb,g,loop,aD]
theorem Mp (hr:r.length≤900) (e1:f1 [.b (rd C L k s b),.t bd,.t (.int a)]=some (.t (.tup (.str z :: r)),[rd C L k1 s1 b1])) (e2:f2 [.t (.tup (.str z :: r)),.t bd]=some (.t ib,[])) (e3:f3 [.t (.str z)]=some (.t (.int 1),[]))
  (e4:f4 [.b (rd C L k1 s1 b1),.t ib,.t (.int (a+1))]=some (.t p,[rd C L k2 s2 b2])):
  aE 6 (aU f1 f2 f3 f4 C) [.b (rd C L k s b),.t bd,.t (.int a)]=some (.t (.tup (.str z :: (r++[p]))),[rd C L k2 s2 b2]):=by
 have m1:=rL (m:="begin_taken") (gu:=bh (eF (aC 1)) (bh (eF (aC 2)) br)) (us:=[bd,.int a]) (S:=[some (.t bd),some (.t (.int a)),none,none,none]) rfl rfl e1
 have g:=rg (n:=1) (S:=[some (.b (rd C L k1 s1 b1)),some (.t bd),some (.t (.int a)),some (.t (.tup (.str z :: r))),some (.t ib),none]) (by omega) (by omega) e3 rfl
 have e0:xm 0 (1:Int).toNat=[.int 0]:=rfl
 rw[e0] at g
 have t1:=zh (f1:=f1) (f2:=f2) (f3:=f3) (bd:=bd) (z:=z) (r:=r) (j:=0) (by omega) e4
 simp[-zc,aE,aU,m1,e2,zb,g,loop,t1,aD]
theorem VU (hr:r.length≤900) (e1:f1 [.b (rd C L k s b),.t bd,.t (.int a)]=some (.t (.tup (.str z :: r)),[rd C L k1 s1 b1])) (e2:f2 [.t (.tup (.str z :: r)),.t bd]=some (.t ib,[])) (e3:f3 [.t (.str z)]=some (.t (.int 2),[]))
  (e4:f4 [.b (rd C L k1 s1 b1),.t ib,.t (.int (a+1))]=some (.t p,[rd C L k2 s2 b2])) (e5:f4 [.b (rd C L k2 s2 b2),.t ib,.t (.int (a+1))]=some (.t q,[rd C L k3 s3 b3])):
  aE 6 (aU f1 f2 f3 f4 C) [.b (rd C L k s b),.t bd,.t (.int a)]=some (.t (.tup (.str z :: (r++[p]++[q]))),[rd C L k3 s3 b3]):=by
 have m1:=rL (m:="begin_taken") (gu:=bh (eF (aC 1)) (bh (eF (aC 2)) br)) (us:=[bd,.int a]) (S:=[some (.t bd),some (.t (.int a)),none,none,none]) rfl rfl e1
 have g:=rg (n:=2) (S:=[some (.b (rd C L k1 s1 b1)),some (.t bd),some (.t (.int a)),some (.t (.tup (.str z :: r))),some (.t ib),none]) (by omega) (by omega) e3 rfl
 have e0:xm 0 (2:Int).toNat=[.int 0,.int 1]:=rfl
 rw[e0] at g
 have t1:=zh (f1:=f1) (f2:=f2) (f3:=f3) (bd:=bd) (z:=z) (r:=r) (j:=0) (by omega) e4
 have t2:=zh (f1:=f1) (f2:=f2) (f3:=f3) (bd:=bd) (z:=z) (r:=r++[p]) (j:=1) (by rw[List.length_append];show r.length+1≤1000;omega) e5
 simp only[List.append_assoc] at t2
 simp[-zc,aE,aU,m1,e2,zb,g,loop,t1,t2,aD]
end
end Sf
end
section
set_option Elab.async false
set_option linter.all false
set_option maxRecDepth 100000
namespace Sf
open PySem PySem.Spec PyProof.Rows L2 Sw Ss Sp
variable {C:Addr}{L:List Str}
noncomputable def HE (C:Addr):Nat→FM
 | 0=>fun _=>none
 | j+1=>aE 6 (aU (R9 C) nv HD (HE C j) C)
theorem Mq (C:Addr) (j:Nat):∀us r,HE C (j+1) us=some r→aE 6 (aU (R9 C) nv HD (HE C j) C) us=some r:=fun _ _ h=>h
theorem GX (C:Addr) (us:List U):HE C 0 us=none:=rfl
theorem sE {n:Nat}{z:Str}{r pl:List D}(h:bN z r=pl):dH (n+1) (.tup (.str z :: r))=(pl.flatMap (lI n)).length+1:=by rw[←h];rfl
theorem sF {n:Nat}{z:Str}{r pl:List D}(h:bN z r=pl):iz (n+1) (.tup (.str z :: r))=(if bX z=true then 1 else 0)+((pl.flatMap (lI n)).filter BZ).length:=by
 rw[←h]
 show(List.filter BZ (.tup (.str z :: r) :: (bN z r).flatMap (lI n))).length=_
 rw[List.filter_cons]
 show(if bX z=true then _ else _:List D).length=_
 split
 ·rw[List.length_cons];omega
 ·omega
theorem yp {z:Str}{r pl:List D}{i:Nat}(hs:dI z=i) (h:(D.str z :: r).drop i=pl):bN z r=pl:=by unfold bN;rw[hs,h]
theorem ND {k k':Nat}{s s' b b':Int}(h1:k=k') (h2:s=s') (h3:b=b'):rd C L k s b=rd C L k' s' b':=by rw[h1,h2,h3]
theorem NF (f:D→List D) (p:D):[p].flatMap f=f p:=by simp
theorem ZQ (f:D→List D) (p q:D):[p,q].flatMap f=f p++f q:=by simp
theorem rD {z:Str}(h:bX z=false):bI z=0:=by unfold bI;rw[h];rfl
theorem Mr {z:Str}(h:bX z=true):bI z=1:=by unfold bI;rw[h];rfl
noncomputable def ug (C:Addr) (L:List Str) (n:Nat) (bs:List Str) (d:D):Prop:=∀{j k:Nat}{s b a:Int}{rest:List Str},n≤j→(∀y∈bs,nameB (.str y)=true)→bs.length+n≤100→L.length≤10000→L.drop k=ju n d++rest→s+(dH n d:Nat)≤16→b+(iz n d:Nat)≤3→a+n≤8→
 HE C j [.b (rd C L k s b),.t (.tup (bs.map D.str)),.t (.int a)]=some (.t d,[rd C L (k+(ju n d).length) (s+(dH n d:Nat)) (b+(iz n d:Nat))])∧L.drop (k+(ju n d).length)=rest
theorem Jy {n:Nat}{bs:List Str}{z:Str}(hz:z="yes"∨z="no"):ug C L (n+1) bs (.tup [.str z]):=by
 intro j k s b a rest hj hb hl hL hd h1 h2 h3
 obtain⟨i,rfl⟩:∃i,j=i+1:=⟨j - 1,by omega⟩
 obtain⟨q1,q2,q3,q4⟩:=oJ hz
 have n2:z≠"within":=by rcases hz with rfl | rfl <;> decide
 have pl:bN z []=[]:=yp q2 rfl
 have z1:dH (n+1) (.tup [.str z])=1:=by rw[sE pl];rfl
 have z2:iz (n+1) (.tup [.str z])=0:=by rw[sF pl,q3];rfl
 rw[z1] at h1 ⊢
 rw[z2] at h2 ⊢
 obtain⟨a1,a2⟩:=fu (show L.drop k=z :: rest from hd)
 have e:=P1 (f4:=HE C i) (r:=[]) (by decide) (vC (f2:=HB C) (f3:=HC C) (f4:=EG C) (bd:=.tup (bs.map D.str)) q3 q4 n2 (ym (C:=C) (a:=a) a1 hL q1 (by omega) (by omega) (by rw[rD q3];omega))) (nA q3) (pw_leaf hz)
 refine⟨e.trans ?_,a2⟩
 exact congrArg (fun o=>(some (_,[o]):Option (U×List MO))) (ND (k':=k+(ju (n+1) (.tup [.str z])).length) (s':=s+((1:Nat):Int)) (b':=b+((0:Nat):Int)) rfl (by omega) (by rw[rD q3];omega))
theorem Ms {n:Nat}{bs:List Str}{t:D}(ht:Ts bs t):ug C L (n+1) bs (.tup [.str "now",t]):=by
 intro j k s b a rest hj hb hl hL hd h1 h2 h3
 obtain⟨i,rfl⟩:∃i,j=i+1:=⟨j - 1,by omega⟩
 have q3:bX "now" =false:=by decide
 have pl:bN "now" [t]=[]:=yp nD.2 rfl
 have z1:dH (n+1) (.tup [.str "now",t])=1:=by rw[sE pl];rfl
 have z2:iz (n+1) (.tup [.str "now",t])=0:=by rw[sF pl,q3];rfl
 rw[z1] at h1 ⊢
 rw[z2] at h2 ⊢
 rw[qW] at hd ⊢
 obtain⟨a1,a2⟩:=fu (show L.drop k=("now":Str) :: (wI t++rest) from hd)
 obtain⟨t1,t2⟩:=PZ (C:=C) (s:=s+1) (b:=b+bI "now") ht hb hL a2
 have e:=P1 (f4:=HE C i) (r:=[t]) (by show 1≤900;omega) (Mj (f3:=HC C) (f4:=EG C) (ym (C:=C) (a:=a) a1 hL nD.1 (by omega) (by omega) (by rw[rD q3];omega)) t1) (nA q3) pw_now
 have ek:k+1+(wI t).length=k+(("now":Str) :: wI t).length:=by rw[List.length_cons];omega
 refine⟨e.trans ?_,by rw[←ek];exact t2⟩
 exact congrArg (fun o=>(some (_,[o]):Option (U×List MO))) (ND (k':=k+(("now":Str) :: wI t).length) (s':=s+((1:Nat):Int)) (b':=b+((0:Nat):Int)) ek (by omega) (by rw[rD q3];omega))
theorem Mt {n:Nat}{bs:List Str}{z:Str}{p:D}(hz:z∈Kl) (ih:ug C L n bs p):ug C L (n+1) bs (.tup [.str z,p]):=by
 intro j k s b a rest hj hb hl hL hd h1 h2 h3
 obtain⟨i,rfl⟩:∃i,j=i+1:=⟨j - 1,by omega⟩
 obtain⟨q1,q2,q3,q4⟩:=q9 hz
 have n2:z≠"within":=by rcases jr hz with rfl | rfl | rfl | rfl <;> decide
 have pl:bN z [p]=[p]:=yp q2 rfl
 have z1:dH (n+1) (.tup [.str z,p])=dH n p+1:=by rw[sE pl,NF];rfl
 have z2:iz (n+1) (.tup [.str z,p])=iz n p:=by rw[sF pl,NF,q3];show 0+_=_;rw[Nat.zero_add];rfl
 rw[z1] at h1 ⊢
 rw[z2] at h2 ⊢
 rw[qX q4] at hd ⊢
 obtain⟨a1,a2⟩:=fu (show L.drop k=z :: (ju n p++rest) from hd)
 obtain⟨i1,i2⟩:=ih (j:=i) (k:=k+1) (s:=s+1) (b:=b+bI z) (a:=a+1) (rest:=rest) (by omega) hb (by omega) hL a2 (by omega) (by rw[rD q3];omega) (by omega)
 have e:=Mp (r:=[]) (by decide) (vC (f2:=HB C) (f3:=HC C) (f4:=EG C) (bd:=.tup (bs.map D.str)) q3 q4 n2 (ym (C:=C) (a:=a) a1 hL q1 (by omega) (by omega) (by rw[rD q3];omega))) (nA q3) (pw_one hz) i1
 have ek:k+1+(ju n p).length=k+(z :: ju n p).length:=by rw[List.length_cons];omega
 refine⟨e.trans ?_,by rw[←ek];exact i2⟩
 exact congrArg (fun o=>(some (_,[o]):Option (U×List MO))) (ND (k':=k+(z :: ju n p).length) (s':=s+((dH n p+1:Nat):Int)) (b':=b+((iz n p:Nat):Int)) ek (by omega) (by rw[rD q3];omega))
theorem Mu {n:Nat}{bs:List Str}{i0:Int}{p:D}(h0:0≤i0) (h5:i0≤5) (ih:ug C L n bs p):ug C L (n+1) bs (.tup [.str "within",.int i0,p]):=by
 intro j k s b a rest hj hb hl hL hd h1 h2 h3
 obtain⟨i,rfl⟩:∃i,j=i+1:=⟨j - 1,by omega⟩
 obtain⟨q1,q2,q3,q4⟩:=vA
 have pl:bN "within" [.int i0,p]=[p]:=yp q2 rfl
 have z1:dH (n+1) (.tup [.str "within",.int i0,p])=dH n p+1:=by rw[sE pl,NF];rfl
 have z2:iz (n+1) (.tup [.str "within",.int i0,p])=iz n p:=by rw[sF pl,NF,q3];show 0+_=_;rw[Nat.zero_add];rfl
 rw[z1] at h1 ⊢
 rw[z2] at h2 ⊢
 rw[qZ] at hd ⊢
 obtain⟨a1,a2⟩:=fu (show L.drop k=("within":Str) :: (tW (.int i0) :: (ju n p++rest)) from hd)
 obtain⟨a3,a4⟩:=fu a2
 obtain⟨i1,i2⟩:=ih (j:=i) (k:=k+1+1) (s:=s+1) (b:=b+bI "within") (a:=a+1) (rest:=rest) (by omega) hb (by omega) hL a4 (by omega) (by rw[rD q3];omega) (by omega)
 have e:=Mp (r:=[.int i0]) (by show 1≤900;omega) (Ml (f2:=HB C) (f4:=EG C) (bd:=.tup (bs.map D.str)) (ym (C:=C) (a:=a) a1 hL q1 (by omega) (by omega) (by rw[rD q3];omega)) (P0 (C:=C) h0 h5 a3 hL)) (nA q3) pw_wth i1
 have ek:k+1+1+(ju n p).length=k+(("within":Str) :: tW (.int i0) :: ju n p).length:=by rw[List.length_cons,List.length_cons];omega
 refine⟨e.trans ?_,by rw[←ek];exact i2⟩
 exact congrArg (fun o=>(some (_,[o]):Option (U×List MO))) (ND (k':=k+(("within":Str) :: tW (.int i0) :: ju n p).length) (s':=s+((dH n p+1:Nat):Int)) (b':=b+((iz n p:Nat):Int)) ek (by omega) (by rw[rD q3];omega))
theorem Mv {n:Nat}{bs:List Str}{z x y:Str}{p:D}(hz:z="each"∨z="one") (hx:nameB (.str x)=true) (hy:nameB (.str y)=true) (ih:ug C L n (bs++[y]) p):ug C L (n+1) bs (.tup [.str z,.str x,.str y,p]):=by
 intro j k s b a rest hj hb hl hL hd h1 h2 h3
 obtain⟨i,rfl⟩:∃i,j=i+1:=⟨j - 1,by omega⟩
 obtain⟨q1,q2,q3,q4⟩:=rA hz
 have n2:z≠"within":=by rcases hz with rfl | rfl <;> decide
 have pl:bN z [.str x,.str y,p]=[p]:=yp q2 rfl
 have z1:dH (n+1) (.tup [.str z,.str x,.str y,p])=dH n p+1:=by rw[sE pl,NF];rfl
 have z2:iz (n+1) (.tup [.str z,.str x,.str y,p])=1+iz n p:=by rw[sF pl,NF,q3];rfl
 rw[z1] at h1 ⊢
 rw[z2] at h2 ⊢
 rw[q8] at hd ⊢
 obtain⟨a1,a2⟩:=fu (show L.drop k=z :: x :: y :: (ju n p++rest) from hd)
 obtain⟨a3,a4⟩:=fu a2
 obtain⟨a5,a6⟩:=fu a4
 obtain⟨i1,i2⟩:=ih (j:=i) (k:=k+1+1+1) (s:=s+1) (b:=b+bI z) (a:=a+1) (rest:=rest) (by omega) (fun v hv=>by
  rcases List.mem_append.mp hv with e | e
  ·exact hb v e
  ·rw[List.mem_singleton.mp e];exact hy) (by rw[List.length_append];show bs.length+1+n≤100;omega) hL a6 (by omega) (by rw[Mr q3];omega) (by omega)
 rw[List.map_append] at i1
 have e:=Mp (r:=[.str x,.str y]) (by show 2≤900;omega) (Mm (f2:=HB C) (f3:=HC C) (bd:=.tup (bs.map D.str)) q3 q4 n2 (ym (C:=C) (a:=a) a1 hL q1 (by omega) (by omega) (by rw[Mr q3];omega)) (GQ (C:=C) a3 hL hx) (GQ (C:=C) a5 hL hy)) (D8 q3 (by rw[List.length_map];omega)) (pw_bnd hz) i1
 have ek:k+1+1+1+(ju n p).length=k+(z :: tW (.str x) :: tW (.str y) :: ju n p).length:=by rw[List.length_cons,List.length_cons,List.length_cons];omega
 refine⟨e.trans ?_,by rw[←ek];exact i2⟩
 exact congrArg (fun o=>(some (_,[o]):Option (U×List MO))) (ND (k':=k+(z :: tW (.str x) :: tW (.str y) :: ju n p).length) (s':=s+((dH n p+1:Nat):Int)) (b':=b+((1+iz n p:Nat):Int)) ek (by omega) (by rw[Mr q3];omega))
theorem Mw {n:Nat}{bs:List Str}{z:Str}{p q:D}(hz:z∈Km) (Jp:ug C L n bs p) (Jq:ug C L n bs q):ug C L (n+1) bs (.tup [.str z,p,q]):=by
 intro j k s b a rest hj hb hl hL hd h1 h2 h3
 obtain⟨i,rfl⟩:∃i,j=i+1:=⟨j - 1,by omega⟩
 obtain⟨q1,q2,q3,q4⟩:=rq hz
 have pl:bN z [p,q]=[p,q]:=yp q2 rfl
 have z1:dH (n+1) (.tup [.str z,p,q])=dH n p+dH n q+1:=by rw[sE pl,ZQ,List.length_append];rfl
 have z2:iz (n+1) (.tup [.str z,p,q])=iz n p+iz n q:=by rw[sF pl,ZQ,q3,List.filter_append,List.length_append];show 0+_=_;rw[Nat.zero_add];rfl
 rw[z1] at h1 ⊢
 rw[z2] at h2 ⊢
 rw[qY (pX hz)] at hd ⊢
 obtain⟨a1,a2⟩:=fu (show L.drop k=z :: (ju n p++(ju n q++rest)) by rw[hd];simp)
 obtain⟨i1,i2⟩:=Jp (j:=i) (k:=k+1) (s:=s+1) (b:=b+bI z) (a:=a+1) (rest:=ju n q++rest) (by omega) hb (by omega) hL a2 (by omega) (by rw[rD q3];omega) (by omega)
 obtain⟨j1,j2⟩:=Jq (j:=i) (k:=k+1+(ju n p).length) (s:=s+1+(dH n p:Nat)) (b:=b+bI z+(iz n p:Nat)) (a:=a+1) (rest:=rest) (by omega) hb (by omega) hL i2 (by omega) (by rw[rD q3];omega) (by omega)
 have e:=VU (r:=[]) (by decide) (vC (f2:=HB C) (f3:=HC C) (f4:=EG C) (bd:=.tup (bs.map D.str)) q3 q4 (pX hz) (ym (C:=C) (a:=a) a1 hL q1 (by omega) (by omega) (by rw[rD q3];omega))) (nA q3) (pw_two hz) i1 j1
 have ek:k+1+(ju n p).length+(ju n q).length=k+(z :: (ju n p++ju n q)).length:=by rw[List.length_cons,List.length_append];omega
 refine⟨e.trans ?_,by rw[←ek];exact j2⟩
 exact congrArg (fun o=>(some (_,[o]):Option (U×List MO))) (ND (k':=k+(z :: (ju n p++ju n q)).length) (s':=s+((dH n p+dH n q+1:Nat):Int)) (b':=b+((iz n p+iz n q:Nat):Int)) ek (by omega) (by rw[rD q3];omega))
theorem P4 {n:Nat}{bs:List Str}{d:D}(h:Sy n bs d):ug C L n bs d:=by
 induction h with
 | leaf hz=>exact Jy hz
 | now ht=>exact Ms ht
 | one hz _ ih=>exact Mt hz ih
 | two hz _ _ Jp Jq=>exact Mw hz Jp Jq
 | Jm h0 h5 _ ih=>exact Mu h0 h5 ih
 | bnd hz hx hy _ ih=>exact Mv hz hx hy ih
end Sf
end
section
set_option Elab.async false
set_option linter.all false
set_option maxRecDepth 100000
namespace Sf
open PySem PySem.Spec PyProof.Rows L2 Sw Ss Sp
variable {C:Addr}{L:List Str}
theorem GY {c:Nat}:∀{a b r s:List Nat},c∉a→c∉b→a++c :: r=b++c :: s→a=b∧r=s
 | [],[],r,s,_,_,h=>by cases h;exact⟨rfl,rfl⟩
 | [],y :: b,r,s,_,hb,h=>by cases h;exact absurd List.mem_cons_self hb
 | x :: a,[],r,s,ha,_,h=>by cases h;exact absurd List.mem_cons_self ha
 | x :: a,y :: b,r,s,ha,hb,h=>by
  injection h with h1 h2
  obtain⟨e1,e2⟩:=GY (fun m=>ha (List.mem_cons_of_mem _ m)) (fun m=>hb (List.mem_cons_of_mem _ m)) h2
  rw[h1,e1]
  exact⟨rfl,e2⟩
theorem rE (c:Nat) (a b:Str) (r:List Str):(Str.join ⟨#[c]⟩ (a :: b :: r)).cps.toList=a.cps.toList++c :: (Str.join ⟨#[c]⟩ (b :: r)).cps.toList:=by
 show(a++⟨#[c]⟩++Str.join ⟨#[c]⟩ (b :: r)).cps.toList=_
 simp only[Str.cps_append,Array.toList_append]
 simp
theorem AD {c:Nat}:∀{as bs:List Str},as≠[]→bs≠[]→(∀p∈as,c∉p.cps.toList)→(∀p∈bs,c∉p.cps.toList)→Str.join ⟨#[c]⟩ as=Str.join ⟨#[c]⟩ bs→as=bs
 | [],_,h,_,_,_,_=>absurd rfl h
 | _,[],_,h,_,_,_=>absurd rfl h
 | [a],[b],_,_,_,_,h=>by rw[show a=b from h]
 | [a],b :: b2 :: r,_,_,ha,hb,h=>by
  have e:=congrArg (fun z:Str=>z.cps.toList) h
  rw[rE] at e
  refine absurd ?_ (ha a List.mem_cons_self)
  rw[show a.cps.toList=_ from e]
  exact List.mem_append_right _ List.mem_cons_self
 | a :: a2 :: r,[b],_,_,ha,hb,h=>by
  have e:=congrArg (fun z:Str=>z.cps.toList) h
  rw[rE] at e
  refine absurd ?_ (hb b List.mem_cons_self)
  rw[show b.cps.toList=_ from e.symm]
  exact List.mem_append_right _ List.mem_cons_self
 | a :: a2 :: r,b :: b2 :: s,_,_,ha,hb,h=>by
  have e:=congrArg (fun z:Str=>z.cps.toList) h
  rw[rE,rE] at e
  obtain⟨e1,e2⟩:=GY (ha a List.mem_cons_self) (hb b List.mem_cons_self) e
  have q:Str.join ⟨#[c]⟩ (a2 :: r)=Str.join ⟨#[c]⟩ (b2 :: s):=Str.ext' (Array.toList_inj.mp e2)
  have ab:a=b:=Str.ext' (Array.toList_inj.mp e1)
  rw[ab,AD (List.cons_ne_nil _ _) (List.cons_ne_nil _ _) (fun p hp=>ha p (List.mem_cons_of_mem _ hp)) (fun p hp=>hb p (List.mem_cons_of_mem _ hp)) q]
theorem B7 {ws:List Str}(h0:ws≠[]) (hf:∀p∈ws,32∉p.cps.toList):Txt.split (Txt.join " " ws) " " =ws:=by
 have e:(" ":Str)=⟨#[32]⟩:=rfl
 rw[e]
 have j:Txt.join ⟨#[32]⟩ ws=Str.join ⟨#[32]⟩ ws:=StrLaws.glued_eq_join _ _
 rw[j]
 refine AD (fun z=>?_) h0 (StrLaws.split_free _ 32) hf (StrLaws.join_split _ _)
 have:=PyProof.Rows.split_pos (Str.join ⟨#[32]⟩ ws) ⟨#[32]⟩
 rw[z] at this
 exact absurd this (by decide)
structure Wk (z:Str):Prop where
 len:z.length≤8
 fr:32∉z.cps.toList
theorem uB {z:Str}(h:nameB (.str z)=true):Wk z:=by
 have h:(decide (1≤z.length) && decide (z.length≤8) && (Sw.signs z).all wH)=true:=h
 simp only[Bool.and_eq_true,decide_eq_true_eq] at h
 refine⟨h.1.2,fun m=>?_⟩
 have:=List.all_eq_true.mp h.2 ⟨#[32]⟩ (List.mem_map.mpr ⟨32,m,rfl⟩)
 exact absurd this (by decide +kernel)
theorem B8 {zs:List Str}(h:(zs.all fun z=>decide (z.length≤8) && decide (32∉z.cps.toList))=true):∀z∈zs,Wk z:=fun z hz=>by
 have:=List.all_eq_true.mp h z hz
 simp only[Bool.and_eq_true,decide_eq_true_eq] at this
 exact⟨this.1,this.2⟩
theorem oN:∀z∈jl,Wk z:=B8 (by decide +kernel)
theorem C8:∀z∈(["any","name","less","same","more"]:List Str),Wk z:=B8 (by decide +kernel)
theorem GZ {k:Int}(h0:0≤k) (h9:k≤9):Wk (tW (.int k)):=by
 have e:∀k∈([0,1,2,3,4,5,6,7,8,9]:List Int),(tW (.int k)).length≤8∧32∉(tW (.int k)).cps.toList:=by decide +kernel
 have:k=0∨k=1∨k=2∨k=3∨k=4∨k=5∨k=6∨k=7∨k=8∨k=9:=by omega
 have:=e k (by rcases this with rfl | rfl | rfl | rfl | rfl | rfl | rfl | rfl | rfl | rfl <;> simp)
 exact⟨this.1,this.2⟩
theorem P5 {bs:List Str}{t:D}(h:Ts bs t) (hb:∀y∈bs,nameB (.str y)=true):∀z∈wI t,Wk z:=by
 have t3:∀o∈ue,Wk o:=B8 (by decide +kernel)
 cases h with
 | any=>intro z hz;rw[List.mem_singleton.mp hz];exact C8 _ (by decide)
 | name hn=>
  intro z hz
  rcases List.mem_cons.mp (show z∈[_,_] from hz) with e | e
  ·rw[e];exact C8 _ (by decide)
  ·rw[List.mem_singleton.mp e];exact uB hn
 | num ho h0 h9=>
  intro z hz
  rcases List.mem_cons.mp (show z∈[_,_] from hz) with e | e
  ·rw[e];exact t3 _ ho
  ·rw[List.mem_singleton.mp e];exact GZ h0 h9
 | var ho hy=>
  intro z hz
  rcases List.mem_cons.mp (show z∈[_,_] from hz) with e | e
  ·rw[e];exact t3 _ ho
  ·rw[List.mem_singleton.mp e];exact uB (hb _ hy)
theorem G0 {n : Nat} {bs : List Str} {d : D} (h : Sy n bs d) : (∀ y ∈ bs, nameB (.str y) = true) → (∀ z ∈ ju n d, Wk z) ∧ ju n d ≠ [] := by
  induction h with
  | leaf hz=>intro hb;rw[Ax];exact⟨fun z hz'=>by rw[List.mem_singleton.mp hz'];exact oN _ (oJ hz).1,List.cons_ne_nil _ _⟩
  | now ht=>
    intro hb
    rw[qW]
    refine⟨fun z hz=>?_,List.cons_ne_nil _ _⟩
    rcases List.mem_cons.mp hz with e | e
    · rw[e];exact oN _ nD.1
    · exact P5 ht hb z e
  | one hz _ ih=>
    intro hb
    rw[qX (GN hz)]
    refine⟨fun z hz'=>?_,List.cons_ne_nil _ _⟩
    rcases List.mem_cons.mp hz' with e | e
    · rw[e];exact oN _ (q9 hz).1
    · exact(ih hb).1 z e
  | two hz _ _ Jp Jq=>
    intro hb
    rw[qY (pX hz)]
    refine⟨fun z hz'=>?_,List.cons_ne_nil _ _⟩
    rcases List.mem_cons.mp hz' with e | e
    · rw[e];exact oN _ (rq hz).1
    · rcases List.mem_append.mp e with e | e
      · exact(Jp hb).1 z e
      · exact(Jq hb).1 z e
  | Jm h0 h5 _ ih=>
    intro hb
    rw[qZ]
    refine⟨fun z hz'=>?_,List.cons_ne_nil _ _⟩
    rcases List.mem_cons.mp hz' with e | e
    · rw[e];exact oN _ vA.1
    · rcases List.mem_cons.mp e with e | e
      · rw[e];exact GZ h0 (by omega)
      · exact(ih hb).1 z e
  | bnd hz hx hy _ ih =>
    intro hb
    rw[q8]
    refine⟨fun z hz'=>?_,List.cons_ne_nil _ _⟩
    have ih':=ih (fun v hv=>by
      rcases List.mem_append.mp hv with e | e
      · exact hb v e
      · rw[List.mem_singleton.mp e];exact hy)
    rcases List.mem_cons.mp hz' with e | e
    · rw[e];exact oN _ (rA hz).1
    · rcases List.mem_cons.mp e with e | e
      · rw[e];exact uB hx
      · rcases List.mem_cons.mp e with e | e
        · rw[e];exact uB hy
        · exact ih'.1 z e
noncomputable def txt (W:List Str):Str:=Txt.join " " W
theorem C9:∀W:List Str,qL (sL W)=some W
 | []=>rfl
 | z :: W=>by show(qL (sL W)).map _=_;rw[C9 W];rfl
theorem Mx:∀{W:List Str},(∀z∈W,Wk z)→(W.map (·.length)).sum≤8 * W.length
 | [],_=>Nat.le_refl _
 | z :: W,h=>by
  have:=Mx fun q hq=>h q (List.mem_cons_of_mem _ hq)
  have:=(h z List.mem_cons_self).len
  simp only[List.map_cons,List.sum_cons,List.length_cons]
  omega
theorem AE {W:List Str}(h:∀z∈W,Wk z) (hl:W.length≤2048):qN [.str " ",.lst (sL W)]=some (.t (.str (txt W))):=by
 show((qL (sL W)).bind fun zs=>if JoinOk " " zs=true then some (U.t (.str (Txt.join " " zs))) else none)=_
 have:=Mx h
 rw[C9,Option.bind_some,if_pos (joinOk_of_weight (by omega) (by decide))]
 rfl
theorem Ek {W:List Str}(h0:W≠[]) (h:∀z∈W,Wk z) (hl:W.length≤2048):lY [.str (txt W),.str " "]=some (.m (.lst (sL W))):=by
 have e:Txt.split (txt W) " " =W:=B7 h0 fun z hz=>(h z hz).fr
 have l1:(txt W).length≤100000:=by
  have a:=StrLaws.join_length_le (⟨#[32]⟩:Str) W
  have b:=Mx h
  have c:(⟨#[32]⟩:Str).length=1:=rfl
  have j:txt W=Str.join ⟨#[32]⟩ W:=StrLaws.glued_eq_join _ _
  rw[j]
  rw[c] at a
  omega
 have l2:(Txt.split (txt W) " ").length≤100000:=by rw[e];omega
 show(if _ then some (U.m (.lst ((Txt.split (txt W) " ").map D.str))) else none)=_
 rw[if_pos ⟨by decide,l1,l2⟩,e]
 rfl
noncomputable def oO (dQ:FM):GS:=
 (eZ (eP qN (aa (eC (.str " ")) (aa (eF (bW dQ (bh (eF (aC 0)) br))) aA))))
noncomputable def vD:FM:=aE 1 (oO (nC 9))
theorem El:∀us r,vD us=some r→aE 1 (oO (nC 9)) us=some r:=fun _ _ h=>h
theorem B9 {f:FM}{d:D}{W:List Str}(e1:f [.t d]=some (.m (.lst (sL W)),[])) (e2:qN [.str " ",.lst (sL W)]=some (.t (.str (txt W)))):aE 1 (oO f) [.t d]=some (.t (.str (txt W)),[]):=by
 simp[aE,oO,e1,e2,aD]
theorem G1 {d:D}(h:Sy 8 [] d):vD [.t d]=some (.t (.str (txt (ju 8 d))),[]):=B9 (GO h (by omega) (by omega)) (AE (G0 h (by simp)).1 (g8 h (by omega)))
noncomputable def dD (ao:Addr):GS:=
 (bD (vd ao 0 "words" (eF (aC 1)))
 (bD (vd ao 0 "at" (eC (.int 0)))
 (bD (vd ao 0 "sayings" (eC (.int 0)))
 (vd ao 0 "binders" (eC (.int 0))))))
noncomputable def AF (C:Addr):FM:=aE 2 (dD C)
theorem G2 (C:Addr):∀us r,AF C us=some r→aE 2 (dD C) us=some r:=fun _ _ h=>h
theorem zj {f:Str}{g:GD}{S:SS}{d:D}{kvs:List (Str×D)}(hl:kvs.length < 900) (h:g (some (.b (.ins C kvs)) :: S)=some (d,some (.b (.ins C kvs)) :: S)):vd C 0 f g (some (.b (.ins C kvs)) :: S)=some (.nx (some (.b (.ins C (jk f d kvs))) :: S)):=by
 unfold vd
 rw[h,Option.bind_some]
 have e:kN C (some (.b (.ins C kvs)) :: S) 0=some kvs:=by
  show(if C=C then some kvs else none)=_
  rw[if_pos rfl]
 dsimp only
 rw[e,Option.bind_some,if_pos hl]
 rfl
theorem Jz (W:List Str):AF C [.b (.ins C []),.t (.lst (sL W))]=some (.t .bZ,[rd C W 0 0 0]):=by
 have s1:=zj (C:=C) (f:="words") (g:=eF (aC 1)) (S:=[some (.t (.lst (sL W)))]) (kvs:=[]) (by decide) rfl
 have s2:=zj (C:=C) (f:="at") (g:=eC (.int 0)) (S:=[some (.t (.lst (sL W)))]) (kvs:=jk "words" (.lst (sL W)) []) (by show 1 < 900;decide) rfl
 have s3:=zj (C:=C) (f:="sayings") (g:=eC (.int 0)) (S:=[some (.t (.lst (sL W)))]) (kvs:=jk "at" (.int 0) (jk "words" (.lst (sL W)) [])) (by show 2 < 900;decide) rfl
 have s4:=zj (C:=C) (f:="binders") (g:=eC (.int 0)) (S:=[some (.t (.lst (sL W)))]) (kvs:=jk "sayings" (.int 0) (jk "at" (.int 0) (jk "words" (.lst (sL W)) []))) (by show 3 < 900;decide) rfl
 have e:jk "binders" (.int 0) (jk "sayings" (.int 0) (jk "at" (.int 0) (jk "words" (.lst (sL W)) [])))=zJ W 0 0 0:=rfl
 rw[e] at s4
 show((dD C) [some (.b (.ins C [])),some (.t (.lst (sL W)))]).bind _=_
 unfold dD
 rw[za,s1,Option.bind_some]
 simp only
 rw[za,s2,Option.bind_some]
 simp only
 rw[za,s3,Option.bind_some]
 simp only
 rw[s4]
 rfl
noncomputable def gm (fG:FM) (aN:FM) (ao:Addr):GS:=
 (bD (dR 1 (Am ao fG (bh (eF (eP lY (aa (eF (aC 0)) (aa (eC (.str " ")) aA)))) br)))
 (bD (dR 2 (fO ao "saying_taken" 1 aN (bh (eF (eP eu aA)) (bh (eC (.int 0)) br))))
 (bD (rK (qB (eF (eP FG (aa (kM ao 1 "at") (aa (eF (eP uc (aa (kM ao 1 "words") aA))) aA))))) Ri ji)
 (eZ (aC 2)))))
theorem VW {m:Str}{f:FM}{gu:GU}{us:List D}{r:U}{o':MO}{t0 t2:Option U}{k:Nat}{s b:Int}(hl:(zJ L k s b).lookup m=none) (hg:gu [t0,some (.m (rd C L k s b)),t2]=some (us.map U.t,[t0,some (.m (rd C L k s b)),t2])) (hf:f (.b (rd C L k s b) :: us.map U.t)=some (r,[o'])):
  fO C m 1 f gu [t0,some (.m (rd C L k s b)),t2]=some (r,[t0,some (.m o'),t2]):=by
 unfold fO
 have e:kN C [t0,some (.m (rd C L k s b)),t2] 1=some (zJ L k s b):=by
  show(if C=C then some (zJ L k s b) else none)=_
  rw[if_pos rfl]
 rw[e,Option.bind_some,if_pos hl]
 unfold bW Gp
 rw[hg]
 have q1:slotsOf (U.v 1 :: us.map U.t)=[1]:=by show 1 :: slotsOf (us.map U.t)=_;rw[Jc]
 have q2:aT (U.v 1 :: us.map U.t)=0:=Jd us
 have q3:aO [t0,some (.m (rd C L k s b)),t2] (.v 1 :: us.map U.t)=some (.b (rd C L k s b) :: us.map U.t):=by
  show(some (U.b (rd C L k s b))).bind (fun w=>(aO _ (us.map U.t)).map fun ws=>w :: ws)=_
  rw[C0]
  rfl
 have q4:wb (.v 1 :: us.map U.t) [o'] [t0,some (.m (rd C L k s b)),t2]=some [t0,some (.m o'),t2]:=Gv _ us
 simp only[Option.map_some,Option.bind_some]
 rw[if_pos ⟨by rw[q1];decide,by rw[q2];decide⟩,q3,Option.bind_some,hf,Option.bind_some,q4]
 rfl
theorem JC {f1 f2:FM}{z:Str}{d:D}{s b:Int}(e0:lY [.str z,.str " "]=some (.m (.lst (sL L)))) (e1:f1 [.b (.ins C []),.t (.lst (sL L))]=some (.t .bZ,[rd C L 0 0 0])) (e2:f2 [.b (rd C L 0 0 0),.t (.tup []),.t (.int 0)]=some (.t d,[rd C L L.length s b])):
  aE 3 (gm f1 f2 C) [.t (.str z)]=some (.t d,[]):=by
 have g1:(bh (eF (eP lY (aa (eF (aC 0)) (aa (eC (.str " ")) aA)))) br) [some (.t (.str z)),none,none]=some ([.t (.lst (sL L))],[some (.t (.str z)),none,none]):=by simp[e0]
 have mk:Am C f1 (bh (eF (eP lY (aa (eF (aC 0)) (aa (eC (.str " ")) aA)))) br) [some (.t (.str z)),none,none]=some (.m (rd C L 0 0 0),[some (.t (.str z)),none,none]):=by
  unfold Am
  rw[g1,Option.bind_some]
  dsimp only
  rw[if_pos ⟨rfl,rfl⟩]
  show(some [U.t (.lst (sL L))]).bind _=_
  rw[Option.bind_some,e1]
  rfl
 have m1:=VW (m:="saying_taken") (gu:=bh (eF (eP eu aA)) (bh (eC (.int 0)) br)) (us:=[.tup [],.int 0]) (t0:=some (.t (.str z))) (t2:=none) rfl rfl e2
 have f3:kM C 1 "at" [some (.t (.str z)),some (.m (rd C L L.length s b)),some (.t d)]=some (.int L.length,[some (.t (.str z)),some (.m (rd C L L.length s b)),some (.t d)]):=by
  have e:kN C [some (.t (.str z)),some (.m (rd C L L.length s b)),some (.t d)] 1=some (zJ L L.length s b):=by
   show(if C=C then some (zJ L L.length s b) else none)=_
   rw[if_pos rfl]
  rw[nF,e]
  rfl
 have f4:kM C 1 "words" [some (.t (.str z)),some (.m (rd C L L.length s b)),some (.t d)]=some (.lst (sL L),[some (.t (.str z)),some (.m (rd C L L.length s b)),some (.t d)]):=by
  have e:kN C [some (.t (.str z)),some (.m (rd C L L.length s b)),some (.t d)] 1=some (zJ L L.length s b):=by
   show(if C=C then some (zJ L L.length s b) else none)=_
   rw[if_pos rfl]
  rw[nF,e]
  rfl
 have VT:uc [.lst (sL L)]=some (.t (.int (L.length:Int))):=by
  show some (U.t (.int ((sL L).length:Nat)))=_
  rw[pY]
 simp[aE,gm,mk,m1,f3,f4,VT,aD]
noncomputable def P6 (C:Addr):FM:=aE 3 (gm (AF C) (HE C 9) C)
theorem My (C:Addr):∀us r,P6 C us=some r→aE 3 (gm (AF C) (HE C 9) C) us=some r:=fun _ _ h=>h
theorem P7 {d:D}(h:Sy 8 [] d) (h1:dH 8 d≤16) (h2:iz 8 d≤3):P6 C [.t (.str (txt (ju 8 d)))]=some (.t d,[]):=by
 have w:=G0 h (by simp)
 have few:=g8 h (by omega)
 obtain⟨e,_⟩:=P4 (C:=C) (L:=ju 8 d) h (j:=9) (k:=0) (s:=0) (b:=0) (a:=0) (rest:=[]) (by omega) (by simp) (by simp) (by omega) (by simp) (by omega) (by omega) (by omega)
 rw[Nat.zero_add] at e
 exact JC (Ek w.2 w.1 few) (Jz _) e
end Sf
end
section
set_option Elab.async false
set_option linter.all false
set_option maxRecDepth 100000
namespace Sf
open PySem PySem.Spec PyProof.Rows L2 Sw Ss Sp
noncomputable def fh (gJ:FM) (bO:FM):GS:=
 (dR 1 (eP iF (aa (eF (aC 1)) (aa (eF (bW bO (bh (gZ 0 (eF (aC 2))) br))) aA))))
noncomputable def bf (gJ:FM) (bO:FM):GS:=
 (bD (dR 1 (eP iT (aa (gZ 0 (eC (.int 0))) aA)))
 (bD (rK (qB (eF (eP BH (aa (gZ 0 (eC (.int 0))) (aa (eC (.str "now")) aA))))) (dR 1 (eP iF (aa (eF (aC 1)) (aa (eF (xH [] (z4 (gZ 0 (eC (.int 1)))) iU (eF (eP ve (aa (eF (aC 0)) aA))))) aA)))) ji)
 (bD (rK (qB (eF (eP BH (aa (gZ 0 (eC (.int 0))) (aa (eC (.str "within")) aA))))) (mO (eT (eM 1 hAppend (aa (eF (eP ve (aa (gZ 0 (eC (.int 1))) aA))) aA)))) ji)
 (bD (rK (qB (eF (eP z8 (aa (gZ 0 (eC (.int 0))) (aa (eF (eP eu (aa (eC (.str "each")) (aa (eC (.str "one")) aA)))) aA))))) (dR 1 (eP iF (aa (eF (aC 1)) (aa (eF (eP iT (aa (gZ 0 (eC (.int 1))) (aa (gZ 0 (eC (.int 2))) aA)))) aA)))) ji)
 (bD (DM (bName 2) (z4 (eF (eP DI (aa (eF (bW gJ (bh (gZ 0 (eC (.int 0))) br))) (aa (eC (.int 1)) aA))))) (fh gJ bO))
 (eZ (aC 1)))))))
section
variable {f1 f2:FM}{z:Str}{p q lg:D}{wp wq:List Str}
theorem Mz {a c:List Str}(h:a.length+c.length≤100000):iF [.lst (sL a),.lst (sL c)]=some (.m (.lst (sL (a++c)))):=by
 show(if(sL a).length+(sL c).length≤100000 then some (U.m (.lst (sL a++sL c))) else none)=_
 rw[if_pos (by rw[pY,pY];exact h),yj]
theorem ZR {ds:List D}{i:Int}{ws:List Str}(ha:iS ds i=some p) (e2:f2 [.t p]=some (.m (.lst (sL wp)),[])) (hl:ws.length+wp.length≤100000):fh f1 f2 [some (.t (.tup ds)),some (.m (.lst (sL ws))),some (.t (.int i))]=some (.nx [some (.t (.tup ds)),some (.m (.lst (sL (ws++wp)))),some (.t (.int i))]):=by
 have a:=Mz hl
 simp[-An,fh,ha,e2,a]
theorem nb {z:Str}(h:bX z=false):z8 [.str z,.tup [.str "each",.str "one"]]=some (.t (.bl false)):=by
 unfold bX Jf at h
 simp only[List.map_cons,List.map_nil] at h
 show(if bM [D.str "each",D.str "one"]≤40 then some (U.t (.bl (inD (.str z) [.str "each",.str "one"]))) else none)=_
 rw[if_pos (show bM [D.str "each",D.str "one"]≤40 from oM ["each","one"]),h]
theorem yb {z:Str}(h:bX z=true):z8 [.str z,.tup [.str "each",.str "one"]]=some (.t (.bl true)):=by
 unfold bX Jf at h
 simp only[List.map_cons,List.map_nil] at h
 show(if bM [D.str "each",D.str "one"]≤40 then some (U.t (.bl (inD (.str z) [.str "each",.str "one"]))) else none)=_
 rw[if_pos (show bM [D.str "each",D.str "one"]≤40 from oM ["each","one"]),h]
theorem Se {ds:List D}{i:Int}{ws:List Str}{x2:Option U}(h2:qR x2=false) (ha:iS ds i=some p) (e2:f2 [.t p]=some (.m (.lst (sL wp)),[])) (hl:ws.length+wp.length≤100000):loop (bName 2) (fh f1 f2) [.int i] [some (.t (.tup ds)),some (.m (.lst (sL ws))),x2]=some (.nx [some (.t (.tup ds)),some (.m (.lst (sL (ws++wp)))),some (.t (.int i))]):=by
 have t:=ZR (f1:=f1) ha e2 hl
 have eb:bName 2 (.int i) [some (.t (.tup ds)),some (.m (.lst (sL ws))),x2]=some [some (.t (.tup ds)),some (.m (.lst (sL ws))),some (.t (.int i))]:=by simp[-vg,qT,h2]
 show(bName 2 (.int i) _).bind (fun S1=>(fh f1 f2 S1).bind _)=_
 rw[eb,Option.bind_some,t,Option.bind_some]
 rfl
theorem lp2 {ds:List D}{i j:Int}{ws:List Str}{x2:Option U}(h2:qR x2=false) (ha:iS ds i=some p) (hb:iS ds j=some q) (e2:f2 [.t p]=some (.m (.lst (sL wp)),[])) (e3:f2 [.t q]=some (.m (.lst (sL wq)),[])) (hl:ws.length+wp.length+wq.length≤100000):loop (bName 2) (fh f1 f2) [.int i,.int j] [some (.t (.tup ds)),some (.m (.lst (sL ws))),x2]=some (.nx [some (.t (.tup ds)),some (.m (.lst (sL (ws++wp++wq)))),some (.t (.int j))]):=by
 have t:=ZR (f1:=f1) ha e2 (ws:=ws) (by omega)
 have eb:bName 2 (.int i) [some (.t (.tup ds)),some (.m (.lst (sL ws))),x2]=some [some (.t (.tup ds)),some (.m (.lst (sL ws))),some (.t (.int i))]:=by simp[-vg,qT,h2]
 show(bName 2 (.int i) _).bind (fun S1=>(fh f1 f2 S1).bind _)=_
 rw[eb,Option.bind_some,t,Option.bind_some]
 exact Se rfl hb e3 (by rw[List.length_append];omega)
theorem JF (n1:z≠"now") (n2:z≠"within") (hb:bX z=false) (e1:f1 [.t (.str z)]=some (.t (.tup [lg,.lst []]),[])):aE 3 (bf f1 f2) [.t (.tup [.str z])]=some (.m (.lst (sL [z])),[]):=by
 have b:=nb hb
 simp[aE,bf,ez,fQ,n1,n2,b,e1,gz,loop,aD,sL]
theorem MA (n1:z≠"now") (n2:z≠"within") (hb:bX z=false) (e1:f1 [.t (.str z)]=some (.t (.tup [lg,.lst [.int 1]]),[])) (e2:f2 [.t p]=some (.m (.lst (sL wp)),[])) (hl:wp.length≤4000):aE 3 (bf f1 f2) [.t (.tup [.str z,p])]=some (.m (.lst (sL (z :: wp))),[]):=by
 have b:=nb hb
 have l:=Se (f1:=f1) (x2:=none) (ds:=[.str z,p]) (i:=1) (ws:=[z]) rfl (fQ ..) e2 (by show 1+_≤_;omega)
 rw[←R8] at l
 simp[aE,bf,ez,fQ,n1,n2,b,e1,gz,l,aD]
theorem MB (n1:z≠"now") (n2:z≠"within") (hb:bX z=false) (e1:f1 [.t (.str z)]=some (.t (.tup [lg,.lst [.int 1,.int 2]]),[])) (e2:f2 [.t p]=some (.m (.lst (sL wp)),[])) (e3:f2 [.t q]=some (.m (.lst (sL wq)),[])) (hl:wp.length+wq.length≤9000):aE 3 (bf f1 f2) [.t (.tup [.str z,p,q])]=some (.m (.lst (sL (z :: (wp++wq)))),[]):=by
 have b:=nb hb
 have l:=lp2 (f1:=f1) (x2:=none) (ds:=[.str z,p,q]) (i:=1) (j:=2) (ws:=[z]) rfl (fQ ..) (qU ..) e2 e3 (by show 1+_+_≤_;omega)
 rw[←R8] at l
 simp[aE,bf,ez,fQ,n1,n2,b,e1,gz,l,aD]
theorem MC {x y:Str}(n1:z≠"now") (n2:z≠"within") (hb:bX z=true) (e1:f1 [.t (.str z)]=some (.t (.tup [lg,.lst [.int 3]]),[])) (e2:f2 [.t p]=some (.m (.lst (sL wp)),[])) (hl:wp.length≤4000):aE 3 (bf f1 f2) [.t (.tup [.str z,.str x,.str y,p])]=some (.m (.lst (sL (z :: x :: y :: wp))),[]):=by
 have b:=yb hb
 have a3:iS [D.str z,.str x,.str y,p] 3=some p:=rfl
 have l:=Se (f1:=f1) (x2:=none) (ds:=[.str z,.str x,.str y,p]) (i:=3) (ws:=[z,x,y]) rfl a3 e2 (by show 3+_≤_;omega)
 rw[show sL [z,x,y]=[D.str z,.str x,.str y] from rfl] at l
 simp[aE,bf,ez,fQ,qU,n1,n2,b,e1,gz,l,aD]
theorem MD {i0:Int}(h0:0≤i0) (h9:i0≤9) (e1:f1 [.t (.str "within")]=some (.t (.tup [lg,.lst [.int 2]]),[])) (e2:f2 [.t p]=some (.m (.lst (sL wp)),[])) (hl:wp.length≤4000):aE 3 (bf f1 f2) [.t (.tup [.str "within",.int i0,p])]=some (.m (.lst (sL ("within" :: tW (.int i0) :: wp))),[]):=by
 have b:=nb (z:="within") (by decide)
 have n1:¬(("within":Str)="now"):=by decide
 have l:=Se (f1:=f1) (x2:=none) (ds:=[.str "within",.int i0,p]) (i:=2) (ws:=["within",tW (.int i0)]) rfl (qU ..) e2 (by show 2+_≤_;omega)
 rw[show sL ["within",tW (.int i0)]=[D.str "within",.str (toString i0)] from rfl] at l
 have e5:=zg h0 h9
 have e6:tW (.int i0)=(toString i0:Str):=rfl
 rw[e6] at l ⊢
 generalize (Str.ofString (toString i0))=tk at e5 l ⊢
 simp[aE,bf,ez,fQ,qU,n1,b,e1,gz,e5,hAppend,Lq,qz,l,aD]
theorem ME {t:D}{bs:List Str}(h:Ts bs t) (e1:f1 [.t (.str "now")]=some (.t (.tup [lg,.lst []]),[])):aE 3 (bf f1 f2) [.t (.tup [.str "now",t])]=some (.m (.lst (sL ("now" :: wI t))),[]):=by
 have b:=nb (z:="now") (by decide)
 have n2:¬(("now":Str)="within"):=by decide
 cases h with
 | any=>simp[aE,bf,ez,fQ,n2,b,e1,gz,iw,d7,slotsOf,aT,aO,wb,iU,aD,mq,wI,tW,sL,loop]
 | name _=>simp[aE,bf,ez,fQ,n2,b,e1,gz,iw,d7,slotsOf,aT,aO,wb,iU,aD,mq,wI,tW,sL,loop]
 | num _ h0 h9=>simp[aE,bf,ez,fQ,n2,b,e1,gz,iw,d7,slotsOf,aT,aO,wb,iU,aD,mq,zg h0 h9,wI,tW,sL,loop]
 | var _ _=>simp[aE,bf,ez,fQ,n2,b,e1,gz,iw,d7,slotsOf,aT,aO,wb,iU,aD,mq,wI,tW,sL,loop]
end
noncomputable def kO:Nat→FM
 | 0=>fun _=>none
 | j+1=>aE 3 (bf jq (kO j))
theorem Ca (j:Nat):∀us r,kO (j+1) us=some r→aE 3 (bf jq (kO j)) us=some r:=fun _ _ h=>h
theorem zm (us:List U):kO 0 us=none:=rfl
theorem MF {z:Str}(h:z∈Kl):jq [.t (.str z)]=some (.t (.tup [.int 2,.lst [.int 1]]),[]):=by rw[j6];rcases jr h with rfl | rfl | rfl | rfl <;> rfl
theorem MG {z:Str}(h:z∈Km):jq [.t (.str z)]=some (.t (.tup [.int 3,.lst [.int 1,.int 2]]),[]):=by rw[j6];rcases lK h with rfl | rfl | rfl <;> rfl
theorem JH {z:Str}(h:z="yes"∨z="no"):jq [.t (.str z)]=some (.t (.tup [.int 1,.lst []]),[]):=by rw[j6];rcases h with rfl | rfl <;> rfl
theorem MH:jq [.t (.str "now")]=some (.t (.tup [.int 2,.lst []]),[]):=by rw[j6];rfl
theorem MI:jq [.t (.str "within")]=some (.t (.tup [.int 3,.lst [.int 2]]),[]):=by rw[j6];rfl
theorem MJ {z:Str}(h:z="each"∨z="one"):jq [.t (.str z)]=some (.t (.tup [.int 4,.lst [.int 3]]),[]):=by rw[j6];rcases h with rfl | rfl <;> rfl
theorem Em {n:Nat}{bs:List Str}{d:D}(h:Sy n bs d):∀{j:Nat},n≤j→n≤8→kO j [.t d]=some (.m (.lst (sL (ju n d))),[]):=by
 induction h with
 | leaf hz=>
  intro j hj _
  obtain⟨i,rfl⟩:∃i,j=i+1:=⟨j - 1,by omega⟩
  obtain⟨a,b,c,d⟩:=oJ hz
  exact JF d (by rcases hz with rfl | rfl <;> decide) c (JH hz)
 | now ht=>
  intro j hj _
  obtain⟨i,rfl⟩:∃i,j=i+1:=⟨j - 1,by omega⟩
  rw[qW]
  exact ME ht MH
 | @one n bs z p hz hp ih=>
  intro j hj hn
  obtain⟨i,rfl⟩:∃i,j=i+1:=⟨j - 1,by omega⟩
  obtain⟨a,b,c,d⟩:=q9 hz
  have f:=g8 hp (by omega)
  rw[qX d]
  exact MA d (by rcases jr hz with rfl | rfl | rfl | rfl <;> decide) c (MF hz) (ih (by omega) (by omega)) (by omega)
 | @two n bs z p q hz hp hq Jp Jq=>
  intro j hj hn
  obtain⟨i,rfl⟩:∃i,j=i+1:=⟨j - 1,by omega⟩
  obtain⟨a,b,c,d⟩:=rq hz
  have f:=g8 hp (by omega)
  have g:=g8 hq (by omega)
  rw[qY (pX hz)]
  exact MB d (pX hz) c (MG hz) (Jp (by omega) (by omega)) (Jq (by omega) (by omega)) (by omega)
 | @Jm n bs k p h0 h5 hp ih=>
  intro j hj hn
  obtain⟨i,rfl⟩:∃i,j=i+1:=⟨j - 1,by omega⟩
  have f:=g8 hp (by omega)
  rw[qZ]
  exact MD h0 (by omega) MI (ih (by omega) (by omega)) (by omega)
 | @bnd n bs z a y p hz ha hy hp ih=>
  intro j hj hn
  obtain⟨i,rfl⟩:∃i,j=i+1:=⟨j - 1,by omega⟩
  obtain⟨a1,b,c,d⟩:=rA hz
  have f:=g8 hp (by omega)
  rw[q8]
  exact MC d (by rcases hz with rfl | rfl <;> decide) c (MJ hz) (ih (by omega) (by omega)) (by omega)
end Sf
end
section
set_option Elab.async false
set_option linter.all false
set_option maxRecDepth 100000
namespace Sp
open PySem PySem.Spec PyProof.Rows L2 Sw Ss
theorem En {c:Nat}(h:wH ⟨#[c]⟩=true):c < 16 ^ 8:=by
 obtain⟨i,hi⟩:=(PySem.StrLaws.found_iff Sw.PB ⟨#[c]⟩).mp h
 have:=(PySem.StrLaws.subAt_one Sw.PB c i).mp hi
 have k:∀c∈Sw.PB.cps.toList,c < 16 ^ 8:=by decide +kernel
 exact k c (List.mem_of_getElem? this)
theorem oR {z:Str}(h:nameB (.str z)=true):Sane (.str z)∧z.length≤8:=by
 unfold nameB at h
 simp only[Bool.and_eq_true,decide_eq_true_eq,List.all_eq_true] at h
 exact⟨fun c hc=>En (h.2 _ (List.mem_map.mpr ⟨c,hc,rfl⟩)),h.1.2⟩
noncomputable def Wd (z:Str):Prop:=Sane (.str z)∧z.length≤8
theorem rF (z:Str) (h:(z.cps.toList.all fun c=>decide (c < 16 ^ 8))=true) (h8:z.length≤8):Wd z:=⟨fun c hc=>of_decide_eq_true (List.all_eq_true.mp h c hc),h8⟩
theorem good_str {z:Str}(h:Wd z):Good 82 0 (.str z):=⟨h.1,by show 10 * z.length+2≤82;have:=h.2;omega,Nat.le_refl _⟩
theorem good_int {k:Int}(h0:0≤k) (h9:k≤9):Good 40 0 (.int k):=by
 refine⟨?_,Nat.le_refl _,Nat.le_refl _⟩
 show k.natAbs < 10 ^ 30
 have:k.natAbs≤9:=by omega
 exact Nat.lt_of_le_of_lt this (by decide)
theorem yq {a:D}{n k:Nat}(h:Good n k a):Good (n+6) (k+1) (.tup [a]):=⟨⟨h.ud,True.intro⟩,by show wD a+2+0+4≤_;have:=h.w;omega,by show max (cJ a) 0+1≤_;have:=h.dep;omega⟩
theorem lM {a b:D}{n k n2 k2:Nat}(h:Good n k a) (g:Good n2 k2 b):Good (n+n2+8) (max k k2+1) (.tup [a,b]):=⟨⟨h.ud,g.ud,True.intro⟩,by show wD a+2+(wD b+2+0)+4≤_;have:=h.w;have:=g.w;omega,by show max (cJ a) (max (cJ b) 0)+1≤_;have:=h.dep;have:=g.dep;omega⟩
theorem yr {a b c:D}{n k n2 k2 n3 k3:Nat}(h:Good n k a) (g:Good n2 k2 b) (j:Good n3 k3 c):Good (n+n2+n3+10) (max k (max k2 k3)+1) (.tup [a,b,c]):=
 ⟨⟨h.ud,g.ud,j.ud,True.intro⟩,by show wD a+2+(wD b+2+(wD c+2+0))+4≤_;have:=h.w;have:=g.w;have:=j.w;omega,by show max (cJ a) (max (cJ b) (max (cJ c) 0))+1≤_;have:=h.dep;have:=g.dep;have:=j.dep;omega⟩
theorem Eo {a b c d:D}{n k n2 k2 n3 k3 n4 k4:Nat}(h:Good n k a) (g:Good n2 k2 b) (j:Good n3 k3 c) (l:Good n4 k4 d):Good (n+n2+n3+n4+12) (max k (max k2 (max k3 k4))+1) (.tup [a,b,c,d]):=
 ⟨⟨h.ud,g.ud,j.ud,l.ud,True.intro⟩,by show wD a+2+(wD b+2+(wD c+2+(wD d+2+0)))+4≤_;have:=h.w;have:=g.w;have:=j.w;have:=l.w;omega,by show max (cJ a) (max (cJ b) (max (cJ c) (max (cJ d) 0)))+1≤_;have:=h.dep;have:=g.dep;have:=j.dep;have:=l.dep;omega⟩
theorem G3 {o:Str}(h:o∈ue):Wd o:=by
 simp only[ue,List.mem_cons,List.not_mem_nil,or_false] at h
 rcases h with rfl | rfl | rfl <;> exact rF _ (by decide +kernel) (by decide)
theorem Ts.good {bs:List Str}{t:D}(h:Ts bs t) (hw:∀y∈bs,Wd y):Good 172 1 t:=by
 cases h with
 | any=>exact(yq (good_str (rF "any" (by decide +kernel) (by decide)))).mono (by decide) (by decide)
 | name h=>exact(lM (good_str (rF "name" (by decide +kernel) (by decide))) (good_str (oR h))).mono (by decide) (by decide)
 | num a b c=>exact(lM (good_str (G3 a)) (good_int b c)).mono (by decide) (by decide)
 | var a b=>exact(lM (good_str (G3 a)) (good_str (hw _ b))).mono (by decide) (by decide)
theorem Sy.good {n:Nat}{bs:List Str}{d:D}(h:Sy n bs d) (hw:∀y∈bs,Wd y):Good (400 * 2 ^ n - 300) (n+1) d:=by
 have pw:∀n:Nat,1≤2 ^ n:=fun n=>Nat.one_le_two_pow
 induction h with
 | @leaf n bs z h=>have:=pw n;exact(yq (good_str (by rcases h with rfl | rfl <;> exact rF _ (by decide +kernel) (by decide)))).mono (by rw[Nat.pow_succ];omega) (by omega)
 | @now n bs t h=>have:=pw n;exact(lM (good_str (rF "now" (by decide +kernel) (by decide))) (h.good hw)).mono (by rw[Nat.pow_succ];omega) (by omega)
 | @one n bs z p hz _ ih=>have:=pw n;exact(lM (good_str (by rcases jr hz with rfl | rfl | rfl | rfl <;> exact rF _ (by decide +kernel) (by decide))) (ih hw)).mono (by rw[Nat.pow_succ];omega) (by omega)
 | @two n bs z p q hz _ _ i1 i2=>have:=pw n;exact(yr (good_str (by rcases lK hz with rfl | rfl | rfl <;> exact rF _ (by decide +kernel) (by decide))) (i1 hw) (i2 hw)).mono (by rw[Nat.pow_succ];omega) (by omega)
 | @Jm n bs k p a b _ ih=>have:=pw n;exact(yr (good_str (rF "within" (by decide +kernel) (by decide))) (good_int a (by omega)) (ih hw)).mono (by rw[Nat.pow_succ];omega) (by omega)
 | @bnd n bs z a y p hz ha hb _ ih=>
  have:=pw n
  exact(Eo (good_str (by rcases hz with rfl | rfl <;> exact rF _ (by decide +kernel) (by decide))) (good_str (oR ha)) (good_str (oR hb)) (ih fun w hw'=>by
   rcases List.mem_append.mp hw' with q | q
   ·exact hw w q
   ·rw[List.mem_singleton.mp q];exact oR hb)).mono (by rw[Nat.pow_succ];omega) (by omega)
end Sp
end
section
set_option Elab.async false
set_option linter.all false
set_option maxRecDepth 100000
namespace Sf
open PySem PySem.Spec PyProof.Rows L2 Sw Ss Sp
noncomputable def sG (iI:FM) (gK:FM) (gM:FM) (aI:FM) (pZ:FM) (bO:FM) (fS:FM):GS:=
 (bD (dR 2 (bW iI (iG (aC 0) (bh (eF (aC 1)) br))))
 (bD (dR 3 (eP iF (aa (eF (bW gK br)) (aa (eF (eP iT (aa (eC (.str "not")) (aa (eC (.str "now")) (aa (eC (.str "yes")) (aa (eC (.str "less")) (aa (eC (.str "each")) (aa (eC (.str "till")) (aa (eC (.str "nows")) (aa (eC (.str "anyone")) (aa (eC (.str "lessx")) (aa (eC (.str "withina")) aA)))))))))))) aA))))
 (bD (dR 4 (bW gM (iG (aC 2) (bh (eF (aC 3)) (bh (eF (eP iF (aa (eC (.int 1)) (aa (eF (bW aI (iG (aC 2) (bh (eC (.int 16)) br)))) aA)))) (bh (eF (eP iF (aa (eC (.int 1)) (aa (eF (bW aI (iG (aC 2) (bh (eC (.int 8)) br)))) aA)))) br))))))
 (bD (dR 5 (eP xO (aa (eF (aC 4)) aA)))
 (bD (dR 6 (bW pZ (bh (eF (aC 4)) br)))
 (bD (rK (FE (FD (qB (Q9 ["str"] (eF (aC 6))))) (FE (qB (eF (eP Lu (aa (eF (aC 6)) (aa (eF (eP qN (aa (eC (.str " ")) (aa (eF (bW bO (bh (eF (aC 4)) br))) aA)))) aA))))) (qB (eF (eP Lu (aa (eF (eP xO (aa (eF (aC 4)) aA))) (aa (eF (aC 5)) aA))))))) (eZ (eT (eC (.bl false)))) ji)
 (rK (qB (eF (eP Lu (aa (eF (eP xO (aa (eF (bW fS (bh (eF (aC 6)) br))) aA))) (aa (eF (aC 5)) aA))))) (eZ (eT (eC (.bl false)))) ji)))))))
noncomputable def AG (iI:FM) (gK:FM) (gM:FM) (aI:FM) (pZ:FM) (bO:FM) (fS:FM):GS:=
 (bD (DM (bName 1) (uO (aa (eF (eP iF (aa (eC (.int 1)) (aa (eF (eP uc (aa (eF (Ga 0 none (some (eC (.int 29))))) aA))) aA)))) aA)) (sG iI gK gM aI pZ bO fS))
 (eZ (eT (eC (.bl true)))))
theorem G4 {d:D}(h:DT d):xO [d]=some (.t (.str (toPy d).shown)):=by show(if DT d then some (U.t (.str (toPy d).shown)) else none)=_;rw[if_pos h]
theorem AH (z:Str):Lu [.str z,.str z]=some (.t (.bl false)):=by
 show(if cJ (.str z)≤40 then some (U.t (.bl (!lT (.str z) (.str z)))) else none)=_
 rw[if_pos (show cJ (.str z)≤40 from Nat.zero_le _),ng]
 rfl
theorem MK:iF [.lst (sf.map D.str),.lst [.str "not",.str "now",.str "yes",.str "less",.str "each",.str "till",.str "nows",.str "anyone",.str "lessx",.str "withina"]]=some (.m (.lst zI)):=rfl
theorem Ep:sr []=some (.m (.lst (sf.map D.str)),[]):=rfl
section
variable {f1 f2 f3 f4 f5 f6 f7:FM}{ns:List Int}{kd d:D}{T0 T1 T2 T3:MO}{a c:Int}{W:List Str}{x2 x3 x4 x5 x6:Option U}
theorem ML (h2:qR x2=false) (h3:qR x3=false) (h4:qR x4=false) (h5:qR x5=false) (h6:qR x6=false) (e1:f1 [.s ns,.t kd]=some (.m T0,[])) (e2:f2 []=some (.m (.lst (sf.map D.str)),[])) (p1:f4 [.b T0,.t (.int 16)]=some (.t (.int a),[T1])) (p2:f4 [.b T1,.t (.int 8)]=some (.t (.int c),[T2]))
  (e3:f3 [.b T2,.t (.lst zI),.t (.int (1+a)),.t (.int (1+c))]=some (.t d,[T3])) (r:DT d) (e5:f5 [.t d]=some (.t (.str (txt W)),[])) (e6:f6 [.t d]=some (.m (.lst (sL W)),[])) (ej:qN [.str " ",.lst (sL W)]=some (.t (.str (txt W)))) (e7:f7 [.t (.str (txt W))]=some (.t d,[])):
  sG f1 f2 f3 f4 f5 f6 f7 [some (.s ns),some (.t kd),x2,x3,x4,x5,x6]=some (.nx [some (.s ns),some (.t kd),some (.m T3),some (.t (.lst zI)),some (.t d),some (.t (.str (toPy d).shown)),some (.t (.str (txt W)))]):=by
 have rr:=G4 r
 have n1:=AH (txt W)
 have n2:=AH (toPy d).shown
 have na:=MK
 simp[-vg,qT,-Pq,-IZ,-An,sG,h2,h3,h4,h5,h6,e1,e2,na,p1,p2,e3,rr,e5,e6,ej,e7,n1,n2,mQ,uR,pK]
end
theorem VX {d:D}(h:Sy 8 [] d):DT d:=(h.good (by simp)).DT (by decide) (by decide)
noncomputable abbrev Kn (C:Addr) (g:FM→FM→FM→FM→FM→FM→FM→GS):GS:=g vh sr vt jF vD (kO 9) (P6 C)
theorem G5 {ns:List Int}{k:Int}(h:0≤k) (h1:k < 1000000) (h2:ns.length < 1000000):vh [.s ns,.t (.int k)]=some (.m (tp (Ar ns k)),[]):=by simp[vh,h,h1,h2]
theorem MM {C:Addr}{ns:List Int}{k:Int}{x2 x3 x4 x5 x6:Option U}(k0:0≤k) (k1:k < 1000) (hns:ns.length < 1000) (h2:qR x2=false) (h3:qR x3=false) (h4:qR x4=false) (h5:qR x5=false) (h6:qR x6=false):
  ∃y2 y3 y4 y5 y6,qR y2=false∧qR y3=false∧qR y4=false∧qR y5=false∧qR y6=false∧Kn C sG [some (.s ns),some (.t (.int k)),x2,x3,x4,x5,x6]=some (.nx [some (.s ns),some (.t (.int k)),y2,y3,y4,y5,y6]):=by
 have e1:=G5 (ns:=ns) (k:=k) k0 (by omega) (by omega)
 generalize ht0:Ar ns k=t0 at e1
 have n0:t0.n=0:=by rw[←ht0];rfl
 have p1:=gD (t:=t0) (m:=16) (by omega) (by omega) (by omega) (by omega)
 obtain⟨a0,a1⟩:=cE (t:=t0) (m:=16) (by omega)
 have VG:(bq t0 16).n=t0.n+1:=gC t0 16
 generalize cU t0 16=a at *
 generalize bq t0 16=t1 at *
 have p2:=gD (t:=t1) (m:=8) (by omega) (by omega) (by omega) (by omega)
 obtain⟨c0,c1⟩:=cE (t:=t1) (m:=8) (by omega)
 have NC:(bq t1 8).n=t1.n+1:=gC t1 8
 generalize cU t1 8=c at *
 generalize bq t1 8=t2 at *
 obtain⟨d,t3,e3,sb,_,_,_,_⟩:=Ei (t:=t2) (room:=(1+a).toNat) (deep:=(1+c).toNat) (by omega) (by omega) (by omega) (by omega) (by omega) (by omega)
 rw[Int.toNat_of_nonneg (by omega),Int.toNat_of_nonneg (by omega)] at e3
 have sb:(iH 8 [] d && (decide (dH 8 d≤16) && decide (iz 8 d≤3)))=true:=sb
 simp only[Bool.and_eq_true,decide_eq_true_eq] at sb
 have sy:=Sy.of sb.1
 exact⟨_,_,_,_,_,rfl,rfl,rfl,rfl,rfl,ML h2 h3 h4 h5 h6 e1 Ep p1 p2 e3 (VX sy) (G1 sy) (Em sy (by omega) (by omega)) (AE (G0 sy (by simp)).1 (g8 sy (by omega))) (P7 sy sb.2.1 sb.2.2)⟩
theorem G6 (ns:List Int) (lo hi:Option Int):(uU ns lo hi).length≤ns.length:=by
 unfold uU
 rw[List.length_take,List.length_drop]
 omega
theorem MN (i:Nat) (lo hi:Option GD) (S:SS):Ga i lo hi S=match S[i]? with | some (some (.s ns))=>(ku lo S).bind fun l=>(ku hi l.2).map fun h=>(.m (.lst ((uU ns l.1 h.1).map D.int)),h.2) | _=>none:=rfl
theorem G7 {ns:List Int}{c:Int}{r:SS}:(aa (eF (eP iF (aa (eC (.int 1)) (aa (eF (eP uc (aa (eF (Ga 0 none (some (eC (.int c))))) aA))) aA)))) aA) (some (.s ns) :: r)=some ([.int ((1+(uU ns none (some c)).length:Nat):Int)],some (.s ns) :: r):=by
 simp[MN]
theorem Er (C:Addr):∀us r,BU 63 us=some r→aE 7 (Kn C AG) us=some r:=by
 intro us r h
 unfold BU at h
 split at h
 ·rename_i ns
  obtain⟨hl,rfl⟩:=bL h
  have cl:=G6 ns none (some 29)
  have eg:=Sq.yc (G7 (ns:=ns) (c:=29) (r:=[none,none,none,none,none,none])) (by omega) (by omega)
  rw[Int.toNat_natCast] at eg
  obtain⟨S',e,jS⟩:=Gy (bd:=bName 1) (body:=Kn C sG) (xm 0 (1+(uU ns none (some 29)).length)) (fun _ S=>∃x1 x2 x3 x4 x5 x6,qR x1=false∧qR x2=false∧qR x3=false∧qR x4=false∧qR x5=false∧qR x6=false∧S=[some (.s ns),x1,x2,x3,x4,x5,x6]) [some (.s ns),none,none,none,none,none,none] ⟨none,none,none,none,none,none,rfl,rfl,rfl,rfl,rfl,rfl,rfl⟩ (fun j d S hd hJ=>by
   obtain⟨hj,rfl⟩:=Je hd
   obtain⟨x1,x2,x3,x4,x5,x6,h1,h2,h3,h4,h5,h6,rfl⟩:=hJ
   obtain⟨y2,y3,y4,y5,y6,g2,g3,g4,g5,g6,e⟩:=MM (C:=C) (ns:=ns) (k:=(j:Int)) (by omega) (by omega) (by omega) h2 h3 h4 h5 h6
   exact⟨[some (.s ns),some (.t (.int (j:Int))),x2,x3,x4,x5,x6],_,by simp[-vg,qT,h1],e,some (.t (.int (j:Int))),y2,y3,y4,y5,y6,rfl,g2,g3,g4,g5,g6,rfl⟩)
  show((Kn C AG) [some (.s ns),none,none,none,none,none,none]).bind _=_
  unfold Kn AG
  rw[za,zb,eg]
  simp only[Option.bind_some]
  have e:loop (bName 1) (sG vh sr vt jF vD (kO 9) (P6 C)) (xm 0 (1+(uU ns none (some 29)).length)) [some (.s ns),none,none,none,none,none,none]=some (.nx S'):=e
  rw[e]
  obtain⟨x1,x2,x3,x4,x5,x6,_,_,_,_,_,_,rfl⟩:=jS
  simp[aD]
 ·cases h
end Sf
end
section
set_option Elab.async false
set_option linter.all false
set_option maxRecDepth 100000
namespace K10
open PySem PySem.Spec PyProof.Rows L2
def top (i:Nat):Stmt:=PySem.Challenge.pw_surewatch_k10_sayings_written_and_read.main.body.getD i (.Pass ⟨0,0,0,0⟩)
noncomputable def P8 (s:Stmt) (j:Nat):Stmt:=match s with
 | .ClassDef _ _ _ b _ _ _ _ _ _ _=>b.getD j (.Pass ⟨0,0,0,0⟩)
 | _=>.Pass ⟨0,0,0,0⟩
noncomputable def mz (i j:Nat):Stmt:=P8 (top i) j
open L2 Sw Ss Sp Sf
noncomputable abbrev j7:Stmt:=top 3
theorem Cb:bJ ["thing"] ["thing"] (az j7):=⟨rfl,rfl,rfl,by decide +kernel,rfl,by decide +kernel,by decide +kernel⟩
theorem Cc {P:Program}{w:World}{K:PySem.W.Frag}{mg:Str→Option Value}{base:Heap}{f:Addr}{fd:FuncData}{n:Nat}{fm:FM}(F:oY K "is_name" "is_name" j7 f fd) (iM:mg "isinstance" =none) (sH:mg "str" =none) (i6:mg "len" =none) (MP:mg "all" =none){kU:Tok}(kW:mg "LONGEST_NAME" =some (.int 8 kU)){vE:Tok}(vF:mg "LETTERS" =some (.str "abcdefghijklmnopqrstuvwxyz" vE))
  (hf:∀us r,fm us=some r→aE 1 (jo) us=some r):aX P w K mg base eO (n+1) f fd ["thing"] (spT K 1 fm):=
 rY (g:=jo) F Cb (fun cdv A outer s H E hr=>(aB (fM (JW.t (xC (BC (BB (xK rfl iM rfl sH PyProof.Rows.Boot.str (JE.d (ak 0))))) (xC (cG m6 (kT (i:=0) rfl i6) au) (rW (cG uM (kT (i:=0) rfl i6) (qK rfl kW)))))) (aR (bE (JD.e CL))) dg)
  (aR (bE (jE (DQ rfl) rfl MP PyProof.Rows.Boot.all (aj (JE.d (yR (pL (by decide) (by decide) rfl (by decide) rfl) rfl (uN (JE.d (ak 0))) (fun _ _ _ _=>yQ) (fun _ _ _ _=>(JE.d (pM (yT hr.units) (JE.d (ak 0)) (IQ rfl vF) (by with_unfolding_all rfl)))))) aF)))))) hf
noncomputable abbrev j8:Stmt:=top 12
theorem Cd:bJ ["word"] ["word"] (az j8):=⟨rfl,rfl,rfl,by decide +kernel,rfl,by decide +kernel,by decide +kernel⟩
theorem Ce {P:Program}{w:World}{K:PySem.W.Frag}{mg:Str→Option Value}{base:Heap}{f:Addr}{fd:FuncData}{n:Nat}{fm:FM}(F:oY K "is_head" "is_head" j8 f fd){i7:Addr}(lN:mg "LENGTHS" =some (.ref i7)) (lO:KTab P w K i7 [("yes",1),("no",1),("now",2),("not",2),("both",3),("either",3),("next",2),("till",3),("within",3),("always",2),("some",2),("each",4),("one",4)])
  (hf:∀us r,fm us=some r→aE 1 (oK) us=some r):aX P w K mg base eO (n+1) f fd ["word"] (spT K 1 fm):=
 rY (g:=oK) F Cd (fun cdv A outer s H E hr=>(aR (bE (JD.e (uX rfl lN lO (JE.d (ak 0))))))) hf
noncomputable abbrev fH:Stmt:=top 13
theorem uh:bJ ["head"] ["head"] (az fH):=⟨rfl,rfl,rfl,by decide +kernel,rfl,by decide +kernel,by decide +kernel⟩
theorem um {P:Program}{w:World}{K:PySem.W.Frag}{mg:Str→Option Value}{base:Heap}{f:Addr}{fd:FuncData}{n:Nat}{fm:FM}(F:oY K "parts_wanted" "parts_wanted" fH f fd){i7:Addr}(lN:mg "LENGTHS" =some (.ref i7)) (lO:KTab P w K i7 [("yes",1),("no",1),("now",2),("not",2),("both",3),("either",3),("next",2),("till",3),("within",3),("always",2),("some",2),("each",4),("one",4)]){j4:Addr}(oU:mg "STARTS" =some (.ref j4)) (oV:KTab P w K j4 [("yes",1),("no",1),("now",2),("not",1),("both",1),("either",1),("next",1),("till",1),("within",2),("always",1),("some",1),("each",3),("one",3)])
  (hf:∀us r,fm us=some r→aE 1 (iZ) us=some r):aX P w K mg base eO (n+1) f fd ["head"] (spT K 1 fm):=
 rY (g:=iZ) F uh (fun cdv A outer s H E hr=>(aR (bE (bF fP (uW rfl lN lO (JE.d (ak 0))) (uW rfl oU oV (JE.d (ak 0))))))) hf
noncomputable abbrev jw:Stmt:=top 14
theorem AI:bJ ["saying"] ["saying"] (az jw):=⟨rfl,rfl,rfl,by decide +kernel,rfl,by decide +kernel,by decide +kernel⟩
theorem AJ {P:Program}{w:World}{K:PySem.W.Frag}{mg:Str→Option Value}{base:Heap}{f:Addr}{fd:FuncData}{n:Nat}{fm:FM}(F:oY K "parts_of" "parts_of" jw f fd){j4:Addr}(oU:mg "STARTS" =some (.ref j4)) (oV:KTab P w K j4 [("yes",1),("no",1),("now",2),("not",1),("both",1),("either",1),("next",1),("till",1),("within",2),("always",1),("some",1),("each",3),("one",3)])
  (hf:∀us r,fm us=some r→aE 1 (kC) us=some r):aX P w K mg base eO (n+1) f fd ["saying"] (spT K 1 fm):=
 rY (g:=kC) F AI (fun cdv A outer s H E hr=>(aR (bE (Ac (JE.d (ak 0)) (uz (uW rfl oU oV (cH (i:=0) (dz hr) au (fun _ _=>rfl)))) CT)))) hf
noncomputable abbrev fJ:Stmt:=top 15
theorem uo:bJ ["saying","bound"] ["saying","bound"] (az fJ):=⟨rfl,rfl,rfl,by decide +kernel,rfl,by decide +kernel,by decide +kernel⟩
theorem uq {P:Program}{w:World}{K:PySem.W.Frag}{mg:Str→Option Value}{base:Heap}{f:Addr}{fd:FuncData}{n:Nat}{fm:FM}(F:oY K "bound_within" "bound_within" fJ f fd){gO:Addr}(i8:mg "BINDERS" =some (.ref gO)) (i9:BO K gO ["each","one"])
  (hf:∀us r,fm us=some r→aE 2 (fC) us=some r):aX P w K mg base eO (n+1) f fd ["saying","bound"] (spT K 2 fm):=
 rY (g:=fC) F uo (fun cdv A outer s H E hr=>(aB (fM (BP hr.units rfl i8 i9 (cH (i:=0) (dz hr) au (fun _ _=>rfl))) (aR (bE (bF cX (JE.d (ak 1)) (JE.d (bG (aj (cH (i:=0) (dz hr) au (fun _ _=>rfl)) aF)))))) dg)
  (aR (bE (ak 1))))) hf
noncomputable abbrev fT:Stmt:=top 17
theorem jK:bJ ["saying","parts","ahead","words","part"] ["saying"] (az fT):=⟨rfl,rfl,rfl,by decide +kernel,rfl,by decide +kernel,by decide +kernel⟩
theorem AK {P:Program}{w:World}{K:PySem.W.Frag}{mg:Str→Option Value}{base:Heap}{f:Addr}{fd:FuncData}{n:Nat}{fm:FM}(F:oY K "words_of" "words_of" fT f fd) (i6:mg "len" =none) (sH:mg "str" =none)
  {sI:Addr}{yt:FuncData}{jv:FM}(Es:aX P w K mg base eO n sI yt ["saying"] (spT K 1 jv)) (Et:Binds K yt ["saying"] []) (Eu:PySem.W.keepIn K (.ref sI)=true) (Ew:mg "parts_of" =some (.ref sI))
  {jx:Addr}{lP:FuncData}{dQ:FM}(sJ:aX P w K mg base eO n jx lP ["saying"] (spT K 1 dQ)) (sM:Binds K lP ["saying"] []) (sN:PySem.W.keepIn K (.ref jx)=true) (sO:mg "words_of" =some (.ref jx))
  (hf:∀us r,fm us=some r→aE 5 (bK jv dQ) us=some r):aX P w K mg base eO (n+1) f fd ["saying"] (spT K 1 fm):=
 rY (g:=bK jv dQ) F jK (fun cdv A outer s H E hr=>(aB (bB (i:=1) jK.nd rfl (by first | exact Or.inl rfl | exact Or.inr rfl) (bC Es hr rfl Ew Eu Et (aM (JE.d (ak 0)) bu)))
  (aB (bB (i:=2) jK.nd rfl (by first | exact Or.inl rfl | exact Or.inr rfl) (OH (cG (jm hr.units) (cH (i:=0) (dz hr) au (fun _ _=>rfl)) aJ) (JD.e (cH (i:=0) (dz hr) au (fun _ _=>rfl))) (Ac (JE.d (ak 0)) (uz au) (uz (JE.d (bF fP (kT (i:=0) rfl i6) (kT (i:=1) rfl i6)))))))
  (aB (bB (i:=3) jK.nd rfl (by first | exact Or.inl rfl | exact Or.inr rfl) (bF cX (JE.d (dc (aj (cH (i:=0) (dz hr) au (fun _ _=>rfl)) aF))) (JE.d (yR (pL (by decide) (by decide) rfl (by decide) rfl) rfl (uN (JE.d (ak 2))) (fun _ _ _ _=>yQ) (fun _ _ _ _=>(JE.d (rU pU rfl sH PyProof.Rows.Boot.str (aj (JE.d (ak 0)) aF))))))))
  (aB (yN PassesOwn.never rfl (uN (JE.d (ak 1))) (uy (i:=4) jK.nd rfl (by first | exact Or.inl rfl | exact Or.inr rfl)) (aR (jB (JD.e (CN (i:=3) PySem.F.slot_list_extend PySem.F.type_list_extend BN DV DW (aj (JE.d (bC sJ hr rfl sO sN sM (aM (JE.d (ak 4)) bu))) aF))))))
  (aR (bE (ak 3)))))))) hf
noncomputable abbrev oW:Stmt:=top 18
theorem G8:bJ ["saying"] ["saying"] (az oW):=⟨rfl,rfl,rfl,by decide +kernel,rfl,by decide +kernel,by decide +kernel⟩
theorem G9 {P:Program}{w:World}{K:PySem.W.Frag}{mg:Str→Option Value}{base:Heap}{f:Addr}{fd:FuncData}{n:Nat}{fm:FM}(F:oY K "shown" "shown" oW f fd)
  {jx:Addr}{lP:FuncData}{dQ:FM}(sJ:aX P w K mg base eO n jx lP ["saying"] (spT K 1 dQ)) (sM:Binds K lP ["saying"] []) (sN:PySem.W.keepIn K (.ref jx)=true) (sO:mg "words_of" =some (.ref jx))
  (hf:∀us r,fm us=some r→aE 1 (oO dQ) us=some r):aX P w K mg base eO (n+1) f fd ["saying"] (spT K 1 fm):=
 rY (g:=oO dQ) F G8 (fun cdv A outer s H E hr=>(aR (bE (u5 u6 PySem.F.slot_str_join PySem.F.type_str_join Al aJ (JE.d (bC sJ hr rfl sO sN sM (aM (JE.d (ak 0)) bu))))))) hf
noncomputable abbrev dF:Stmt:=mz 24 0
theorem p5:bJ ["self","words"] ["self","words"] (az dF):=⟨rfl,rfl,rfl,by decide +kernel,rfl,by decide +kernel,by decide +kernel⟩
theorem p6 {P:Program}{w:World}{K:PySem.W.Frag}{mg:Str→Option Value}{base:Heap}{f:Addr}{fd:FuncData}{n:Nat}{fm:FM}(F:oY K "__init__" "Reader.__init__" dF f fd)
  {ao:Addr}(aL:rS K ao) (gn:fy K ao "words") (iJ:fy K ao "at") (iC:fy K ao "sayings") (iD:fy K ao "binders")
  (hf:∀us r,fm us=some r→aE 2 (dD ao) us=some r):aX P w K mg base eO (n+1) f fd ["self","words"] (spT K 2 fm):=
 rY (g:=dD ao) F p5 (fun cdv A outer s H E hr=>(aB (yY 0 aL gn (JE.d (ak 1)))
  (aB (yY 0 aL iJ au)
  (aB (yY 0 aL iC au)
  (aR (yY 0 aL iD au)))))) hf
noncomputable abbrev fK:Stmt:=mz 24 1
theorem ur:bJ ["self"] ["self"] (az fK):=⟨rfl,rfl,rfl,by decide +kernel,rfl,by decide +kernel,by decide +kernel⟩
theorem uu {P:Program}{w:World}{K:PySem.W.Frag}{mg:Str→Option Value}{base:Heap}{f:Addr}{fd:FuncData}{n:Nat}{fm:FM}(F:oY K "taken" "Reader.taken" fK f fd) (i6:mg "len" =none)
  {ao:Addr}(aL:rS K ao) (iJ:fy K ao "at") (gn:fy K ao "words")
  (hf:∀us r,fm us=some r→aE 1 (gI ao) us=some r):aX P w K mg base eO (n+1) f fd ["self"] (spT K 1 fm):=
 rY (g:=gI ao) F ur (fun cdv A outer s H E hr=>(aB (fM (cG (jm hr.units) (nq 0 aL iJ) (JE.d (jE rX rfl i6 PySem.boot_len (aj (nq 0 aL gn) aF)))) (aR Gn) dg)
  (aB (yZ 0 (fo:=fun i j=>i+j) aL iJ Bl au)
  (aR (bE (qw yM (nq 0 aL gn) (JE.d (bF fP (nq 0 aL iJ) au)) (fun _ _=>rfl))))))) hf
noncomputable abbrev eG:Stmt:=mz 24 2
theorem sP:bJ ["self","right"] ["self","right"] (az eG):=⟨rfl,rfl,rfl,by decide +kernel,rfl,by decide +kernel,by decide +kernel⟩
theorem sQ {P:Program}{w:World}{K:PySem.W.Frag}{mg:Str→Option Value}{base:Heap}{f:Addr}{fd:FuncData}{n:Nat}{fm:FM}(F:oY K "wanted" "Reader.wanted" eG f fd)
  (hf:∀us r,fm us=some r→aE 2 (gj) us=some r):aX P w K mg base eO (n+1) f fd ["self","right"] (spT K 2 fm):=
 rY (g:=gj) F sP (fun cdv A outer s H E hr=>(aR (fM (BC (BB (JE.d (ak 1)))) (aR Gn) dg))) hf
noncomputable abbrev cR:Stmt:=mz 24 3
theorem jL:bJ ["self","word"] ["self"] (az cR):=⟨rfl,rfl,rfl,by decide +kernel,rfl,by decide +kernel,by decide +kernel⟩
theorem nI {P:Program}{w:World}{K:PySem.W.Frag}{mg:Str→Option Value}{base:Heap}{f:Addr}{fd:FuncData}{n:Nat}{fm:FM}(F:oY K "name_taken" "Reader.name_taken" cR f fd)
  {ao:Addr}(aL:rS K ao)
  {cA:Addr}{cB:FuncData}{aK:FM}(dN:aX P w K mg base eO n cA cB ["self"] (spT K 1 aK)) (dO:Binds K cB ["self"] []) (dP:Meth K ao "taken" cA)
  {bQ:Addr}{bR:FuncData}{aG:FM}(cL:aX P w K mg base eO n bQ bR ["self","right"] (spT K 2 aG)) (cM:Binds K bR ["self","right"] []) (cN:Meth K ao "wanted" bQ)
  {vG:Addr}{AL:FuncData}{nG:FM}(Hf:aX P w K mg base eO n vG AL ["thing"] (spT K 1 nG)) (Hg:Binds K AL ["thing"] []) (Hh:PySem.W.keepIn K (.ref vG)=true) (Hi:mg "is_name" =some (.ref vG))
  (hf:∀us r,fm us=some r→aE 2 (cQ aK aG nG ao) us=some r):aX P w K mg base eO (n+1) f fd ["self"] (spT K 1 fm):=
 rY (g:=cQ aK aG nG ao) F jL (fun cdv A outer s H E hr=>(aB (bB (i:=1) jL.nd rfl (by first | exact Or.inl rfl | exact Or.inr rfl) (iW 0 aL dP dN hr dO))
  (aB (jB (iV 0 aL cN cL hr cM (aM (JE.d (bC Hf hr rfl Hi Hh Hg (aM (JE.d (ak 1)) bu))) bu)))
  (aR (bE (ak 1)))))) hf
noncomputable abbrev cS:Stmt:=mz 24 4
theorem jM:bJ ["self","around","head"] ["self","around"] (az cS):=⟨rfl,rfl,rfl,by decide +kernel,rfl,by decide +kernel,by decide +kernel⟩
theorem nJ {P:Program}{w:World}{K:PySem.W.Frag}{mg:Str→Option Value}{base:Heap}{f:Addr}{fd:FuncData}{n:Nat}{fm:FM}(F:oY K "head_taken" "Reader.head_taken" cS f fd){gO:Addr}(i8:mg "BINDERS" =some (.ref gO)) (i9:BO K gO ["each","one"]){kX:Tok}(kY:mg "MOST_SAYINGS" =some (.int 16 kX)){mC:Tok}(mD:mg "MOST_WITHIN" =some (.int 8 mC)){kZ:Tok}(lq:mg "MOST_BINDERS" =some (.int 3 kZ))
  {ao:Addr}(aL:rS K ao) (iC:fy K ao "sayings") (iD:fy K ao "binders")
  {cA:Addr}{cB:FuncData}{aK:FM}(dN:aX P w K mg base eO n cA cB ["self"] (spT K 1 aK)) (dO:Binds K cB ["self"] []) (dP:Meth K ao "taken" cA)
  {bQ:Addr}{bR:FuncData}{aG:FM}(cL:aX P w K mg base eO n bQ bR ["self","right"] (spT K 2 aG)) (cM:Binds K bR ["self","right"] []) (cN:Meth K ao "wanted" bQ)
  {vH:Addr}{AM:FuncData}{nH:FM}(Hj:aX P w K mg base eO n vH AM ["word"] (spT K 1 nH)) (Hl:Binds K AM ["word"] []) (Ho:PySem.W.keepIn K (.ref vH)=true) (Hq:mg "is_head" =some (.ref vH))
  (hf:∀us r,fm us=some r→aE 3 (cg aK aG nH ao) us=some r):aX P w K mg base eO (n+1) f fd ["self","around"] (spT K 2 fm):=
 rY (g:=cg aK aG nH ao) F jM (fun cdv A outer s H E hr=>(aB (bB (i:=2) jM.nd rfl (by first | exact Or.inl rfl | exact Or.inr rfl) (iW 0 aL dP dN hr dO))
  (aB (yZ 0 (fo:=fun i j=>i+j) aL iC Bl au)
  (aB (fM (BP hr.units rfl i8 i9 (JE.d (ak 2))) (aR (yZ 0 (fo:=fun i j=>i+j) aL iD Bl au)) dg)
  (aB (jB (iV 0 aL cN cL hr cM (aM (BE (JE.d (bC Hj hr rfl Hq Ho Hl (aM (JE.d (ak 2)) bu))) (yK (JE.d (pM BF (nq 0 aL iC) (qK rfl kY))))) bu)))
  (aB (jB (iV 0 aL cN cL hr cM (aM (BE (JE.d (pM m6 (JE.d (ak 1)) (qK rfl mD))) (yK (JE.d (pM BF (nq 0 aL iD) (qK rfl lq))))) bu)))
  (aR (bE (ak 2))))))))) hf
noncomputable abbrev cT:Stmt:=mz 24 5
theorem gP:bJ ["self","bound","head","word"] ["self","bound"] (az cT):=⟨rfl,rfl,rfl,by decide +kernel,rfl,by decide +kernel,by decide +kernel⟩
theorem nK {P:Program}{w:World}{K:PySem.W.Frag}{mg:Str→Option Value}{base:Heap}{f:Addr}{fd:FuncData}{n:Nat}{fm:FM}(F:oY K "test_taken" "Reader.test_taken" cT f fd){jc:Addr}(jd:mg "FIGURES" =some (.ref jc)) (je:KTab P w K jc [("0",0),("1",1),("2",2),("3",3),("4",4),("5",5),("6",6),("7",7),("8",8),("9",9)])
  {ao:Addr}(aL:rS K ao)
  {cA:Addr}{cB:FuncData}{aK:FM}(dN:aX P w K mg base eO n cA cB ["self"] (spT K 1 aK)) (dO:Binds K cB ["self"] []) (dP:Meth K ao "taken" cA)
  {dX:Addr}{dY:FuncData}{aV:FM}(fU:aX P w K mg base eO n dX dY ["self"] (spT K 1 aV)) (fV:Binds K dY ["self"] []) (fW:Meth K ao "name_taken" dX)
  {bQ:Addr}{bR:FuncData}{aG:FM}(cL:aX P w K mg base eO n bQ bR ["self","right"] (spT K 2 aG)) (cM:Binds K bR ["self","right"] []) (cN:Meth K ao "wanted" bQ)
  (hf:∀us r,fm us=some r→aE 4 (bA aK aV aG ao) us=some r):aX P w K mg base eO (n+1) f fd ["self","bound"] (spT K 2 fm):=
 rY (g:=bA aK aV aG ao) F gP (fun cdv A outer s H E hr=>(aB (bB (i:=2) gP.nd rfl (by first | exact Or.inl rfl | exact Or.inr rfl) (iW 0 aL dP dN hr dO))
  (aB (fM (cG (jm hr.units) (JE.d (ak 2)) aJ) (aR (bE (bG (aj aJ aF)))) dg)
  (aB (fM (cG (jm hr.units) (JE.d (ak 2)) aJ) (aR (bE (bG (aj aJ (aj (JE.d (iW 0 aL fW fU hr fV)) aF))))) dg)
  (aB (jB (iV 0 aL cN cL hr cM (aM (JE.d (pM (yT hr.units) (JE.d (ak 2)) (JE.d (bG (aj aJ (aj aJ (aj aJ aF))))) (by with_unfolding_all rfl))) bu)))
  (aB (bB (i:=3) gP.nd rfl (by first | exact Or.inl rfl | exact Or.inr rfl) (iW 0 aL dP dN hr dO))
  (aB (jB (iV 0 aL cN cL hr cM (aM (OG (uX rfl jd je (JE.d (ak 3))) (yK (JE.d (pM (yT hr.units) (JE.d (ak 3)) (JE.d (ak 1)) (by with_unfolding_all rfl))))) bu)))
  (aR (bE (bG (aj (JE.d (ak 2)) (aj (BS rfl jd je (JE.d (ak 3)) (JE.d (ak 3))) aF)))))))))))) hf
noncomputable abbrev cz:Stmt:=mz 24 6
theorem jf:bJ ["self","word"] ["self"] (az cz):=⟨rfl,rfl,rfl,by decide +kernel,rfl,by decide +kernel,by decide +kernel⟩
theorem mF {P:Program}{w:World}{K:PySem.W.Frag}{mg:Str→Option Value}{base:Heap}{f:Addr}{fd:FuncData}{n:Nat}{fm:FM}(F:oY K "within_taken" "Reader.within_taken" cz f fd){jc:Addr}(jd:mg "FIGURES" =some (.ref jc)) (je:KTab P w K jc [("0",0),("1",1),("2",2),("3",3),("4",4),("5",5),("6",6),("7",7),("8",8),("9",9)]){jy:Tok}(jz:mg "GREATEST_WITHIN" =some (.int 5 jy))
  {ao:Addr}(aL:rS K ao)
  {cA:Addr}{cB:FuncData}{aK:FM}(dN:aX P w K mg base eO n cA cB ["self"] (spT K 1 aK)) (dO:Binds K cB ["self"] []) (dP:Meth K ao "taken" cA)
  {bQ:Addr}{bR:FuncData}{aG:FM}(cL:aX P w K mg base eO n bQ bR ["self","right"] (spT K 2 aG)) (cM:Binds K bR ["self","right"] []) (cN:Meth K ao "wanted" bQ)
  (hf:∀us r,fm us=some r→aE 2 (cy aK aG ao) us=some r):aX P w K mg base eO (n+1) f fd ["self"] (spT K 1 fm):=
 rY (g:=cy aK aG ao) F jf (fun cdv A outer s H E hr=>(aB (bB (i:=1) jf.nd rfl (by first | exact Or.inl rfl | exact Or.inr rfl) (iW 0 aL dP dN hr dO))
  (aB (jB (iV 0 aL cN cL hr cM (aM (BE (uX rfl jd je (JE.d (ak 1))) (yK (JE.d (pM BF (uW rfl jd je (JE.d (ak 1))) (qK rfl jz))))) bu)))
  (aR (bE (JD.e (uW rfl jd je (JE.d (ak 1))))))))) hf
noncomputable abbrev cF:Stmt:=mz 24 7
theorem gB:bJ ["self","bound","around","head","name"] ["self","bound","around"] (az cF):=⟨rfl,rfl,rfl,by decide +kernel,rfl,by decide +kernel,by decide +kernel⟩
theorem mT {P:Program}{w:World}{K:PySem.W.Frag}{mg:Str→Option Value}{base:Heap}{f:Addr}{fd:FuncData}{n:Nat}{fm:FM}(F:oY K "begin_taken" "Reader.begin_taken" cF f fd){gO:Addr}(i8:mg "BINDERS" =some (.ref gO)) (i9:BO K gO ["each","one"])
  {ao:Addr}(aL:rS K ao)
  {kF:Addr}{kG:FuncData}{dU:FM}(p7:aX P w K mg base eO n kF kG ["self","around"] (spT K 2 dU)) (p8:Binds K kG ["self","around"] []) (p9:Meth K ao "head_taken" kF)
  {kH:Addr}{kI:FuncData}{dW:FM}(qb:aX P w K mg base eO n kH kI ["self","bound"] (spT K 2 dW)) (qc:Binds K kI ["self","bound"] []) (qd:Meth K ao "test_taken" kH)
  {jN:Addr}{jO:FuncData}{dj:FM}(nL:aX P w K mg base eO n jN jO ["self"] (spT K 1 dj)) (nM:Binds K jO ["self"] []) (nN:Meth K ao "within_taken" jN)
  {dX:Addr}{dY:FuncData}{aV:FM}(fU:aX P w K mg base eO n dX dY ["self"] (spT K 1 aV)) (fV:Binds K dY ["self"] []) (fW:Meth K ao "name_taken" dX)
  (hf:∀us r,fm us=some r→aE 5 (aQ dU dW dj aV ao) us=some r):aX P w K mg base eO (n+1) f fd ["self","bound","around"] (spT K 3 fm):=
 rY (g:=aQ dU dW dj aV ao) F gB (fun cdv A outer s H E hr=>(aB (bB (i:=3) gB.nd rfl (by first | exact Or.inl rfl | exact Or.inr rfl) (iV 0 aL p9 p7 hr p8 (aM (JE.d (ak 2)) bu)))
  (aB (fM (cG (jm hr.units) (JE.d (ak 3)) aJ) (aR (bE (bG (aj (JE.d (ak 3)) (aj (JE.d (iV 0 aL qd qb hr qc (aM (JE.d (ak 1)) bu))) aF))))) dg)
  (aB (fM (cG (jm hr.units) (JE.d (ak 3)) aJ) (aR (bE (bG (aj (JE.d (ak 3)) (aj (JE.d (iW 0 aL nN nL hr nM)) aF))))) dg)
  (aB (fM (BP hr.units rfl i8 i9 (JE.d (ak 3))) (aB (bB (i:=4) gB.nd rfl (by first | exact Or.inl rfl | exact Or.inr rfl) (iW 0 aL fW fU hr fV))
  (aR (bE (bG (aj (JE.d (ak 3)) (aj (JE.d (ak 4)) (aj (JE.d (iW 0 aL fW fU hr fV)) aF))))))) dg)
  (aR (bE (bG (aj (JE.d (ak 3)) aF))))))))) hf
noncomputable abbrev bz:Stmt:=mz 24 8
theorem cO:bJ ["self","bound","around","saying","inner","number"] ["self","bound","around"] (az bz):=⟨rfl,rfl,rfl,by decide +kernel,rfl,by decide +kernel,by decide +kernel⟩
theorem mG {P:Program}{w:World}{K:PySem.W.Frag}{mg:Str→Option Value}{base:Heap}{f:Addr}{fd:FuncData}{n:Nat}{fm:FM}(F:oY K "saying_taken" "Reader.saying_taken" bz f fd) (sR:mg "range" =none)
  {ao:Addr}(aL:rS K ao)
  {jT:Addr}{jU:FuncData}{cj:FM}(o9:aX P w K mg base eO n jT jU ["self","bound","around"] (spT K 3 cj)) (pe:Binds K jU ["self","bound","around"] []) (pq:Meth K ao "begin_taken" jT)
  {lu:Addr}{pC:FuncData}{fc:FM}(wJ:aX P w K mg base eO n lu pC ["saying","bound"] (spT K 2 fc)) (wK:Binds K pC ["saying","bound"] []) (wL:PySem.W.keepIn K (.ref lu)=true) (wM:mg "bound_within" =some (.ref lu))
  {lz:Addr}{pD:FuncData}{ff:FM}(wN:aX P w K mg base eO n lz pD ["head"] (spT K 1 ff)) (wO:Binds K pD ["head"] []) (wQ:PySem.W.keepIn K (.ref lz)=true) (wR:mg "parts_wanted" =some (.ref lz))
  {dm:Addr}{dw:FuncData}{aN:FM}(gQ:aX P w K mg base eO n dm dw ["self","bound","around"] (spT K 3 aN)) (gR:Binds K dw ["self","bound","around"] []) (gT:Meth K ao "saying_taken" dm)
  (hf:∀us r,fm us=some r→aE 6 (aU cj fc ff aN ao) us=some r):aX P w K mg base eO (n+1) f fd ["self","bound","around"] (spT K 3 fm):=
 rY (g:=aU cj fc ff aN ao) F cO (fun cdv A outer s H E hr=>(aB (bB (i:=3) cO.nd rfl (by first | exact Or.inl rfl | exact Or.inr rfl) (iV 0 aL pq o9 hr pe (aM (JE.d (ak 1)) (aM (JE.d (ak 2)) bu))))
  (aB (bB (i:=4) cO.nd rfl (by first | exact Or.inl rfl | exact Or.inr rfl) (bC wJ hr rfl wM wL wK (aM (JE.d (ak 3)) (aM (JE.d (ak 1)) bu))))
  (aB (yN PassesOwn.never rfl (xE rfl sR (aj (JE.d (bC wN hr rfl wR wQ wO (aM (cH (i:=3) (dz hr) au (fun _ _=>rfl)) bu))) aF)) (uy (i:=5) cO.nd rfl (by first | exact Or.inl rfl | exact Or.inr rfl)) (aR (bB (i:=3) cO.nd rfl (by first | exact Or.inl rfl | exact Or.inr rfl) (bF cX (JE.d (ak 3)) (JE.d (bG (aj (JE.d (iV 0 aL gT gQ hr gR (aM (JE.d (ak 4)) (aM (JE.d (bF cX (JE.d (ak 2)) au)) bu)))) aF)))))))
  (aR (bE (ak 3))))))) hf
noncomputable abbrev gq:Stmt:=top 25
theorem kJ:bJ ["text","reader","saying"] ["text"] (az gq):=⟨rfl,rfl,rfl,by decide +kernel,rfl,by decide +kernel,by decide +kernel⟩
theorem vI {P:Program}{w:World}{K:PySem.W.Frag}{mg:Str→Option Value}{base:Heap}{f:Addr}{fd:FuncData}{n:Nat}{fm:FM}(F:oY K "read_saying" "read_saying" gq f fd) (i6:mg "len" =none)
  {ao:Addr}(aL:rS K ao) (iJ:fy K ao "at") (gn:fy K ao "words") (zo:mg "Reader" =some (.ref ao)){AN:Nat}(Hr:AN+1≤n)
  {lQ:Addr}{lR:FuncData}{fG:FM}(sS:aX P w K mg base eO AN lQ lR ["self","words"] (spT K 2 fG)) (sU:Binds K lR ["self","words"] []) (zp:Mk K ao lQ)
  {dm:Addr}{dw:FuncData}{aN:FM}(gQ:aX P w K mg base eO n dm dw ["self","bound","around"] (spT K 3 aN)) (gR:Binds K dw ["self","bound","around"] []) (gT:Meth K ao "saying_taken" dm)
  (hf:∀us r,fm us=some r→aE 3 (gm fG aN ao) us=some r):aX P w K mg base eO (n+1) f fd ["text"] (spT K 1 fm):=
 rY (g:=gm fG aN ao) F kJ (fun cdv A outer s H E hr=>(aB (bB (i:=1) kJ.nd rfl (by first | exact Or.inl rfl | exact Or.inr rfl) (IY zp sS (hr.mono Hr) rfl zo sU (aM (JE.d (u5 Ak PySem.F.slot_str_split PySem.F.type_str_split DY (JE.d (ak 0)) aJ)) bu)))
  (aB (bB (i:=2) kJ.nd rfl (by first | exact Or.inl rfl | exact Or.inr rfl) (iV 1 aL gT gQ hr gR (aM (JE.d (bG aF)) (aM au bu))))
  (aB (fM (cG m6 (nq 1 aL iJ) (JE.d (jE rX rfl i6 PySem.boot_len (aj (nq 1 aL gn) aF)))) (aR Gn) dg)
  (aR (bE (ak 2))))))) hf
noncomputable abbrev iN:Stmt:=top 27
theorem mH:bJ ["_law_script","_law_at","_law_cell"] ["_law_script","_law_at"] (az iN):=⟨rfl,rfl,rfl,by decide +kernel,rfl,by decide +kernel,by decide +kernel⟩
theorem zq {P:Program}{w:World}{K:PySem.W.Frag}{mg:Str→Option Value}{base:Heap}{f:Addr}{fd:FuncData}{n:Nat}{fm:FM}(F:oY K "_law_tape" "_law_tape" iN f fd) (i6:mg "len" =none) (MQ:mg "max" =none)
  (hf:∀us r,fm us=some r→aE 3 (jH) us=some r):aX P w K mg base eO (n+1) f fd ["_law_script","_law_at"] (spT K 2 fm):=
 rY (g:=jH) F mH (fun cdv A outer s H E hr=>(aB (bB (i:=2) mH.nd rfl (by first | exact Or.inl rfl | exact Or.inr rfl) (ak 1))
  (aB (fM (cG uM (kT (i:=0) rfl i6) au) (aR (bB (i:=2) mH.nd rfl (by first | exact Or.inl rfl | exact Or.inr rfl) (bF cX (cH (i:=0) (dz hr) (JE.d (bF jZ (JE.d (ak 1)) (kT (i:=0) rfl i6))) (fun _ _=>rfl)) (JE.d (bF yL (JE.d (ak 1)) (kT (i:=0) rfl i6)))))) dg)
  (aR (bE (qJ (hk:=Nat.le_of_ble_eq_true rfl) (cV (JE.d (ak 2)) (cV (JE.d (jE (BJ rfl) rfl MQ PyProof.Rows.Boot.max (aj au (aj (JE.d (bF fP (JE.d (ak 2)) (JE.d (bF ID au au)))) aF)))) (cV au qI))))))))) hf
noncomputable abbrev iO:Stmt:=top 28
theorem jg:bJ ["_law_tape_here","_law_many","_law_turn","_law_found","_law_mixed"] ["_law_tape_here","_law_many"] (az iO):=⟨rfl,rfl,rfl,by decide +kernel,rfl,by decide +kernel,by decide +kernel⟩
theorem zu {P:Program}{w:World}{K:PySem.W.Frag}{mg:Str→Option Value}{base:Heap}{f:Addr}{fd:FuncData}{n:Nat}{fm:FM}(F:oY K "_law_pick" "_law_pick" iO f fd)
  (hf:∀us r,fm us=some r→aE 5 (jG) us=some r):aX P w K mg base eO (n+1) f fd ["_law_tape_here","_law_many"] (spT K 2 fm):=
 rY (g:=jG) F jg (fun cdv A outer s H E hr=>(aB (bB (i:=2) jg.nd rfl (by first | exact Or.inl rfl | exact Or.inr rfl) (bF cX (cH (i:=0) (dz hr) aJ (fun _ _=>rfl)) au))
  (aB (BL (i:=0) (dz hr) aJ (JE.d (ak 2)))
  (aB (fM (cG uM (cH (i:=0) (dz hr) aJ (fun _ _=>rfl)) au) (aB (bB (i:=3) jg.nd rfl (by first | exact Or.inl rfl | exact Or.inr rfl) (bF jZ (cH (i:=0) (dz hr) aJ (fun _ _=>rfl)) (JE.d (ak 1))))
  (aB (BL (i:=0) (dz hr) aJ (JE.d (bF yL (cH (i:=0) (dz hr) aJ (fun _ _=>rfl)) (JE.d (ak 1)))))
  (aR (bE (ak 3))))) dg)
  (aB (bB (i:=4) jg.nd rfl (by first | exact Or.inl rfl | exact Or.inr rfl) (bF qy (JE.d (bF cX (JE.d (bF cX (JE.d (bF jZ (cH (i:=0) (dz hr) aJ (fun _ _=>rfl)) au)) (JE.d (bF qy (JE.d (bF qy au (JE.d (ak 2)))) (JE.d (ak 2)))))) au)) au))
  (aB (bB (i:=4) jg.nd rfl (by first | exact Or.inl rfl | exact Or.inr rfl) (bF qy (JE.d (bF cX (JE.d (bF jZ (JE.d (ak 4)) au)) (JE.d (bF qy au (JE.d (ak 2)))))) au))
  (aR (bE (bF jZ (JE.d (bF yL (JE.d (bF jZ (JE.d (ak 4)) au)) au)) (JE.d (ak 1))))))))))) hf
noncomputable abbrev g9:Stmt:=top 29
theorem wU:bJ [] [] (az g9):=⟨rfl,rfl,rfl,by decide +kernel,rfl,by decide +kernel,by decide +kernel⟩
theorem wV {P:Program}{w:World}{K:PySem.W.Frag}{mg:Str→Option Value}{base:Heap}{f:Addr}{fd:FuncData}{n:Nat}{fm:FM}(F:oY K "_law_names" "_law_names" g9 f fd)
  (hf:∀us r,fm us=some r→aE 0 (j3) us=some r):aX P w K mg base eO (n+1) f fd [] (spT K 0 fm):=
 rY (g:=j3) F wU (fun cdv A outer s H E hr=>(aR (bE (dc (aj aJ (aj aJ (aj aJ (aj aJ (aj aJ (aj aJ (aj aJ (aj aJ aF)))))))))))) hf
noncomputable abbrev iP:Stmt:=top 30
theorem j5:bJ ["_law_tape_here","_law_names_here","_law_variables","_law_way","_law_number"] ["_law_tape_here","_law_names_here","_law_variables"] (az iP):=⟨rfl,rfl,rfl,by decide +kernel,rfl,by decide +kernel,by decide +kernel⟩
theorem zw {P:Program}{w:World}{K:PySem.W.Frag}{mg:Str→Option Value}{base:Heap}{f:Addr}{fd:FuncData}{n:Nat}{fm:FM}(F:oY K "_law_test" "_law_test" iP f fd) (i6:mg "len" =none)
  {cD:Addr}{dZ:FuncData}{aI:FM}(bS:aX P w K mg base eO n cD dZ ["_law_tape_here","_law_many"] (spT K 2 aI)) (bT:Binds K dZ ["_law_tape_here","_law_many"] []) (bU:PySem.W.keepIn K (.ref cD)=true) (bV:mg "_law_pick" =some (.ref cD))
  (hf:∀us r,fm us=some r→aE 5 (eV aI) us=some r):aX P w K mg base eO (n+1) f fd ["_law_tape_here","_law_names_here","_law_variables"] (spT K 3 fm):=
 rY (g:=eV aI) F j5 (fun cdv A outer s H E hr=>(aB (bB (i:=3) j5.nd rfl (by first | exact Or.inl rfl | exact Or.inr rfl) (bC bS hr rfl bV bU bT (cI (ak 0) (aM au bu))))
  (aB (fM (cG (jm hr.units) (JE.d (ak 3)) au) (aR (bE (bG (aj aJ aF)))) dg)
  (aB (fM (cG (jm hr.units) (JE.d (ak 3)) au) (aR (bE (bG (aj aJ (aj (cH (i:=1) (dz hr) (JE.d (bC bS hr rfl bV bU bT (cI (ak 0) (aM (kT (i:=1) rfl i6) bu)))) (fun _ _=>rfl)) aF))))) dg)
  (aB (bB (i:=4) j5.nd rfl (by first | exact Or.inl rfl | exact Or.inr rfl) (qw yM (JE.d (dc (aj au (aj au (aj au (aj au (aj au (aj au aF)))))))) (JE.d (bC bS hr rfl bV bU bT (cI (ak 0) (aM au bu)))) (fun _ _=>rfl)))
  (aB (fM (JW.t (BD (cG (yS hr.units) (JE.d (ak 2)) (JE.d (bG aF))) (pO (cG uM (JE.d (bC bS hr rfl bV bU bT (cI (ak 0) (aM au bu)))) au)))) (aR (bB (i:=4) j5.nd rfl (by first | exact Or.inl rfl | exact Or.inr rfl) (JD.e (cH (i:=2) (dz hr) (JE.d (bC bS hr rfl bV bU bT (cI (ak 0) (aM (kT (i:=2) rfl i6) bu)))) (fun _ _=>rfl))))) dg)
  (aR (bE (bG (aj (JE.d (qw yM (JE.d (dc (aj aJ (aj aJ (aj aJ aF))))) (JE.d (bF fP (JE.d (ak 3)) au)) (fun _ _=>rfl))) (aj (JE.d (ak 4)) aF))))))))))) hf
noncomputable abbrev dJ:Stmt:=top 31
theorem fj:bJ ["_law_tape_here","_law_world","_law_variables","_law_room","_law_deep","_law_way","_law_names_here","_law_x","_law_head"] ["_law_tape_here","_law_world","_law_variables","_law_room","_law_deep"] (az dJ):=⟨rfl,rfl,rfl,by decide +kernel,rfl,by decide +kernel,by decide +kernel⟩
theorem wW {P:Program}{w:World}{K:PySem.W.Frag}{mg:Str→Option Value}{base:Heap}{f:Addr}{fd:FuncData}{n:Nat}{fm:FM}(F:oY K "_law_inner" "_law_inner" dJ f fd) (i6:mg "len" =none)
  {cD:Addr}{dZ:FuncData}{aI:FM}(bS:aX P w K mg base eO n cD dZ ["_law_tape_here","_law_many"] (spT K 2 aI)) (bT:Binds K dZ ["_law_tape_here","_law_many"] []) (bU:PySem.W.keepIn K (.ref cD)=true) (bV:mg "_law_pick" =some (.ref cD))
  {cP:Addr}{eY:FuncData}{aZ:FM}(fX:aX P w K mg base eO n cP eY ["_law_tape_here","_law_world","_law_variables","_law_room","_law_deep"] (spT K 5 aZ)) (fY:Binds K eY ["_law_tape_here","_law_world","_law_variables","_law_room","_law_deep"] []) (fZ:PySem.W.keepIn K (.ref cP)=true) (gf:mg "_law_saying" =some (.ref cP))
  (hf:∀us r,fm us=some r→aE 9 (cC aI aZ) us=some r):aX P w K mg base eO (n+1) f fd ["_law_tape_here","_law_world","_law_variables","_law_room","_law_deep"] (spT K 5 fm):=
 rY (g:=cC aI aZ) F fj (fun cdv A outer s H E hr=>(aB (bB (i:=5) fj.nd rfl (by first | exact Or.inl rfl | exact Or.inr rfl) (bC bS hr rfl bV bU bT (cI (ak 0) (aM au bu))))
  (aB (fM (JW.t (BD (cG m6 (JE.d (ak 5)) au) (pO (cG m6 (cH (i:=1) (dz hr) aJ (fun _ _=>rfl)) au)))) (aB (BL (i:=1) (dz hr) aJ (JE.d (bF cX (cH (i:=1) (dz hr) aJ (fun _ _=>rfl)) au)))
  (aB (bB (i:=6) fj.nd rfl (by first | exact Or.inl rfl | exact Or.inr rfl) (JD.e (cH (i:=1) (dz hr) aJ (fun _ _=>rfl))))
  (aB (bB (i:=7) fj.nd rfl (by first | exact Or.inl rfl | exact Or.inr rfl) (qw yM (JE.d (dc (aj aJ (aj aJ (aj aJ (aj aJ aF)))))) (JE.d (bC bS hr rfl bV bU bT (cI (ak 0) (aM au bu)))) (fun _ _=>rfl)))
  (aB (bB (i:=8) fj.nd rfl (by first | exact Or.inl rfl | exact Or.inr rfl) (bG (aj (JE.d (qw yM (JE.d (dc (aj aJ (aj aJ aF)))) (JE.d (bF jZ (JE.d (ak 5)) au)) (fun _ _=>rfl))) (aj (cH (i:=6) (dz hr) (JE.d (bC bS hr rfl bV bU bT (cI (ak 0) (aM (kT (i:=6) rfl i6) bu)))) (fun _ _=>rfl)) (aj (JE.d (ak 7)) aF)))))
  (aR (bE (bF cX (JE.d (ak 8)) (JE.d (bG (aj (JE.d (bC fX hr rfl gf fZ fY (cI (ak 0) (cI (ak 1) (aM (JE.d (bF cX (JE.d (ak 2)) (JE.d (bG (aj (JE.d (ak 7)) aF))))) (aM (JE.d (bF fP (JE.d (ak 3)) au)) (aM (JE.d (bF fP (JE.d (ak 4)) au)) bu))))))) aF)))))))))) dg)
  (aB (bB (i:=8) fj.nd rfl (by first | exact Or.inl rfl | exact Or.inr rfl) (bG (aj (JE.d (qw yM (JE.d (dc (aj aJ (aj aJ (aj aJ (aj aJ aF)))))) (JE.d (bF jZ (JE.d (ak 5)) au)) (fun _ _=>rfl))) aF)))
  (aB (fM (cG (jm hr.units) (JE.d (ak 5)) au) (aR (bB (i:=8) fj.nd rfl (by first | exact Or.inl rfl | exact Or.inr rfl) (bG (aj aJ (aj (JE.d (bC bS hr rfl bV bU bT (cI (ak 0) (aM au bu)))) aF))))) dg)
  (aR (bE (bF cX (JE.d (ak 8)) (JE.d (bG (aj (JE.d (bC fX hr rfl gf fZ fY (cI (ak 0) (cI (ak 1) (aM (JE.d (ak 2)) (aM (JE.d (bF fP (JE.d (ak 3)) au)) (aM (JE.d (bF fP (JE.d (ak 4)) au)) bu))))))) aF))))))))))) hf
noncomputable abbrev cZ:Stmt:=top 32
theorem gU:bJ ["_law_tape_here","_law_world","_law_variables","_law_room","_law_deep","_law_way","_law_first","_law_one","_law_other"] ["_law_tape_here","_law_world","_law_variables","_law_room","_law_deep"] (az cZ):=⟨rfl,rfl,rfl,by decide +kernel,rfl,by decide +kernel,by decide +kernel⟩
theorem vJ {P:Program}{w:World}{K:PySem.W.Frag}{mg:Str→Option Value}{base:Heap}{f:Addr}{fd:FuncData}{n:Nat}{fm:FM}(F:oY K "_law_saying" "_law_saying" cZ f fd)
  {cD:Addr}{dZ:FuncData}{aI:FM}(bS:aX P w K mg base eO n cD dZ ["_law_tape_here","_law_many"] (spT K 2 aI)) (bT:Binds K dZ ["_law_tape_here","_law_many"] []) (bU:PySem.W.keepIn K (.ref cD)=true) (bV:mg "_law_pick" =some (.ref cD))
  {qg:Addr}{vK:FuncData}{kE:FM}(Cf:aX P w K mg base eO n qg vK ["_law_tape_here","_law_names_here","_law_variables"] (spT K 3 kE)) (Cg:Binds K vK ["_law_tape_here","_law_names_here","_law_variables"] []) (Ci:PySem.W.keepIn K (.ref qg)=true) (Cj:mg "_law_test" =some (.ref qg))
  {cP:Addr}{eY:FuncData}{aZ:FM}(fX:aX P w K mg base eO n cP eY ["_law_tape_here","_law_world","_law_variables","_law_room","_law_deep"] (spT K 5 aZ)) (fY:Binds K eY ["_law_tape_here","_law_world","_law_variables","_law_room","_law_deep"] []) (fZ:PySem.W.keepIn K (.ref cP)=true) (gf:mg "_law_saying" =some (.ref cP))
  {nO:Addr}{tR:FuncData}{jI:FM}(AO:aX P w K mg base eO n nO tR ["_law_tape_here","_law_world","_law_variables","_law_room","_law_deep"] (spT K 5 jI)) (AQ:Binds K tR ["_law_tape_here","_law_world","_law_variables","_law_room","_law_deep"] []) (AR:PySem.W.keepIn K (.ref nO)=true) (AS:mg "_law_inner" =some (.ref nO))
  (hf:∀us r,fm us=some r→aE 9 (bg aI kE aZ jI) us=some r):aX P w K mg base eO (n+1) f fd ["_law_tape_here","_law_world","_law_variables","_law_room","_law_deep"] (spT K 5 fm):=
 rY (g:=bg aI kE aZ jI) F gU (fun cdv A outer s H E hr=>(aB (bB (i:=5) gU.nd rfl (by first | exact Or.inl rfl | exact Or.inr rfl) (bC bS hr rfl bV bU bT (cI (ak 0) (aM au bu))))
  (aB (fM (JW.t (xC (cG m6 (JE.d (ak 3)) au) (xC (cG m6 (JE.d (ak 4)) au) (rW (cG (jm hr.units) (JE.d (ak 5)) au))))) (aB (fM (cG (jm hr.units) (JE.d (bF jZ (JE.d (ak 5)) au)) au) (aR (bE (bG (aj (JE.d (qw yM (JE.d (dc (aj aJ (aj aJ aF)))) (JE.d (bC bS hr rfl bV bU bT (cI (ak 0) (aM au bu)))) (fun _ _=>rfl))) aF)))) dg)
  (aR (bE (bG (aj aJ (aj (JE.d (bC Cf hr rfl Cj Ci Cg (cI (ak 0) (aM (cH (i:=1) (dz hr) aJ (fun _ _=>rfl)) (aM (JE.d (ak 2)) bu))))) aF)))))) dg)
  (aB (fM (JW.t (BD (cG m6 (JE.d (ak 5)) au) (pO (cG uM (JE.d (ak 3)) au)))) (aB (bB (i:=6) gU.nd rfl (by first | exact Or.inl rfl | exact Or.inr rfl) (bF cX au (JE.d (bC bS hr rfl bV bU bT (cI (ak 0) (aM (JE.d (bF fP (JE.d (ak 3)) au)) bu))))))
  (aB (bB (i:=7) gU.nd rfl (by first | exact Or.inl rfl | exact Or.inr rfl) (bC fX hr rfl gf fZ fY (cI (ak 0) (cI (ak 1) (aM (JE.d (ak 2)) (aM (JE.d (ak 6)) (aM (JE.d (bF fP (JE.d (ak 4)) au)) bu)))))))
  (aB (bB (i:=8) gU.nd rfl (by first | exact Or.inl rfl | exact Or.inr rfl) (bC fX hr rfl gf fZ fY (cI (ak 0) (cI (ak 1) (aM (JE.d (ak 2)) (aM (JE.d (bF fP (JE.d (bF fP (JE.d (ak 3)) au)) (JE.d (ak 6)))) (aM (JE.d (bF fP (JE.d (ak 4)) au)) bu)))))))
  (aR (bE (bG (aj (JE.d (qw yM (JE.d (dc (aj aJ (aj aJ (aj aJ (aj aJ aF)))))) (JE.d (bF fP (JE.d (ak 5)) au)) (fun _ _=>rfl))) (aj (JE.d (ak 7)) (aj (JE.d (ak 8)) aF))))))))) dg)
  (aR (bE (bC AO hr rfl AS AR AQ (cI (ak 0) (cI (ak 1) (aM (JE.d (ak 2)) (aM (JE.d (ak 3)) (aM (JE.d (ak 4)) bu)))))))))))) hf
noncomputable abbrev ia:Stmt:=top 33
theorem wX:bJ ["_law_tape_here","_law_names_here","_law_room","_law_deep"] ["_law_tape_here","_law_names_here","_law_room","_law_deep"] (az ia):=⟨rfl,rfl,rfl,by decide +kernel,rfl,by decide +kernel,by decide +kernel⟩
theorem wY {P:Program}{w:World}{K:PySem.W.Frag}{mg:Str→Option Value}{base:Heap}{f:Addr}{fd:FuncData}{n:Nat}{fm:FM}(F:oY K "_law_whole" "_law_whole" ia f fd)
  {cP:Addr}{eY:FuncData}{aZ:FM}(fX:aX P w K mg base eO n cP eY ["_law_tape_here","_law_world","_law_variables","_law_room","_law_deep"] (spT K 5 aZ)) (fY:Binds K eY ["_law_tape_here","_law_world","_law_variables","_law_room","_law_deep"] []) (fZ:PySem.W.keepIn K (.ref cP)=true) (gf:mg "_law_saying" =some (.ref cP))
  (hf:∀us r,fm us=some r→aE 4 (g7 aZ) us=some r):aX P w K mg base eO (n+1) f fd ["_law_tape_here","_law_names_here","_law_room","_law_deep"] (spT K 4 fm):=
 rY (g:=g7 aZ) F wX (fun cdv A outer s H E hr=>(aR (bE (bC fX hr rfl gf fZ fY (cI (ak 0) (cI (qJ (hk:=Nat.le_of_ble_eq_true rfl) (cV (JE.d (ak 1)) (cV au qI))) (aM (JE.d (bG aF)) (aM (JE.d (ak 2)) (aM (JE.d (ak 3)) bu))))))))) hf
noncomputable abbrev ie:Stmt:=top 34
theorem pF:bJ ["_law_head","_law_shapes"] ["_law_head"] (az ie):=⟨rfl,rfl,rfl,by decide +kernel,rfl,by decide +kernel,by decide +kernel⟩
theorem wZ {P:Program}{w:World}{K:PySem.W.Frag}{mg:Str→Option Value}{base:Heap}{f:Addr}{fd:FuncData}{n:Nat}{fm:FM}(F:oY K "_law_shape" "_law_shape" ie f fd)
  (hf:∀us r,fm us=some r→aE 2 (iY) us=some r):aX P w K mg base eO (n+1) f fd ["_law_head"] (spT K 1 fm):=
 rY (g:=iY) F pF (fun cdv A outer s H E hr=>(aB (bB (i:=1) pF.nd rfl (by first | exact Or.inl rfl | exact Or.inr rfl) (qJ (hk:=Nat.le_of_ble_eq_true rfl) (cV (JE.d (bG (aj au (aj (JE.d (dc aF)) aF)))) (cV (JE.d (bG (aj au (aj (JE.d (dc aF)) aF)))) (cV (JE.d (bG (aj au (aj (JE.d (dc aF)) aF)))) (cV (JE.d (bG (aj au (aj (JE.d (dc (aj au aF))) aF)))) (cV (JE.d (bG (aj au (aj (JE.d (dc (aj au aF))) aF)))) (cV (JE.d (bG (aj au (aj (JE.d (dc (aj au aF))) aF)))) qI))))))))
  (aB (jB (JD.e (CV (i:=1) (qJ (hk:=Nat.le_of_ble_eq_true rfl) (cV (JE.d (bG (aj au (aj (JE.d (dc (aj au aF))) aF)))) (cV (JE.d (bG (aj au (aj (JE.d (dc (aj au (aj au aF)))) aF)))) (cV (JE.d (bG (aj au (aj (JE.d (dc (aj au (aj au aF)))) aF)))) (cV (JE.d (bG (aj au (aj (JE.d (dc (aj au (aj au aF)))) aF)))) qI))))))))
  (aB (jB (JD.e (CV (i:=1) (qJ (hk:=Nat.le_of_ble_eq_true rfl) (cV (JE.d (bG (aj au (aj (JE.d (dc (aj au aF))) aF)))) (cV (JE.d (bG (aj au (aj (JE.d (dc (aj au aF))) aF)))) (cV (JE.d (bG (aj au (aj (JE.d (dc (aj au aF))) aF)))) qI)))))))
  (aR (bE (JD.e (IV (i:=1) (dz hr) (JE.d (ak 0)) (JE.d (bG (aj au (aj (JE.d (dc aF)) aF)))))))))))) hf
noncomputable abbrev dM:Stmt:=top 35
theorem gr:bJ ["_law_saying_here","_law_tokens","_law_at"] ["_law_saying_here"] (az dM):=⟨rfl,rfl,rfl,by decide +kernel,rfl,by decide +kernel,by decide +kernel⟩
theorem w5 {P:Program}{w:World}{K:PySem.W.Frag}{mg:Str→Option Value}{base:Heap}{f:Addr}{fd:FuncData}{n:Nat}{fm:FM}(F:oY K "_law_words" "_law_words" dM f fd) (sH:mg "str" =none)
  {nP:Addr}{tT:FuncData}{gJ:FM}(AU:aX P w K mg base eO n nP tT ["_law_head"] (spT K 1 gJ)) (AV:Binds K tT ["_law_head"] []) (AW:PySem.W.keepIn K (.ref nP)=true) (AX:mg "_law_shape" =some (.ref nP))
  {gW:Addr}{jP:FuncData}{bO:FM}(nQ:aX P w K mg base eO n gW jP ["_law_saying_here"] (spT K 1 bO)) (nR:Binds K jP ["_law_saying_here"] []) (nT:PySem.W.keepIn K (.ref gW)=true) (nU:mg "_law_words" =some (.ref gW))
  (hf:∀us r,fm us=some r→aE 3 (bf gJ bO) us=some r):aX P w K mg base eO (n+1) f fd ["_law_saying_here"] (spT K 1 fm):=
 rY (g:=bf gJ bO) F gr (fun cdv A outer s H E hr=>(aB (bB (i:=1) gr.nd rfl (by first | exact Or.inl rfl | exact Or.inr rfl) (dc (aj (cH (i:=0) (dz hr) au (fun _ _=>rfl)) aF)))
  (aB (fM (cG (jm hr.units) (cH (i:=0) (dz hr) au (fun _ _=>rfl)) aJ) (aR (bB (i:=1) gr.nd rfl (by first | exact Or.inl rfl | exact Or.inr rfl) (bF cX (JE.d (ak 1)) (JE.d (yR (pL (by decide) (by decide) rfl (by decide) rfl) rfl (uN (cH (i:=0) (dz hr) au (fun _ _=>rfl))) (fun _ _ _ _=>yQ) (fun _ _ _ _=>(JE.d (rU pU rfl sH PyProof.Rows.Boot.str (aj (JE.d (ak 0)) aF))))))))) dg)
  (aB (fM (cG (jm hr.units) (cH (i:=0) (dz hr) au (fun _ _=>rfl)) aJ) (aR (jB (JD.e (CN (i:=1) PySem.F.slot_list_append PySem.F.type_list_append DA DO DU (aj (JE.d (rU pU rfl sH PyProof.Rows.Boot.str (aj (cH (i:=0) (dz hr) au (fun _ _=>rfl)) aF))) aF))))) dg)
  (aB (fM (cG (yT hr.units) (cH (i:=0) (dz hr) au (fun _ _=>rfl)) (JE.d (bG (aj aJ (aj aJ aF)))) (by with_unfolding_all rfl)) (aR (bB (i:=1) gr.nd rfl (by first | exact Or.inl rfl | exact Or.inr rfl) (bF cX (JE.d (ak 1)) (JE.d (dc (aj (cH (i:=0) (dz hr) au (fun _ _=>rfl)) (aj (cH (i:=0) (dz hr) au (fun _ _=>rfl)) aF))))))) dg)
  (aB (yN PassesOwn.never rfl (uN (JE.d (qw yM (JE.d (bC AU hr rfl AX AW AV (aM (cH (i:=0) (dz hr) au (fun _ _=>rfl)) bu))) au (fun _ _=>rfl)))) (uy (i:=2) gr.nd rfl (by first | exact Or.inl rfl | exact Or.inr rfl)) (aR (bB (i:=1) gr.nd rfl (by first | exact Or.inl rfl | exact Or.inr rfl) (bF cX (JE.d (ak 1)) (JE.d (bC nQ hr rfl nU nT nR (aM (cH (i:=0) (dz hr) (JE.d (ak 2)) (fun _ _=>rfl)) bu)))))))
  (aR (bE (ak 1))))))))) hf
noncomputable abbrev rG:Stmt:=top 36
theorem qh:bJ ["_law_script","_law_k","_law_tape_here","_law_names_here","_law_saying_here","_law_handed","_law_text"] ["_law_script"] (az rG):=⟨rfl,rfl,rfl,by decide +kernel,rfl,by decide +kernel,by decide +kernel⟩
theorem MR {P:Program}{w:World}{K:PySem.W.Frag}{mg:Str→Option Value}{base:Heap}{f:Addr}{fd:FuncData}{n:Nat}{fm:FM}(F:oY K "law" "law" rG f fd) (i6:mg "len" =none) (sR:mg "range" =none) (AY:mg "repr" =none) (iM:mg "isinstance" =none) (sH:mg "str" =none)
  {qi:Addr}{vL:FuncData}{iI:FM}(Ck:aX P w K mg base eO n qi vL ["_law_script","_law_at"] (spT K 2 iI)) (Cm:Binds K vL ["_law_script","_law_at"] []) (Cn:PySem.W.keepIn K (.ref qi)=true) (Co:mg "_law_tape" =some (.ref qi))
  {nW:Addr}{tU:FuncData}{gK:FM}(AZ:aX P w K mg base eO n nW tU [] (spT K 0 gK)) (A0:Binds K tU [] []) (A1:PySem.W.keepIn K (.ref nW)=true) (A2:mg "_law_names" =some (.ref nW))
  {nX:Addr}{tV:FuncData}{gM:FM}(A3:aX P w K mg base eO n nX tV ["_law_tape_here","_law_names_here","_law_room","_law_deep"] (spT K 4 gM)) (A4:Binds K tV ["_law_tape_here","_law_names_here","_law_room","_law_deep"] []) (A5:PySem.W.keepIn K (.ref nX)=true) (A6:mg "_law_whole" =some (.ref nX))
  {cD:Addr}{dZ:FuncData}{aI:FM}(bS:aX P w K mg base eO n cD dZ ["_law_tape_here","_law_many"] (spT K 2 aI)) (bT:Binds K dZ ["_law_tape_here","_law_many"] []) (bU:PySem.W.keepIn K (.ref cD)=true) (bV:mg "_law_pick" =some (.ref cD))
  {Cp:Addr}{Hs:FuncData}{pZ:FM}(MS:aX P w K mg base eO n Cp Hs ["saying"] (spT K 1 pZ)) (MT:Binds K Hs ["saying"] []) (MU:PySem.W.keepIn K (.ref Cp)=true) (MV:mg "shown" =some (.ref Cp))
  {gW:Addr}{jP:FuncData}{bO:FM}(nQ:aX P w K mg base eO n gW jP ["_law_saying_here"] (spT K 1 bO)) (nR:Binds K jP ["_law_saying_here"] []) (nT:PySem.W.keepIn K (.ref gW)=true) (nU:mg "_law_words" =some (.ref gW))
  {mJ:Addr}{rH:FuncData}{fS:FM}(zx:aX P w K mg base eO n mJ rH ["text"] (spT K 1 fS)) (zy:Binds K rH ["text"] []) (zz:PySem.W.keepIn K (.ref mJ)=true) (zA:mg "read_saying" =some (.ref mJ))
  (hf:∀us r,fm us=some r→aE 7 (Sf.AG iI gK gM aI pZ bO fS) us=some r):aX P w K mg base eO (n+1) f fd ["_law_script"] (spT K 1 fm):=
 rY (g:=Sf.AG iI gK gM aI pZ bO fS) F qh (fun cdv A outer s H E hr=>(aB (yN PassesOwn.never rfl (xE rfl sR (aj (JE.d (bF cX au (JE.d (jE rX rfl i6 PySem.boot_len (aj (JE.d (DS (i:=0) CT (uz au))) aF))))) aF)) (uy (i:=1) qh.nd rfl (by first | exact Or.inl rfl | exact Or.inr rfl)) (aB (bB (i:=2) qh.nd rfl (by first | exact Or.inl rfl | exact Or.inr rfl) (bC Ck hr rfl Co Cn Cm (cI (ak 0) (aM (JE.d (ak 1)) bu))))
  (aB (bB (i:=3) qh.nd rfl (by first | exact Or.inl rfl | exact Or.inr rfl) (bF cX (JE.d (Gb AZ hr rfl A2 A1 A0)) (JE.d (dc (aj aJ (aj aJ (aj aJ (aj aJ (aj aJ (aj aJ (aj aJ (aj aJ (aj aJ (aj aJ aF))))))))))))))
  (aB (bB (i:=4) qh.nd rfl (by first | exact Or.inl rfl | exact Or.inr rfl) (bC A3 hr rfl A6 A5 A4 (cI (ak 2) (aM (JE.d (ak 3)) (aM (JE.d (bF cX au (JE.d (bC bS hr rfl bV bU bT (cI (ak 2) (aM au bu)))))) (aM (JE.d (bF cX au (JE.d (bC bS hr rfl bV bU bT (cI (ak 2) (aM au bu)))))) bu))))))
  (aB (bB (i:=5) qh.nd rfl (by first | exact Or.inl rfl | exact Or.inr rfl) (jE (pS hr.gd hr.units) rfl AY PyProof.Rows.Boot.repr (aj (JE.d (ak 4)) aF)))
  (aB (bB (i:=6) qh.nd rfl (by first | exact Or.inl rfl | exact Or.inr rfl) (bC MS hr rfl MV MU MT (aM (JE.d (ak 4)) bu)))
  (aB (fM (JW.t (xC (BC (BB (xK rfl iM rfl sH PyProof.Rows.Boot.str (JE.d (ak 6))))) (xC (cG (yS hr.units) (JE.d (ak 6)) (JE.d (u5 u6 PySem.F.slot_str_join PySem.F.type_str_join Al aJ (JE.d (bC nQ hr rfl nU nT nR (aM (JE.d (ak 4)) bu)))))) (rW (cG (yS hr.units) (JE.d (jE (pS hr.gd hr.units) rfl AY PyProof.Rows.Boot.repr (aj (JE.d (ak 4)) aF))) (JE.d (ak 5))))))) (aR (bE (JD.e CL))) dg)
  (aR (fM (cG (yS hr.units) (JE.d (jE (pS hr.gd hr.units) rfl AY PyProof.Rows.Boot.repr (aj (JE.d (bC zx hr rfl zA zz zy (aM (JE.d (ak 6)) bu))) aF))) (JE.d (ak 5))) (aR (bE (JD.e CL))) dg)))))))))
  (aR (bE (JD.e CL))))) hf
end K10
end
set_option Elab.async false
set_option linter.all false
set_option maxRecDepth 100000
namespace K10
open PySem L2 Sw Ss Sp Sf
set_option maxHeartbeats 0 in
theorem all_mk {l:PySem.W.OpenLaw}{w:World}{K:PySem.W.Frag}{h:Heap}{mg:Str→Option Value}{fa f1 f2 f3 f4 f5 f6 f7 f8 f9 P9 f11 Qa Qc Qd Qe NG VY VZ V0 V1 V2 Sg Sh V3 V4 Si V5 aH:Addr}(X:K.In h) (G:h.Ns mainGlobals mg) (OQ:mg "law" =some (.ref fa))
    {od1 an1 od2 an2 od3 an3 od4 an4 od5 an5 od6 ZS od7 an7 od8 an8 od9 an9 V6 V7 V8 V9 Wa Wb Wc We Wf Wg Wh Wi Wj Qg Wl Wm Wn Wo Wq Wr Ws Wt Wu Wv Ww Qh Wx Qi Wy Wz WA WB WC Qj WD Qk:Option Addr}{sl1 sl2 sl3 sl4 sl5 sl6 sl7 sl8 sl9 WE WG WH WI WJ WK WL WM WN WO WQ WR WS WT WU WV WW WX:Array (Option Value)} {oc1 kV1 dc1 pm1 ZT ct1 oc2 kV2 dc2 pm2 ZU ct2 oc3 kV3 dc3 pm3 ZV ct3 oc4 kV4 dc4 pm4 ZW ct4 oc5 kV5 dc5 pm5 ZX ct5 oc6 ZY ZZ Z0 WY Z1 oc7 kV7 dc7 pm7 Z2 ct7 oc8 kV8 dc8 pm8 Z3 ct8 oc9 kV9 dc9 pm9 Z4 ct9 WZ W0 W2 W3 Ql W4 W5 W6 W7 W8 Qm W9 Xa Xb Xc Xd Qn Xe Xf Xg Xh Xi Qo Xj Xk Xl Xm Xn Qp Xo Xp Xq Xr Xs Qq Xu Xv Qs Qt Qu MW Qv Xw Xx Xy Xz Qw XA XC XD XE XF Qx XG XH XI XJ XM Qy XN XO XQ XR XS Qz XT XU XW XX XY QA XZ X0 QB QC QD MX QE X3 QF QG QH MY QI X4 X5 X6 X7 QJ X8 Yb Yc Yd Ye QK Yg Yh QL QM QN MZ QO Yi QS QT QU M0 QV:Value}{kU vE kX mC kZ jy:Tok}{i7:Addr}{yu:List DictEntry}{Ex:Nat}{j4:Addr}{A7:List DictEntry}{Ht:Nat}{gO:Addr}{sV:List Value}{Ey:Nat}{Ez:Option Addr}{EA:Array (Option Value)}{jc:Addr}{yw:List DictEntry}{EB:Nat}
    (a1:PySem.W.nsIn K mainGlobals "is_name" =some (some (.ref f1))) (l1:K.lookup f1=some ⟨oc1,od1,.func (PySem.W.fnOf "is_name" "is_name" (bw j7) (aY j7) (az j7) .none kV1 dc1 pm1 an1 ZT ct1),sl1⟩) (c1:PySem.W.codeIn K ZT "is_name" =true) (k1:PySem.W.keepIn K (.ref f1)=true)
    (a2:PySem.W.nsIn K mainGlobals "is_head" =some (some (.ref f2))) (l2:K.lookup f2=some ⟨oc2,od2,.func (PySem.W.fnOf "is_head" "is_head" (bw j8) (aY j8) (az j8) .none kV2 dc2 pm2 an2 ZU ct2),sl2⟩) (c2:PySem.W.codeIn K ZU "is_head" =true) (k2:PySem.W.keepIn K (.ref f2)=true)
    (a3:PySem.W.nsIn K mainGlobals "parts_wanted" =some (some (.ref f3))) (l3:K.lookup f3=some ⟨oc3,od3,.func (PySem.W.fnOf "parts_wanted" "parts_wanted" (bw fH) (aY fH) (az fH) .none kV3 dc3 pm3 an3 ZV ct3),sl3⟩) (c3:PySem.W.codeIn K ZV "parts_wanted" =true) (k3:PySem.W.keepIn K (.ref f3)=true)
    (a4:PySem.W.nsIn K mainGlobals "parts_of" =some (some (.ref f4))) (l4:K.lookup f4=some ⟨oc4,od4,.func (PySem.W.fnOf "parts_of" "parts_of" (bw jw) (aY jw) (az jw) .none kV4 dc4 pm4 an4 ZW ct4),sl4⟩) (c4:PySem.W.codeIn K ZW "parts_of" =true) (k4:PySem.W.keepIn K (.ref f4)=true)
    (a5:PySem.W.nsIn K mainGlobals "bound_within" =some (some (.ref f5))) (l5:K.lookup f5=some ⟨oc5,od5,.func (PySem.W.fnOf "bound_within" "bound_within" (bw fJ) (aY fJ) (az fJ) .none kV5 dc5 pm5 an5 ZX ct5),sl5⟩) (c5:PySem.W.codeIn K ZX "bound_within" =true) (k5:PySem.W.keepIn K (.ref f5)=true)
    (a6:PySem.W.nsIn K mainGlobals "words_of" =some (some (.ref f6))) (l6:K.lookup f6=some ⟨oc6,od6,.func (PySem.W.fnOf "words_of" "words_of" (bw fT) (aY fT) (az fT) .none ZY ZZ Z0 ZS WY Z1),sl6⟩) (c6:PySem.W.codeIn K WY "words_of" =true) (k6:PySem.W.keepIn K (.ref f6)=true)
    (a7:PySem.W.nsIn K mainGlobals "shown" =some (some (.ref f7))) (l7:K.lookup f7=some ⟨oc7,od7,.func (PySem.W.fnOf "shown" "shown" (bw oW) (aY oW) (az oW) .none kV7 dc7 pm7 an7 Z2 ct7),sl7⟩) (c7:PySem.W.codeIn K Z2 "shown" =true) (k7:PySem.W.keepIn K (.ref f7)=true)
 (l8:K.lookup f8=some ⟨oc8,od8,.func (PySem.W.fnOf "__init__" "Reader.__init__" (bw dF) (aY dF) (az dF) .none kV8 dc8 pm8 an8 Z3 ct8),sl8⟩) (c8:PySem.W.codeIn K Z3 "Reader.__init__" =true) (k8:PySem.W.keepIn K (.ref f8)=true)
 (l9:K.lookup f9=some ⟨oc9,od9,.func (PySem.W.fnOf "taken" "Reader.taken" (bw fK) (aY fK) (az fK) .none kV9 dc9 pm9 an9 Z4 ct9),sl9⟩) (c9:PySem.W.codeIn K Z4 "Reader.taken" =true) (k9:PySem.W.keepIn K (.ref f9)=true)
 (Yj:K.lookup P9=some ⟨WZ,V6,.func (PySem.W.fnOf "wanted" "Reader.wanted" (bw eG) (aY eG) (az eG) .none W0 W2 W3 V7 Ql W4),WE⟩) (Yk:PySem.W.codeIn K Ql "Reader.wanted" =true) (Sj:PySem.W.keepIn K (.ref P9)=true)
 (Yl:K.lookup f11=some ⟨W5,V8,.func (PySem.W.fnOf "name_taken" "Reader.name_taken" (bw cR) (aY cR) (az cR) .none W6 W7 W8 V9 Qm W9),WG⟩) (Ym:PySem.W.codeIn K Qm "Reader.name_taken" =true) (Sk:PySem.W.keepIn K (.ref f11)=true)
 (Yn:K.lookup Qa=some ⟨Xa,Wa,.func (PySem.W.fnOf "head_taken" "Reader.head_taken" (bw cS) (aY cS) (az cS) .none Xb Xc Xd Wb Qn Xe),WH⟩) (c12:PySem.W.codeIn K Qn "Reader.head_taken" =true) (Ll:PySem.W.keepIn K (.ref Qa)=true)
 (Yo:K.lookup Qc=some ⟨Xf,Wc,.func (PySem.W.fnOf "test_taken" "Reader.test_taken" (bw cT) (aY cT) (az cT) .none Xg Xh Xi We Qo Xj),WI⟩) (Yp:PySem.W.codeIn K Qo "Reader.test_taken" =true) (Sl:PySem.W.keepIn K (.ref Qc)=true)
 (Yq:K.lookup Qd=some ⟨Xk,Wf,.func (PySem.W.fnOf "within_taken" "Reader.within_taken" (bw cz) (aY cz) (az cz) .none Xl Xm Xn Wg Qp Xo),WJ⟩) (Yr:PySem.W.codeIn K Qp "Reader.within_taken" =true) (So:PySem.W.keepIn K (.ref Qd)=true)
 (Ys:K.lookup Qe=some ⟨Xp,Wh,.func (PySem.W.fnOf "begin_taken" "Reader.begin_taken" (bw cF) (aY cF) (az cF) .none Xq Xr Xs Wi Qq Xu),WK⟩) (Yt:PySem.W.codeIn K Qq "Reader.begin_taken" =true) (Su:PySem.W.keepIn K (.ref Qe)=true)
 (Yu:K.lookup NG=some ⟨Xv,Wj,.func (PySem.W.fnOf "saying_taken" "Reader.saying_taken" (bw bz) (aY bz) (az bz) .none Qs Qt Qu Qg MW Qv),WL⟩) (Yv:PySem.W.codeIn K MW "Reader.saying_taken" =true) (Sv:PySem.W.keepIn K (.ref NG)=true)
    (a17:PySem.W.nsIn K mainGlobals "read_saying" =some (some (.ref VY))) (Yw:K.lookup VY=some ⟨Xw,Wl,.func (PySem.W.fnOf "read_saying" "read_saying" (bw gq) (aY gq) (az gq) .none Xx Xy Xz Wm Qw XA),WM⟩) (Yx:PySem.W.codeIn K Qw "read_saying" =true) (Sx:PySem.W.keepIn K (.ref VY)=true)
    (a18:PySem.W.nsIn K mainGlobals "_law_tape" =some (some (.ref VZ))) (Yy:K.lookup VZ=some ⟨XC,Wn,.func (PySem.W.fnOf "_law_tape" "_law_tape" (bw iN) (aY iN) (az iN) .none XD XE XF Wo Qx XG),WN⟩) (Yz:PySem.W.codeIn K Qx "_law_tape" =true) (Sz:PySem.W.keepIn K (.ref VZ)=true)
    (a19:PySem.W.nsIn K mainGlobals "_law_pick" =some (some (.ref V0))) (YA:K.lookup V0=some ⟨XH,Wq,.func (PySem.W.fnOf "_law_pick" "_law_pick" (bw iO) (aY iO) (az iO) .none XI XJ XM Wr Qy XN),WO⟩) (YB:PySem.W.codeIn K Qy "_law_pick" =true) (M3:PySem.W.keepIn K (.ref V0)=true)
    (a20:PySem.W.nsIn K mainGlobals "_law_names" =some (some (.ref V1))) (YC:K.lookup V1=some ⟨XO,Ws,.func (PySem.W.fnOf "_law_names" "_law_names" (bw g9) (aY g9) (az g9) .none XQ XR XS Wt Qz XT),WQ⟩) (YD:PySem.W.codeIn K Qz "_law_names" =true) (SA:PySem.W.keepIn K (.ref V1)=true)
    (a21:PySem.W.nsIn K mainGlobals "_law_test" =some (some (.ref V2))) (YE:K.lookup V2=some ⟨XU,Wu,.func (PySem.W.fnOf "_law_test" "_law_test" (bw iP) (aY iP) (az iP) .none XW XX XY Wv QA XZ),WR⟩) (YF:PySem.W.codeIn K QA "_law_test" =true) (SD:PySem.W.keepIn K (.ref V2)=true)
    (a22:PySem.W.nsIn K mainGlobals "_law_inner" =some (some (.ref Sg))) (YG:K.lookup Sg=some ⟨X0,Ww,.func (PySem.W.fnOf "_law_inner" "_law_inner" (bw dJ) (aY dJ) (az dJ) .none QB QC QD Qh MX QE),WS⟩) (YH:PySem.W.codeIn K MX "_law_inner" =true) (SE:PySem.W.keepIn K (.ref Sg)=true)
    (a23:PySem.W.nsIn K mainGlobals "_law_saying" =some (some (.ref Sh))) (YI:K.lookup Sh=some ⟨X3,Wx,.func (PySem.W.fnOf "_law_saying" "_law_saying" (bw cZ) (aY cZ) (az cZ) .none QF QG QH Qi MY QI),WT⟩) (YJ:PySem.W.codeIn K MY "_law_saying" =true) (NH:PySem.W.keepIn K (.ref Sh)=true)
    (a24:PySem.W.nsIn K mainGlobals "_law_whole" =some (some (.ref V3))) (YK:K.lookup V3=some ⟨X4,Wy,.func (PySem.W.fnOf "_law_whole" "_law_whole" (bw ia) (aY ia) (az ia) .none X5 X6 X7 Wz QJ X8),WU⟩) (YL:PySem.W.codeIn K QJ "_law_whole" =true) (SG:PySem.W.keepIn K (.ref V3)=true)
    (a25:PySem.W.nsIn K mainGlobals "_law_shape" =some (some (.ref V4))) (YM:K.lookup V4=some ⟨Yb,WA,.func (PySem.W.fnOf "_law_shape" "_law_shape" (bw ie) (aY ie) (az ie) .none Yc Yd Ye WB QK Yg),WV⟩) (YN:PySem.W.codeIn K QK "_law_shape" =true) (SH:PySem.W.keepIn K (.ref V4)=true)
    (a26:PySem.W.nsIn K mainGlobals "_law_words" =some (some (.ref Si))) (YO:K.lookup Si=some ⟨Yh,WC,.func (PySem.W.fnOf "_law_words" "_law_words" (bw dM) (aY dM) (az dM) .none QL QM QN Qj MZ QO),WW⟩) (YQ:PySem.W.codeIn K MZ "_law_words" =true) (QW:PySem.W.keepIn K (.ref Si)=true)
    (a27:PySem.W.nsIn K mainGlobals "law" =some (some (.ref V5))) (YR:K.lookup V5=some ⟨Yi,WD,.func (PySem.W.fnOf "law" "law" (bw rG) (aY rG) (az rG) .none QS QT QU Qk M0 QV),WX⟩) (YS:PySem.W.codeIn K M0 "law" =true) (YT:PySem.W.keepIn K (.ref V5)=true)
    (vM:PySem.W.plainGet K aH Str.empty=true) (vN:PySem.W.hasDictIn K aH=true) (vO:PySem.W.plainOver K aH=true) (vP:PySem.W.findIn K (.ref aH) "__setattr__" =some (some (.builtin "object.__setattr__"))) (gX:PySem.W.findIn K (.ref aH) "words" =some none) (jQ:PySem.W.findIn K (.ref aH) "at" =some none) (ig:PySem.W.findIn K (.ref aH) "sayings" =some none) (ir:PySem.W.findIn K (.ref aH) "binders" =some none)
    (ao:PySem.W.nsIn K mainGlobals "Reader" =some (some (.ref aH))) (vQ:PySem.W.makesIn K aH=true) (vR:PySem.W.keepIn K (.ref aH)=true)
    (x8:PySem.W.findIn K (.ref aH) "__init__" =some (some (.ref f8))) (y8:PySem.W.isFn K (.ref f8)=true)
    (x9:PySem.W.findIn K (.ref aH) "taken" =some (some (.ref f9))) (y9:PySem.W.isFn K (.ref f9)=true)
    (YU:PySem.W.findIn K (.ref aH) "wanted" =some (some (.ref P9))) (YV:PySem.W.isFn K (.ref P9)=true)
    (YW:PySem.W.findIn K (.ref aH) "name_taken" =some (some (.ref f11))) (YX:PySem.W.isFn K (.ref f11)=true)
    (YY:PySem.W.findIn K (.ref aH) "head_taken" =some (some (.ref Qa))) (YZ:PySem.W.isFn K (.ref Qa)=true)
    (Y0:PySem.W.findIn K (.ref aH) "test_taken" =some (some (.ref Qc))) (Y3:PySem.W.isFn K (.ref Qc)=true)
    (Y4:PySem.W.findIn K (.ref aH) "within_taken" =some (some (.ref Qd))) (Y5:PySem.W.isFn K (.ref Qd)=true)
    (Y6:PySem.W.findIn K (.ref aH) "begin_taken" =some (some (.ref Qe))) (Y7:PySem.W.isFn K (.ref Qe)=true)
    (Y8:PySem.W.findIn K (.ref aH) "saying_taken" =some (some (.ref NG))) (Y9:PySem.W.isFn K (.ref NG)=true)
    (lA:PySem.W.nsIn K mainGlobals "LONGEST_NAME" =some (some (.int 8 kU)))
    (vU:PySem.W.nsIn K mainGlobals "LETTERS" =some (some (.str "abcdefghijklmnopqrstuvwxyz" vE)))
    (vV:PySem.W.nsIn K mainGlobals "LENGTHS" =some (some (.ref i7))) (vW:K.lookup i7=some ⟨.type "dict",none,.dict yu.toArray Ex,#[]⟩) (vX:(i7 == sysModules)=false) (vY:pT w [("yes",1),("no",1),("now",2),("not",2),("both",3),("either",3),("next",2),("till",3),("within",3),("always",2),("some",2),("each",4),("one",4)] yu)
    (zB:PySem.W.nsIn K mainGlobals "STARTS" =some (some (.ref j4))) (zC:K.lookup j4=some ⟨.type "dict",none,.dict A7.toArray Ht,#[]⟩) (zD:(j4 == sysModules)=false) (zE:pT w [("yes",1),("no",1),("now",2),("not",1),("both",1),("either",1),("next",1),("till",1),("within",2),("always",1),("some",1),("each",3),("one",3)] A7)
    (vZ:PySem.W.nsIn K mainGlobals "BINDERS" =some (some (.ref gO))) (v5:K.lookup gO=some ⟨.type "tuple",Ez,.seq sV.toArray Ey,EA⟩) (v7:sV.length≤1000) (v8:yX ["each","one"] sV)
    (lB:PySem.W.nsIn K mainGlobals "MOST_SAYINGS" =some (some (.int 16 kX)))
    (mK:PySem.W.nsIn K mainGlobals "MOST_WITHIN" =some (some (.int 8 mC)))
    (lC:PySem.W.nsIn K mainGlobals "MOST_BINDERS" =some (some (.int 3 kZ)))
    (v9:PySem.W.nsIn K mainGlobals "FIGURES" =some (some (.ref jc))) (wc:K.lookup jc=some ⟨.type "dict",none,.dict yw.toArray EB,#[]⟩) (we:(jc == sysModules)=false) (wg:pT w [("0",0),("1",1),("2",2),("3",3),("4",4),("5",5),("6",6),("7",7),("8",8),("9",9)] yw)
    (jA:PySem.W.nsIn K mainGlobals "GREATEST_WITHIN" =some (some (.int 5 jy)))
    (nY:PySem.W.nsIn K mainGlobals "isinstance" =some none) (M4:PySem.W.nsIn K mainGlobals "str" =some none) (M5:PySem.W.nsIn K mainGlobals "len" =some none) (M6:PySem.W.nsIn K mainGlobals "all" =some none) (Cq:PySem.W.nsIn K mainGlobals "range" =some none) (M7:PySem.W.nsIn K mainGlobals "max" =some none) (Hu:PySem.W.nsIn K mainGlobals "repr" =some none):
    ∃fd:FuncData,(∀(s:Shared) (v:Value),BindsTo s fd ⟨[v],[]⟩ [("_law_script",v)])∧∀base:Heap,K.In base→base.Ns mainGlobals mg→aX l.prog w K mg base eO 21 fa fd ["_law_script"] (spT K 1 (BU 63)):=by
  have e:=OQ.symm.trans (PySem.W.mg_of X G a27)
  cases e
  have F1:=cW (st:=j7) l1 c1 k1
  have b1:=F1.binds (ps:=["thing"]) fun _ _ _ _ _ _ us hl=>match us,hl with | [_],_=>rfl
  have n1:=PySem.W.mg_of X G a1
  have F2:=cW (st:=j8) l2 c2 k2
  have b2:=F2.binds (ps:=["word"]) fun _ _ _ _ _ _ us hl=>match us,hl with | [_],_=>rfl
  have n2:=PySem.W.mg_of X G a2
  have F3:=cW (st:=fH) l3 c3 k3
  have b3:=F3.binds (ps:=["head"]) fun _ _ _ _ _ _ us hl=>match us,hl with | [_],_=>rfl
  have n3:=PySem.W.mg_of X G a3
  have F4:=cW (st:=jw) l4 c4 k4
  have b4:=F4.binds (ps:=["saying"]) fun _ _ _ _ _ _ us hl=>match us,hl with | [_],_=>rfl
  have n4:=PySem.W.mg_of X G a4
  have F5:=cW (st:=fJ) l5 c5 k5
  have b5:=F5.binds (ps:=["saying","bound"]) fun _ _ _ _ _ _ us hl=>match us,hl with | [_,_],_=>rfl
  have n5:=PySem.W.mg_of X G a5
  have F6:=cW (st:=fT) l6 c6 k6
  have b6:=F6.binds (ps:=["saying"]) fun _ _ _ _ _ _ us hl=>match us,hl with | [_],_=>rfl
  have n6:=PySem.W.mg_of X G a6
  have F7:=cW (st:=oW) l7 c7 k7
  have b7:=F7.binds (ps:=["saying"]) fun _ _ _ _ _ _ us hl=>match us,hl with | [_],_=>rfl
  have n7:=PySem.W.mg_of X G a7
  have F8:=cW (st:=dF) l8 c8 k8
  have b8:=F8.binds (ps:=["self","words"]) fun _ _ _ _ _ _ us hl=>match us,hl with | [_,_],_=>rfl
  have h8:Meth K aH "__init__" f8:=⟨x8,y8,k8⟩
  have F9:=cW (st:=fK) l9 c9 k9
  have b9:=F9.binds (ps:=["self"]) fun _ _ _ _ _ _ us hl=>match us,hl with | [_],_=>rfl
  have h9:Meth K aH "taken" f9:=⟨x9,y9,k9⟩
  have Kn:=cW (st:=eG) Yj Yk Sj
  have SI:=Kn.binds (ps:=["self","right"]) fun _ _ _ _ _ _ us hl=>match us,hl with | [_,_],_=>rfl
  have h10:Meth K aH "wanted" P9:=⟨YU,YV,Sj⟩
  have Z5:=cW (st:=cR) Yl Ym Sk
  have Z6:=Z5.binds (ps:=["self"]) fun _ _ _ _ _ _ us hl=>match us,hl with | [_],_=>rfl
  have h11:Meth K aH "name_taken" f11:=⟨YW,YX,Sk⟩
  have Z7:=cW (st:=cS) Yn c12 Ll
  have b12:=Z7.binds (ps:=["self","around"]) fun _ _ _ _ _ _ us hl=>match us,hl with | [_,_],_=>rfl
  have h12:Meth K aH "head_taken" Qa:=⟨YY,YZ,Ll⟩
  have Z8:=cW (st:=cT) Yo Yp Sl
  have b13:=Z8.binds (ps:=["self","bound"]) fun _ _ _ _ _ _ us hl=>match us,hl with | [_,_],_=>rfl
  have h13:Meth K aH "test_taken" Qc:=⟨Y0,Y3,Sl⟩
  have Z9:=cW (st:=cz) Yq Yr So
  have b14:=Z9.binds (ps:=["self"]) fun _ _ _ _ _ _ us hl=>match us,hl with | [_],_=>rfl
  have h14:Meth K aH "within_taken" Qd:=⟨Y4,Y5,So⟩
  have F15:=cW (st:=cF) Ys Yt Su
  have b15:=F15.binds (ps:=["self","bound","around"]) fun _ _ _ _ _ _ us hl=>match us,hl with | [_,_,_],_=>rfl
  have Om:Meth K aH "begin_taken" Qe:=⟨Y6,Y7,Su⟩
  have F16:=cW (st:=bz) Yu Yv Sv
  have b16:=F16.binds (ps:=["self","bound","around"]) fun _ _ _ _ _ _ us hl=>match us,hl with | [_,_,_],_=>rfl
  have h16:Meth K aH "saying_taken" NG:=⟨Y8,Y9,Sv⟩
  have F17:=cW (st:=gq) Yw Yx Sx
  have b17:=F17.binds (ps:=["text"]) fun _ _ _ _ _ _ us hl=>match us,hl with | [_],_=>rfl
  have n17:=PySem.W.mg_of X G a17
  have F18:=cW (st:=iN) Yy Yz Sz
  have b18:=F18.binds (ps:=["_law_script","_law_at"]) fun _ _ _ _ _ _ us hl=>match us,hl with | [_,_],_=>rfl
  have n18:=PySem.W.mg_of X G a18
  have F19:=cW (st:=iO) YA YB M3
  have SJ:=F19.binds (ps:=["_law_tape_here","_law_many"]) fun _ _ _ _ _ _ us hl=>match us,hl with | [_,_],_=>rfl
  have SK:=PySem.W.mg_of X G a19
  have F20:=cW (st:=g9) YC YD SA
  have b20:=F20.binds (ps:=[]) fun _ _ _ _ _ _ us hl=>match us,hl with | [],_=>rfl
  have n20:=PySem.W.mg_of X G a20
  have F21:=cW (st:=iP) YE YF SD
  have b21:=F21.binds (ps:=["_law_tape_here","_law_names_here","_law_variables"]) fun _ _ _ _ _ _ us hl=>match us,hl with | [_,_,_],_=>rfl
  have n21:=PySem.W.mg_of X G a21
  have F22:=cW (st:=dJ) YG YH SE
  have b22:=F22.binds (ps:=["_law_tape_here","_law_world","_law_variables","_law_room","_law_deep"]) fun _ _ _ _ _ _ us hl=>match us,hl with | [_,_,_,_,_],_=>rfl
  have n22:=PySem.W.mg_of X G a22
  have F23:=cW (st:=cZ) YI YJ NH
  have Za:=F23.binds (ps:=["_law_tape_here","_law_world","_law_variables","_law_room","_law_deep"]) fun _ _ _ _ _ _ us hl=>match us,hl with | [_,_,_,_,_],_=>rfl
  have Zb:=PySem.W.mg_of X G a23
  have F24:=cW (st:=ia) YK YL SG
  have b24:=F24.binds (ps:=["_law_tape_here","_law_names_here","_law_room","_law_deep"]) fun _ _ _ _ _ _ us hl=>match us,hl with | [_,_,_,_],_=>rfl
  have n24:=PySem.W.mg_of X G a24
  have F25:=cW (st:=ie) YM YN SH
  have b25:=F25.binds (ps:=["_law_head"]) fun _ _ _ _ _ _ us hl=>match us,hl with | [_],_=>rfl
  have n25:=PySem.W.mg_of X G a25
  have F26:=cW (st:=dM) YO YQ QW
  have b26:=F26.binds (ps:=["_law_saying_here"]) fun _ _ _ _ _ _ us hl=>match us,hl with | [_],_=>rfl
  have n26:=PySem.W.mg_of X G a26
  have F27:=cW (st:=rG) YR YS YT
  have aL:rS K aH:=⟨vM,vN,vO,vP⟩
  have zo:=PySem.W.mg_of X G ao
  have zp:Mk K aH f8:=⟨vQ,x8,y8,vR⟩
  have iM:=PySem.W.mg_none_of X G nY
  have sH:=PySem.W.mg_none_of X G M4
  have i6:=PySem.W.mg_none_of X G M5
  have MP:=PySem.W.mg_none_of X G M6
  have sR:=PySem.W.mg_none_of X G Cq
  have MQ:=PySem.W.mg_none_of X G M7
  have AY:=PySem.W.mg_none_of X G Hu
  have kW:=PySem.W.mg_of X G lA
  have vF:=PySem.W.mg_of X G vU
  have lN:=PySem.W.mg_of X G vV
  have lO:=yV (P:=l.prog) vW vX vY
  have oU:=PySem.W.mg_of X G zB
  have oV:=yV (P:=l.prog) zC zD zE
  have i8:=PySem.W.mg_of X G vZ
  have i9:=IT v5 v7 v8
  have kY:=PySem.W.mg_of X G lB
  have mD:=PySem.W.mg_of X G mK
  have lq:=PySem.W.mg_of X G lC
  have jd:=PySem.W.mg_of X G v9
  have je:=yV (P:=l.prog) wc we wg
  have jz:=PySem.W.mg_of X G jA
  refine⟨PySem.W.fnOf "law" "law" (bw rG) (aY rG) (az rG) .none QS QT QU Qk M0 QV,fun s v=>.of_eq rfl,fun base _ _=>?_⟩
  have Hv:=Cc (P:=l.prog) (w:=w) (K:=K) (mg:=mg) (base:=base) (n:=0) F1 iM sH i6 MP kW vF (fm:=ya) Gx
  have Hw:=Ce (P:=l.prog) (w:=w) (K:=K) (mg:=mg) (base:=base) (n:=0) F2 lN lO (fm:=AA) GR
  have xg:=um (P:=l.prog) (w:=w) (K:=K) (mg:=mg) (base:=base) (n:=0) F3 lN lO oU oV (fm:=HD) pw_run
  have EC:=AJ (P:=l.prog) (w:=w) (K:=K) (mg:=mg) (base:=base) (n:=0) F4 oU oV (fm:=pW) D6
  have xh:=uq (P:=l.prog) (w:=w) (K:=K) (mg:=mg) (base:=base) (n:=0) F5 i8 i9 (fm:=nv) D7
  have sW:=p6 (P:=l.prog) (w:=w) (K:=K) (mg:=mg) (base:=base) (n:=0) F8 aL gX jQ ig ir (fm:=(AF aH)) (G2 aH)
  have jD:=uu (P:=l.prog) (w:=w) (K:=K) (mg:=mg) (base:=base) (n:=0) F9 i6 aL jQ gX (fm:=(uf aH)) (Jr aH)
  have jh:=sQ (P:=l.prog) (w:=w) (K:=K) (mg:=mg) (base:=base) (n:=0) Kn (fm:=mR) GP
  have Cr:=zq (P:=l.prog) (w:=w) (K:=K) (mg:=mg) (base:=base) (n:=0) F18 i6 MQ (fm:=vh) Gr
  have mL:=zu (P:=l.prog) (w:=w) (K:=K) (mg:=mg) (base:=base) (n:=0) F19 (fm:=jF) pick_run
  have A8:=wV (P:=l.prog) (w:=w) (K:=K) (mg:=mg) (base:=base) (n:=0) F20 (fm:=sr) D0
  have A9:=wZ (P:=l.prog) (w:=w) (K:=K) (mg:=mg) (base:=base) (n:=0) F25 (fm:=jq) D9
  have kK:=nI (P:=l.prog) (w:=w) (K:=K) (mg:=mg) (base:=base) (n:=1) Z5 aL (jD.mono (by omega)) b9 h9 (jh.mono (by omega)) SI h10 (Hv.mono (by omega)) b1 k1 n1 (fm:=(EG aH)) (Me aH)
  have qj:=nJ (P:=l.prog) (w:=w) (K:=K) (mg:=mg) (base:=base) (n:=1) Z7 i8 i9 kY mD lq aL ig ir (jD.mono (by omega)) b9 h9 (jh.mono (by omega)) SI h10 (Hw.mono (by omega)) b2 k2 n2 (fm:=(PY aH)) (Mf aH)
  have nZ:=mF (P:=l.prog) (w:=w) (K:=K) (mg:=mg) (base:=base) (n:=1) Z9 jd je jz aL (jD.mono (by omega)) b9 h9 (jh.mono (by omega)) SI h10 (fm:=(HC aH)) (Mi aH)
  have Cs:=zw (P:=l.prog) (w:=w) (K:=K) (mg:=mg) (base:=base) (n:=1) F21 i6 (mL.mono (by omega)) SJ M3 SK (fm:=kD) Eb
  have qk:=nK (P:=l.prog) (w:=w) (K:=K) (mg:=mg) (base:=base) (n:=2) Z8 jd je aL (jD.mono (by omega)) b9 h9 (kK.mono (by omega)) Z6 h11 (jh.mono (by omega)) SI h10 (fm:=(HB aH)) (Mh aH)
  have pA:=mT (P:=l.prog) (w:=w) (K:=K) (mg:=mg) (base:=base) (n:=3) F15 i8 i9 aL (qj.mono (by omega)) b12 h12 (qk.mono (by omega)) b13 h13 (nZ.mono (by omega)) b14 h14 (kK.mono (by omega)) Z6 h11 (fm:=(R9 aH)) (Mn aH)
  have ED:∀j:Nat,aX l.prog w K mg base eO (j+1) f6 (PySem.W.fnOf "words_of" "words_of" (bw fT) (aY fT) (az fT) .none ZY ZZ Z0 ZS WY Z1) ["saying"] (spT K 1 (nC j)):=by
    intro j
    induction j with
    | zero=>exact vm (Az)
    | succ j ih=>exact(AK (P:=l.prog) (w:=w) (K:=K) (mg:=mg) (base:=base) (n:=j+1) F6 i6 sH (EC.mono (by omega)) b4 k4 n4 ih b6 k6 n6 (Ej j)).mono (by omega)
  have EE:=ED 9
  have Ba:∀j:Nat,aX l.prog w K mg base eO (j+1) Si (PySem.W.fnOf "_law_words" "_law_words" (bw dM) (aY dM) (az dM) .none QL QM QN Qj MZ QO) ["_law_saying_here"] (spT K 1 (kO j)):=by
    intro j
    induction j with
    | zero=>exact vm (zm)
    | succ j ih=>exact(w5 (P:=l.prog) (w:=w) (K:=K) (mg:=mg) (base:=base) (n:=j+1) F26 sH (A9.mono (by omega)) b25 SH n25 ih b26 QW n26 (Ca j)).mono (by omega)
  have Bb:=Ba 9
  have M8:=G9 (P:=l.prog) (w:=w) (K:=K) (mg:=mg) (base:=base) (n:=10) F7 (EE.mono (by omega)) b6 k6 n6 (fm:=vD) El
  have n8:∀j:Nat,aX l.prog w K mg base eO (j+4) NG (PySem.W.fnOf "saying_taken" "Reader.saying_taken" (bw bz) (aY bz) (az bz) .none Qs Qt Qu Qg MW Qv) ["self","bound","around"] (spT K 3 (HE aH j)):=by
    intro j
    induction j with
    | zero=>exact vm (GX aH)
    | succ j ih=>exact(mG (P:=l.prog) (w:=w) (K:=K) (mg:=mg) (base:=base) (n:=j+4) F16 sR aL (pA.mono (by omega)) b15 Om (xh.mono (by omega)) b5 k5 n5 (xg.mono (by omega)) b3 k3 n3 ih b16 h16 (Mq aH j)).mono (by omega)
  have n9:=n8 9
  have zF:=vI (P:=l.prog) (w:=w) (K:=K) (mg:=mg) (base:=base) (n:=13) F17 i6 aL jQ gX zo (by omega) sW b8 zp (n9.mono (by omega)) b16 h16 (fm:=(P6 aH)) (My aH)
  have rJ:∀j:Nat,aX l.prog w K mg base eO (j+2) Sh (PySem.W.fnOf "_law_saying" "_law_saying" (bw cZ) (aY cZ) (az cZ) .none QF QG QH Qi MY QI) ["_law_tape_here","_law_world","_law_variables","_law_room","_law_deep"] (spT K 5 (sD j))∧aX l.prog w K mg base eO (j+2) Sg (PySem.W.fnOf "_law_inner" "_law_inner" (bw dJ) (aY dJ) (az dJ) .none QB QC QD Qh MX QE) ["_law_tape_here","_law_world","_law_variables","_law_room","_law_deep"] (spT K 5 (GH j)):=by
    intro j
    induction j with
    | zero=>exact⟨vm Ed,vm Ef⟩
    | succ j ih=>exact⟨(vJ (P:=l.prog) (w:=w) (K:=K) (mg:=mg) (base:=base) (n:=j+2) F23 (mL.mono (by omega)) SJ M3 SK (Cs.mono (by omega)) b21 SD n21 ih.1 Za NH Zb ih.2 b22 SE n22 (Jk j)).mono (by omega),(wW (P:=l.prog) (w:=w) (K:=K) (mg:=mg) (base:=base) (n:=j+2) F22 i6 (mL.mono (by omega)) SJ M3 SK ih.1 Za NH Zb (Jl j)).mono (by omega)⟩
  have zG:=(rJ 17).1
  have Ko:=(rJ 17).2
  have Bc:=wY (P:=l.prog) (w:=w) (K:=K) (mg:=mg) (base:=base) (n:=19) F24 (zG.mono (by omega)) Za NH Zb (fm:=vt) B4
  exact MR (P:=l.prog) (w:=w) (K:=K) (mg:=mg) (base:=base) (n:=20) F27 i6 sR AY iM sH (Cr.mono (by omega)) b18 Sz n18 (A8.mono (by omega)) b20 SA n20 (Bc.mono (by omega)) b24 SG n24 (mL.mono (by omega)) SJ M3 SK (M8.mono (by omega)) b7 k7 n7 (Bb.mono (by omega)) b26 QW n26 (zF.mono (by omega)) b17 Sx n17 (Er aH)
theorem walk {l:PySem.W.OpenLaw}{q:Program}{loose:List Str}{XP:(Str→Option Value)→Heap→Prop}{YP:World→Heap→Prop}{d:DefRec}{K:Params→PySem.W.Frag}(hn:l.most=some 63) (hdf:d.params.defaults=[])
  (hY:∀(w:World) (h:Heap),YP w h→(K w.params).In h)
  (F:∀(w:World) (mg:Str→Option Value) (fa:Addr) (h:Heap),(K w.params).In h→h.Ns mainGlobals mg→mg d.name=some (.ref fa)→
   ∃fd:FuncData,(∀(s:Shared) (u:Value),BindsTo s fd ⟨[u],[]⟩ [("_law_script",u)])∧∀base:Heap,(K w.params).In base→base.Ns mainGlobals mg→aX l.prog w (K w.params) mg base eO 21 fa fd ["_law_script"] (spT (K w.params) 1 (BU 63))):
  PySem.W.WalkO q loose XP YP l.row.toRowW d [] (fun f vs=>PySem.call f vs):=
 L2.Ip (n:=63) (k:=21) (x:="_law_script") (CX:=fun _=>eO) (sp:=fun w=>spT (K w.params) 1 (BU 63)) hn (by decide) hdf ⟨rfl,by decide,by decide,rfl⟩ hY F (fun w H a ns hl hO hS=>LS hl hO hS) fun _ _ _ _ _ z=>z
end K10
open PySem PySem.W PyProof.Rows
noncomputable def PySem.W.Fast.tw9198051565245450710:Nat→Stmt:=K10.top
theorem PySem.W.Fast.te9198051565245450710:K10.top=PySem.W.Fast.tw9198051565245450710:=rfl
def K10.sc:Scope:=PySem.Challenge.pw_surewatch_k10_sayings_written_and_read.main.scope
noncomputable def PySem.W.Fast.tw540559755130733410:Scope:=K10.sc
theorem PySem.W.Fast.te540559755130733410:K10.sc=PySem.W.Fast.tw540559755130733410:=rfl
def K10.pw:Program:={main:={body:=[K10.top 0,K10.top 1,K10.top 2,K10.top 3,K10.top 4,K10.top 5,K10.top 6,K10.top 7,K10.top 8,K10.top 9,K10.top 10,K10.top 11,K10.top 12,K10.top 13,K10.top 14,K10.top 15,K10.top 16,K10.top 17,K10.top 18,K10.top 19,K10.top 20,K10.top 21,K10.top 22,K10.top 23,K10.top 24,K10.top 25,K10.top 26,K10.top 27,K10.top 28,K10.top 29,K10.top 30,K10.top 31,K10.top 32,K10.top 33,K10.top 34,K10.top 35,K10.top 36],scope:=K10.sc,futureAnnotations:=false,file:="/claim/cut.py",more:=[]},modules:=[],parses:=[],absent:=[],harvested:=[],given:={argv:=[],stdin:=[],environ:=some [([76,67,95,65,76,76],[67,46,85,84,70,45,56])]}}
def K10.rw:OpenLaw:={prog:=K10.pw,name:=(PySem.Str.ofString "law"),about:=[(PySem.Str.ofString "shown")],foot:=10,most:=some 63,bound:=none,writes:=false}
noncomputable def PySem.W.Fast.tw6473565357117511464:=0
noncomputable def PySem.W.Fast.tw3973406772168452727:=0
noncomputable def PySem.W.Fast.tw5383168015402263834:=0
noncomputable def PySem.W.Fast.tw10630457555307432457:=0
noncomputable def PySem.W.Fast.tw3763598954236932883:=0
noncomputable def PySem.W.Fast.tw12663245010679750468:=0
noncomputable def PySem.W.Fast.tw5266327318601012284:=0
noncomputable def PySem.W.Fast.tw3885450658202327048:=0
noncomputable def PySem.W.Fast.tw7114872760111998461:=0
noncomputable def PySem.W.Fast.tw8863890476558464314:=0
noncomputable def PySem.W.Fast.tw1875784917541305173:=0
noncomputable def PySem.W.Fast.tw2812356307515084061:=0
noncomputable def PySem.W.Fast.tw8712604015397600661:=0
noncomputable def PySem.W.Fast.tw11061759544645792788:=0
noncomputable def PySem.W.Fast.tw4771063831598522978:=0
noncomputable def PySem.W.Fast.tw12518554455985760244:=0
noncomputable def PySem.W.Fast.tw4005188545803404751:=0
noncomputable def PySem.W.Fast.tw13563590966625907420:=0
noncomputable def PySem.W.Fast.tw7698613305910006290:=0
noncomputable def PySem.W.Fast.tw2029932016786452870:=0
noncomputable def PySem.W.Fast.tw7337401113276849667:=0
noncomputable def PySem.W.Fast.tw15893326634875054259:=0
noncomputable def PySem.W.Fast.tw4613238160109908396:=0
noncomputable def PySem.W.Fast.tw14942881056789472676:=0
noncomputable def PySem.W.Fast.tw11396126208487579330:=0
noncomputable def PySem.W.Fast.tw16755148261315532096:=0
noncomputable def PySem.W.Fast.tw12947992064613885128:=0
noncomputable def PySem.W.Fast.tw7187685724204719469:=0
noncomputable def PySem.W.Fast.tw1840838186267222869:=0
noncomputable def PySem.W.Fast.tw389222485399728124:=0
noncomputable def PySem.W.Fast.tw1090176138848754850:=0
noncomputable def PySem.W.Fast.tw7755259145231806459:=0
noncomputable def PySem.W.Fast.tw10118523934418642307:=0
noncomputable def PySem.W.Fast.tw519334011118839699:=0
noncomputable def PySem.W.Fast.tw6443787654140372203:=0
noncomputable def PySem.W.Fast.tw14403406888849876606:=0
noncomputable def PySem.W.Fast.tw6882254667379394475:=0
noncomputable def PySem.W.Fast.tw18312824037525079753:=0
noncomputable def PySem.W.Fast.tw14484869967050643744:=0
noncomputable def PySem.W.Fast.tw18087521513696049726:=0
noncomputable def PySem.W.Fast.tw7707868728991972736:=0
noncomputable def PySem.W.Fast.tw2360432145573065455:=0
noncomputable def PySem.W.Fast.tw4434328232126055169:=0
noncomputable def PySem.W.Fast.tw8993095807659930410:=0
noncomputable def PySem.W.Fast.tw97175211643948316:=0
noncomputable def PySem.W.Fast.tw4813278007257278143:=0
noncomputable def PySem.W.Fast.tw8655967392394752383:=0
noncomputable def PySem.W.Fast.tw248819640859618357:=0
noncomputable def PySem.W.Fast.tw1267537923995657545:=0
noncomputable def PySem.W.Fast.tw10791289368612010715:=0
set_option maxRecDepth 100000 in
set_option maxHeartbeats 0 in
theorem K10.holds:K10.rw.Holds:=by
 w_on;o_law;k_head;(case hw=>w_witness2)
 k_fill
 refine K10.walk (l:=K10.rw) rfl rfl (fun w h Y=>PySem.W.kIn_of Y) ?F
 case F=>
  intro w mg fa h KX G hmg
  refine' K10.all_mk KX G hmg ?a1 ?l1 ?c1 ?k1 ?a2 ?l2 ?c2 ?k2 ?a3 ?l3 ?c3 ?k3 ?a4 ?l4 ?c4 ?k4 ?a5 ?l5 ?c5 ?k5 ?a6 ?l6 ?c6 ?k6 ?a7 ?l7 ?c7 ?k7 ?l8 ?c8 ?k8 ?l9 ?c9 ?k9 ?Yj ?Yk ?Sj ?Yl ?Ym ?Sk ?Yn ?c12 ?Ll ?Yo ?Yp ?Sl ?Yq ?Yr ?So ?Ys ?Yt ?Su ?Yu ?Yv ?Sv ?a17 ?Yw ?Yx ?Sx ?a18 ?Yy ?Yz ?Sz ?a19 ?YA ?YB ?M3 ?a20 ?YC ?YD ?SA ?a21 ?YE ?YF ?SD ?a22 ?YG ?YH ?SE ?a23 ?YI ?YJ ?NH ?a24 ?YK ?YL ?SG ?a25 ?YM ?YN ?SH ?a26 ?YO ?YQ ?QW ?a27 ?YR ?YS ?YT ?vM ?vN ?vO ?vP ?gX ?jQ ?ig ?ir ?ao ?vQ ?vR ?x8 ?y8 ?x9 ?y9 ?YU ?YV ?YW ?YX ?YY ?YZ ?Y0 ?Y3 ?Y4 ?Y5 ?Y6 ?Y7 ?Y8 ?Y9 ?lA ?vU ?vV ?vW ?vX ?vY ?zB ?zC ?zD ?zE ?vZ ?v5 ?v7 ?v8 ?lB ?mK ?lC ?v9 ?wc ?we ?wg ?jA ?nY ?M4 ?M5 ?M6 ?Cq ?M7 ?Hu
  (case ao=>k_is)
  (case x8=>k_is)
  (case x9=>k_is)
  (case YU=>k_is)
  (case YW=>k_is)
  (case YY=>k_is)
  (case Y0=>k_is)
  (case Y4=>k_is)
  (case Y6=>k_is)
  (case Y8=>k_is)
  (case a1=>k_is);(case l1=>k_is);(case c1=>k_is);(case k1=>k_is)
  (case a2=>k_is);(case l2=>k_is);(case c2=>k_is);(case k2=>k_is)
  (case a3=>k_is);(case l3=>k_is);(case c3=>k_is);(case k3=>k_is)
  (case a4=>k_is);(case l4=>k_is);(case c4=>k_is);(case k4=>k_is)
  (case a5=>k_is);(case l5=>k_is);(case c5=>k_is);(case k5=>k_is)
  (case a6=>k_is);(case l6=>k_is);(case c6=>k_is);(case k6=>k_is)
  (case a7=>k_is);(case l7=>k_is);(case c7=>k_is);(case k7=>k_is)
  (case l8=>k_is);(case c8=>k_is);(case k8=>k_is)
  (case l9=>k_is);(case c9=>k_is);(case k9=>k_is)
  (case Yj=>k_is);(case Yk=>k_is);(case Sj=>k_is)
  (case Yl=>k_is);(case Ym=>k_is);(case Sk=>k_is)
  (case Yn=>k_is);(case c12=>k_is);(case Ll=>k_is)
  (case Yo=>k_is);(case Yp=>k_is);(case Sl=>k_is)
  (case Yq=>k_is);(case Yr=>k_is);(case So=>k_is)
  (case Ys=>k_is);(case Yt=>k_is);(case Su=>k_is)
  (case Yu=>k_is);(case Yv=>k_is);(case Sv=>k_is)
  (case a17=>k_is);(case Yw=>k_is);(case Yx=>k_is);(case Sx=>k_is)
  (case a18=>k_is);(case Yy=>k_is);(case Yz=>k_is);(case Sz=>k_is)
  (case a19=>k_is);(case YA=>k_is);(case YB=>k_is);(case M3=>k_is)
  (case a20=>k_is);(case YC=>k_is);(case YD=>k_is);(case SA=>k_is)
  (case a21=>k_is);(case YE=>k_is);(case YF=>k_is);(case SD=>k_is)
  (case a22=>k_is);(case YG=>k_is);(case YH=>k_is);(case SE=>k_is)
  (case a23=>k_is);(case YI=>k_is);(case YJ=>k_is);(case NH=>k_is)
  (case a24=>k_is);(case YK=>k_is);(case YL=>k_is);(case SG=>k_is)
  (case a25=>k_is);(case YM=>k_is);(case YN=>k_is);(case SH=>k_is)
  (case a26=>k_is);(case YO=>k_is);(case YQ=>k_is);(case QW=>k_is)
  (case a27=>k_is);(case YR=>k_is);(case YS=>k_is);(case YT=>k_is)
  (case vM=>k_is);(case vN=>k_is);(case vO=>k_is);(case vP=>k_is);(case gX=>k_is);(case jQ=>k_is);(case ig=>k_is);(case ir=>k_is);(case vQ=>k_is);(case vR=>k_is)
  (case y8=>k_is)
  (case y9=>k_is)
  (case YV=>k_is)
  (case YX=>k_is)
  (case YZ=>k_is)
  (case Y3=>k_is)
  (case Y5=>k_is)
  (case Y7=>k_is)
  (case Y9=>k_is)
  (case lA=>k_is)
  (case vU=>k_is)
  (case vV=>k_is)
  (case vW=>k_is);(case vX=>decide);(case vY=>exact⟨⟨rfl,⟨_,rfl⟩,_,rfl⟩,⟨⟨rfl,⟨_,rfl⟩,_,rfl⟩,⟨⟨rfl,⟨_,rfl⟩,_,rfl⟩,⟨⟨rfl,⟨_,rfl⟩,_,rfl⟩,⟨⟨rfl,⟨_,rfl⟩,_,rfl⟩,⟨⟨rfl,⟨_,rfl⟩,_,rfl⟩,⟨⟨rfl,⟨_,rfl⟩,_,rfl⟩,⟨⟨rfl,⟨_,rfl⟩,_,rfl⟩,⟨⟨rfl,⟨_,rfl⟩,_,rfl⟩,⟨⟨rfl,⟨_,rfl⟩,_,rfl⟩,⟨⟨rfl,⟨_,rfl⟩,_,rfl⟩,⟨⟨rfl,⟨_,rfl⟩,_,rfl⟩,⟨⟨rfl,⟨_,rfl⟩,_,rfl⟩,True.intro⟩⟩⟩⟩⟩⟩⟩⟩⟩⟩⟩⟩⟩)
  (case zB=>k_is)
  (case zC=>k_is);(case zD=>decide);(case zE=>exact⟨⟨rfl,⟨_,rfl⟩,_,rfl⟩,⟨⟨rfl,⟨_,rfl⟩,_,rfl⟩,⟨⟨rfl,⟨_,rfl⟩,_,rfl⟩,⟨⟨rfl,⟨_,rfl⟩,_,rfl⟩,⟨⟨rfl,⟨_,rfl⟩,_,rfl⟩,⟨⟨rfl,⟨_,rfl⟩,_,rfl⟩,⟨⟨rfl,⟨_,rfl⟩,_,rfl⟩,⟨⟨rfl,⟨_,rfl⟩,_,rfl⟩,⟨⟨rfl,⟨_,rfl⟩,_,rfl⟩,⟨⟨rfl,⟨_,rfl⟩,_,rfl⟩,⟨⟨rfl,⟨_,rfl⟩,_,rfl⟩,⟨⟨rfl,⟨_,rfl⟩,_,rfl⟩,⟨⟨rfl,⟨_,rfl⟩,_,rfl⟩,True.intro⟩⟩⟩⟩⟩⟩⟩⟩⟩⟩⟩⟩⟩)
  (case vZ=>k_is)
  (case v5=>k_is);(case v7=>decide);(case v8=>exact⟨⟨_,rfl⟩,⟨⟨_,rfl⟩,True.intro⟩⟩)
  (case lB=>k_is)
  (case mK=>k_is)
  (case lC=>k_is)
  (case v9=>k_is)
  (case wc=>k_is);(case we=>decide);(case wg=>exact⟨⟨rfl,⟨_,rfl⟩,_,rfl⟩,⟨⟨rfl,⟨_,rfl⟩,_,rfl⟩,⟨⟨rfl,⟨_,rfl⟩,_,rfl⟩,⟨⟨rfl,⟨_,rfl⟩,_,rfl⟩,⟨⟨rfl,⟨_,rfl⟩,_,rfl⟩,⟨⟨rfl,⟨_,rfl⟩,_,rfl⟩,⟨⟨rfl,⟨_,rfl⟩,_,rfl⟩,⟨⟨rfl,⟨_,rfl⟩,_,rfl⟩,⟨⟨rfl,⟨_,rfl⟩,_,rfl⟩,⟨⟨rfl,⟨_,rfl⟩,_,rfl⟩,True.intro⟩⟩⟩⟩⟩⟩⟩⟩⟩⟩)
  (case jA=>k_is)
  (case nY=>k_is);(case M4=>k_is);(case M5=>k_is);(case M6=>k_is);(case Cq=>k_is);(case M7=>k_is);(case Hu=>k_is)
theorem PySem.Challenge.cw_surewatch_k10_sayings_written_and_read_holds : PySem.Challenge.rw_surewatch_k10_sayings_written_and_read.Holds :=
 K10.holds
