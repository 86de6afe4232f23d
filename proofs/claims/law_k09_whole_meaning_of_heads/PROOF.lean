import PyProof.Rows.All
import Wide.All
import OpenK.AllK
import Wide.FinOn
import PyProof.EqAt
import PyProof.EqKinds
import PyProof.TupleCall
import Lean
import PySem.Challenge.RW_surewatch_k09_whole_meaning_of_heads
set_option Elab.async false
set_option linter.all false
set_option maxRecDepth 100000
section
section
namespace L2
open PySem PySem.Spec PyProof.Rows
inductive D where
 | dR | bl (b:Bool) | int (i:Int) | str (z:Str) | tup (ds:List D) | lst (ds:List D)
mutual
noncomputable def D.same:D->D->Bool
 | .dR,.dR=>true
 | .bl a,.bl b=>a == b
 | .int a,.int b=>a == b
 | .str a,.str b=>decide (a=b)
 | .tup a,.tup b=>D.q9 a b
 | .lst a,.lst b=>D.q9 a b
 | _,_=>false
noncomputable def D.q9:List D->List D->Bool
 | [],[]=>true
 | a :: as,b :: bs=>D.same a b && D.q9 as bs
 | _,_=>false
end
mutual
theorem D.same_refl:∀a:D,D.same a a=true
 | .dR=>rfl
 | .bl _=>by simp[D.same]
 | .int _=>by simp[D.same]
 | .str _=>by simp[D.same]
 | .tup a=>by unfold D.same;exact D.qF a
 | .lst a=>by unfold D.same;exact D.qF a
theorem D.qF:∀a:List D,D.q9 a a=true
 | []=>rfl
 | a :: as=>by unfold D.q9;rw[D.same_refl a,D.qF as];rfl
end
mutual
theorem D.same_eq:∀{a b:D},D.same a b=true->a=b
 | .dR,b,h=>by cases b <;> simp[D.same] at h ⊢
 | .bl _,b,h=>by cases b <;> simp[D.same] at h ⊢;exact h
 | .int _,b,h=>by cases b <;> simp[D.same] at h ⊢;exact h
 | .str _,b,h=>by cases b <;> simp[D.same] at h ⊢;exact h
 | .tup a,b,h=>by
  cases b with
  | tup b=>unfold D.same at h;rw[D.vj h]
  | _=>simp[D.same] at h
 | .lst a,b,h=>by
  cases b with
  | lst b=>unfold D.same at h;rw[D.vj h]
  | _=>simp[D.same] at h
theorem D.vj:∀{a b:List D},D.q9 a b=true->a=b
  | [],b,h=>by cases b <;> simp[D.q9] at h ⊢
  | a :: as, b, h => by
    cases b with
    | nil=>simp[D.q9] at h
    | cons b bs=>
      unfold D.q9 at h
      rw[Bool.and_eq_true] at h
      rw[D.same_eq h.1,D.vj h.2]
end
noncomputable instance:DecidableEq D:=fun a b=>if h:D.same a b=true then isTrue (D.same_eq h) else isFalse fun e=>h (e▸D.same_refl a)
noncomputable def gM:Nat->D->Bool
 | _,.int _=>true
 | _,.str _=>true
 | n+1,.tup ds=>ds.all (gM n)
 | _,_=>false
mutual
inductive xh (h:Heap):Value->D->Prop
 | int (i:Int) (t:Tok):xh h (.int i t) (.int i)
 | str (x:Str) (t:Tok):xh h (.str x t) (.str x)
 | tup {a:Addr}{its:List Value}{ds:List D}(p:h.IsTuple a its.toArray) (r:lO h its ds):xh h (.ref a) (.tup ds)
inductive lO (h:Heap):List Value->List D->Prop
 | nil:lO h [] []
 | cons {u:Value}{d:D}{us:List Value}{ds:List D}(r:xh h u d) (rs:lO h us ds):lO h (u :: us) (d :: ds)
end
mutual
noncomputable def Gr (w:World):D->Int
 | .int i=>hashInt i
 | .str x=>hashStr w x
 | .tup ds=>reduceHash (Builtin.Tuple.tupleHashOf (qG w ds))
 | _=>0
noncomputable def qG (w:World):List D->List Int
 | []=>[]
 | d :: ds=>Gr w d :: qG w ds
end
mutual
noncomputable def yT:D->Nat
 | .tup ds=>uZ ds+1
 | _=>1
noncomputable def uZ:List D->Nat
 | []=>0
 | d :: ds=>yT d+uZ ds
end
theorem lO.length {h:Heap}:∀{us:List Value}{ds:List D},lO h us ds->us.length=ds.length
 | _,_,.nil=>rfl
 | _,_,.cons _ rs=>congrArg Nat.succ (lO.length rs)
mutual
theorem xh.inj {h:Heap}:∀{v:Value}{d e:D},xh h v d->xh h v e->d=e
 | _,_,_,.int i t,r=>by cases r;rfl
 | _,_,_,.str x t,r=>by cases r;rfl
 | _,_,_,@xh.tup _ a its ds p r,q=>by
  cases q with
  | @tup _ its' ds' p' r'=>
   obtain⟨o,h1,_,n,h2⟩:=p
   obtain⟨o',h1',_,n',h2'⟩:=p'
   rw[h1] at h1'
   cases h1'
   rw[h2] at h2'
   injection h2' with e1 _
   have e:its=its':=by simpa using congrArg Array.toList e1
   subst e
   rw[lO.inj r r']
theorem lO.inj {h:Heap}:∀{vs:List Value}{ds es:List D},lO h vs ds->lO h vs es->ds=es
 | _,_,_,.nil,r=>by cases r;rfl
 | _,_,_,.cons r1 s1,r=>by
  cases r with
  | cons r2 s2=>rw[xh.inj r1 r2,lO.inj s1 s2]
end
mutual
theorem xh.keeps {h h':Heap}{d:Addr}{o:Obj}{es:Array DictEntry}{ep:Nat}(ho:h.get? d=some o) (hd:o.data= .dict es ep) (hs:Heap.SameBut d h h'):∀{v:Value}{k:D},xh h v k->xh h' v k
 | _,_,.int i t=>.int i t
 | _,_,.str x t=>.str x t
 | _,_,@xh.tup _ a its ds p r=>by
  obtain⟨o',h1,h2,n,h3⟩:=p
  have hne:a≠d:=by
   intro z
   subst z
   rw[ho] at h1
   cases h1
   rw[hd] at h3
   cases h3
  exact .tup ⟨o',(hs.2 a hne).trans h1,h2,n,h3⟩ (lO.keeps ho hd hs r)
theorem lO.keeps {h h':Heap}{d:Addr}{o:Obj}{es:Array DictEntry}{ep:Nat}(ho:h.get? d=some o) (hd:o.data= .dict es ep) (hs:Heap.SameBut d h h'):∀{v:List Value}{k:List D},lO h v k->lO h' v k
 | _,_,.nil=>.nil
 | _,_,.cons r1 s1=>.cons (xh.keeps ho hd hs r1) (lO.keeps ho hd hs s1)
end
section
variable {prog:Program}{w:World}{E:Value->Shared->Prop}
mutual
theorem Am : ∀ (d : D) {n : Nat} {v : Value} {A : Around} {s : Shared} {Q : Int -> Shared -> Prop}, xh s.heap v d -> gM n d = true -> A.units + n < cLine -> Q (Gr w d) { s with toks := s.toks + yT d } -> wpAny (model prog w) A (pyHash v) Q E s
  | .int i,n,v,A,s,Q,x,_,_,h=>by cases x;exact wpAny_pyHash_int h
  | .str y,n,v,A,s,Q,x,_,_,h=>by cases x;exact wpAny_pyHash_str h
  | .dR,n,v,A,s,Q,x,_,_,h=>by cases x
  | .bl _,n,v,A,s,Q,x,_,_,h=>by cases x
  | .lst _,n,v,A,s,Q,x,_,_,h=>by cases x
  | .tup ds,n,v,A,s,Q,x,hk,hu,h=>by
    cases n with
    | zero=>simp[gM] at hk
    | succ n=>
      cases x with
      | @tup a its _ p r=>
        obtain⟨o,hg,hc,m,hd⟩:=p
        refine PySem.W.pyHash_slot (T:="tuple") ⟨_,hg,hc⟩ F.slot_tuple_hash F.entry_tuple_hash (F.args_tuple_hash_1 _) (beq_builtin_none _) (.inr (by omega)) ?_
        show wpAny _ _ (Builtin.Tuple.tupleItemsOf (.ref a) >>= _) _ _ s
        refine wpAny_bind (wpAny_tupleItemsOf hg hd ?_)
        refine wpAny_bind ?_
        rw[<-Array.forIn_toList]
        refine xR ds (n:=n) (A:=A.in1) (b:=#[]) r hk (by rw[Around.in1_units];omega) fun b hb=>?_
        show wpAny _ _ (retInt (Builtin.Tuple.tupleHashOf b.toList)) _ _ _
        rw[hb]
        refine wpAny_bind (wpAny_mkInt (wpAny_pure ⟨_,_,rfl,?_⟩))
        have e:(#[]:Array Int).toList++qG w ds=qG w ds:=by simp
        rw[e]
        exact h
theorem xR:∀(ds:List D){n:Nat}{vs:List Value}{A:Around}{s:Shared}{b:Array Int}{Q:Array Int->Shared->Prop},lO s.heap vs ds->ds.all (gM n)=true->A.units+n < cLine->
    (∀b',b'.toList=b.toList++qG w ds->Q b' {s with toks:=s.toks+uZ ds})->
    wpAny (model prog w) A (forIn vs b fun x r=>do let h <-pyHash x;pure PUnit.unit;pure (ForInStep.yield (r.push h))) Q E s
  | [],n,_,A,s,b,Q,x,_,_,h=>by cases x;exact wpAny_pure (h b (by simp[qG]))
  | d :: ds, n, _, A, s, b, Q, x, hk, hu, h => by
    cases x with
    | cons x1 x2=>
      rw[List.all_cons,Bool.and_eq_true] at hk
      rw[List.forIn_cons]
      refine wpAny_bind (wpAny_bind (Am d (n:=n) x1 hk.1 hu ?_))
      refine wpAny_bind (wpAny_pure (wpAny_pure ?_))
      refine xR ds (n:=n) x2 hk.2 hu fun b' hb=>?_
      have q:=h b' (by simp[hb,qG])
      show Q b' {s with toks:=s.toks+yT d+uZ ds}
      rw[Nat.add_assoc]
      exact q
end
end
theorem yU (n:Nat) (f:Nat->Bool):(List.range (n+1)).all f=(f 0 && (List.range n).all fun j=>f (j+1)):=by
 rw[List.range_succ_eq_map,List.all_cons,List.all_map];rfl
theorem An:∀ds es:List D,((List.range (min ds.length es.length)).all (fun j=>decide (ds[j]? =es[j]?)) && ds.length == es.length)=decide (ds=es)
  | [],[]=>by simp
  | [],e :: es=>by simp
  | d :: ds,[]=>by simp
  | d :: ds, e :: es => by
    have ih:=An ds es
    have e1:min (d :: ds).length (e :: es).length=min ds.length es.length+1:=by simp only[List.length_cons];omega
    rw[e1,yU]
    have e2:(fun j=>decide ((d :: ds)[j+1]? =(e :: es)[j+1]?))=fun j=>decide (ds[j]? =es[j]?):=by funext j;simp
    have e3:((d :: ds).length == (e :: es).length)=(ds.length == es.length):=by simp
    have e4:decide ((d :: ds)[0]? =(e :: es)[0]?)=decide (d=e):=by simp
    have e5:decide (d :: ds=e :: es)=(decide (d=e) && decide (ds=es)):=by
      by_cases a:d=e
      . subst a;by_cases b:ds=es <;> simp[b]
      . simp[a]
    rw[e2,e3,e4,Bool.and_assoc,ih,e5]
theorem Gs {α:Type}(l:List α) (j:Nat) (h:j < l.toArray.size):l[j]? =some l.toArray[j]:=by
 have z:j < l.length:=by simpa using h
 simp[z]
mutual
theorem eqK : ∀ (d : D) {e : D} {n : Nat} {A : Around} {s : Shared} {u v : Value}, xh s.heap u d -> xh s.heap v e -> gM n d = true -> A.units + n < cLine -> SeqAt.EqAt A s u v (decide (d = e))
  | .int i, e, n, A, s, u, v, r1, r2, _, hu => by
    cases r1 with
    | int _ t=>
    cases r2 with
    | int j t' => have : decide (D.int i = D.int j) = (i == j) := by by_cases z : i = j <;> simp [z]
                  rw[this];exact SeqAt.EqAt.int_int i t j t'
    | str x t'=>exact SeqAt.EqAt.int_str i t x t'
    | tup p r=>exact SeqAt.EqAt.int_tuple i t p (by omega)
  | .str i, e, n, A, s, u, v, r1, r2, _, hu => by
    cases r1 with
    | str _ t=>
    cases r2 with
    | int j t'=>exact SeqAt.EqAt.str_int i t j t'
    | str x t' => have : decide (D.str i = D.str x) = (i == x) := by by_cases z : i = x <;> simp [z]
                  rw[this];exact SeqAt.EqAt.str_str i t x t'
    | tup p r=>exact SeqAt.EqAt.str_tuple i t p (by omega)
  | .dR,e,n,A,s,u,v,r1,r2,hk,hu=>by cases r1
  | .bl _,e,n,A,s,u,v,r1,r2,hk,hu=>by cases r1
  | .lst _,e,n,A,s,u,v,r1,r2,hk,hu=>by cases r1
  | .tup ds,e,n,A,s,u,v,r1,r2,hk,hu=>by
    cases n with
    | zero=>simp[gM] at hk
    | succ n=>
    cases r1 with
    | @tup ca gU _ pa ra=>
    cases r2 with
    | int j t'=>exact SeqAt.EqAt.tuple_int j t' pa (by omega)
    | str x t'=>exact SeqAt.EqAt.tuple_str x t' pa (by omega)
    | @tup cb cE es pb rb=>
      have items:∀j (h1:j < gU.toArray.size) (h2:j < cE.toArray.size),SeqAt.EqAt A.in1 s gU.toArray[j] cE.toArray[j] (decide (ds[j]? =es[j]?)):=fun j h1 h2=>
        Rl ds (n:=n) (A:=A.in1) ra rb hk (by rw[Around.in1_units];omega) (Gs gU j h1) (Gs cE j h2)
      by_cases hc:ca=cb
      . subst hc
        have z:=xh.inj (.tup pa ra) (.tup pb rb)
        rw[z,decide_eq_true rfl]
        exact SeqAt.EqAt.same _
      . have q:=SeqAt.RcAt.tuples (e:=fun j=>decide (ds[j]? =es[j]?)) pa pb (by omega) items
        rw[List.size_toArray,List.size_toArray,ra.length,rb.length,An] at q
        have z:decide (D.tup ds=D.tup es)=decide (ds=es):=by by_cases a:ds=es <;> simp[a]
        rw[z]
        exact SeqAt.EqAt.of_refs hc q
theorem Rl : ∀ (ds : List D) {es : List D} {n : Nat} {A : Around} {s : Shared} {us vs : List Value} {j : Nat} {u v : Value}, lO s.heap us ds -> lO s.heap vs es -> ds.all (gM n) = true -> A.units + n < cLine -> us[j]? = some u -> vs[j]? = some v ->
    SeqAt.EqAt A s u v (decide (ds[j]? =es[j]?))
  | [],es,n,A,s,us,vs,j,u,v,r1,r2,hk,hu,h1,h2=>by cases r1;simp at h1
  | d :: ds, es, n, A, s, us, vs, j, u, v, r1, r2, hk, hu, h1, h2 => by
    rw[List.all_cons,Bool.and_eq_true] at hk
    cases r1 with
    | cons a as=>
    cases r2 with
    | nil=>simp at h2
    | @cons v' e' vs' es' b bs=>
      cases j with
      | zero=>
        simp only[List.getElem?_cons_zero,Option.some.injEq] at h1 h2
        subst h1
        subst h2
        have z:decide ((d :: ds)[0]? =(e' :: es')[0]?)=decide (d=e'):=by simp
        rw[z]
        exact eqK d a b hk.1 hu
      | succ j=>
        have z:decide ((d :: ds)[j+1]? =(e' :: es')[j+1]?)=decide (ds[j]? =es'[j]?):=by simp
        rw[z]
        exact Rl ds as bs hk.2 hu (by simpa using h1) (by simpa using h2)
end
section
variable {prog:Program}{w:World}{A:Around}{E:Value->Shared->Prop}{s:Shared}
mutual
theorem Gu : ∀ (d : D) {n : Nat} {v : Value} {Q : Bool -> Shared -> Prop}, xh s.heap v d -> gM n d = true -> Q true s -> wpAny (model prog w) A (eqIsQuiet n v) Q E s
  | .int i,n,v,Q,x,_,h=>by cases x;rw[eqIsQuiet_byValue n rfl];exact wpAny_pure h
  | .str y,n,v,Q,x,_,h=>by cases x;rw[eqIsQuiet_byValue n rfl];exact wpAny_pure h
  | .dR,n,v,Q,x,_,h=>by cases x
  | .bl _,n,v,Q,x,_,h=>by cases x
  | .lst _,n,v,Q,x,_,h=>by cases x
  | .tup ds,n,v,Q,x,hk,h=>by
    cases n with
    | zero=>simp[gM] at hk
    | succ n=>
      cases x with
      | @tup a its _ p r=>
        obtain⟨o,hg,hc,m,hd⟩:=p
        have hT:s.TypeIs (.ref a) "tuple":=⟨o,hg,hc⟩
        unfold eqIsQuiet
        refine wpAny_bind (wpAny_specialOf hT F.slot_tuple_eq.lookup ?_)
        show wpAny _ _ (isInstance (.ref a) (.type "tuple") >>= _) _ _ s
        refine wpAny_bind (wpAny_isInstance hT isSubtype_tuple_tuple ?_)
        simp only[Bool.not_true,Bool.false_eq_true,if_false]
        refine wpAny_bind (wpAny_seqItems hg hd ?_)
        refine wpAny_bind ?_
        show wpAny _ _ (forIn its.toArray _ _) _ _ s
        rw[<-Array.forIn_toList]
        exact xS ds r hk (wpAny_pure h)
theorem xS:∀(ds:List D){n:Nat}{vs:List Value}{Q:Option Bool×Unit->Shared->Prop},lO s.heap vs ds->ds.all (gM n)=true->Q (none,()) s->
    wpAny (model prog w) A (forIn vs ((none,()):Option Bool×Unit) fun y __s=>do
      let __do_lift <-eqIsQuiet n y
      if(!__do_lift)=true then pure (ForInStep.done (some false,())) else pure (ForInStep.yield (none,()))) Q E s
  | [],n,_,Q,x,_,h=>by cases x;exact wpAny_pure h
  | d :: ds, n, _, Q, x, hk, h => by
    cases x with
    | cons x1 x2=>
      rw[List.all_cons,Bool.and_eq_true] at hk
      rw[List.forIn_cons]
      refine wpAny_bind (wpAny_bind (Gu d x1 hk.1 ?_))
      simp only[Bool.not_true,Bool.false_eq_true,if_false]
      refine wpAny_pure ?_
      exact xS ds x2 hk.2 h
end
end
noncomputable def mJ (prog:Program) (w:World):HeapKind prog w D where
 is:=fun h k a=>xh h (.ref a) k/\gM 8 k=true
 hash:=Gr w
 draws:=yT
 room:=fun A=>A.units+8 < cLine
 inj:=fun hx hy=>hx.1.inj hy.1
 keeps:=fun x ho hd hs=>⟨x.1.keeps ho hd hs,x.2⟩
 pyHash:=fun hu hk h=>Am _ hk.1 hk.2 hu h
 eqBool:=fun hu hx hy h=>eqK _ hx.1 hy.1 hx.2 hu _ _ _ _ h
 quiet:=fun hk h=>Gu _ hk.1 hk.2 h
theorem mz {prog:Program}{w:World}{A:Around}(hu:A.units+20 < cLine):(mJ prog w).room A.in1:=by
 show A.in1.units+8 < cLine
 rw[Around.in1_units]
 omega
end L2
end
namespace L2
open PySem PySem.Spec PyProof.Rows
noncomputable abbrev Key:=Sum Int Str
noncomputable def xT:Key->Value->Bool
 | .inl k,v=>Value.isInt k v
 | .inr x,v=>Value.isStrOf x v
noncomputable def Wg (w:World):Key->Int
 | .inl k=>hashInt k
 | .inr x=>hashStr w x
theorem fL:∀{k:Key}{v:Value},xT k v=true->(∃i t,k=Sum.inl i/\v=Value.int i t)\/(∃x t,k=Sum.inr x/\v=Value.str x t)
 | .inl i,v,h=>by
  obtain⟨t,e⟩:=Value.isInt_shape (k:=i) (v:=v) h
  exact .inl ⟨i,t,rfl,e⟩
 | .inr x,v,h=>by
  obtain⟨t,e⟩:=Value.isStrOf_shape (x:=x) (v:=v) h
  exact .inr ⟨x,t,rfl,e⟩
theorem Ei (i:Int) (t:Tok):xT (.inl i) (.int i t)=true:=by simp[xT,Value.isInt]
theorem Ej (x:Str) (t:Tok):xT (.inr x) (.str x t)=true:=by simp[xT,Value.isStrOf]
theorem NH (a b:Int):decide ((Sum.inl a:Key)=Sum.inl b)=(a == b):=by
 by_cases e:a=b
 ·subst e;simp
 ·have h:¬(Sum.inl a:Key)=Sum.inl b:=fun q=>e (Sum.inl.inj q)
  rw[decide_eq_false h]
  exact(beq_eq_false_iff_ne.mpr e).symm
theorem NI (a b:Str):decide ((Sum.inr a:Key)=Sum.inr b)=decide (a=b):=by
 by_cases e:a=b
 ·subst e;simp
 ·have h:¬(Sum.inr a:Key)=Sum.inr b:=fun q=>e (Sum.inr.inj q)
  rw[decide_eq_false h,decide_eq_false e]
theorem NJ (a:Int) (b:Str):decide ((Sum.inl a:Key)=Sum.inr b)=false:=decide_eq_false (fun q=>nomatch q)
theorem NK (a:Str) (b:Int):decide ((Sum.inr a:Key)=Sum.inl b)=false:=decide_eq_false (fun q=>nomatch q)
noncomputable def fM (prog:Program) (w:World):PySem.KeyKind prog w Key where
  is:=xT
  hash:=Wg w
  inj := fun v a b ha hb => by
    rcases fL ha with⟨i,t,rfl,rfl⟩ | ⟨x,t,rfl,rfl⟩
    . rcases fL hb with⟨j,u,rfl,e⟩ | ⟨y,u,rfl,e⟩
      . injection e with e1 _;rw[e1]
      . exact nomatch e
    . rcases fL hb with⟨j,u,rfl,e⟩ | ⟨y,u,rfl,e⟩
      . exact nomatch e
      . injection e with e1 _;rw[e1]
  byValue:=fun k v h=>by
    rcases fL h with⟨i,t,rfl,rfl⟩ | ⟨x,t,rfl,rfl⟩ <;> rfl
  pyHash:=fun hv h=>by
    rcases fL hv with⟨i,t,rfl,rfl⟩ | ⟨x,t,rfl,rfl⟩
    . exact wpAny_pyHash_int h
    . exact wpAny_pyHash_str h
  eqBool:=fun hu hv h=>by
    rcases fL hu with⟨i,t,rfl,rfl⟩ | ⟨x,t,rfl,rfl⟩
    . rcases fL hv with⟨j,u,rfl,rfl⟩ | ⟨y,u,rfl,rfl⟩
      . rw[NH] at h;exact wpAny_eqBool_int h
      . rw[NJ] at h;exact SeqAt.EqAt.int_str i t y u _ _ _ _ h
    . rcases fL hv with⟨j,u,rfl,rfl⟩ | ⟨y,u,rfl,rfl⟩
      . rw[NK] at h;exact SeqAt.EqAt.str_int x t j u _ _ _ _ h
      . rw[NI] at h;exact wpAny_eqBool_str h
  «strs»:=fun k x t v h=>by
    rcases fL h with⟨i,u,rfl,e⟩ | ⟨y,u,rfl,e⟩
    . exact nomatch e
    . injection e with e1 _
      subst e1
      cases v <;> rfl
theorem Ao (prog:Program) (w:World) (i:Int) (t:Tok):(fM prog w).is (.inl i) (.int i t)=true:=Ei i t
theorem nQ (prog:Program) (w:World) (x:Str) (t:Tok):(fM prog w).is (.inr x) (.str x t)=true:=Ej x t
inductive V where
 | dR | bl (b:Bool) | int (i:Int) | str (x:Str) | Wh (b:Array UInt8) | flt (b:UInt64) | ref (a:Addr) | ty (n:String)
 deriving DecidableEq
noncomputable def RelV:V->Value->Prop
 | .dR,u=>u=Value.none
 | .bl b,u=>u=Value.bool b
 | .int i,u=>∃t,u=Value.int i t
 | .str x,u=>∃t,u=Value.str x t
 | .Wh b,u=>∃t,u=Value.bytes b t
 | .flt b,u=>∃t,u=Value.float b t
 | .ref a,u=>u=Value.ref a
 | .ty n,u=>u=Value.type n
noncomputable abbrev Vals:List V->List Value->Prop:=Paired RelV
theorem Vals.length {xs:List V}{us:List Value}(r:Vals xs us):xs.length=us.length:=Paired.length r
theorem Vals.get:∀{xs:List V}{us:List Value}{i:Nat}{x:V},Vals xs us->xs[i]? =some x->∃u,us[i]? =some u/\RelV x u
 | _,_,_,_,.nil,e=>by simp at e
 | _,_,0,_,.cons r _,e=>by simp at e;subst e;exact⟨_,rfl,r⟩
 | _,_,i+1,x,.cons _ t,e=>by
  obtain⟨u,h1,h2⟩:=Vals.get (i:=i) (x:=x) t (by simpa using e)
  exact⟨u,by simpa using h1,h2⟩
theorem Vals.set {x:V}{u:Value}(r:RelV x u):∀{xs:List V}{us:List Value}(i:Nat),Vals xs us->Vals (xs.set i x) (us.set i u)
 | _,_,_,.nil=>.nil
 | _,_,0,.cons _ t=>.cons r t
 | _,_,i+1,.cons q t=>.cons q (Vals.set r i t)
theorem Vals.append:∀{xs ys:List V}{us ws:List Value},Vals xs us->Vals ys ws->Vals (xs++ys) (us++ws)
 | _,_,_,_,.nil,s=>s
 | _,_,_,_,.cons r t,s=>.cons r (Vals.append t s)
theorem Vals.take:∀{xs:List V}{us:List Value}(n:Nat),Vals xs us->Vals (xs.take n) (us.take n)
 | _,_,0,_=>.nil
 | _,_,_+1,.nil=>.nil
 | _,_,n+1,.cons r t=>.cons r (Vals.take n t)
theorem Vals.drop:∀{xs:List V}{us:List Value}(n:Nat),Vals xs us->Vals (xs.drop n) (us.drop n)
 | _,_,0,r=>r
 | _,_,_+1,.nil=>.nil
 | _,_,n+1,.cons _ t=>Vals.drop n t
noncomputable def xj:Option V->Option Value->Prop
 | some v,some u=>RelV v u
 | none,none=>True
 | _,_=>False
noncomputable def KV {κ:Type}:List (κ×V)->List (κ×Value)->Prop:=Paired fun(p:κ×V) (q:κ×Value)=>p.1=q.1/\RelV p.2 q.2
noncomputable def kV:Key->V
 | .inl i=>.int i
 | .inr x=>.str x
inductive HO where
 | lst (xs:List V)
 | tup (xs:List V)
 | dK (kvs:List (Key×V)) | dT (kvs:List (D×V))
 | set (S:Int->Bool) (n:Nat)
 | ins (C dx:Addr) (fs:List (Str×V))
 | own (x:Addr)
 | xd (fs:List (Str×V))
 | met (f x:Addr)
 | nK (lo hi:Int)
 | lN (o:Obj) (u:HO)
 | NL (ps:Array Value)
 | ext (φ:Heap->Prop)
noncomputable abbrev Hp:=Addr->Option HO
mutual
inductive Rep (H:Hp):V->D->Prop
 | dR:Rep H .dR .dR
 | bl (b:Bool):Rep H (.bl b) (.bl b)
 | int (i:Int):Rep H (.int i) (.int i)
 | str (z:Str):Rep H (.str z) (.str z)
 | tup {a:Addr}{vs:List V}{ds:List D}(e:H a=some (.tup vs)) (r:bN H vs ds):Rep H (.ref a) (.tup ds)
 | lst {a:Addr}{vs:List V}{ds:List D}(e:H a=some (.lst vs)) (r:bN H vs ds):Rep H (.ref a) (.lst ds)
inductive bN (H:Hp):List V->List D->Prop
 | nil:bN H [] []
 | cons {v:V}{d:D}{vs:List V}{ds:List D}(r:Rep H v d) (rs:bN H vs ds):bN H (v :: vs) (d :: ds)
end
mutual
theorem Rep.tups {H H':Hp}(ht:∀b xs,H b=some (.tup xs)->H' b=some (.tup xs)):∀(d:D){n:Nat}{v:V},Rep H v d->gM n d=true->Rep H' v d
 | .dR,n,_,_,k=>by simp[gM] at k
 | .bl _,n,_,_,k=>by simp[gM] at k
 | .lst _,n,_,_,k=>by simp[gM] at k
 | .int i,n,_,r,k=>by cases r;exact .int i
 | .str i,n,_,r,k=>by cases r;exact .str i
 | .tup ds,n,_,r,k=>by
  cases n with
  | zero=>simp[gM] at k
  | succ n=>
   cases r with
   | @tup a vs _ e rs=>exact .tup (ht _ _ e) (bN.tups ht ds rs k)
theorem bN.tups {H H':Hp}(ht:∀b xs,H b=some (.tup xs)->H' b=some (.tup xs)):∀(ds:List D){n:Nat}{vs:List V},bN H vs ds->ds.all (gM n)=true->bN H' vs ds
 | [],n,_,r,k=>by cases r;exact .nil
 | d :: ds,n,_,r,k=>by
  rw[List.all_cons,Bool.and_eq_true] at k
  cases r with
  | cons r1 r2=>exact .cons (Rep.tups ht d r1 k.1) (bN.tups ht ds r2 k.2)
end
noncomputable def Kd (H:Hp) (b:Addr) (k:D):Prop:=Rep H (.ref b) k/\gM 8 k=true
theorem Kd.tups {H H':Hp}{b:Addr}{k:D}(x:Kd H b k) (ht:∀b xs,H b=some (.tup xs)->H' b=some (.tup xs)):Kd H' b k:=⟨Rep.tups ht k x.1 x.2,x.2⟩
noncomputable def upd (H:Hp) (a:Addr) (o:HO):Hp:=fun b=>if b=a then some o else H b
theorem bx {H:Hp}{a:Addr}{o:HO}:upd H a o a=some o:=by unfold upd;rw[if_pos rfl]
theorem aY {H:Hp}{a b:Addr}{o:HO}(h:b≠a):upd H a o b=H b:=by unfold upd;rw[if_neg h]
theorem Rm {H:Hp}{a b:Addr}{o u:HO}(h:H a=some o) (h':H b=some u) (d:o≠u):a≠b:=by
 intro e;subst e;rw[h] at h';exact d (Option.some.inj h')
theorem bK {H:Hp}{a b:Addr}{o:HO}(h:H a=some o) (h':H b=none):a≠b:=by
 intro e;subst e;rw[h] at h';cases h'
section
variable (P:Program) (w:World)
noncomputable def fB (H:Hp) (h:Heap) (a:Addr):HO->Prop
 | .lst xs=>xs.length<=sizeLine/\∃(its:List Value) (n:Nat),Vals xs its/\h.get? a=some {cls:=.type "list",data:=.seq its.toArray n}
 | .tup xs=>xs.length<=sizeLine/\∃its:List Value,Vals xs its/\IsTup h a its.toArray
 | .dK kvs=>kvs.length<=sizeLine/\(a == sysModules)=false/\∃vs,KV kvs vs/\h.DictOf (fM P w) a vs
 | .dT kvs=>kvs.length<=sizeLine/\(a == sysModules)=false/\∃xs:List (D×Addr×Value),
   Paired (fun(p:D×V) (q:D×Addr×Value)=>p.1=q.1/\Kd H q.2.1 p.1/\RelV p.2 q.2.2) kvs xs/\
   ∃o es ep,h.get? a=some o/\o.ExactDict/\o.data= .dict es ep/\es.toList=xs.map (entryOfKey (mJ P w))/\(xs.map (·.1)).Nodup
 | .set S n=>h.SetOf (intKind P w) a S n
 | .ins C dx fs=>H dx=some (.own a)/\fs.length<=1000/\dx≠a/\h.get? a=some (PySem.W.instObj C dx)/\
   ∃mA,h.Ns1 dx mA/\(∀f,xj (fs.lookup f) (mA f))/\PySem.Within mA (fs.map (·.1))
 | .own _=>∃o,h.get? a=some o
 | .xd fs=>∃mA,h.Ns1 a mA/\∀f,xj (fs.lookup f) (mA f)
 | .nK lo hi=>∃t u v,h.get? a=some {cls:=.type "range",data:=.fields #[.int lo t,.int hi u,.int 1 v]}
 | .lN o u=>h.get? a=some o/\fB H h a u
 | .NL ps=>h.get? a=some {cls:=.none,data:=.fields ps}
 | .met f x=>h.get? a=some (PySem.W.methodObj (.ref f) (.ref x))
 | .ext φ=>φ h/\(∃o,h.get? a=some o)/\∀h1 h2:Heap,φ h1->(∀o,h1.get? a=some o->h2.get? a=some o)->φ h2
noncomputable def nO (H:Hp) (h:Heap):Prop:=∀a o,H a=some o->fB P w H h a o
end
section
variable {P:Program}{w:World}{H H':Hp}{h h':Heap}{a:Addr}{o:HO}
theorem fB.lt (x:fB P w H h a o):a < h.objs.size:=by
 cases o with
 | lst xs=>obtain⟨_,_,_,_,e⟩:=x;exact Heap.lt_size e
 | tup xs=>obtain⟨_,_,_,p⟩:=x;exact p.lt
 | dK kvs=>obtain⟨_,_,_,_,o,_,_,e,_⟩:=x;exact Heap.lt_size e
 | dT kvs=>obtain⟨_,_,_,_,o,_,_,e,_⟩:=x;exact Heap.lt_size e
 | set S n=>obtain⟨o,_,_,_,e,_⟩:=x;exact Heap.lt_size e
 | ins C dx fs=>obtain⟨_,_,_,e,_⟩:=x;exact Heap.lt_size e
 | own y=>obtain⟨_,e⟩:=x;exact Heap.lt_size e
 | xd fs=>obtain⟨_,⟨_,_,_,e,_⟩,_⟩:=x;exact Heap.lt_size e
 | nK lo hi=>obtain⟨_,_,_,e⟩:=x;exact Heap.lt_size e
 | lN ob u=>obtain⟨e,_⟩:=x;exact Heap.lt_size e
 | NL ps=>exact Heap.lt_size (show h.get? a=some _ from x)
 | met f y=>exact Heap.lt_size (show h.get? a=some _ from x)
 | ext φ=>obtain⟨_,⟨_,e⟩,_⟩:=x;exact Heap.lt_size e
theorem Paired.Ek {α β:Type}{F G:α->β->Prop}:∀{l₁:List α}{l₂:List β},Paired F l₁ l₂->(∀a b,F a b->G a b)->Paired G l₁ l₂
 | _,_,.nil,_=>.nil
 | _,_,.cons r t,f=>.cons (f _ _ r) (Paired.Ek t f)
theorem fB.stay (x:fB P w H h a o) (k:∀b u,(b=a\/H b=some (.own a))->h.get? b=some u->h'.get? b=some u)
  (ho:∀b,H b=some (.own a)->H' b=some (.own a)) (ht:∀b xs,H b=some (.tup xs)->H' b=some (.tup xs)):fB P w H' h' a o:=by
 induction o with
 | lst xs=>obtain⟨z,its,n,r,e⟩:=x;exact⟨z,its,n,r,k _ _ (.inl rfl) e⟩
 | tup xs=>obtain⟨z,its,r,ob,e,c⟩:=x;exact⟨z,its,r,ob,k _ _ (.inl rfl) e,c⟩
 | dK kvs=>obtain⟨z,y,vs,r,ob,es,ep,e,c⟩:=x;exact⟨z,y,vs,r,ob,es,ep,k _ _ (.inl rfl) e,c⟩
 | dT kvs=>
  obtain⟨z,y,xs,r,ob,es,ep,e,c⟩:=x
  exact⟨z,y,xs,Paired.Ek r fun p q z=>⟨z.1,z.2.1.tups ht,z.2.2⟩,ob,es,ep,k _ _ (.inl rfl) e,c⟩
 | set S n=>obtain⟨ob,es,ep,t,e,c⟩:=x;exact⟨ob,es,ep,t,k _ _ (.inl rfl) e,c⟩
 | ins C dx fs=>
  obtain⟨d,z,ne,e,mA,⟨od,es,ep,e2,c⟩,r⟩:=x
  exact⟨ho _ d,z,ne,k _ _ (.inl rfl) e,mA,⟨od,es,ep,k _ _ (.inr d) e2,c⟩,r⟩
 | own y=>obtain⟨ob,e⟩:=x;exact⟨ob,k _ _ (.inl rfl) e⟩
 | xd fs=>obtain⟨mA,⟨od,es,ep,e,c⟩,r⟩:=x;exact⟨mA,⟨od,es,ep,k _ _ (.inl rfl) e,c⟩,r⟩
 | nK lo hi=>obtain⟨t,u,v,e⟩:=x;exact⟨t,u,v,k _ _ (.inl rfl) e⟩
 | lN ob u ih=>obtain⟨e,q⟩:=x;exact⟨k _ _ (.inl rfl) e,ih q⟩
 | NL ps=>
  have e:h.get? a=some {cls:=.none,data:=.fields ps}:=x
  show h'.get? a=some {cls:=.none,data:=.fields ps}
  exact k a _ (.inl rfl) e
 | met f y=>
  have e:h.get? a=some (PySem.W.methodObj (.ref f) (.ref y)):=x
  show h'.get? a=some (PySem.W.methodObj (.ref f) (.ref y))
  exact k a _ (.inl rfl) e
 | ext φ=>obtain⟨p,⟨o,e⟩,st⟩:=x;exact⟨st _ _ p fun o q=>k _ _ (.inl rfl) q,⟨o,k _ _ (.inl rfl) e⟩,st⟩
theorem nO.lt (x:nO P w H h) (e:H a=some o):a < h.objs.size:=(x a o e).lt
theorem nO.fresh (x:nO P w H h) (e:h.objs.size<=a):H a=none:=by
 cases q:H a with
 | none=>rfl
 | some u=>exact absurd (Nat.lt_of_lt_of_le (x.lt q) e) (Nat.lt_irrefl _)
theorem nO.kept (x:nO P w H h) (k:∀b u,h.get? b=some u->h'.get? b=some u):nO P w H h':=fun a o e=>
 (x a o e).stay (fun b u _ q=>k b u q) (fun _ q=>q) fun _ _ q=>q
theorem nO.laid (x:nO P w H h) (k:∀b u,h.get? b=some u->h'.get? b=some u) (hp:h.objs.size<=a) (new:fB P w (upd H a o) h' a o):nO P w (upd H a o) h':=fun b u e=>by
 have hn:=x.fresh hp
 by_cases hb:b=a
 ·subst hb;rw[bx] at e;cases e;exact new
 ·rw[aY hb] at e
  exact(x b u e).stay (fun c v _ q=>k c v q) (fun c q=>by rw[aY (bK q hn)];exact q) fun c xs q=>by rw[aY (bK q hn)];exact q
end
noncomputable def Rd (H:Hp) (a:Addr) (u:HO):Prop:=H a=some u\/∃o,H a=some (.lN o u)
theorem Rd.of {H:Hp}{a:Addr}{u:HO}(h:H a=some u):Rd H a u:=.inl h
theorem Rd.ok {P:Program}{w:World}{H:Hp}{h:Heap}{a:Addr}{u:HO}(r:Rd H a u) (x:nO P w H h):fB P w H h a u:=by
 rcases r with r | ⟨o,r⟩
 ·exact x a u r
 ·obtain⟨_,q⟩:=x a _ r
  exact q
noncomputable def Rn:Option HO->Prop
 | some (.lst _)=>True
 | some (.dK _)=>True
 | some (.dT _)=>True
 | some (.set _ _)=>True
 | some (.ins _ _ _)=>True
 | some (.ext _)=>True
 | _=>False
section
variable {P:Program}{w:World}{H:Hp}{h h':Heap}{x e:Addr}{o':HO}
theorem nO.write (ok : nO P w H h) (mu : Rn (H x)) (he : e = x \/ H e = some (.own x)) (k : ∀ b u, b ≠ e -> h.get? b = some u -> h'.get? b = some u) (QI : ∃ u, h'.get? e = some u)
    (new:fB P w (upd H x o') h' x o'):nO P w (upd H x o') h':=fun b u q=>by
  have Ro:∀c y,H c=some (.own y)->c≠x:=fun c y r z=>by subst z;rw[r] at mu;exact mu
  have Wi:∀c xs,H c=some (.tup xs)->c≠x:=fun c xs r z=>by subst z;rw[r] at mu;exact mu
  by_cases hb:b=x
  . subst hb;rw[bx] at q;cases q;exact new
  . rw[aY hb] at q
    by_cases NN:b=e
    . have q':H b=some (.own x):=by
        rcases he with z | z
        . exact absurd (NN.trans z) hb
        . rw[NN];exact z
      rw[q] at q';cases q'
      obtain⟨v,hv⟩:=QI
      exact⟨v,by rw[NN];exact hv⟩
    . refine(ok b u q).stay (fun c v hc r=>k c v ?_ r) (fun c r=>by rw[aY (Ro c b r)];exact r) fun c xs r=>by rw[aY (Wi c xs r)];exact r
      rcases hc with rfl | hc
      . exact NN
      . rintro rfl
        rcases he with z | z
        . exact Ro c b hc z
        . rw[hc] at z;cases z;exact hb rfl
end
structure Un (fs ex:List Addr) (H H':Hp) (h h':Heap):Prop where
 keep:∀b o,h.get? b=some o->H b=none->b∉fs->b∉ex->h'.get? b=some o
 slot:∀b o,h.get? b=some o->H b=none->b∈fs->b∉ex->∃sl,h'.get? b=some {o with slots:=sl}
 free:∀b o,h.get? b=some o->H b=none->b∉ex->H' b=none
 there:∀b o,h.get? b=some o->b∉ex->∃o',h'.get? b=some o'
 tups:∀b xs,H b=some (.tup xs)->H' b=some (.tup xs)
 vm:∀b o u,H b=some (.lN o u)->H' b=some (.lN o u)
 xm:∀b ps,H b=some (.NL ps)->∃more,H' b=some (.NL (ps++more))
section
variable {fs fs' ex ex':List Addr}{H H1 H2:Hp}{h h1 h2 h':Heap}{a x e:Addr}{o:HO}
theorem Un.any (u:Un fs ex H H1 h h1){b:Addr}{ob:Obj}(q:h.get? b=some ob) (n:H b=none) (hx:b∉ex):∃sl,h1.get? b=some {ob with slots:=sl}:=by
 by_cases hb:b∈fs
 ·exact u.slot b ob q n hb hx
 ·exact⟨ob.slots,u.keep b ob q n hb hx⟩
theorem Un.kept (k:∀b u,h.get? b=some u->h'.get? b=some u):Un fs ex H H h h':=
 ⟨fun b ob q _ _ _=>k b ob q,fun b ob q _ _ _=>⟨ob.slots,k b ob q⟩,fun _ _ _ n _=>n,fun b ob q _=>⟨ob,k b ob q⟩,fun _ _ q=>q,fun _ _ _ q=>q,fun _ ps q=>⟨#[],by rw[q];simp⟩⟩
theorem Un.refl:Un fs ex H H h h:=Un.kept fun _ _ q=>q
theorem Un.laid (k:∀b u,h.get? b=some u->h'.get? b=some u) (hp:h.objs.size<=a) (hn:H a=none):Un fs ex H (upd H a o) h h' where
 keep:=fun b u q _ _ _=>k b u q
 slot:=fun b u q _ _ _=>⟨u.slots,k b u q⟩
 free:=fun b u q n _=>by rw[aY (Nat.ne_of_lt (Nat.lt_of_lt_of_le (Heap.lt_size q) hp))];exact n
 there:=fun b u q _=>⟨u,k b u q⟩
 tups:=fun b xs q=>by rw[aY (bK q hn)];exact q
 vm:=fun b u xs q=>by rw[aY (bK q hn)];exact q
 xm:=fun b ps q=>⟨#[],by rw[aY (bK q hn),q];simp⟩
theorem Un.write (mu:Rn (H x)) (he:e=x\/H e=some (.own x)) (k:∀b u,b≠e->h.get? b=some u->h'.get? b=some u) (QI:∃u,h'.get? e=some u):Un fs ex H (upd H x o) h h':=by
 have hx:∀b,H b=none->b≠x:=fun b n z=>by subst z;rw[n] at mu;exact mu
 have hb:∀b,H b=none->b≠e:=fun b n z=>by
  subst z
  rcases he with r | r
  ·exact hx b n r
  ·rw[n] at r;cases r
 have hm:∀b u,H b=some u->¬Rn (some u)->b≠x:=fun b u q nm z=>by subst z;rw[q] at mu;exact nm mu
 refine⟨fun b u q n _ _=>k b u (hb b n) q,fun b u q n _ _=>⟨u.slots,k b u (hb b n) q⟩,fun b u q n _=>by rw[aY (hx b n)];exact n,fun b u q _=>?_,
  fun b xs q=>by rw[aY (hm b _ q fun z=>z)];exact q,fun b u xs q=>by rw[aY (hm b _ q fun z=>z)];exact q,fun b ps q=>⟨#[],by rw[aY (hm b _ q fun z=>z),q];simp⟩⟩
 by_cases NN:b=e
 ·subst NN;exact QI
 ·exact⟨u,k b u NN q⟩
end
noncomputable def U1 (h:Heap) (H:Hp):List Addr:=(List.range h.objs.size).filter fun a=>(H a).isSome
noncomputable def yV (h:Heap) (H:Hp):Heap:=PySem.W.hideAll h (U1 h H)
theorem El (h:Heap) (H:Hp):(yV h H).objs.size=h.objs.size:=PySem.W.hideAll_size _ _
theorem Gv {h:Heap}{H:Hp}{b:Addr}{o:Obj}(e:h.get? b=some o) (n:H b=none):(yV h H).get? b=some o:=
 PySem.W.hideAll_get _ e fun hm=>by
  have q:(H b).isSome=true:=(List.mem_filter.mp hm).2
  rw[n] at q;simp at q
theorem Kr {h:Heap}{H:Hp}{b:Addr}{o:Obj}(e:(yV h H).get? b=some o):h.get? b=some o/\H b=none:=by
 have e':h.get? b=some o:=PySem.W.of_hideAll (U1 h H) e
 refine⟨e',?_⟩
 cases q:H b with
 | none=>rfl
 | some x=>
  have hm:b∈U1 h H:=List.mem_filter.mpr ⟨List.mem_range.mpr (Heap.lt_size e'),by simp[q]⟩
  have z:(yV h H).get? b=none:=PySem.W.hideAll_none (U1 h H) hm
  rw[z] at e;cases e
noncomputable def Ks (g h:Heap) (L:Addr):List (Addr×Obj):=(List.range h.objs.size).filterMap fun a=>if a=L\/(g.get? a).isSome=true then none else(h.get? a).map fun o=>(a,o)
noncomputable def rest (g h:Heap) (L d:Addr):List (Addr×Obj):=(Ks g h L).filter fun p=>decide (p.1≠d)
structure Mod (K:PySem.W.Frag) (mg:Str->Option Value) (base:Heap):Prop where
 Wj:K.In base
 glob:base.Ns mainGlobals mg
 blt:∃mb,base.Ns builtinsNs mb/\∀x:Str,x≠"__name__"->mb x=bootBuiltins x
 nolimit:base.NoLimit
structure Cx where
 prog:Program
 w:World
 K:PySem.W.Frag
 mg:Str->Option Value
 base:Heap
 A:Around
 N:List Str
 s₀:Shared
 H₀:Hp
 env:Env
 outer:List Env
 stack:List Env
 ex:List Addr
 fn:Str->Bool
 calm:Bool
 pn:List (Addr×Obj)
 xe:Value->Shared->Prop
noncomputable def frs (l:List Env):List Addr:=l.filterMap (·.frame)
noncomputable abbrev Cx.fs (X:Cx):List Addr:=frs X.outer
noncomputable def Gw (sc:Scope) (x:Str):Prop:=sc.names.lookup x=some .local\/sc.names.lookup x=some .cell\/sc.names.lookup x=some .free
noncomputable def Loc (sc:Scope) (x:Str):Prop:=sc.names.lookup x=some .local\/sc.names.lookup x=some .cell
noncomputable def Look (env:Env) (h:Heap) (m:Str->Option Value) (x:Str) (u:Value):Prop:=
 (env.kindOf x=some .local/\m x=some u)\/((env.kindOf x=some .cell\/env.kindOf x=some .free)/\∃c,env.cells.lookup x=some c/\h.IsCell c (some u))
structure Cx.Ok (X:Cx):Prop where
 mod:Mod X.K X.mg X.base
 kind:X.env.scope.kind= .function
 glob:X.env.globals=mainGlobals
 blt:X.env.builtins=builtinsNs
 above:X.s₀.heap.objs.size<=X.env.locals
 inj:∀x y c,X.env.cells.lookup x=some c->X.env.cells.lookup y=some c->x=y
 has:∀x,(X.env.kindOf x=some .cell\/X.env.kindOf x=some .free)->∃c,X.env.cells.lookup x=some c
 Rp:∀x c,X.fn x=true->X.env.cells.lookup x=some c->X.s₀.heap.objs.size<=c
 hd:X.calm=true->X.A.handled=none
 frames:X.A.frames=some X.stack
 stk:X.stack=X.outer\/(X.stack=X.env :: X.outer/\X.env.frame=some X.env.locals)
 U3:∀b∈X.ex,b≠X.env.locals/\∀x c,X.env.cells.lookup x=some c->c≠b
 bs:∀b o,X.base.get? b=some o->X.s₀.heap.get? b=some o/\X.H₀ b=none
 Kg:X.base.objs.size<=X.s₀.heap.objs.size
 Em:∀b o,X.base.get? b=some o->b∉X.ex
 En:∀b∈X.ex,b∉X.fs
 vn:X.s₀.heap.FunFrames X.base X.outer
 QJ:∀b∈X.fs,X.H₀ b=none
structure Inv (X:Cx) (pins:List (Addr×Obj)) (σ:List (Option V)) (H:Hp) (s:Shared):Prop where
 ok:X.Ok
 os:s.os=X.s₀.os
 bare:AllBare s.gens
 base:Un X.fs X.ex X.H₀ H X.s₀.heap s.heap
 loc:∃m,s.heap.Ns X.env.locals m/\∀(i:Nat) (x:Str) (v:V),X.N[i]? =some x->σ[i]? =some (some v)->Gw X.env.scope x->∃u,RelV v u/\Look X.env s.heap m x u
 cell:∀x c,X.env.cells.lookup x=some c->∃v,s.heap.IsCell c v
 free:H X.env.locals=none
 nR:∀x c,X.env.cells.lookup x=some c->H c=none
 pin:∀p∈X.pn++pins,s.heap.get? p.1=some p.2/\H p.1=none/\p.1≠X.env.locals/\p.1∉X.fs/\∀v,p.2.data≠.cell v
 hok:nO X.prog X.w H s.heap
 len:σ.length=X.N.length
section
variable {X:Cx}{pins:List (Addr×Obj)}{σ:List (Option V)}{H H':Hp}{s:Shared}{h':Heap}
theorem Cx.Ok.kq (ok:X.Ok){b:Addr}{o:Obj}(e:X.base.get? b=some o):b∉X.fs:=fun hb=>by
 have:=(ok.vn.mem hb).1
 rw[e] at this;cases this
theorem Inv.bs (I:Inv X pins σ H s):∀b o,X.base.get? b=some o->s.heap.get? b=some o/\H b=none:=fun b o e=>
 ⟨I.base.keep b o (I.ok.bs b o e).1 (I.ok.bs b o e).2 (I.ok.kq e) (I.ok.Em b o e),I.base.free b o (I.ok.bs b o e).1 (I.ok.bs b o e).2 (I.ok.Em b o e)⟩
theorem Inv.bk (I:Inv X pins σ H s):∀b o,X.base.get? b=some o->s.heap.get? b=some o:=fun b o e=>(I.bs b o e).1
theorem Inv.mod (I:Inv X pins σ H s):Mod X.K X.mg X.base:=I.ok.mod
theorem Inv.B5 (I:Inv X pins σ H s):X.K.In s.heap:=I.ok.mod.Wj.keeps I.bk
theorem Inv.lt (I:Inv X pins σ H s):X.env.locals < s.heap.objs.size:=let⟨_,hn,_⟩:=I.loc;hn.lt
theorem Inv.sz (I:Inv X pins σ H s):X.s₀.heap.objs.size<=s.heap.objs.size:=Nat.le_trans I.ok.above (Nat.le_of_lt I.lt)
theorem Inv.NO (I:Inv X pins σ H s){a:Addr}(h:s.heap.objs.size<=a):a∉X.fs:=fun hb=>by
 obtain⟨_,o,ho,_⟩:=I.ok.vn.mem hb
 exact absurd (Nat.lt_of_lt_of_le (Heap.lt_size ho) (Nat.le_trans I.sz h)) (Nat.lt_irrefl _)
theorem Inv.NP (I:Inv X pins σ H s):∀x c,X.env.cells.lookup x=some c->c≠X.env.locals:=fun x c e z=>by
 obtain⟨v,o,ho,hd⟩:=I.cell x c e
 obtain⟨m,⟨o',es,ep,ho',hd',_⟩,_⟩:=I.loc
 rw[z,ho'] at ho;cases ho;rw[hd'] at hd;cases hd
theorem Inv.vn (I:Inv X pins σ H s):s.heap.FunFrames X.base X.outer:=by
 have all:∀(l:List Env),(∀b∈frs l,b∈X.fs)->X.s₀.heap.FunFrames X.base l->s.heap.FunFrames X.base l:=by
  intro l
  induction l with
  | nil=>intro _ _;trivial
  | cons env r ih=>
   intro hs hl
   obtain⟨hk,⟨L,o,hf,hn,ho,hd⟩,hr⟩:=hl
   have hL:L∈X.fs:=hs L (by unfold frs;rw[List.filterMap_cons,hf];exact List.mem_cons_self)
   obtain⟨sl,e⟩:=I.base.slot L o ho (I.ok.QJ L hL) hL fun z=>I.ok.En L z hL
   exact⟨hk,⟨L,_,hf,hn,e,hd⟩,ih (fun b hb=>hs b (by unfold frs;rw[List.filterMap_cons,hf];exact List.mem_cons_of_mem _ hb)) hr⟩
 exact all X.outer (fun _ hb=>hb) I.ok.vn
theorem Inv.stack (I:Inv X pins σ H s):s.heap.FunFrames X.base X.stack:=by
 rcases I.ok.stk with e | ⟨e,hf⟩
 ·rw[e];exact I.vn
 ·rw[e]
  obtain⟨m,hn,_⟩:=I.loc
  refine .cons (by rw[I.ok.kind];decide) hf hn ?_ I.vn
  exact Heap.get?_none_of_le (Nat.le_trans I.ok.Kg I.ok.above)
theorem Inv.sI (I:Inv X pins σ H s):∀b∈frs X.stack,b∈X.env.locals :: X.fs:=fun b hb=>by
 rcases I.ok.stk with e | ⟨e,hf⟩
 ·rw[e] at hb;exact List.mem_cons_of_mem _ hb
 ·rw[e] at hb
  unfold frs at hb
  rw[List.filterMap_cons,hf] at hb
  exact hb
theorem Inv.yW (I:Inv X pins σ H s):∀b∈frs X.stack,H b=none:=fun b hb=>by
 rcases List.mem_cons.mp (I.sI b hb) with e | hb
 ·rw[e];exact I.free
 ·obtain⟨_,o,ho,_⟩:=I.ok.vn.mem hb
  exact I.base.free b o ho (I.ok.QJ b hb) fun z=>I.ok.En b z hb
theorem Inv.step {g':Array GenState}{t':Nat}{d':Drawn}{ch:List Addr}(I:Inv X pins σ H s)
  (hch:∀b∈ch,(b∈X.ex\/X.s₀.heap.objs.size<=b)/\b≠X.env.locals/\(∀x c,X.env.cells.lookup x=some c->c≠b)/\∀p∈X.pn++pins,p.1≠b)
  (keep:∀b o,b≠X.env.locals->b∉X.fs->b∉ch->s.heap.get? b=some o->H b=none->h'.get? b=some o)
  (slot:∀b o,b≠X.env.locals->b∈X.fs->b∉ch->s.heap.get? b=some o->H b=none->∃sl,h'.get? b=some {o with slots:=sl}) (free:∀b o,b∉ch->s.heap.get? b=some o->H b=none->H' b=none)
  (there:∀b o,b∉ch->s.heap.get? b=some o->∃o',h'.get? b=some o')
  (tups:∀b xs,H b=some (.tup xs)->H' b=some (.tup xs)) (vm:∀b o u,H b=some (.lN o u)->H' b=some (.lN o u)) (xm:∀b ps,H b=some (.NL ps)->∃more,H' b=some (.NL (ps++more)))
  (ns:∀m,s.heap.Ns X.env.locals m->h'.Ns X.env.locals m) (hok:nO X.prog X.w H' h') (hg:AllBare g'):
  Inv X pins σ H' {s with heap:=h',gens:=g',drawn:=d',toks:=t'}:=by
 have neL:∀b o,X.s₀.heap.get? b=some o->b≠X.env.locals:=fun b o e=>Nat.ne_of_lt (Nat.lt_of_lt_of_le (Heap.lt_size e) I.ok.above)
 have U4:∀b o,X.s₀.heap.get? b=some o->b∉X.ex->b∉ch:=fun b o e hx hb=>by
  rcases(hch b hb).1 with z | z
  ·exact hx z
  ·exact absurd (Nat.lt_of_lt_of_le (Heap.lt_size e) z) (Nat.lt_irrefl _)
 have cellK:∀x c,X.env.cells.lookup x=some c->∀v,s.heap.IsCell c v->h'.IsCell c v:=fun x c e v ⟨o,ho,hd⟩=>by
  have Rq:c∉ch:=fun z=>(hch c z).2.2.1 x c e rfl
  by_cases hc:c∈X.fs
  ·obtain⟨sl,q⟩:=slot c o (I.NP x c e) hc Rq ho (I.nR x c e)
   exact⟨_,q,hd⟩
  ·exact⟨o,keep c o (I.NP x c e) hc Rq ho (I.nR x c e),hd⟩
 refine⟨I.ok,I.os,hg,⟨fun b o e n hb hx=>?_,fun b o e n hb hx=>?_,fun b o e n hx=>?_,fun b o e hx=>?_,fun b xs e=>tups b xs (I.base.tups b xs e),fun b o xs e=>vm b o xs (I.base.vm b o xs e),fun b ps e=>?_⟩,?_,fun x c e=>?_,?_,fun x c e=>?_,fun p hp=>?_,hok,I.len⟩
 ·exact keep b o (neL b o e) hb (U4 b o e hx) (I.base.keep b o e n hb hx) (I.base.free b o e n hx)
 ·obtain⟨sl,e1⟩:=I.base.slot b o e n hb hx
  obtain⟨sl',e2⟩:=slot b _ (neL b o e) hb (U4 b o e hx) e1 (I.base.free b o e n hx)
  exact⟨sl',e2⟩
 ·obtain⟨o',e1⟩:=I.base.there b o e hx
  exact free b o' (U4 b o e hx) e1 (I.base.free b o e n hx)
 ·obtain⟨o',e1⟩:=I.base.there b o e hx
  exact there b o' (U4 b o e hx) e1
 ·obtain⟨m1,e1⟩:=I.base.xm b ps e
  obtain⟨m2,e2⟩:=xm b _ e1
  exact⟨m1++m2,by rw[e2,Array.append_assoc]⟩
 ·obtain⟨m,hn,hl⟩:=I.loc
  refine⟨m,ns m hn,fun i x v e1 e2 e3=>?_⟩
  obtain⟨u,r,l⟩:=hl i x v e1 e2 e3
  refine⟨u,r,?_⟩
  rcases l with l | ⟨k,c,e,z⟩
  ·exact .inl l
  ·exact .inr ⟨k,c,e,cellK x c e _ z⟩
 ·obtain⟨v,z⟩:=I.cell x c e
  exact⟨v,cellK x c e v z⟩
 ·obtain⟨m,⟨o,_,_,ho,_⟩,_⟩:=I.loc
  exact free _ o (fun z=>(hch _ z).2.1 rfl) ho I.free
 ·obtain⟨v,o,ho,hd⟩:=I.cell x c e
  exact free c o (fun z=>(hch c z).2.2.1 x c e rfl) ho (I.nR x c e)
 ·obtain⟨e,n,ne,nf,d⟩:=I.pin p hp
  have Rq:p.1∉ch:=fun z=>(hch p.1 z).2.2.2 p hp rfl
  exact⟨keep p.1 p.2 ne nf Rq e n,free p.1 p.2 Rq e n,ne,nf,d⟩
theorem Inv.un {t':Nat}(I:Inv X pins σ H s) (u:Un X.fs [] H H' s.heap h') (hok:nO X.prog X.w H' h'):Inv X pins σ H' {s with heap:=h',toks:=t'}:=by
 obtain⟨m,⟨o,es,ep,ho,r⟩,_⟩:=id I.loc
 obtain⟨sl,hL⟩:=u.any ho I.free (by simp)
 exact I.step (g':=s.gens) (d':=s.drawn) (ch:=[]) (fun _ z=>nomatch z) (fun b o _ hb _ e n=>u.keep b o e n hb (by simp)) (fun b o _ hb _ e n=>u.slot b o e n hb (by simp)) (fun b o _ e n=>u.free b o e n (by simp)) (fun b o _ e=>u.there b o e (by simp)) u.tups u.vm u.xm (fun m' hm=>by
  obtain⟨o',es',Wk,ho',r'⟩:=hm
  rw[ho] at ho';cases ho'
  exact⟨_,es',Wk,hL,r'⟩) hok I.bare
theorem Inv.call {g':Array GenState}{t':Nat}{d':Drawn}{ch:List Addr}(I:Inv X pins σ H s) (u:Un (frs X.stack) ch H H' s.heap h') (hok:nO X.prog X.w H' h') (hg:AllBare g')
  (hch:∀b∈ch,(b∈X.ex\/X.s₀.heap.objs.size<=b)/\b≠X.env.locals/\(∀x c,X.env.cells.lookup x=some c->c≠b)/\∀p∈X.pn++pins,p.1≠b):
  Inv X pins σ H' {s with heap:=h',gens:=g',drawn:=d',toks:=t'}:=by
 obtain⟨m,⟨o,es,ep,ho,r⟩,_⟩:=id I.loc
 obtain⟨sl,hL⟩:=u.any ho I.free fun z=>(hch _ z).2.1 rfl
 exact I.step (ch:=ch) hch (fun b o hL hb hc e n=>u.keep b o e n (fun z=>(List.mem_cons.mp (I.sI b z)).elim hL hb) hc) (fun b o _ _ hc e n=>u.any e n hc) (fun b o hc e n=>u.free b o e n hc) (fun b o hc e=>u.there b o e hc) u.tups u.vm u.xm (fun m' hm=>by
  obtain⟨o',es',Wk,ho',r'⟩:=hm
  rw[ho] at ho';cases ho'
  exact⟨_,es',Wk,hL,r'⟩) hok hg
theorem Inv.turned {t':Nat}{it:Addr}(I:Inv X pins σ H s) (k:∀b o,b≠it->s.heap.get? b=some o->h'.get? b=some o) (hn:H it=none) (hL:it≠X.env.locals)
  (h1:it∈X.ex\/X.s₀.heap.objs.size<=it) (h2:∀x c,X.env.cells.lookup x=some c->c≠it) (h3:∀p∈X.pn++pins,p.1≠it):Inv X pins σ H {s with heap:=h',toks:=t'}:=by
 have Rr:∀b u,H b=some u->b≠it:=fun b u e z=>by rw[z,hn] at e;cases e
 refine I.step (g':=s.gens) (d':=s.drawn) (ch:=[it]) (fun b hb=>?_) (fun b o _ _ hc e _=>k b o (fun z=>hc (by simp[z])) e) (fun b o _ _ hc e _=>⟨o.slots,k b o (fun z=>hc (by simp[z])) e⟩) (fun _ _ _ _ n=>n)
  (fun b o hc e=>⟨o,k b o (fun z=>hc (by simp[z])) e⟩) (fun _ _ e=>e) (fun _ _ _ e=>e) (fun b ps e=>⟨#[],by rw[e];simp⟩) (fun m hm=>?_) (fun b u e=>?_) I.bare
 ·have e:b=it:=by simpa using hb
  subst e
  exact⟨h1,hL,h2,h3⟩
 ·obtain⟨o,es,ep,ho,r⟩:=hm
  exact⟨o,es,ep,k _ o (Ne.symm hL) ho,r⟩
 ·refine(I.hok b u e).stay (fun c v hc q=>k c v ?_ q) (fun _ q=>q) fun _ _ q=>q
  rcases hc with z | z
  ·rw[z];exact Rr b u e
  ·exact Rr c _ z
theorem Inv.tok (I:Inv X pins σ H s) (t:Nat):Inv X pins σ H {s with toks:=t}:=I.un (h':=s.heap) (t':=t) Un.refl I.hok
theorem Inv.kept {t':Nat}(I:Inv X pins σ H s) (k:∀b u,s.heap.get? b=some u->h'.get? b=some u):Inv X pins σ H {s with heap:=h',toks:=t'}:=I.un (Un.kept k) (I.hok.kept k)
theorem Inv.laid {a:Addr}{o:HO}{t':Nat}(I:Inv X pins σ H s) (k:∀b u,s.heap.get? b=some u->h'.get? b=some u) (hp:s.heap.objs.size<=a) (new:fB X.prog X.w (upd H a o) h' a o):
  Inv X pins σ (upd H a o) {s with heap:=h',toks:=t'}:=I.un (Un.laid k hp (I.hok.fresh hp)) (I.hok.laid k hp new)
theorem Inv.write {x e:Addr}{o:HO}{t':Nat}(I:Inv X pins σ H s) (mu:Rn (H x)) (he:e=x\/H e=some (.own x)) (k:∀b u,b≠e->s.heap.get? b=some u->h'.get? b=some u) (QI:∃u,h'.get? e=some u)
  (new:fB X.prog X.w (upd H x o) h' x o):Inv X pins σ (upd H x o) {s with heap:=h',toks:=t'}:=I.un (Un.write mu he k QI) (I.hok.write mu he k QI new)
theorem Inv.De {MU:List (Addr×Obj)}(I:Inv X pins σ H s) (h:∀p∈MU,s.heap.get? p.1=some p.2/\H p.1=none/\p.1≠X.env.locals/\p.1∉X.fs/\∀v,p.2.data≠.cell v):Inv X MU σ H s:=
 ⟨I.ok,I.os,I.bare,I.base,I.loc,I.cell,I.free,I.nR,fun p hp=>(List.mem_append.mp hp).elim (fun z=>I.pin p (List.mem_append_left _ z)) (h p),I.hok,I.len⟩
theorem Aq {N:List Str}(hN:N.Nodup){i j:Nat}{x:Str}(a:N[i]? =some x) (b:N[j]? =some x):i=j:=by
 obtain⟨h1,e1⟩:=List.getElem?_eq_some_iff.mp a
 obtain⟨h2,e2⟩:=List.getElem?_eq_some_iff.mp b
 exact(List.getElem_inj hN).mp (e1.trans e2.symm)
theorem Eo {M : Model} {A : Around} {E : Value -> Shared -> Prop} {i : Nat} {x : Str} {v : V} {u : Value} {Q : Unit -> Shared -> Prop} (I : Inv X pins σ H s) (hN : X.N.Nodup) (hi : X.N[i]? = some x) (hx : Loc X.env.scope x) (r : RelV v u)
    (h:∀s',Inv X pins (σ.set i (some v)) H s'->(∃a,Heap.SameBut a s.heap s'.heap/\(a=X.env.locals\/X.env.cells.lookup x=some a))->Q () s') (hf:X.fn x=true\/X.env.scope.names.lookup x=some .local:=by first | exact .inl rfl | exact .inr rfl | assumption):wpAny M A (storeName X.env x u) Q E s:=by
  obtain⟨m,hn,hl⟩:=id I.loc
  have hcls:(X.env.scope.kind == .class || (X.env.scope.kind == .module && X.env.locals != X.env.globals))=false:=by rw[I.ok.kind];rfl
  have Rt:i < σ.length:=by rw[I.len];exact(List.getElem?_eq_some_iff.mp hi).1
  have NP:=I.NP
  have tracked:∀{a:Addr}{h':Heap},(∃o,s.heap.get? a=some o/\H a=none)->Heap.SameBut a s.heap h'->nO X.prog X.w H h':=fun {a h'} ha hs b ob e=>by
    obtain⟨_,_,hfree⟩:=ha
    refine(I.hok b ob e).stay (fun c w' hc q=>(hs.2 c ?_).trans q) (fun _ q=>q) fun _ _ q=>q
    rintro rfl
    rcases hc with rfl | hc
    . rw[hfree] at e;cases e
    . rw[hfree] at hc;cases hc
  rcases hx with hk | hk
  . refine wpAny_storeName_local hk hn (fun h' hn' hs=>?_) hcls
    obtain⟨oL,_,_,hoL,_⟩:=id hn
    refine h _ ⟨I.ok,I.os,I.bare,⟨fun b o e n hb hx=>?_,fun b o e n hb hx=>?_,I.base.free,fun b o e hx=>?_,I.base.tups,I.base.vm,I.base.xm⟩,⟨_,hn',fun j y v' e1 e2 e3=>?_⟩,fun y c e=>?_,I.free,I.nR,fun p hp=>?_,tracked ⟨oL,hoL,I.free⟩ hs,by simpa using I.len⟩ ⟨_,hs,.inl rfl⟩
    . exact(hs.2 b (Nat.ne_of_lt (Nat.lt_of_lt_of_le (Heap.lt_size e) I.ok.above))).trans (I.base.keep b o e n hb hx)
    . obtain⟨sl,e1⟩:=I.base.slot b o e n hb hx
      exact⟨sl,(hs.2 b (Nat.ne_of_lt (Nat.lt_of_lt_of_le (Heap.lt_size e) I.ok.above))).trans e1⟩
    . obtain⟨o',e1⟩:=I.base.there b o e hx
      exact⟨o',(hs.2 b (Nat.ne_of_lt (Nat.lt_of_lt_of_le (Heap.lt_size e) I.ok.above))).trans e1⟩
    . by_cases hj:j=i
      . subst hj
        rw[hi] at e1;cases e1
        rw[List.getElem?_set_self Rt] at e2
        cases e2
        exact⟨u,r,.inl ⟨hk,by simp⟩⟩
      . rw[List.getElem?_set_ne (Ne.symm hj)] at e2
        obtain⟨u',r',q⟩:=hl j y v' e1 e2 e3
        refine⟨u',r',?_⟩
        rcases q with⟨k,e⟩ | ⟨k,c,e,z⟩
        . refine .inl ⟨k,?_⟩
          have:y≠x:=fun e=>hj (Aq hN e1 (e▸hi))
          simp[this,e]
        . exact .inr ⟨k,c,e,z.sameBut hs (NP y c e)⟩
    . obtain⟨w',z⟩:=I.cell y c e
      exact⟨w',z.sameBut hs (NP y c e)⟩
    . obtain⟨e,n,ne,nf,d⟩:=I.pin p hp
      exact⟨(hs.2 p.1 ne).trans e,n,ne,nf,d⟩
  . have hfn:X.fn x=true:=by
      rcases hf with z | z
      . exact z
      . rw[z] at hk;cases hk
    obtain⟨c,hc⟩:=I.ok.has x (.inl hk)
    obtain⟨w',z⟩:=I.cell x c hc
    refine wpAny_storeName_cell I.ok.kind hk hc z (fun h' hc' hs=>?_)
    obtain⟨oc,hoc,Wl⟩:=id z
    refine h {s with heap:=h'} ⟨I.ok,I.os,I.bare,⟨fun b o e n hb hx=>?_,fun b o e n hb hx=>?_,I.base.free,fun b o e hx=>?_,I.base.tups,I.base.vm,I.base.xm⟩,⟨m,hn.sameBut hs (Ne.symm (NP x c hc)),fun j y v' e1 e2 e3=>?_⟩,fun y c' e=>?_,I.free,I.nR,fun p hp=>?_,tracked ⟨oc,hoc,I.nR x c hc⟩ hs,by simpa using I.len⟩ ⟨c,hs,.inr hc⟩
    . exact(hs.2 b (Nat.ne_of_lt (Nat.lt_of_lt_of_le (Heap.lt_size e) (I.ok.Rp x c hfn hc)))).trans (I.base.keep b o e n hb hx)
    . obtain⟨sl,e1⟩:=I.base.slot b o e n hb hx
      exact⟨sl,(hs.2 b (Nat.ne_of_lt (Nat.lt_of_lt_of_le (Heap.lt_size e) (I.ok.Rp x c hfn hc)))).trans e1⟩
    . obtain⟨o',e1⟩:=I.base.there b o e hx
      exact⟨o',(hs.2 b (Nat.ne_of_lt (Nat.lt_of_lt_of_le (Heap.lt_size e) (I.ok.Rp x c hfn hc)))).trans e1⟩
    . by_cases hj:j=i
      . subst hj
        rw[hi] at e1;cases e1
        rw[List.getElem?_set_self Rt] at e2
        cases e2
        exact⟨u,r,.inr ⟨.inl hk,c,hc,hc'⟩⟩
      . rw[List.getElem?_set_ne (Ne.symm hj)] at e2
        obtain⟨u',r',q⟩:=hl j y v' e1 e2 e3
        refine⟨u',r',?_⟩
        rcases q with q | ⟨k,c',e,z'⟩
        . exact .inl q
        . refine .inr ⟨k,c',e,z'.sameBut hs ?_⟩
          rintro rfl
          exact hj (Aq hN e1 (I.ok.inj _ _ _ e hc▸hi))
    . by_cases hcc:c'=c
      . subst hcc;exact⟨_,hc'⟩
      . obtain⟨w2,z2⟩:=I.cell y c' e
        exact⟨w2,z2.sameBut hs hcc⟩
    . obtain⟨e,n,ne,nf,d⟩:=I.pin p hp
      refine⟨(hs.2 p.1 ?_).trans e,n,ne,nf,d⟩
      intro q
      rw[q,hoc] at e
      have q':oc=p.2:=Option.some.inj e
      exact d w' (by rw[<-q'];exact Wl)
theorem Ar {M:Model}{A:Around}{E:Value->Shared->Prop}{i:Nat}{x:Str}{v:V}{u:Value}{Q:Unit->Shared->Prop}(I:Inv X pins σ H s) (hN:X.N.Nodup) (hi:X.N[i]? =some x) (hx:Loc X.env.scope x) (r:RelV v u)
  (h:∀s',Inv X pins (σ.set i (some v)) H s'->Q () s') (hf:X.fn x=true\/X.env.scope.names.lookup x=some .local:=by first | exact .inl rfl | exact .inr rfl | assumption):wpAny M A (storeName X.env x u) Q E s:=
 Eo I hN hi hx r (fun s' I' _=>h s' I') hf
theorem Inv.MV {s':Shared}{ch:List Addr}(I:Inv X pins σ H s) (ho:s'.os=s.os) (u:Un (frs X.stack) ch H H' s.heap s'.heap) (hok:nO X.prog X.w H' s'.heap) (hg:AllBare s'.gens)
  (hch:∀b∈ch,(b∈X.ex\/X.s₀.heap.objs.size<=b)/\b≠X.env.locals/\(∀x c,X.env.cells.lookup x=some c->c≠b)/\∀p∈X.pn++pins,p.1≠b):Inv X pins σ H' s':=by
 obtain⟨h',g',d',t',o'⟩:=s'
 have e:o'=s.os:=ho
 subst e
 exact I.call (g':=g') (t':=t') (d':=d') u hok hg hch
end
noncomputable abbrev XK:=Value->Option Addr->Hp->Prop
noncomputable abbrev St:=List (Option V)
noncomputable abbrev VK:=V->Hp->Prop
noncomputable abbrev TE:=St->Hp->VK->Prop
noncomputable abbrev TT:=St->Hp->(Bool->Hp->Prop)->Prop
noncomputable abbrev TA:=St->Hp->(List V->Hp->Prop)->Prop
structure Ends where
 nx:St->Hp->Prop
 rt:VK
 bk:St->Hp->Prop:=fun _ _=>False
 ct:St->Hp->Prop:=fun _ _=>False
noncomputable abbrev TS:=Ends->St->Hp->Prop
noncomputable def EP (X:Cx) (pins:List (Addr×Obj)) (σ:St) (Q:VK) (u:Value) (s':Shared):Prop:=∃v H',Inv X pins σ H' s'/\RelV v u/\Q v H'
noncomputable def TP (X:Cx) (pins:List (Addr×Obj)) (σ:St) (Q:Bool->Hp->Prop) (b:Bool) (s':Shared):Prop:=∃H',Inv X pins σ H' s'/\Q b H'
noncomputable def AP (X:Cx) (pins:List (Addr×Obj)) (σ:St) (Q:List V->Hp->Prop) (us:List Value) (s':Shared):Prop:=∃vs H',Inv X pins σ H' s'/\Vals vs us/\Q vs H'
noncomputable def SP (X:Cx) (pins:List (Addr×Obj)) (D:Ends) (f:Flow) (s':Shared):Prop:=
 match f with
 | .next=>∃σ' H',Inv X pins σ' H' s'/\D.nx σ' H'
 | .brk=>∃σ' H',Inv X pins σ' H' s'/\D.bk σ' H'
 | .cont=>∃σ' H',Inv X pins σ' H' s'/\D.ct σ' H'
 | .ret u=>∃v σ' H',Inv X pins σ' H' s'/\RelV v u/\D.rt v H'
noncomputable def PE (X:Cx) (e:Expr) (t:TE):Prop:=
 ∀(pins:List (Addr×Obj)) (s:Shared) (σ:St) (H:Hp) (Q:VK),Inv X pins σ H s->t σ H Q->wpAny (model X.prog X.w) X.A (eval e X.env) (EP X pins σ Q) X.xe s
noncomputable def PT (X:Cx) (e:Expr) (t:TT):Prop:=
 ∀(pins:List (Addr×Obj)) (s:Shared) (σ:St) (H:Hp) (Q:Bool->Hp->Prop),Inv X pins σ H s->t σ H Q->wpAny (model X.prog X.w) X.A (isTrue e X.env (eval e X.env)) (TP X pins σ Q) X.xe s
noncomputable def PW (X:Cx) (e:Expr) (t:TT):Prop:=
 ∀(whole:Sem Value) (pins:List (Addr×Obj)) (s:Shared) (σ:St) (H:Hp) (Q:Bool->Hp->Prop),Inv X pins σ H s->t σ H Q->wpAny (model X.prog X.w) X.A (isTrue e X.env whole) (TP X pins σ Q) X.xe s
theorem PW.pt {X:Cx}{e:Expr}{t:TT}(h:PW X e t):PT X e t:=h _
noncomputable def PA (X:Cx) (es:List Expr) (t:TA):Prop:=
 ∀(pos:Pos) (pins:List (Addr×Obj)) (s:Shared) (σ:St) (H:Hp) (Q:List V->Hp->Prop),Inv X pins σ H s->t σ H Q->wpAny (model X.prog X.w) X.A (spliced (backTo pos (starEach es X.env))) (AP X pins σ Q) X.xe s
noncomputable def PS (X:Cx) (st:Stmt) (t:TS):Prop:=
 ∀(pins:List (Addr×Obj)) (s:Shared) (σ:St) (H:Hp) (D:Ends),Inv X pins σ H s->t D σ H->wpAny (model X.prog X.w) X.A (exec st X.env) (SP X pins D) X.xe s
noncomputable def B3 (X:Cx) (st:List Stmt) (t:TS):Prop:=
 ∀(pins:List (Addr×Obj)) (s:Shared) (σ:St) (H:Hp) (D:Ends),Inv X pins σ H s->t D σ H->wpAny (model X.prog X.w) X.A (execs st X.env) (SP X pins D) X.xe s
theorem gf {α:Type}{t:Sem α}{Q Q':α->Shared->Prop}{M:Model}{A:Around}{E:Value->Shared->Prop}{s:Shared}(h:wpAny M A t Q E s) (hQ:∀a s,Q a s->Q' a s):wpAny M A t Q' E s:=wpAny_mono h hQ fun _ _ x=>x
section
variable {X:Cx}
theorem bin {a b:Expr}{ta tb:TE}(ha:PE X a ta) (hb:PE X b tb){pins:List (Addr×Obj)}{s:Shared}{σ:St}{H:Hp}{R:V->V->Hp->Prop}(I:Inv X pins σ H s) (h:ta σ H fun x H1=>tb σ H1 fun y H2=>R x y H2)
  {α:Type}{Q:α->Shared->Prop}{f:Value->Value->Sem α}
  (hf:∀v u s2 x y H2,Inv X pins σ H2 s2->RelV x v->RelV y u->R x y H2->wpAny (model X.prog X.w) X.A (f v u) Q X.xe s2):
  wpAny (model X.prog X.w) X.A (eval a X.env) (fun v s₁=>wpAny (model X.prog X.w) X.A (eval b X.env) (fun u s₂=>wpAny (model X.prog X.w) X.A (f v u) Q X.xe s₂) X.xe s₁) X.xe s:=by
 refine gf (ha pins s σ H _ I h) fun v s1 ⟨x,H1,I1,r1,q1⟩=>?_
 refine gf (hb pins s1 σ H1 _ I1 q1) fun u s2 ⟨y,H2,I2,r2,q2⟩=>?_
 exact hf v u s2 x y H2 I2 r1 r2 q2
noncomputable def Ku (i:Nat):TE:=fun σ H Q=>∃v,σ[i]? =some (some v)/\Q v H
noncomputable def tC (v:V):TE:=fun _ H Q=>Q v H
theorem jF {i:Nat}{x:Str}{pos:Pos}(hN:X.N[i]? =some x) (hv:Gw X.env.scope x) (hd:(x == ("__debug__":Str))=false:=by decide) (hcd:(x == ("__classdict__":Str))=false:=by decide):PE X (.Name x pos) (Ku i):=by
 intro pins s σ H Q I h
 obtain⟨v,e,h⟩:=h
 obtain⟨m,hn,hl⟩:=I.loc
 obtain⟨u,r,l⟩:=hl i x v hN e hv
 have fin:EP X pins σ Q u s:=⟨v,H,I,r,h⟩
 rcases l with⟨hk,hm⟩ | ⟨hk,c,hc,hcell⟩
 ·exact wpAny_Name (wpAny_loadName_local I.ok.kind hk hn hm fin) hd
 ·rcases hk with hk | hk
  ·exact wpAny_Name (wpAny_loadName_cell I.ok.kind hk hc hcell fin) hd
  ·exact wpAny_Name (wpAny_loadName_free I.ok.kind hk hc hcell fin hcd) hd
theorem NQ {i j pos}:PE X (.Constant (.int i) j pos) (tC (.int i)):=fun _ _ _ H _ I h=>wpAny_Constant_int ⟨.int i,H,I.tok _,⟨_,rfl⟩,h⟩
theorem Ru {b j pos}:PE X (.Constant (.bool b) j pos) (tC (.bl b)):=fun _ _ _ H _ I h=>Constant_bool ⟨.bl b,H,I,rfl,h⟩
theorem NR {j pos}:PE X (.Constant .none j pos) (tC .dR):=fun _ _ _ H _ I h=>Constant_none ⟨.dR,H,I,rfl,h⟩
theorem Gx {x j pos}:PE X (.Constant (.str x) j pos) (tC (.str x)):=fun _ _ _ H _ I h=>Calls.Constant_str ⟨.str x,H,I.tok _,⟨_,rfl⟩,h⟩
noncomputable def Gl (X:Cx) (x:Str):Prop:=X.env.kindOf x=some .globalImplicit
theorem yX {E:Value->Shared->Prop}{pins:List (Addr×Obj)}{s:Shared}{σ:St}{H:Hp}{x:Str}{u:Value}{pos:Pos}{Q:Value->Shared->Prop}(I:Inv X pins σ H s) (hg:Gl X x) (hm:X.mg x=some u) (h:Q u s)
  (hd:(x == ("__debug__":Str))=false:=by decide):wpAny (model X.prog X.w) X.A (eval (.Name x pos) X.env) Q E s:=
 Calls.Name_function_global I.ok.kind hg (Calls.loadGlobal_global (by rw[I.ok.glob];exact I.mod.glob.keeps I.bk) hm h) hd
theorem j7 {E:Value->Shared->Prop}{pins:List (Addr×Obj)}{s:Shared}{σ:St}{H:Hp}{x:Str}{u:Value}{pos:Pos}{Q:Value->Shared->Prop}(I:Inv X pins σ H s) (hg:Gl X x) (hm:X.mg x=none) (hv:bootBuiltins x=some u) (h:Q u s)
  (hn:x≠"__name__":=by decide) (hd:(x == ("__debug__":Str))=false:=by decide):wpAny (model X.prog X.w) X.A (eval (.Name x pos) X.env) Q E s:=by
 obtain⟨mb,h1,h2⟩:=I.mod.blt
 exact Calls.Name_function_global I.ok.kind hg (Calls.loadGlobal_builtin (by rw[I.ok.glob];exact I.mod.glob.keeps I.bk) hm (by rw[I.ok.blt];exact h1.keeps I.bk) ((h2 x hn).trans hv) h) hd
theorem Df {x:Str}{v:V}{u:Value}{pos:Pos}(hg:Gl X x) (hm:X.mg x=some u) (r:RelV v u) (hd:(x == ("__debug__":Str))=false:=by decide):PE X (.Name x pos) (tC v):=
 fun _ _ _ H _ I h=>yX I hg hm ⟨v,H,I,r,h⟩ hd
theorem Kv {x:Str}{v:V}{u:Value}{pos:Pos}(hg:Gl X x) (hm:X.mg x=none) (hv:bootBuiltins x=some u) (r:RelV v u) (hn:x≠"__name__":=by decide) (hd:(x == ("__debug__":Str))=false:=by decide):PE X (.Name x pos) (tC v):=
 fun _ _ _ H _ I h=>j7 I hg hm hv ⟨v,H,I,r,h⟩ hn hd
variable {a b:Expr}{ta tb:TE}{pos:Pos}
noncomputable def PC (X:Cx) (op:CmpOp) (a b:Expr) (t:TE):Prop:=
 ∀(pins:List (Addr×Obj)) (s:Shared) (σ:St) (H:Hp) (Q:VK),Inv X pins σ H s->t σ H Q->
  wpAny (model X.prog X.w) X.A (eval a X.env) (fun v s₁=>wpAny (model X.prog X.w) X.A (eval b X.env) (fun u s₂=>wpAny (model X.prog X.w) X.A (compareOp op v u) (EP X pins σ Q) X.xe s₂) X.xe s₁) X.xe s
theorem Gy (b:Expr){op:CmpOp}(h:op≠.In) (h2:op≠.NotIn):behindInMarks op b=false:=by
 have e1:(op == CmpOp.In)=false:=by cases op <;> first | rfl | exact absurd rfl h
 have e2:(op == CmpOp.NotIn)=false:=by cases op <;> first | rfl | exact absurd rfl h2
 cases b <;> simp[behindInMarks,e1,e2]
noncomputable def tB (t:TE):TT:=fun σ H Q=>t σ H fun x H1=>∃c,x= .bl c/\Q c H1
theorem Gz {op:CmpOp}{t:TE}(h:PC X op a b t) (h1:behindInMarks op b=false:=by first | exact Gy _ (by decide) (by decide) | rfl):PT X (.Compare a [op] [b] pos) (tB t):=by
 intro pins s σ H Q I hw
 refine wpAny_isTrue_Compare1 (gf (h pins s σ H _ I hw) fun v s1 h1=>gf h1 fun u s2 h2=>gf h2 fun c s3 ⟨x,H1,I1,r1,q1⟩=>?_) h1
 obtain⟨d,rfl,q⟩:=q1
 cases r1
 exact wpAny_truthy_bool ⟨H1,I1,q⟩
theorem NS {e:Expr}{t:TE}(h:PE X e t) (he:∀whole,isTrue e X.env whole=(do let v <-whole;standAt e.pos;holding [v] (truthy v)):=by intro _;rfl):PT X e (tB t):=by
 intro pins s σ H Q I hw
 refine isTrue_plain (gf (h pins s σ H _ I hw) fun v s1 ⟨x,H1,I1,r1,q1⟩=>?_) (he _)
 obtain⟨d,rfl,q⟩:=q1
 cases r1
 exact wpAny_truthy_bool ⟨H1,I1,q⟩
variable {tA U5:TT}{rest:List Expr}
noncomputable def Wm (t u:TT):TT:=fun σ H Q=>t σ H fun c H1=>if c=true then u σ H1 Q else Q false H1
noncomputable def tOr (t u:TT):TT:=fun σ H Q=>t σ H fun c H1=>if c=true then Q true H1 else u σ H1 Q
noncomputable def Wn (t:TT):TT:=fun σ H Q=>t σ H fun c H1=>Q (!c) H1
theorem pw_and1 (ha:PT X a tA):PW X (.BoolOp .And [a] pos) tA:=by
 intro wh pins s σ H Q I h
 refine isTrue_and (gf (ha pins s σ H Q I h) fun c s1 e=>?_)
 cases c with
 | true=>exact isTrue_and_nil e
 | false=>exact e
theorem pw_or1 (ha:PT X a tA):PW X (.BoolOp .Or [a] pos) tA:=by
 intro wh pins s σ H Q I h
 refine isTrue_or (gf (ha pins s σ H Q I h) fun c s1 e=>?_)
 cases c with
 | false=>exact isTrue_or_nil e
 | true=>exact e
theorem pw_and (ha:PT X a tA) (hb:PW X (.BoolOp .And (b :: rest) pos) U5):PW X (.BoolOp .And (a :: b :: rest) pos) (Wm tA U5):=by
 intro wh pins s σ H Q I h
 refine isTrue_and (gf (ha pins s σ H _ I h) fun c s1 ⟨H1,I1,q1⟩=>?_)
 cases c with
 | true=>exact hb wh pins s1 σ H1 Q I1 q1
 | false=>exact⟨H1,I1,q1⟩
theorem pw_or (ha:PT X a tA) (hb:PW X (.BoolOp .Or (b :: rest) pos) U5):PW X (.BoolOp .Or (a :: b :: rest) pos) (tOr tA U5):=by
 intro wh pins s σ H Q I h
 refine isTrue_or (gf (ha pins s σ H _ I h) fun c s1 ⟨H1,I1,q1⟩=>?_)
 cases c with
 | true=>exact⟨H1,I1,q1⟩
 | false=>exact hb wh pins s1 σ H1 Q I1 q1
theorem NT (ha:PT X a tA):PT X (.UnaryOp .Not a pos) (Wn tA):=by
 intro pins s σ H Q I h
 exact isTrue_not (ha pins s σ H (fun c H1=>Q (!c) H1) I h)
noncomputable def Rv (ta tb:TE):TE:=fun σ H Q=>ta σ H fun x H1=>∃c,x= .bl c/\if c=true then tb σ H1 Q else Q (.bl false) H1
noncomputable def Wo (ta tb:TE):TE:=fun σ H Q=>ta σ H fun x H1=>∃c,x= .bl c/\if c=true then Q (.bl true) H1 else tb σ H1 Q
noncomputable def Rx (ta:TE):TE:=fun σ H Q=>ta σ H fun x H1=>∃c,x= .bl c/\Q (.bl (!c)) H1
theorem NU {op}{t:TE}(h:PE X a t):PE X (.BoolOp op [a] pos) t:=fun pins s σ H Q I hw=>BoolOp_one (h pins s σ H Q I hw)
theorem NV (ha:PE X a ta) (hb:PE X (.BoolOp .And (b :: rest) pos) tb):PE X (.BoolOp .And (a :: b :: rest) pos) (Rv ta tb):=by
 intro pins s σ H Q I h
 refine BoolOp_and (gf (ha pins s σ H _ I h) fun v s1 ⟨x,H1,I1,r1,q1⟩=>?_)
 obtain⟨c,rfl,q1⟩:=q1
 cases r1
 refine wpAny_truthy_bool ?_
 cases c with
 | true=>exact hb pins s1 σ H1 Q I1 q1
 | false=>exact⟨.bl false,H1,I1,rfl,q1⟩
theorem Ry (ha:PE X a ta) (hb:PE X (.BoolOp .Or (b :: rest) pos) tb):PE X (.BoolOp .Or (a :: b :: rest) pos) (Wo ta tb):=by
 intro pins s σ H Q I h
 refine BoolOp_or (gf (ha pins s σ H _ I h) fun v s1 ⟨x,H1,I1,r1,q1⟩=>?_)
 obtain⟨c,rfl,q1⟩:=q1
 cases r1
 refine wpAny_truthy_bool ?_
 cases c with
 | false=>exact hb pins s1 σ H1 Q I1 q1
 | true=>exact⟨.bl true,H1,I1,rfl,q1⟩
theorem NW (ha:PE X a ta):PE X (.UnaryOp .Not a pos) (Rx ta):=by
 intro pins s σ H Q I h
 refine UnaryOp_ (gf (ha pins s σ H _ I h) fun v s1 ⟨x,H1,I1,r1,q1⟩=>?_)
 obtain⟨c,rfl,q1⟩:=q1
 cases r1
 exact not_of (wpAny_truthy_bool ⟨.bl (!c),H1,I1,rfl,q1⟩)
noncomputable def tIf (t:TT) (ta tb:TE):TE:=fun σ H Q=>t σ H fun c H1=>if c=true then ta σ H1 Q else tb σ H1 Q
theorem GC {c:Expr}(hc:PT X c tA) (ha:PE X a ta) (hb:PE X b tb):PE X (.IfExp c a b pos) (tIf tA ta tb):=by
 intro pins s σ H Q I h
 refine wpAny_IfExp (gf (hc pins s σ H _ I h) fun d s1 ⟨H1,I1,q1⟩=>?_)
 cases d with
 | true=>exact ha pins s1 σ H1 Q I1 q1
 | false=>exact hb pins s1 σ H1 Q I1 q1
end
noncomputable def nT (K:PySem.W.Frag) (H:Hp) (a:Addr) (xs:List V):Prop:=
 Rd H a (.lst xs)\/
  ∃(o:Obj) (its:Array Value) (n:Nat),K.lookup a=some o/\o.cls= .type "list"/\o.dict=none/\o.data= .seq its n/\its.size<=sizeLine/\Vals xs its.toList
noncomputable def yY (K:PySem.W.Frag) (H:Hp) (a:Addr) (xs:List V):Prop:=
 Rd H a (.tup xs)\/
  ∃(o:Obj) (its:Array Value) (n:Nat),K.lookup a=some o/\o.cls= .type "tuple"/\o.data= .seq its n/\its.size<=sizeLine/\Vals xs its.toList
noncomputable def Wq:Value->Option V
 | .none=>some .dR
 | .bool b=>some (.bl b)
 | .int i _=>some (.int i)
 | .str x _=>some (.str x)
 | .bytes b _=>some (.Wh b)
 | .float b _=>some (.flt b)
 | .ref a=>some (.ref a)
 | .type n=>some (.ty n)
 | _=>none
theorem RelV.abs {x:V}{u:Value}(r:RelV x u):Wq u=some x:=by
 cases x with
 | dR=>cases r;rfl
 | bl _=>cases r;rfl
 | int _=>obtain⟨t,rfl⟩:=r;rfl
 | str _=>obtain⟨t,rfl⟩:=r;rfl
 | Wh _=>obtain⟨t,rfl⟩:=r;rfl
 | flt _=>obtain⟨t,rfl⟩:=r;rfl
 | ref _=>cases r;rfl
 | ty _=>cases r;rfl
theorem RelV.inj {x y:V}{u:Value}(r:RelV x u) (q:RelV y u):x=y:=Option.some.inj (r.abs.symm.trans q.abs)
theorem Vals.inj:∀{xs ys:List V}{us:List Value},Vals xs us->Vals ys us->xs=ys
 | _,_,_,.nil,.nil=>rfl
 | _,_,_,.cons r t,.cons r' t'=>by rw[r.inj r',Vals.inj t t']
section
variable {X:Cx}{pins:List (Addr×Obj)}{σ:St}{H:Hp}{s:Shared}{a:Addr}{xs ys:List V}
theorem nT.of {K:PySem.W.Frag}(h:H a=some (.lst xs)):nT K H a xs:=.inl (.inl h)
theorem Inv.list (I:Inv X pins σ H s) (h:nT X.K H a xs):∃its:List Value,Vals xs its/\PlainL s.heap a its.toArray/\xs.length<=sizeLine:=by
 rcases h with h | ⟨o,its,n,hk,hc,hd,hs,hz,r⟩
 ·obtain⟨z,its,n,r,e⟩:=h.ok I.hok
  exact⟨its,r,⟨_,n,e,rfl,rfl,rfl⟩,z⟩
 ·refine⟨its.toList,r,⟨o,n,I.B5 a o hk,hc,hd,by simpa using hs⟩,?_⟩
  have e:=r.length
  simp only[Array.length_toList] at e
  omega
theorem Inv.tuple (I:Inv X pins σ H s) (h:yY X.K H a xs):∃its:List Value,Vals xs its/\IsTup s.heap a its.toArray/\xs.length<=sizeLine:=by
 rcases h with h | ⟨o,its,n,hk,hc,hs,hz,r⟩
 ·obtain⟨z,its,r,p⟩:=h.ok I.hok
  exact⟨its,r,p,z⟩
 ·refine⟨its.toList,r,⟨o,I.B5 a o hk,hc,n,by simpa using hs⟩,?_⟩
  have e:=r.length
  simp only[Array.length_toList] at e
  omega
theorem Inv.vo (I:Inv X pins σ H s) (h:nT X.K H a xs) (h':nT X.K H a ys):xs=ys:=by
 obtain⟨its,r,⟨o,n,e,_,_,d⟩,_⟩:=I.list h
 obtain⟨its',r',⟨o',n',e',_,_,d'⟩,_⟩:=I.list h'
 rw[e] at e';cases e'
 rw[d] at d'
 injection d' with d1 _
 have:its=its':=by simpa using congrArg Array.toList d1
 subst this
 exact r.inj r'
theorem Inv.xU (I:Inv X pins σ H s) (h:yY X.K H a xs) (h':yY X.K H a ys):xs=ys:=by
 obtain⟨its,r,⟨o,e,_,n,d⟩,_⟩:=I.tuple h
 obtain⟨its',r',⟨o',e',_,n',d'⟩,_⟩:=I.tuple h'
 rw[e] at e';cases e'
 rw[d] at d'
 injection d' with d1 _
 have:its=its':=by simpa using congrArg Array.toList d1
 subst this
 exact r.inj r'
end
noncomputable abbrev Cx.xq (X:Cx) (E:Value->Shared->Prop):Cx:={X with xe:=E}
noncomputable abbrev Cx.Rz (X:Cx):Cx:=X.xq fun _ _=>False
theorem Cx.Ok.xq {X:Cx}(ok:X.Ok) (E:Value->Shared->Prop):(X.xq E).Ok:=
 ⟨ok.mod,ok.kind,ok.glob,ok.blt,ok.above,ok.inj,ok.has,ok.Rp,ok.hd,ok.frames,ok.stk,ok.U3,ok.bs,ok.Kg,ok.Em,ok.En,ok.vn,ok.QJ⟩
theorem Cx.Ok.nU {X:Cx}{E:Value->Shared->Prop}(ok:(X.xq E).Ok):X.Ok:=
 ⟨ok.mod,ok.kind,ok.glob,ok.blt,ok.above,ok.inj,ok.has,ok.Rp,ok.hd,ok.frames,ok.stk,ok.U3,ok.bs,ok.Kg,ok.Em,ok.En,ok.vn,ok.QJ⟩
section
variable {X:Cx}{pins:List (Addr×Obj)}{σ:St}{H:Hp}{s:Shared}{E:Value->Shared->Prop}
theorem Inv.xq (I:Inv X pins σ H s) (E:Value->Shared->Prop):Inv (X.xq E) pins σ H s:=⟨I.ok.xq E,I.os,I.bare,I.base,I.loc,I.cell,I.free,I.nR,I.pin,I.hok,I.len⟩
theorem Inv.nU (I:Inv (X.xq E) pins σ H s):Inv X pins σ H s:=⟨I.ok.nU,I.os,I.bare,I.base,I.loc,I.cell,I.free,I.nR,I.pin,I.hok,I.len⟩
theorem SP.nU {D:Ends}{f:Flow}{s':Shared}(h:SP (X.xq E) pins D f s'):SP X pins D f s':=by
 cases f with
 | next=>obtain⟨σ',H',I,q⟩:=h;exact⟨σ',H',I.nU,q⟩
 | brk=>obtain⟨σ',H',I,q⟩:=h;exact⟨σ',H',I.nU,q⟩
 | cont=>obtain⟨σ',H',I,q⟩:=h;exact⟨σ',H',I.nU,q⟩
 | ret u=>obtain⟨v,σ',H',I,r,q⟩:=h;exact⟨v,σ',H',I.nU,r,q⟩
theorem B3.Rz {st:List Stmt}{t:TS}(h:B3 X.Rz st t):B3 X st t:=fun pins s σ H D I hw=>
 wpAny_mono (h pins s σ H D (I.xq _) hw) (fun _ _ q=>q.nU) fun _ _ z=>False.elim z
end
section
variable {X:Cx}{st:Stmt}{rest:List Stmt}{t u:TS}{e:Expr}{te:TE}{pos:Pos}
noncomputable def RA:TS:=fun D σ H=>D.nx σ H
noncomputable def Wr (t u:TS):TS:=fun D σ H=>t {D with nx:=u D} σ H
theorem Kw:B3 X [] RA:=fun _ _ σ H _ I h=>wpAny_execs_nil ⟨σ,H,I,h⟩
theorem GF (h1:PS X st t) (h2:B3 X rest u):B3 X (st :: rest) (Wr t u):=by
 intro pins s σ H D I h
 refine wpAny_execs_cons (gf (h1 pins s σ H {D with nx:=u D} I h) fun f s1 q=>?_)
 cases f with
 | next=>
  obtain⟨σ',H',I',q⟩:=q
  exact h2 pins s1 σ' H' D I' q
 | ret v=>exact q
 | brk=>exact q
 | cont=>exact q
theorem Ky (h1:PS X st t):B3 X [st] t:=by
 intro pins s σ H D I h
 refine wpAny_execs_cons (gf (h1 pins s σ H D I h) fun f s1 q=>?_)
 cases f with
 | next=>exact wpAny_execs_nil q
 | ret v=>exact q
 | brk=>exact q
 | cont=>exact q
theorem Inv.quiet {pins:List (Addr×Obj)}{σ:St}{H:Hp}{s:Shared}(I:Inv X pins σ H s):interactive X.env=false:=by simp[interactive,I.ok.kind]
noncomputable def RB (te:TE):TS:=fun D σ H=>te σ H fun _ H1=>D.nx σ H1
theorem Kz (he:PE X e te) (hs:swapsWith e none pos.line X.env=pure false:=by rfl):PS X (.Expr e pos) (RB te):=by
 intro pins s σ H D I h
 exact wpAny_Expr_any (gf (he pins s σ H _ I h) fun v s1 ⟨x,H1,I1,r1,q1⟩=>⟨σ,H1,I1,q1⟩) I.quiet hs
noncomputable def Ws (te:TE):TS:=fun D σ H=>te σ H D.rt
theorem NX (he:PE X e te):PS X (.Return (some e) pos) (Ws te):=by
 intro pins s σ H D I h
 exact wpAny_Return_some (gf (he pins s σ H _ I h) fun v s1 ⟨x,H1,I1,r1,q1⟩=>⟨x,σ,H1,I1,r1,q1⟩)
noncomputable def Wt (c:TT) (t u:TS):TS:=fun D σ H=>c σ H fun b H1=>if b=true then t D σ H1 else u D σ H1
theorem RC {c:Expr}{a b:List Stmt}{tc:TT}(hc:PT X c tc) (ha:B3 X a t) (hb:B3 X b u):PS X (.If c a b pos) (Wt tc t u):=by
 intro pins s σ H D I h
 refine wpAny_If (gf (hc pins s σ H _ I h) fun d s1 ⟨H1,I1,q1⟩=>?_)
 cases d with
 | true=>exact ha pins s1 σ H1 D I1 q1
 | false=>exact hb pins s1 σ H1 D I1 q1
end
noncomputable abbrev TG:=V->St->Hp->(St->Hp->Prop)->Prop
noncomputable abbrev KA:=List V->St->Hp->(St->Hp->Prop)->Prop
noncomputable def PG (X:Cx) (target:Expr) (t:TG):Prop:=
 ∀(pins:List (Addr×Obj)) (s:Shared) (σ:St) (H:Hp) (v:V) (u:Value) (Q:St->Hp->Prop),Inv X pins σ H s->RelV v u->t v σ H Q->
  wpAny (model X.prog X.w) X.A (assign target X.env u) (fun _ s'=>∃σ' H',Inv X pins σ' H' s'/\Q σ' H') X.xe s
noncomputable def MW (X:Cx) (ts:List Expr) (t:KA):Prop:=
 ∀(pins:List (Addr×Obj)) (s:Shared) (σ:St) (H:Hp) (vs:List V) (us:List Value) (Q:St->Hp->Prop),Inv X pins σ H s->Vals vs us->t vs σ H Q->
  wpAny (model X.prog X.w) X.A (assignInOrder ((assignEach ts X.env).map (·.2)) us) (fun _ s'=>∃σ' H',Inv X pins σ' H' s'/\Q σ' H') X.xe s
noncomputable abbrev NY:=V->V->V->Hp->(Hp->Prop)->Prop
noncomputable def RD (X:Cx) (t:NY):Prop:=
 ∀(pins:List (Addr×Obj)) (s:Shared) (σ:St) (H:Hp) (o i v:V) (ov iv u:Value) (Q:Hp->Prop),Inv X pins σ H s->RelV o ov->RelV i iv->RelV v u->t o i v H Q->
  wpAny (model X.prog X.w) X.A (setItem ov iv u) (fun _ s'=>∃H',Inv X pins σ H' s'/\Q H') X.xe s
section
variable {X:Cx}{pos:Pos}
noncomputable def vp (i:Nat):TG:=fun v σ H Q=>Q (σ.set i (some v)) H
theorem u5 {i:Nat}{x:Str}(hN:X.N.Nodup) (hi:X.N[i]? =some x) (hx:Loc X.env.scope x) (hf:X.fn x=true\/X.env.scope.names.lookup x=some .local:=by first | exact .inl rfl | exact .inr rfl | assumption):PG X (.Name x pos) (vp i):=by
 intro pins s σ H v u Q I r h
 exact wpAny_assign_Name (Ar I hN hi hx r (fun s' I'=>⟨_,H,I',h⟩) hf)
noncomputable def RE:KA:=fun vs σ H Q=>vs=[]/\Q σ H
noncomputable def GG (t:TG) (u:KA):KA:=fun vs σ H Q=>∃v r,vs=v :: r/\t v σ H fun σ' H'=>u r σ' H' Q
theorem Dg:MW X [] RE:=by
 intro pins s σ H vs us Q I r h
 obtain⟨e,h⟩:=h
 subst e
 cases r
 exact assignInOrder_nil ⟨σ,H,I,h⟩
theorem vq {e:Expr}{es:List Expr}{t:TG}{u:KA}(h1:PG X e t) (h2:MW X es u)
  (hs:(assignEach (e :: es) X.env).map (·.2)=assign e X.env :: (assignEach es X.env).map (·.2):=by rfl):MW X (e :: es) (GG t u):=by
 intro pins s σ H vs us Q I r h
 obtain⟨v,vr,e1,h⟩:=h
 subst e1
 cases r with
 | cons r rr=>
  rw[hs]
  refine assignInOrder_cons (gf (h1 pins s σ H _ _ _ I r h) fun _ s1 ⟨σ1,H1,I1,q1⟩=>?_)
  exact h2 pins s1 σ1 H1 _ _ Q I1 rr q1
noncomputable def RG (K:PySem.W.Frag) (n:Nat) (t:KA):TG:=fun v σ H Q=>∃a xs,v= .ref a/\yY K H a xs/\xs.length=n/\t xs σ H Q
theorem GH {es:List Expr}{k:Nat}{t:KA}{n:Nat}(hc:X.calm=true) (h:MW X es t)
  (hn:(assignEach es X.env).length=n:=by rfl) (hst:(assignEach es X.env).findIdx? (·.1)=none:=by rfl):PG X (.Tuple es k pos) (RG X.K n t):=by
 intro pins s σ H v u Q I r hw
 obtain⟨a,xs,e1,hq,hl,hw⟩:=hw
 subst e1
 cases r
 obtain⟨its,rv,ht,hz⟩:=I.tuple hq
 refine assign_Tuple_tuple (I.ok.hd hc) ht (by simp[hn,<-hl,rv.length]) hst fun h' hx=>?_
 have I1:Inv X pins σ H {s with heap:=h'}:=I.kept (t':=s.toks) fun b o e=>hx b o (Nat.ne_of_lt (Heap.lt_size e)) e
 exact h pins _ σ H xs _ Q I1 (by simpa using rv) hw
noncomputable def Wu (to ti:TE) (t:NY):TG:=fun v σ H Q=>to σ H fun o H1=>ti σ H1 fun i H2=>t o i v H2 fun H3=>Q σ H3
theorem NZ {o i:Expr}{to ti:TE}{t:NY}(ho:PE X o to) (hi:PE X i ti) (hs:RD X t)
  (ha:∀v,assign (.Subscript o i pos) X.env v=(do
   let ov <-holding [v] (eval o X.env)
   let iv <-holding [v,ov] (eval i X.env)
   standAt pos
   holding [v,ov,iv] (setItem ov iv v)
   release [v,ov,iv] []):=by intro _;rfl):PG X (.Subscript o i pos) (Wu to ti t):=by
 intro pins s σ H v u Q I r h
 rw[ha]
 refine wpAny_bind (wpAny_holding (gf (ho pins s σ H _ I h) fun ov s1 ⟨x,H1,I1,r1,q1⟩=>?_))
 refine wpAny_bind (wpAny_holding (gf (hi pins s1 σ H1 _ I1 q1) fun iv s2 ⟨y,H2,I2,r2,q2⟩=>?_))
 refine wpAny_bind (wpAny_standAt (wpAny_bind (wpAny_holding (gf (hs pins s2 σ H2 x y v ov iv u _ I2 r1 r2 r q2) fun _ s3 ⟨H3,I3,q3⟩=>?_))))
 exact wpAny_release ⟨σ,H3,I3,q3⟩
noncomputable def N1 (te:TE) (g:TG):TS:=fun D σ H=>te σ H fun x H1=>g x σ H1 D.nx
theorem GJ {tg e:Expr}{te:TE}{g:TG}(he:PE X e te) (hg:PG X tg g) (hs:swapsWithSole [tg] e pos.line X.env=pure false:=by rfl) (hw:swappedStores [tg] e X.env=pure none:=by rfl)
  (h1:(assignEach [tg] X.env).map (·.2)=[assign tg X.env]:=by rfl):PS X (.Assign [tg] e pos) (N1 te g):=by
 intro pins s σ H D I h
 refine wpAny_Assign_stores (gf (he pins s σ H _ I h) fun v s1 ⟨x,H1,I1,r1,q1⟩=>?_) hs hw
 rw[h1]
 exact gf (hg pins s1 σ H1 x v _ I1 r1 q1) fun _ s2 q=>q
theorem N2 {i:Nat}{x:Str}{e:Expr}{te:TE}{pos':Pos}(hN:X.N.Nodup) (hi:X.N[i]? =some x) (hx:Loc X.env.scope x) (he:PE X e te) (hs:swapsWith e (some (.Name x pos')) pos.line X.env=pure false:=by rfl) (hf:X.fn x=true\/X.env.scope.names.lookup x=some .local:=by first | exact .inl rfl | exact .inr rfl | assumption):
  PS X (.Assign [.Name x pos'] e pos) (N1 te (vp i)):=by
 intro pins s σ H D I h
 refine wpAny_Assign_Name (gf (he pins s σ H _ I h) fun v s1 ⟨y,H1,I1,r1,q1⟩=>?_) hs
 exact Ar I1 hN hi hx r1 (fun s2 I2=>⟨_,H1,I2,q1⟩) hf
end
section
variable {X:Cx}{pos:Pos}
end
structure It where
 go:Nat->Hp->Prop
 QK:Nat->Hp->V->Hp->Prop
 stop:Nat->Hp->Prop
noncomputable def lP (X:Cx) (pins:List (Addr×Obj)) (H:Hp) (b:Addr):Prop:=
 H b=none/\b≠X.env.locals/\b∉X.fs/\(b∈X.ex\/X.s₀.heap.objs.size<=b)/\(∀x c,X.env.cells.lookup x=some c->c≠b)/\∀p∈X.pn++pins,p.1≠b
theorem Inv.xr {X:Cx}{pins:List (Addr×Obj)}{σ:St}{H H':Hp}{s:Shared}{b:Addr}(I:Inv X pins σ H s) (hb:s.heap.objs.size<=b) (hn:H' b=none):lP X pins H' b:=by
 refine⟨hn,Nat.ne_of_gt (Nat.lt_of_lt_of_le I.lt hb),I.NO hb,.inr (Nat.le_trans I.sz hb),fun x c e z=>?_,fun p hp z=>?_⟩
 ·obtain⟨v,q⟩:=I.cell x c e
  exact absurd (Nat.lt_of_lt_of_le q.lt (by rw[z];exact hb)) (Nat.lt_irrefl _)
 ·exact absurd (Nat.lt_of_lt_of_le (Heap.lt_size (I.pin p hp).1) (by rw[z];exact hb)) (Nat.lt_irrefl _)
structure Turn (P:Program) (w:World) (K:PySem.W.Frag) (tg:Expr) (J:It) (fp:List Addr) (it:Addr) (tn:Nat->Heap->Prop):Prop where
 mem:it∈fp
 obj:∀i h,tn i h->∀b∈fp,∃o,h.get? b=some o/\∀v,o.data≠.cell v
 keep:∀i h h',tn i h->(∀b∈fp,∀o,h.get? b=some o->h'.get? b=some o)->tn i h'
 item:∀(X:Cx),X.prog=P->X.w=w->X.K=K->X.calm=true->∀(i:Nat) (pins:List (Addr×Obj)) (s:Shared) (σ:St) (H:Hp) (E:Value->Shared->Prop),Inv X pins σ H s->(∀b∈fp,lP X pins H b)->tn i s.heap->J.go i H->
  wpAny (model P w) X.A (pyNext (.ref it)) (fun r s1=>∃u,r=some u/\
   wpAny (model P w) X.A (letOwnedTupleGo tg (.ref it) u) (fun _ s2=>∃x H',Inv X pins σ H' s2/\RelV x u/\J.QK i H x H'/\tn (i+1) s2.heap/\∀b∈fp,H' b=none) E s1) E s
 done:∀(X:Cx),X.prog=P->X.w=w->X.K=K->X.calm=true->∀(i:Nat) (pins:List (Addr×Obj)) (s:Shared) (σ:St) (H:Hp) (E:Value->Shared->Prop),Inv X pins σ H s->(∀b∈fp,lP X pins H b)->tn i s.heap->J.stop i H->
  wpAny (model P w) X.A (pyNext (.ref it)) (fun r s1=>r=none/\Inv X pins σ H s1) E s
 self:∀(A:Around) (i:Nat) (s:Shared) (Q:Value->Shared->Prop) (E:Value->Shared->Prop),tn i s.heap->Q (.ref it) s->wpAny (model P w) A (pyIter (.ref it)) Q E s
noncomputable abbrev TI:=St->Hp->(It->Hp->Prop)->Prop
noncomputable def Wv (X:Cx) (pins:List (Addr×Obj)) (σ:St) (tg:Expr) (R:It->Hp->Prop) (itv:Value) (s2:Shared):Prop:=
 ∃(it:Addr) (fp:List Addr) (tn:Nat->Heap->Prop) (J:It) (H':Hp),itv= .ref it/\Inv X pins σ H' s2/\Turn X.prog X.w X.K tg J fp it tn/\tn 0 s2.heap/\(∀b∈fp,lP X pins H' b)/\R J H'
noncomputable def PI (X:Cx) (tg iter:Expr) (wi:TI):Prop:=
 ∀(pins:List (Addr×Obj)) (s:Shared) (σ:St) (H:Hp) (R:It->Hp->Prop),Inv X pins σ H s->wi σ H R->
  wpAny (model X.prog X.w) X.A (eval iter X.env) (fun v s1=>wpAny (model X.prog X.w) X.A (pyIter v) (Wv X pins σ tg R) X.xe s1) X.xe s
theorem Dh {M : Model} {A : Around} {E : Value -> Shared -> Prop} {s : Shared} {tg : Expr} {it : Addr} {u : Value} {o : Obj} {n : String} {vs : Array Value} {Q : Unit -> Shared -> Prop} (ho : s.heap.get? it = some o) (hc : o.cls = .type n) (hd : o.data = .fields vs)
    (hn:["enumerate","zip","dict_itemiterator","dict_reverseitemiterator","odict_iterator","itertools.zip_longest","itertools.pairwise"].contains n=false) (hQ:Q () s):wpAny M A (letOwnedTupleGo tg (.ref it) u) Q E s:=by
  unfold letOwnedTupleGo
  cases tg <;> first
    | exact wpAny_pure hQ
    | (cases u <;> first
        | exact wpAny_pure hQ
        | (refine wpAny_bind (wpAny_load ho ?_)
           rw[hc,hd]
           show wpAny M A (if(["enumerate","zip","dict_itemiterator","dict_reverseitemiterator","odict_iterator","itertools.zip_longest","itertools.pairwise"].contains n && vs[0]? == some (rawInt _))=true then _ else _) Q E s
           rw[if_neg (by intro h;rw[hn,Bool.false_and] at h;cases h)]
           exact wpAny_pure hQ))
noncomputable def Ww (K:PySem.W.Frag) (a:Addr):It:=
 ⟨fun i H=>∃xs x,nT K H a xs/\xs[i]? =some x,fun i H x H'=>H'=H/\∀xs,nT K H a xs->xs[i]? =some x,fun i H=>∃xs,nT K H a xs/\xs.length<=i⟩
noncomputable def Wx (K:PySem.W.Frag) (a:Addr):It:=
 ⟨fun i H=>∃xs x,yY K H a xs/\xs[i]? =some x,fun i H x H'=>H'=H/\∀xs,yY K H a xs->xs[i]? =some x,fun i H=>∃xs,yY K H a xs/\xs.length<=i⟩
noncomputable def RH (lo:Int) (n:Nat):It:=⟨fun i _=>i < n,fun i H x H'=>H'=H/\x= .int (lo+i),fun i _=>n<=i⟩
theorem Ep {P:Program}{w:World}{K:PySem.W.Frag}{tg:Expr}(a it:Addr):Turn P w K tg (Ww K a) [it] it (fun i h=>h.IsListIter it a i) where
 mem:=by simp
 obj:=fun i h st b hb=>by
  have e:b=it:=by simpa using hb
  subst e
  obtain⟨o,e,c,d⟩:=st
  exact⟨o,e,fun v z=>by rw[d] at z;cases z⟩
 keep:=fun i h h' st k=>st.at fun o e=>k it (by simp) o e
 item:=by
  intro X hP hw hK hc i pins s σ H E I hf st hg
  subst hP hw hK
  obtain⟨xs,x,hq,hx⟩:=hg
  obtain⟨its,rv,p,hz⟩:=I.list hq
  obtain⟨u,hu,ru⟩:=rv.get hx
  obtain⟨f0,f1,f2,f3,f4,f5⟩:=hf it (by simp)
  refine wpAny_pyNext_list_item st p.isList (x:=u) (by simpa using hu) fun h' st' sb=>?_
  have I1:Inv X pins σ H {s with heap:=h'}:=I.turned (t':=s.toks) (fun b o hb e=>(sb.2 b hb).trans e) f0 f1 f3 f4 f5
  obtain⟨o,e,c,d⟩:=id st'
  exact⟨u,rfl,Dh (s:={s with heap:=h'}) e c d (by decide) ⟨x,H,I1,ru,⟨rfl,fun ys hy=>by rw[I.vo hy hq];exact hx⟩,st',fun b hb=>(hf b hb).1⟩⟩
 done:=by
  intro X hP hw hK hc i pins s σ H E I hf st hg
  subst hP hw hK
  obtain⟨xs,hq,hx⟩:=hg
  obtain⟨its,rv,p,hz⟩:=I.list hq
  obtain⟨f0,f1,f2,f3,f4,f5⟩:=hf it (by simp)
  have hl:=rv.length
  exact wpAny_pyNext_list_end (I.ok.hd hc) st p.isList (by simp;omega) fun h' eb=>⟨rfl,I.turned (t':=s.toks) (fun b o hb e=>eb b o hb e) f0 f1 f3 f4 f5⟩
 self:=fun _ _ _ _ _ st h=>wpAny_pyIter_listiter st h
theorem B6 {P:Program}{w:World}{K:PySem.W.Frag}{tg:Expr}(a it:Addr):Turn P w K tg (Wx K a) [it] it (fun i h=>h.IsTupleIter it a i) where
 mem:=by simp
 obj:=fun i h st b hb=>by
  have e:b=it:=by simpa using hb
  subst e
  obtain⟨o,e,c,d⟩:=st
  exact⟨o,e,fun v z=>by rw[d] at z;cases z⟩
 keep:=fun i h h' st k=>st.at fun o e=>k it (by simp) o e
 item:=by
  intro X hP hw hK hc i pins s σ H E I hf st hg
  subst hP hw hK
  obtain⟨xs,x,hq,hx⟩:=hg
  obtain⟨its,rv,p,hz⟩:=I.tuple hq
  obtain⟨u,hu,ru⟩:=rv.get hx
  obtain⟨f0,f1,f2,f3,f4,f5⟩:=hf it (by simp)
  refine wpAny_pyNext_tuple_item st (show s.heap.IsTuple a its.toArray from p) (x:=u) (by simpa using hu) fun h' st' sb=>?_
  have I1:Inv X pins σ H {s with heap:=h'}:=I.turned (t':=s.toks) (fun b o hb e=>(sb.2 b hb).trans e) f0 f1 f3 f4 f5
  obtain⟨o,e,c,d⟩:=id st'
  exact⟨u,rfl,Dh (s:={s with heap:=h'}) e c d (by decide) ⟨x,H,I1,ru,⟨rfl,fun ys hy=>by rw[I.xU hy hq];exact hx⟩,st',fun b hb=>(hf b hb).1⟩⟩
 done:=by
  intro X hP hw hK hc i pins s σ H E I hf st hg
  subst hP hw hK
  obtain⟨xs,hq,hx⟩:=hg
  obtain⟨its,rv,p,hz⟩:=I.tuple hq
  obtain⟨f0,f1,f2,f3,f4,f5⟩:=hf it (by simp)
  have hl:=rv.length
  exact wpAny_pyNext_tuple_end (I.ok.hd hc) st (show s.heap.IsTuple a its.toArray from p) (by simp;omega) fun h' eb=>⟨rfl,I.turned (t':=s.toks) (fun b o hb e=>eb b o hb e) f0 f1 f3 f4 f5⟩
 self:=fun _ _ _ _ _ st h=>wpAny_pyIter_tupleiter st h
theorem B7 {P:Program}{w:World}{K:PySem.W.Frag}{tg:Expr}(it:Addr) (lo:Int) (n:Nat):Turn P w K tg (RH lo n) [it] it (fun i h=>IsRangeIter h it (lo+(i:Nat) * 1) ((n:Int) - (i:Nat)) 1) where
  mem:=by simp
  obj := fun i h st b hb => by
    have e:b=it:=by simpa using hb
    subst e
    exact⟨_,st,fun v z=>by
      have z':Data.fields _=Data.cell v:=z
      cases z'⟩
  keep:=fun i h h' st k=>k it (by simp) _ st
  item:=by
    intro X hP hw hK hc i pins s σ H E I hf st hg
    subst hP hw hK
    obtain⟨f0,f1,f2,f3,f4,f5⟩:=hf it (by simp)
    have W:=Walks.range (prog:=X.prog) (w:=X.w) (I.ok.hd hc) it lo 1 n
    refine W.item i s _ _ hg st fun v h' tk hv st' kk=>?_
    obtain⟨t,rfl⟩:=hv
    have I1:Inv X pins σ H {s with heap:=h',toks:=tk}:=I.turned (fun b o hb e=>kk b o (by simpa using hb) e) f0 f1 f3 f4 f5
    refine⟨_,rfl,Dh (s:={s with heap:=h',toks:=tk}) (n:="range_iterator") st' rfl rfl (by decide) ⟨.int (lo+i),H,I1,⟨t,?_⟩,⟨rfl,rfl⟩,st',fun b hb=>(hf b hb).1⟩⟩
    rw[Int.mul_one]
  done:=by
    intro X hP hw hK hc i pins s σ H E I hf st hg
    subst hP hw hK
    obtain⟨f0,f1,f2,f3,f4,f5⟩:=hf it (by simp)
    exact wpAny_pyNext_range_end (I.ok.hd hc) st (by have:n<=i:=hg;omega) fun h' eb=>⟨rfl,I.turned (t':=s.toks) (fun b o hb e=>eb b o hb e) f0 f1 f3 f4 f5⟩
  self:=fun _ _ _ _ _ st h=>wpAny_pyIter_rangeiter st h
section
variable {X:Cx}{tg:Expr}
noncomputable def RI (K:PySem.W.Frag) (tl:TE):TI:=fun σ H R=>tl σ H fun x H1=>∃a,x= .ref a/\(∃xs,nT K H1 a xs)/\R (Ww K a) H1
noncomputable def Wy (K:PySem.W.Frag) (tl:TE):TI:=fun σ H R=>tl σ H fun x H1=>∃a,x= .ref a/\(∃xs,yY K H1 a xs)/\R (Wx K a) H1
theorem Di {l:Expr}{tl:TE}(hl:PE X l tl):PI X tg l (RI X.K tl):=by
 intro pins s σ H R I h
 refine gf (hl pins s σ H _ I h) fun v s1 ⟨x,H1,I1,r1,q1⟩=>?_
 obtain⟨a,e,⟨xs,hq⟩,q⟩:=q1
 subst e
 cases r1
 obtain⟨its,rv,p,hz⟩:=I1.list hq
 refine wpAny_pyIter_list p.isList ?_
 refine⟨s1.heap.objs.size,[s1.heap.objs.size],_,_,H1,rfl,I1.kept (t':=s1.toks) fun b o e=>Heap.get?_push_of_some _ e,Ep a _,⟨_,Heap.get?_push_size _ rfl,rfl,rfl⟩,fun b hb=>?_,q⟩
 have e:b=s1.heap.objs.size:=by simpa using hb
 subst e
 exact I1.xr (Nat.le_refl _) (I1.hok.fresh (Nat.le_refl _))
theorem GK {l:Expr}{tl:TE}(hl:PE X l tl):PI X tg l (Wy X.K tl):=by
 intro pins s σ H R I h
 refine gf (hl pins s σ H _ I h) fun v s1 ⟨x,H1,I1,r1,q1⟩=>?_
 obtain⟨a,e,⟨xs,hq⟩,q⟩:=q1
 subst e
 cases r1
 obtain⟨its,rv,p,hz⟩:=I1.tuple hq
 refine wpAny_pyIter_tuple (show s1.heap.IsTuple a its.toArray from p) ?_
 refine⟨s1.heap.objs.size,[s1.heap.objs.size],_,_,H1,rfl,I1.kept (t':=s1.toks) fun b o e=>Heap.get?_push_of_some _ e,B6 a _,⟨_,Heap.get?_push_size _ rfl,rfl,rfl⟩,fun b hb=>?_,q⟩
 have e:b=s1.heap.objs.size:=by simpa using hb
 subst e
 exact I1.xr (Nat.le_refl _) (I1.hok.fresh (Nat.le_refl _))
theorem As {pins:List (Addr×Obj)}{σ:St}{H:Hp}{s:Shared}{R:It->Hp->Prop}{E:Value->Shared->Prop}{lo hi:Int}{t u v:Tok}{tk:Nat}(I:Inv X pins σ H s) (h1:-(2 ^ 62)<=lo) (h2:lo < 2 ^ 62) (h3:-(2 ^ 62)<=hi) (h4:hi < 2 ^ 62)
  (q:R (RH lo (hi - lo).toNat) H):wpAny (model X.prog X.w) X.A (pyIter (.ref s.heap.objs.size)) (Wv X pins σ tg R) E {s with heap:=s.heap.push {cls:=.type "range",data:=.fields #[.int lo t,.int hi u,.int 1 v]},toks:=tk}:=by
 refine wpAny_pyIter_range (IsRange.new ..) (small_one h1 h2 h3 h4) ?_
 have I1:Inv X pins σ H {s with heap:=s.heap.push {cls:=.type "range",data:=.fields #[.int lo t,.int hi u,.int 1 v]},toks:=tk}:=I.kept fun b o e=>Heap.get?_push_of_some _ e
 refine⟨(s.heap.push {cls:=.type "range",data:=.fields #[.int lo t,.int hi u,.int 1 v]}).objs.size,[(s.heap.push {cls:=.type "range",data:=.fields #[.int lo t,.int hi u,.int 1 v]}).objs.size],_,_,H,rfl,
  I1.kept (t':=tk) fun b o e=>Heap.get?_push_of_some _ e,B7 _ lo (hi - lo).toNat,?_,fun b hb=>?_,q⟩
 ·have e1:lo+((0:Nat):Int) * 1=lo:=by simp
  have e2:(((hi - lo).toNat:Nat):Int) - ((0:Nat):Int)=Builtin.Range.rangeSize lo hi 1:=by rw[rangeSize_one];split <;> omega
  show IsRangeIter _ _ (lo+((0:Nat):Int) * 1) ((((hi - lo).toNat:Nat):Int) - ((0:Nat):Int)) 1
  rw[e1,e2]
  exact Heap.get?_push_size _ rfl
 ·have e:b=(s.heap.push {cls:=.type "range",data:=.fields #[.int lo t,.int hi u,.int 1 v]}).objs.size:=by simpa using hb
  subst e
  exact I1.xr (Nat.le_refl _) (I1.hok.fresh (Nat.le_refl _))
noncomputable def RJ (ta:TA):TI:=fun σ H R=>ta σ H fun vs H1=>∃j:Int,vs=[.int j]/\-(2 ^ 62)<=j/\j < 2 ^ 62/\R (RH 0 j.toNat) H1
noncomputable def RK (ta:TA):TI:=fun σ H R=>ta σ H fun vs H1=>∃i j:Int,vs=[.int i,.int j]/\(-(2 ^ 62)<=i/\i < 2 ^ 62/\-(2 ^ 62)<=j/\j < 2 ^ 62)/\R (RH i (j - i).toNat) H1
theorem Er {a:Expr}{ta:TA}{p pos:Pos}(hg:Gl X "range") (hm:X.mg "range" =none) (ha:PA X [a] ta) (hs:starEach [a] X.env=[(false,eval a X.env)]:=by rfl):PI X tg (.Call (.Name "range" p) [a] [] pos) (RJ ta):=by
 intro pins s σ H R I h
 refine Call_ (j7 I hg hm boot_range (PyProof.Rows.callWith_type1 (gf (ha pos pins s σ H _ I h) fun us s1 ⟨vs,H1,I1,r1,q1⟩=>?_) hs rfl))
 obtain⟨j,e,q1,q2,q⟩:=q1
 subst e
 cases r1 with
 | cons r rr=>
  cases rr
  obtain⟨t,rfl⟩:=r
  exact call_range_1 (As I1 (by omega) (by omega) q1 q2 (by simpa using q))
theorem Es {a b:Expr}{ta:TA}{p pos:Pos}(hg:Gl X "range") (hm:X.mg "range" =none) (ha:PA X [a,b] ta) (hs:starEach [a,b] X.env=[(false,eval a X.env),(false,eval b X.env)]:=by rfl) (hs2:starEach [b] X.env=[(false,eval b X.env)]:=by rfl):
  PI X tg (.Call (.Name "range" p) [a,b] [] pos) (RK ta):=by
 intro pins s σ H R I h
 refine Call_ (j7 I hg hm boot_range (PyProof.Rows.callWith_type1 (gf (ha pos pins s σ H _ I h) fun us s1 ⟨vs,H1,I1,r1,q1⟩=>?_) (by rw[hs,hs2]) (by rw[hs2];rfl)))
 obtain⟨i,j,e,⟨q1,q2,q3,q4⟩,q⟩:=q1
 subst e
 cases r1 with
 | cons r rr=>
  cases rr with
  | cons r' rr=>
   cases rr
   obtain⟨t,rfl⟩:=r
   obtain⟨t',rfl⟩:=r'
   exact call_range_2 (As I1 q1 q2 q3 q4 q)
noncomputable def Wz (wi:TI) (g:TG) (tb:TS):TS:=fun D σ H=>wi σ H fun J H1=>∃W:Nat->Nat->St->Hp->Prop,(∃m,W 0 m σ H1)/\∀i m σ H,W i m σ H->
 (J.stop i H/\D.nx σ H)\/(J.go i H/\∃N:St->Hp->Prop,(∀σ' H',N σ' H'->∃m',m' < m/\W (i+1) m' σ' H')/\∀x H',J.QK i H x H'->g x σ H' fun σ2 H2=>tb {D with nx:=N,ct:=N,bk:=D.nx} σ2 H2)
noncomputable def mC (fp:List Addr) (h:Heap):List (Addr×Obj):=fp.filterMap fun b=>(h.get? b).map fun o=>(b,o)
theorem dY {fp:List Addr}{h:Heap}{b:Addr}{o:Obj}(hb:b∈fp) (e:h.get? b=some o):(b,o)∈mC fp h:=List.mem_filterMap.mpr ⟨b,hb,by rw[e];rfl⟩
theorem mK {fp:List Addr}{h:Heap}{p:Addr×Obj}(hp:p∈mC fp h):p.1∈fp/\h.get? p.1=some p.2:=by
 obtain⟨b,hb,e⟩:=List.mem_filterMap.mp hp
 cases q:h.get? b with
 | none=>rw[q] at e;cases e
 | some o=>
  rw[q] at e
  have e':(b,o)=p:=Option.some.inj e
  subst e'
  exact⟨hb,q⟩
theorem Inv.pinned {pins:List (Addr×Obj)}{σ:St}{H:Hp}{s:Shared}{fp:List Addr}(I:Inv X pins σ H s) (hf:∀b∈fp,lP X pins H b) (ho:∀b∈fp,∃o,s.heap.get? b=some o/\∀v,o.data≠.cell v):Inv X (pins++mC fp s.heap) σ H s:=
 I.De fun p hp=>(List.mem_append.mp hp).elim (fun z=>I.pin p (List.mem_append_right _ z)) fun z=>by
  obtain⟨hb,e⟩:=mK z
  obtain⟨f0,f1,f2,_⟩:=hf p.1 hb
  obtain⟨o,e',d⟩:=ho p.1 hb
  rw[e] at e';cases e'
  exact⟨e,f0,f1,f2,d⟩
theorem Inv.kN {pins pl:List (Addr×Obj)}{σ:St}{H:Hp}{s:Shared}(I:Inv X (pins++pl) σ H s):Inv X pins σ H s:=I.De fun p hp=>I.pin p (List.mem_append_right _ (List.mem_append_left _ hp))
theorem GL {iter:Expr}{body:List Stmt}{wi:TI}{g:TG}{tb:TS}{pos:Pos}(hp:PassesOwn (model X.prog X.w) X.A X.env X.xe) (hc:X.calm=true) (hi:PI X tg iter wi) (hg:PG X tg g) (hb:B3 X body tb)
  (hs:∀x,foldedSetIterable iter X.env x=pure x:=by intro _;rfl):PS X (.For tg iter body [] pos) (Wz wi g tb):=by
 intro pins s σ H D I h
 refine wpAny_For (gf (hi pins s σ H _ I h) fun v s1 h1=>gf h1 fun itv s2 h2=>?_) hs
 obtain⟨it,fp,tn,J,H2,e,I2,T,st2,f2,W,⟨m0,w0⟩,turn⟩:=h2
 subst e
 have N3:∀{H':Hp},(∀b∈fp,H' b=none)->∀b∈fp,lP X pins H' b:=fun hn b hb=>⟨hn b hb,(f2 b hb).2⟩
 refine codeAny_forLoop_any (fun n s'=>∃i σ' H',Inv X pins σ' H' s'/\tn i s'.heap/\(∀b∈fp,H' b=none)/\W i n σ' H') ?_ m0 ⟨0,σ,H2,I2,st2,fun b hb=>(f2 b hb).1,w0⟩
 rintro n s3 ⟨i,σ3,H3,I3,st3,fr3,w3⟩
 rcases turn i n σ3 H3 w3 with⟨stop,qn⟩ | ⟨go,N,hN,step⟩
 ·refine wpAny_passesOwn hp (gf (T.done X rfl rfl rfl hc i pins s3 σ3 H3 X.xe I3 (N3 fr3) st3 stop) fun r s4 ⟨hr,I4⟩=>?_)
  subst hr
  exact wpAny_execs_nil ⟨σ3,H3,I4,qn⟩
 ·refine wpAny_passesOwn hp (gf (T.item X rfl rfl rfl hc i pins s3 σ3 H3 X.xe I3 (N3 fr3) st3 go) fun r s4 ⟨u,hr,h4⟩=>?_)
  subst hr
  refine wpAny_passesOwn hp (gf h4 fun _ s5 ⟨x,H5,I5,r5,y5,WA,fr5⟩=>?_)
  have I5':=I5.pinned (N3 fr5) (T.obj _ _ WA)
  refine wpAny_passesOwn hp (gf (hg _ s5 σ3 H5 x u _ I5' r5 (step x H5 y5)) fun _ s6 ⟨σ6,H6,I6,q6⟩=>?_)
  refine wpAny_passesOwn hp (gf (hb _ s6 σ6 H6 _ I6 q6) fun f s7 q7=>?_)
  have again:∀{GN:St}{H7:Hp},Inv X (pins++mC fp s5.heap) GN H7 s7->N GN H7->∃m,m < n/\∃i σ' H',Inv X pins σ' H' s7/\tn i s7.heap/\(∀b∈fp,H' b=none)/\W i m σ' H':=fun {GN H7} I7 n7=>by
   obtain⟨m',hm,w7⟩:=hN GN H7 n7
   refine⟨m',hm,i+1,GN,H7,I7.kN,T.keep _ _ _ WA fun b hb o e=>(I7.pin (b,o) (List.mem_append_right _ (List.mem_append_right _ (dY hb e)))).1,fun b hb=>?_,w7⟩
   obtain⟨o,e,d⟩:=T.obj _ _ WA b hb
   exact(I7.pin (b,o) (List.mem_append_right _ (List.mem_append_right _ (dY hb e)))).2.1
  cases f with
  | next=>obtain⟨GN,H7,I7,n7⟩:=q7;exact again I7 n7
  | cont=>obtain⟨GN,H7,I7,n7⟩:=q7;exact again I7 n7
  | brk=>obtain⟨GN,H7,I7,q7⟩:=q7;exact⟨GN,H7,I7.kN,q7⟩
  | ret v=>obtain⟨x7,GN,H7,I7,r7,q7⟩:=q7;exact⟨x7,GN,H7,I7.kN,r7,q7⟩
end
noncomputable abbrev R2:=V->V->Hp->VK->Prop
noncomputable def yZ (X:Cx) (f:Value->Value->Sem Value) (r:R2):Prop:=
 ∀(pins:List (Addr×Obj)) (s:Shared) (σ:St) (H:Hp) (x y:V) (v u:Value) (Q:VK),Inv X pins σ H s->RelV x v->RelV y u->r x y H Q->
  wpAny (model X.prog X.w) X.A (f v u) (EP X pins σ Q) X.xe s
noncomputable def RL (X:Cx) (f:Value->Sem Value) (r:V->Hp->VK->Prop):Prop:=
 ∀(pins:List (Addr×Obj)) (s:Shared) (σ:St) (H:Hp) (x:V) (v:Value) (Q:VK),Inv X pins σ H s->RelV x v->r x H Q->
  wpAny (model X.prog X.w) X.A (f v) (EP X pins σ Q) X.xe s
noncomputable def jC (X:Cx) (f:Value) (r:List V->Hp->VK->Prop):Prop:=
 ∀(pins:List (Addr×Obj)) (s:Shared) (σ:St) (H:Hp) (xs:List V) (us:List Value) (Q:VK),Inv X pins σ H s->Vals xs us->r xs H Q->
  wpAny (model X.prog X.w) X.A (call f us) (EP X pins σ Q) X.xe s
noncomputable def QL (r:R2) (ta tb:TE):TE:=fun σ H Q=>ta σ H fun x H1=>tb σ H1 fun y H2=>r x y H2 Q
noncomputable def tUn (r:V->Hp->VK->Prop) (ta:TE):TE:=fun σ H Q=>ta σ H fun x H1=>r x H1 Q
noncomputable def rI (C:Int->Int->Prop) (g:Int->Int->V):R2:=fun x y H Q=>∃i j,x= .int i/\y= .int j/\C i j/\Q (g i j) H
noncomputable def QM (g:Int->Int->V):R2:=fun x y H Q=>∃i j,x= .int i/\y= .int j/\Q (g i j) H
noncomputable def rU (g:Int->V):V->Hp->VK->Prop:=fun x H Q=>∃i,x= .int i/\Q (g i) H
section
variable {X:Cx}{a b c:Expr}{ta tb tc:TE}{pos:Pos}
theorem N4 (ha:PE X a ta) (hb:PE X b tb){pins:List (Addr×Obj)}{s:Shared}{σ:St}{H:Hp}{R:V->V->Hp->Prop}(I:Inv X pins σ H s)
  (h:ta σ H fun x H1=>tb σ H1 fun y H2=>R x y H2){Q:Value->Shared->Prop}{f:Value->Value->Sem Value}
  (hf:∀v u s2 x y H2,Inv X pins σ H2 s2->RelV x v->RelV y u->R x y H2->wpAny (model X.prog X.w) X.A (f v u) Q X.xe s2):
  wpAny (model X.prog X.w) X.A (eval a X.env) (fun v s₁=>wpAny (model X.prog X.w) X.A (eval b X.env) (fun u s₂=>wpAny (model X.prog X.w) X.A (f v u) Q X.xe s₂) X.xe s₁) X.xe s:=by
 refine gf (ha pins s σ H _ I h) fun v s1 ⟨x,H1,I1,r1,q1⟩=>?_
 refine gf (hb pins s1 σ H1 _ I1 q1) fun u s2 ⟨y,H2,I2,r2,q2⟩=>?_
 exact hf v u s2 x y H2 I2 r1 r2 q2
theorem RM {op:Operator}{r:R2}(ho:yZ X (binaryOp op) r) (ha:PE X a ta) (hb:PE X b tb):PE X (.BinOp a op b pos) (QL r ta tb):=by
 intro pins s σ H Q I h
 exact wpAny_BinOp (N4 ha hb I h fun v u s2 x y H2 I2 rx ry q=>ho pins s2 σ H2 x y v u Q I2 rx ry q)
theorem RN {op:UnaryOp}{r:V->Hp->VK->Prop}(ho:RL X (unaryOp op) r) (ha:PE X a ta):PE X (.UnaryOp op a pos) (tUn r ta):=by
 intro pins s σ H Q I h
 exact UnaryOp_ (gf (ha pins s σ H _ I h) fun v s1 ⟨x,H1,I1,r1,q1⟩=>ho pins s1 σ H1 x v Q I1 r1 q1)
theorem U6 {f:Value->Value->Sem Value}{C:Int->Int->Prop}{g:Int->Int->Int}
  (rule:∀(i j:Int) (t u:Tok) (s:Shared) (Q:Value->Shared->Prop) (E:Value->Shared->Prop),C i j->Q (.int (g i j) s.toks) {s with toks:=s.toks+1}->wpAny (model X.prog X.w) X.A (f (.int i t) (.int j u)) Q E s):
  yZ X f (rI C fun i j=>.int (g i j)):=by
 intro pins s σ H x y v u Q I rx ry h
 obtain⟨i,j,rfl,rfl,hc,q⟩:=h
 obtain⟨t,rfl⟩:=rx
 obtain⟨t',rfl⟩:=ry
 exact rule i j t t' s _ _ hc ⟨.int (g i j),H,I.tok _,⟨_,rfl⟩,q⟩
theorem RO {f:Value->Value->Sem Value}{g:Int->Int->Int}
  (rule:∀(i j:Int) (t u:Tok) (s:Shared) (Q:Value->Shared->Prop) (E:Value->Shared->Prop),Q (.int (g i j) s.toks) {s with toks:=s.toks+1}->wpAny (model X.prog X.w) X.A (f (.int i t) (.int j u)) Q E s):
  yZ X f (QM fun i j=>.int (g i j)):=by
 intro pins s σ H x y v u Q I rx ry h
 obtain⟨i,j,rfl,rfl,q⟩:=h
 obtain⟨t,rfl⟩:=rx
 obtain⟨t',rfl⟩:=ry
 exact rule i j t t' s _ _ ⟨.int (g i j),H,I.tok _,⟨_,rfl⟩,q⟩
theorem RP {f:Value->Value->Sem Value}{g:Int->Int->Bool}
  (rule:∀(i j:Int) (t u:Tok) (s:Shared) (Q:Value->Shared->Prop) (E:Value->Shared->Prop),Q (.bool (g i j)) s->wpAny (model X.prog X.w) X.A (f (.int i t) (.int j u)) Q E s):
  yZ X f (QM fun i j=>.bl (g i j)):=by
 intro pins s σ H x y v u Q I rx ry h
 obtain⟨i,j,rfl,rfl,q⟩:=h
 obtain⟨t,rfl⟩:=rx
 obtain⟨t',rfl⟩:=ry
 exact rule i j t t' s _ _ ⟨.bl (g i j),H,I,rfl,q⟩
noncomputable def RQ (i j:Int):Prop:=0 < j/\j < 1073741824
noncomputable def WB (i j:Int):Prop:=0<=j/\j<=1000000/\i.natAbs < 2 ^ 64
noncomputable def N5 (i j:Int):Prop:=(-(2 ^ 64) < i/\i < 2 ^ 64)\/(-(2 ^ 64) < j/\j < 2 ^ 64)
theorem N5.ok {i j:Int}(h:N5 i j):IntMulOk i j:=by
 rcases h with⟨h1,h2⟩ | ⟨h1,h2⟩
 ·exact .of_left (intBits_le_64 h1 h2)
 ·exact .of_right (intBits_le_64 h1 h2)
theorem N6:yZ X (binaryOp .Add) (QM fun i j=>.int (i+j)):=RO fun _ _ _ _ _ _ _ q=>add_int q
theorem N7:yZ X (binaryOp .Sub) (QM fun i j=>.int (i - j)):=RO fun _ _ _ _ _ _ _ q=>sub_int q
theorem N8:yZ X (binaryOp .Mult) (rI N5 fun i j=>.int (i * j)):=U6 fun _ _ _ _ _ _ _ hc q=>mul_int q hc.ok
theorem KC:yZ X (binaryOp .FloorDiv) (rI RQ fun i j=>.int (i / j)):=U6 fun i j _ _ _ _ _ hc q=>by
 have h1:(0:Int) < j:=hc.1
 have h2:j < 1073741824:=hc.2
 exact floordiv_int (by omega) (by rw[Int.fdiv_eq_ediv_of_nonneg i (by omega)];exact q) (.inl (PyProof.noPylong_small (by omega)))
theorem N9:yZ X (binaryOp .Mod) (rI (fun _ j=>0 < j) fun i j=>.int (i % j)):=U6 fun i j _ _ _ _ _ hc q=>by
 have h1:(0:Int) < j:=hc
 exact mod_int' (by omega) (by rw[Int.fmod_eq_emod_of_nonneg i (by omega)];exact q)
theorem Oa:yZ X (binaryOp .Pow) (rI WB fun i j=>.int (i ^ j.toNat)):=U6 fun _ _ _ _ _ _ _ hc q=>pow_int_small hc.1 hc.2.1 hc.2.2 q
theorem unI {f:Value->Sem Value}{g:Int->Int}
  (rule:∀(i:Int) (t:Tok) (s:Shared) (Q:Value->Shared->Prop) (E:Value->Shared->Prop),Q (.int (g i) s.toks) {s with toks:=s.toks+1}->wpAny (model X.prog X.w) X.A (f (.int i t)) Q E s):
  RL X f (rU fun i=>.int (g i)):=by
 intro pins s σ H x v Q I rx h
 obtain⟨i,rfl,q⟩:=h
 obtain⟨t,rfl⟩:=rx
 exact rule i t s _ _ ⟨.int (g i),H,I.tok _,⟨_,rfl⟩,q⟩
theorem Ob:RL X (unaryOp .USub) (rU fun i=>.int (-i)):=unI fun _ _ _ _ _ q=>neg_int q
end
section
variable {X:Cx}{a b c:Expr}{ta tb tc:TE}{pos:Pos}
theorem RS:yZ X (compareOp .Lt) (QM fun i j=>.bl (decide (i < j))):=RP fun _ _ _ _ _ _ _ q=>lt_int q
theorem RU:yZ X (compareOp .Gt) (QM fun i j=>.bl (decide (j < i))):=RP fun _ _ _ _ _ _ _ q=>gt_int q
theorem GO (b:Expr){op:CmpOp}(h:op≠.In:=by decide) (h2:op≠.NotIn:=by decide):behindInMarks op b=false:=by
 have e1:(op == CmpOp.In)=false:=by cases op <;> first | rfl | exact absurd rfl h
 have e2:(op == CmpOp.NotIn)=false:=by cases op <;> first | rfl | exact absurd rfl h2
 cases b <;> simp[behindInMarks,e1,e2]
theorem KD {op:CmpOp}{r:R2}(ho:yZ X (compareOp op) r) (ha:PE X a ta) (hb:PE X b tb) (hm:behindInMarks op b=false):PE X (.Compare a [op] [b] pos) (QL r ta tb):=by
 intro pins s σ H Q I h
 exact wpAny_Compare1 (N4 ha hb I h fun v u s2 x y H2 I2 rx ry q=>ho pins s2 σ H2 x y v u Q I2 rx ry q) hm
noncomputable def RV (t:TE):TT:=fun σ H Q=>t σ H fun x H'=>∃k,x= .bl k/\Q k H'
theorem KG {op:CmpOp}{r:R2}(ho:yZ X (compareOp op) r) (ha:PE X a ta) (hb:PE X b tb) (hm:behindInMarks op b=false):PT X (.Compare a [op] [b] pos) (RV (QL r ta tb)):=by
 intro pins s σ H Q I h
 refine wpAny_isTrue_Compare1 (gf (ha pins s σ H _ I h) fun v s1 ⟨x,H1,I1,r1,q1⟩=>gf (hb pins s1 σ H1 _ I1 q1) fun u s2 ⟨y,H2,I2,r2,q2⟩=>
  gf (ho pins s2 σ H2 x y v u _ I2 r1 r2 q2) fun c s3 ⟨z,H3,I3,r3,k,e,q3⟩=>?_) hm
 subst e
 cases r3
 exact wpAny_truthy_bool ⟨H3,I3,q3⟩
theorem sJ:(sizeLine:Nat) < 2 ^ 63:=by rw[sizeLine_eq];decide
theorem B8:yZ X (binaryOp .Add) (fun x y H Q=>∃i j,x= .str i/\y= .str j/\i.length+j.length<=sizeLine/\Q (.str (i++j)) H):=by
 intro pins s σ H x y v u Q I rx ry h
 obtain⟨i,j,rfl,rfl,hz,q⟩:=h
 obtain⟨t,rfl⟩:=rx
 obtain⟨t',rfl⟩:=ry
 exact add_str (fun t' tk=>⟨.str (i++j),H,I.tok _,⟨_,rfl⟩,q⟩) hz
theorem vals1 {x:V}{us:List Value}(r:Vals [x] us):∃u,us=[u]/\RelV x u:=by
 cases r with
 | cons r1 r2=>cases r2;exact⟨_,rfl,r1⟩
theorem vals2 {x y:V}{us:List Value}(r:Vals [x,y] us):∃u w',us=[u,w']/\RelV x u/\RelV y w':=by
 cases r with
 | cons r1 r2=>
  cases r2 with
  | cons r3 r4=>cases r4;exact⟨_,_,rfl,r1,r3⟩
theorem Et (hc:X.calm=true):jC X (.builtin "max") (fun xs H Q=>∃i j,xs=[.int i,.int j]/\Q (.int (if j > i then j else i)) H):=by
 intro pins s σ H xs us Q I r h
 obtain⟨i,j,rfl,q⟩:=h
 obtain⟨u,w',rfl,⟨t,rfl⟩,⟨t',rfl⟩⟩:=vals2 r
 refine max_two_ints (I.ok.hd hc) fun h' tk k=>⟨_,H,I.kept k,?_,q⟩
 by_cases hj:j > i
 ·rw[if_pos hj,if_pos hj];exact⟨_,rfl⟩
 ·rw[if_neg hj,if_neg hj];exact⟨_,rfl⟩
theorem xV:jC X (.type "int") (fun xs H Q=>(∃i,xs=[.int i]/\Q (.int i) H)\/∃k,xs=[.bl k]/\Q (.int (if k then 1 else 0)) H):=by
 intro pins s σ H xs us Q I r h
 rcases h with⟨i,rfl,q⟩ | ⟨k,rfl,q⟩
 ·obtain⟨u,rfl,t,rfl⟩:=vals1 r
  exact call_int_int ⟨.int i,H,I,⟨_,rfl⟩,q⟩
 ·obtain⟨u,rfl,r1⟩:=vals1 r
  cases r1
  exact call_int_bool ⟨.int (if k then 1 else 0),H,I.tok _,⟨_,rfl⟩,q⟩
end
section
variable {prog:Program}{w:World}{A:Around}{E:Value->Shared->Prop}{s:Shared}{K:PySem.W.Frag}{x dx C f:Addr}{mA:Str->Option Value}{name:Str}{v:Value}
end
theorem xj.some_of {v:V}{o:Option Value}(r:xj (some v) o):∃u,o=some u/\RelV v u:=by
 cases o with
 | none=>exact(show False from r).elim
 | some u=>exact⟨u,rfl,r⟩
section
variable {P:Program}{w:World}{H H':Hp}{h h':Heap}{a C dx:Addr}{fs fs':List (Str×V)}
end
section
variable {X:Cx}{pins:List (Addr×Obj)}{σ:St}{H:Hp}{s:Shared}{a C dx:Addr}{fs:List (Str×V)}{f:Str}{v:V}{A:Around}{E:Value->Shared->Prop}
end
section
variable {X:Cx}{o e value:Expr}{f:Str}{pos pos' tpos:Pos}{ta tv:TE}
end
section
variable {X:Cx}{pins:List (Addr×Obj)}{σ:St}{H:Hp}{s:Shared}{A:Around}{E:Value->Shared->Prop}{Q:Value->Shared->Prop}{c:Value}{b:Bool}
end
structure lQ (k:Nat) (A:Around):Prop where
 hd:A.handled=none
 dp:A.depth+3 * k+5 < recursionLimit
 un:A.units+16 * k+200 < cLine
 gd:A.guards=some []
theorem lQ.mono {j k:Nat}{A:Around}(r:lQ k A) (h:j<=k):lQ j A:=⟨r.hd,by have:=r.dp;omega,by have:=r.un;omega,r.gd⟩
theorem lQ.deeper {k:Nat}{A:Around}(r:lQ (k+1) A) (env:Env):lQ k (A.deeper env):=
 ⟨r.hd,by have:=r.dp;show A.depth+1+3 * k+5 < _;omega,by have:=r.un;show A.units+3+16 * k+200 < _;omega,r.gd⟩
theorem lQ.depth {k:Nat}{A:Around}(r:lQ k A):A.depth < recursionLimit:=by have:=r.dp;omega
theorem lQ.units {k:Nat}{A:Around}(r:lQ k A):A.units+64 < cLine:=by have:=r.un;omega
noncomputable def Oc:TA:=fun _ H Q=>Q [] H
noncomputable def MX (ta:TE) (tr:TA):TA:=fun σ H Q=>ta σ H fun x H1=>tr σ H1 fun xs H2=>Q (x :: xs) H2
section
variable {X:Cx}{e:Expr}{es:List Expr}{te:TE}{t:TA}{pos:Pos}
theorem y9:PA X [] Oc:=fun _ _ _ _ H Q I h=>Calls.spliced_nil ⟨[],H,I,.nil,h⟩
theorem pP (ha:PE X e te) (hr:PA X es t) (hs:starEach (e :: es) X.env=(false,eval e X.env) :: starEach es X.env:=by rfl):PA X (e :: es) (MX te t):=by
 intro pos pins s σ H Q I h
 rw[hs]
 show wpAny _ _ (spliced ((false,eval e X.env) :: backTo pos (starEach es X.env))) _ _ s
 refine Calls.spliced_cons (gf (ha pins s σ H _ I h) fun u s1 ⟨x,H1,I1,r1,q1⟩=>?_)
 exact gf (hr pos pins s1 σ H1 _ I1 q1) fun us s2 ⟨xs,H2,I2,r2,q2⟩=>⟨x :: xs,H2,I2,.cons r1 r2,q2⟩
noncomputable def WC (t:TA):TE:=fun σ H Q=>t σ H fun xs H1=>xs.length<=sizeLine/\∀p,H1 p=none->Q (.ref p) (upd H1 p (.tup xs))
noncomputable def WD (t:TA):TE:=fun σ H Q=>t σ H fun xs H1=>xs.length<=sizeLine/\∀p,H1 p=none->Q (.ref p) (upd H1 p (.lst xs))
theorem Od {x1}(h:PA X es t):PE X (.Tuple es x1 pos) (WC t):=by
 intro pins s σ H Q I hq
 refine wpAny_Tuple_spliced (gf (h pos pins s σ H _ I hq) fun us s1 ⟨xs,H1,I1,r,z,q⟩=>⟨by rw[<-r.length];exact z,?_⟩)
 have hf:H1 s1.heap.objs.size=none:=I1.hok.fresh (Nat.le_refl _)
 refine⟨.ref s1.heap.objs.size,upd H1 s1.heap.objs.size (.tup xs),I1.laid (t':=s1.toks) (fun b u e=>Heap.get?_push_of_some _ e) (Nat.le_refl _) ?_,rfl,q _ hf⟩
 exact⟨z,us,r,⟨_,Heap.get?_push_size _ rfl,rfl,_,rfl⟩⟩
theorem Oe (h:PA X es t):PE X (.List es pos) (WD t):=by
 intro pins s σ H Q I hq
 refine wpAny_List_spliced (gf (h pos pins s σ H _ I hq) fun us s1 ⟨xs,H1,I1,r,z,q⟩=>⟨by rw[<-r.length];exact z,?_⟩)
 have hf:H1 s1.heap.objs.size=none:=I1.hok.fresh (Nat.le_refl _)
 refine⟨.ref s1.heap.objs.size,upd H1 s1.heap.objs.size (.lst xs),I1.laid (t':=s1.toks) (fun b u e=>Heap.get?_push_of_some _ e) (Nat.le_refl _) ?_,rfl,q _ hf⟩
 exact⟨z,us,0,r,Heap.get?_push_size _ rfl⟩
end
noncomputable abbrev Sp:=List V->Hp->VK->XK->Prop
noncomputable abbrev Gi:=List Env->Hp->Shared->XK->Value->Shared->Prop
structure KH (P:Program) (w:World) (K:PySem.W.Frag) (mg:Str->Option Value) (base:Heap) (A:Around) (outer:List Env) (s:Shared) (H:Hp):Prop where
 frames:A.frames=some outer
 mod:Mod K mg base
 bs:∀b o,base.get? b=some o->s.heap.get? b=some o/\H b=none
 Kg:base.objs.size<=s.heap.objs.size
 vn:s.heap.FunFrames base outer
 QJ:∀b∈frs outer,H b=none
 hok:nO P w H s.heap
 bare:AllBare s.gens
noncomputable def CE (outer:List Env) (P:Program) (w:World) (H:Hp) (s:Shared) (Q:VK) (u:Value) (s':Shared):Prop:=
 ∃v H',s'.os=s.os/\AllBare s'.gens/\Un (frs outer) [] H H' s.heap s'.heap/\nO P w H' s'.heap/\RelV v u/\Q v H'
noncomputable def CR (CX:Gi) (outer:List Env) (P:Program) (w:World) (H:Hp) (s:Shared) (Q:VK) (E:XK) (r:Result) (s':Shared):Prop:=
 match r with
 | .ok (.ret u)=>CE outer P w H s Q u s'
 | .ok _=>False
 | .error e=>CX outer H s E e s'
structure bZ (P:Program) (w:World) (K:PySem.W.Frag) (mg:Str->Option Value) (base:Heap) (CX:Gi) (k:Nat) (f:Addr) (fd:FuncData) (ps:List Str) (sp:Sp):Prop where
 len:∀vs H Q E,sp vs H Q E->vs.length=ps.length
 run:∀(A:Around) (outer:List Env) (s:Shared) (H:Hp) (args:Args) (us:List Value) (vs:List V) (Q:VK) (E:XK),lQ k A->KH P w K mg base A outer s H->BindsTo s fd args (ps.zip us)->Vals vs us->sp vs H Q E->
  codeAny (model P w) A (.call (.ref f) args) (CR CX outer P w H s Q E) s
theorem bZ.mono {P:Program}{w:World}{K:PySem.W.Frag}{mg:Str->Option Value}{base:Heap}{CX:Gi}{j k:Nat}{f:Addr}{fd:FuncData}{ps:List Str}{sp:Sp}(F:bZ P w K mg base CX j f fd ps sp) (h:j<=k):
  bZ P w K mg base CX k f fd ps sp:=⟨F.len,fun A outer s H args us vs Q E hr=>F.run A outer s H args us vs Q E (hr.mono h)⟩
section
variable {X:Cx}{pins:List (Addr×Obj)}{σ:St}{H:Hp}{s s':Shared}
theorem Inv.WE (I:Inv X pins σ H s):KH X.prog X.w X.K X.mg X.base X.A X.stack s H:=
 ⟨I.ok.frames,I.ok.mod,I.bs,Nat.le_trans I.ok.Kg I.sz,I.stack,I.yW,I.hok,I.bare⟩
theorem Inv.after {Q:VK}{u:Value}(I:Inv X pins σ H s) (h:CE X.stack X.prog X.w H s Q u s'):EP X pins σ Q u s':=by
 obtain⟨v,H',os,bare,un,hok,r,q⟩:=h
 obtain⟨hh,g,d,t,os'⟩:=s'
 obtain rfl:os'=s.os:=os
 exact⟨v,H',I.call (h':=hh) (g':=g) (d':=d) (t':=t) (ch:=[]) un hok bare (fun b z=>absurd z (by simp)),r,q⟩
end
noncomputable def MY (sp:Sp) (Kh:List V) (E:XK) (t:TA):TE:=fun σ H Q=>t σ H fun vs H1=>sp (vs++Kh) H1 Q E
noncomputable def Binds (K:PySem.W.Frag) (fd:FuncData) (ps:List Str) (ds:List Value):Prop:=
 ∀(s:Shared) (us:List Value),K.In s.heap->(us++ds).length=ps.length->BindsTo s fd ⟨us,[]⟩ (ps.zip (us++ds))
theorem Binds.all {K:PySem.W.Frag}{fd:FuncData}{ps:List Str}(h:∀us:List Value,us.length=ps.length->bindArgs fd ⟨us,[]⟩=pure (ps.zip us)):Binds K fd ps []:=fun s us _ hl=>by
 rw[List.append_nil] at hl ⊢
 exact .of_eq (h us hl)
noncomputable def Passes (CX:Gi) (X:Cx) (E:XK):Prop:=∀(pins:List (Addr×Obj)) (σ:St) (H:Hp) (s:Shared) (e:Value) (s':Shared),Inv X pins σ H s->CX X.stack H s E e s'->X.xe e s'
section
variable {X:Cx}{CX:Gi}{k:Nat}{f C:Addr}{fd:FuncData}{ps:List Str}{sp:Sp}{Kh:List V}{ds:List Value}{E:XK}{x m:Str}{p pos apos:Pos}{e o:Expr}{es:List Expr}{ta:TE}{t:TA}
theorem GP {pins:List (Addr×Obj)}{σ:St}{H:Hp}{s:Shared}{Q:VK}{us:List Value}{vs:List V}(F:bZ X.prog X.w X.K X.mg X.base CX k f fd ps sp) (hr:lQ k X.A) (hb:Binds X.K fd ps ds) (hd:Vals Kh ds) (hx:Passes CX X E)
  (I:Inv X pins σ H s) (r:Vals vs us) (h:sp (vs++Kh) H Q E):wpAny (model X.prog X.w) X.A (call (.ref f) us) (EP X pins σ Q) X.xe s:=by
 have r2:Vals (vs++Kh) (us++ds):=r.append hd
 have hl:(us++ds).length=ps.length:=by rw[<-r2.length];exact F.len _ _ _ _ h
 refine wpAny_call (codeAny_mono (F.run X.A X.stack s H ⟨us,[]⟩ (us++ds) (vs++Kh) Q E hr I.WE (hb s us I.B5 hl) r2 h) fun r s' hq=>?_)
 cases r with
 | error e=>exact hx pins σ H s e s' I hq
 | ok fl=>
  cases fl with
  | ret u=>exact I.after hq
  | next=>exact False.elim hq
  | brk=>exact False.elim hq
  | cont=>exact False.elim hq
theorem KI (F:bZ X.prog X.w X.K X.mg X.base CX k f fd ps sp) (hr:lQ k X.A) (hg:Gl X x) (hm:X.mg x=some (.ref f)) (hk:PySem.W.keepIn X.K (.ref f)=true) (hb:Binds X.K fd ps ds) (hd:Vals Kh ds) (hx:Passes CX X E)
  (ha:PA X (e :: es) t) (hdb:(x == ("__debug__":Str))=false:=by decide) (he:starEach (e :: es) X.env=(false,eval e X.env) :: starEach es X.env:=by rfl) (hpl:(backTo pos (starEach es X.env)).any (·.1)=false:=by rfl):
  PE X (.Call (.Name x p) (e :: es) [] pos) (MY sp Kh E t):=by
 intro pins s σ H Q I h
 refine wpAny_Call_Name_kw (yX I hg hm ?_ hdb)
 refine PySem.W.callWith_K (h₀:=X.base) I.ok.mod.Wj hk (gf (ha pos pins s σ H _ I h) fun us s1 ⟨vs,H1,I1,r,q⟩=>⟨I1.B5,?_⟩) he hpl
 exact GP F hr hb hd hx I1 r q
theorem GQ (F:bZ X.prog X.w X.K X.mg X.base CX k f fd ps sp) (hr:lQ k X.A) (hg:Gl X x) (hm:X.mg x=some (.ref f)) (hk:PySem.W.keepIn X.K (.ref f)=true) (hb:Binds X.K fd ps ds) (hd:Vals Kh ds) (hx:Passes CX X E)
  (hdb:(x == ("__debug__":Str))=false:=by decide):PE X (.Call (.Name x p) [] [] pos) (MY sp Kh E Oc):=by
 intro pins s σ H Q I h
 refine wpAny_Call_Name_kw (yX I hg hm ?_ hdb)
 exact PySem.W.callWith_K0 I.B5 hk (GP (us:=[]) F hr hb hd hx I .nil h)
end
section
variable {X:Cx}{CX:Gi}{k:Nat}{f C:Addr}{fd:FuncData}{ps ks:List Str}{sp:Sp}{E:XK}{x m:Str}{p pos apos kpos:Pos}{e o:Expr}{es:List Expr}{kws:List Keyword}{te ta:TE}{t tk:TA}{nm:Option Str}
variable {g:List Value->List Value->List Value}{gV:List V->List V->List V}
end
structure cA (N P:List Str) (sc:Scope):Prop where
 kind:sc.kind= .function
 co:sc.isCoroutine=false
 gen:sc.isGenerator=false
 nd:N.Nodup
 pre:N.take P.length=P
 par:∀x∈P,sc.names.lookup x=some .local\/sc.names.lookup x=some .cell
 Of:∀y∈sc.names,y.2≠.free
theorem xW {kindOf:Str->Option NameKind}{x:Str}:∀{binds:List (Str×Value)}{m:Str->Option Value},(∀v,(x,v)∉binds)->bindL kindOf binds m x=m x
 | [],_,_=>rfl
 | (n,v) :: r,m,h=>by
  unfold bindL
  rw[xW fun w hw=>h w (List.mem_cons_of_mem _ hw)]
  split
  ·have:x≠n:=by rintro rfl;exact h v List.mem_cons_self
   simp[this]
  ·rfl
theorem xX {kindOf:Str->Option NameKind}{x:Str}:∀{binds:List (Str×Value)}{m:Str->Option Value},(∀v,(x,v)∉binds)->bindC kindOf binds m x=m x
 | [],_,_=>rfl
 | (n,v) :: r,m,h=>by
  unfold bindC
  rw[xX fun w hw=>h w (List.mem_cons_of_mem _ hw)]
  split
  ·rfl
  ·have:x≠n:=by rintro rfl;exact h v List.mem_cons_self
   simp[this]
theorem xY {kindOf:Str->Option NameKind}{x:Str}{v:Value}:∀{P:List Str}{vs:List Value}{i:Nat}{m:Str->Option Value},P.Nodup->P[i]? =some x->vs[i]? =some v->kindOf x=some .local->
  bindL kindOf (P.zip vs) m x=some v
 | [],_,_,_,_,h,_,_=>by simp at h
 | _ :: _,[],_,_,_,_,h,_=>by simp at h
 | p :: P,w :: vs,0,m,nd,h1,h2,hk=>by
  simp at h1 h2;subst h1;subst h2
  show bindL kindOf ((p,w) :: P.zip vs) m p=_
  unfold bindL
  rw[xW fun v hv=>(List.nodup_cons.mp nd).1 (List.of_mem_zip hv).1,if_pos hk]
  simp
 | p :: P,w :: vs,i+1,m,nd,h1,h2,hk=>by
  show bindL kindOf ((p,w) :: P.zip vs) m x=_
  unfold bindL
  exact xY (i:=i) (List.nodup_cons.mp nd).2 (by simpa using h1) (by simpa using h2) hk
theorem xZ {kindOf:Str->Option NameKind}{x:Str}{v:Value}:∀{P:List Str}{vs:List Value}{i:Nat}{m:Str->Option Value},P.Nodup->P[i]? =some x->vs[i]? =some v->kindOf x≠some .local->
  bindC kindOf (P.zip vs) m x=some v
 | [],_,_,_,_,h,_,_=>by simp at h
 | _ :: _,[],_,_,_,_,h,_=>by simp at h
 | p :: P,w :: vs,0,m,nd,h1,h2,hk=>by
  simp at h1 h2;subst h1;subst h2
  show bindC kindOf ((p,w) :: P.zip vs) m p=_
  unfold bindC
  rw[xX fun v hv=>(List.nodup_cons.mp nd).1 (List.of_mem_zip hv).1,if_neg hk]
  simp
 | p :: P,w :: vs,i+1,m,nd,h1,h2,hk=>by
  show bindC kindOf ((p,w) :: P.zip vs) m x=_
  unfold bindC
  exact xZ (i:=i) (List.nodup_cons.mp nd).2 (by simpa using h1) (by simpa using h2) hk
noncomputable def start (N:List Str) (vs:List V):St:=vs.map some++List.replicate (N.length - vs.length) none
noncomputable def B9 (CX:Gi) (P:Program) (w:World) (K:PySem.W.Frag) (mg:Str->Option Value) (base:Heap) (N:List Str) (qual:Str) (scope:Scope) (f:Addr) (cd:Value) (A:Around) (outer:List Env) (s:Shared) (H:Hp) (E:XK):Cx where
 prog:=P
 w:=w
 K:=K
 mg:=mg
 base:=base
 A:=A.deeper (envOfC qual scope s.heap.objs.size f cd)
 N:=N
 s₀:=s
 H₀:=H
 env:=envOfC qual scope s.heap.objs.size f cd
 outer:=outer
 stack:=envOfC qual scope s.heap.objs.size f cd :: outer
 ex:=[]
 calm:=true
 fn:=fun _=>true
 pn:=[]
 xe:=fun e s'=>wpAny (model P w) (A.deeper (envOfC qual scope s.heap.objs.size f cd)) (leaving (envOfC qual scope s.heap.objs.size f cd) e) (fun _ s''=>CX outer H s E e s'') (fun e' s''=>CX outer H s E e' s'') s'
theorem Au {sc:Scope}{n:Nat}{x:Str}(h:sc.names.lookup x=some .cell):∃c,(cellsFrom n sc.names []).lookup x=some c:=by
 have q:=PySem.W.cellsFrom_some sc.names n [] (.inl h)
 exact Option.isSome_iff_exists.mp q
theorem Eu {CX : Gi} {P : Program} {w : World} {K : PySem.W.Frag} {mg : Str -> Option Value} {base : Heap} {N ps : List Str} {qual : Str} {scope : Scope} {f : Addr} {cd : Value} {A : Around} {outer : List Env} {s s1 : Shared} {H : Hp} {E : XK} {us : List Value} {vs : List V}
    (S:cA N ps scope) (hd:A.handled=none) (e0:KH P w K mg base A outer s H) (hl:vs.length=ps.length) (r:Vals vs us)
    (x:InCallC s s.heap.objs.size (bindL (envOfC qual scope s.heap.objs.size f cd).kindOf (ps.zip us) fun _=>none) (cellsFrom (s.heap.objs.size+1) scope.names []) (bindC (envOfC qual scope s.heap.objs.size f cd).kindOf (ps.zip us) fun _=>none) s1):
    Inv (B9 CX P w K mg base N qual scope f cd A outer s H E) [] (start N vs) H s1:=by
  have hpl:ps.length<=N.length:=by have:=congrArg List.length S.pre;rw[List.length_take] at this;omega
  obtain⟨h1,tk,rfl,hk⟩:=x.done
  have RW:∀b:Addr,b∉(B9 CX P w K mg base N qual scope f cd A outer s H E).ex:=fun b z=>absurd (show b∈([]:List Addr) from z) (by simp)
  refine⟨⟨e0.mod,S.kind,rfl,rfl,Nat.le_refl _,fun y z c h1 h2=>?_,fun y hy=>?_,fun y c _ h=>?_,fun _=>hd,Around.frames_deeper e0.frames,.inr ⟨rfl,rfl⟩,fun b z=>absurd z (RW b),e0.bs,e0.Kg,fun b _ _=>RW b,fun b z=>absurd z (RW b),e0.vn,e0.QJ⟩,
    rfl,e0.bare,Un.kept hk,⟨_,x.toInCall.ns,fun i y v h1 h2 h3=>?_⟩,fun y c h=>⟨_,x.cell y c h⟩,e0.hok.fresh (Nat.le_refl _),fun y c h=>?_,fun p hp=>absurd (show p∈([]:List (Addr×Obj)) from hp) (by simp),e0.hok.kept hk,?_⟩
  . exact name_of_addr x.apart (PySem.mem_of_lookup h1) (PySem.mem_of_lookup h2)
  . have hy:scope.names.lookup y=some .cell\/scope.names.lookup y=some .free:=hy
    rcases hy with hy | hy
    . exact Au hy
    . exact absurd rfl (S.Of _ (PySem.mem_of_lookup hy))
  . exact Nat.le_of_lt (x.above y c (PySem.mem_of_lookup h))
  . have hi:i < vs.length:=by
      unfold start at h2
      by_cases hi:i < vs.length
      . exact hi
      . rw[List.getElem?_append_right (by simpa using hi)] at h2
        rw[List.getElem?_replicate] at h2
        split at h2 <;> cases h2
    have ha:vs[i]? =some v:=by
      unfold start at h2
      rw[List.getElem?_append_left (by simpa using hi),List.getElem?_map] at h2
      cases e:vs[i]? with
      | none=>rw[e] at h2;cases h2
      | some a=>rw[e] at h2;cases h2;rfl
    obtain⟨u,hu,rv⟩:=r.get ha
    have hp:ps[i]? =some y:=by
      rw[<-S.pre,List.getElem?_take_of_lt (by omega)];exact h1
    have ndP:ps.Nodup:=by rw[<-S.pre];exact S.nd.sublist (List.take_sublist _ _)
    refine⟨u,rv,?_⟩
    rcases S.par y (List.mem_of_getElem? hp) with k | k
    . exact .inl ⟨k,xY ndP hp hu k⟩
    . obtain⟨c,e⟩:=Au (n:=s.heap.objs.size+1) k
      refine .inr ⟨.inl k,c,e,?_⟩
      have q:=x.cell y c e
      rw[xZ ndP hp hu (by show scope.names.lookup y≠_;rw[k];decide)] at q
      exact q
  . exact e0.hok.fresh (Nat.le_of_lt (x.above y c (PySem.mem_of_lookup h)))
  . unfold start
    show _=N.length
    rw[List.length_append,List.length_map,List.length_replicate]
    omega
theorem RX {CX:Gi}{P:Program}{w:World}{K:PySem.W.Frag}{mg:Str->Option Value}{base:Heap}{k:Nat}{f:Addr}{name qual:Str}{params:Arguments}{body:List Stmt}{scope:Scope}{dV kV doc pm cdv ct oc:Value}{an od:Option Addr}
  {osl:Array (Option Value)}{N ps:List Str}{sp:Sp}(lk:K.lookup f=some ⟨oc,od,.func (PySem.W.fnOf name qual params body scope dV kV doc pm an cdv ct),osl⟩) (hcd:PySem.W.codeIn K cdv qual=true) (S:cA N ps scope)
  (len:∀vs H Q E,sp vs H Q E->vs.length=ps.length)
  (hbody:∀(A:Around) (outer:List Env) (s:Shared) (H:Hp) (vs:List V) (Q:VK) (E:XK),lQ k (A.deeper (envOfC qual scope s.heap.objs.size f cdv))->sp vs H Q E->
   ∃t,B3 (B9 CX P w K mg base N qual scope f cdv A outer s H E) body t/\t {nx:=fun _ H'=>Q .dR H',rt:=Q} (start N vs) H):
  bZ P w K mg base CX (k+1) f (PySem.W.fnOf name qual params body scope dV kV doc pm an cdv ct) ps sp:=by
 refine⟨len,fun A outer s H args us vs Q E hr e0 hb r MZ=>?_⟩
 have hl:=len _ _ _ _ MZ
 have KX:K.In s.heap:=e0.mod.Wj.keeps fun b o e=>(e0.bs b o e).1
 have lim:s.heap.NoLimit:=e0.mod.nolimit.keeps fun b o e=>(e0.bs b o e).1
 have hkind:∀y∈ps.zip us,scope.names.lookup y.1=some .local\/(scope.names.lookup y.1=some .cell/\((cellsFrom (s.heap.objs.size+1) scope.names []).lookup y.1).isSome=true):=fun⟨n,v⟩ hy=>by
  rcases S.par n (List.of_mem_zip hy).1 with q | q
  ·exact .inl q
  ·exact .inr ⟨q,PySem.W.cellsFrom_some _ _ _ (.inl q)⟩
 refine codeAny_call_function hr.depth (KX _ _ lk) rfl S.co S.gen rfl (PySem.W.codeRec_of KX hcd) (hb _ _ _ _ ?_)
 refine wpAny_newFunctionEnv_cells S.kind hkind fun env he s1 x=>?_
 subst he
 refine⟨lim.keeps x.toInCall.keep,codeAny_func ?_⟩
 obtain⟨t,ht,hq⟩:=hbody A outer s H vs Q E (hr.deeper _) MZ
 have I:Inv (B9 CX P w K mg base N qual scope f cdv A outer s H E) [] (start N vs) H s1:=Eu S hr.hd e0 hl r x
 refine wpAny_mono (ht [] s1 (start N vs) H _ I hq) (fun fl s' hs=>?_) fun e s' hs=>hs
 have fin:∀{σ':St}{H':Hp}{v:V}{u:Value},Inv (B9 CX P w K mg base N qual scope f cdv A outer s H E) [] σ' H' s'->RelV v u->Q v H'->CE outer P w H s Q u s':=
  fun {σ' H' v u} J rv q=>⟨v,H',J.os,J.bare,J.base,J.hok,rv,q⟩
 cases fl with
 | ret u=>
  obtain⟨v,σ',H',J,rv,q⟩:=hs
  exact fin J rv q
 | next=>
  obtain⟨σ',H',J,q⟩:=hs
  exact fin (v:=V.dR) (u:=Value.none) J rfl q
 | brk=>
  obtain⟨_,_,_,q⟩:=hs
  exact False.elim q
 | cont=>
  obtain⟨_,_,_,q⟩:=hs
  exact False.elim q
section
variable {X:Cx}{x:Str}{p pos:Pos}{e:Expr}{es:List Expr}{t:TA}{id T:String}{r:List V->Hp->VK->Prop}
noncomputable def tCB (r:List V->Hp->VK->Prop) (t:TA):TE:=fun σ H Q=>t σ H fun vs H1=>r vs H1 Q
theorem nW (hc:jC X (.builtin id) r) (hg:Gl X x) (hm:X.mg x=none) (hv:bootBuiltins x=some (.builtin id)) (ha:PA X (e :: es) t) (hn:x≠"__name__":=by decide) (hdb:(x == ("__debug__":Str))=false:=by decide)
  (he:starEach (e :: es) X.env=(false,eval e X.env) :: starEach es X.env:=by rfl) (hpl:(backTo pos (starEach es X.env)).any (·.1)=false:=by rfl):PE X (.Call (.Name x p) (e :: es) [] pos) (tCB r t):=by
 intro pins s σ H Q I h
 refine wpAny_Call_Name_kw (j7 I hg hm hv ?_ hn hdb)
 exact PyProof.Rows.callWith_builtin1 (gf (ha pos pins s σ H _ I h) fun us s1 ⟨vs,H1,I1,r1,q1⟩=>hc pins s1 σ H1 vs us Q I1 r1 q1) he hpl
theorem Ew (hc:jC X (.type T) r) (hg:Gl X x) (hm:X.mg x=none) (hv:bootBuiltins x=some (.type T)) (ha:PA X (e :: es) t) (hn:x≠"__name__":=by decide) (hdb:(x == ("__debug__":Str))=false:=by decide)
  (he:starEach (e :: es) X.env=(false,eval e X.env) :: starEach es X.env:=by rfl) (hpl:(backTo pos (starEach es X.env)).any (·.1)=false:=by rfl):PE X (.Call (.Name x p) (e :: es) [] pos) (tCB r t):=by
 intro pins s σ H Q I h
 refine wpAny_Call_Name_kw (j7 I hg hm hv ?_ hn hdb)
 exact PyProof.Rows.callWith_type1 (gf (ha pos pins s σ H _ I h) fun us s1 ⟨vs,H1,I1,r1,q1⟩=>hc pins s1 σ H1 vs us Q I1 r1 q1) he hpl
end
section
variable {κ:Type} [DecidableEq κ]
noncomputable def qH (kvs:List (κ×V)) (k:κ):Option V:=(kvs.find? fun kv=>decide (kv.1=k)).map (·.2)
noncomputable def putK (kvs:List (κ×V)) (k:κ) (v:V):List (κ×V):=
 if(kvs.any fun kv=>decide (kv.1=k))=true then kvs.map (fun kv=>if kv.1=k then(kv.1,v) else kv) else kvs++[(k,v)]
theorem rq {p:κ×V}{r:List (κ×V)}{k:κ}(e:p.1=k):qH (p :: r) k=some p.2:=by simp[qH,List.find?_cons,e]
theorem nX {p:κ×V}{r:List (κ×V)}{k:κ}(e:¬p.1=k):qH (p :: r) k=qH r k:=by simp[qH,List.find?_cons,e]
theorem Av (k:κ):∀kvs:List (κ×V),(kvs.any fun kv=>decide (kv.1=k))=(qH kvs k).isSome
 | []=>rfl
 | p :: r=>by
  rw[List.any_cons]
  by_cases e:p.1=k
  ·simp only[rq e,decide_eq_true e,Bool.true_or,Option.isSome_some]
  ·rw[nX e,decide_eq_false e,Bool.false_or];exact Av k r
theorem nY (kvs:List (κ×V)) (k:κ) (v:V):(putK kvs k v).length<=kvs.length+1:=by
 unfold putK
 split
 ·rw[List.length_map];omega
 ·rw[List.length_append,List.length_cons,List.length_nil];omega
theorem xj.sL {o:Option V}{u:Option Value}(r:xj o u):o.isSome=u.isSome:=by
 cases o with
 | none=>cases u with
  | none=>rfl
  | some _=>exact(show False from r).elim
 | some _=>cases u with
  | none=>exact(show False from r).elim
  | some _=>rfl
theorem KV.val {kvs:List (κ×V)}{vs:List (κ×Value)}(r:KV kvs vs) (k:κ):xj (qH kvs k) (valueAt vs k):=by
 unfold KV at r
 induction r with
 | nil=>exact True.intro
 | @cons p q ps qs h t ih=>
  obtain⟨h1,h2⟩:=h
  by_cases e:p.1=k
  ·have e':q.1=k:=h1.symm.trans e
   have b:valueAt (q :: qs) k=some q.2:=by simp[valueAt,List.find?_cons,e']
   rw[rq e,b];exact h2
  ·have e':¬q.1=k:=fun z=>e (h1.trans z)
   have b:valueAt (q :: qs) k=valueAt qs k:=by simp[valueAt,List.find?_cons,e']
   rw[nX e,b];exact ih
theorem KV.any {kvs:List (κ×V)}{vs:List (κ×Value)}(r:KV kvs vs) (k:κ):(kvs.any fun kv=>decide (kv.1=k))=vs.any fun kv=>decide (kv.1=k):=by
 unfold KV at r
 induction r with
 | nil=>rfl
 | cons h t ih=>rw[List.any_cons,List.any_cons,ih,h.1]
theorem KV.repl {kvs:List (κ×V)}{vs:List (κ×Value)}(r:KV kvs vs) (k:κ){y:V}{u:Value}(ry:RelV y u):
  KV (kvs.map fun kv=>if kv.1=k then(kv.1,y) else kv) (vs.map fun kv=>if kv.1=k then(kv.1,u) else kv):=by
 unfold KV at r ⊢
 induction r with
 | nil=>exact .nil
 | @cons p q ps qs h t ih=>
  rw[List.map_cons,List.map_cons]
  refine .cons ?_ ih
  obtain⟨h1,h2⟩:=h
  by_cases e:p.1=k
  ·rw[if_pos e,if_pos (h1.symm.trans e)];exact⟨h1,ry⟩
  ·rw[if_neg e,if_neg (fun z=>e (h1.trans z))];exact⟨h1,h2⟩
theorem KV.put {kvs:List (κ×V)}{vs:List (κ×Value)}(r:KV kvs vs) (k:κ){y:V}{u:Value}(ry:RelV y u):KV (putK kvs k y) (stored vs k u):=by
 unfold putK stored
 rw[r.any k]
 by_cases e:(vs.any fun kv=>decide (kv.1=k))=true
 ·rw[if_pos e,if_pos e];exact r.repl k ry
 ·rw[if_neg e,if_neg e];exact Paired.snoc r ⟨rfl,ry⟩
theorem KV.length {kvs:List (κ×V)}{vs:List (κ×Value)}(r:KV kvs vs):kvs.length=vs.length:=Paired.length r
end
theorem Aw {P:Program}{w:World}{k:Key}{u:Value}(r:RelV (kV k) u):(fM P w).is k u=true:=by
 cases k with
 | inl i=>obtain⟨t,e⟩:=(show ∃t,u=Value.int i t from r);subst e;exact Ao P w i t
 | inr x=>obtain⟨t,e⟩:=(show ∃t,u=Value.str x t from r);subst e;exact nQ P w x t
noncomputable abbrev KT (H:Hp):List (D×V)->List (D×Addr×Value)->Prop:=Paired fun p q=>p.1=q.1/\Kd H q.2.1 p.1/\RelV p.2 q.2.2
theorem KT.val {H:Hp}{kvs:List (D×V)}{xs:List (D×Addr×Value)}(r:KT H kvs xs) (k:D):xj (qH kvs k) ((atKey xs k).map (·.2)):=by
 induction r with
 | nil=>exact True.intro
 | @cons p q ps qs h t ih=>
  obtain⟨h1,_,h2⟩:=h
  by_cases e:p.1=k
  ·have e':q.1=k:=h1.symm.trans e
   have b:atKey (q :: qs) k=some q.2:=by simp[atKey,List.find?_cons,e']
   rw[rq e,b];exact h2
  ·have e':¬q.1=k:=fun z=>e (h1.trans z)
   have b:atKey (q :: qs) k=atKey qs k:=by simp[atKey,List.find?_cons,e']
   rw[nX e,b];exact ih
theorem KT.repl {H:Hp}{kvs:List (D×V)}{xs:List (D×Addr×Value)}(r:KT H kvs xs) (k:D){y:V}{u:Value}(ry:RelV y u):
  KT H (kvs.map fun kv=>if kv.1=k then(kv.1,y) else kv) (xs.map (putAt k u)):=by
 induction r with
 | nil=>exact .nil
 | @cons p q ps qs h t ih=>
  rw[List.map_cons,List.map_cons]
  refine .cons ?_ ih
  obtain⟨h1,h2,h3⟩:=h
  unfold putAt
  by_cases e:p.1=k
  ·rw[if_pos e,if_pos (h1.symm.trans e)];exact⟨h1,h2,ry⟩
  ·rw[if_neg e,if_neg (fun z=>e (h1.trans z))];exact⟨h1,h2,h3⟩
theorem KT.put {H:Hp}{kvs:List (D×V)}{xs:List (D×Addr×Value)}(r:KT H kvs xs) (k:D){b:Addr}{y:V}{u:Value}(hb:Kd H b k) (ry:RelV y u):
  KT H (putK kvs k y) (storedH xs k b u):=by
 have e:(kvs.any fun kv=>decide (kv.1=k))=(atKey xs k).isSome:=by
  rw[Av,(r.val k).sL,Option.isSome_map]
 unfold putK storedH
 rw[e]
 by_cases q:(atKey xs k).isSome=true
 ·rw[if_pos q,if_pos q];exact r.repl k ry
 ·rw[if_neg q,if_neg q];exact Paired.snoc r ⟨rfl,hb,ry⟩
theorem KT.keeps {H H':Hp}{kvs:List (D×V)}{xs:List (D×Addr×Value)}(r:KT H kvs xs) (ht:∀b ys,H b=some (.tup ys)->H' b=some (.tup ys)):KT H' kvs xs:=
 Paired.Ek r fun _ _ z=>⟨z.1,z.2.1.tups ht,z.2.2⟩
section
variable {P:Program}{w:World}{H:Hp}{h:Heap}{a:Addr}
theorem M0 {u:HO}(ok:nO P w H h) (e:Rd H a u):fB P w H h a u:=e.ok ok
theorem Ax {kvs:List (Key×V)}(ok:nO P w H h) (e:Rd H a (.dK kvs)):kvs.length<=sizeLine/\(a == sysModules)=false/\∃vs,KV kvs vs/\h.DictOf (fM P w) a vs:=
 show fB P w H h a (.dK kvs) from M0 ok e
theorem M1 {kvs:List (Key×V)}(ok:nO P w H h) (e:H a=some (.dK kvs)):kvs.length<=sizeLine/\(a == sysModules)=false/\∃vs,KV kvs vs/\h.DictOf (fM P w) a vs:=Ax ok (.inl e)
mutual
theorem GR (ok : nO P w H h) : ∀ (d : D) {n : Nat} {v : V} {u : Value}, Rep H v d -> RelV v u -> gM n d = true -> xh h u d
  | .dR,n,_,_,_,_,k=>by simp[gM] at k
  | .bl _,n,_,_,_,_,k=>by simp[gM] at k
  | .lst _,n,_,_,_,_,k=>by simp[gM] at k
  | .int i,n,_,_,r,q,k=>by cases r;obtain⟨t,rfl⟩:=q;exact .int i t
  | .str i,n,_,_,r,q,k=>by cases r;obtain⟨t,rfl⟩:=q;exact .str i t
  | .tup ds,n,_,_,r,q,k=>by
    cases n with
    | zero=>simp[gM] at k
    | succ n=>
      cases r with
      | @tup a vs _ e rs=>
        cases q
        obtain⟨_,its,rv,o,h1,h2,m,h3⟩:=(show fB P w H h a (.tup vs) from ok a _ e)
        exact .tup ⟨o,h1,h2,m,h3⟩ (Dj ok ds rs rv k)
theorem Dj (ok:nO P w H h):∀(ds:List D){n:Nat}{vs:List V}{us:List Value},bN H vs ds->Vals vs us->ds.all (gM n)=true->lO h us ds
  | [],n,_,_,r,q,k=>by cases r;cases q;exact .nil
  | d :: ds, n, _, _, r, q, k => by
    rw[List.all_cons,Bool.and_eq_true] at k
    cases r with
    | cons r1 r2=>
      cases q with
      | cons q1 q2=>exact .cons (GR ok d r1 q1 k.1) (Dj ok ds r2 q2 k.2)
end
theorem za {ks:D}(ok:nO P w H h) (e:Kd H a ks):(mJ P w).is h ks a:=⟨GR ok ks e.1 rfl e.2,e.2⟩
theorem Dk {kvs : List (D × V)} (ok : nO P w H h) (e : Rd H a (.dT kvs)) : kvs.length <= sizeLine /\ (a == sysModules) = false /\
    ∃xs,KT H kvs xs/\h.DictOfH (mJ P w) a xs:=by
  obtain⟨z,y,xs,r,o,es,ep,h1,h2,h3,h4,h5⟩:=(show fB P w H h a (.dT kvs) from M0 ok e)
  refine⟨z,y,xs,r,o,es,ep,h1,h2,h3,h4,fun x hx=>?_,h5⟩
  have all:∀{l:List (D×V)}{m:List (D×Addr×Value)},KT H l m->∀x∈m,(mJ P w).is h x.1 x.2.1:=by
    intro l m q
    induction q with
    | nil=>intro x hx;exact nomatch hx
    | @cons p q ps qs hq t ih=>
      intro x hx
      rcases List.mem_cons.mp hx with e | hx
      . subst e
        exact za ok (by rw[<-hq.1];exact hq.2.1)
      . exact ih x hx
  exact all r x hx
theorem RY {kvs:List (D×V)}(ok:nO P w H h) (e:H a=some (.dT kvs)):kvs.length<=sizeLine/\(a == sysModules)=false/\
  ∃xs,KT H kvs xs/\h.DictOfH (mJ P w) a xs:=Dk ok (.inl e)
end
noncomputable def nZ (H:Hp) (a:Addr) (y:V) (r:Option V):Prop:=
 (∃kvs k,Rd H a (.dK kvs)/\y=kV k/\r=qH kvs k)\/∃kvs k b,Rd H a (.dT kvs)/\y= .ref b/\Kd H b k/\r=qH kvs k
noncomputable def Ay (H:Hp) (a:Addr) (y v:V) (H':Hp):Prop:=
 (∃kvs k,H a=some (.dK kvs)/\y=kV k/\kvs.length < sizeLine/\H'=upd H a (.dK (putK kvs k v)))\/
 ∃kvs k b,H a=some (.dT kvs)/\y= .ref b/\Kd H b k/\kvs.length < sizeLine/\H'=upd H a (.dT (putK kvs k v))
theorem nZ.k {H:Hp}{a:Addr}{kvs:List (Key×V)}{k:Key}(e:H a=some (.dK kvs)):nZ H a (kV k) (qH kvs k):=.inl ⟨kvs,k,.inl e,rfl,rfl⟩
theorem nZ.t {H:Hp}{a b:Addr}{kvs:List (D×V)}{k:D}(e:H a=some (.dT kvs)) (eb:Kd H b k):nZ H a (.ref b) (qH kvs k):=.inr ⟨kvs,k,b,.inl e,rfl,eb,rfl⟩
theorem Ay.k {H:Hp}{a:Addr}{kvs:List (Key×V)}{k:Key}{v:V}(e:H a=some (.dK kvs)) (hl:kvs.length < sizeLine):Ay H a (kV k) v (upd H a (.dK (putK kvs k v))):=.inl ⟨kvs,k,e,rfl,hl,rfl⟩
theorem Ay.t {H:Hp}{a b:Addr}{kvs:List (D×V)}{k:D}{v:V}(e:H a=some (.dT kvs)) (eb:Kd H b k) (hl:kvs.length < sizeLine):
  Ay H a (.ref b) v (upd H a (.dT (putK kvs k v))):=.inr ⟨kvs,k,b,e,rfl,eb,hl,rfl⟩
section
variable {X:Cx}{pins:List (Addr×Obj)}{σ:St}{H:Hp}{s:Shared}{a:Addr}{y v:V}{u r:Value}{o:Option V}{A:Around}{E:Value->Shared->Prop}
theorem Inv.big (I:Inv X pins σ H s):sysModules < s.heap.objs.size:=by
 have h:mainGlobals < s.heap.objs.size:=(I.mod.glob.keeps I.bk).lt
 exact Nat.lt_trans (by decide) h
theorem Ex {Q:Value->Shared->Prop}(hu:A.units+20 < cLine) (I:Inv X pins σ H s) (g:nZ H a y (some v)) (ry:RelV y u) (h:∀w' s',Inv X pins σ H s'->RelV v w'->Q w' s'):
  wpAny (model X.prog X.w) A (getItem (.ref a) u) Q E s:=by
 rcases g with⟨kvs,k,e,ey,l⟩ | ⟨kvs,k,b,e,ey,eb,l⟩
 ·subst ey
  obtain⟨z,hd,vs,rel,dd⟩:=Ax I.hok e
  obtain⟨w',hw,rw'⟩:=xj.some_of (v:=v) (o:=valueAt vs k) (by rw[l];exact rel.val k)
  exact wpAny_getItem_of (Aw ry) dd.mapOf hw (h w' _ (I.tok _) rw')
 ·subst ey
  cases(show u=Value.ref b from ry)
  obtain⟨z,hd,xs,rel,dd⟩:=Dk I.hok e
  obtain⟨w',hw,rw'⟩:=xj.some_of (v:=v) (o:=(atKey xs k).map (·.2)) (by rw[l];exact rel.val k)
  obtain⟨p,hp,hp2⟩:=Option.map_eq_some_iff.mp hw
  refine wpAny_getItem_heap (mz hu) (za I.hok eb) dd hp ?_
  rw[hp2]
  exact h w' _ (I.tok _) rw'
theorem KJ {Q:Value->Shared->Prop}(hu:A.units+20 < cLine) (I:Inv X pins σ H s) (g:nZ H a y o) (ry:RelV y u) (h:∀s',Inv X pins σ H s'->Q (.bool (!o.isSome)) s'):
  wpAny (model X.prog X.w) A (compareOp .NotIn u (.ref a)) Q E s:=by
 rcases g with⟨kvs,k,e,ey,l⟩ | ⟨kvs,k,b,e,ey,eb,l⟩
 ·subst ey
  obtain⟨z,hd,vs,rel,dd⟩:=Ax I.hok e
  refine wpAny_notIn_of (Aw ry) hd dd.mapOf ?_
  rw[<-(rel.val k).sL,<-l]
  exact h _ (I.tok _)
 ·subst ey
  cases(show u=Value.ref b from ry)
  obtain⟨z,hd,xs,rel,dd⟩:=Dk I.hok e
  refine wpAny_notIn_heap (mz hu) (za I.hok eb) hd dd ?_
  have q:=(rel.val k).sL
  rw[Option.isSome_map] at q
  rw[<-q,<-l]
  exact h _ (I.tok _)
theorem zb {h':Heap}{t':Nat}{ob:HO}(I:Inv X pins σ H s) (mu:Rn (H a)) (hs:Heap.SameBut a s.heap h') (he:∃q,h'.get? a=some q) (new:fB X.prog X.w (upd H a ob) h' a ob):
  Inv X pins σ (upd H a ob) {s with heap:=h',toks:=t'}:=
 I.write (x:=a) (e:=a) mu (.inl rfl) (fun b q hb z=>(hs.2 b hb).trans z) he new
theorem GV {P:Program}{w:World}{H':Hp}{h':Heap}{kvs:List (Key×V)}{vs:List (Key×Value)}(z:kvs.length<=sizeLine) (hd:(a == sysModules)=false) (rel:KV kvs vs) (dd:h'.DictOf (fM P w) a vs):
  fB P w H' h' a (.dK kvs):=⟨z,hd,vs,rel,dd⟩
theorem Ey {H':Hp}{Q:Unit->Shared->Prop}(hu:A.units+20 < cLine) (I:Inv X pins σ H s) (g:Ay H a y v H') (ry:RelV y u) (rv:RelV v r) (h:∀s',Inv X pins σ H' s'->Q () s'):
  wpAny (model X.prog X.w) A (setItem (.ref a) u r) Q E s:=by
 rcases g with⟨kvs,k,e,ey,l,eH⟩ | ⟨kvs,k,b,e,ey,eb,l,eH⟩
 ·subst ey eH
  obtain⟨z,hd,vs,rel,dd⟩:=M1 I.hok e
  have hz:vs.length<=sizeLine:=by rw[<-rel.length];exact z
  have hl:(putK kvs k v).length<=sizeLine:=by have:=nY kvs k v;omega
  refine wpAny_setItem_pairs (hsz:=hz) (Aw ry) dd fun h' Og hs=>h _ ?_
  have he:∃q,h'.get? a=some q:=let⟨q,_,_,hq,_⟩:=Og;⟨q,hq⟩
  exact zb I (by rw[e];exact True.intro) hs he (GV hl hd (rel.put k rv) Og)
 ·subst ey eH
  cases(show u=Value.ref b from ry)
  obtain⟨z,hd,xs,rel,dd⟩:=RY I.hok e
  have hz:xs.length<=sizeLine:=by rw[<-Paired.length rel];exact z
  have hl:(putK kvs k v).length<=sizeLine:=by have:=nY kvs k v;omega
  refine wpAny_setItem_heap (hsz:=hz) (mz hu) (za I.hok eb) dd fun h' Og hs=>h _ ?_
  obtain⟨q,es,ep,hq,h2,h3,h4,_,h5⟩:=Og
  refine zb I (by rw[e];exact True.intro) hs ⟨q,hq⟩ ⟨hl,hd,_,(rel.put k eb rv).keeps fun c ys ec=>?_,q,es,ep,hq,h2,h3,h4,h5⟩
  rw[aY (Rm ec e (fun z=>nomatch z))]
  exact ec
end
section
variable {X:Cx}{pins:List (Addr×Obj)}{σ:St}{H:Hp}{s:Shared}{a:Addr}{kvs:List (Key×V)}{k:Key}{u:Value}{A:Around}{E:Value->Shared->Prop}
theorem RZ {Q:Value->Shared->Prop}(I:Inv X pins σ H s) (e:Rd H a (.dK kvs)) (h:∀t s',Inv X pins σ H s'->Q (.int kvs.length t) s'):wpAny (model X.prog X.w) A (call (.builtin "len") [.ref a]) Q E s:=by
 obtain⟨z,hd,vs,rel,dd⟩:=Ax I.hok e
 refine call_len_dict hd dd (by rw[<-rel.length];rw[sizeLine_eq] at z;omega) ?_
 rw[<-rel.length]
 exact h _ _ (I.tok _)
end
noncomputable def KL (i:Expr):Prop:=∀ov iv,subscripted i false ov iv=operate [ov,iv] (getItem ov iv)
theorem Dl {prog:Program}{w:World}{A:Around}{E:Value->Shared->Prop}{s:Shared}{env:Env}{value slice:Expr}{pos:Pos}{T id:String}{Q:Value->Shared->Prop}
  (hl:typeLookup (.type T) "__getitem__" =pure (some (.builtin id))) (hs:KL slice)
  (h:wpAny (model prog w) A (eval value env) (fun o s₁=>wpAny (model prog w) A (eval slice env) (fun i s₂=>s₂.TypeIs o T/\wpAny (model prog w) A (getItem o i) Q E s₂) E s₁) E s):
  wpAny (model prog w) A (eval (.Subscript value slice pos) env) Q E s:=by
 refine Subscript_ (wpAny_mono h (fun o s₁ h₁=>wpAny_mono h₁ (fun i s₂ h₂=>?_) fun _ _ x=>x) fun _ _ x=>x)
 obtain⟨hT,h₂⟩:=h₂
 unfold subscriptTail
 refine wpAny_bind ?_
 rw[getitemInPython_of_ne hT.not_modules]
 refine wpAny_bind (wpAny_specialOf hT hl ?_)
 have fin:wpAny (model prog w) A (subscripted slice false o i) (fun r s₃=>wpAny (model prog w) A (letTemporaryGo value o r >>= fun _=>pure r) Q E s₃) E s₂:=by
  rw[hs o i]
  exact wpAny_operating (wpAny_mono h₂ (fun r s₃ h₃=>wpAny_bind (wpAny_letTemporaryGo (wpAny_pure h₃))) fun _ _ x=>x)
 first
  | exact wpAny_pure (wpAny_bind fin)
  | exact wpAny_bind (wpAny_pure (wpAny_bind fin))
  | exact wpAny_bind fin
theorem Az {X:Cx}{pins:List (Addr×Obj)}{σ:St}{H:Hp}{s:Shared}{a:Addr}{y:V}{o:Option V}(I:Inv X pins σ H s) (g:nZ H a y o):s.TypeIs (.ref a) "dict":=by
 rcases g with⟨kvs,k,e,_,_⟩ | ⟨kvs,k,b,e,_,_,_⟩
 ·obtain⟨_,_,vs,_,dd⟩:=Ax I.hok e
  exact dd.typeIs
 ·obtain⟨_,_,xs,_,dd⟩:=Dk I.hok e
  exact dd.typeIs
noncomputable def R5 (td ty:TE):TE:=fun σ H Q=>td σ H fun x H1=>ty σ H1 fun y H2=>∃a v,x= .ref a/\nZ H2 a y (some v)/\Q v H2
noncomputable def Dm (ty td:TE):TE:=fun σ H Q=>ty σ H fun y H1=>td σ H1 fun x H2=>∃a o,x= .ref a/\nZ H2 a y o/\Q (.bl (!o.isSome)) H2
noncomputable def R6 (td ty tv:TE):TS:=fun D σ H=>tv σ H fun v H1=>td σ H1 fun x H2=>ty σ H2 fun y H3=>∃a H4,x= .ref a/\Ay H3 a y v H4/\D.nx σ H4
section
variable {X:Cx}{o i e value:Expr}{pos pos' tpos:Pos}{td ty tv:TE}
theorem Dn (hu:X.A.units+20 < cLine) (ho:PE X o td) (hi:PE X i ty) (hs:KL i):PE X (.Subscript o i pos) (R5 td ty):=by
 intro pins s σ H Q I h
 refine Dl PySem.F.slot_dict_getitem.lookup hs (gf (ho pins s σ H _ I h) fun u s1 ⟨x,H1,I1,rx,q1⟩=>gf (hi pins s1 σ H1 _ I1 q1) fun iv s2 ⟨y,H2,I2,ry,a,v,ex,g,q2⟩=>?_)
 subst ex
 obtain rfl:u=Value.ref a:=rx
 exact⟨Az I2 g,Ex hu I2 g ry fun w' s3 I3 rw'=>⟨v,H2,I3,rw',q2⟩⟩
theorem Ez (hu:X.A.units+20 < cLine) (hi:PE X i ty) (ho:PE X o td):PC X .NotIn i o (Dm ty td):=by
 intro pins s σ H Q I h
 refine gf (hi pins s σ H _ I h) fun iv s1 ⟨y,H1,I1,ry,q1⟩=>gf (ho pins s1 σ H1 _ I1 q1) fun u s2 ⟨x,H2,I2,rx,a,ov,ex,g,q2⟩=>?_
 subst ex
 obtain rfl:u=Value.ref a:=rx
 exact KJ hu I2 g ry fun s3 I3=>⟨.bl (!ov.isSome),H2,I3,rfl,q2⟩
theorem Dp (hu:X.A.units+20 < cLine) (ho:PE X o td) (hi:PE X i ty) (hv:PE X value tv) (hs:swapsWith value (some (.Subscript o i pos')) pos.line X.env=pure false):
  PS X (.Assign [.Subscript o i pos'] value pos) (R6 td ty tv):=by
 intro pins s σ H D I h
 refine wpAny_Assign_Subscript (gf (hv pins s σ H _ I h) fun r s1 ⟨v,H1,I1,rv,q1⟩=>gf (ho pins s1 σ H1 _ I1 q1) fun u s2 ⟨x,H2,I2,rx,q2⟩=>gf (hi pins s2 σ H2 _ I2 q2) fun iv s3 ⟨y,H3,I3,ry,a,H4,ex,g,q3⟩=>?_) hs
 subst ex
 obtain rfl:u=Value.ref a:=rx
 exact Ey hu I3 g ry rv fun s4 I4=>⟨σ,H4,I4,q3⟩
end
theorem GW {P:Program}{w:World}{H:Hp}(h:Heap) (hb:sysModules < h.objs.size):fB P w H (h.push {cls:=.type "dict",data:=.dict #[]}) h.objs.size (.dK []):=
 ⟨Nat.zero_le _,beq_eq_false_iff_ne.mpr (Ne.symm (Nat.ne_of_lt hb)),[],.nil,Heap.DictOf.new h⟩
theorem GX {P:Program}{w:World}{H:Hp}(h:Heap) (hb:sysModules < h.objs.size):fB P w H (h.push {cls:=.type "dict",data:=.dict #[]}) h.objs.size (.dT []):=
 ⟨Nat.zero_le _,beq_eq_false_iff_ne.mpr (Ne.symm (Nat.ne_of_lt hb)),[],.nil,_,#[],0,Heap.get?_push_size _ rfl,⟨rfl,rfl,rfl⟩,rfl,rfl,List.nodup_nil⟩
noncomputable def Oh:TE:=fun _ H Q=>∀p,H p=none->Q (.ref p) (upd H p (.dT []))
section
variable {X:Cx}{pos:Pos}
theorem GY:PE X (.Dict [] [] pos) Oh:=fun pins s σ H Q I h=>
 wpAny_Dict_empty ⟨.ref s.heap.objs.size,_,I.laid (a:=s.heap.objs.size) (o:=.dT []) (t':=s.toks) (fun _ _ q=>Heap.get?_push_of_some _ q) (Nat.le_refl _) (GX s.heap I.big),rfl,h _ (I.hok.fresh (Nat.le_refl _))⟩
end
noncomputable def vt:List (TE×TE)->St->Hp->(List (V×V)->Hp->Prop)->Prop
 | [],_,H,Q=>Q [] H
 | (tk,tv) :: r,σ,H,Q=>tk σ H fun x H1=>tv σ H1 fun y H2=>vt r σ H2 fun ps H3=>Q ((x,y) :: ps) H3
noncomputable abbrev VV:List (V×V)->List (Value×Value)->Prop:=Paired fun p q=>RelV p.1 q.1/\RelV p.2 q.2
noncomputable def R7 (X:Cx) (pos:Pos) (keys:List (Option Expr)) (values:List Expr) (KN:List (TE×TE)):Prop:=
 ∀(pins:List (Addr×Obj)) (s:Shared) (σ:St) (H:Hp) (Q:List (V×V)->Hp->Prop),Inv X pins σ H s->vt KN σ H Q->
  wpAny (model X.prog X.w) X.A (evalPairs (pairTrees keys values X.env pos)) (fun vs s'=>∃ps H',Inv X pins σ H' s'/\VV ps vs/\Q ps H') X.xe s
theorem KO {X:Cx}{pos:Pos}:R7 X pos [] [] []:=fun pins s σ H Q I h=>pairTrees_nil_walk ⟨[],H,I,.nil,h⟩
theorem GZ {X:Cx}{pos:Pos}{k v:Expr}{ks:List (Option Expr)}{vs:List Expr}{tk tv:TE}{KN:List (TE×TE)}(hk:PE X k tk) (hv:PE X v tv) (hr:R7 X pos ks vs KN):
  R7 X pos (some k :: ks) (v :: vs) ((tk,tv) :: KN):=fun pins s σ H Q I h=>
 pairTrees_cons_walk (gf (hk pins s σ H _ I h) fun u s1 ⟨x,H1,I1,rx,q1⟩=>gf (hv pins s1 σ H1 _ I1 q1) fun w2 s2 ⟨y,H2,I2,ry,q2⟩=>
  gf (hr pins s2 σ H2 _ I2 q2) fun ws s3 ⟨ps,H3,I3,rel,q3⟩=>⟨(x,y) :: ps,H3,I3,.cons ⟨rx,ry⟩ rel,q3⟩)
noncomputable def oh (kvs more:List (Key×V)):List (Key×V):=more.foldl (fun acc kv=>putK acc kv.1 kv.2) kvs
theorem KV.merge:∀{more:List (Key×V)}{rs:List (Key×Value)}{kvs:List (Key×V)}{vs:List (Key×Value)},KV more rs->KV kvs vs->KV (oh kvs more) (merged vs rs):=by
 intro more rs kvs vs r
 unfold KV at r
 induction r generalizing kvs vs with
 | nil=>intro q;exact q
 | @cons p q ps qs h t ih=>
  intro r0
  have e:KV (putK kvs p.1 p.2) (stored vs q.1 q.2):=by
   have:=r0.put p.1 h.2
   rw[<-h.1];exact this
  exact ih e
theorem qo:∀(more kvs:List (Key×V)),(oh kvs more).length<=kvs.length+more.length
 | [],kvs=>by show kvs.length<=kvs.length+0;omega
 | p :: r,kvs=>by
  have h1:=qo r (putK kvs p.1 p.2)
  have h2:=nY kvs p.1 p.2
  show(oh (putK kvs p.1 p.2) r).length<=_
  rw[List.length_cons];omega
theorem vA {P:Program}{w:World}:∀{kvs:List (Key×V)}{ws:List (Value×Value)},VV (kvs.map fun kv=>(kV kv.1,kv.2)) ws->∃rs,Carries (fM P w) ws rs/\KV kvs rs
  | [],_,r=>by rw[List.map_nil] at r;cases r;exact⟨[],True.intro,.nil⟩
  | p :: kvs, _, r => by
    rw[List.map_cons] at r
    cases r with
    | @cons a b as bs h t=>
      obtain⟨rs,c,q⟩:=vA (P:=P) (w:=w) t
      obtain⟨b1,b2⟩:=b
      exact⟨(p.1,b2) :: rs,⟨Aw h.1,rfl,c⟩,.cons ⟨rfl,h.2⟩ q⟩
noncomputable def R8 (KN:List (TE×TE)):TE:=fun σ H Q=>∀p,H p=none->vt KN σ (upd H p (.dK [])) fun ps H2=>H2 p=some (.dK [])/\∃kvs:List (Key×V),ps=kvs.map (fun kv=>(kV kv.1,kv.2))/\kvs.length<=15/\Q (.ref p) (upd H2 p (.dK (oh [] kvs)))
theorem KP {X:Cx}{pos:Pos}{keys:List (Option Expr)}{values:List Expr}{KN:List (TE×TE)}(h:R7 X pos keys values KN) (hall:keys.all (·.isSome)=true) (hl:keys.length=values.length) (h0:keys≠[])
  (WG:keys.length<=15):PE X (.Dict keys values pos) (R8 KN):=by
 intro pins s σ H Q I q
 have hn:=I.hok.fresh (Nat.le_refl s.heap.objs.size)
 have I1:=I.laid (a:=s.heap.objs.size) (o:=.dK []) (h':=s.heap.push {cls:=.type "dict",data:=.dict #[]}) (t':=s.toks) (fun _ _ q=>Heap.get?_push_of_some _ q) (Nat.le_refl _) (GW s.heap I.big)
 refine wpAny_Dict_walk (knd:=fM X.prog X.w) hall hl h0 WG (gf (h pins _ σ _ _ I1 (q _ hn)) fun ws s2 ⟨ps,H2,I2,rel,e,kvs,ep,lk,q2⟩=>?_)
 subst ep
 obtain⟨rs,c,rk⟩:=vA (P:=X.prog) (w:=X.w) rel
 obtain⟨z,hd,U7,r0,dd⟩:=M1 I2.hok e
 cases r0
 refine⟨rs,c,dd,fun h' Og hs=>⟨.ref s.heap.objs.size,_,?_,rfl,q2⟩⟩
 have hz:(oh [] kvs).length<=sizeLine:=by
  have h1:=qo kvs []
  rw[List.length_nil] at h1
  rw[sizeLine_eq];omega
 have he:∃q,h'.get? s.heap.objs.size=some q:=let⟨q,_,_,hq,_⟩:=Og;⟨q,hq⟩
 exact zb I2 (by rw[e];exact True.intro) hs he (GV hz hd (rk.merge .nil) Og)
section
variable {X:Cx}{pins:List (Addr×Obj)}{σ:St}{H:Hp}{s:Shared}{a:Addr}{y d:V}{u r:Value}{o:Option V}{A:Around}{E:Value->Shared->Prop}
end
section
variable {X:Cx}{o e f:Expr}{apos cpos:Pos}{td ty tx:TE}
end
section
variable {X:Cx}{pins:List (Addr×Obj)}{σ:St}{H:Hp}{s:Shared}{a:Addr}{kvs:List (Key×V)}{A:Around}{E:Value->Shared->Prop}
end
section
variable {X:Cx}{pins:List (Addr×Obj)}{σ:St}{H:Hp}{s:Shared}{a:Addr}{y:V}{u:Value}{A:Around}{E:Value->Shared->Prop}
end
end L2
namespace HT
open PySem PyProof.Rows
section
open PySem.SeqAt
open PySem.AutoSeq1 (wpAny_loadPart')
open PySem.MeetsSeq PySem.MeetsSeq2 PySem.MeetsSeq3
end
section
variable {prog:Program}{w:World}{A:Around}{E:Value->Shared->Prop}{s:Shared}
theorem KQ {t b:Addr}{vs ws:List Value}{Q:Value->Shared->Prop}(ht:IsTup s.heap t vs.toArray) (hb:IsTup s.heap b ws.toArray) (hv:vs≠[])
  (h1:ws=[]->Q (.ref t) s) (h2:ws≠[]->Q (.ref s.heap.objs.size) {s with heap:=s.heap.push {cls:=.type "tuple",data:=.seq (vs++ws).toArray}})
  (hsz:vs.length+ws.length<=sizeLine):wpAny (model prog w) A (binaryOp .Add (.ref t) (.ref b)) Q E s:=by
 obtain⟨⟨cls,dd,data,sl⟩,ho,hc,n,hd⟩:=id ht
 obtain⟨⟨WH,dd2,data2,sl2⟩,ho2,hc2,n2,hd2⟩:=id hb
 simp only at hc hd hc2 hd2
 subst hc hd hc2 hd2
 have e:vs.toArray++ws.toArray=(vs++ws).toArray:=by simp
 by_cases hw:ws=[]
 ·exact concat_meets ⟨_,ho,rfl⟩ ⟨_,ho2,rfl⟩ noFill_tuple_add seq_tuple_add PySem.F.slot_tuple_add PySem.F.entry_tuple_add (PySem.F.args_tuple_add_2 _ _)
   (tuple_addW1 t b vs.toArray ws.toArray n n2 dd dd2 sl sl2 (by simpa using hv) (by simp[hw])) ⟨ho,ho2,h1 hw⟩
 ·refine concat_meets ⟨_,ho,rfl⟩ ⟨_,ho2,rfl⟩ noFill_tuple_add seq_tuple_add PySem.F.slot_tuple_add PySem.F.entry_tuple_add (PySem.F.args_tuple_add_2 _ _)
   (tuple_addW2 t b vs.toArray ws.toArray n n2 dd dd2 sl sl2 (by simpa using hv) (by simpa using hw) (by rw[List.size_toArray,List.size_toArray];exact hsz)) ⟨ho,ho2,?_⟩
  rw[e]
  exact h2 hw
noncomputable def ig (n d:Nat):Option Int->Nat
 | none=>d
 | some v=>if v < 0 then(v+(n:Int)).toNat else min v.toNat n
theorem vB (n d:Nat):ig n d none=d:=rfl
theorem zc (n d k:Nat):ig n d (some (k:Int))=min k n:=by
 show(if(k:Int) < 0 then((k:Int)+(n:Int)).toNat else min (k:Int).toNat n)=min k n
 rw[if_neg (by omega),Int.toNat_natCast]
theorem Oi (n d:Nat) (hd:d<=n) (o:Option Int):ig n d o<=n:=by
 cases o with
 | none=>exact hd
 | some v=>
  show(if v < 0 then(v+(n:Int)).toNat else min v.toNat n)<=n
  by_cases hv:v < 0
  ·rw[if_pos hv];omega
  ·rw[if_neg hv];exact Nat.min_le_right _ _
theorem Dq (v:Int) (n d:Nat):(if v < 0 then max (v+(n:Int)) 0 else min v (n:Int))=((ig n d (some v):Nat):Int):=by
 show(if v < 0 then max (v+(n:Int)) 0 else min v (n:Int))=(((if v < 0 then(v+(n:Int)).toNat else min v.toNat n):Nat):Int)
 by_cases hv:v < 0
 ·simp only[if_pos hv];omega
 ·simp only[if_neg hv];omega
theorem Ca (lo hi:Option Int) (n:Nat):Builtin.Slice.sliceAdjust lo hi 1 (n:Int)=(((ig n 0 lo:Nat):Int),((ig n n hi:Nat):Int)):=by
 have h1:¬((1:Int) < 0):=by omega
 unfold Builtin.Slice.sliceAdjust
 simp only[h1,if_false]
 refine Prod.ext ?_ ?_
 ·cases lo with
  | none=>rfl
  | some v=>exact Dq v n 0
 ·cases hi with
  | none=>rfl
  | some v=>exact Dq v n n
theorem Cb (i j:Nat):Builtin.Slice.slicePlaces (i:Int) (j:Int) 1=j - i:=by
 unfold Builtin.Slice.slicePlaces
 have h1:(1:Int) > 0:=by omega
 simp only[h1,if_true,Int.ediv_one]
 split <;> omega
theorem vC {v:Value}{o:Option Int}{Q:Option Int->Shared->Prop}(p:IsPart v o) (h:Q o s):wpAny (model prog w) A (Builtin.Slice.slicePartIndex v) Q E s:=by
 cases p with
 | none=>exact slicePart_none h
 | int i t=>exact slicePart_int h
theorem mL {sl:Addr}{vl vu:Value}{lo hi:Option Int}{n:Nat}{Q:Int×Int×Nat->Shared->Prop}(hs:s.heap.IsSliceOf sl vl vu .none) (pl:IsPart vl lo) (pu:IsPart vu hi)
  (h:Q (((ig n 0 lo:Nat):Int),1,ig n n hi - ig n 0 lo) s):wpAny (model prog w) A (Builtin.Slice.sliceApplied (.ref sl) (pure (n:Int))) Q E s:=by
 obtain⟨os,hos,hcs,hds⟩:=id hs
 unfold Builtin.Slice.sliceApplied Builtin.Slice.sliceFields
 refine wpAny_bind (wpAny_bind (wpAny_field hos hds (x:=vl) rfl (wpAny_bind (wpAny_field hos hds (x:=vu) rfl (wpAny_bind (wpAny_field hos hds (x:=.none) rfl (wpAny_pure ?_)))))))
 refine wpAny_bind (slicePart_none ?_)
 show wpAny _ _ (if((1:Int) == 0)=true then _ else _) _ _ s
 rw[if_neg (by decide)]
 refine wpAny_bind (vC pl (wpAny_bind (vC pu (wpAny_bind (wpAny_pure ?_)))))
 show wpAny _ _ (match Builtin.Slice.sliceAdjust lo hi 1 (n:Int) with | (lo,hi)=>pure (lo,(1:Int),Builtin.Slice.slicePlaces lo hi 1)) _ _ s
 rw[Ca lo hi n]
 show wpAny _ _ (pure (((ig n 0 lo:Nat):Int),(1:Int),Builtin.Slice.slicePlaces ((ig n 0 lo:Nat):Int) ((ig n n hi:Nat):Int) 1)) _ _ s
 rw[Cb]
 exact wpAny_pure h
theorem G0 (xs:Array Value) (i k:Nat):((List.range k).filterMap fun(m:Nat)=>xs[((i:Int)+(m:Int) * 1).toNat]?).toArray=((xs.toList.drop i).take k).toArray:=by
 have e:(fun(m:Nat)=>xs[((i:Int)+(m:Int) * 1).toNat]?)=fun m=>xs[i+m]?:=by
  funext m
  have:((i:Int)+(m:Int) * 1).toNat=i+m:=by omega
  rw[this]
 rw[e]
 have:=pick_run xs i k
 rw[List.filterMap_map] at this
 have e2:((fun x=>xs[x]?) ∘ fun x=>i+x)=fun m=>xs[i+m]?:=rfl
 rw[e2] at this
 rw[this]
theorem rz {t sl:Addr}{items:Array Value}{vl vu:Value}{lo hi:Option Int}{Q:Value->Shared->Prop}(ht:IsTup s.heap t items) (hs:s.heap.IsSliceOf sl vl vu .none) (pl:IsPart vl lo) (pu:IsPart vu hi)
  (hw:¬(ig items.size 0 lo=0/\ig items.size items.size hi=items.size))
  (h:Q (.ref s.heap.objs.size) {s with heap:=s.heap.push {cls:=.type "tuple",data:=.seq ((items.toList.drop (ig items.size 0 lo)).take (ig items.size items.size hi - ig items.size 0 lo)).toArray}})
  (hsz:items.size<=sizeLine):wpAny (model prog w) A (getItem (.ref t) (.ref sl)) Q E s:=by
 have Ds:sizeOk (.seq ((items.toList.drop (ig items.size 0 lo)).take (ig items.size items.size hi - ig items.size 0 lo)).toArray):=by
  show((items.toList.drop (ig items.size 0 lo)).take (ig items.size items.size hi - ig items.size 0 lo)).toArray.size<=sizeLine
  rw[List.size_toArray,List.length_take,List.length_drop,Array.length_toList]
  omega
 have hj:ig items.size items.size hi<=items.size:=Oi _ _ (Nat.le_refl _) hi
 obtain⟨os,hos,hcs,hds⟩:=id hs
 have WI:s.TypeIs (.ref sl) "slice":=⟨os,hos,hcs⟩
 unfold getItem
 try with_reducible refine wpAny_holding ?_
 first | refine wpAny_bind (wpAny_pure ?_) | skip
 refine wpAny_bind (wpAny_sequenceKey ht.typeIs (by decide) ?_)
 refine wpAny_bind (wpAny_callSpecial?_slot (name:=Str.ofString "__getitem__") ht.typeIs PyProof.Rows.slot_tuple_getitem
  (wpAny_call_entry PyProof.Rows.slot_tuple_getitem ht.typeIs entry_tuple_getitem ?_ (args_tuple_getitem _ _)))
 show wpAny _ _ (Builtin.Tuple.tupleItemsOf (.ref t) >>= _) _ _ s
 refine wpAny_bind (tupleItemsOf_ ht ?_)
 refine wpAny_bind (wpAny_typeOf WI ?_)
 rw[if_pos (by decide)]
 refine wpAny_bind (mL hs pl pu ?_)
 have hno:¬((((ig items.size 0 lo:Nat):Int) == 0 && (1:Int) == 1 && (ig items.size items.size hi - ig items.size 0 lo) == items.size)=true):=by
  intro q
  rw[Bool.and_eq_true,Bool.and_eq_true] at q
  have q1:((ig items.size 0 lo:Nat):Int)=0:=eq_of_beq q.1.1
  have q2:ig items.size items.size hi - ig items.size 0 lo=items.size:=eq_of_beq q.2
  exact hw ⟨by omega,by omega⟩
 show wpAny _ _ (if(((ig items.size 0 lo:Nat):Int) == 0 && (1:Int) == 1 && (ig items.size items.size hi - ig items.size 0 lo) == items.size)=true then _ else _) _ _ s
 rw[if_neg hno,G0]
 first
  | exact wpAny_bind (m:=Builtin.Tuple.tupleExact _) (wpAny_newObj_type (wpAny_pure ⟨_,rfl,wpAny_pure h⟩) Ds)
  | exact wpAny_bind (m:=Builtin.Tuple.tupleExact _) (wpAny_newObj_type (wpAny_bind (wpAny_pure (wpAny_pure ⟨_,rfl,wpAny_pure h⟩))) Ds)
  | exact wpAny_bind (wpAny_bind (m:=Builtin.Tuple.tupleExact _) (wpAny_newObj_type (wpAny_pure (wpAny_pure ⟨_,rfl,wpAny_pure h⟩)) Ds))
  | exact wpAny_bind (wpAny_bind (m:=Builtin.Tuple.tupleExact _) (wpAny_newObj_type (wpAny_pure ⟨_,rfl,wpAny_pure h⟩) Ds))
end
end HT
namespace L2
open PySem PySem.Spec PyProof.Rows
noncomputable abbrev TO:=St->Hp->(Option Int->Hp->Prop)->Prop
noncomputable def PO (X:Cx) (e:Option Expr) (t:TO):Prop:=
 ∀(pins:List (Addr×Obj)) (s:Shared) (σ:St) (H:Hp) (Q:Option Int->Hp->Prop),Inv X pins σ H s->t σ H Q->
  wpAny (model X.prog X.w) X.A (evalPart e X.env) (fun u s'=>∃o H',Inv X pins σ H' s'/\IsPart u o/\Q o H') X.xe s
noncomputable def KR:TO:=fun _ H Q=>Q none H
noncomputable def R9 (t:TE):TO:=fun σ H Q=>t σ H fun x H1=>∃i,x= .int i/\Q (some i) H1
section
variable {X:Cx}{e:Expr}{te:TE}{lo hi:Option Expr}{tl th:TO}{pos p2:Pos}
theorem KS:PO X none KR:=by
 intro pins s σ H Q I h
 rw[evalPart_none]
 exact wpAny_pure ⟨none,H,I,.none,h⟩
theorem KU (h:PE X e te):PO X (some e) (R9 te):=by
 intro pins s σ H Q I hw
 rw[evalPart_some]
 refine gf (h pins s σ H _ I hw) fun u s1 ⟨x,H1,I1,r1,q1⟩=>?_
 obtain⟨i,rfl,q⟩:=q1
 obtain⟨t,rfl⟩:=r1
 exact⟨some i,H1,I1,.int i t,q⟩
noncomputable def Sa (X:Cx) (r:V->Option Int->Option Int->Hp->VK->Prop):Prop:=
 ∀(pins:List (Addr×Obj)) (s:Shared) (σ:St) (H:Hp) (x:V) (v vl vu:Value) (lo hi:Option Int) (sl:Addr) (Q:VK),Inv X pins σ H s->RelV x v->s.heap.IsSliceOf sl vl vu .none->IsPart vl lo->IsPart vu hi->r x lo hi H Q->
  ∃T id,typeLookup (.type T) "__getitem__" =pure (some (.builtin id))/\s.TypeIs v T/\wpAny (model X.prog X.w) X.A (getItem v (.ref sl)) (EP X pins σ Q) X.xe s
noncomputable def tSl (r:V->Option Int->Option Int->Hp->VK->Prop) (te:TE) (tl th:TO):TE:=fun σ H Q=>te σ H fun x H1=>tl σ H1 fun l H2=>th σ H2 fun u H3=>r x l u H3 Q
theorem AA {r:V->Option Int->Option Int->Hp->VK->Prop}(hr:Sa X r) (he:PE X e te) (hl:PO X lo tl) (hu:PO X hi th):PE X (.Subscript e (.Slice lo hi none p2) pos) (tSl r te tl th):=by
 intro pins s σ H Q I h
 refine Subscript_ (gf (he pins s σ H _ I h) fun v s1 ⟨x,H1,I1,r1,q1⟩=>?_)
 refine wpAny_Slice (gf (hl pins s1 σ H1 _ I1 q1) fun vl s2 ⟨l,H2,I2,pl,q2⟩=>gf (hu pins s2 σ H2 _ I2 q2) fun vu s3 ⟨u,H3,I3,pu,q3⟩=>?_)
 rw[evalPart_none]
 refine wpAny_pure ?_
 have I4:Inv X pins σ H3 {s3 with heap:=s3.heap.push {cls:=.type "slice",data:=.fields #[vl,vu,.none]}}:=I3.kept (t':=s3.toks) fun b ob q=>Heap.get?_push_of_some _ q
 obtain⟨T,id,hT,ht,hg⟩:=hr pins {s3 with heap:=s3.heap.push {cls:=.type "slice",data:=.fields #[vl,vu,.none]}} σ H3 x v vl vu l u s3.heap.objs.size Q I4 r1 (Heap.IsSliceOf.new ..) pl pu q3
 show wpAny (model X.prog X.w) X.A (subscriptTail e (.Slice lo hi none p2) v (.ref s3.heap.objs.size)) (EP X pins σ Q) X.xe {s3 with heap:=s3.heap.push {cls:=.type "slice",data:=.fields #[vl,vu,.none]}}
 exact tail_any (ops:=[.ref s3.heap.objs.size,v]) ht hT hg (by with_unfolding_all rfl)
noncomputable def xu (xs:List V) (lo hi:Option Int):List V:=(xs.drop (HT.ig xs.length 0 lo)).take (HT.ig xs.length xs.length hi - HT.ig xs.length 0 lo)
theorem um (xs:List V) (lo hi:Option Int):(xu xs lo hi).length<=xs.length:=by
 unfold xu
 rw[List.length_take,List.length_drop]
 omega
noncomputable def WJ (K:PySem.W.Frag):V->Option Int->Option Int->Hp->VK->Prop:=fun x lo hi H Q=>∃a xs,x= .ref a/\yY K H a xs/\
 ¬(HT.ig xs.length 0 lo=0/\HT.ig xs.length xs.length hi=xs.length)/\∀p,H p=none->Q (.ref p) (upd H p (.tup (xu xs lo hi)))
theorem Oj:Sa X (WJ X.K):=by
 intro pins s σ H x v vl vu lo hi sl Q I rx hs pl pu h
 obtain⟨a,xs,rfl,hx,hw,q⟩:=h
 cases rx
 obtain⟨its,r,ht,hz⟩:=I.tuple hx
 have hlen:its.toArray.size=xs.length:=by rw[List.size_toArray];exact r.length.symm
 refine⟨"tuple",_,PyProof.Rows.slot_tuple_getitem.lookup,ht.typeIs,?_⟩
 refine HT.rz ht hs pl pu (by rw[hlen];exact hw) ?_ (by rw[hlen];exact hz)
 rw[hlen]
 refine⟨.ref s.heap.objs.size,_,I.laid (t':=s.toks) (o:=.tup (xu xs lo hi)) (fun b ob q=>Heap.get?_push_of_some _ q) (Nat.le_refl _) ?_,rfl,q _ (I.hok.fresh (Nat.le_refl _))⟩
 exact⟨Nat.le_trans (um xs lo hi) hz,_,(r.drop (HT.ig xs.length 0 lo)).take (HT.ig xs.length xs.length hi - HT.ig xs.length 0 lo),IsTup.new _ _⟩
noncomputable def Se (K:PySem.W.Frag):R2:=fun x y H Q=>∃a b xs ys,x= .ref a/\y= .ref b/\yY K H a xs/\yY K H b ys/\xs≠[]/\xs.length+ys.length<=sizeLine/\
 (ys=[]->Q (.ref a) H)/\(ys≠[]->∀p,H p=none->Q (.ref p) (upd H p (.tup (xs++ys))))
theorem Vals.zd {xs:List V}{us:List Value}(r:Vals xs us):us=[]↔xs=[]:=by
 cases r with
 | nil=>simp
 | cons _ _=>simp
theorem KW:yZ X (binaryOp .Add) (Se X.K):=by
 intro pins s σ H x y v u Q I rx ry h
 obtain⟨a,b,xs,ys,rfl,rfl,ha,hb,hx,hz,q1,q2⟩:=h
 cases rx
 cases ry
 obtain⟨its,r1,p1,_⟩:=I.tuple ha
 obtain⟨its2,r2,p2,_⟩:=I.tuple hb
 refine HT.KQ p1 p2 (fun z=>hx (r1.zd.mp z)) (fun z=>⟨.ref a,H,I,rfl,q1 (r2.zd.mp z)⟩) (fun z=>?_) (by rw[<-r1.length,<-r2.length];exact hz)
 refine⟨.ref s.heap.objs.size,_,I.laid (t':=s.toks) (o:=.tup (xs++ys)) (fun b ob q=>Heap.get?_push_of_some _ q) (Nat.le_refl _) ?_,rfl,q2 (fun w=>z (r2.zd.mpr w)) _ (I.hok.fresh (Nat.le_refl _))⟩
 exact⟨by rw[List.length_append];exact hz,_,r1.append r2,IsTup.new _ _⟩
end
noncomputable def Cc (n:Nat) (i:Int):Option Nat:=if 0<=i then(if i < n then some i.toNat else none) else if -(n:Int)<=i then some (i+n).toNat else none
noncomputable def gD {α:Type}(xs:List α) (i:Int):Option α:=(Cc xs.length i).bind fun j=>xs[j]?
theorem Dt {n:Nat}{i:Int}{j:Nat}(h:Cc n i=some j):seqIndex? i n=some j/\j < n/\-(n:Int)<=i/\i < n:=by
 unfold Cc at h
 by_cases h0:0<=i
 ·rw[if_pos h0] at h
  by_cases h1:i < n
  ·rw[if_pos h1] at h
   have e:i.toNat=j:=Option.some.inj h
   exact⟨by rw[seqIndex_of h0 h1,e],by omega,by omega,h1⟩
  ·rw[if_neg h1] at h;cases h
 ·rw[if_neg h0] at h
  by_cases h1:-(n:Int)<=i
  ·rw[if_pos h1] at h
   have e:(i+n).toNat=j:=Option.some.inj h
   exact⟨by rw[seqIndex_neg (by omega) h1,e],by omega,h1,by omega⟩
  ·rw[if_neg h1] at h;cases h
theorem ze {α:Type}{xs:List α}{i:Int}{v:α}(h:gD xs i=some v):∃j,seqIndex? i xs.length=some j/\xs[j]? =some v/\j < xs.length/\-(xs.length:Int)<=i/\i < xs.length:=by
 unfold gD at h
 cases e:Cc xs.length i with
 | none=>rw[e] at h;cases h
 | some j=>
  rw[e] at h
  obtain⟨h1,h2,h3,h4⟩:=Dt e
  exact⟨j,h1,h,h2,h3,h4⟩
noncomputable def zf (b:Expr):Prop:=∀o i,subscripted b false o i=operate [o,i] (getItem o i)
noncomputable def G1 (X:Cx) (r:R2):Prop:=
 ∀(value slice:Expr) (pins:List (Addr×Obj)) (s:Shared) (σ:St) (H:Hp) (x y:V) (v u:Value) (Q:VK),Inv X pins σ H s->RelV x v->RelV y u->r x y H Q->
  subscripted slice false v u=operate [v,u] (getItem v u)->wpAny (model X.prog X.w) X.A (subscriptTail value slice v u) (EP X pins σ Q) X.xe s
noncomputable def U8 (X:Cx) (id:String) (r:V->List V->Hp->VK->Prop):Prop:=
 ∀(pins:List (Addr×Obj)) (s:Shared) (σ:St) (H:Hp) (x:V) (xs:List V) (v:Value) (us:List Value) (Q:VK),Inv X pins σ H s->RelV x v->Vals xs us->r x xs H Q->
  wpAny (model X.prog X.w) X.A (call (.builtin id) (v :: us)) (EP X pins σ Q) X.xe s
section
variable {X:Cx}{a b:Expr}{ta tb:TE}{pos:Pos}
theorem G1.or {r r':R2}(h:G1 X r) (h':G1 X r'):G1 X (fun x y H Q=>r x y H Q\/r' x y H Q):=by
 intro value slice pins s σ H x y v u Q I rx ry q hs
 rcases q with q | q
 ·exact h value slice pins s σ H x y v u Q I rx ry q hs
 ·exact h' value slice pins s σ H x y v u Q I rx ry q hs
theorem G2 {r:R2}(hr:G1 X r) (ha:PE X a ta) (hb:PE X b tb) (hs:zf b):PE X (.Subscript a b pos) (QL r ta tb):=by
 intro pins s σ H Q I h
 exact Subscript_ (N4 ha hb I h fun v u s2 x y H2 I2 rx ry q=>hr a b pins s2 σ H2 x y v u Q I2 rx ry q (hs _ _))
noncomputable def Sg (K:PySem.W.Frag):R2:=fun x y H Q=>∃p xs i v,x= .ref p/\y= .int i/\nT K H p xs/\gD xs i=some v/\Q v H
noncomputable def Si (K:PySem.W.Frag):R2:=fun x y H Q=>∃p xs i v,x= .ref p/\y= .int i/\yY K H p xs/\gD xs i=some v/\Q v H
noncomputable def Sk:R2:=fun x y H Q=>∃z i c,x= .str z/\y= .int i/\z.length<=sizeLine/\gD z.cps.toList i=some c/\Q (.str ⟨#[c]⟩) H
theorem Du:G1 X (Sg X.K):=by
 intro value slice pins s σ H x y v u Q I rx ry h hs
 obtain⟨p,xs,i,z,rfl,rfl,hq,he,q⟩:=h
 cases rx
 obtain⟨t,rfl⟩:=ry
 obtain⟨its,r,pl,hz⟩:=I.list hq
 obtain⟨j,h1,h2,h3,h4,h5⟩:=ze he
 obtain⟨w,ew,rw'⟩:=r.get h2
 have hl:=r.length
 have hn:=sJ
 have fin:EP X pins σ Q w s:=⟨z,H,I,rw',q⟩
 by_cases h0:0<=i
 ·have hj:i.toNat=j:=by
   rw[seqIndex_of h0 h5] at h1
   exact Option.some.inj h1
  exact item_listR pl.isList h0 (by omega) (by rw[hj];simpa using ew) fin hs
 ·have hj:(i+(its.toArray.size:Int)).toNat=j:=by
   rw[seqIndex_neg (by omega) h4] at h1
   rw[List.size_toArray,<-hl]
   exact Option.some.inj h1
  exact subscriptTail_builtinR (x:=w) pl.isList.typeIs slot_list_getitem.lookup
   (wpAny_getItem_list_neg (Q:=fun r s'=>r=w/\EP X pins σ Q r s') pl.isList (by omega) (by rw[List.size_toArray] <;> omega) (by omega) (by rw[hj];simpa using ew) ⟨rfl,fin⟩) hs
theorem G3:G1 X (Si X.K):=by
 intro value slice pins s σ H x y v u Q I rx ry h hs
 obtain⟨p,xs,i,z,rfl,rfl,hq,he,q⟩:=h
 cases rx
 obtain⟨t,rfl⟩:=ry
 obtain⟨its,r,pl,hz⟩:=I.tuple hq
 obtain⟨j,h1,h2,h3,h4,h5⟩:=ze he
 obtain⟨w,ew,rw'⟩:=r.get h2
 have hl:=r.length
 have hn:=sJ
 have fin:EP X pins σ Q w s:=⟨z,H,I,rw',q⟩
 exact subscriptTail_builtinR (x:=w) pl.typeIs slot_tuple_getitem.lookup
  (getItem_tuple (j:=j) (Q:=fun r s'=>r=w/\EP X pins σ Q r s') pl (by omega) (by omega) (by rw[List.size_toArray,<-hl];exact h1) (by simpa using ew) ⟨rfl,fin⟩) hs
theorem G4:G1 X Sk:=by
 intro value slice pins s σ H x y v u Q I rx ry h hs
 obtain⟨z,i,c,rfl,rfl,hz,he,q⟩:=h
 obtain⟨t,rfl⟩:=rx
 obtain⟨t',rfl⟩:=ry
 obtain⟨j,h1,h2,h3,h4,h5⟩:=ze he
 have hl:z.cps.toList.length=z.length:=by simp[Str.length]
 rw[hl] at h1 h4 h5
 have hn:=sJ
 exact tail_any (typeIs_str s z t) slot_str_getitem.lookup (getItem_str (c:=c) (by
  have e1:decide (i < -(2 ^ 63:Int))=false:=decide_eq_false (by omega)
  have e2:decide (i≥2 ^ 63)=false:=decide_eq_false (by omega)
  rw[e1,e2,Bool.or_false]) (by rw[h1];simpa using h2) ⟨.str ⟨#[c]⟩,H,I.tok _,⟨_,rfl⟩,q⟩) hs
noncomputable def rIx (K:PySem.W.Frag):R2:=fun x y H Q=>Sg K x y H Q\/Si K x y H Q\/Sk x y H Q
theorem G5:G1 X (rIx X.K):=Du.or (G3.or G4)
theorem Cd (its:List Value) (n j:Nat) (u:Value):Obj.mapSeq (·.setIfInBounds j u) {cls:=.type "list",data:=.seq its.toArray n}={cls:=.type "list",data:=.seq (its.set j u).toArray n}:=by
 simp[Obj.mapSeq]
theorem Inv.lst {pins:List (Addr×Obj)}{σ:St}{H:Hp}{s:Shared}{p:Addr}{xs:List V}(I:Inv X pins σ H s) (h:H p=some (.lst xs)):
  ∃(its:List Value) (n:Nat),Vals xs its/\s.heap.get? p=some {cls:=.type "list",data:=.seq its.toArray n}/\xs.length<=sizeLine:=by
 obtain⟨z,its,n,r,e⟩:=I.hok p _ h
 exact⟨its,n,r,e,z⟩
theorem Inv.Ol {pins:List (Addr×Obj)}{σ:St}{H:Hp}{s:Shared}{p:Addr}{xs ys:List V}{its its':List Value}{n n':Nat}{f:Obj->Obj}(I:Inv X pins σ H s) (h:H p=some (.lst xs))
  (ho:s.heap.get? p=some {cls:=.type "list",data:=.seq its.toArray n}) (hf:f {cls:=.type "list",data:=.seq its.toArray n}={cls:=.type "list",data:=.seq its'.toArray n'}) (r:Vals ys its') (hz:ys.length<=sizeLine) (t:Nat):
  Inv X pins σ (upd H p (.lst ys)) {s with heap:=s.heap.update p f,toks:=t}:=by
 have e:(s.heap.update p f).get? p=some {cls:=.type "list",data:=.seq its'.toArray n'}:=by
  rw[Heap.get?_update_self f ho (by rw[hf] <;> rfl),hf]
 refine I.write (x:=p) (e:=p) (by rw[h];trivial) (.inl rfl) (fun b u hb q=>(Heap.get?_update_other _ _ (Ne.symm hb)).trans q) ⟨_,e⟩ ?_
 exact⟨hz,its',n',r,e⟩
noncomputable def Sl:V->V->V->Hp->(Hp->Prop)->Prop:=fun o i v H Q=>∃p xs k j,o= .ref p/\i= .int k/\H p=some (.lst xs)/\Cc xs.length k=some j/\Q (upd H p (.lst (xs.set j v)))
theorem set_list:RD X Sl:=by
 intro pins s σ H o i v ov iv u Q I ro ri rv h
 obtain⟨p,xs,k,j,rfl,rfl,hp,hj,q⟩:=h
 cases ro
 obtain⟨t,rfl⟩:=ri
 obtain⟨its,n,r,ho,hz⟩:=I.lst hp
 obtain⟨h1,h2,h3,h4⟩:=Dt hj
 have hl:=r.length
 have hn:=sJ
 have I':Inv X pins σ (upd H p (.lst (xs.set j v))) {s with heap:=s.heap.update p (Obj.mapSeq (·.setIfInBounds j u))}:=
  I.Ol hp ho (Cd its n j u) (r.set rv j) (by rw[List.length_set];exact hz) s.toks
 by_cases h0:0<=k
 ·have hk:k.toNat=j:=by
   rw[seqIndex_of h0 h4] at h1
   exact Option.some.inj h1
  exact PySem.W.ki_setAt ho h0 (by omega) (by rw[List.size_toArray,<-hl];exact h4) (by rw[hk];exact⟨_,I',q⟩)
 ·have hk:(k+(its.toArray.size:Int)).toNat=j:=by
   rw[seqIndex_neg (by omega) h3] at h1
   rw[List.size_toArray,<-hl]
   exact Option.some.inj h1
  exact PySem.W.ki_setBack ho (by omega) (by rw[List.size_toArray,<-hl];exact h3) (by omega) (by rw[hk];exact⟨_,I',q⟩)
theorem zg (lo hi:Option Int) (n:Nat):(sliceBounds lo hi none n).1=((HT.ig n 0 lo:Nat):Int)/\(sliceBounds lo hi none n).2.1=((HT.ig n n hi:Nat):Int)/\(sliceBounds lo hi none n).2.2=1:=by
 refine⟨?_,?_,rfl⟩
 ·cases lo with
  | none=>simp[sliceBounds,HT.ig]
  | some i=>
   simp only[sliceBounds,HT.ig,Option.getD_none,show(1:Int) > 0 by decide,if_true]
   by_cases h:i < 0
   ·simp only[h,if_true] <;> omega
   ·simp only[h,if_false] <;> omega
 ·cases hi with
  | none=>simp[sliceBounds,HT.ig]
  | some i=>
   simp only[sliceBounds,HT.ig,Option.getD_none,show(1:Int) > 0 by decide,if_true]
   by_cases h:i < 0
   ·simp only[h,if_true] <;> omega
   ·simp only[h,if_false] <;> omega
theorem xw (its:List Value) (lo hi:Option Int):slicePick its.toArray lo hi none=((its.drop (HT.ig its.length 0 lo)).take (HT.ig its.length its.length hi - HT.ig its.length 0 lo)).toArray:=by
 obtain⟨h1,h2,h3⟩:=zg lo hi its.toArray.size
 unfold slicePick
 rw[h1,h2,h3]
 simp only[sliceRange_one,pick_run,List.size_toArray] <;> rfl
noncomputable def WK (K:PySem.W.Frag):V->Option Int->Option Int->Hp->VK->Prop:=fun x lo hi H Q=>∃a xs,x= .ref a/\nT K H a xs/\∀p,H p=none->Q (.ref p) (upd H p (.lst (xu xs lo hi)))
theorem Dv:Sa X (WK X.K):=by
 intro pins s σ H x v vl vu lo hi sl Q I rx hs pl pu h
 obtain⟨a,xs,rfl,hx,q⟩:=h
 cases rx
 obtain⟨its,r,ht,hz⟩:=I.list hx
 have hlen:=r.length
 refine⟨"list",_,slot_list_getitem.lookup,ht.isList.typeIs,?_⟩
 refine wpAny_getItem_list_slice ht.isList hs pl pu .none (by simp) ?_ (by rw[List.size_toArray] <;> omega)
 rw[xw,<-hlen]
 refine⟨.ref s.heap.objs.size,_,I.laid (t':=s.toks) (o:=.lst (xu xs lo hi)) (fun b ob q=>Heap.get?_push_of_some _ q) (Nat.le_refl _) ?_,rfl,q _ (I.hok.fresh (Nat.le_refl _))⟩
 exact⟨Nat.le_trans (um xs lo hi) hz,_,0,(r.drop (HT.ig xs.length 0 lo)).take (HT.ig xs.length xs.length hi - HT.ig xs.length 0 lo),Heap.get?_push_size _ rfl⟩
theorem m6:jC X (.builtin "len") (fun xs H Q=>∃p ys,xs=[.ref p]/\(nT X.K H p ys\/yY X.K H p ys)/\Q (.int ys.length) H):=by
 intro pins s σ H xs us Q I r h
 obtain⟨p,ys,rfl,hq,q⟩:=h
 obtain⟨u,rfl,rx⟩:=vals1 r
 cases rx
 have hn:=sJ
 rcases hq with hq | hq
 ·obtain⟨its,r',pl,hz⟩:=I.list hq
  have hlen:=r'.length
  exact Calls.call_len_list pl.isList (by simp only[List.size_toArray] <;> omega) ⟨.int ys.length,H,I.tok _,⟨s.toks+1,by rw[List.size_toArray,hlen]⟩,q⟩
 ·obtain⟨its,r',pl,hz⟩:=I.tuple hq
  have hlen:=r'.length
  exact len_tuple pl (by simp only[List.size_toArray] <;> omega) ⟨.int ys.length,H,I.tok _,⟨s.toks+1,by rw[List.size_toArray,hlen]⟩,q⟩
theorem rA:jC X (.builtin "len") (fun xs H Q=>∃z,xs=[.str z]/\z.length<=sizeLine/\Q (.int z.length) H):=by
 intro pins s σ H xs us Q I r h
 obtain⟨z,rfl,hz,q⟩:=h
 obtain⟨u,rfl,t,rfl⟩:=vals1 r
 have hn:=sJ
 exact len_str (by omega) ⟨.int z.length,H,I.tok _,⟨_,rfl⟩,q⟩
theorem qp:jC X (.type "tuple") (fun xs H Q=>∃p ys,xs=[.ref p]/\((nT X.K H p ys/\∀l,H l=none->Q (.ref l) (upd H l (.tup ys)))\/(yY X.K H p ys/\Q (.ref p) H))):=by
 intro pins s σ H xs us Q I r h
 obtain⟨p,ys,rfl,h⟩:=h
 obtain⟨u,rfl,rx⟩:=vals1 r
 cases rx
 rcases h with⟨hq,q⟩ | ⟨hq,q⟩
 ·obtain⟨its,r',pl,hz⟩:=I.list hq
  have hlen:=r'.length
  refine call_tuple_list pl.isList (fun h' kp=>?_) (by simp only[List.size_toArray] <;> omega)
  have I1:Inv X pins σ H {s with heap:=h'}:=I.kept (t':=s.toks) kp
  have I2:Inv X pins σ (upd H h'.objs.size (.tup ys)) {s with heap:=h'.push {cls:=.type "tuple",data:=.seq its.toArray}}:=
   I1.laid (t':=s.toks) (fun b o e=>Heap.get?_push_of_some _ e) (Nat.le_refl _) (show fB X.prog X.w _ _ _ (.tup ys) from⟨hz,its,r',IsTup.new _ _⟩)
  exact⟨.ref h'.objs.size,_,I2,rfl,q _ (I1.hok.fresh (Nat.le_refl _))⟩
 ·obtain⟨its,r',pl,hz⟩:=I.tuple hq
  exact call_tuple_same pl ⟨.ref p,H,I,rfl,q⟩
noncomputable def WL (K:PySem.W.Frag) (T:String) (x:V) (H:Hp):Prop:=match x with
 | .str _=>T="str"
 | .int _=>T="int"
 | .ref p=>(T="list"/\∃xs,nT K H p xs)\/(T="tuple"/\∃o,K.lookup p=some o/\o.cls= .type "tuple"/\o.dict=none)\/
   (T="dict"/\((∃kvs,H p=some (.dK kvs))\/∃kvs,H p=some (.dT kvs)))\/(T="set"/\∃S n,H p=some (.set S n))
 | _=>False
theorem G6 {pins : List (Addr × Obj)} {σ : St} {H : Hp} {s : Shared} {T : String} {x : V} {v : Value} (I : Inv X pins σ H s) (r : RelV x v) (ty : WL X.K T x H) :
    s.TypeIs v T/\∀a,v= .ref a->∃ob,s.heap.get? a=some ob/\ob.dict=none:=by
  cases x with
  | str z=>
    obtain⟨t,rfl⟩:=r
    cases(show T="str" from ty)
    exact⟨typeIs_str s z t,fun _ e=>nomatch e⟩
  | int i=>
    obtain⟨t,rfl⟩:=r
    cases(show T="int" from ty)
    exact⟨typeIs_int s i t,fun _ e=>nomatch e⟩
  | ref p =>
    cases r
    rcases ty with⟨rfl,xs,hq⟩ | ⟨rfl,o,hk,hc,hd⟩ | ⟨rfl,hk⟩ | ⟨rfl,S,n,hk⟩
    . obtain⟨its,_,pl,_⟩:=I.list hq
      refine⟨pl.isList.typeIs,fun a e=>?_⟩
      cases e
      obtain⟨o,n,e,c,hd,_⟩:=pl
      exact⟨o,e,hd⟩
    . refine⟨⟨o,I.B5 p o hk,hc⟩,fun a e=>?_⟩
      cases e
      exact⟨o,I.B5 _ o hk,hd⟩
    . have z:∃o,s.heap.get? p=some o/\o.ExactDict:=by
        rcases hk with⟨kvs,hk⟩ | ⟨kvs,hk⟩
        . obtain⟨_,_,_,_,o,_,_,e,ex,_⟩:=I.hok p _ hk
          exact⟨o,e,ex⟩
        . obtain⟨_,_,_,_,o,_,_,e,ex,_⟩:=I.hok p _ hk
          exact⟨o,e,ex⟩
      obtain⟨o,e,ex⟩:=z
      refine⟨⟨o,e,ex.1⟩,fun a e2=>?_⟩
      cases e2
      exact⟨o,e,ex.2.1⟩
    . obtain⟨o,_,_,_,e,ex,_⟩:=I.hok p _ hk
      refine⟨⟨o,e,ex.1⟩,fun a e2=>?_⟩
      cases e2
      exact⟨o,e,ex.2.1⟩
  | _=>exact False.elim ty
noncomputable def WM (K:PySem.W.Frag) (T:String) (r:V->List V->Hp->VK->Prop) (to:TE):TE:=fun σ H Q=>to σ H fun x H1=>WL K T x H1/\r x [] H1 Q
noncomputable def tBM (K:PySem.W.Frag) (T:String) (r:V->List V->Hp->VK->Prop) (to:TE) (t:TA):TE:=fun σ H Q=>to σ H fun x H1=>WL K T x H1/\t σ H1 fun xs H2=>r x xs H2 Q
variable {o e:Expr}{es:List Expr}{to:TE}{t:TA}{name:Str}{apos cpos:Pos}{T id:String}{r:V->List V->Hp->VK->Prop}
theorem Om (pa:PlainAttrs T) (slot:Slot T name id) (hty:typeOf (.builtin id)=pure (.type "method_descriptor")) (hm:U8 X id r) (ho:PE X o to)
  (hbase:attributeBase o name X.env (eval o X.env)=eval o X.env:=by rfl) (hline:(apos.endLine == cpos.line)=true:=by rfl):PE X (.Call (.Attribute o name apos) [] [] cpos) (WM X.K T r to):=by
 intro pins s σ H Q I h
 refine wpAny_Call_method0_late hbase hline (gf (ho pins s σ H _ I h) fun v s1 ⟨x,H1,I1,r1,ty,q1⟩=>?_)
 obtain⟨h1,h2⟩:=G6 I1 r1 ty
 exact⟨T,id,pa,slot,hty,h1,h2,Calls.callWith_builtin rfl (PySem.evalArgs_none (hm pins s1 σ H1 x [] v [] Q I1 r1 .nil q1))⟩
theorem Sm (pa:PlainAttrs T) (slot:Slot T name id) (hty:typeOf (.builtin id)=pure (.type "method_descriptor")) (hm:U8 X id r) (ho:PE X o to) (ha:PA X (e :: es) t)
  (hbase:attributeBase o name X.env (eval o X.env)=eval o X.env:=by rfl)
  (hfew:((backTo cpos (starEach (e :: es) X.env)).all (fun x=>!x.1) && (backToKw cpos (keywordEach [] X.env)).all (fun x=>x.1.isSome)
   && decide ((e :: es).length+([]:List Keyword).length+(if([]:List Keyword).isEmpty then 0 else 1) < 30))=true:=by rfl)
  (hline:(apos.endLine == cpos.line)=true:=by rfl) (hs:starEach (e :: es) X.env=(false,eval e X.env) :: starEach es X.env:=by rfl) (hplain:(backTo cpos (starEach es X.env)).any (·.1)=false:=by rfl):
  PE X (.Call (.Attribute o name apos) (e :: es) [] cpos) (tBM X.K T r to t):=by
 intro pins s σ H Q I h
 refine wpAny_Call_method_late hbase hfew hline rfl (gf (ho pins s σ H _ I h) fun v s1 ⟨x,H1,I1,r1,ty,q1⟩=>?_)
 obtain⟨h1,h2⟩:=G6 I1 r1 ty
 refine⟨T,id,pa,slot,hty,h1,h2,?_⟩
 have hA:=ha cpos pins s1 σ H1 _ I1 q1
 rw[hs] at hA ⊢
 refine Calls.callWith_builtin (by show(false || (backTo cpos (starEach es X.env)).any (·.1))=false;rw[hplain] <;> rfl) (Calls.evalArgs_plain ?_)
 exact gf hA fun us s2 ⟨vs,H2,I2,r2,q2⟩=>hm pins s2 σ H2 x vs v us Q I2 r1 r2 q2
end
noncomputable def U9 (X:Cx) (id:String) (r:V->List V->Hp->VK->Prop):Prop:=
 ∀(pins:List (Addr×Obj)) (s:Shared) (σ:St) (H:Hp) (x:V) (xs:List V) (v:Value) (us:List Value) (Q:VK),Inv X pins σ H s->RelV x v->Vals xs us->r x xs H Q->
  wpAny (model X.prog X.w) X.A (call (.builtin id) (v :: us)) (EP X pins σ Q) X.xe s
theorem Vals.one:∀{x:V}{us:List Value},Vals [x] us->∃u,us=[u]/\RelV x u
 | _,_,.cons r .nil=>⟨_,rfl,r⟩
theorem Vals.two:∀{x y:V}{us:List Value},Vals [x,y] us->∃u v,us=[u,v]/\RelV x u/\RelV y v
 | _,_,_,.cons r (.cons q .nil)=>⟨_,_,rfl,r,q⟩
theorem Vals.zero:∀{us:List Value},Vals [] us->us=[]
 | _,.nil=>rfl
theorem Vals.dropLast {xs:List V}{us:List Value}(h:Vals xs us):Vals xs.dropLast us.dropLast:=by
 induction h with
 | nil=>exact .nil
 | cons r t ih=>
  cases t with
  | nil=>exact .nil
  | cons q t'=>exact .cons r ih
theorem Vals.eraseIdx:∀{xs:List V}{us:List Value}(i:Nat),Vals xs us->Vals (xs.eraseIdx i) (us.eraseIdx i)
 | _,_,_,.nil=>.nil
 | _,_,0,.cons _ t=>t
 | _,_,i+1,.cons r t=>.cons r (Vals.eraseIdx i t)
theorem Vals.reverse {xs:List V}{us:List Value}(h:Vals xs us):Vals xs.reverse us.reverse:=by
 induction h with
 | nil=>exact .nil
 | cons r t ih=>rw[List.reverse_cons,List.reverse_cons];exact Vals.append ih (.cons r .nil)
theorem Vals.rep {xs:List V}{us:List Value}(h:Vals xs us):∀k:Nat,Vals (List.replicate k xs).flatten (List.replicate k us).flatten
 | 0=>.nil
 | k+1=>by
  rw[List.replicate_succ,List.replicate_succ,List.flatten_cons,List.flatten_cons]
  exact Vals.append h (Vals.rep h k)
theorem Ce {α : Type} (l : List α) : l.eraseIdx (l.length - 1) = l.dropLast := by
  induction l with
  | nil=>rfl
  | cons a r ih=>
    cases r with
    | nil=>rfl
    | cons b r=>
      have e:(a :: b :: r).length - 1=((b :: r).length - 1)+1:=by
        have h1:(a :: b :: r).length=r.length+2:=rfl
        have h2:(b :: r).length=r.length+1:=rfl
        omega
      rw[e,List.eraseIdx_cons_succ,ih]
      all_goals rfl
theorem ya {α:Type}:∀(l:List α) (i:Nat),(l.eraseIdx i).length<=l.length
 | [],_=>Nat.le_refl _
 | _ :: _,0=>Nat.le_succ _
 | _ :: r,i+1=>Nat.succ_le_succ (ya r i)
theorem foldl_rep (its:List Value):∀(k:Nat) (acc:List Value),
    List.foldl (fun x1 x2=>x1++x2) acc.toArray (List.replicate k its.toArray)=(acc++(List.replicate k its).flatten).toArray
  | 0,acc=>by simp
  | k + 1, acc => by
    have e:acc.toArray++its.toArray=(acc++its).toArray:=by simp
    have e2:(acc++its)++(List.replicate k its).flatten=acc++(List.replicate (k+1) its).flatten:=by
      rw[List.replicate_succ,List.flatten_cons,List.append_assoc]
    rw[<-e2,<-foldl_rep its k (acc++its),<-e,List.replicate_succ,List.foldl_cons]
section
variable {X:Cx}{pins:List (Addr×Obj)}{σ:St}{H:Hp}{s:Shared}{l b:Addr}{xs ys zs:List V}
theorem Inv.KY {its its':List Value}{n:Nat}{f:Array Value->Array Value}{t':Nat}(I:Inv X pins σ H s) (hH:H l=some (.lst xs))
  (e:s.heap.get? l=some {cls:=.type "list",data:=.seq its.toArray n}) (hf:f its.toArray=its'.toArray) (hv:Vals ys its') (hz:ys.length<=sizeLine):
  Inv X pins σ (upd H l (.lst ys)) {s with heap:=s.heap.update l (Obj.mapSeq f),toks:=t'}:=by
 have q:=PySem.IsL.update e f
 rw[hf] at q
 refine I.write (x:=l) (e:=l) (by rw[hH];exact trivial) (.inl rfl) (fun b' u hb hu=>(Heap.get?_update_other s.heap (Obj.mapSeq f) (Ne.symm hb)).trans hu) ⟨_,q⟩ ?_
 exact⟨hz,its',_,hv,q⟩
theorem Inv.So {its:List Value}{t':Nat}(I:Inv X pins σ H s) (hv:Vals ys its) (hz:ys.length<=sizeLine):
  Inv X pins σ (upd H s.heap.objs.size (.lst ys)) {s with heap:=s.heap.push {cls:=.type "list",data:=.seq its.toArray},toks:=t'}:=
 I.laid (fun _ _ q=>Heap.get?_push_of_some _ q) (Nat.le_refl _) ⟨hz,its,0,hv,Heap.get?_push_size _ rfl⟩
theorem Inv.fresh (I:Inv X pins σ H s):H s.heap.objs.size=none:=I.hok.fresh (Nat.le_refl _)
theorem Inv.AB (I:Inv X pins σ H s) (hH:H l=some (.lst xs)):xs.length<=sizeLine/\∃(its:List Value) (n:Nat),Vals xs its/\xs.length=its.length/\s.heap.get? l=some {cls:=.type "list",data:=.seq its.toArray n}:=by
 obtain⟨z,its,n,r,e⟩:=I.hok l _ hH
 exact⟨z,its,n,r,r.length,e⟩
theorem G7 {n:Nat}(h:n<=sizeLine):Builtin.List.listTooLong n=false:=by
 unfold Builtin.List.listTooLong
 exact decide_eq_false (by omega)
end
section
variable {X:Cx}
noncomputable def Dw:V->List V->Hp->VK->Prop:=fun x vs H Q=>∃l xs y,x= .ref l/\vs=[y]/\H l=some (.lst xs)/\xs.length < sizeLine/\Q .dR (upd H l (.lst (xs++[y])))
theorem sM:U9 X "list.append" Dw:=by
 intro pins s σ H x vs v us Q I rx rv h
 obtain⟨l,xs,y,rfl,rfl,hH,hz,q⟩:=h
 cases rx
 obtain⟨u,rfl,ru⟩:=rv.one
 obtain⟨z,its,n,r,hl,e⟩:=I.AB hH
 refine call_meets F.slot_list_append ⟨_,e,rfl⟩ F.entry_list_append (F.args_list_append_2 _ _) (PySem.list_append l its.toArray n u (by rw[List.size_toArray];omega)) ⟨e,?_⟩
 refine⟨.dR,_,I.KY (its':=its++[u]) hH e (by simp) (r.append (.cons ru .nil)) ?_,rfl,q⟩
 rw[List.length_append,List.length_singleton]
 omega
noncomputable def WN:V->List V->Hp->VK->Prop:=fun x vs H Q=>∃l xs y,x= .ref l/\vs=[]/\H l=some (.lst xs)/\xs[xs.length - 1]? =some y/\Q y (upd H l (.lst xs.dropLast))
theorem WO:U9 X "list.pop" WN:=by
 intro pins s σ H x vs v us Q I rx rv h
 obtain⟨l,xs,y,rfl,rfl,hH,hy,q⟩:=h
 cases rx
 have WQ:=rv.zero
 subst WQ
 obtain⟨z,its,n,r,hl,e⟩:=I.AB hH
 obtain⟨u,hu,ru⟩:=r.get hy
 have hy':its.toArray[its.toArray.size - 1]? =some u:=by
  show its.toArray[its.length - 1]? =some u
  rw[<-Array.getElem?_toList,<-hl]
  exact hu
 refine call_meets F.slot_list_pop ⟨_,e,rfl⟩ F.entry_list_pop (F.args_list_pop_1 _) (MeetsSeq.list_pop_last l its.toArray n u hy' (by rw[List.size_toArray];omega)) ⟨e,?_⟩
 refine⟨y,_,I.KY (its':=its.dropLast) hH e ?_ r.dropLast ?_,ru,q⟩
 ·show its.toArray.eraseIdxIfInBounds (its.toArray.size - 1)=its.dropLast.toArray
  rw[List.size_toArray,List.eraseIdxIfInBounds_toArray,Ce]
 ·rw[List.length_dropLast]
  omega
noncomputable def G8:V->List V->Hp->VK->Prop:=fun x vs H Q=>∃l xs i k y,x= .ref l/\vs=[.int i]/\H l=some (.lst xs)/\-(2 ^ 63)<=i/\i < 2 ^ 63/\seqIndex? i xs.length=some k/\xs[k]? =some y/\Q y (upd H l (.lst (xs.eraseIdx k)))
theorem G9:U9 X "list.pop" G8:=by
 intro pins s σ H x vs v us Q I rx rv h
 obtain⟨l,xs,i,k,y,rfl,rfl,hH,h1,h2,hk,hy,q⟩:=h
 cases rx
 obtain⟨u,rfl,ru⟩:=rv.one
 obtain⟨t,rfl⟩:=ru
 obtain⟨z,its,n,r,hl,e⟩:=I.AB hH
 obtain⟨w,hw,rw'⟩:=r.get hy
 refine call_meets F.slot_list_pop ⟨_,e,rfl⟩ F.entry_list_pop (F.args_list_pop_2 _ _)
  (MeetsSeq.list_pop_at l its.toArray n i t k w (fitsIndex_both h1 h2) (by rw[List.size_toArray,<-hl];exact hk) (by rw[<-Array.getElem?_toList];exact hw) (by rw[List.size_toArray];omega)) ⟨e,?_⟩
 refine⟨y,_,I.KY (its':=its.eraseIdx k) hH e ?_ (r.eraseIdx k) ?_,rw',q⟩
 ·show its.toArray.eraseIdxIfInBounds k=(its.eraseIdx k).toArray
  rw[List.eraseIdxIfInBounds_toArray]
 ·have:=ya xs k
  omega
noncomputable def AD:V->List V->Hp->VK->Prop:=fun x vs H Q=>∃l xs,x= .ref l/\vs=[]/\H l=some (.lst xs)/\Q .dR (upd H l (.lst xs.reverse))
theorem Cf:U9 X "list.reverse" AD:=by
 intro pins s σ H x vs v us Q I rx rv h
 obtain⟨l,xs,rfl,rfl,hH,q⟩:=h
 cases rx
 have WQ:=rv.zero
 subst WQ
 obtain⟨z,its,n,r,hl,e⟩:=I.AB hH
 refine call_meets F.slot_list_reverse ⟨_,e,rfl⟩ F.entry_list_reverse (F.args_list_reverse_1 _) (AutoSeq1.list_reverse_list_0 l its.toArray n (by rw[List.size_toArray];omega)) ⟨e,?_⟩
 refine⟨.dR,_,I.KY (its':=its.reverse) hH e (by simp) r.reverse ?_,rfl,q⟩
 rw[List.length_reverse]
 omega
theorem len_rep {α:Type}(xs:List α) (k:Nat):(List.replicate k xs).flatten.length=k * xs.length:=by
 induction k with
 | zero=>simp
 | succ k ih=>rw[List.replicate_succ,List.flatten_cons,List.length_append,ih,Nat.succ_mul,Nat.add_comm]
end
section
variable {prog:Program}{w:World}{A:Around}{E:Value->Shared->Prop}{s:Shared}
end
section
variable {X:Cx}
end
end L2
namespace Att
open PySem PySem.W PySem.Calls PyProof.Rows
theorem uJ {P:Params}{h:Heap}:∀(ns:List Int) (vs:List Value),WellAll P h vs (ns.map WData.int)->IntsAre vs ns:=by
 intro ns
 induction ns with
 | nil=>
  intro vs w
  rw[List.map_nil] at w
  cases w
  exact .nil
 | cons n ns ih=>
  intro vs w
  rw[List.map_cons] at w
  cases w with
  | cons a b=>
   cases a
   exact .cons _ _ (ih _ b)
theorem EA {l:OpenLaw}{n:Nat}(hn:l.most=some n){P:Params}{h:Heap}{args:List WData}{vals:List Value}
  (hpre:l.row.toRowW.claim.pre args=true) (hwl:WellAll P h vals args):
  ∃a vs ns,vals=[Value.ref a]/\args=[WData.list (ns.map WData.int)]/\h.get? a=some {cls:=.type "list",data:=.seq vs.toArray}/\IntsAre vs ns/\ns.length<=n:=by
 have hsh:WShape.hasAll [] args [.list .int]=true:=(pre_splitW hpre).1
 have hc:l.pre.holds [] {args:=args}=true:=(pre_splitW hpre).2
 obtain⟨d,r,rfl,h1,h2⟩:=hasAllW_cons hsh
 obtain rfl:=hasAllW_nil h2
 obtain⟨xs,rfl,h3⟩:=hasW_list h1
 obtain⟨ns,rfl⟩:=items_int h3
 have hlen:ns.length<=n:=by
  unfold OpenLaw.pre at hc
  have h4:(WTm.not (.lt (.lit (.int (n:Int))) (.len (.arg 0)))).holds [] {args:=[.list (ns.map .int)]}=true:=by
   have h4:=(holds_andW hc).1
   rw[hn] at h4
   exact h4
  have h5:=condW_of h4 (w_not (w_lt w_lit (w_len_list (w_arg rfl))))
  rw[List.length_map] at h5
  refine Nat.le_of_not_lt fun q=>?_
  have q':(n:Int) < ((ns.length:Nat):Int):=by omega
  first
   | (rw[decide_eq_true q'] at h5;exact absurd h5 (by decide))
   | (simp at h5;omega)
 cases hwl with
 | cons w1 w2=>
  cases w2
  cases w1 with
  | list ho hall=>exact⟨_,_,ns,rfl,rfl,ho,uJ ns _ hall,hlen⟩
theorem EB (l:OpenLaw) (args:List WData):l.row.toRowW.claim.post args (.bool true) args=true:=
 postW_of (r:=l.row.toRowW) (X:=(true == true))
  (show WShape.has [] (.bool true) .bool=true by first | rfl | decide | simp[WShape.has,WShape.arms,WShape.armsAll])
  (show(WTm.eq .res (.lit (.bool true))).value [] {args:=args,res:=some (.bool true),after:=args}=some (.bool (true == true)) from w_eq_bool (w_res rfl) w_lit) rfl
theorem AE {l:OpenLaw}{n:Nat}{q:Program}{loose:List Str}{XP:(Str->Option Value)->Heap->Prop}{YP:World->Heap->Prop}{d:DefRec}
  (hn:l.most=some n) (hdf:d.params.defaults=[])
  (call:∀(w:World) (s₀ s₁:Shared) (mg mb:Str->Option Value) (fa:Addr) (o:Obj) (pm cd doc:Value) (a:Addr) (vs:List Value) (ns:List Int),
   Ground q loose [] XP w s₀ mg mb s₁.heap->YP w s₁.heap->
   s₁.heap.get? fa=some o->o.data= .func (docDef d.name d.params d.body d.scope pm cd doc)->s₁.heap.CodeRec cd d.name->mg d.name=some (.ref fa)->
   s₁.heap.get? a=some {cls:=.type "list",data:=.seq vs.toArray}->IntsAre vs ns->ns.length<=n->s₁.gens=#[]->
   codeAny (model l.prog w) callerA (.call (.ref fa) ⟨[.ref a],[]⟩) (fun r s'=>r= .ok (.ret (.bool true))/\OldK s₁.heap s'.heap/\s'.os=s₁.os/\AllBare s'.gens) s₁):
  WalkO q loose XP YP l.row.toRowW d [] (fun f vs=>PySem.call f vs):=by
 intro w s₀ s₁ mg mb G Y fa o pm cd doc dV kV ho hd hcd hD hmg hg args vals as hpre hlay hrd hwl hlo
 obtain rfl:dV= .none:=Dflts.none hD hdf
 obtain rfl:kV= .none:=Dflts.noKw hD
 obtain⟨a,vs,ns,rfl,rfl,hobj,hints,hlen⟩:=EA hn hpre hwl
 refine enter_call (codeAny_mono (call w s₀ s₁ mg mb fa o pm cd doc a vs ns G Y ho (fd_plain hd) hcd hmg hobj hints hlen hg) fun r s' hq=>?_)
 obtain⟨rfl,h2,h3,h4⟩:=hq
 exact⟨.inl ⟨.bool true,.bool true,[],rfl,fun _=>rfl,.bool true,EB l _,fun _=>⟨List.Pairwise.nil,fun _ hm=>(nomatch hm)⟩⟩,h2,h3,h4⟩
section
variable {prog:Program}{w:World}{A:Around}{E:Value->Shared->Prop}{s:Shared}{K:Frag}
end
end Att
namespace L2
open PySem PySem.Spec PyProof.Rows
theorem yc:∀{vs:List Value}{ns:List Int},IntsAre vs ns->Vals (ns.map V.int) vs
 | _,_,.nil=>.nil
 | _,_,.cons n t h=>.cons ⟨t,rfl⟩ (yc h)
noncomputable def KZ (H:Hp):Prop:=∀b,H b=none\/∃o xs,H b=some (.lN o (.lst xs))
theorem Hf {P : Program} {w : World} {K : PySem.W.Frag} {mg mb : Str -> Option Value} {CX : Gi} {k : Nat} {fa a : Addr} {fd : FuncData} {x : Str} {sp : Sp} {s₁ : Shared} {vs : List Value} {ns : List Int}
    (KX:K.In s₁.heap) (hns:s₁.heap.Ns mainGlobals mg) (hb:s₁.heap.Ns builtinsNs mb) (hbb:∀x:Str,x≠"__name__"->mb x=bootBuiltins x) (hlim:s₁.heap.NoLimit) (hg:s₁.gens=#[])
    (ha:s₁.heap.get? a=some {cls:=.type "list",data:=.seq vs.toArray}) (hi:IntsAre vs ns) (hl:ns.length<=sizeLine) (hr:lQ k callerA)
    (F:∀base:Heap,K.In base->base.Ns mainGlobals mg->bZ P w K mg base CX k fa fd [x] sp) (hbind:∀(s:Shared) (u:Value),BindsTo s fd ⟨[u],[]⟩ [(x,u)])
    (MZ:∀H:Hp,KZ H->nT K H a (ns.map V.int)->sp [.ref a] H (fun v _=>v= .bl true) fun _ _ _=>False)
    (WR:∀H e s',CX [] H s₁ (fun _ _ _=>False) e s'->False):
    codeAny (model P w) callerA (.call (.ref fa) ⟨[.ref a],[]⟩) (fun r s'=>r= .ok (.ret (.bool true))/\OldK s₁.heap s'.heap/\s'.os=s₁.os/\AllBare s'.gens) s₁:=by
  have rv:=yc hi
  have lenV:=hi.length
  have core : ∀ H : Hp, KZ H -> nT K H a (ns.map V.int) -> nO P w H s₁.heap -> (∀ b, H b ≠ none -> b = a) -> (H a ≠ none -> K.lookup a = none) ->
      codeAny (model P w) callerA (.call (.ref fa) ⟨[.ref a],[]⟩) (fun r s'=>r= .ok (.ret (.bool true))/\OldK s₁.heap s'.heap/\s'.os=s₁.os/\AllBare s'.gens) s₁:=by
    intro H hO hS hok hA hK
    have Dy:∀{b:Addr}{o:Obj},s₁.heap.get? b=some o->H b=none->(yV s₁.heap H).get? b=some o:=fun e n=>Gv e n
    have RW:∀{b:Addr}{o:Obj}{es:Array DictEntry}{ep:Nat},s₁.heap.get? b=some o->o.data= .dict es ep->H b=none:=fun {b o es ep} e d=>by
      cases q:H b with
      | none=>rfl
      | some u=>
        have e':b=a:=hA b (by rw[q];simp)
        subst e'
        rw[ha] at e;cases e
        have d':Data.seq vs.toArray _=Data.dict es ep:=d
        cases d'
    have Va:∀{b:Addr}{m:Str->Option Value},s₁.heap.Ns b m->(yV s₁.heap H).Ns b m:=fun {b m} ⟨o,es,ep,e,d,r⟩=>⟨o,es,ep,Dy e (RW e d),d,r⟩
    have hKb:K.In (yV s₁.heap H):=fun b o e=>Dy (KX b o e) (by
      cases q:H b with
      | none=>rfl
      | some u=>
        have e':b=a:=hA b (by rw[q];simp)
        subst e'
        rw[hK (by rw[q];simp)] at e;cases e)
    have hM:Mod K mg (yV s₁.heap H):=⟨hKb,Va hns,⟨mb,Va hb,hbb⟩,let⟨mc,h1,h2⟩:=hlim;⟨mc,Va h1,h2⟩⟩
    have e0:KH P w K mg (yV s₁.heap H) callerA [] s₁ H:=⟨rfl,hM,fun b o e=>Kr e,Nat.le_of_eq (El _ _),trivial,fun b hb=>absurd (show b∈([]:List Addr) from hb) (by simp),hok,.of_eq hg⟩
    refine codeAny_mono ((F _ hKb (Va hns)).run callerA [] s₁ H ⟨[.ref a],[]⟩ [.ref a] [.ref a] _ _ hr e0 (hbind s₁ (.ref a)) (.cons rfl .nil) (MZ H hO hS)) fun r s' h=>?_
    cases r with
    | error e=>exact(WR H e s' h).elim
    | ok fl =>
      cases fl with
      | next=>exact False.elim h
      | brk=>exact False.elim h
      | cont=>exact False.elim h
      | ret u =>
        obtain⟨v,H',os,bare,un,WS,r',q⟩:=h
        have q':v= .bl true:=q
        subst q'
        obtain rfl:u=Value.bool true:=r'
        refine⟨rfl,OldK.of_keep fun b o e=>?_,os,bare⟩
        cases q:H b with
        | none=>exact un.keep b o e q (by intro z;exact absurd (show b∈([]:List Addr) from z) (by simp)) (by simp)
        | some u=>
          rcases hO b with z | ⟨ob,xs,z⟩
          . rw[q] at z;cases z
          . have z2:=un.vm b ob _ z
            obtain⟨e1,_⟩:=hok b _ z
            obtain⟨e2,_⟩:=WS b _ z2
            rw[e] at e1;cases e1
            exact e2
  cases hk:K.lookup a with
  | some o=>
    have e:=KX a o hk
    rw[ha] at e
    cases e
    refine core (fun _=>none) (fun _=>.inl rfl) (.inr ⟨_,vs.toArray,_,hk,rfl,rfl,rfl,by rw[List.size_toArray,lenV];exact hl,by simpa using rv⟩) (fun b u z=>by have z':(none:Option HO)=some u:=z;cases z') (fun b z=>absurd rfl z) fun z=>absurd rfl z
  | none=>
    refine core (fun b=>if b=a then some (.lN {cls:=.type "list",data:=.seq vs.toArray} (.lst (ns.map V.int))) else none) (fun b=>?_) (.inl (.inr ⟨{cls:=.type "list",data:=.seq vs.toArray},if_pos rfl⟩)) (fun b u z=>?_) (fun b z=>?_) fun _=>hk
    . by_cases hb:b=a
      . exact .inr ⟨_,_,if_pos hb⟩
      . exact .inl (if_neg hb)
    . by_cases hb:b=a
      . have z':=(if_pos hb).symm.trans z
        cases z'
        subst hb
        exact⟨ha,by rw[List.length_map];exact hl,vs,_,rv,ha⟩
      . have z':=(if_neg hb).symm.trans z
        cases z'
    . by_cases hb:b=a
      . exact hb
      . exact absurd (if_neg hb) z
noncomputable abbrev KOf {K:PySem.W.Frag}{h:Heap}(_:K.In h):PySem.W.Frag:=K
theorem K0 {l : PySem.W.OpenLaw} {n k : Nat} {q : Program} {loose : List Str} {XP : (Str -> Option Value) -> Heap -> Prop} {YP : World -> Heap -> Prop} {d : DefRec} {K : Params -> PySem.W.Frag} {CX : World -> Gi} {sp : World -> Sp} {x : Str}
    (hn:l.most=some n) (hn2:n<=sizeLine) (hdf:d.params.defaults=[]) (hr:lQ k callerA)
    (hY:∀(w:World) (h:Heap),YP w h->(K w.params).In h)
    (F:∀(w:World) (mg:Str->Option Value) (fa:Addr) (h:Heap),(K w.params).In h->h.Ns mainGlobals mg->mg d.name=some (.ref fa)->
      ∃fd:FuncData,(∀(s:Shared) (u:Value),BindsTo s fd ⟨[u],[]⟩ [(x,u)])/\
        ∀base:Heap,(K w.params).In base->base.Ns mainGlobals mg->bZ l.prog w (K w.params) mg base (CX w) k fa fd [x] (sp w))
    (MZ:∀(w:World) (H:Hp) (a:Addr) (ns:List Int),ns.length<=n->KZ H->nT (K w.params) H a (ns.map V.int)->sp w [.ref a] H (fun v _=>v= .bl true) fun _ _ _=>False)
    (WR:∀(w:World) (H:Hp) (s:Shared) (e:Value) (s':Shared),CX w [] H s (fun _ _ _=>False) e s'->False):
    PySem.W.WalkO q loose XP YP l.row.toRowW d [] (fun f vs=>PySem.call f vs):=by
  refine Att.AE hn hdf fun w s₀ s₁ mg mb fa o pm cd doc a vs ns G Y ho hd hcd hmg hobj hints hlen hg=>?_
  have KX:=hY w _ Y
  obtain⟨fd,hb,hF⟩:=F w mg fa _ KX G.T.g hmg
  exact Hf KX G.T.g G.T.b G.T.builtins G.T.nolimit hg hobj hints (Nat.le_trans hlen hn2) hr hF hb (fun H hO hS=>MZ w H a ns hlen hO hS) fun H e s'=>WR w H s₁ e s'
noncomputable def bX (s:Stmt):Arguments:=match s with
 | .FunctionDef _ a _ _ _ _ _ _ _ _=>a
 | _=>{posonlyargs:=[],args:=[],vararg:=none,kwonlyargs:=[],kw_defaults:=[],kwarg:=none,defaults:=[]}
noncomputable def bS (s:Stmt):List Stmt:=match s with
 | .FunctionDef _ _ b _ _ _ _ _ _ _=>b
 | _=>[]
noncomputable def aP (s:Stmt):Scope:=match s with
 | .FunctionDef _ _ _ _ _ _ sc _ _ _=>sc
 | _=>{kind:=.function,names:=[],isGenerator:=false,isCoroutine:=false}
noncomputable abbrev gn:Gi:=fun _ _ _ _ _ _=>False
noncomputable abbrev E0:XK:=fun _ _ _=>False
theorem M3 {X:Cx}:Passes gn X E0:=fun _ _ _ _ _ _ _ h=>h.elim
structure qq (K:PySem.W.Frag) (x qual:Str) (st:Stmt) (f:Addr) (fd:FuncData):Prop where
 ex:∃(oc:Value) (od:Option Addr) (kV doc pm:Value) (an:Option Addr) (cdv ct:Value) (osl:Array (Option Value)),
  fd=PySem.W.fnOf x qual (bX st) (bS st) (aP st) .none kV doc pm an cdv ct/\K.lookup f=some ⟨oc,od,.func fd,osl⟩/\PySem.W.codeIn K cdv qual=true
 kp:PySem.W.keepIn K (.ref f)=true
section
variable {P:Program}{w:World}{K:PySem.W.Frag}{mg:Str->Option Value}{base:Heap}
theorem qq.ok {x qual:Str}{st:Stmt}{f:Addr}{fd:FuncData}{N ps:List Str}{k:Nat}{sp:Sp}(F:qq K x qual st f fd) (S:cA N ps (aP st)) (len:∀vs H Q E,sp vs H Q E->vs.length=ps.length)
  (hbody:∀(cdv:Value) (A:Around) (outer:List Env) (s:Shared) (H:Hp) (vs:List V) (Q:VK) (E:XK),lQ k (A.deeper (envOfC qual (aP st) s.heap.objs.size f cdv))->sp vs H Q E->
   ∃t,B3 (B9 gn P w K mg base N qual (aP st) f cdv A outer s H E).Rz (bS st) t/\t {nx:=fun _ H'=>Q .dR H',rt:=Q} (start N vs) H):bZ P w K mg base gn (k+1) f fd ps sp:=by
 obtain⟨oc,od,kV,doc,pm,an,cdv,ct,osl,rfl,lk,hcd⟩:=F.ex
 refine RX lk hcd S len fun A outer s H vs Q E hr MZ=>?_
 obtain⟨t,h,q⟩:=hbody cdv A outer s H vs Q E hr MZ
 exact⟨t,h.Rz,q⟩
theorem qq.binds {x qual:Str}{st:Stmt}{f:Addr}{fd:FuncData}{ps:List Str}(F:qq K x qual st f fd)
  (h:∀(kV doc pm:Value) (an:Option Addr) (cdv ct:Value) (us:List Value),us.length=ps.length->bindArgs (PySem.W.fnOf x qual (bX st) (bS st) (aP st) .none kV doc pm an cdv ct) ⟨us,[]⟩=pure (ps.zip us)):Binds K fd ps []:=by
 obtain⟨oc,od,kV,doc,pm,an,cdv,ct,osl,rfl,lk,hcd⟩:=F.ex
 exact .all (h kV doc pm an cdv ct)
theorem dO {x qual:Str}{st:Stmt}{f:Addr}{oc:Value}{od an:Option Addr}{osl:Array (Option Value)}{kV doc pm cdv ct:Value}(l:K.lookup f=some ⟨oc,od,.func (PySem.W.fnOf x qual (bX st) (bS st) (aP st) .none kV doc pm an cdv ct),osl⟩)
  (c:PySem.W.codeIn K cdv qual=true) (k:PySem.W.keepIn K (.ref f)=true):qq K x qual st f (PySem.W.fnOf x qual (bX st) (bS st) (aP st) .none kV doc pm an cdv ct):=⟨⟨oc,od,kV,doc,pm,an,cdv,ct,osl,rfl,l,c⟩,k⟩
end
theorem cg {A:Around}{k:Nat}(hr:lQ k A):A.units+20 < cLine:=Nat.lt_of_le_of_lt (Nat.add_le_add_left (by decide:20<=64) _) hr.units
section
variable {X:Cx}
theorem EC:jC X (.builtin "len") (fun xs H Q=>∃a kvs,xs=[V.ref a]/\H a=some (.dK kvs)/\Q (.int kvs.length) H):=by
 intro pins s σ H xs us Q I r h
 obtain⟨a,kvs,rfl,ha,q⟩:=h
 obtain⟨u,rfl,ru⟩:=vals1 r
 cases ru
 exact RZ I (.inl ha) fun t s' I'=>⟨.int kvs.length,H,I',⟨t,rfl⟩,q⟩
end
theorem zh {A B:Prop}(h:B):if false=true then A else B:=by
 rw[if_neg Bool.false_ne_true]
 exact h
theorem zj {A B:Prop}(h:A):if true=true then A else B:=by
 rw[if_pos rfl]
 exact h
section
variable {κ:Type} [DecidableEq κ]
end
theorem nO.M4 {P:Program}{w:World}{H:Hp}{h:Heap}{a:Addr}{o:HO}(x:nO P w H h) (hn:H a=none) (new:fB P w (upd H a o) h a o):nO P w (upd H a o) h:=fun b u e=>by
 by_cases hb:b=a
 ·subst hb;rw[bx] at e;cases e;exact new
 ·rw[aY hb] at e
  exact(x b u e).stay (fun c v _ q=>q) (fun c q=>by rw[aY (bK q hn)];exact q) fun c xs q=>by rw[aY (bK q hn)];exact q
noncomputable def fC (X:Cx) (N':List Str) (scope:Scope) (cl:List (Str×Addr)) (C:Addr) (s:Shared) (H:Hp) (fp:List Addr):Cx:=
 {X with N:=N',s₀:=s,H₀:=H,env:=compEnvC scope cl C X.env,outer:=X.stack,stack:=X.stack,ex:=fp,fn:=fun _=>false,pn:=[],xe:=fun _ _=>False}
noncomputable def cL (cap:List Nat) (σ:St):St:=cap.map fun i=>(σ[i]?).join
structure lU (X:Cx) (x:Str) (cJ:List Str) (cap:List Nat) (scope:Scope) (cl:List (Str×Addr)):Prop where
 clos:closureFor scope X.env=pure cl
 oq:∀y∈scope.names,y.2≠.cell
 kind:scope.kind= .function
 names:∀y∈scope.names,y.2= .local->scope.names.lookup y.1=some .local
 loc:scope.names.lookup x=some .local
 cells:∀n c,cl.lookup n=some c->X.env.cells.lookup n=some c
 has:∀n,((relabel scope X.env).names.lookup n=some .cell\/(relabel scope X.env).names.lookup n=some .free)->∃c,cl.lookup n=some c
 nd:(x :: cJ).Nodup
 len:cap.length=cJ.length
 slot:∀(j:Nat) n,cJ[j]? =some n->∃i:Nat,cap[j]? =some i/\X.N[i]? =some n/\Gw X.env.scope n
 vis:∀n,n∈cJ->((relabel scope X.env).names.lookup n=some .cell\/(relabel scope X.env).names.lookup n=some .free)/\(∃c,cl.lookup n=some c)/\X.env.scope.names.lookup n≠some .local
noncomputable def WT (wi:TI) (cap:List Nat) (tc:TT) (te:TE):TE:=fun σ H Q=>wi σ H fun J H1=>∃W:Nat->Nat->List V->Hp->Prop,(∃m,W 0 m [] H1)/\∀i m ys H,W i m ys H->ys.length < sizeLine/\
  ((J.stop i H/\∀p,H p=none->Q (.ref p) (upd H p (.lst ys)))\/
   (J.go i H/\∀x H',J.QK i H x H'->tc (some x :: cL cap σ) H' fun b H2=>if b=true then te (some x :: cL cap σ) H2 fun y H3=>∃m',m' < m/\W (i+1) m' (ys++[y]) H3 else ∃m',m' < m/\W (i+1) m' ys H2))
noncomputable def WU:TT:=fun _ H Q=>Q true H
noncomputable def M5 (X:Cx) (ifs:List Expr) (tc:TT):Prop:=
 ∀(pins:List (Addr×Obj)) (s:Shared) (σ:St) (H:Hp) (Q:Bool->Hp->Prop),Inv X pins σ H s->tc σ H Q->
  wpAny (model X.prog X.w) X.A (forIn ifs true fun c r=>if r=true then do let ok <-isTrue c X.env (eval c X.env);pure (ForInStep.yield ok) else pure (ForInStep.yield r)) (TP X pins σ Q) X.xe s
theorem K1 {X:Cx}:M5 X [] WU:=fun pins s σ H Q I h=>wpAny_tests_nil ⟨H,I,h⟩
theorem Hg (ys:List Value) (y:Value):({cls:=.type "list",data:=.seq (ys.toArray.push y) (ys.length+1)}:Obj)={cls:=.type "list",data:=.seq (ys++[y]).toArray (ys++[y]).length}:=by
 rw[List.length_append,List.length_singleton,List.push_toArray]
theorem Hh {X : Cx} {pins : List (Addr × Obj)} {σ : St} {H : Hp} {s s4 : Shared} {x : Str} {cJ : List Str} {cap : List Nat} {scope : Scope} {cl : List (Str × Addr)} {C : Addr} {fp : List Addr} {m' : Str -> Option Value}
    (I:Inv X pins σ H s) (T:lU X x cJ cap scope cl) (hfp:∀b∈fp,lP X pins H b) (hfo:∀b∈fp,∃o,s.heap.get? b=some o)
    (hC:s.heap.objs.size<=C) (hns:s4.heap.Ns C m') (hos:s4.os=s.os) (hg:s4.gens=s.gens)
    (kept:∀b o,s.heap.get? b=some o->s4.heap.get? b=some o):
    Inv (fC X (x :: cJ) scope cl C s H fp) [] (none :: cL cap σ) H s4:=by
  have fr:∀b,s.heap.objs.size<=b->H b=none:=fun b hb=>I.hok.fresh hb
  refine⟨⟨I.ok.mod,T.kind,I.ok.glob,I.ok.blt,hC,fun y z c h1 h2=>I.ok.inj y z c (T.cells _ _ h1) (T.cells _ _ h2),fun y hy=>T.has y hy,fun y c h=>(by cases h),I.ok.hd,I.ok.frames,.inl rfl,fun b hb=>⟨?_,fun y c e z=>?_⟩,I.bs,Nat.le_trans I.ok.Kg I.sz,fun b o e hb=>?_,fun b hb z=>?_,I.stack,I.yW⟩,
    hos,by rw[hg];exact I.bare,Un.kept kept,⟨m',hns,fun i y v h1 h2 h3=>?_⟩,fun y c h=>?_,fr C hC,fun y c h=>I.nR y c (T.cells _ _ h),fun p hp=>?_,I.hok.kept kept,?_⟩
  . obtain⟨o,e⟩:=hfo b hb
    exact Nat.ne_of_lt (Nat.lt_of_lt_of_le (Heap.lt_size e) hC)
  . exact(hfp b hb).2.2.2.2.1 y c (T.cells _ _ e) z
  . rcases(hfp b hb).2.2.2.1 with z | z
    . exact I.ok.Em b o e z
    . exact absurd (Nat.lt_of_lt_of_le (Heap.lt_size e) (Nat.le_trans I.ok.Kg z)) (Nat.lt_irrefl _)
  . rcases List.mem_cons.mp (I.sI b z) with q | q
    . exact(hfp b hb).2.1 q
    . exact(hfp b hb).2.2.1 q
  . cases i with
    | zero=>cases h2
    | succ j=>
      have h1:cJ[j]? =some y:=by simpa[fC] using h1
      have h2:(cL cap σ)[j]? =some (some v):=by simpa using h2
      obtain⟨i,e1,e2,e3⟩:=T.slot j y h1
      have e4:σ[i]? =some (some v):=by
        unfold cL at h2
        rw[List.getElem?_map,e1] at h2
        have h2:some ((σ[i]?).join)=some (some v):=h2
        have h2:=Option.some.inj h2
        cases q:σ[i]? with
        | none=>rw[q] at h2;cases h2
        | some o=>rw[q] at h2;cases h2;rfl
      obtain⟨m,hn,hl⟩:=I.loc
      obtain⟨u,r,l⟩:=hl i y v e2 e4 e3
      obtain⟨k1,⟨c,hc⟩,k3⟩:=T.vis y (List.mem_of_getElem? h1)
      refine⟨u,r,.inr ⟨k1,c,hc,?_⟩⟩
      rcases l with⟨hk,_⟩ | ⟨hk,c',hc',z⟩
      . exact absurd hk k3
      . rw[T.cells _ _ hc] at hc'
        cases hc'
        obtain⟨o,ho,hd⟩:=z
        exact⟨o,kept _ _ ho,hd⟩
  . obtain⟨v,o,ho,hd⟩:=I.cell y c (T.cells _ _ h)
    exact⟨v,o,kept _ _ ho,hd⟩
  . exact absurd (show p∈([]:List (Addr×Obj)) from hp) (by simp)
  . show(none :: cL cap σ).length=(x :: cJ).length
    simp[cL,T.len]
theorem Hi {α:Type}{M:Model}{A:Around}{E E':Value->Shared->Prop}{s:Shared}{t:Sem α}{Q:Unit->Shared->Prop}{Q':α->Shared->Prop}(h:wpAny M A (pure ():Sem Unit) Q E s) (k:Q () s->wpAny M A t Q' E' s):wpAny M A t Q' E' s:=
 fun Γ p hΓ=>k (h Γ p hΓ) Γ p hΓ
theorem Cg {X:Cx}{elt iter:Expr}{ifs:List Expr}{x:Str}{px pos:Pos}{scope:Scope}{cl:List (Str×Addr)}{cJ:List Str}{cap:List Nat}{wi:TI}{tc:TT}{te:TE}{pins:List (Addr×Obj)}{s:Shared}{σ:St}{H:Hp}{Q:VK}{use:Option (Value->Sem Unit)}{Qf:Value->Shared->Prop}{pos2:Pos}
    (T:lU X x cJ cap scope cl) (hc:X.calm=true) (hi:PI X (.Name x px) iter wi)
    (ht:∀C s H fp,M5 (fC X (x :: cJ) scope cl C s H fp) ifs tc) (he:∀C s H fp,PE (fC X (x :: cJ) scope cl C s H fp) elt te)
    (hs:∀x,foldedSetIterable iter X.env x=pure x) (I:Inv X pins σ H s) (h:WT wi cap tc te σ H Q)
    (hend:∀(D C:Addr) (s7:Shared) (H6:Hp) (ys:List V),Inv X pins σ (upd H6 D (.lst ys)) s7->(∃m,s7.heap.Ns C m)->lP X pins (upd H6 D (.lst ys)) C->Q (.ref D) (upd H6 D (.lst ys))->compPost (model X.prog X.w) X.A X.xe use Qf (.ref D) C (.ok .next) s7):
    wpAny (model X.prog X.w) X.A (comprehension (.ListComp elt [⟨.Name x px,iter,ifs,0⟩] scope pos) scope X.env pos2 (newList []) false (eval iter X.env) use) Qf X.xe s:=by
  refine wpAny_comprehension_free (use:=use) rfl hs T.clos T.kind T.names (gf (hi pins s σ H _ I h) fun v s1 h1=>gf h1 fun itv s2 h2=>?_)
  obtain⟨it,fp,tn,J,H2,rfl,I2,xx,st2,f2,W,⟨m0,w0⟩,turn⟩:=h2
  refine wpAny_newObj_type (wpAny_newFunctionEnv T.oq (by intro y hy;simp at hy) (fun h4 zm vD=>?_) T.kind)
  dsimp only at zm vD ⊢
  generalize Oo:s2.heap.push {cls:=.type "list",dict:=none,data:=.seq ([]:List Value).toArray}=H3 at zm vD ⊢
  have eC:H3.objs.size=s2.heap.objs.size+1:=by rw[<-Oo,Heap.size_push]
  generalize eC':H3.objs.size=C at eC zm vD ⊢
  generalize eD:s2.heap.objs.size=D at eC ⊢
  have Hj:C=D+1:=eC
  have hDC:D≠C:=by rw[Hj];exact Nat.ne_of_lt (Nat.lt_succ_self D)
  have hC:s2.heap.objs.size<=C:=by rw[eD,Hj];exact Nat.le_succ D
  have hD:s2.heap.objs.size<=D:=by rw[eD];exact Nat.le_refl D
  have kept:∀b o,s2.heap.get? b=some o->h4.get? b=some o:=fun b o e=>vD.extBut b o (Nat.ne_of_lt (Nat.lt_of_lt_of_le (Heap.lt_size e) hC)) (Heap.get?_push_of_some _ (Oo▸Heap.get?_push_of_some _ e))
  have hacc:h4.get? D=some {cls:=.type "list",data:=.seq ([]:List Value).toArray ([]:List Value).length}:=vD.extBut _ _ hDC (Heap.get?_push_of_some _ (Oo▸eD▸Heap.get?_push_size _ rfl))
  have Su:∀b∈fp,∃o,s2.heap.get? b=some o:=fun b hb=>let⟨o,e,_⟩:=xx.obj _ _ st2 b hb;⟨o,e⟩
  have hDf:D∉fp:=fun hb=>by
    obtain⟨o,e⟩:=Su D hb
    exact absurd (Nat.lt_of_lt_of_le (Heap.lt_size e) hD) (Nat.lt_irrefl _)
  have Sv:tn 0 h4:=xx.keep _ _ _ st2 fun b _ o e=>kept b o e
  have key : ∀ s5 : Shared, s5 = { s2 with heap := h4, toks := s2.toks + ([] : List (Str × Value)).length } ->
      codeAny (model X.prog X.w) X.A (.compLoop (.ListComp elt [⟨.Name x px,iter,ifs,0⟩] scope pos) 0 (.ref it) (.ref D) (compEnvC scope cl C X.env)) (compPost (model X.prog X.w) X.A X.xe use Qf (.ref D) C) s5:=by
    rintro s5 rfl
    have I4:Inv (fC X (x :: cJ) scope cl C s2 H2 fp) [] (none :: cL cap σ) H2 {s2 with heap:=h4,toks:=s2.toks+([]:List (Str×Value)).length}:=
      Hh (s4:={s2 with heap:=h4,toks:=s2.toks+([]:List (Str×Value)).length}) I2 T f2 Su hC zm rfl rfl kept
    generalize hY:fC X (x :: cJ) scope cl C s2 H2 fp=Y at I4
    have fD:∀{H':Hp},H' D=none->lP Y [] H' D:=fun {H'} hn=>by
      subst hY
      refine⟨hn,hDC,fun z=>(List.mem_cons.mp (I2.sI D z)).elim (fun q=>absurd (Nat.lt_of_lt_of_le (q▸I2.lt) hD) (Nat.lt_irrefl _)) fun q=>I2.NO hD q,.inr hD,fun y c e z=>?_,fun p hp=>absurd (show p∈([]:List (Addr×Obj)) from hp) (by simp)⟩
      obtain⟨v,q⟩:=I2.cell y c (T.cells _ _ e)
      exact absurd (Nat.lt_of_lt_of_le q.lt (by rw[z];exact hD)) (Nat.lt_irrefl _)
    have fF:∀{H':Hp},(∀b∈fp,H' b=none)->∀b∈fp,lP Y [] H' b:=fun {H'} hn b hb=>by
      have q:=I4.ok.U3 b (by subst hY;exact hb)
      exact⟨hn b hb,fun z=>q.1 z,I4.ok.En b (by subst hY;exact hb),.inl (by subst hY;exact hb),fun y c e z=>q.2 y c e z,fun p hp=>absurd (show p∈([]:List (Addr×Obj)) from(by subst hY;exact hp)) (by simp)⟩
    have eA:Y.A=X.A:=by subst hY;rfl
    have eP:Y.prog=X.prog:=by subst hY;rfl
    have eW:Y.w=X.w:=by subst hY;rfl
    have eK:Y.K=X.K:=by subst hY;rfl
    have eE:Y.env=compEnvC scope cl C X.env:=by subst hY;rfl
    have eX:Y.xe=fun _ _=>False:=by subst hY;rfl
    have eN:Y.N=x :: cJ:=by subst hY;rfl
    have M6:Y.calm=true:=by subst hY;exact hc
    have WV:M5 Y ifs tc:=by subst hY;exact ht _ _ _ _
    have WW:PE Y elt te:=by subst hY;exact he _ _ _ _
    have WX:PG Y (.Name x px) (vp 0):=u5 (by rw[eN];exact T.nd) (by rw[eN];rfl) (by rw[eE];exact .inl (lookup_relabel_local T.loc)) (.inr (by rw[eE];exact lookup_relabel_local T.loc))
    have qI:∀(E':Value->Shared->Prop) (e:Value) (s':Shared),Y.xe e s'->E' e s':=fun E' e s' z=>by rw[eX] at z;exact z.elim
    refine codeAny_compLoop_tests (fun n s'=>∃i ys us H' o,Inv Y [] (o :: cL cap σ) H' s'/\tn i s'.heap/\(∀b∈fp,H' b=none)/\H' D=none/\s'.heap.get? D=some {cls:=.type "list",data:=.seq us.toArray us.length}/\Vals ys us/\W i n ys H') ?_ m0
      ⟨0,[],[],H2,none,I4,Sv,fun b hb=>(f2 b hb).1,I2.hok.fresh hD,hacc,.nil,w0⟩
    rintro n s6 ⟨i,ys,us,H6,o6,I6,Oq,Ot,d6,a6,v6,w6⟩
    have WY:us.length=ys.length:=v6.length.symm
    obtain⟨hz,Hl⟩:=turn i n ys H6 w6
    rcases Hl with⟨stop,qn⟩ | ⟨go,step⟩
    . have q := xx.done Y eP eW eK M6 i [] s6 (o6 :: cL cap σ) H6 (notedBy (model X.prog X.w) X.A (compEnvC scope cl C X.env) fun e s' => compPost (model X.prog X.w) X.A X.xe use Qf (.ref D) C (.error e) s') I6 (fF Ot) Oq stop
      rw[eA] at q
      have Ou:=I6.pinned (fp:=[D]) (fun b hb=>by rw[List.mem_singleton.mp hb];exact fD d6) (fun b hb=>by rw[List.mem_singleton.mp hb];exact⟨_,a6,fun v z=>by cases z⟩)
      have q:=xx.done Y eP eW eK M6 i _ s6 (o6 :: cL cap σ) H6 (notedBy (model X.prog X.w) X.A (compEnvC scope cl C X.env) fun e s'=>compPost (model X.prog X.w) X.A X.xe use Qf (.ref D) C (.error e) s') Ou (fun b hb=>?_) Oq stop
      . rw [eA] at q
        refine gf q fun r s7 ⟨hr,I7⟩=>?_
        subst hr
        have a7:s7.heap.get? D=_:=(I7.pin (D,{cls:=.type "list",data:=.seq us.toArray us.length}) (List.mem_append_right _ (List.mem_append_right _ (dY (List.mem_singleton.mpr rfl) a6)))).1
        obtain⟨m7,K2,_⟩:=I7.loc
        rw[eE] at K2
        have Ho:H6 D=none:=d6
        have WZ:H6 C=none:=by have:=I7.free;rw[eE] at this;exact this
        have Ov:nO X.prog X.w H6 s7.heap:=by have q:=I7.hok;rw[eP,eW] at q;exact q
        have new:fB X.prog X.w (upd H6 D (.lst ys)) s7.heap D (.lst ys):=⟨Nat.le_of_lt hz,us,us.length,v6,a7⟩
        have u7:Un (frs X.stack) fp H2 H6 s2.heap s7.heap:=by have:=I7.base;subst hY;exact this
        have W2:∀b o,s2.heap.get? b=some o->b≠D:=fun b o e=>Nat.ne_of_lt (Nat.lt_of_lt_of_le (Heap.lt_size e) hD)
        have u8:Un (frs X.stack) fp H2 (upd H6 D (.lst ys)) s2.heap s7.heap:=
          ⟨u7.keep,u7.slot,fun b o e n hx=>by rw[aY (W2 b o e)];exact u7.free b o e n hx,u7.there,
           fun b xs e=>by have z:=u7.tups b xs e;rw[aY (bK z Ho)];exact z,fun b o u e=>by have z:=u7.vm b o u e;rw[aY (bK z Ho)];exact z,
           fun b ps e=>by obtain⟨more,z⟩:=u7.xm b ps e;exact⟨more,by rw[aY (bK z Ho)];exact z⟩⟩
        have W3:s7.os=s2.os:=by have:=I7.os;subst hY;exact this
        have I9:Inv X pins σ (upd H6 D (.lst ys)) s7:=I2.MV (ch:=fp) W3 u8 (Ov.M4 Ho new) I7.bare fun b hb=>⟨(f2 b hb).2.2.2.1,(f2 b hb).2.1,(f2 b hb).2.2.2.2.1,(f2 b hb).2.2.2.2.2⟩
        exact hend D C s7 H6 ys I9 ⟨m7,K2⟩ (I2.xr hC (by rw[aY (Ne.symm hDC)];exact WZ)) (qn D Ho)
      . obtain⟨f0,f1,Ow,f3,f4,f5⟩:=fF Ot b hb
        refine⟨f0,f1,Ow,f3,f4,fun p hp z=>?_⟩
        rcases List.mem_append.mp hp with q' | q'
        . exact f5 p (List.mem_append_left _ q') z
        . rcases List.mem_append.mp q' with q' | q'
          . exact absurd q' (by simp)
          . have:=(mK q').1
            rw[List.mem_singleton.mp this] at z
            exact hDf (z▸hb)
    . have Ou:=I6.pinned (fp:=[D]) (fun b hb=>by rw[List.mem_singleton.mp hb];exact fD d6) (fun b hb=>by rw[List.mem_singleton.mp hb];exact⟨_,a6,fun v z=>by cases z⟩)
      have Sx:∀{H':Hp},(∀b∈fp,H' b=none)->∀b∈fp,lP Y ([]++mC [D] s6.heap) H' b:=fun {H'} hn b hb=>by
        obtain⟨f0,f1,Ow,f3,f4,f5⟩:=fF hn b hb
        refine⟨f0,f1,Ow,f3,f4,fun p hp z=>?_⟩
        rcases List.mem_append.mp hp with q' | q'
        . exact f5 p (List.mem_append_left _ q') z
        . rcases List.mem_append.mp q' with q' | q'
          . exact absurd q' (by simp)
          . have:=(mK q').1
            rw[List.mem_singleton.mp this] at z
            exact hDf (z▸hb)
      have q:=xx.item Y eP eW eK M6 i _ s6 (o6 :: cL cap σ) H6 (notedBy (model X.prog X.w) X.A (compEnvC scope cl C X.env) fun e s'=>compPost (model X.prog X.w) X.A X.xe use Qf (.ref D) C (.error e) s') Ou (Sx Ot) Oq go
      rw[eA] at q
      refine gf q fun r s7 ⟨u,hr,h7⟩=>?_
      subst hr
      refine Hi h7 fun⟨xv,H8,I8,r8,y8,Ox,W4⟩=>?_
      have W5:=I8.pinned (Sx W4) (xx.obj _ _ Ox)
      have qa:=WX _ s7 (o6 :: cL cap σ) H8 xv u _ W5 r8 (show vp 0 xv (o6 :: cL cap σ) H8 (fun σ' H'=>σ'=some xv :: cL cap σ/\H'=H8) from⟨rfl,rfl⟩)
      rw[eP,eW,eA,eE] at qa
      refine wpAny_mono qa (fun _ s9 h9=>?_) (qI _)
      obtain⟨σ9,H9,I9,e9,W6⟩:=h9
      subst e9 W6
      have qt:=WV _ s9 _ _ _ I9 (step xv _ y8)
      rw[eP,eW,eA,eE] at qt
      refine wpAny_mono qt (fun ok W7 h10=>?_) (qI _)
      obtain⟨W8,SD,K3⟩:=h10
      have back:∀{s':Shared}{H':Hp},Inv Y (([]++mC [D] s6.heap)++mC fp s7.heap) (some xv :: cL cap σ) H' s'->Inv Y [] (some xv :: cL cap σ) H' s'/\tn (i+1) s'.heap/\(∀b∈fp,H' b=none)/\H' D=none/\s'.heap.get? D=some {cls:=.type "list",data:=.seq us.toArray us.length}:=fun {s' H'} J=>by
        refine⟨J.kN.kN,xx.keep _ _ _ Ox fun b hb o e=>(J.pin (b,o) (List.mem_append_right _ (List.mem_append_right _ (dY hb e)))).1,fun b hb=>?_,?_,?_⟩
        . obtain⟨o,e,d⟩:=xx.obj _ _ Ox b hb
          exact(J.pin (b,o) (List.mem_append_right _ (List.mem_append_right _ (dY hb e)))).2.1
        . exact(J.pin (D,_) (List.mem_append_right _ (List.mem_append_left _ (List.mem_append_right _ (dY (List.mem_singleton.mpr rfl) a6))))).2.1
        . exact(J.pin (D,_) (List.mem_append_right _ (List.mem_append_left _ (List.mem_append_right _ (dY (List.mem_singleton.mpr rfl) a6))))).1
      cases ok with
      | false=>
        rw[if_neg (by decide)] at K3 ⊢
        obtain⟨m',hm,W9⟩:=K3
        obtain⟨b1,b2,b3,b4,b5⟩:=back SD
        exact⟨m',hm,i+1,ys,us,W8,some xv,b1,b2,b3,b4,b5,v6,W9⟩
      | true=>
        rw[if_pos rfl] at K3 ⊢
        have qe:=WW _ W7 _ _ _ SD K3
        rw[eP,eW,eA,eE] at qe
        refine wpAny_mono qe (fun y Oz h11=>?_) (qI _)
        obtain⟨yv,SE,Xa,Xb,m',hm,Xc⟩:=h11
        obtain⟨b1,b2,b3,b4,b5⟩:=back Xa
        refine append_at (hsz:=by rw[List.size_toArray,WY];exact Nat.le_of_lt hz) b5 fun h12 OA OB=>?_
        have Hq:∀b o,b≠D->Oz.heap.get? b=some o->h12.get? b=some o:=fun b o hb e=>OA.extBut b o hb e
        obtain⟨g0,g1,g2,g3,g4,g5⟩:=fD b4
        have Xd:Inv Y [] (some xv :: cL cap σ) SE {Oz with heap:=h12}:=b1.turned (t':=Oz.toks) Hq g0 g1 g3 g4 g5
        refine⟨m',hm,i+1,ys++[yv],us++[y],SE,some xv,Xd,xx.keep _ _ _ b2 fun b hb o e=>Hq b o (fun z=>hDf (z▸hb)) e,b3,b4,OB.trans (congrArg some (Hg us y)),v6.append (.cons Xb .nil),Xc⟩
  exact codeAny_compStart_list (key _ rfl) (xx.self _ 0 _ _ _ Sv (key _ rfl))
theorem Hr {X:Cx}{elt iter:Expr}{ifs:List Expr}{x:Str}{px pos:Pos}{scope:Scope}{cl:List (Str×Addr)}{cJ:List Str}{cap:List Nat}{wi:TI}{tc:TT}{te:TE}
  (T:lU X x cJ cap scope cl) (hc:X.calm=true) (hi:PI X (.Name x px) iter wi)
  (ht:∀C s H fp,M5 (fC X (x :: cJ) scope cl C s H fp) ifs tc) (he:∀C s H fp,PE (fC X (x :: cJ) scope cl C s H fp) elt te)
  (hs:∀x,foldedSetIterable iter X.env x=pure x:=by intro _;rfl):
  PE X (.ListComp elt [⟨.Name x px,iter,ifs,0⟩] scope pos) (WT wi cap tc te):=by
 intro pins s σ H Q I h
 rw[eval_ListComp]
 refine Cg T hc hi ht he hs I h ?_
 rintro p C s7 H6 ys I9 ⟨m7,K2⟩ ⟨g0,g1,g2,g3,g4,g5⟩ q
 exact⟨m7,K2,fun h' hs'=>⟨.ref p,_,I9.turned (t':=s7.toks) (fun b o hb e=>hs'.extBut b o hb e) g0 g1 g3 g4 g5,rfl,q⟩⟩
noncomputable def Xe (z:Str):It:=⟨fun i _=>i < z.cps.size,fun i H x H'=>H'=H/\∃c,z.cps[i]? =some c/\x= .str ⟨#[c]⟩,fun i _=>z.cps.size<=i⟩
theorem Hs {P:Program}{w:World}{K:PySem.W.Frag}{x:Str}{px:Pos}(z:Str) (it:Addr) (t:Tok) (ty:String) (hW:∀A':Around,A'.handled=none->Walks P w A' it [it] [it] z.cps.size (SignAt z) fun i h=>h.IsStrIter it ty z t i)
  (hself:∀(A:Around) (i:Nat) (s:Shared) (Q:Value->Shared->Prop) (E:Value->Shared->Prop),s.heap.IsStrIter it ty z t i->Q (.ref it) s->wpAny (model P w) A (pyIter (.ref it)) Q E s):
  Turn P w K (.Name x px) (Xe z) [it] it (fun i h=>i<=z.cps.size/\h.IsStrIter it ty z t i) where
 mem:=by simp
 obj:=fun i h st b hb=>by
  obtain rfl:b=it:=by simpa using hb
  obtain⟨o,e,c,d⟩:=st.2
  exact⟨o,e,fun v q=>by rw[d] at q;cases q⟩
 keep:=fun i h h' st k=>by
  obtain⟨o,e,r⟩:=st.2
  exact⟨st.1,o,k it (by simp) o e,r⟩
 item:=by
  intro X hP hw hK hc i pins s σ H E I hf st hg
  subst hP hw hK
  obtain⟨f0,f1,f2,f3,f4,f5⟩:=hf it (by simp)
  refine(hW X.A (I.ok.hd hc)).item i s _ _ hg st.2 fun v h' tk hv st' kk=>?_
  obtain⟨c,u,hc',rfl⟩:=hv
  exact⟨_,rfl,wpAny_pure ⟨.str ⟨#[c]⟩,H,I.turned (fun b o hb e=>kk b o (by simpa using hb) e) f0 f1 f3 f4 f5,⟨u,rfl⟩,⟨rfl,c,hc',rfl⟩,⟨hg,st'⟩,fun b hb=>(hf b hb).1⟩⟩
 done:=by
  intro X hP hw hK hc i pins s σ H E I hf st hg
  subst hP hw hK
  obtain⟨f0,f1,f2,f3,f4,f5⟩:=hf it (by simp)
  obtain⟨s1,s2⟩:=st
  have e:i=z.cps.size:=Nat.le_antisymm s1 hg
  subst e
  exact(hW X.A (I.ok.hd hc)).done s _ _ s2 fun h' tk kk=>⟨rfl,I.turned (fun b o hb e=>kk b o (by simpa using hb) e) f0 f1 f3 f4 f5⟩
 self:=fun A i s Q E st h=>hself A i s Q E st.2 h
noncomputable def Xf (tl:TE):TI:=fun σ H R=>tl σ H fun x H1=>∃z,x= .str z/\R (Xe z) H1
theorem OC {X:Cx}{x:Str}{px:Pos}{l:Expr}{tl:TE}(hl:PE X l tl):PI X (.Name x px) l (Xf tl):=by
 intro pins s σ H R I h
 refine gf (hl pins s σ H _ I h) fun v s1 ⟨y,H1,I1,r1,q1⟩=>?_
 obtain⟨z,rfl,q⟩:=q1
 obtain⟨t,rfl⟩:=r1
 refine wpAny_pyIter_strU ?_
 have hst:∀ty,strIterType z=ty->(s1.heap.push {cls:=.type (strIterType z),data:=.fields #[.str z t,.int 0 0]}).IsStrIter s1.heap.objs.size ty z t 0:=fun ty e=>⟨_,Heap.get?_push_size _ rfl,by rw[<-e],rfl⟩
 have go:∀ty,strIterType z=ty->(∀A':Around,A'.handled=none->Walks X.prog X.w A' s1.heap.objs.size [s1.heap.objs.size] [s1.heap.objs.size] z.cps.size (SignAt z) fun i h=>h.IsStrIter s1.heap.objs.size ty z t i)->
   (∀(A:Around) (i:Nat) (s:Shared) (Q:Value->Shared->Prop) (E:Value->Shared->Prop),s.heap.IsStrIter s1.heap.objs.size ty z t i->Q (.ref s1.heap.objs.size) s->wpAny (model X.prog X.w) A (pyIter (.ref s1.heap.objs.size)) Q E s)->
   Wv X pins σ (.Name x px) R (.ref s1.heap.objs.size) {s1 with heap:=s1.heap.push {cls:=.type (strIterType z),data:=.fields #[.str z t,.int 0 0]}}:=fun ty e hW hself=>by
  refine⟨s1.heap.objs.size,[s1.heap.objs.size],_,_,H1,rfl,I1.kept (t':=s1.toks) fun b o e=>Heap.get?_push_of_some _ e,Hs z _ t ty hW hself,⟨Nat.zero_le _,hst ty e⟩,fun b hb=>?_,q⟩
  obtain rfl:b=s1.heap.objs.size:=by simpa using hb
  exact I1.xr (Nat.le_refl _) (I1.hok.fresh (Nat.le_refl _))
 cases ha:z.cps.all (· < 128)
 ·exact go "str_iterator" (by simp[strIterType,ha]) (fun A' hA=>Walks.strWide hA _ z t) fun A i s Q E st h=>wpAny_pyIter_striter_wide st h
 ·exact go "str_ascii_iterator" (by simp[strIterType,ha]) (fun A' hA=>Walks.strAscii hA _ z t) fun A i s Q E st h=>wpAny_pyIter_striter_ascii st h
theorem Ht {bs:List Bool}:∀{us:List Value},Vals (bs.map V.bl) us->us=bs.map Value.bool:=by
 induction bs with
 | nil=>intro us r;cases r;rfl
 | cons b bs ih=>
  intro us r
  cases r with
  | cons r1 r2=>
   cases r1
   rw[ih r2]
   rfl
theorem Ci (bs:List Bool):((List.range bs.length).any fun i=>(bs[i]?).getD false)=bs.any id:=by
 rw[Bool.eq_iff_iff,List.any_eq_true,List.any_eq_true]
 constructor
 ·rintro⟨i,hi,h⟩
  have hi:=List.mem_range.mp hi
  simp only[List.getElem?_eq_getElem hi,Option.getD_some] at h
  exact⟨_,List.getElem_mem hi,h⟩
 ·rintro⟨b,hb,h⟩
  obtain⟨i,hi,rfl⟩:=List.mem_iff_getElem.mp hb
  exact⟨i,List.mem_range.mpr hi,by simpa[hi] using h⟩
theorem ED {X:Cx}(hc:X.calm=true):jC X (.builtin "any") (fun xs H Q=>∃(p:Addr) (bs:List Bool),xs=[.ref p]/\nT X.K H p (bs.map V.bl)/\Q (.bl (bs.any id)) H):=by
 intro pins s σ H xs us Q I r h
 obtain⟨p,bs,rfl,hp,q⟩:=h
 obtain⟨u,rfl,ru⟩:=vals1 r
 cases ru
 obtain⟨its,rv,pl,hz⟩:=I.list hp
 obtain rfl:=Ht rv
 have hlt:p < s.heap.objs.size:=by obtain⟨_,e,_⟩:=pl.isList;exact Heap.lt_size e
 refine call_any_walk (wpAny_pyIter_list pl.isList ?_)
 refine⟨s.heap.objs.size,[s.heap.objs.size,p],[s.heap.objs.size],_,_,_,fun i=>(bs[i]?).getD false,rfl,Walks.list (A:=X.A.in1) (I.ok.hd hc) _ p (Nat.ne_of_lt hlt) _,
  ⟨⟨_,Heap.get?_push_size _ rfl,rfl,rfl⟩,pl.isList.push _⟩,fun i v s' Q' E' hP hQ=>?_,fun h' tk hk=>?_⟩
 ·have hP:(bs.map Value.bool)[i]? =some v:=by simpa using hP
  rw[List.getElem?_map] at hP
  cases e:bs[i]? with
  | none=>rw[e] at hP;cases hP
  | some b=>
   rw[e] at hP
   cases hP
   simp only[e,Option.getD_some] at hQ
   exact wpAny_truthy_bool hQ
 ·have e:((List.range (bs.map Value.bool).toArray.size).any fun i=>(bs[i]?).getD false)=bs.any id:=by
   rw[List.size_toArray,List.length_map];exact Ci bs
  rw[e]
  exact⟨.bl (bs.any id),H,I.kept (t':=tk) fun b o e=>hk b o (fun hm=>by rw[List.mem_singleton.mp hm] at e;exact Nat.lt_irrefl _ (Heap.lt_size e)) (Heap.get?_push_of_some _ e),rfl,q⟩
noncomputable def Xg:V->Option Int->Option Int->Hp->VK->Prop:=fun x lo hi H Q=>∃z,x= .str z/\z.length<=sizeLine/\((Txt.slice z lo hi).length<=z.length->Q (.str (Txt.slice z lo hi)) H)
theorem OD {X:Cx}:Sa X Xg:=by
 intro pins s σ H x v vl vu lo hi sl Q I rx hs pl pu h
 obtain⟨z,rfl,hz,q⟩:=h
 obtain⟨t,rfl⟩:=rx
 have q:=q (Txt.slice_le z _ _)
 refine⟨"str",_,F.slot_str_getitem.lookup,typeIs_str _ _ _,?_⟩
 cases pl with
 | none=>
  cases pu with
  | none=>exact wpAny_getItem_str_slice (l:=none) (u:=none) (st:=none) hs rfl (post_val_or_str ⟨Nat.le_trans (Txt.slice_le z _ _) hz,fun t' k=>⟨V.str (Txt.slice z none none),H,I.tok k,⟨t',rfl⟩,q⟩⟩)
  | int j u=>exact wpAny_getItem_str_slice (l:=none) (u:=some (j,u)) (st:=none) hs rfl (post_val_or_str ⟨Nat.le_trans (Txt.slice_le z _ _) hz,fun t' k=>⟨V.str (Txt.slice z none (some j)),H,I.tok k,⟨t',rfl⟩,q⟩⟩)
 | int i u'=>
  cases pu with
  | none=>exact wpAny_getItem_str_slice (l:=some (i,u')) (u:=none) (st:=none) hs rfl (post_val_or_str ⟨Nat.le_trans (Txt.slice_le z _ _) hz,fun t' k=>⟨V.str (Txt.slice z (some i) none),H,I.tok k,⟨t',rfl⟩,q⟩⟩)
  | int j u=>exact wpAny_getItem_str_slice (l:=some (i,u')) (u:=some (j,u)) (st:=none) hs rfl (post_val_or_str ⟨Nat.le_trans (Txt.slice_le z _ _) hz,fun t' k=>⟨V.str (Txt.slice z (some i) (some j)),H,I.tok k,⟨t',rfl⟩,q⟩⟩)
theorem bN.length {H:Hp}:∀{vs:List V}{ds:List D},bN H vs ds->vs.length=ds.length
 | _,_,.nil=>rfl
 | _,_,.cons _ rs=>congrArg Nat.succ (bN.length rs)
theorem bN.get {H:Hp}:∀{vs:List V}{ds:List D}{i:Nat}{d:D},bN H vs ds->ds[i]? =some d->∃v,vs[i]? =some v/\Rep H v d
 | _,_,_,_,.nil,e=>by simp at e
 | _,_,0,_,.cons r _,e=>by simp at e;subst e;exact⟨_,rfl,r⟩
 | _,_,i+1,_,.cons _ rs,e=>by
  obtain⟨v,h1,h2⟩:=bN.get (i:=i) rs (by simpa using e)
  exact⟨v,by simpa using h1,h2⟩
theorem bN.append {H:Hp}:∀{vs ws:List V}{ds es:List D},bN H vs ds->bN H ws es->bN H (vs++ws) (ds++es)
 | _,_,_,_,.nil,s=>s
 | _,_,_,_,.cons r rs,s=>.cons r (bN.append rs s)
theorem bN.take {H:Hp}:∀{vs:List V}{ds:List D}(n:Nat),bN H vs ds->bN H (vs.take n) (ds.take n)
 | _,_,0,_=>.nil
 | _,_,_+1,.nil=>.nil
 | _,_,n+1,.cons r rs=>.cons r (bN.take n rs)
theorem bN.drop {H:Hp}:∀{vs:List V}{ds:List D}(n:Nat),bN H vs ds->bN H (vs.drop n) (ds.drop n)
 | _,_,0,rs=>rs
 | _,_,_+1,.nil=>.nil
 | _,_,n+1,.cons _ rs=>bN.drop n rs
noncomputable def OE:D->String
 | .dR=>"NoneType" | .bl _=>"bool" | .int _=>"int" | .str _=>"str" | .tup _=>"tuple" | .lst _=>"list"
open PySem.W in
noncomputable def jg (T U:String):Option Bool:=if(Value.type T == Value.type U)=true then some true else if kitMeta U=true then(fastBuiltinMro T).map (·.contains (Value.type U)) else none
noncomputable def Hu:D->Bool
 | .tup _=>true
 | _=>false
noncomputable def Hv:D->Bool
 | .lst _=>true
 | _=>false
noncomputable def zo:D->Bool
 | .str _=>true
 | _=>false
noncomputable def M7:D->Bool
 | .bl _=>true
 | _=>false
noncomputable def Hw:D->Bool
 | .int _=>true
 | .bl _=>true
 | _=>false
theorem K4 {K:PySem.W.Frag}(d:D):PySem.W.kitOne K (.type (OE d)) (.type "tuple")=some (Hu d):=by
 cases d with
 | dR=>exact(show jg "NoneType" "tuple" =some false by decide +kernel)
 | bl b=>exact(show jg "bool" "tuple" =some false by decide +kernel)
 | int i=>exact(show jg "int" "tuple" =some false by decide +kernel)
 | str z=>exact(show jg "str" "tuple" =some false by decide +kernel)
 | tup ds=>exact(show jg "tuple" "tuple" =some true by decide +kernel)
 | lst ds=>exact(show jg "list" "tuple" =some false by decide +kernel)
theorem K5 {K:PySem.W.Frag}(d:D):PySem.W.kitOne K (.type (OE d)) (.type "list")=some (Hv d):=by
 cases d with
 | dR=>exact(show jg "NoneType" "list" =some false by decide +kernel)
 | bl b=>exact(show jg "bool" "list" =some false by decide +kernel)
 | int i=>exact(show jg "int" "list" =some false by decide +kernel)
 | str z=>exact(show jg "str" "list" =some false by decide +kernel)
 | tup ds=>exact(show jg "tuple" "list" =some false by decide +kernel)
 | lst ds=>exact(show jg "list" "list" =some true by decide +kernel)
theorem Hx {K:PySem.W.Frag}(d:D):PySem.W.kitOne K (.type (OE d)) (.type "str")=some (zo d):=by
 cases d with
 | dR=>exact(show jg "NoneType" "str" =some false by decide +kernel)
 | bl b=>exact(show jg "bool" "str" =some false by decide +kernel)
 | int i=>exact(show jg "int" "str" =some false by decide +kernel)
 | str z=>exact(show jg "str" "str" =some true by decide +kernel)
 | tup ds=>exact(show jg "tuple" "str" =some false by decide +kernel)
 | lst ds=>exact(show jg "list" "str" =some false by decide +kernel)
theorem OF {K:PySem.W.Frag}(d:D):PySem.W.kitOne K (.type (OE d)) (.type "bool")=some (M7 d):=by
 cases d with
 | dR=>exact(show jg "NoneType" "bool" =some false by decide +kernel)
 | bl b=>exact(show jg "bool" "bool" =some true by decide +kernel)
 | int i=>exact(show jg "int" "bool" =some false by decide +kernel)
 | str z=>exact(show jg "str" "bool" =some false by decide +kernel)
 | tup ds=>exact(show jg "tuple" "bool" =some false by decide +kernel)
 | lst ds=>exact(show jg "list" "bool" =some false by decide +kernel)
theorem K6 {K:PySem.W.Frag}(d:D):PySem.W.kitOne K (.type (OE d)) (.type "int")=some (Hw d):=by
 cases d with
 | dR=>exact(show jg "NoneType" "int" =some false by decide +kernel)
 | bl b=>exact(show jg "bool" "int" =some true by decide +kernel)
 | int i=>exact(show jg "int" "int" =some true by decide +kernel)
 | str z=>exact(show jg "str" "int" =some false by decide +kernel)
 | tup ds=>exact(show jg "tuple" "int" =some false by decide +kernel)
 | lst ds=>exact(show jg "list" "int" =some false by decide +kernel)
end L2
end
section
namespace HT
open PySem PySem.Spec PyProof.Rows
section
variable {prog:Program}{w:World}{A:Around}{E:Value->Shared->Prop}{s:Shared}
theorem EE {t sl:Addr}{items:Array Value}{vl vu:Value}{lo hi:Option Int}{Q:Value->Shared->Prop}(ht:IsTup s.heap t items) (hs:s.heap.IsSliceOf sl vl vu .none) (pl:IsPart vl lo) (pu:IsPart vu hi)
  (hw:ig items.size 0 lo=0/\ig items.size items.size hi=items.size) (h:Q (.ref t) s):wpAny (model prog w) A (getItem (.ref t) (.ref sl)) Q E s:=by
 obtain⟨os,hos,hcs,hds⟩:=id hs
 have WI:s.TypeIs (.ref sl) "slice":=⟨os,hos,hcs⟩
 unfold getItem
 try with_reducible refine wpAny_holding ?_
 first | refine wpAny_bind (wpAny_pure ?_) | skip
 refine wpAny_bind (wpAny_sequenceKey ht.typeIs (by decide) ?_)
 refine wpAny_bind (wpAny_callSpecial?_slot (name:=Str.ofString "__getitem__") ht.typeIs PyProof.Rows.slot_tuple_getitem
  (wpAny_call_entry PyProof.Rows.slot_tuple_getitem ht.typeIs entry_tuple_getitem ?_ (args_tuple_getitem _ _)))
 show wpAny _ _ (Builtin.Tuple.tupleItemsOf (.ref t) >>= _) _ _ s
 refine wpAny_bind (tupleItemsOf_ ht ?_)
 refine wpAny_bind (wpAny_typeOf WI ?_)
 rw[if_pos (by decide)]
 refine wpAny_bind (mL hs pl pu ?_)
 have hyes:(((ig items.size 0 lo:Nat):Int) == 0 && (1:Int) == 1 && (ig items.size items.size hi - ig items.size 0 lo) == items.size)=true:=by
  rw[hw.1,hw.2];simp
 show wpAny _ _ (if(((ig items.size 0 lo:Nat):Int) == 0 && (1:Int) == 1 && (ig items.size items.size hi - ig items.size 0 lo) == items.size)=true then _ else _) _ _ s
 rw[if_pos hyes]
 have hex:∀{α:Type}{k:Bool->Sem α}{Q':α->Shared->Prop}{E':Value->Shared->Prop}{A':Around},wpAny (model prog w) A' (k true) Q' E' s->wpAny (model prog w) A' (Builtin.Tuple.tupleIsExact (.ref t) >>= k) Q' E' s:=fun {α k Q' E' A'} hk=>by
  refine wpAny_bind ?_
  unfold Builtin.Tuple.tupleIsExact
  exact wpAny_bind (wpAny_typeOf ht.typeIs (wpAny_pure hk))
 first
  | (refine hex ?_;exact wpAny_rule (wpAny_pure ⟨_,rfl,wpAny_pure h⟩))
  | (refine hex ?_;refine wpAny_bind (wpAny_rule ?_);exact wpAny_pure ⟨_,rfl,wpAny_pure h⟩)
end
end HT
end
section
namespace L2
open PySem PySem.Spec PyProof.Rows
section
variable {X:Cx}
noncomputable def cutD (ds:List D) (lo hi:Option Int):List D:=(ds.drop (HT.ig ds.length 0 lo)).take (HT.ig ds.length ds.length hi - HT.ig ds.length 0 lo)
theorem bN.gD {H:Hp}{vs:List V}{ds:List D}{i:Int}{d:D}(r:bN H vs ds) (h:L2.gD ds i=some d):∃v,L2.gD vs i=some v/\Rep H v d:=by
 have hl:=r.length
 unfold L2.gD at h ⊢
 rw[hl]
 cases e:Cc ds.length i with
 | none=>rw[e] at h;cases h
 | some j=>
  rw[e] at h
  exact r.get h
end
theorem AF {scope:Scope}{env:Env}{n:Str}{k:NameKind}(h:(relabel scope env).names.lookup n=some k):(n,k)∈(relabel scope env).names:=PySem.mem_of_lookup h
theorem m8 {X:Cx}{x:Str}{scope:Scope}(h1:∀y∈scope.names,y.2≠.free) (h2:∀y∈scope.names,y.2≠.cell) (h3:scope.kind= .function) (h4:∀y∈scope.names,y.2= .local->scope.names.lookup y.1=some .local) (h5:scope.names.lookup x=some .local):
  lU X x [] [] scope []:=by
 refine⟨closureFor_none h1,h2,h3,h4,h5,fun n c h=>(by cases h),fun n h=>?_,by simp,rfl,fun j n h=>(by simp at h),fun n h=>(by simp at h)⟩
 have no:∀k,(k=NameKind.cell\/k=NameKind.free)->(relabel scope X.env).names.lookup n≠some k:=fun k hk e=>by
  have m:=AF e
  unfold relabel at m
  obtain⟨⟨n',k'⟩,hm,q⟩:=List.mem_map.mp m
  have z:(k' == NameKind.free)=false:=by simpa using h1 _ hm
  simp only[z,Bool.false_and,if_false] at q
  have q2:k'=k:=by
   have:=congrArg Prod.snd q
   simpa using this
  rcases hk with rfl | rfl
  ·exact h2 _ hm q2
  ·exact h1 _ hm q2
 rcases h with h | h
 ·exact absurd h (no _ (.inl rfl))
 ·exact absurd h (no _ (.inr rfl))
mutual
noncomputable def Gj (n:Nat):D->Prop
 | .str z=>z.length<=n
 | .tup ds=>ds.length<=n/\Fits n ds
 | .lst ds=>ds.length<=n/\Fits n ds
 | .dR=>True
 | .bl _=>True
 | .int _=>True
noncomputable def Fits (n:Nat):List D->Prop
 | []=>True
 | d :: ds=>Gj n d/\Fits n ds
end
noncomputable def jh (d:D) (l m:Int):Bool:=match d with
 | .int i=>decide (l<=i) && decide (i<=m)
 | _=>false
theorem lookup_some {α : Type} : ∀ {l : List (Str × α)} {n : Str}, n ∈ l.map (·.1) -> ∃ c, l.lookup n = some c
  | [],_,h=>by simp at h
  | (m, c) :: l, n, h => by
    rw[List.lookup_cons]
    cases e:n == m with
    | true=>exact⟨c,rfl⟩
    | false=>
      rcases List.mem_cons.mp h with h | h
      . have h:n=m:=h
        rw[h,beq_self_eq_true] at e
        cases e
      . exact lookup_some h
theorem vals3 {x y z:V}{us:List Value}(r:Vals [x,y,z] us):∃u v w',us=[u,v,w']/\RelV x u/\RelV y v/\RelV z w':=by
 cases r with
 | cons r1 r=>
  obtain⟨v,w',rfl,r2,r3⟩:=vals2 r
  exact⟨_,_,_,rfl,r1,r2,r3⟩
theorem EF {X:Cx}(hc:X.calm=true):jC X (.builtin "min") (fun xs H Q=>∃i j k:Int,xs=[.int i,.int j,.int k]/\Q (.int (if j < i then(if k < j then k else j) else if k < i then k else i)) H):=by
 intro pins s σ H xs us Q I r h
 obtain⟨i,j,k,rfl,q⟩:=h
 obtain⟨u,v,w',rfl,⟨t,rfl⟩,⟨t',rfl⟩,⟨t'',rfl⟩⟩:=vals3 r
 refine min_three_ints (I.ok.hd hc) fun h' tk kk=>⟨_,H,I.kept kk,?_,q⟩
 by_cases h1:j < i
 ·rw[if_pos h1,if_pos h1]
  by_cases h2:k < j
  ·rw[if_pos h2,if_pos h2];exact⟨_,rfl⟩
  ·rw[if_neg h2,if_neg h2];exact⟨_,rfl⟩
 ·rw[if_neg h1,if_neg h1]
  by_cases h2:k < i
  ·rw[if_pos h2,if_pos h2];exact⟨_,rfl⟩
  ·rw[if_neg h2,if_neg h2];exact⟨_,rfl⟩
mutual
noncomputable def toPy:D->PyData
 | .dR=>.none
 | .bl b=>.bool b
 | .int i=>.int i
 | .str z=>.str z
 | .tup ds=>.tuple (Hy ds)
 | .lst ds=>.list (Hy ds)
noncomputable def Hy:List D->List PyData
 | []=>[]
 | d :: ds=>toPy d :: Hy ds
end
section
variable {X:Cx}{pins:List (Addr×Obj)}{σ:St}{H:Hp}{s:Shared}
end
inductive MO where
 | lst (ds:List D)
 | dct (kvs:List (Key×D))
 | cU (kvs:List (D×D))
 | ins (C:Addr) (kvs:List (Str×D))
inductive U where
 | t (d:D) | m (o:MO) | b (o:MO) | v (i:Nat) | s (ns:List Int) | f (a:Addr)
noncomputable abbrev SS:=List (Option U)
noncomputable def Sub (F H:Hp):Prop:=∀a o,F a=some o->H a=some o
noncomputable def iQ {κ:Type}(F:Hp) (p:κ×V) (q:κ×D):Prop:=p.1=q.1/\Rep F p.2 q.2
noncomputable def At (F H:Hp) (a:Addr):MO->Prop
 | .lst ds=>∃vs,H a=some (.lst vs)/\bN F vs ds
 | .dct kvs=>∃ws,H a=some (.dK ws)/\Paired (iQ F) ws kvs
 | .cU kvs=>∃ws,H a=some (.dT ws)/\Paired (iQ F) ws kvs
 | .ins C kvs=>∃ws,(∃dx,H a=some (.ins C dx ws))/\Paired (iQ F) ws kvs
noncomputable def ir:U->Bool
 | .m _=>true
 | .b _=>true
 | _=>false
noncomputable def eY (S:SS) (σ:St) (a:Addr):Prop:=∃(i:Nat) (u:U),S[i]? =some (some u)/\ir u=true/\σ[i]? =some (some (.ref a))
noncomputable def K7 (K:PySem.W.Frag) (H:Hp) (a:Addr) (ns:List Int):Prop:=
 (∃o,H a=some (.lN o (.lst (ns.map V.int))))\/∃(o:Obj) (its:Array Value) (n:Nat),K.lookup a=some o/\o.cls= .type "list"/\o.dict=none/\o.data= .seq its n/\its.size<=sizeLine/\Vals (ns.map V.int) its.toList
theorem K7.sq {K:PySem.W.Frag}{H:Hp}{a:Addr}{ns:List Int}:K7 K H a ns->nT K H a (ns.map V.int)
 | .inl h=>.inl (.inr h)
 | .inr h=>.inr h
noncomputable def zp (K:PySem.W.Frag) (F H:Hp) (v:V):U->Prop
 | .t d=>Rep F v d
 | .m o=>∃a,v= .ref a/\F a=none/\At F H a o
 | .b o=>∃a,v= .ref a/\F a=none/\At F H a o
 | .v _=>False
 | .s ns=>∃a,v= .ref a/\K7 K H a ns
 | .f a=>v= .ref a
structure Ext (M:Addr->Prop) (F H F' H':Hp):Prop where
 le:∀b o,F b=some o->F' b=some o
 keep:∀b o,H b=some o->¬M b->H' b=some o
 kq:∀b o,H b=some o->¬M b->F b=none->F' b=none
 there:∀b o,H b=some o->∃o',H' b=some o'
 lN:∀b o u,H b=some (.lN o u)->H' b=some (.lN o u)
structure Base where
 P:List (Option Addr)
 F:Hp
 H:Hp
noncomputable def Base.M (B:Base) (a:Addr):Prop:=some a∈B.P
structure Rel (K:PySem.W.Frag) (B:Base) (S:SS) (σ:St) (F H:Hp):Prop where
 sub:Sub F H
 len:S.length=σ.length
 rep:∀(i:Nat) u,S[i]? =some (some u)->∃v,σ[i]? =some (some v)/\zp K F H v u
 Dz:∀(i j:Nat) u w a,S[i]? =some (some u)->ir u=true->S[j]? =some (some w)->ir w=true->σ[i]? =some (some (.ref a))->σ[j]? =some (some (.ref a))->i=j
 own:∀(i:Nat) o a,S[i]? =some (some (.m o))->σ[i]? =some (some (.ref a))->B.H a=none
 bor:∀(i:Nat) o a,S[i]? =some (some (.b o))->σ[i]? =some (some (.ref a))->B.M a
 par:∀(i:Nat) a,B.P[i]? =some (some a)->σ[i]? =some (some (.ref a))/\∃o,S[i]? =some (some (.b o))
 ext:Ext B.M B.F B.H F H
structure Step (S S':SS) (σ:St) (F H F' H':Hp):Prop where
 ext:Ext (eY S σ) F H F' H'
 mu:∀a,eY S' σ a->eY S σ a
 slots:∀(i:Nat) u,S[i]? =some (some u)->∃u',S'[i]? =some (some u')
theorem Ext.refl (M:Addr->Prop) (F H:Hp):Ext M F H F H:=⟨fun _ _ h=>h,fun _ _ h _=>h,fun _ _ _ _ h=>h,fun _ o h=>⟨o,h⟩,fun _ _ _ h=>h⟩
theorem Ext.trans {M M':Addr->Prop}{F H F1 H1 F2 H2:Hp}(x:Ext M F H F1 H1) (y:Ext M' F1 H1 F2 H2) (s:∀b,M' b->M b\/H b=none):Ext M F H F2 H2 where
 le:=fun b o h=>y.le b o (x.le b o h)
 keep:=fun b o h n=>y.keep b o (x.keep b o h n) fun q=>(s b q).elim n fun z=>by rw[h] at z;cases z
 kq:=fun b o h n f=>y.kq b o (x.keep b o h n) (fun q=>(s b q).elim n fun z=>by rw[h] at z;cases z) (x.kq b o h n f)
 there:=fun b o h=>let⟨o',h'⟩:=x.there b o h;y.there b o' h'
 lN:=fun b o u h=>y.lN b o u (x.lN b o u h)
theorem Step.refl (S:SS) (σ:St) (F H:Hp):Step S S σ F H F H:=⟨Ext.refl _ _ _,fun _ h=>h,fun _ u h=>⟨u,h⟩⟩
theorem Step.trans {S S1 S2:SS}{σ:St}{F H F1 H1 F2 H2:Hp}(x:Step S S1 σ F H F1 H1) (y:Step S1 S2 σ F1 H1 F2 H2):Step S S2 σ F H F2 H2:=
 ⟨x.ext.trans y.ext fun b q=>.inl (x.mu b q),fun a q=>x.mu a (y.mu a q),fun i u h=>let⟨u',h'⟩:=x.slots i u h;y.slots i u' h'⟩
mutual
theorem Rep.le {F F':Hp}(g:∀b o,F b=some o->F' b=some o):∀{v:V}{d:D},Rep F v d->Rep F' v d
 | _,_,.dR=>.dR
 | _,_,.bl b=>.bl b
 | _,_,.int i=>.int i
 | _,_,.str z=>.str z
 | _,_,.tup e r=>.tup (g _ _ e) (bN.le g r)
 | _,_,.lst e r=>.lst (g _ _ e) (bN.le g r)
theorem bN.le {F F':Hp}(g:∀b o,F b=some o->F' b=some o):∀{vs:List V}{ds:List D},bN F vs ds->bN F' vs ds
 | _,_,.nil=>.nil
 | _,_,.cons r rs=>.cons (Rep.le g r) (bN.le g rs)
end
theorem vE {κ:Type}{F F':Hp}(g:∀b o,F b=some o->F' b=some o){ws:List (κ×V)}{kvs:List (κ×D)}(r:Paired (iQ F) ws kvs):Paired (iQ F') ws kvs:=
 Paired.Ek r fun _ _ z=>⟨z.1,z.2.le g⟩
theorem At.le {F F' H H':Hp}{a:Addr}(g:∀b o,F b=some o->F' b=some o) (k:∀o,H a=some o->H' a=some o):∀{o:MO},At F H a o->At F' H' a o
 | .lst _,⟨vs,e,r⟩=>⟨vs,k _ e,r.le g⟩
 | .dct _,⟨ws,e,r⟩=>⟨ws,k _ e,vE g r⟩
 | .cU _,⟨ws,e,r⟩=>⟨ws,k _ e,vE g r⟩
 | .ins _ _,⟨ws,⟨dx,e⟩,r⟩=>⟨ws,⟨dx,k _ e⟩,vE g r⟩
theorem At.has {F H:Hp}{a:Addr}:∀{o:MO},At F H a o->∃u,H a=some u
 | .lst _,⟨_,e,_⟩=>⟨_,e⟩
 | .dct _,⟨_,e,_⟩=>⟨_,e⟩
 | .cU _,⟨_,e,_⟩=>⟨_,e⟩
 | .ins _ _,⟨_,⟨_,e⟩,_⟩=>⟨_,e⟩
noncomputable def kr (K:PySem.W.Frag) (B:Base) (S:SS) (σ:St) (H0 F H:Hp) (v:V):U->Prop
 | .t d=>Rep F v d
 | .m o=>∃a,v= .ref a/\H0 a=none/\F a=none/\At F H a o/\¬eY S σ a/\B.H a=none
 | .v i=>σ[i]? =some (some v)/\∃u,S[i]? =some (some u)
 | .b _=>False
 | .s ns=>∃a,v= .ref a/\K7 K H a ns
 | .f a=>v= .ref a
theorem PE.imp {X:Cx}{e:Expr}{t t':TE}(h:PE X e t) (k:∀σ H Q,t' σ H Q->t σ H Q):PE X e t':=fun pins s σ H Q I q=>h pins s σ H Q I (k σ H Q q)
theorem PT.imp {X:Cx}{e:Expr}{t t':TT}(h:PT X e t) (k:∀σ H Q,t' σ H Q->t σ H Q):PT X e t':=fun pins s σ H Q I q=>h pins s σ H Q I (k σ H Q q)
theorem PW.imp {X:Cx}{e:Expr}{t t':TT}(h:PW X e t) (k:∀σ H Q,t' σ H Q->t σ H Q):PW X e t':=fun w pins s σ H Q I q=>h w pins s σ H Q I (k σ H Q q)
theorem PA.imp {X:Cx}{e:List Expr}{t t':TA}(h:PA X e t) (k:∀σ H Q,t' σ H Q->t σ H Q):PA X e t':=fun p pins s σ H Q I q=>h p pins s σ H Q I (k σ H Q q)
theorem PS.imp {X:Cx}{e:Stmt}{t t':TS}(h:PS X e t) (k:∀D σ H,t' D σ H->t D σ H):PS X e t':=fun pins s σ H Q I q=>h pins s σ H Q I (k Q σ H q)
theorem B3.imp {X:Cx}{e:List Stmt}{t t':TS}(h:B3 X e t) (k:∀D σ H,t' D σ H->t D σ H):B3 X e t':=fun pins s σ H Q I q=>h pins s σ H Q I (k Q σ H q)
theorem PE.orelse {X:Cx}{e:Expr}{t:TE}(h:∀σ H Q,t σ H Q->∃t',PE X e t'/\t' σ H Q):PE X e t:=fun pins s σ H Q I q=>let⟨_,h1,h2⟩:=h σ H Q q;h1 pins s σ H Q I h2
theorem PS.orelse {X:Cx}{e:Stmt}{t:TS}(h:∀D σ H,t D σ H->∃t',PS X e t'/\t' D σ H):PS X e t:=fun pins s σ H Q I q=>let⟨_,h1,h2⟩:=h Q σ H q;h1 pins s σ H Q I h2
noncomputable abbrev GE:=SS->Option (U×SS)
noncomputable abbrev GD:=SS->Option (D×SS)
noncomputable abbrev GT:=SS->Option (Bool×SS)
noncomputable abbrev GA:=SS->Option (List D×SS)
inductive Out where
 | nx (S:SS) | rt (u:U) (S:SS) | bk (S:SS) | ct (S:SS)
noncomputable abbrev GS:=SS->Option Out
noncomputable def tE (K:PySem.W.Frag) (B:Base) (g:GE):TE:=fun σ H Q=>∃S F u S',Rel K B S σ F H/\g S=some (u,S')/\∀v F' H',Rel K B S' σ F' H'->Step S S' σ F H F' H'->kr K B S' σ H F' H' v u->Q v H'
noncomputable def tD (K:PySem.W.Frag) (B:Base) (g:GD):TE:=fun σ H Q=>∃S F d S',Rel K B S σ F H/\g S=some (d,S')/\∀v F' H',Rel K B S' σ F' H'->Step S S' σ F H F' H'->Rep F' v d->Q v H'
noncomputable def tQ (K:PySem.W.Frag) (B:Base) (g:GT):TT:=fun σ H Q=>∃S F b S',Rel K B S σ F H/\g S=some (b,S')/\∀F' H',Rel K B S' σ F' H'->Step S S' σ F H F' H'->Q b H'
noncomputable def tAs (K:PySem.W.Frag) (B:Base) (g:GA):TA:=fun σ H Q=>∃S F ds S',Rel K B S σ F H/\g S=some (ds,S')/\∀vs F' H',Rel K B S' σ F' H'->Step S S' σ F H F' H'->bN F' vs ds->Q vs H'
noncomputable def DA (K:PySem.W.Frag) (B:Base) (F:Hp) (D:Ends):Out->Prop
 | .nx S=>∀σ' F' H',Rel K B S σ' F' H'->(∀b o,F b=some o->F' b=some o)->D.nx σ' H'
 | .bk S=>∀σ' F' H',Rel K B S σ' F' H'->(∀b o,F b=some o->F' b=some o)->D.bk σ' H'
 | .ct S=>∀σ' F' H',Rel K B S σ' F' H'->(∀b o,F b=some o->F' b=some o)->D.ct σ' H'
 | .rt u S=>∀v σ' F' H',Rel K B S σ' F' H'->(∀b o,F b=some o->F' b=some o)->kr K B S σ' B.H F' H' v u->D.rt v H'
noncomputable def tO (K:PySem.W.Frag) (B:Base) (g:GS):TS:=fun D σ H=>∃S F o,Rel K B S σ F H/\g S=some o/\DA K B F D o
structure JE (X:Cx) (e:Expr) (g:GE):Prop where
 h:∀B,PE X e (tE X.K B g)
structure JD (X:Cx) (e:Expr) (g:GD):Prop where
 h:∀B,PE X e (tD X.K B g)
structure JT (X:Cx) (e:Expr) (g:GT):Prop where
 h:∀B,PT X e (tQ X.K B g)
structure JW (X:Cx) (e:Expr) (g:GT):Prop where
 h:∀B,PW X e (tQ X.K B g)
structure JA (X:Cx) (es:List Expr) (g:GA):Prop where
 h:∀B,PA X es (tAs X.K B g)
structure JS (X:Cx) (st:Stmt) (g:GS):Prop where
 h:∀B,PS X st (tO X.K B g)
structure JB (X:Cx) (st:List Stmt) (g:GS):Prop where
 h:∀B,B3 X st (tO X.K B g)
noncomputable def fz:U->SS->Option (D×SS)
 | .t d,S=>some (d,S)
 | .m (.lst ds),S=>some (.lst ds,S)
 | .v i,S=>match S[i]? with
  | some (some (.t d))=>some (d,S)
  | some (some (.m (.lst ds)))=>some (.lst ds,S.set i (some (.t (.lst ds))))
  | _=>none
 | _,_=>none
theorem get_set {α:Type}{l:List α}{i j:Nat}{x y:α}(h:(l.set i x)[j]? =some y):(i=j/\x=y/\i < l.length)\/(i≠j/\l[j]? =some y):=by
 by_cases e:i=j
 ·subst e
  by_cases hl:i < l.length
  ·rw[List.getElem?_set_self hl] at h;exact .inl ⟨rfl,Option.some.inj h,hl⟩
  ·rw[List.getElem?_eq_none (by simpa using hl)] at h;cases h
 ·rw[List.getElem?_set_ne e] at h;exact .inr ⟨e,h⟩
theorem Sub.lN {F H:Hp}{a:Addr}{o:HO}(s:Sub F H) (h:H a=some o):Sub (upd F a o) H:=fun b u e=>by
 by_cases hb:b=a
 ·subst hb;rw[bx] at e;cases e;exact h
 ·rw[aY hb] at e;exact s b u e
theorem Sub.fresh {F H:Hp}{p:Addr}(s:Sub F H) (h:H p=Option.none):F p=Option.none:=by
 cases e:F p with
 | none=>rfl
 | some o=>have q:=s p o e;rw[h] at q;cases q
theorem mD {F:Hp}{a:Addr}{o:HO}(h:F a=none):∀b u,F b=some u->upd F a o b=some u:=fun b u e=>by rw[aY (bK e h)];exact e
theorem K7.le {K:PySem.W.Frag}{H H':Hp}{a:Addr}{ns:List Int}(k:∀b o u,H b=some (.lN o u)->H' b=some (.lN o u)):K7 K H a ns->K7 K H' a ns
 | .inl ⟨o,h⟩=>.inl ⟨o,k _ _ _ h⟩
 | .inr h=>.inr h
theorem zp.le {K:PySem.W.Frag}{F F' H H':Hp}{v:V}(g:∀b o,F b=some o->F' b=some o) (kf:∀b o u,H b=some (.lN o u)->H' b=some (.lN o u)):∀{u:U},zp K F H v u->(∀a,ir u=true->v= .ref a->(∀o,H a=some o->H' a=some o)/\F' a=none)->zp K F' H' v u
 | .t _,h,_=>Rep.le g h
 | .m _,⟨a,e,_,h⟩,k=>let⟨k1,k2⟩:=k a rfl e;⟨a,e,k2,h.le g k1⟩
 | .b _,⟨a,e,_,h⟩,k=>let⟨k1,k2⟩:=k a rfl e;⟨a,e,k2,h.le g k1⟩
 | .v _,h,_=>h
 | .s _,⟨a,e,h⟩,_=>⟨a,e,h.le kf⟩
 | .f _,h,_=>h
theorem Hz {K : PySem.W.Frag} {B : Base} {S S' : SS} {σ : St} {H0 F0 F H : Hp} {v : V} {u : U} {d : D} {S0 : SS} (R : Rel K B S σ F H) (st : Step S0 S σ F0 H0 F H) (r : kr K B S σ H0 F H v u) (e : fz u S = some (d, S')) :
    ∃F',Rel K B S' σ F' H/\Step S0 S' σ F0 H0 F' H/\Rep F' v d:=by
  cases u with
  | t d'=>cases e;exact⟨F,R,st,r⟩
  | b o=>cases r
  | s o=>cases e
  | f o=>cases e
  | m o =>
    cases o with
    | dct kvs=>cases e
    | cU kvs=>cases e
    | ins C kvs=>cases e
    | lst ds=>
      cases e
      obtain⟨a,rfl,h0,hf,⟨vs,ha,rs⟩,nm,hB⟩:=r
      have g:=mD (o:=.lst vs) hf
      refine⟨upd F a (.lst vs),⟨R.sub.lN ha,R.len,fun i u h=>?_,R.Dz,R.own,R.bor,R.par,?_⟩,⟨⟨fun b o h=>g b o (st.ext.le b o h),st.ext.keep,fun b o h n f=>?_,st.ext.there,st.ext.lN⟩,st.mu,st.slots⟩,.lst bx (rs.le g)⟩
      . obtain⟨w,h1,h2⟩:=R.rep i u h
        refine⟨w,h1,h2.le g (fun _ _ _ z=>z) fun c hm hc=>⟨fun o q=>q,?_⟩⟩
        have hca:c≠a:=fun z=>nm ⟨i,u,h,hm,by rw[h1,hc,z]⟩
        rw[aY hca]
        cases u with
        | m o=>obtain⟨c',e',f',_⟩:=h2;rw[hc] at e';cases e';exact f'
        | b o=>obtain⟨c',e',f',_⟩:=h2;rw[hc] at e';cases e';exact f'
        | t d=>cases hm
        | v j=>cases hm
        | s j=>cases hm
        | f j=>cases hm
      . exact⟨fun b o h=>g b o (R.ext.le b o h),R.ext.keep,fun b o h n f=>by rw[aY (fun z=>by rw[z,hB] at h;cases h)];exact R.ext.kq b o h n f,R.ext.there,R.ext.lN⟩
      . rw[aY (fun z=>by rw[z,h0] at h;cases h)]
        exact st.ext.kq b o h n f
  | v i =>
    obtain⟨hv,u,hu⟩:=r
    unfold fz at e
    simp only[hu] at e
    cases u with
    | t d'=>
      cases e
      obtain⟨w,h1,h2⟩:=R.rep i _ hu
      rw[hv] at h1
      cases h1
      exact⟨F,R,st,h2⟩
    | b o=>cases e
    | v j=>cases e
    | s j=>cases e
    | f j=>cases e
    | m o =>
      cases o with
      | dct kvs=>cases e
      | cU kvs=>cases e
      | ins C kvs=>cases e
      | lst ds =>
        cases e
        obtain⟨w,h1,a,rfl,hf,⟨vs,ha,rs⟩⟩:=R.rep i _ hu
        have hiv:σ[i]? =some (some (.ref a)):=h1
        rw[hv] at h1
        cases h1
        have hB:=R.own i _ a hu hiv
        have g:=mD (o:=.lst vs) hf
        have back:∀j w,(S.set i (some (.t (.lst ds))))[j]? =some (some w)->ir w=true->i≠j/\S[j]? =some (some w):=fun j w h hm=>by
          rcases get_set h with⟨_,q,_⟩ | q
          . cases q;cases hm
          . exact q
        have mu:∀c,eY (S.set i (some (.t (.lst ds)))) σ c->eY S σ c:=fun c ⟨j,w,h,hm,z⟩=>⟨j,w,(back j w h hm).2,hm,z⟩
        refine⟨upd F a (.lst vs),⟨R.sub.lN ha,by rw[List.length_set];exact R.len,fun j u h=>?_,fun j k u w c h1 m1 h2 m2=>R.Dz j k u w c (back j u h1 m1).2 m1 (back k w h2 m2).2 m2,fun j o c h=>R.own j o c (back j _ h rfl).2,fun j o c h=>R.bor j o c (back j _ h rfl).2,fun j c h=>?_,?_⟩,
          ⟨⟨fun b o h=>g b o (st.ext.le b o h),st.ext.keep,fun b o h n f=>?_,st.ext.there,st.ext.lN⟩,fun c q=>st.mu c (mu c q),fun j u h=>?_⟩,.lst bx (rs.le g)⟩
        . rcases get_set h with⟨rfl,q,_⟩ | ⟨ne,q⟩
          . cases q
            exact⟨.ref a,hiv,.lst bx (rs.le g)⟩
          . obtain⟨w,h1,h2⟩:=R.rep j u q
            refine⟨w,h1,h2.le g (fun _ _ _ z=>z) fun c hm hc=>⟨fun o q=>q,?_⟩⟩
            have hca:c≠a:=fun z=>ne (R.Dz i j _ u a hu rfl q hm hiv (by rw[h1,hc,z]))
            rw[aY hca]
            cases u with
            | m o=>obtain⟨c',e',f',_⟩:=h2;rw[hc] at e';cases e';exact f'
            | b o=>obtain⟨c',e',f',_⟩:=h2;rw[hc] at e';cases e';exact f'
            | t d=>cases hm
            | v j=>cases hm
            | s j=>cases hm
            | f j=>cases hm
        . obtain⟨h1,o,h2⟩:=R.par j c h
          refine⟨h1,o,?_⟩
          have ne:i≠j:=fun z=>by subst z;rw[hu] at h2;cases h2
          rw[List.getElem?_set_ne ne]
          exact h2
        . exact⟨fun b o h=>g b o (R.ext.le b o h),R.ext.keep,fun b o h n f=>by rw[aY (fun z=>by rw[z,hB] at h;cases h)];exact R.ext.kq b o h n f,R.ext.there,R.ext.lN⟩
        . have hb:b≠a:=fun z=>n (st.mu b ⟨i,_,hu,rfl,by rw[z];exact hiv⟩)
          rw[aY hb]
          exact st.ext.kq b o h n f
        . obtain⟨u',h'⟩:=st.slots j u h
          by_cases hj:i=j
          . subst hj
            exact⟨.t (.lst ds),List.getElem?_set_self (List.getElem?_eq_some_iff.mp h').1⟩
          . exact⟨u',by rw[List.getElem?_set_ne hj];exact h'⟩
noncomputable def eF (g:GE):GD:=fun S=>(g S).bind fun p=>fz p.1 p.2
theorem JE.d {X:Cx}{e:Expr}{g:GE}(h:JE X e g):JD X e (eF g):=⟨fun B=>(h.h B).imp fun σ H Q ⟨S,F,d,S',R,hg,q⟩=>by
 unfold eF at hg
 cases e1:g S with
 | none=>rw[e1] at hg;cases hg
 | some p=>
  obtain⟨u,S1⟩:=p
  rw[e1] at hg
  refine⟨S,F,u,S1,R,e1,fun v F1 H1 R1 st1 r1=>?_⟩
  obtain⟨F2,R2,st2,r2⟩:=Hz R1 st1 r1 hg
  exact q v F2 H1 R2 st2 r2⟩
noncomputable def eT (g:GD):GE:=fun S=>(g S).map fun p=>(.t p.1,p.2)
theorem JD.e {X:Cx}{e:Expr}{g:GD}(h:JD X e g):JE X e (eT g):=⟨fun B=>(h.h B).imp fun σ H Q ⟨S,F,u,S',R,hg,q⟩=>by
 unfold eT at hg
 cases e1:g S with
 | none=>rw[e1] at hg;cases hg
 | some p=>
  obtain⟨d,S1⟩:=p
  rw[e1] at hg
  cases hg
  exact⟨S,F,d,S1,R,e1,fun v F1 H1 R1 st1 r1=>q v F1 H1 R1 st1 r1⟩⟩
structure iU (F H F' H':Hp):Prop where
 le:∀b o,F b=some o->F' b=some o
 same:∀b o,H b=some o->H' b=some o
 kq:∀b o,H b=some o->F b=none->F' b=none
theorem iU.refl (F H:Hp):iU F H F H:=⟨fun _ _ h=>h,fun _ _ h=>h,fun _ _ _ h=>h⟩
theorem iU.step {S:SS}{σ:St}{F H F' H':Hp}(n:iU F H F' H'):Step S S σ F H F' H':=
 ⟨⟨n.le,fun b o h _=>n.same b o h,fun b o h _ f=>n.kq b o h f,fun b o h=>⟨o,n.same b o h⟩,fun b o u h=>n.same b _ h⟩,fun _ h=>h,fun _ u h=>⟨u,h⟩⟩
theorem iU.obj {F H:Hp}{p:Addr}(h:H p=none) (o:HO):iU F H F (upd H p o):=
 ⟨fun _ _ q=>q,fun b u q=>by rw[aY (bK q h)];exact q,fun _ _ _ q=>q⟩
theorem Sub.same {F H H':Hp}(s:Sub F H) (k:∀b o,H b=some o->H' b=some o):Sub F H':=fun a o e=>k a o (s a o e)
theorem Sub.sN {F H:Hp}{p:Addr}{o:HO}(s:Sub F H) (h:H p=none):Sub (upd F p o) (upd H p o):=fun b u e=>by
 by_cases hb:b=p
 ·subst hb;rw[bx] at e;cases e;exact bx
 ·rw[aY hb] at e;have q:=s b u e;rw[aY (bK q h)];exact q
theorem iU.root {F H:Hp}{p:Addr}(s:Sub F H) (h:H p=none) (o:HO):iU F H (upd F p o) (upd H p o):=
 ⟨mD (s.fresh h),fun b u q=>by rw[aY (bK q h)];exact q,fun b u q f=>by rw[aY (bK q h)];exact f⟩
theorem Rel.has {K:PySem.W.Frag}{B:Base}{S:SS}{σ:St}{F H:Hp}(R:Rel K B S σ F H){a:Addr}(m:eY S σ a):∃o,H a=some o:=by
 obtain⟨i,u,h,hm,hv⟩:=m
 obtain⟨v,h1,h2⟩:=R.rep i u h
 rw[hv] at h1
 cases h1
 cases u with
 | t d=>cases hm
 | v j=>cases hm
 | s j=>cases hm
 | f j=>cases hm
 | m o=>obtain⟨b,e,_,h⟩:=h2;cases e;exact h.has
 | b o=>obtain⟨b,e,_,h⟩:=h2;cases e;exact h.has
theorem Rel.new {K:PySem.W.Frag}{B:Base}{S:SS}{σ:St}{F H F' H':Hp}(R:Rel K B S σ F H) (n:iU F H F' H') (s:Sub F' H'):Rel K B S σ F' H' where
 sub:=s
 len:=R.len
 rep:=fun i u h=>by
  obtain⟨v,h1,h2⟩:=R.rep i u h
  refine⟨v,h1,h2.le n.le (fun b o u z=>n.same b _ z) fun a hm ha=>⟨fun o q=>n.same a o q,?_⟩⟩
  obtain⟨o,ho⟩:=R.has ⟨i,u,h,hm,by rw[h1,ha]⟩
  refine n.kq a o ho ?_
  cases u with
  | t d=>cases hm
  | v j=>cases hm
  | s j=>cases hm
  | f j=>cases hm
  | m o=>obtain⟨b,e,f,_⟩:=h2;rw[ha] at e;cases e;exact f
  | b o=>obtain⟨b,e,f,_⟩:=h2;rw[ha] at e;cases e;exact f
 Dz:=R.Dz
 own:=R.own
 bor:=R.bor
 par:=R.par
 ext:=⟨fun b o h=>n.le b o (R.ext.le b o h),fun b o h m=>n.same b o (R.ext.keep b o h m),fun b o h m f=>n.kq b o (R.ext.keep b o h m) (R.ext.kq b o h m f),fun b o h=>let⟨o',h'⟩:=R.ext.there b o h;⟨o',n.same b o' h'⟩,fun b o u h=>n.same b _ (R.ext.lN b o u h)⟩
noncomputable def Cj (H0 F H:Hp) (v:V):U->Prop
 | .t d=>Rep F v d
 | .m o=>∃a,v= .ref a/\H0 a=none/\F a=none/\At F H a o
 | _=>False
theorem none_of {H H':Hp}{a:Addr}(t:∀b o,H b=some o->∃o',H' b=some o') (h:H' a=none):H a=none:=by
 cases e:H a with
 | none=>rfl
 | some o=>obtain⟨o',h'⟩:=t a o e;rw[h] at h';cases h'
theorem Cj.HA {K:PySem.W.Frag}{B:Base}{S S0:SS}{σ:St}{H0 F0 F1 H1 F H:Hp}{v:V}{u:U}(R:Rel K B S σ F1 H1) (st:Step S0 S σ F0 H0 F1 H1) (r:Cj H1 F H v u):kr K B S σ H0 F H v u:=by
 cases u with
 | t d=>exact r
 | b o=>cases r
 | v i=>cases r
 | s i=>cases r
 | f i=>cases r
 | m o=>
  obtain⟨a,e,h0,f,h⟩:=r
  refine⟨a,e,none_of st.ext.there h0,f,h,fun m=>?_,none_of R.ext.there h0⟩
  obtain⟨o,ho⟩:=R.has m
  rw[h0] at ho
  cases ho
noncomputable def rP (f:List D->Option U):List V->Hp->VK->Prop:=fun xs H Q=>∃F ds u,Sub F H/\bN F xs ds/\f ds=some u/\∀v F' H',iU F H F' H'->Sub F' H'->Cj H F' H' v u->Q v H'
noncomputable def yf:D->Bool
 | .tup _=>false
 | .lst _=>false
 | _=>true
noncomputable def toV:D->V
 | .bl b=>.bl b
 | .int i=>.int i
 | .str z=>.str z
 | _=>.dR
theorem AG {F:Hp}:∀{d:D},yf d=true->Rep F (toV d) d
 | .dR,_=>.dR
 | .bl b,_=>.bl b
 | .int i,_=>.int i
 | .str z,_=>.str z
 | .tup _,h=>by cases h
 | .lst _,h=>by cases h
noncomputable def aj (i:Nat):GE:=fun S=>match S[i]? with
 | some (some (.t d))=>some (.t d,S)
 | some (some (.s d))=>some (.s d,S) | some (some (.f d))=>some (.f d,S)
 | some (some _)=>some (.v i,S)
 | _=>none
noncomputable def eC (d:D):GD:=fun S=>some (d,S)
noncomputable def aA:GA:=fun S=>some ([],S)
noncomputable def aa (g:GD) (ga:GA):GA:=fun S=>(g S).bind fun p=>(ga p.2).map fun q=>(p.1 :: q.1,q.2)
noncomputable def eP (f:List D->Option U) (ga:GA):GE:=fun S=>(ga S).bind fun p=>(f p.1).map fun u=>(u,p.2)
section
variable {X:Cx}{a b c e:Expr}{es:List Expr}{pos p p2:Pos}{x:Str}{g ga gb gc:GD}{gA:GA}{f f':List D->Option U}
theorem ah (i:Nat) (hN:X.N[i]? =some x:=by rfl) (hv:Gw X.env.scope x:=by first | exact Or.inl rfl | exact Or.inr (Or.inl rfl) | exact Or.inr (Or.inr rfl)) (hd:(x == ("__debug__":Str))=false:=by decide)
  (hcd:(x == ("__classdict__":Str))=false:=by decide):JE X (.Name x pos) (aj i):=⟨fun B=>(jF hN hv hd hcd).imp fun σ H Q ⟨S,F,u,S',R,hg,q⟩=>by
 unfold aj at hg
 cases hs:S[i]? with
 | none=>rw[hs] at hg;cases hg
 | some o=>
  cases o with
  | none=>rw[hs] at hg;cases hg
  | some w=>
   rw[hs] at hg
   obtain⟨v,h1,h2⟩:=R.rep i w hs
   refine⟨v,h1,?_⟩
   cases w with
   | t d=>cases hg;exact q v F H R (Step.refl ..) h2
   | m o=>cases hg;exact q v F H R (Step.refl ..) ⟨h1,_,hs⟩
   | b o=>cases hg;exact q v F H R (Step.refl ..) ⟨h1,_,hs⟩
   | s j=>cases hg;exact q v F H R (Step.refl ..) h2
   | f j=>cases hg;exact q v F H R (Step.refl ..) h2
   | v j=>cases hg;exact q v F H R (Step.refl ..) ⟨h1,_,hs⟩⟩
theorem K8 {d:D}(hf:yf d=true) (h:PE X e (tC (toV d))):JD X e (eC d):=⟨fun B=>h.imp fun σ H Q ⟨S,F,u,S',R,hg,q⟩=>by
 cases hg
 exact q _ F H R (Step.refl ..) (AG hf)⟩
theorem aB {i j}:JD X (.Constant (.int i) j pos) (eC (.int i)):=K8 rfl NQ
theorem iu {i j}:JD X (.Constant (.bool i) j pos) (eC (.bl i)):=K8 rfl Ru
theorem OG {j}:JD X (.Constant .none j pos) (eC .dR):=K8 rfl NR
theorem aQ {i j}:JD X (.Constant (.str i) j pos) (eC (.str i)):=K8 rfl Gx
theorem aV:JA X [] aA:=⟨fun B=>y9.imp fun σ H Q ⟨S,F,u,S',R,hg,q⟩=>by
 cases hg
 exact q [] F H R (Step.refl ..) .nil⟩
theorem aq {α β:Type}{o:Option α}{f:α->Option β}{y:β}(h:o.bind f=some y):∃z,o=some z/\f z=some y:=by
 cases o with
 | none=>cases h
 | some z=>exact⟨z,rfl,h⟩
theorem aH {α β:Type}{o:Option α}{f:α->β}{y:β}(h:o.map f=some y):∃z,o=some z/\f z=y:=by
 cases o with
 | none=>cases h
 | some z=>exact⟨z,rfl,Option.some.inj h⟩
theorem ao (h:JD X e g) (hr:JA X es gA) (hs:starEach (e :: es) X.env=(false,eval e X.env) :: starEach es X.env:=by rfl):JA X (e :: es) (aa g gA):=
 ⟨fun B=>(pP (h.h B) (hr.h B) hs).imp fun σ H Q ⟨S,F,u,S',R,hg,q⟩=>by
 obtain⟨⟨d,S1⟩,h1,hg⟩:=aq hg
 obtain⟨⟨ds,S2⟩,h2,hg⟩:=aH hg
 cases hg
 exact⟨S,F,d,S1,R,h1,fun v F1 H1 R1 st1 r1=>⟨S1,F1,ds,S2,R1,h2,fun vs F2 H2 R2 st2 r2=>q _ F2 H2 R2 (st1.trans st2) (.cons (r1.le st2.ext.le) r2)⟩⟩⟩
theorem jG {K:PySem.W.Frag}{B:Base}{σ:St}{H:Hp}{Q:VK}{r:List V->Hp->VK->Prop}(hr:∀vs H1 Q1,rP f vs H1 Q1->r vs H1 Q1) (h:tE K B (eP f gA) σ H Q):tAs K B gA σ H fun vs H1=>r vs H1 Q:=by
 obtain⟨S,F,u,S',R,hg,q⟩:=h
 obtain⟨⟨ds,S1⟩,h1,hg⟩:=aq hg
 obtain⟨u',h2,hg⟩:=aH hg
 cases hg
 exact⟨S,F,ds,S1,R,h1,fun vs F1 H1 R1 st1 r1=>hr _ _ _ ⟨F1,ds,_,R1.sub,r1,h2,fun v F2 H2 n s2 r2=>q v F2 H2 (R1.new n s2) (st1.trans n.step) (r2.HA R1 st1)⟩⟩
theorem rB {id:String}(hc:jC X (.builtin id) (rP f)) (hg:Gl X x) (hm:X.mg x=none) (hv:bootBuiltins x=some (.builtin id)) (ha:JA X (e :: es) gA) (hn:x≠"__name__":=by decide) (hdb:(x == ("__debug__":Str))=false:=by decide)
  (he:starEach (e :: es) X.env=(false,eval e X.env) :: starEach es X.env:=by rfl) (hpl:(backTo pos (starEach es X.env)).any (·.1)=false:=by rfl):JE X (.Call (.Name x p) (e :: es) [] pos) (eP f gA):=
 ⟨fun B=>(nW hc hg hm hv (ha.h B) hn hdb he hpl).imp fun σ H Q h=>jG (fun _ _ _ z=>z) h⟩
theorem yg {T:String}(hc:jC X (.type T) (rP f)) (hg:Gl X x) (hm:X.mg x=none) (hv:bootBuiltins x=some (.type T)) (ha:JA X (e :: es) gA) (hn:x≠"__name__":=by decide) (hdb:(x == ("__debug__":Str))=false:=by decide)
  (he:starEach (e :: es) X.env=(false,eval e X.env) :: starEach es X.env:=by rfl) (hpl:(backTo pos (starEach es X.env)).any (·.1)=false:=by rfl):JE X (.Call (.Name x p) (e :: es) [] pos) (eP f gA):=
 ⟨fun B=>(Ew hc hg hm hv (ha.h B) hn hdb he hpl).imp fun σ H Q h=>jG (fun _ _ _ z=>z) h⟩
noncomputable abbrev AH (X:Cx) (o:Value->Value->Sem Value) (f:List D->Option U):Prop:=yZ X o (fun x y H Q=>rP f [x,y] H Q)
theorem rC {K:PySem.W.Frag}{B:Base}{σ:St}{H:Hp}{Q:VK}(h:tE K B (eP f (aa ga (aa gb aA))) σ H Q):QL (fun x y H Q=>rP f [x,y] H Q) (tD K B ga) (tD K B gb) σ H Q:=by
 obtain⟨S,F,u,S',R,hg,q⟩:=h
 obtain⟨⟨ds,S1⟩,h1,hg⟩:=aq hg
 obtain⟨u',h2,hg⟩:=aH hg
 cases hg
 obtain⟨⟨d1,T1⟩,k1,h1⟩:=aq h1
 obtain⟨⟨ds2,T2⟩,k2,h1⟩:=aH h1
 cases h1
 obtain⟨⟨d2,T3⟩,k3,k2⟩:=aq k2
 obtain⟨⟨ds3,T4⟩,k4,k2⟩:=aH k2
 cases k2
 cases k4
 exact⟨S,F,d1,T1,R,k1,fun v1 F1 H1 R1 st1 r1=>⟨T1,F1,d2,_,R1,k3,fun v2 F2 H2 R2 st2 r2=>⟨F2,_,_,R2.sub,.cons (r1.le st2.ext.le) (.cons r2 .nil),h2,fun v F3 H3 n s3 r3=>q v F3 H3 (R2.new n s3) ((st1.trans st2).trans n.step) (r3.HA R2 (st1.trans st2))⟩⟩⟩
theorem bJ {op:Operator}(ho:AH X (binaryOp op) f) (ha:JD X a ga) (hb:JD X b gb):JE X (.BinOp a op b pos) (eP f (aa ga (aa gb aA))):=
 ⟨fun B=>(RM ho (ha.h B) (hb.h B)).imp fun σ H Q h=>rC h⟩
theorem iV {op:CmpOp}(ho:AH X (compareOp op) f) (ha:JD X a ga) (hb:JD X b gb) (hm:behindInMarks op b=false:=by first | exact GO _ | rfl):JE X (.Compare a [op] [b] pos) (eP f (aa ga (aa gb aA))):=
 ⟨fun B=>(KD ho (ha.h B) (hb.h B) hm).imp fun σ H Q h=>rC h⟩
theorem uo {op:UnaryOp}(ho:RL X (unaryOp op) (fun x H Q=>rP f [x] H Q)) (ha:JD X a ga):JE X (.UnaryOp op a pos) (eP f (aa ga aA)):=
 ⟨fun B=>(RN ho (ha.h B)).imp fun σ H Q h=>by
 obtain⟨S,F,u,S',R,hg,q⟩:=h
 obtain⟨⟨ds,S1⟩,h1,hg⟩:=aq hg
 obtain⟨u',h2,hg⟩:=aH hg
 cases hg
 obtain⟨⟨d1,T1⟩,k1,h1⟩:=aq h1
 obtain⟨⟨ds2,T2⟩,k2,h1⟩:=aH h1
 cases h1
 cases k2
 exact⟨S,F,d1,_,R,k1,fun v1 F1 H1 R1 st1 r1=>⟨F1,_,_,R1.sub,.cons r1 .nil,h2,fun v F3 H3 n s3 r3=>q v F3 H3 (R1.new n s3) (st1.trans n.step) (r3.HA R1 st1)⟩⟩⟩
theorem kh (hr:G1 X (fun x y H Q=>rP f [x,y] H Q)) (ha:JD X a ga) (hb:JD X b gb) (hs:zf b):JE X (.Subscript a b pos) (eP f (aa ga (aa gb aA))):=
 ⟨fun B=>(G2 hr (ha.h B) (hb.h B) hs).imp fun σ H Q h=>rC h⟩
noncomputable def cy:List D->Option U:=fun ds=>if ds.length<=100000 then some (.t (.tup ds)) else none
noncomputable def ji:List D->Option U:=fun ds=>if ds.length<=100000 then some (.m (.lst ds)) else none
theorem ku {n:Nat}(h:n<=100000):n<=sizeLine:=Nat.le_trans h (by decide)
end
section
variable {X:Cx}{a b c e:Expr}{es:List Expr}{pos p p2:Pos}{x:Str}{g ga gb gc:GD}{gA:GA}{f f':List D->Option U}
theorem bM {x1}(h:JA X es gA):JE X (.Tuple es x1 pos) (eP cy gA):=
 ⟨fun B=>(Od (h.h B)).imp fun σ H Q z=>jG (r:=fun xs H1 Q=>xs.length<=sizeLine/\∀p,H1 p=none->Q (.ref p) (upd H1 p (.tup xs))) (fun vs H1 Q1 ⟨F,ds,u,sb,rs,hf,q⟩=>by
 unfold cy at hf
 split at hf
 ·rename_i hl
  cases hf
  refine⟨by rw[rs.length];exact ku hl,fun p hp=>?_⟩
  exact q _ _ _ (iU.root sb hp _) (sb.sN hp) (.tup bx (rs.le (mD (sb.fresh hp))))
 ·cases hf) z⟩
theorem gG (h:JA X es gA):JE X (.List es pos) (eP ji gA):=
 ⟨fun B=>(Oe (h.h B)).imp fun σ H Q z=>jG (r:=fun xs H1 Q=>xs.length<=sizeLine/\∀p,H1 p=none->Q (.ref p) (upd H1 p (.lst xs))) (fun vs H1 Q1 ⟨F,ds,u,sb,rs,hf,q⟩=>by
 unfold ji at hf
 split at hf
 ·rename_i hl
  cases hf
  refine⟨by rw[rs.length];exact ku hl,fun p hp=>?_⟩
  exact q _ F _ (iU.obj hp _) (sb.same (iU.obj (F:=F) hp _).same) ⟨p,rfl,hp,sb.fresh hp,vs,bx,rs⟩
 ·cases hf) z⟩
noncomputable def qB (g:GD):GT:=fun S=>(g S).bind fun p=>match p.1 with
 | .bl k=>some (k,p.2)
 | _=>none
noncomputable def vF (g:GT):GT:=fun S=>(g S).map fun p=>(!p.1,p.2)
noncomputable def kO (g h:GT):GT:=fun S=>(g S).bind fun p=>if p.1 then h p.2 else some (false,p.2)
noncomputable def uq (g h:GT):GT:=fun S=>(g S).bind fun p=>if p.1 then some (true,p.2) else h p.2
noncomputable def eQ (g:GT):GD:=fun S=>(g S).map fun p=>(.bl p.1,p.2)
theorem lV {S:SS}{k:Bool}{S':SS}(h:qB g S=some (k,S')):g S=some (.bl k,S'):=by
 obtain⟨⟨d,S1⟩,h1,h⟩:=aq h
 cases d <;> cases h
 exact h1
theorem iO {F:Hp}{v:V}{k:Bool}(r:Rep F v (.bl k)):v= .bl k:=by cases r;rfl
theorem gH {F:Hp}{v:V}{i:Int}(r:Rep F v (.int i)):v= .int i:=by cases r;rfl
theorem DB {F:Hp}{v:V}{i:Str}(r:Rep F v (.str i)):v= .str i:=by cases r;rfl
theorem vG (h:JD X e g) (he:∀whole,isTrue e X.env whole=(do let v <-whole;standAt e.pos;holding [v] (truthy v)):=by intro _;rfl):JT X e (qB g):=
 ⟨fun B=>(NS (h.h B) he).imp fun σ H Q ⟨S,F,k,S',R,hg,q⟩=>⟨S,F,.bl k,S',R,lV hg,fun v F' H' R' st r=>⟨k,iO r,q F' H' R' st⟩⟩⟩
theorem SG {K:PySem.W.Frag}{B:Base}{gE:GE}{σ:St}{H:Hp}{Q:VK}(h:tD K B (eF gE) σ H Q):tE K B gE σ H Q:=by
 obtain⟨S,F,d,S',R,hg,q⟩:=h
 obtain⟨⟨u,S1⟩,h1,hg⟩:=aq hg
 refine⟨S,F,u,S1,R,h1,fun v F1 H1 R1 st1 r1=>?_⟩
 obtain⟨F2,R2,st2,r2⟩:=Hz R1 st1 r1 hg
 exact q v F2 H1 R2 st2 r2
theorem bV {op:CmpOp}(ho:AH X (compareOp op) f) (ha:JD X a ga) (hb:JD X b gb) (hm:behindInMarks op b=false:=by first | exact GO _ | rfl):JT X (.Compare a [op] [b] pos) (qB (eF (eP f (aa ga (aa gb aA))))):=
 ⟨fun B=>(KG ho (ha.h B) (hb.h B) hm).imp fun σ H Q ⟨S,F,k,S',R,hg,q⟩=>rC (SG ⟨S,F,.bl k,S',R,lV hg,fun v F' H' R' st r=>⟨k,iO r,q F' H' R' st⟩⟩)⟩
theorem zq {q1:GT}(h:JT X a q1):JT X (.UnaryOp .Not a pos) (vF q1):=
 ⟨fun B=>(NT (h.h B)).imp fun σ H Q ⟨S,F,k,S',R,hg,q⟩=>by
 obtain⟨⟨d,S1⟩,h1,hg⟩:=aH hg
 cases hg
 exact⟨S,F,d,_,R,h1,fun F' H' R' st=>q F' H' R' st⟩⟩
theorem kP {q1:GT}(h:JT X a q1):JW X (.BoolOp .And [a] pos) q1:=⟨fun B=>pw_and1 (h.h B)⟩
theorem kI {q1:GT}(h:JT X a q1):JW X (.BoolOp .Or [a] pos) q1:=⟨fun B=>pw_or1 (h.h B)⟩
theorem vH {r:List Expr}{q1 q2:GT}(h:JT X a q1) (hr:JW X (.BoolOp .And (b :: r) pos) q2):JW X (.BoolOp .And (a :: b :: r) pos) (kO q1 q2):=
 ⟨fun B=>(pw_and (h.h B) (hr.h B)).imp fun σ H Q ⟨S,F,k,S',R,hg,q⟩=>by
 obtain⟨⟨d,S1⟩,h1,hg⟩:=aq hg
 refine⟨S,F,d,S1,R,h1,fun F1 H1 R1 st1=>?_⟩
 cases d with
 | true=>exact zj ⟨S1,F1,k,S',R1,hg,fun F2 H2 R2 st2=>q F2 H2 R2 (st1.trans st2)⟩
 | false=>cases hg;exact zh (q F1 H1 R1 st1)⟩
theorem vI {r:List Expr}{q1 q2:GT}(h:JT X a q1) (hr:JW X (.BoolOp .Or (b :: r) pos) q2):JW X (.BoolOp .Or (a :: b :: r) pos) (uq q1 q2):=
 ⟨fun B=>(pw_or (h.h B) (hr.h B)).imp fun σ H Q ⟨S,F,k,S',R,hg,q⟩=>by
 obtain⟨⟨d,S1⟩,h1,hg⟩:=aq hg
 refine⟨S,F,d,S1,R,h1,fun F1 H1 R1 st1=>?_⟩
 cases d with
 | false=>exact zh ⟨S1,F1,k,S',R1,hg,fun F2 H2 R2 st2=>q F2 H2 R2 (st1.trans st2)⟩
 | true=>cases hg;exact zj (q F1 H1 R1 st1)⟩
theorem JW.t {q1:GT}(h:JW X e q1):JT X e q1:=⟨fun B=>(h.h B).pt⟩
theorem iW {op}(h:JD X a g):JD X (.BoolOp op [a] pos) (eQ (qB g)):=⟨fun B=>(NU (h.h B)).imp fun σ H Q ⟨S,F,k,S',R,hg,q⟩=>by
 obtain⟨⟨d,S1⟩,h1,hg⟩:=aH hg
 cases hg
 exact⟨S,F,.bl d,_,R,lV h1,q⟩⟩
theorem m9 {r:List Expr}{q2:GT}(h:JD X a g) (hr:JD X (.BoolOp .And (b :: r) pos) (eQ q2)):JD X (.BoolOp .And (a :: b :: r) pos) (eQ (kO (qB g) q2)):=
 ⟨fun B=>(NV (h.h B) (hr.h B)).imp fun σ H Q ⟨S,F,k,S',R,hg,q⟩=>by
 obtain⟨⟨d,S1⟩,h1,hg⟩:=aH hg
 cases hg
 obtain⟨⟨d1,S2⟩,h1,h2⟩:=aq h1
 refine⟨S,F,.bl d1,S2,R,lV h1,fun v F1 H1 R1 st1 r1=>⟨d1,iO r1,?_⟩⟩
 cases d1 with
 | true=>
  have h2:q2 S2=some (d,S1):=h2
  exact zj ⟨S2,F1,.bl d,S1,R1,by show(q2 S2).map _=_;rw[h2];rfl,fun v F2 H2 R2 st2 r2=>q v F2 H2 R2 (st1.trans st2) r2⟩
 | false=>cases h2;exact zh (q _ F1 H1 R1 st1 (.bl false))⟩
theorem vJ {r:List Expr}{q2:GT}(h:JD X a g) (hr:JD X (.BoolOp .Or (b :: r) pos) (eQ q2)):JD X (.BoolOp .Or (a :: b :: r) pos) (eQ (uq (qB g) q2)):=
 ⟨fun B=>(Ry (h.h B) (hr.h B)).imp fun σ H Q ⟨S,F,k,S',R,hg,q⟩=>by
 obtain⟨⟨d,S1⟩,h1,hg⟩:=aH hg
 cases hg
 obtain⟨⟨d1,S2⟩,h1,h2⟩:=aq h1
 refine⟨S,F,.bl d1,S2,R,lV h1,fun v F1 H1 R1 st1 r1=>⟨d1,iO r1,?_⟩⟩
 cases d1 with
 | false=>
  have h2:q2 S2=some (d,S1):=h2
  exact zh ⟨S2,F1,.bl d,S1,R1,by show(q2 S2).map _=_;rw[h2];rfl,fun v F2 H2 R2 st2 r2=>q v F2 H2 R2 (st1.trans st2) r2⟩
 | true=>cases h2;exact zj (q _ F1 H1 R1 st1 (.bl true))⟩
theorem OH (h:JD X a g):JD X (.UnaryOp .Not a pos) (eQ (vF (qB g))):=⟨fun B=>(NW (h.h B)).imp fun σ H Q ⟨S,F,k,S',R,hg,q⟩=>by
 obtain⟨⟨d,S1⟩,h1,hg⟩:=aH hg
 cases hg
 obtain⟨⟨d1,S2⟩,h3,h2⟩:=aH h1
 cases h2
 exact⟨S,F,.bl d1,_,R,lV h3,fun v F1 H1 R1 st1 r1=>⟨d1,iO r1,q _ F1 H1 R1 st1 (.bl _)⟩⟩⟩
noncomputable def Xh (q:GT) (g h:GE):GE:=fun S=>(q S).bind fun p=>if p.1 then g p.2 else h p.2
theorem kr.weak {K:PySem.W.Frag}{B:Base}{S:SS}{σ:St}{H0 H1 F H:Hp}{v:V}(t:∀b o,H0 b=some o->∃o',H1 b=some o'):∀{u:U},kr K B S σ H1 F H v u->kr K B S σ H0 F H v u
 | .t _,h=>h
 | .s _,h=>h
 | .f _,h=>h
 | .m _,⟨a,e,h0,h⟩=>⟨a,e,none_of t h0,h⟩
 | .v _,h=>h
 | .b _,h=>h
theorem SH {q1:GT}{g1 g2:GE}(hc:JT X c q1) (ha:JE X a g1) (hb:JE X b g2):JE X (.IfExp c a b pos) (Xh q1 g1 g2):=
 ⟨fun B=>(GC (hc.h B) (ha.h B) (hb.h B)).imp fun σ H Q ⟨S,F,u,S',R,hg,q⟩=>by
 obtain⟨⟨d,S1⟩,h1,hg⟩:=aq hg
 refine⟨S,F,d,S1,R,h1,fun F1 H1 R1 st1=>?_⟩
 cases d with
 | true=>exact zj ⟨S1,F1,u,S',R1,hg,fun v F2 H2 R2 st2 r2=>q v F2 H2 R2 (st1.trans st2) (r2.weak st1.ext.there)⟩
 | false=>exact zh ⟨S1,F1,u,S',R1,hg,fun v F2 H2 R2 st2 r2=>q v F2 H2 R2 (st1.trans st2) (r2.weak st1.ext.there)⟩⟩
noncomputable def eCh (f f':List D->Option U) (ga gb gc:GD):GD:=fun S=>(ga S).bind fun p=>(gb p.2).bind fun q=>match f [p.1,q.1] with
 | some (.t (.bl k))=>if k then(gc q.2).bind fun r=>match f' [q.1,r.1] with
   | some (.t (.bl k'))=>some (.bl k',r.2)
   | _=>none
  else some (.bl false,q.2)
 | _=>none
end
theorem cV {α:Type}{c:Prop}{i:Decidable c}{x w:α}(h:(@ite _ c i (some x) none)=some w):c/\x=w:=by
 by_cases hc:c
 ·rw[if_pos hc] at h;exact⟨hc,Option.some.inj h⟩
 ·rw[if_neg hc] at h;cases h
theorem yh {α:Type}{c:Prop}{i:Decidable c}{x:Option α}{w:α}(h:(@ite _ c i x none)=some w):c/\x=some w:=by
 by_cases hc:c
 ·rw[if_pos hc] at h;exact⟨hc,h⟩
 ·rw[if_neg hc] at h;cases h
theorem HB {F:Hp}{x:V}{ds:List D}(r:bN F [x] ds):∃d,ds=[d]/\Rep F x d:=by
 cases r with
 | cons r rs=>cases rs;exact⟨_,rfl,r⟩
theorem ur {F:Hp}{x y:V}{ds:List D}(r:bN F [x,y] ds):∃d e,ds=[d,e]/\Rep F x d/\Rep F y e:=by
 cases r with
 | cons r rs=>obtain⟨e,rfl,r2⟩:=HB rs;exact⟨_,e,rfl,r,r2⟩
noncomputable def Kl (C:Int->Int->Bool) (h:Int->Int->D):List D->Option U
 | [.int i,.int j]=>if C i j then some (.t (h i j)) else none
 | _=>none
section
variable {X:Cx}
theorem vK {o:Value->Value->Sem Value}{C:Int->Int->Bool}{h:Int->Int->D}{r:R2}(hr:yZ X o r) (k:∀i j H Q,C i j=true->Q (toV (h i j)) H->r (.int i) (.int j) H Q) (hf:∀i j,yf (h i j)=true):AH X o (Kl C h):=by
 intro pins s σ H x y v u Q I rx ry ⟨F,ds,w,sb,rs,hw,q⟩
 obtain⟨d,e,rfl,r1,r2⟩:=ur rs
 cases r1 <;> cases r2 <;> try (simp[Kl] at hw;done)
 rename_i i j
 obtain⟨hc,rfl⟩:=cV hw
 exact hr pins s σ H _ _ v u Q I rx ry (k i j H Q hc (q _ F H (iU.refl ..) sb (AG (hf i j))))
noncomputable abbrev ou:=Kl (fun _ _=>true) fun i j=>.int (i - j)
noncomputable abbrev OI:=Kl (fun _ _=>true) fun i j=>.bl (decide (i < j))
noncomputable abbrev QN:=Kl (fun _ _=>true) fun i j=>.bl (decide (j < i))
noncomputable abbrev K9:=Kl (fun _ j=>decide (0 < j) && decide (j < 1073741824)) fun i j=>.int (i / j)
noncomputable abbrev xy:=Kl (fun _ j=>decide (0 < j)) fun i j=>.int (i % j)
noncomputable abbrev SI:=Kl (fun i j=>decide (0<=j) && (decide (j<=1000) && decide (i.natAbs < 2 ^ 64))) fun i j=>.int (i ^ j.toNat)
theorem gw:AH X (binaryOp .Sub) ou:=vK N7 (fun i j H Q _ q=>⟨i,j,rfl,rfl,q⟩) fun _ _=>rfl
theorem sO:AH X (compareOp .Lt) OI:=vK RS (fun i j H Q _ q=>⟨i,j,rfl,rfl,q⟩) fun _ _=>rfl
theorem vL:AH X (compareOp .Gt) QN:=vK RU (fun i j H Q _ q=>⟨i,j,rfl,rfl,q⟩) fun _ _=>rfl
theorem zu:AH X (binaryOp .FloorDiv) K9:=vK KC (fun i j H Q c q=>⟨i,j,rfl,rfl,by simpa[RQ] using c,q⟩) fun _ _=>rfl
theorem kB:AH X (binaryOp .Mod) xy:=vK N9 (fun i j H Q c q=>⟨i,j,rfl,rfl,by simpa using c,q⟩) fun _ _=>rfl
theorem La:AH X (binaryOp .Pow) SI:=vK Oa (fun i j H Q c q=>⟨i,j,rfl,rfl,by
 simp only[Bool.and_eq_true,decide_eq_true_eq] at c
 exact⟨c.1,Int.le_trans c.2.1 (by decide),c.2.2⟩,q⟩) fun _ _=>rfl
theorem Sub.lW {F H:Hp}{v:V}{ds:List D}(s:Sub F H) (r:Rep F v (.tup ds)):∃a vs,v= .ref a/\F a=some (.tup vs)/\Rd H a (.tup vs)/\bN F vs ds:=by
 cases r with
 | tup e rs=>exact⟨_,_,rfl,e,Rd.of (s _ _ e),rs⟩
theorem Sub.lX {F H:Hp}{v:V}{ds:List D}(s:Sub F H) (r:Rep F v (.lst ds)):∃a vs,v= .ref a/\F a=some (.lst vs)/\Rd H a (.lst vs)/\bN F vs ds:=by
 cases r with
 | lst e rs=>exact⟨_,_,rfl,e,Rd.of (s _ _ e),rs⟩
theorem _root_.L2.Rd.AB {pins:List (Addr×Obj)}{σ:St}{H:Hp}{s:Shared}(I:Inv X pins σ H s){l:Addr}{xs:List V}(h:Rd H l (.lst xs)):
  xs.length<=sizeLine/\∃its n,Vals xs its/\xs.length=its.length/\s.heap.get? l=some {cls:=.type "list",data:=.seq its.toArray n}:=by
 obtain⟨z,its,n,r,e⟩:=(h.ok I.hok:fB X.prog X.w H s.heap l (.lst xs))
 exact⟨z,its,n,r,r.length,e⟩
noncomputable def cN:List D->Option U
 | [.int i,.int j]=>some (.t (.int (i+j)))
 | [.str i,.str j]=>if i.length+j.length<=100000 then some (.t (.str (i++j))) else none
 | [.tup i,.tup j]=>if i.length+j.length<=100000 then some (.t (.tup (i++j))) else none
 | [.lst i,.lst j]=>if i.length+j.length<=100000 then some (.m (.lst (i++j))) else none
 | _=>none
theorem bY : AH X (binaryOp .Add) cN := by
  intro pins s σ H x y v u Q I rx ry ⟨F,ds,w,sb,rs,hw,q⟩
  obtain⟨d,e,rfl,r1,r2⟩:=ur rs
  cases d <;> cases e <;> try (simp[cN] at hw;done)
  . rename_i i j
    cases hw
    cases r1
    cases r2
    exact N6 pins s σ H _ _ v u Q I rx ry ⟨i,j,rfl,rfl,q _ F H (iU.refl ..) sb (.int _)⟩
  . rename_i i j
    obtain⟨hl,rfl⟩:=cV hw
    cases r1
    cases r2
    exact B8 pins s σ H _ _ v u Q I rx ry ⟨i,j,rfl,rfl,ku hl,q _ F H (iU.refl ..) sb (.str _)⟩
  . rename_i i j
    obtain⟨hl,rfl⟩:=cV hw
    have rb2:=r2
    have rb1:=r1
    obtain⟨a,xs,rfl,fa,ha,uK⟩:=sb.lW r1
    obtain⟨b,ys,rfl,fb,hb,Km⟩:=sb.lW r2
    by_cases hx:xs=[]
    . subst hx
      cases uK
      cases rx
      cases ry
      obtain⟨its,r1',p1,_⟩:=I.tuple (.inl ha)
      obtain⟨its2,r2',p2,_⟩:=I.tuple (.inl hb)
      cases r1'
      obtain⟨⟨cls,dd,data,sl⟩,ho,hc,n,hd⟩:=id p1
      obtain⟨⟨WH,dd2,data2,sl2⟩,ho2,hc2,n2,hd2⟩:=id p2
      simp only at hc hd hc2 hd2
      subst hc hd hc2 hd2
      exact concat_meets ⟨_,ho,rfl⟩ ⟨_,ho2,rfl⟩ noFill_tuple_add seq_tuple_add PySem.F.slot_tuple_add PySem.F.entry_tuple_add (PySem.F.args_tuple_add_2 _ _)
        (tuple_addW0 a b _ _ n n2 dd dd2 sl sl2 (by simp)) ⟨ho,ho2,⟨.ref b,H,I,rfl,q _ F H (iU.refl ..) sb rb2⟩⟩
    . refine KW pins s σ H (.ref a) (.ref b) v u Q I rx ry ⟨a,b,xs,ys,rfl,rfl,.inl ha,.inl hb,hx,?_,fun hy=>?_,fun hy p hp=>?_⟩
      . rw[uK.length,Km.length];exact ku hl
      . subst hy
        cases Km
        exact q _ F H (iU.refl ..) sb (by show Rep F (.ref a) (.tup (i++[]));rw[List.append_nil];exact rb1)
      . exact q _ _ _ (iU.root sb hp _) (sb.sN hp) (.tup bx ((uK.append Km).le (mD (sb.fresh hp))))
  . rename_i i j
    obtain⟨hl,rfl⟩:=cV hw
    obtain⟨a,xs,rfl,fa,ha,uK⟩:=sb.lX r1
    obtain⟨b,ys,rfl,fb,hb,Km⟩:=sb.lX r2
    cases rx
    cases ry
    obtain⟨z,its,n,r,hl1,e⟩:=Rd.AB I ha
    obtain⟨z2,its2,n2,r2,hl2,e2⟩:=Rd.AB I hb
    have hlen:xs.length+ys.length<=sizeLine:=by rw[uK.length,Km.length];exact ku hl
    refine PySem.P.add_list e e2 ?_ (by rw[List.size_toArray,List.size_toArray];omega)
    have ea:its.toArray++its2.toArray=(its++its2).toArray:=by simp
    rw[ea]
    have hp:H s.heap.objs.size=none:=I.fresh
    refine⟨.ref _,_,I.So (t':=s.toks) (r.append r2) (by rw[List.length_append];omega),rfl,?_⟩
    exact q _ F _ (iU.obj hp _) (sb.same (iU.obj (F:=F) hp _).same) ⟨_,rfl,hp,sb.fresh hp,_,bx,uK.append Km⟩
noncomputable def Ck:List D->Option U:=Kl (fun i j=>(decide (-(2 ^ 64) < i) && decide (i < 2 ^ 64)) || (decide (-(2 ^ 64) < j) && decide (j < 2 ^ 64))) fun i j=>.int (i * j)
theorem rD:AH X (binaryOp .Mult) Ck:=vK N8 (fun i j H Q c q=>⟨i,j,rfl,rfl,by
 simp only[Bool.or_eq_true,Bool.and_eq_true,decide_eq_true_eq] at c
 exact c,q⟩) fun _ _=>rfl
noncomputable def nL:List D->Option U
 | [.int i]=>some (.t (.int (-i)))
 | _=>none
theorem lY:RL X (unaryOp .USub) (fun x H Q=>rP nL [x] H Q):=by
 intro pins s σ H x v Q I rx ⟨F,ds,w,sb,rs,hw,q⟩
 obtain⟨d,rfl,r1⟩:=HB rs
 cases r1 <;> try (simp[nL] at hw;done)
 rename_i i
 cases hw
 exact Ob pins s σ H _ v Q I rx ⟨i,rfl,q _ F H (iU.refl ..) sb (.int _)⟩
noncomputable def xA:List D->Option U
 | [.tup ds,.int i]=>(gD ds i).map .t
 | [.lst ds,.int i]=>(gD ds i).map .t
 | [.str z,.int i]=>if z.length<=100000 then(gD z.cps.toList i).map fun c=>.t (.str ⟨#[c]⟩) else none
 | _=>none
theorem qh:G1 X (fun x y H Q=>rP xA [x,y] H Q):=by
 intro value slice pins s σ H x y v u Q I rx ry ⟨F,ds,w,sb,rs,hw,q⟩ hsb
 obtain⟨d,e,rfl,r1,r2⟩:=ur rs
 cases d <;> cases e <;> try (simp[xA] at hw;done)
 ·rename_i z i
  obtain⟨hl,hw⟩:=yh hw
  obtain⟨c,hc,hw⟩:=aH hw
  subst hw
  cases r1
  cases r2
  exact G4 value slice pins s σ H _ _ v u Q I rx ry ⟨z,i,c,rfl,rfl,ku hl,hc,q _ F H (iU.refl ..) sb (.str _)⟩ hsb
 ·rename_i ds i
  obtain⟨c,hc,hw⟩:=aH (show(gD ds i).map U.t=some w from hw)
  subst hw
  obtain⟨a,xs,rfl,fa,ha,uK⟩:=sb.lW r1
  cases r2
  obtain⟨w',h1,h2⟩:=uK.gD hc
  exact G3 value slice pins s σ H _ _ v u Q I rx ry ⟨a,xs,i,w',rfl,rfl,.inl ha,h1,q _ F H (iU.refl ..) sb h2⟩ hsb
 ·rename_i ds i
  obtain⟨c,hc,hw⟩:=aH (show(gD ds i).map U.t=some w from hw)
  subst hw
  obtain⟨a,xs,rfl,fa,ha,uK⟩:=sb.lX r1
  cases r2
  obtain⟨w',h1,h2⟩:=uK.gD hc
  exact Du value slice pins s σ H _ _ v u Q I rx ry ⟨a,xs,i,w',rfl,rfl,.inl ha,h1,q _ F H (iU.refl ..) sb h2⟩ hsb
noncomputable def AI:List D->Option U
 | [.tup ds]=>some (.t (.int ds.length))
 | [.lst ds]=>some (.t (.int ds.length))
 | [.str z]=>if z.length<=100000 then some (.t (.int z.length)) else none
 | _=>none
theorem EG:jC X (.builtin "len") (rP AI):=by
 intro pins s σ H xs us Q I r ⟨F,ds,w,sb,rs,hw,q⟩
 match xs,ds,rs with
 | [],[],_=>exact absurd hw (by simp[AI])
 | [x],_,rs=>
  obtain⟨d,rfl,r1⟩:=HB rs
  cases d <;> try (simp[AI] at hw;done)
  ·rename_i z
   obtain⟨hl,rfl⟩:=cV hw
   cases r1
   exact rA pins s σ H _ us Q I r ⟨z,rfl,ku hl,q _ F H (iU.refl ..) sb (.int _)⟩
  ·cases hw
   obtain⟨a,xs,rfl,fa,ha,uK⟩:=sb.lW r1
   exact m6 pins s σ H _ us Q I r ⟨a,xs,rfl,.inr (.inl ha),by rw[uK.length];exact q _ F H (iU.refl ..) sb (.int _)⟩
  ·cases hw
   obtain⟨a,xs,rfl,fa,ha,uK⟩:=sb.lX r1
   exact m6 pins s σ H _ us Q I r ⟨a,xs,rfl,.inl (.inl ha),by rw[uK.length];exact q _ F H (iU.refl ..) sb (.int _)⟩
 | _ :: _ :: _,[],rs=>cases rs
 | _ :: _ :: _,[_],rs=>cases rs with | cons _ rs=>cases rs
 | _ :: _ :: _,_ :: _ :: _,_=>exact absurd hw (by simp[AI])
end
noncomputable def rE (i:Nat) (u:U) (S:SS):Option SS:=match S[i]? with
 | some (some (.b _))=>none
 | some _=>some (S.set i (some u))
 | none=>none
theorem EH {i:Nat}{u:U}{S S':SS}(h:rE i u S=some S'):S'=S.set i (some u)/\i < S.length/\∀o,S[i]?≠some (some (.b o)):=by
 unfold rE at h
 cases e:S[i]? with
 | none=>rw[e] at h;cases h
 | some w=>
  have hl:i < S.length:=(List.getElem?_eq_some_iff.mp e).1
  rw[e] at h
  cases w with
  | none=>cases h;exact⟨rfl,hl,fun o z=>by cases z⟩
  | some w=>
   cases w with
   | b o=>cases h
   | t d=>cases h;exact⟨rfl,hl,fun o z=>by cases z⟩
   | m d=>cases h;exact⟨rfl,hl,fun o z=>by cases z⟩
   | v d=>cases h;exact⟨rfl,hl,fun o z=>by cases z⟩
   | s d=>cases h;exact⟨rfl,hl,fun o z=>by cases z⟩
   | f d=>cases h;exact⟨rfl,hl,fun o z=>by cases z⟩
noncomputable def M8 (B:Base) (S:SS) (σ:St) (F H:Hp) (v:V):U->Prop
 | .t d=>Rep F v d
 | .m o=>∃a,v= .ref a/\F a=none/\At F H a o/\¬eY S σ a/\B.H a=none
 | _=>False
theorem Rel.put {K : PySem.W.Frag} {B : Base} {S S' : SS} {σ : St} {F H : Hp} {i : Nat} {u : U} {v : V} (R : Rel K B S σ F H) (h : rE i u S = some S') (p : M8 B S σ F H v u) : Rel K B S' (σ.set i (some v)) F H := by
  obtain⟨rfl,hl,nb⟩:=EH h
  have hl':i < σ.length:=by rw[<-R.len];exact hl
  have out:∀{j:Nat},i≠j->(σ.set i (some v))[j]? =σ[j]?:=fun ne=>List.getElem?_set_ne ne
  have EI:(σ.set i (some v))[i]? =some (some v):=List.getElem?_set_self hl'
  have M9:∀j w a,i≠j->S[j]? =some (some w)->ir w=true->ir u=true->σ[j]? =some (some (.ref a))->v≠.ref a:=fun j w a ne hj hm hu hv z=>by
    cases u with
    | t d=>cases hu
    | v k=>cases hu
    | s k=>cases hu
    | f k=>cases hu
    | b o=>exact p
    | m o=>
      obtain⟨c,e,_,_,nm,_⟩:=p
      rw[z] at e
      cases e
      exact nm ⟨j,w,hj,hm,hv⟩
  refine⟨R.sub,by rw[List.length_set,List.length_set];exact R.len,fun j w hj=>?_,fun j k w1 w2 a h1 m1 h2 m2 v1 v2=>?_,fun j o a hj hv=>?_,fun j o a hj hv=>?_,fun j a hj=>?_,R.ext⟩
  . rcases get_set hj with⟨rfl,q,_⟩ | ⟨ne,q⟩
    . cases q
      refine⟨v,EI,?_⟩
      cases u with
      | t d=>exact p
      | m o=>obtain⟨a,e,f,h,_⟩:=p;exact⟨a,e,f,h⟩
      | b o=>cases p
      | v k=>cases p
      | s k=>cases p
      | f k=>cases p
    . rw[out ne];exact R.rep j w q
  . rcases get_set h1 with⟨rfl,q1,_⟩ | ⟨ne1,q1⟩
    . rcases get_set h2 with⟨rfl,q2,_⟩ | ⟨ne2,q2⟩
      . rfl
      . cases q1
        rw[EI] at v1
        rw[out ne2] at v2
        cases v1
        exact absurd rfl (M9 k w2 a ne2 q2 m2 m1 v2)
    . rcases get_set h2 with⟨rfl,q2,_⟩ | ⟨ne2,q2⟩
      . cases q2
        rw[EI] at v2
        rw[out ne1] at v1
        cases v2
        exact absurd rfl (M9 j w1 a ne1 q1 m1 m2 v1)
      . rw[out ne1] at v1
        rw[out ne2] at v2
        exact R.Dz j k w1 w2 a q1 m1 q2 m2 v1 v2
  . rcases get_set hj with⟨rfl,q,_⟩ | ⟨ne,q⟩
    . cases q
      rw[EI] at hv
      cases hv
      obtain⟨c,e,_,_,_,hB⟩:=p
      cases e
      exact hB
    . rw[out ne] at hv;exact R.own j o a q hv
  . rcases get_set hj with⟨rfl,q,_⟩ | ⟨ne,q⟩
    . cases q;cases p
    . rw[out ne] at hv;exact R.bor j o a q hv
  . obtain⟨h1,o,h2⟩:=R.par j a hj
    have ne:i≠j:=fun z=>by subst z;exact nb o h2
    exact⟨by rw[out ne];exact h1,o,by rw[List.getElem?_set_ne ne];exact h2⟩
noncomputable def dc:GS:=fun S=>some (.nx S)
noncomputable def aZ (a b:GS):GS:=fun S=>(a S).bind fun o=>match o with
 | .nx S1=>b S1
 | o=>some o
noncomputable def cK (i:Nat) (g:GE):GS:=fun S=>(g S).bind fun p=>match p.1 with
 | .m o=>(rE i (.m o) p.2).map .nx
 | u=>(fz u p.2).bind fun q=>(rE i (.t q.1) q.2).map .nx
noncomputable def yi (g:GE):GS:=fun S=>(g S).map fun p=>.nx p.2
noncomputable def cj (g:GE):GS:=fun S=>(g S).bind fun p=>match p.1 with
 | .v i=>match p.2[i]? with
  | some (some (.t d))=>some (.rt (.t d) p.2)
  | some (some (.m o))=>some (.rt (.m o) (p.2.set i none))
  | _=>none
 | .s _=>none
 | .f _=>none
 | u=>some (.rt u p.2)
noncomputable def i8 (q:GT) (a b:GS):GS:=fun S=>(q S).bind fun p=>if p.1 then a p.2 else b p.2
theorem DA.mono {K:PySem.W.Frag}{B:Base}{F F1:Hp}{D:Ends}(g:∀b o,F b=some o->F1 b=some o):∀{o:Out},DA K B F D o->DA K B F1 D o
 | .nx _,h=>fun σ' F' H' R le=>h σ' F' H' R fun b o z=>le b o (g b o z)
 | .bk _,h=>fun σ' F' H' R le=>h σ' F' H' R fun b o z=>le b o (g b o z)
 | .ct _,h=>fun σ' F' H' R le=>h σ' F' H' R fun b o z=>le b o (g b o z)
 | .rt _ _,h=>fun v σ' F' H' R le=>h v σ' F' H' R fun b o z=>le b o (g b o z)
section
variable {X:Cx}{a b c e:Expr}{pos p p2:Pos}{x:Str}{st:Stmt}{rest b1 b2 body:List Stmt}{g:GE}{s1 s2:GS}{q1:GT}
theorem cu:JB X [] dc:=⟨fun B=>Kw.imp fun D σ H ⟨S,F,o,R,h,k⟩=>by cases h;exact k σ F H R fun _ _ z=>z⟩
theorem aK (h1:JS X st s1) (h2:JB X rest s2):JB X (st :: rest) (aZ s1 s2):=⟨fun B=>(GF (h1.h B) (h2.h B)).imp fun D σ H ⟨S,F,o,R,h,k⟩=>by
 obtain⟨o1,e1,h⟩:=aq h
 refine⟨S,F,o1,R,e1,?_⟩
 cases o1 with
 | nx S1=>exact fun σ' F' H' R' le=>⟨S1,F',o,R',h,k.mono le⟩
 | rt u S1=>cases h;exact k
 | bk S1=>cases h;exact k
 | ct S1=>cases h;exact k⟩
theorem bf (h1:JS X st s1):JB X [st] s1:=⟨fun B=>Ky (h1.h B)⟩
theorem kr.put {K:PySem.W.Frag}{B:Base}{S:SS}{σ:St}{H0 F H:Hp}{v:V}{o:MO}(r:kr K B S σ H0 F H v (.m o)):M8 B S σ F H v (.m o):=by
 obtain⟨a,e,_,f,h,n,hB⟩:=r
 exact⟨a,e,f,h,n,hB⟩
theorem Lb {i:Nat}{K:PySem.W.Frag}{B:Base}{D:Ends}{σ:St}{H:Hp}(h:tO K B (cK i g) D σ H):N1 (tE K B g) (vp i) D σ H:=by
 obtain⟨S,F,o,R,h,k⟩:=h
 obtain⟨⟨u,S1⟩,h1,h⟩:=aq h
 refine⟨S,F,u,S1,R,h1,fun v F1 H1 R1 st1 r1=>?_⟩
 have go:(∀o',u≠.m o')->(fz u S1).bind (fun q=>(rE i (.t q.1) q.2).map Out.nx)=some o->D.nx (σ.set i (some v)) H1:=fun _ h=>by
  obtain⟨⟨d,S2⟩,h2,h⟩:=aq h
  obtain⟨S3,h3,h⟩:=aH h
  subst h
  obtain⟨F2,R2,st2,r2⟩:=Hz R1 st1 r1 h2
  exact k _ F2 H1 (R2.put h3 r2) st2.ext.le
 cases u with
 | m o'=>
  obtain⟨S3,h3,h⟩:=aH (show(rE i (.m o') S1).map Out.nx=some o from h)
  subst h
  exact k _ F1 H1 (R1.put h3 r1.put) st1.ext.le
 | t d=>exact go (fun _ z=>by cases z) h
 | b d=>exact go (fun _ z=>by cases z) h
 | s d=>exact go (fun _ z=>by cases z) h
 | f d=>exact go (fun _ z=>by cases z) h
 | v d=>exact go (fun _ z=>by cases z) h
theorem bQ {i:Nat}{pos':Pos}(hN:X.N.Nodup) (hi:X.N[i]? =some x) (hx:Loc X.env.scope x) (he:JE X e g) (hs:swapsWith e (some (.Name x pos')) pos.line X.env=pure false:=by rfl)
  (hf:X.fn x=true\/X.env.scope.names.lookup x=some .local:=by first | exact .inl rfl | exact .inr rfl | assumption):JS X (.Assign [.Name x pos'] e pos) (cK i g):=
 ⟨fun B=>(N2 hN hi hx (he.h B) hs hf).imp fun D σ H h=>Lb h⟩
theorem u6 (he:JE X e g) (hs:swapsWith e none pos.line X.env=pure false:=by rfl):JS X (.Expr e pos) (yi g):=⟨fun B=>(Kz (he.h B) hs).imp fun D σ H ⟨S,F,o,R,h,k⟩=>by
 obtain⟨⟨u,S1⟩,h1,h⟩:=aH h
 subst h
 exact⟨S,F,u,S1,R,h1,fun v F1 H1 R1 st1 r1=>k σ F1 H1 R1 st1.ext.le⟩⟩
theorem Rel.drop {K:PySem.W.Frag}{B:Base}{S:SS}{σ:St}{F H:Hp}{i:Nat}{o:MO}(R:Rel K B S σ F H) (h:S[i]? =some (some (.m o))):Rel K B (S.set i none) σ F H:=by
 have back:∀{j w},(S.set i none)[j]? =some (some w)->i≠j/\S[j]? =some (some w):=fun {j w} z=>by
  rcases get_set z with⟨_,q,_⟩ | q
  ·cases q
  ·exact q
 refine⟨R.sub,by rw[List.length_set];exact R.len,fun j w z=>R.rep j w (back z).2,fun j k w1 w2 a h1 m1 h2 m2=>R.Dz j k w1 w2 a (back h1).2 m1 (back h2).2 m2,fun j o a z=>R.own j o a (back z).2,fun j o a z=>R.bor j o a (back z).2,fun j a z=>?_,R.ext⟩
 obtain⟨k1,o',k2⟩:=R.par j a z
 have ne:i≠j:=fun z=>by subst z;rw[h] at k2;cases k2
 exact⟨k1,o',by rw[List.getElem?_set_ne ne];exact k2⟩
theorem bA (he:JE X e g):JS X (.Return (some e) pos) (cj g):=⟨fun B=>(NX (he.h B)).imp fun D σ H ⟨S,F,o,R,h,k⟩=>by
  obtain⟨⟨u,S1⟩,h1,h⟩:=aq h
  refine⟨S,F,u,S1,R,h1,fun v F1 H1 R1 st1 r1=>?_⟩
  cases u with
  | t d=>cases h;exact k v σ F1 H1 R1 st1.ext.le r1
  | b d=>cases h;cases r1
  | s d=>cases h
  | f d=>cases h
  | m o'=>cases h;exact k v σ F1 H1 R1 st1.ext.le (by obtain⟨a,e,h0,f,h,n,hB⟩:=r1;exact⟨a,e,hB,f,h,n,hB⟩)
  | v i =>
    obtain⟨hv,w,hw⟩:=r1
    dsimp only at h
    rw[hw] at h
    obtain⟨v',z1,z2⟩:=R1.rep i w hw
    rw[hv] at z1
    cases z1
    cases w with
    | t d=>cases h;exact k v σ F1 H1 R1 st1.ext.le z2
    | b d=>cases h
    | v d=>cases h
    | s d=>cases h
    | f d=>cases h
    | m o'=>
      cases h
      obtain⟨a,rfl,f,ha⟩:=z2
      have hB:=R1.own i o' a hw hv
      refine k _ σ F1 H1 (R1.drop hw) st1.ext.le ⟨a,rfl,hB,f,ha,fun⟨j,w,z,hm,hj⟩=>?_,hB⟩
      rcases get_set z with⟨_,q,_⟩ | ⟨ne,q⟩
      . cases q
      . exact ne (R1.Dz i j _ w a hw rfl q hm hv hj)⟩
theorem cW (hc:JT X c q1) (ha:JB X b1 s1) (hb:JB X b2 s2):JS X (.If c b1 b2 pos) (i8 q1 s1 s2):=⟨fun B=>(RC (hc.h B) (ha.h B) (hb.h B)).imp fun D σ H ⟨S,F,o,R,h,k⟩=>by
 obtain⟨⟨d,S1⟩,h1,h⟩:=aq h
 refine⟨S,F,d,S1,R,h1,fun F1 H1 R1 st1=>?_⟩
 cases d with
 | true=>exact zj ⟨S1,F1,o,R1,h,k.mono st1.ext.le⟩
 | false=>exact zh ⟨S1,F1,o,R1,h,k.mono st1.ext.le⟩⟩
noncomputable abbrev GB:=D->SS->Option SS
noncomputable def tBd (K:PySem.W.Frag) (B:Base) (bd:GB):TG:=fun v σ H Q=>∃S F d S',Rel K B S σ F H/\Rep F v d/\bd d S=some S'/\∀σ',Rel K B S' σ' F H->Q σ' H
structure JG (X:Cx) (tg:Expr) (bd:GB):Prop where
 h:∀B,PG X tg (tBd X.K B bd)
noncomputable abbrev Ko:=List D->SS->Option SS
noncomputable def Xi (K:PySem.W.Frag) (B:Base) (bd:Ko):KA:=fun vs σ H Q=>∃S F ds S',Rel K B S σ F H/\bN F vs ds/\bd ds S=some S'/\∀σ',Rel K B S' σ' F H->Q σ' H
structure Vb (X:Cx) (HC:List Expr) (bd:Ko):Prop where
 h:∀B,MW X HC (Xi X.K B bd)
theorem PG.imp {tg:Expr}{t t':TG}(h:PG X tg t) (k:∀v σ H Q,t' v σ H Q->t v σ H Q):PG X tg t':=fun pins s σ H v u Q I r q=>h pins s σ H v u Q I r (k v σ H Q q)
theorem MW.imp {tg:List Expr}{t t':KA}(h:MW X tg t) (k:∀v σ H Q,t' v σ H Q->t v σ H Q):MW X tg t':=fun pins s σ H v u Q I r q=>h pins s σ H v u Q I r (k v σ H Q q)
noncomputable def bName (i:Nat):GB:=fun d S=>rE i (.t d) S
theorem gZ {i:Nat}(hN:X.N.Nodup) (hi:X.N[i]? =some x) (hx:Loc X.env.scope x) (hf:X.fn x=true\/X.env.scope.names.lookup x=some .local:=by first | exact .inl rfl | exact .inr rfl | assumption):JG X (.Name x pos) (bName i):=
 ⟨fun B=>(u5 hN hi hx hf).imp fun v σ H Q ⟨S,F,d,S',R,r,h,k⟩=>k _ (R.put h r)⟩
noncomputable def rF:Ko:=fun ds S=>match ds with
 | []=>some S
 | _=>none
noncomputable def g7 (b:GB) (bs:Ko):Ko:=fun ds S=>match ds with
 | d :: r=>(b d S).bind fun S1=>bs r S1
 | []=>none
theorem u9:Vb X [] rF:=⟨fun B=>Dg.imp fun vs σ H Q ⟨S,F,ds,S',R,r,h,k⟩=>by
 cases r with
 | nil=>cases h;exact⟨rfl,k σ R⟩
 | cons _ _=>cases h⟩
theorem jX {tg:Expr}{HC:List Expr}{bd:GB}{SJ:Ko}(h1:JG X tg bd) (h2:Vb X HC SJ) (hs:(assignEach (tg :: HC) X.env).map (·.2)=assign tg X.env :: (assignEach HC X.env).map (·.2):=by rfl):Vb X (tg :: HC) (g7 bd SJ):=
 ⟨fun B=>(vq (h1.h B) (h2.h B) hs).imp fun vs σ H Q ⟨S,F,ds,S',R,r,h,k⟩=>by
 cases r with
 | nil=>cases h
 | cons r rs=>
  obtain⟨S1,e1,h⟩:=aq h
  exact⟨_,_,rfl,S,F,_,S1,R,r,e1,fun σ1 R1=>⟨S1,F,_,S',R1,rs,h,k⟩⟩⟩
noncomputable def qJ (n:Nat) (bs:Ko):GB:=fun d S=>match d with
 | .tup ds=>if ds.length=n then bs ds S else none
 | _=>none
theorem zx {HC:List Expr}{k0:Nat}{SJ:Ko}{n:Nat}(hc:X.calm=true) (h:Vb X HC SJ) (hn:(assignEach HC X.env).length=n:=by rfl) (hst:(assignEach HC X.env).findIdx? (·.1)=none:=by rfl):JG X (.Tuple HC k0 pos) (qJ n SJ):=
 ⟨fun B=>(GH hc (h.h B) hn hst).imp fun v σ H Q ⟨S,F,d,S',R,r,h,k⟩=>by
 cases d <;> try (cases h)
 rename_i ds
 unfold qJ at h
 dsimp only at h
 split at h
 ·rename_i hl
  obtain⟨a,vs,rfl,fa,ha,rs⟩:=R.sub.lW r
  exact⟨a,vs,rfl,.inl ha,by rw[rs.length];exact hl,S,F,ds,S',R,rs,h,k⟩
 ·cases h⟩
noncomputable def OJ (bd:GB) (g:GD):GS:=fun S=>(g S).bind fun p=>(bd p.1 p.2).map .nx
theorem OL {tg:Expr}{bd:GB}{gd:GD}(he:JD X e gd) (hg:JG X tg bd) (hs:swapsWithSole [tg] e pos.line X.env=pure false:=by rfl) (hw:swappedStores [tg] e X.env=pure none:=by rfl)
  (h1:(assignEach [tg] X.env).map (·.2)=[assign tg X.env]:=by rfl):JS X (.Assign [tg] e pos) (OJ bd gd):=
 ⟨fun B=>(GJ (he.h B) (hg.h B) hs hw h1).imp fun D σ H ⟨S,F,o,R,h,k⟩=>by
 obtain⟨⟨d,S1⟩,e1,h⟩:=aq h
 obtain⟨S2,e2,h⟩:=aH h
 subst h
 exact⟨S,F,d,S1,R,e1,fun v F1 H1 R1 st1 r1=>⟨S1,F1,d,S2,R1,r1,e2,fun σ' R2=>k σ' F1 H1 R2 st1.ext.le⟩⟩⟩
noncomputable def Walk (J:It) (F:Hp) (ds:List D):Prop:=∀F' H',(∀b o,F b=some o->F' b=some o)->Sub F' H'->∀i,(∀d,ds[i]? =some d->J.go i H'/\∀x H2,J.QK i H' x H2->H2=H'/\Rep F' x d)/\(ds.length<=i->J.stop i H')
noncomputable abbrev GI:=SS->Option (List D×SS)
noncomputable def Xj (K:PySem.W.Frag) (B:Base) (gi:GI):TI:=fun σ H R=>∃S F ds S',Rel K B S σ F H/\gi S=some (ds,S')/\∀J F' H',Rel K B S' σ F' H'->Step S S' σ F H F' H'->Walk J F' ds->R J H'
structure JI (X:Cx) (tg e:Expr) (gi:GI):Prop where
 h:∀B,PI X tg e (Xj X.K B gi)
theorem PI.orelse {tg:Expr}{wi:TI}(h:∀σ H R,wi σ H R->∃wi',PI X tg e wi'/\wi' σ H R):PI X tg e wi:=fun pins s σ H R I q=>let⟨_,h1,h2⟩:=h σ H R q;h1 pins s σ H R I h2
noncomputable def zy (g:GD):GI:=fun S=>(g S).bind fun p=>match p.1 with
 | .tup ds=>some (ds,p.2)
 | .lst ds=>some (ds,p.2)
 | _=>none
noncomputable def xB (g:GD):GI:=fun S=>(g S).bind fun p=>match p.1 with
 | .tup ds=>some (ds,p.2)
 | .lst ds=>some (ds,p.2)
 | .str z=>some (z.cps.toList.map fun c=>.str ⟨#[c]⟩,p.2)
 | _=>none
theorem yj {K:PySem.W.Frag}{F:Hp}{a:Addr}{vs:List V}{ds:List D}(fa:F a=some (.lst vs)) (rs:bN F vs ds):Walk (Ww K a) F ds:=fun F' H' le sb i=>by
 have ha:nT K H' a vs:=.inl (Rd.of (sb a _ (le _ _ fa)))
 refine⟨fun d hd=>?_,fun hl=>⟨vs,ha,by rw[rs.length];exact hl⟩⟩
 obtain⟨v,h1,h2⟩:=rs.get hd
 refine⟨⟨vs,v,ha,h1⟩,fun x H2 y=>⟨y.1,?_⟩⟩
 have:=y.2 vs ha
 rw[h1] at this
 cases this
 exact h2.le le
theorem AJ {K:PySem.W.Frag}{F:Hp}{a:Addr}{vs:List V}{ds:List D}(fa:F a=some (.tup vs)) (rs:bN F vs ds):Walk (Wx K a) F ds:=fun F' H' le sb i=>by
 have ha:yY K H' a vs:=.inl (Rd.of (sb a _ (le _ _ fa)))
 refine⟨fun d hd=>?_,fun hl=>⟨vs,ha,by rw[rs.length];exact hl⟩⟩
 obtain⟨v,h1,h2⟩:=rs.get hd
 refine⟨⟨vs,v,ha,h1⟩,fun x H2 y=>⟨y.1,?_⟩⟩
 have:=y.2 vs ha
 rw[h1] at this
 cases this
 exact h2.le le
theorem HD {F:Hp}{z:Str}:Walk (Xe z) F (z.cps.toList.map fun c=>.str ⟨#[c]⟩):=fun F' H' le sb i=>by
 refine⟨fun d hd=>?_,fun hl=>(show z.cps.size<=i by simpa using hl)⟩
 rw[List.getElem?_map] at hd
 obtain⟨c,hc,rfl⟩:=aH hd
 have hc':z.cps[i]? =some c:=by rw[<-Array.getElem?_toList];exact hc
 refine⟨(Array.getElem?_eq_some_iff.mp hc').1,fun x H2 y=>⟨y.1,?_⟩⟩
 obtain⟨c2,k1,rfl⟩:=y.2
 rw[hc'] at k1
 cases k1
 exact .str _
theorem HE {tg:Expr}{gd:GD}(h:JD X e gd):JI X tg e (zy gd):=⟨fun B=>PI.orelse fun σ H R0 ⟨S,F,ds,S',R,hg,k⟩=>by
 obtain⟨⟨d,S1⟩,h1,hg⟩:=aq hg
 cases d <;> try (cases hg)
 ·refine⟨_,GK (h.h B),S,F,_,_,R,h1,fun v F1 H1 R1 st1 r1=>?_⟩
  obtain⟨a,vs,rfl,fa,ha,rs⟩:=R1.sub.lW r1
  exact⟨a,rfl,⟨vs,.inl ha⟩,k _ F1 H1 R1 st1 (AJ fa rs)⟩
 ·refine⟨_,Di (h.h B),S,F,_,_,R,h1,fun v F1 H1 R1 st1 r1=>?_⟩
  obtain⟨a,vs,rfl,fa,ha,rs⟩:=R1.sub.lX r1
  exact⟨a,rfl,⟨vs,.inl ha⟩,k _ F1 H1 R1 st1 (yj fa rs)⟩⟩
theorem vM {gd:GD}(h:JD X e gd):JI X (.Name x pos) e (xB gd):=⟨fun B=>PI.orelse fun σ H R0 ⟨S,F,ds,S',R,hg,k⟩=>by
 obtain⟨⟨d,S1⟩,h1,hg⟩:=aq hg
 cases d <;> try (cases hg)
 ·refine⟨_,OC (h.h B),S,F,_,_,R,h1,fun v F1 H1 R1 st1 r1=>?_⟩
  exact⟨_,DB r1,k _ F1 H1 R1 st1 HD⟩
 ·refine⟨_,GK (h.h B),S,F,_,_,R,h1,fun v F1 H1 R1 st1 r1=>?_⟩
  obtain⟨a,vs,rfl,fa,ha,rs⟩:=R1.sub.lW r1
  exact⟨a,rfl,⟨vs,.inl ha⟩,k _ F1 H1 R1 st1 (AJ fa rs)⟩
 ·refine⟨_,Di (h.h B),S,F,_,_,R,h1,fun v F1 H1 R1 st1 r1=>?_⟩
  obtain⟨a,vs,rfl,fa,ha,rs⟩:=R1.sub.lX r1
  exact⟨a,rfl,⟨vs,.inl ha⟩,k _ F1 H1 R1 st1 (yj fa rs)⟩⟩
noncomputable def nK (lo:Int) (n:Nat):List D:=(List.range n).map fun(k:Nat)=>D.int (lo+(k:Int))
noncomputable def qu (gA:GA):GI:=fun S=>(gA S).bind fun p=>match p.1 with
 | [.int j]=>if j < 1000000/\-1000000 < j then some (nK 0 j.toNat,p.2) else none
 | _=>none
noncomputable def AK (gA:GA):GI:=fun S=>(gA S).bind fun p=>match p.1 with
 | [.int i,.int j]=>if i < 1000000/\-1000000 < i/\j < 1000000/\-1000000 < j then some (nK i (j - i).toNat,p.2) else none
 | _=>none
theorem AL {F:Hp}{lo:Int}{n:Nat}:Walk (RH lo n) F (nK lo n):=fun F' H' le sb i=>by
 refine⟨fun d hd=>?_,fun hl=>(show n<=i by simpa[nK] using hl)⟩
 unfold nK at hd
 rw[List.getElem?_map] at hd
 obtain⟨c,hc,rfl⟩:=aH hd
 obtain⟨hl,e⟩:=List.getElem?_eq_some_iff.mp hc
 rw[List.getElem_range] at e
 subst e
 refine⟨show i < n by simpa using hl,fun x H2 y=>⟨y.1,?_⟩⟩
 rw[y.2]
 exact .int _
theorem pQ {tg : Expr} {gA : GA} (hg : Gl X "range") (hm : X.mg "range" = none) (ha : JA X [a] gA) (hs : starEach [a] X.env = [(false, eval a X.env)] := by rfl) : JI X tg (.Call (.Name "range" p) [a] [] pos) (qu gA) :=
  ⟨fun B=>PI.orelse fun σ H R0 ⟨S,F,ds,S',R,hg',k⟩=>by
  obtain⟨⟨d,S1⟩,h1,hg'⟩:=aq hg'
  refine⟨_,Er hg hm (ha.h B) hs,S,F,d,S1,R,h1,fun vs F1 H1 R1 st1 r1=>?_⟩
  dsimp only at hg'
  split at hg'
  . split at hg'
    . rename_i j hj
      cases hg'
      cases r1 with
      | cons r rs=>
        cases rs
        exact⟨j,by rw[gH r],by omega,by omega,k _ F1 H1 R1 st1 AL⟩
    . cases hg'
  . cases hg'⟩
theorem EJ {tg : Expr} {gA : GA} (hg : Gl X "range") (hm : X.mg "range" = none) (ha : JA X [a, b] gA) (hs : starEach [a, b] X.env = [(false, eval a X.env), (false, eval b X.env)] := by rfl) (hs2 : starEach [b] X.env = [(false, eval b X.env)] := by rfl) :
    JI X tg (.Call (.Name "range" p) [a,b] [] pos) (AK gA):=
  ⟨fun B=>PI.orelse fun σ H R0 ⟨S,F,ds,S',R,hg',k⟩=>by
  obtain⟨⟨d,S1⟩,h1,hg'⟩:=aq hg'
  refine⟨_,Es hg hm (ha.h B) hs hs2,S,F,d,S1,R,h1,fun vs F1 H1 R1 st1 r1=>?_⟩
  dsimp only at hg'
  split at hg'
  . split at hg'
    . rename_i i j hj
      cases hg'
      cases r1 with
      | cons r rs=>
        cases rs with
        | cons r2 rs=>
          cases rs
          exact⟨i,j,by rw[gH r,gH r2],⟨by omega,by omega,by omega,by omega⟩,k _ F1 H1 R1 st1 AL⟩
    . cases hg'
  . cases hg'⟩
noncomputable def loop (bd:GB) (body:GS):List D->SS->Option Out
 | [],S=>some (.nx S)
 | d :: ds,S=>(bd d S).bind fun S1=>(body S1).bind fun o=>match o with
  | .nx S2=>loop bd body ds S2
  | .ct S2=>loop bd body ds S2
  | .bk S2=>some (.nx S2)
  | .rt u S2=>some (.rt u S2)
noncomputable def nM (bd:GB) (gi:GI) (body:GS):GS:=fun S=>(gi S).bind fun p=>loop bd body p.1 p.2
theorem ow {tg iter:Expr}{bd:GB}{gi:GI}(hp:PassesOwn (model X.prog X.w) X.A X.env X.xe) (hc:X.calm=true) (hi:JI X tg iter gi) (hg:JG X tg bd) (hb:JB X body s1) (hs:∀x,foldedSetIterable iter X.env x=pure x:=by intro _;rfl):
  JS X (.For tg iter body [] pos) (nM bd gi s1):=⟨fun B=>(GL hp hc (hi.h B) (hg.h B) (hb.h B) hs).imp fun D σ H ⟨S,F,o,R,h,k⟩=>by
 obtain⟨⟨ds,S1⟩,h1,h⟩:=aq h
 refine⟨S,F,ds,S1,R,h1,fun J F1 H1 R1 st1 w=>?_⟩
 refine⟨fun i m σ' H'=>∃S' F',Rel X.K B S' σ' F' H'/\(∀b o,F1 b=some o->F' b=some o)/\i<=ds.length/\m=ds.length - i/\loop bd s1 (ds.drop i) S'=some o,⟨_,S1,F1,R1,fun _ _ z=>z,Nat.zero_le _,rfl,h⟩,?_⟩
 rintro i m σ' H' ⟨S',F',R',le,hl,rfl,dQ⟩
 have w':=w F' H' le R'.sub i
 by_cases hlt:i < ds.length
 ·have hd:ds[i]? =some ds[i]:=List.getElem?_eq_getElem hlt
  obtain⟨go,yl⟩:=w'.1 _ hd
  rw[List.drop_eq_getElem_cons hlt] at dQ
  obtain⟨S2,e2,dQ⟩:=aq dQ
  obtain⟨o2,e3,dQ⟩:=aq dQ
  refine .inr ⟨go,_,fun σ2 H2 n=>⟨ds.length - (i+1),by omega,n⟩,fun x H2 y=>?_⟩
  obtain⟨rfl,rx⟩:=yl x H2 y
  refine⟨S',F',_,S2,R',rx,e2,fun σ3 R3=>⟨S2,F',o2,R3,e3,?_⟩⟩
  cases o2 with
  | nx S3=>exact fun HF F4 H4 R4 Cm=>⟨S3,F4,R4,fun b o z=>Cm b o (le b o z),hlt,rfl,dQ⟩
  | ct S3=>exact fun HF F4 H4 R4 Cm=>⟨S3,F4,R4,fun b o z=>Cm b o (le b o z),hlt,rfl,dQ⟩
  | bk S3=>cases dQ;exact fun HF F4 H4 R4 Cm=>k HF F4 H4 R4 fun b o z=>Cm b o (le b o (st1.ext.le b o z))
  | rt u S3=>cases dQ;exact fun v HF F4 H4 R4 Cm=>k v HF F4 H4 R4 fun b o z=>Cm b o (le b o (st1.ext.le b o z))
 ·have e:i=ds.length:=by omega
  subst e
  rw[List.drop_length] at dQ
  cases dQ
  exact .inl ⟨w'.2 (Nat.le_refl _),k σ' F' H' R' fun b o z=>le b o (st1.ext.le b o z)⟩⟩
end
noncomputable def QO:U->MO->Option U
 | .m _,o=>some (.m o)
 | .b _,o=>some (.b o)
 | _,_=>none
noncomputable def QS:U->Option MO
 | .m o=>some o
 | .b o=>some o
 | _=>none
noncomputable def Cn (S:SS) (i:Nat) (f:MO->Option (D×MO)):Option (D×SS):=match S[i]? with
 | some (some (.m o))=>(f o).map fun r=>(r.1,S.set i (some (.m r.2)))
 | some (some (.b o))=>(f o).map fun r=>(r.1,S.set i (some (.b r.2)))
 | _=>none
theorem At.SK {F H:Hp}{a:Addr}{o:MO}{ob:Obj}{u:HO}(h:At F H a o):H a≠some (.lN ob u):=fun z=>by
 cases o with
 | lst ds=>obtain⟨vs,e,_⟩:=h;rw[z] at e;cases e
 | dct ds=>obtain⟨vs,e,_⟩:=h;rw[z] at e;cases e
 | cU ds=>obtain⟨vs,e,_⟩:=h;rw[z] at e;cases e
 | ins C ds=>obtain⟨vs,⟨dx,e⟩,_⟩:=h;rw[z] at e;cases e
theorem zp.eY {K:PySem.W.Frag}{F H:Hp}{v:V}{u:U}(r:zp K F H v u) (hm:ir u=true):∃a o,v= .ref a/\F a=none/\QS u=some o/\At F H a o:=by
 cases u with
 | t d=>cases hm
 | v d=>cases hm
 | s d=>cases hm
 | f d=>cases hm
 | m o=>obtain⟨a,e,f,h⟩:=r;exact⟨a,o,e,f,rfl,h⟩
 | b o=>obtain⟨a,e,f,h⟩:=r;exact⟨a,o,e,f,rfl,h⟩
theorem Rel.write {K : PySem.W.Frag} {B : Base} {S : SS} {σ : St} {F H : Hp} {i : Nat} {u u' : U} {a : Addr} {ho : HO} {o : MO} (R : Rel K B S σ F H) (hS : S[i]? = some (some u)) (hu : QO u o = some u') (hv : σ[i]? = some (some (.ref a))) (ha : At F (upd H a ho) a o) :
    Rel K B (S.set i (some u')) σ F (upd H a ho)/\Step S (S.set i (some u')) σ F H F (upd H a ho):=by
  have hm:ir u=true/\ir u'=true:=by cases u <;> cases hu <;> exact⟨rfl,rfl⟩
  have SM:F a=none/\∀b ob w,H b=some (.lN ob w)->b≠a:=by
    obtain⟨v,h1,h2⟩:=R.rep i u hS
    rw[hv] at h1
    cases h1
    obtain⟨b,_,e,f,_,k⟩:=h2.eY hm.1
    cases e
    exact⟨f,fun b ob w z e=>k.SK (by rw[e] at z;exact z)⟩
  have SN:=SM.1
  have QT:∀b ob w,H b=some (.lN ob w)->upd H a ho b=some (.lN ob w):=fun b ob w z=>by rw[aY (SM.2 b ob w z)];exact z
  have mAt:L2.eY S σ a:=⟨i,u,hS,hm.1,hv⟩
  have hl:i < S.length:=(List.getElem?_eq_some_iff.mp hS).1
  have kb:∀{j w},(S.set i (some u'))[j]? =some (some w)->(i=j/\u'=w)\/(i≠j/\S[j]? =some (some w)):=fun {j w} z=>by
    rcases get_set z with⟨e,q,_⟩ | q
    . exact .inl ⟨e,Option.some.inj q⟩
    . exact .inr q
  have orig:∀{j w},(S.set i (some u'))[j]? =some (some w)->ir w=true->∃w0,S[j]? =some (some w0)/\ir w0=true:=fun {j w} z hw=>by
    rcases kb z with⟨rfl,rfl⟩ | ⟨_,q⟩
    . exact⟨u,hS,hm.1⟩
    . exact⟨w,q,hw⟩
  have keepR:∀b o,b≠a->Rd H b o->Rd (upd H a ho) b o:=fun b o ne r=>by
    rcases r with r | ⟨ob,r⟩
    . exact .inl (by rw[aY ne];exact r)
    . exact .inr ⟨ob,by rw[aY ne];exact r⟩
  refine⟨⟨fun b o z=>by rw[aY (fun e=>by rw[e,SN] at z;cases z)];exact R.sub b o z,by rw[List.length_set];exact R.len,fun j w z=>?_,fun j k w1 w2 c z1 m1 z2 m2=>?_,fun j o' c z hc=>?_,fun j o' c z hc=>?_,fun j c z=>?_,?_⟩,⟨?_,fun c ⟨j,w,z,hw,hc⟩=>?_,fun j w z=>?_⟩⟩
  . rcases kb z with⟨rfl,rfl⟩ | ⟨ne,q⟩
    . refine⟨.ref a,hv,?_⟩
      cases u <;> cases hu
      . exact⟨a,rfl,SN,ha⟩
      . exact⟨a,rfl,SN,ha⟩
    . obtain⟨v,h1,h2⟩:=R.rep j w q
      refine⟨v,h1,?_⟩
      by_cases hw:ir w=true
      . obtain⟨c,o',rfl,f,e,h⟩:=h2.eY hw
        have hca:c≠a:=fun z=>ne (R.Dz i j u w a hS hm.1 q hw hv (by rw[h1,z]))
        have h':At F (upd H a ho) c o':=h.le (fun _ _ z=>z) fun o z=>by rw[aY hca];exact z
        cases w <;> cases hw <;> cases e
        . exact⟨c,rfl,f,h'⟩
        . exact⟨c,rfl,f,h'⟩
      . cases w with
        | t d=>exact h2
        | v d=>exact h2
        | s d=>obtain⟨c,e,h⟩:=h2;exact⟨c,e,h.le QT⟩
        | f d=>exact h2
        | m o=>exact absurd rfl hw
        | b o=>exact absurd rfl hw
  . obtain⟨Xk,q1,n1⟩:=orig z1 m1
    obtain⟨Xl,q2,n2⟩:=orig z2 m2
    exact R.Dz j k Xk Xl c q1 n1 q2 n2
  . rcases kb z with⟨rfl,rfl⟩ | ⟨_,q⟩
    . cases u <;> cases hu
      exact R.own _ _ c hS hc
    . exact R.own j o' c q hc
  . rcases kb z with⟨rfl,rfl⟩ | ⟨_,q⟩
    . cases u <;> cases hu
      exact R.bor _ _ c hS hc
    . exact R.bor j o' c q hc
  . obtain⟨k1,o',k2⟩:=R.par j c z
    refine⟨k1,?_⟩
    by_cases e:i=j
    . subst e
      rw[hS] at k2
      cases k2
      cases hu
      exact⟨o,List.getElem?_set_self hl⟩
    . exact⟨o',by rw[List.getElem?_set_ne e];exact k2⟩
  . refine⟨R.ext.le,fun b o z n=>?_,R.ext.kq,fun b o z=>?_,fun b o w z=>QT b o w (R.ext.lN b o w z)⟩
    . have hb:b≠a:=fun e=>by
        subst e
        cases u with
        | m o'=>rw[R.own i o' b hS hv] at z;cases z
        | b o'=>exact n (R.bor i o' b hS hv)
        | t d=>cases hu
        | v d=>cases hu
        | s d=>cases hu
        | f d=>cases hu
      rw[aY hb]
      exact R.ext.keep b o z n
    . by_cases hb:b=a
      . exact⟨ho,by rw[hb,bx]⟩
      . rw[aY hb];exact R.ext.there b o z
  . refine⟨fun _ _ z=>z,fun b o z n=>?_,fun _ _ _ _ z=>z,fun b o z=>?_,QT⟩
    . rw[aY (fun e=>n (by rw[e];exact mAt))];exact z
    . by_cases hb:b=a
      . exact⟨ho,by rw[hb,bx]⟩
      . exact⟨o,by rw[aY hb];exact z⟩
  . obtain⟨w0,q,n⟩:=orig z hw
    exact⟨j,w0,q,n,hc⟩
  . by_cases e:i=j
    . subst e;exact⟨u',List.getElem?_set_self hl⟩
    . exact⟨w,by rw[List.getElem?_set_ne e];exact z⟩
theorem sP {S S':SS}{i:Nat}{f:MO->Option (D×MO)}{d:D}(h:Cn S i f=some (d,S')):∃u u' o o',S[i]? =some (some u)/\ir u=true/\QS u=some o/\f o=some (d,o')/\QO u o'=some u'/\S'=S.set i (some u'):=by
 unfold Cn at h
 split at h
 ·rename_i o e
  obtain⟨⟨d',o'⟩,h1,h⟩:=aH h
  cases h
  exact⟨_,_,o,o',e,rfl,rfl,h1,rfl,rfl⟩
 ·rename_i o e
  obtain⟨⟨d',o'⟩,h1,h⟩:=aH h
  cases h
  exact⟨_,_,o,o',e,rfl,rfl,h1,rfl,rfl⟩
 ·cases h
noncomputable def SO (r:V->List V->Hp->VK->Prop) (h:List D->MO->Option (D×MO)):Prop:=
 ∀F H a vs xs ds args res o',Sub F H->H a=some (.lst vs)->F a=none->bN F vs ds->bN F xs args->h args (.lst ds)=some (res,o')->
  ∀Q:VK,(∀rv ho,Rep F rv res->At F (upd H a ho) a o'->Q rv (upd H a ho))->r (.ref a) xs H Q
noncomputable def gq:MO->Bool
 | .lst _=>true
 | _=>false
noncomputable def SQ (S:SS) (i:Nat):Bool:=match S[i]? with
 | some (some (.m (.lst _)))=>true
 | some (some (.b (.lst _)))=>true
 | _=>false
theorem HG {K:PySem.W.Frag}{B:Base}{S:SS}{σ:St}{F H:Hp}{i:Nat}(R:Rel K B S σ F H) (h:SQ S i=true):∃u a vs ds,S[i]? =some (some u)/\ir u=true/\QS u=some (.lst ds)/\σ[i]? =some (some (.ref a))/\F a=none/\H a=some (.lst vs)/\bN F vs ds:=by
 unfold SQ at h
 split at h
 ·rename_i ds e
  obtain⟨v,k1,a,rfl,f,vs,k2,k3⟩:=R.rep i _ e
  exact⟨_,a,vs,ds,e,rfl,rfl,k1,f,k2,k3⟩
 ·rename_i ds e
  obtain⟨v,k1,a,rfl,f,vs,k2,k3⟩:=R.rep i _ e
  exact⟨_,a,vs,ds,e,rfl,rfl,k1,f,k2,k3⟩
 ·cases h
noncomputable def eM (i:Nat) (h:List D->MO->Option (D×MO)) (gA:GA):GD:=fun S=>if SQ S i then(gA S).bind fun p=>Cn p.2 i (h p.1) else none
theorem AM {K:PySem.W.Frag}{B:Base}{S:SS}{σ:St}{F H:Hp}{i:Nat}{a:Addr}{u:U}{ds:List D}(R:Rel K B S σ F H) (hS:S[i]? =some (some u)) (hm:ir u=true) (hi:QS u=some (.lst ds)) (hv:σ[i]? =some (some (.ref a))):F a=none/\∃vs,H a=some (.lst vs)/\bN F vs ds:=by
 obtain⟨v,k1,k2⟩:=R.rep i u hS
 rw[hv] at k1
 cases k1
 obtain⟨b,o2,e1,f,e2,k⟩:=k2.eY hm
 cases e1
 rw[hi] at e2
 cases e2
 exact⟨f,k⟩
section
variable {X:Cx}{a b c e:Expr}{es:List Expr}{pos p p2 apos cpos px:Pos}{x name:Str}{g ga gb gc:GD}{gA:GA}{id:String}
theorem vc {i:Nat}{r:V->List V->Hp->VK->Prop}{h:List D->MO->Option (D×MO)}(slot:Slot "list" name id) (hty:typeOf (.builtin id)=pure (.type "method_descriptor")) (hm:U8 X id r) (hh:SO r h) (hl:∀args o,gq o=false->h args o=none) (ha:JA X (e :: es) gA)
  (hN:X.N[i]? =some x:=by rfl) (hv:Gw X.env.scope x:=by first | exact Or.inl rfl | exact Or.inr (Or.inl rfl) | exact Or.inr (Or.inr rfl))
  (hbase:attributeBase (.Name x px) name X.env (eval (.Name x px) X.env)=eval (.Name x px) X.env:=by rfl)
  (hfew:((backTo cpos (starEach (e :: es) X.env)).all (fun x=>!x.1) && (backToKw cpos (keywordEach [] X.env)).all (fun x=>x.1.isSome)
   && decide ((e :: es).length+([]:List Keyword).length+(if([]:List Keyword).isEmpty then 0 else 1) < 30))=true:=by rfl)
  (hline:(apos.endLine == cpos.line)=true:=by rfl) (hs:starEach (e :: es) X.env=(false,eval e X.env) :: starEach es X.env:=by rfl) (hplain:(backTo cpos (starEach es X.env)).any (·.1)=false:=by rfl)
  (hd:(x == ("__debug__":Str))=false:=by decide) (hcd:(x == ("__classdict__":Str))=false:=by decide):
  JD X (.Call (.Attribute (.Name x px) name apos) (e :: es) [] cpos) (eM i h gA):=
 ⟨fun B=>(Sm PySem.F.plainAttrs_list slot hty hm (jF hN hv hd hcd) (ha.h B) hbase hfew hline hs hplain).imp fun σ H Q ⟨S,F,d,S',R,hg,q⟩=>by
 unfold eM at hg
 split at hg
 ·rename_i hL
  obtain⟨⟨args,S1⟩,h1,hg⟩:=aq hg
  obtain⟨u,u',o,o',hS,OM,hio,hf,ON,rfl⟩:=sP hg
  obtain⟨u0,a,U7,DC,_,_,_,hv0,_,hH,_⟩:=HG R hL
  cases o with
  | dct kvs=>rw[hl _ _ rfl] at hf;cases hf
  | cU kvs=>rw[hl _ _ rfl] at hf;cases hf
  | ins C kvs=>rw[hl _ _ rfl] at hf;cases hf
  | lst ds=>
   refine⟨.ref a,hv0,.inl ⟨rfl,U7,nT.of hH⟩,S,F,args,S1,R,h1,fun xs F1 H1 R1 st1 r1=>?_⟩
   obtain⟨hf1,vs,Xm,rs⟩:=AM R1 hS OM hio hv0
   refine hh F1 H1 a vs xs ds args d o' R1.sub Xm hf1 rs r1 hf Q fun rv ho rr ha=>?_
   obtain⟨R2,st2⟩:=R1.write hS ON hv0 ha
   exact q rv F1 _ R2 (st1.trans st2) rr
 ·cases hg⟩
theorem HH {i:Nat}{r:V->List V->Hp->VK->Prop}{h:List D->MO->Option (D×MO)}(slot:Slot "list" name id) (hty:typeOf (.builtin id)=pure (.type "method_descriptor")) (hm:U8 X id r) (hh:SO r h) (hl:∀args o,gq o=false->h args o=none)
  (hN:X.N[i]? =some x:=by rfl) (hv:Gw X.env.scope x:=by first | exact Or.inl rfl | exact Or.inr (Or.inl rfl) | exact Or.inr (Or.inr rfl))
  (hbase:attributeBase (.Name x px) name X.env (eval (.Name x px) X.env)=eval (.Name x px) X.env:=by rfl) (hline:(apos.endLine == cpos.line)=true:=by rfl)
  (hd:(x == ("__debug__":Str))=false:=by decide) (hcd:(x == ("__classdict__":Str))=false:=by decide):
  JD X (.Call (.Attribute (.Name x px) name apos) [] [] cpos) (eM i h aA):=
 ⟨fun B=>(Om PySem.F.plainAttrs_list slot hty hm (jF hN hv hd hcd) hbase hline).imp fun σ H Q ⟨S,F,d,S',R,hg,q⟩=>by
 unfold eM at hg
 split at hg
 ·rename_i hL
  obtain⟨⟨args,S1⟩,h1,hg⟩:=aq hg
  cases h1
  obtain⟨u,u',o,o',hS,OM,hio,hf,ON,rfl⟩:=sP hg
  obtain⟨u0,a,U7,DC,_,_,_,hv0,_,hH,_⟩:=HG R hL
  cases o with
  | dct kvs=>rw[hl _ _ rfl] at hf;cases hf
  | cU kvs=>rw[hl _ _ rfl] at hf;cases hf
  | ins C kvs=>rw[hl _ _ rfl] at hf;cases hf
  | lst ds=>
   refine⟨.ref a,hv0,.inl ⟨rfl,U7,nT.of hH⟩,?_⟩
   obtain⟨hf1,vs,Xm,rs⟩:=AM R hS OM hio hv0
   refine hh F H a vs [] ds [] d o' R.sub Xm hf1 rs .nil hf Q fun rv ho rr ha=>?_
   obtain⟨R2,st2⟩:=R.write hS ON hv0 ha
   exact q rv F _ R2 st2 rr
 ·cases hg⟩
noncomputable def hAppend:List D->MO->Option (D×MO)
 | [d],.lst ds=>if ds.length < 100000 then some (.dR,.lst (ds++[d])) else none
 | _,_=>none
theorem sQ : SO Dw hAppend := by
  intro F H a vs xs ds args res o' sb hH fa rs rx hw Q q
  unfold hAppend at hw
  split at hw
  . rename_i d ds' e2
    cases e2
    split at hw
    . rename_i hl
      cases hw
      cases rx with
      | cons r rr=>
        cases rr
        exact⟨a,vs,_,rfl,rfl,hH,by rw[rs.length];exact Nat.lt_of_lt_of_le hl (by decide),q .dR _ .dR ⟨_,bx,rs.append (.cons r .nil)⟩⟩
    . cases hw
  . cases hw
noncomputable def ad7:List D->MO->Option (D×MO)
 | [],.lst ds=>(ds[ds.length - 1]?).map fun d=>(d,.lst ds.dropLast)
 | _,_=>none
theorem bN.dropLast {F:Hp}{vs:List V}{ds:List D}(r:bN F vs ds):bN F vs.dropLast ds.dropLast:=by
 rw[List.dropLast_eq_take,List.dropLast_eq_take,r.length]
 exact r.take _
noncomputable def ng:List D->MO->Option (D×MO)
 | [.int i],.lst ds=>if -(2 ^ 63)<=i/\i < 2 ^ 63 then(seqIndex? i ds.length).bind fun k=>(ds[k]?).map fun d=>(d,.lst (ds.eraseIdx k)) else none
 | _,_=>none
theorem bN.eraseIdx {F:Hp}:∀{vs:List V}{ds:List D}(k:Nat),bN F vs ds->bN F (vs.eraseIdx k) (ds.eraseIdx k)
 | _,_,_,.nil=>.nil
 | _,_,0,.cons _ rs=>rs
 | _,_,k+1,.cons r rs=>.cons r (bN.eraseIdx k rs)
theorem HJ : SO G8 ng := by
  intro F H a vs xs ds args res o' sb hH fa rs rx hw Q q
  unfold ng at hw
  split at hw
  . rename_i i ds' e2
    cases e2
    split at hw
    . rename_i hb
      obtain⟨k,hk,hw⟩:=aq hw
      obtain⟨d,hd,hw⟩:=aH hw
      cases hw
      cases rx with
      | cons r rr=>
        cases rr
        obtain⟨v,k1,k2⟩:=rs.get hd
        exact⟨a,vs,i,k,v,rfl,by rw[gH r],hH,hb.1,hb.2,by rw[rs.length];exact hk,k1,q v _ k2 ⟨_,bx,rs.eraseIdx k⟩⟩
    . cases hw
  . cases hw
noncomputable def jj:List D->MO->Option (D×MO)
 | [],.lst ds=>some (.dR,.lst ds.reverse)
 | _,_=>none
theorem bN.reverse {F:Hp}:∀{vs:List V}{ds:List D},bN F vs ds->bN F vs.reverse ds.reverse
 | _,_,.nil=>.nil
 | _,_,.cons r rs=>by rw[List.reverse_cons,List.reverse_cons];exact(bN.reverse rs).append (.cons r .nil)
theorem Co:SO AD jj:=by
 intro F H a vs xs ds args res o' sb hH fa rs rx hw Q q
 unfold jj at hw
 split at hw
 ·rename_i ds' e2
  cases e2
  cases hw
  cases rx
  exact⟨a,vs,rfl,rfl,hH,q .dR _ .dR ⟨_,bx,rs.reverse⟩⟩
 ·cases hw
end
theorem kr.step {K:PySem.W.Frag}{B:Base}{S S':SS}{σ:St}{H0 F H F' H':Hp}{v:V}{u:U}(r:kr K B S σ H0 F H v u) (st:Step S S' σ F H F' H'):kr K B S' σ H0 F' H' v u:=by
 cases u with
 | t d=>exact r.le st.ext.le
 | b o=>exact r
 | v i=>obtain⟨h1,u,h2⟩:=r;exact⟨h1,st.slots i u h2⟩
 | s i=>obtain⟨a,e,h⟩:=r;exact⟨a,e,h.le st.ext.lN⟩
 | f i=>exact r
 | m o=>
  obtain⟨a,e,h0,f,h,n,hB⟩:=r
  obtain⟨ho,hh⟩:=h.has
  exact⟨a,e,h0,st.ext.kq a ho hh n f,h.le st.ext.le fun o z=>st.ext.keep a o z n,fun m=>n (st.mu a m),hB⟩
noncomputable abbrev GU:=SS->Option (List U×SS)
noncomputable def tAU (K:PySem.W.Frag) (B:Base) (gu:GU):TA:=fun σ H Q=>∃S F us S',Rel K B S σ F H/\gu S=some (us,S')/\∀vs F' H',Rel K B S' σ F' H'->Step S S' σ F H F' H'->Paired (fun v u=>kr K B S' σ H F' H' v u) vs us->Q vs H'
structure JU (X:Cx) (es:List Expr) (gu:GU):Prop where
 h:∀B,PA X es (tAU X.K B gu)
 len:∀S us S',gu S=some (us,S')->us.length=es.length
noncomputable def bq:GU:=fun S=>some ([],S)
noncomputable def aC (g:GD) (gu:GU):GU:=fun S=>(g S).bind fun p=>(gu p.2).map fun q=>(.t p.1 :: q.1,q.2)
noncomputable def cC (g:GE) (gu:GU):GU:=fun S=>(g S).bind fun p=>(gu p.2).map fun q=>(p.1 :: q.1,q.2)
section
variable {X:Cx}{e:Expr}{es:List Expr}{g:GD}{ge:GE}{gu:GU}
theorem aU:JU X [] bq:=⟨fun B=>y9.imp fun σ H Q ⟨S,F,us,S',R,hg,q⟩=>by
 cases hg
 exact q [] F H R (Step.refl ..) .nil,fun S us S' h=>by cases h;rfl⟩
theorem au (h:JD X e g) (hr:JU X es gu) (hs:starEach (e :: es) X.env=(false,eval e X.env) :: starEach es X.env:=by rfl):JU X (e :: es) (aC g gu):=
 ⟨fun B=>(pP (h.h B) (hr.h B) hs).imp fun σ H Q ⟨S,F,us,S',R,hg,q⟩=>by
 obtain⟨⟨d,S1⟩,h1,hg⟩:=aq hg
 obtain⟨⟨OO,S2⟩,h2,hg⟩:=aH hg
 cases hg
 exact⟨S,F,d,S1,R,h1,fun v F1 H1 R1 st1 r1=>⟨S1,F1,OO,S2,R1,h2,fun vs F2 H2 R2 st2 r2=>q _ F2 H2 R2 (st1.trans st2) (.cons (r1.le st2.ext.le) (Paired.Ek r2 fun _ _ z=>z.weak st1.ext.there))⟩⟩,
 fun S us S' hg=>by
  obtain⟨⟨d,S1⟩,h1,hg⟩:=aq hg
  obtain⟨⟨OO,S2⟩,h2,hg⟩:=aH hg
  cases hg
  show OO.length+1=es.length+1
  rw[hr.len _ _ _ h2]⟩
theorem bL (h:JE X e ge) (hr:JU X es gu) (hs:starEach (e :: es) X.env=(false,eval e X.env) :: starEach es X.env:=by rfl):JU X (e :: es) (cC ge gu):=
 ⟨fun B=>(pP (h.h B) (hr.h B) hs).imp fun σ H Q ⟨S,F,us,S',R,hg,q⟩=>by
 obtain⟨⟨d,S1⟩,h1,hg⟩:=aq hg
 obtain⟨⟨OO,S2⟩,h2,hg⟩:=aH hg
 cases hg
 exact⟨S,F,d,S1,R,h1,fun v F1 H1 R1 st1 r1=>⟨S1,F1,OO,S2,R1,h2,fun vs F2 H2 R2 st2 r2=>q _ F2 H2 R2 (st1.trans st2) (.cons (r1.step st2) (Paired.Ek r2 fun _ _ z=>z.weak st1.ext.there))⟩⟩,
 fun S us S' hg=>by
  obtain⟨⟨d,S1⟩,h1,hg⟩:=aq hg
  obtain⟨⟨OO,S2⟩,h2,hg⟩:=aH hg
  cases hg
  show OO.length+1=es.length+1
  rw[hr.len _ _ _ h2]⟩
end
noncomputable def resolve (S:SS):U->Option U
 | .t d=>some (.t d)
 | .v i=>match S[i]? with
  | some (some (.m o))=>some (.b o)
  | some (some (.b o))=>some (.b o)
  | _=>none
 | .m o=>some (.b o)
 | .b _=>none
 | .s ns=>some (.s ns)
 | .f a=>some (.f a)
noncomputable def cM (S:SS):List U->Option (List U)
 | []=>some []
 | u :: us=>(resolve S u).bind fun w=>(cM S us).map fun ws=>w :: ws
noncomputable def slotsOf:List U->List Nat
 | []=>[]
 | .v i :: us=>i :: slotsOf us
 | _ :: us=>slotsOf us
noncomputable def dz:List U->Nat
 | []=>0
 | .m _ :: us=>dz us+1
 | _ :: us=>dz us
noncomputable def wb:List U->List MO->SS->Option SS
 | [],[],S=>some S
 | .v i :: us,o :: outs,S=>match S[i]? with
  | some (some (.m _))=>wb us outs (S.set i (some (.m o)))
  | some (some (.b _))=>wb us outs (S.set i (some (.b o)))
  | _=>none
 | .m _ :: us,_ :: outs,S=>wb us outs S
 | .t _ :: us,outs,S=>wb us outs S
 | .s _ :: us,outs,S=>wb us outs S
 | .f _ :: us,outs,S=>wb us outs S
 | _,_,_=>none
noncomputable abbrev FM:=List U->Option (U×List MO)
noncomputable def aO (f:FM) (gu:GU):GE:=fun S=>(gu S).bind fun p=>
 if(slotsOf p.1).Nodup/\dz p.1<=1 then(cM p.2 p.1).bind fun us=>(f us).bind fun r=>(wb p.1 r.2 p.2).map fun S2=>(r.1,S2) else none
noncomputable def HK (K:PySem.W.Frag) (F H:Hp) (v:V):U->Prop
 | .s ns=>∃a,v= .ref a/\K7 K H a ns
 | .f a=>v= .ref a
 | .t d=>Rep F v d
 | .b o=>∃a,v= .ref a/\F a=none/\At F H a o
 | _=>False
noncomputable def addrs:List V->List U->List Addr
 | .ref a :: vs,.b _ :: us=>a :: addrs vs us
 | _ :: vs,_ :: us=>addrs vs us
 | _,_=>[]
structure Post (F H F' H':Hp) (as:List Addr) (outs:List MO):Prop where
 sub:Sub F' H'
 ext:Ext (fun a=>a∈as) F H F' H'
 out:Paired (fun a o=>F' a=none/\At F' H' a o) as outs
noncomputable def spT (K:PySem.W.Frag) (n:Nat) (f:FM):Sp:=fun vs H Q _=>vs.length=n/\∃F us r outs,Sub F H/\Paired (HK K F H) vs us/\(addrs vs us).Nodup/\f us=some (r,outs)/\∀v F' H',Post F H F' H' (addrs vs us) outs->Cj H F' H' v r->Q v H'
section
variable {K:PySem.W.Frag}{B:Base}{S S1 S2:SS}{σ:St}{H0 F H F' H':Hp}
theorem pR {i:Nat}{w:U}(h:resolve S (.v i)=some w):∃u o,S[i]? =some (some u)/\ir u=true/\QS u=some o/\w= .b o:=by
 unfold resolve at h
 dsimp only at h
 split at h
 ·rename_i o e;cases h;exact⟨_,o,e,rfl,rfl,rfl⟩
 ·rename_i o e;cases h;exact⟨_,o,e,rfl,rfl,rfl⟩
 ·cases h
theorem rG (R:Rel K B S σ F H):∀{vs:List V}{us ws:List U},Paired (fun v u=>kr K B S σ H0 F H v u) vs us->cM S us=some ws->Paired (HK K F H) vs ws
 | _,_,_,.nil,h=>by cases h;exact .nil
 | _,_,_,@Paired.cons _ _ _ v u vs us r rs,h=>by
  obtain⟨w,h1,h⟩:=aq h
  obtain⟨ws,h2,h⟩:=aH h
  subst h
  refine .cons ?_ (rG R rs h2)
  cases u with
  | t d=>cases h1;exact r
  | s d=>cases h1;exact r
  | f d=>cases h1;exact r
  | b o=>cases h1
  | m o=>cases h1;obtain⟨a,e,_,f,k,_⟩:=r;exact⟨a,e,f,k⟩
  | v i=>
   obtain⟨u,o,hu,hm,hi,rfl⟩:=pR h1
   obtain⟨hv,_⟩:=r
   obtain⟨v',k1,k2⟩:=R.rep i u hu
   rw[hv] at k1
   cases k1
   obtain⟨a,o2,e,f,e2,k⟩:=k2.eY hm
   rw[hi] at e2
   cases e2
   exact⟨a,e,f,k⟩
theorem rH (R : Rel K B S σ F H) : ∀ {vs : List V} {us ws : List U}, Paired (fun v u => kr K B S σ H0 F H v u) vs us -> cM S us = some ws -> ∀ a ∈ addrs vs ws,
    (∃i u,i∈slotsOf us/\S[i]? =some (some u)/\ir u=true/\σ[i]? =some (some (.ref a)))\/(0 < dz us/\H0 a=none/\B.H a=none/\¬eY S σ a)
  | _,_,_,.nil,h,a,ha=>by cases h;cases ha
  | _,_,_,@Paired.cons _ _ _ v u vs us r rs,h,a,ha=>by
    obtain⟨w,h1,h⟩:=aq h
    obtain⟨ws,h2,h⟩:=aH h
    subst h
    have ih:=rH R rs h2
    cases u with
    | t d=>
      cases h1
      have ha:a∈addrs vs ws:=by cases v <;> exact ha
      exact ih a ha
    | s d=>
      cases h1
      have ha:a∈addrs vs ws:=by cases v <;> exact ha
      exact ih a ha
    | f d=>
      cases h1
      have ha:a∈addrs vs ws:=by cases v <;> exact ha
      exact ih a ha
    | b o=>cases h1
    | m o =>
      cases h1
      obtain⟨c,rfl,k0,f,k,n,hB⟩:=r
      rcases List.mem_cons.mp (show a∈c :: addrs vs ws from ha) with rfl | ha
      . exact .inr ⟨Nat.succ_pos _,k0,hB,n⟩
      . rcases ih a ha with z | ⟨_,z⟩
        . exact .inl z
        . exact .inr ⟨Nat.succ_pos _,z⟩
    | v i =>
      obtain⟨u,o,hu,hm,hi,rfl⟩:=pR h1
      obtain⟨hv,_⟩:=r
      obtain⟨v',k1,k2⟩:=R.rep i u hu
      rw[hv] at k1
      cases k1
      obtain⟨c,o2,rfl,f,e2,k⟩:=k2.eY hm
      rcases List.mem_cons.mp (show a∈c :: addrs vs ws from ha) with rfl | ha
      . exact .inl ⟨i,u,List.mem_cons_self,hu,hm,hv⟩
      . rcases ih a ha with⟨j,w,z,z2⟩ | z
        . exact .inl ⟨j,w,List.mem_cons_of_mem _ z,z2⟩
        . exact .inr z
theorem fO (R : Rel K B S σ F H) : ∀ {vs : List V} {us ws : List U}, Paired (fun v u => kr K B S σ H0 F H v u) vs us -> cM S us = some ws -> (slotsOf us).Nodup -> dz us <= 1 -> (addrs vs ws).Nodup
  | _,_,_,.nil,h,_,_=>by cases h;exact List.nodup_nil
  | _,_,_,@Paired.cons _ _ _ v u vs us r rs,h,nd,fr=>by
    obtain⟨w,h1,h⟩:=aq h
    obtain⟨ws,h2,h⟩:=aH h
    subst h
    cases u with
    | t d=>
      cases h1
      have:=fO R rs h2 nd fr
      cases v <;> exact this
    | s d=>
      cases h1
      have:=fO R rs h2 nd fr
      cases v <;> exact this
    | f d=>
      cases h1
      have:=fO R rs h2 nd fr
      cases v <;> exact this
    | b o=>cases h1
    | m o=>
      cases h1
      have fr0:dz us=0:=by have:dz us+1<=1:=fr;omega
      obtain⟨c,rfl,k0,f,k,n,hB⟩:=r
      refine List.nodup_cons.mpr ⟨fun hc=>?_,fO R rs h2 nd (by omega)⟩
      rcases rH R rs h2 c hc with⟨j,w,_,z1,z2,z3⟩ | ⟨z,_⟩
      . exact n ⟨j,w,z1,z2,z3⟩
      . omega
    | v i =>
      obtain⟨u,o,hu,hm,hi,rfl⟩:=pR h1
      obtain⟨hv,_⟩:=r
      obtain⟨v',k1,k2⟩:=R.rep i u hu
      rw[hv] at k1
      cases k1
      obtain⟨c,o2,rfl,f,e2,k⟩:=k2.eY hm
      obtain⟨Xn,QU⟩:=List.nodup_cons.mp (show(i :: slotsOf us).Nodup from nd)
      refine List.nodup_cons.mpr ⟨fun hc=>?_,fO R rs h2 QU fr⟩
      rcases rH R rs h2 c hc with⟨j,w,z0,z1,z2,z3⟩ | ⟨_,_,_,z⟩
      . have:=R.Dz i j u w c hu hm z1 z2 hv z3
        subst this
        exact Xn z0
      . exact z ⟨i,u,hu,hm,hv⟩
theorem pS (R : Rel K B S σ F H) (P : Addr -> MO -> Prop) : ∀ {vs : List V} {us ws : List U} {outs : List MO} {S1 S2 : SS}, Paired (fun v u => kr K B S σ H0 F H v u) vs us -> cM S us = some ws -> wb us outs S1 = some S2 -> (slotsOf us).Nodup -> Paired P (addrs vs ws) outs ->
    S2.length=S1.length/\(∀j,j∉slotsOf us->S2[j]? =S1[j]?)/\∀j∈slotsOf us,∃u u' o a,S1[j]? =some (some u)/\QO u o=some u'/\S2[j]? =some (some u')/\σ[j]? =some (some (.ref a))/\P a o
  | _,_,_,_,_,_,.nil,h,hw,_,hp=>by
    cases h
    cases hp
    cases hw
    exact⟨rfl,fun _ _=>rfl,fun j hj=>by cases hj⟩
  | _, _, _, outs, S1, S2, @Paired.cons _ _ _ v u vs us r rs, h, hw, nd, hp => by
    obtain⟨w,h1,h⟩:=aq h
    obtain⟨ws,h2,h⟩:=aH h
    subst h
    cases u with
    | t d =>
      cases h1
      have hp:Paired P (addrs vs ws) outs:=by cases v <;> exact hp
      have hw:wb us outs S1=some S2:=by
        cases outs <;> exact hw
      have ih:=pS R P rs h2 hw nd hp
      exact ih
    | s d =>
      cases h1
      have hp:Paired P (addrs vs ws) outs:=by cases v <;> exact hp
      have hw:wb us outs S1=some S2:=by
        cases outs <;> exact hw
      have ih:=pS R P rs h2 hw nd hp
      exact ih
    | f d =>
      cases h1
      have hp:Paired P (addrs vs ws) outs:=by cases v <;> exact hp
      have hw:wb us outs S1=some S2:=by
        cases outs <;> exact hw
      have ih:=pS R P rs h2 hw nd hp
      exact ih
    | b o=>cases h1
    | m o =>
      cases h1
      obtain⟨c,rfl,k0,f,k,n,hB⟩:=r
      cases hp with
      | cons p1 p2=>
        have ih:=pS R P rs h2 (show wb us _ S1=some S2 from hw) nd p2
        exact ih
    | v i =>
      obtain⟨u0,o0,hu,hm,hi,rfl⟩:=pR h1
      obtain⟨hv,_⟩:=r
      obtain⟨v',k1,k2⟩:=R.rep i u0 hu
      rw[hv] at k1
      cases k1
      obtain⟨c,o2,rfl,f,e2,k⟩:=k2.eY hm
      obtain⟨Xn,QU⟩:=List.nodup_cons.mp (show(i :: slotsOf us).Nodup from nd)
      cases hp with
      | @cons _ o _ outs p1 p2 =>
        have go : ∀ u u', S1[i]? = some (some u) -> QO u o = some u' -> wb us outs (S1.set i (some u')) = some S2 -> S2.length = S1.length /\ (∀ j, j ∉ i :: slotsOf us -> S2[j]? = S1[j]?) /\ ∀ j ∈ i :: slotsOf us, ∃ u u' o a, S1[j]? = some (some u) /\ QO u o = some u' /\ S2[j]? = some (some u') /\ σ[j]? = some (some (.ref a)) /\ P a o := fun u u' e1 e2 hw => by
          obtain⟨l,out,EI⟩:=pS R P rs h2 hw QU p2
          refine⟨by rw[l,List.length_set],fun j hj=>?_,fun j hj=>?_⟩
          . rw[out j fun z=>hj (List.mem_cons_of_mem _ z),List.getElem?_set_ne fun z=>hj (by rw[z];exact List.mem_cons_self)]
          . by_cases e:i=j
            . subst e
              exact⟨u,u',o,c,e1,e2,by rw[out i Xn];exact List.getElem?_set_self (List.getElem?_eq_some_iff.mp e1).1,hv,p1⟩
            . rcases List.mem_cons.mp hj with z | z
              . exact absurd z.symm e
              . obtain⟨w,w',o',a',q1,q2,q3,q4,q5⟩:=EI j z
                rw[List.getElem?_set_ne e] at q1
                exact⟨w,w',o',a',q1,q2,q3,q4,q5⟩
        unfold wb at hw
        split at hw
        . rename_i o' e;exact go _ _ e rfl hw
        . rename_i o' e;exact go _ _ e rfl hw
        . cases hw
end
theorem kQ {K : PySem.W.Frag} {B : Base} {S0 S S2 : SS} {σ : St} {F0 H0 F H F' H' : Hp} {vs : List V} {us ws : List U} {outs : List MO} (R : Rel K B S σ F H) (st : Step S0 S σ F0 H0 F H) (rr : Paired (fun v u => kr K B S σ H0 F H v u) vs us) (hr : cM S us = some ws) (hw : wb us outs S = some S2) (nd : (slotsOf us).Nodup) (p : Post F H F' H' (addrs vs ws) outs) :
    Rel K B S2 σ F' H'/\Step S0 S2 σ F0 H0 F' H'/\∀a,eY S2 σ a->eY S σ a:=by
  obtain⟨hl,out,EI⟩:=pS R (fun a o=>F' a=none/\At F' H' a o) rr hr hw nd p.out
  have reM:∀{u:U}{o:MO}{u':U},QO u o=some u'->ir u=true/\ir u'=true/\QS u'=some o:=fun {u o u'} h=>by cases u <;> cases h <;> exact⟨rfl,rfl,rfl⟩
  have orig:∀{j w},S2[j]? =some (some w)->ir w=true->∃w0,S[j]? =some (some w0)/\ir w0=true:=fun {j w} z hm=>by
    by_cases hj:j∈slotsOf us
    . obtain⟨u,u',o,a,q1,q2,q3,q4,q5⟩:=EI j hj
      exact⟨u,q1,(reM q2).1⟩
    . rw[out j hj] at z;exact⟨w,z,hm⟩
  have mu:∀a,eY S2 σ a->eY S σ a:=fun a ⟨j,w,z,hm,hv⟩=>let⟨w0,q,n⟩:=orig z hm;⟨j,w0,q,n,hv⟩
  have DE:=rH R rr hr
  refine⟨⟨p.sub,by rw[hl];exact R.len,fun j w z=>?_,fun j k w1 w2 c z1 m1 z2 m2=>?_,fun j o a z hv=>?_,fun j o a z hv=>?_,fun j a z=>?_,?_⟩,⟨⟨?_,?_,?_,?_,fun b o u z=>p.ext.lN b o u (st.ext.lN b o u z)⟩,fun a m=>st.mu a (mu a m),fun j u z=>?_⟩,mu⟩
  . by_cases hj:j∈slotsOf us
    . obtain⟨u,u',o,a,q1,q2,q3,q4,q5,q6⟩:=EI j hj
      rw[q3] at z
      cases z
      refine⟨.ref a,q4,?_⟩
      cases u <;> cases q2
      . exact⟨a,rfl,q5,q6⟩
      . exact⟨a,rfl,q5,q6⟩
    . rw[out j hj] at z
      obtain⟨v,h1,h2⟩:=R.rep j w z
      refine⟨v,h1,h2.le p.ext.le p.ext.lN fun a hm ha=>?_⟩
      have hna:a∉addrs vs ws:=fun hc=>by
        rcases DE a hc with⟨i,u,q0,q1,q2,q3⟩ | ⟨_,_,_,q⟩
        . have:=R.Dz i j u w a q1 q2 z hm q3 (by rw[h1,ha])
          subst this
          exact hj q0
        . exact q ⟨j,w,z,hm,by rw[h1,ha]⟩
      obtain⟨c,o,e,f,_,k⟩:=h2.eY hm
      rw[ha] at e
      cases e
      obtain⟨ho,hh⟩:=k.has
      exact⟨fun o q=>p.ext.keep a o q hna,p.ext.kq a ho hh hna f⟩
  . obtain⟨Xk,q1,n1⟩:=orig z1 m1
    obtain⟨Xl,q2,n2⟩:=orig z2 m2
    exact R.Dz j k Xk Xl c q1 n1 q2 n2
  . by_cases hj:j∈slotsOf us
    . obtain⟨u,u',o',a',q1,q2,q3,q4,q5⟩:=EI j hj
      rw[q3] at z
      cases z
      cases u <;> cases q2
      exact R.own j _ a q1 hv
    . rw[out j hj] at z;exact R.own j o a z hv
  . by_cases hj:j∈slotsOf us
    . obtain⟨u,u',o',a',q1,q2,q3,q4,q5⟩:=EI j hj
      rw[q3] at z
      cases z
      cases u <;> cases q2
      exact R.bor j _ a q1 hv
    . rw[out j hj] at z;exact R.bor j o a z hv
  . obtain⟨k1,o,k2⟩:=R.par j a z
    refine⟨k1,?_⟩
    by_cases hj:j∈slotsOf us
    . obtain⟨u,u',o',a',q1,q2,q3,q4,q5⟩:=EI j hj
      rw[k2] at q1
      cases q1
      cases q2
      exact⟨_,q3⟩
    . exact⟨o,by rw[out j hj];exact k2⟩
  . refine R.ext.trans p.ext fun b hb=>?_
    rcases DE b hb with⟨i,u,q0,q1,q2,q3⟩ | ⟨_,_,q,_⟩
    . cases u with
      | t d=>cases q2
      | v d=>cases q2
      | s d=>cases q2
      | f d=>cases q2
      | m o=>exact .inr (R.own i o b q1 q3)
      | b o=>exact .inl (R.bor i o b q1 q3)
    . exact .inr q
  . exact fun b o h=>p.ext.le b o (st.ext.le b o h)
  . intro b o h n
    refine p.ext.keep b o (st.ext.keep b o h n) fun hb=>?_
    rcases DE b hb with⟨i,u,q0,q1,q2,q3⟩ | ⟨_,q,_⟩
    . exact n (st.mu b ⟨i,u,q1,q2,q3⟩)
    . rw[h] at q;cases q
  . intro b o h n f
    refine p.ext.kq b o (st.ext.keep b o h n) (fun hb=>?_) (st.ext.kq b o h n f)
    rcases DE b hb with⟨i,u,q0,q1,q2,q3⟩ | ⟨_,q,_⟩
    . exact n (st.mu b ⟨i,u,q1,q2,q3⟩)
    . rw[h] at q;cases q
  . intro b o h
    obtain⟨o',h'⟩:=st.ext.there b o h
    exact p.ext.there b o' h'
  . obtain⟨u',h'⟩:=st.slots j u z
    by_cases hj:j∈slotsOf us
    . obtain⟨_,u2,_,_,_,_,q3,_⟩:=EI j hj
      exact⟨u2,q3⟩
    . exact⟨u',by rw[out j hj];exact h'⟩
section
variable {X:Cx}{e:Expr}{es:List Expr}{gu:GU}{x:Str}{p pos:Pos}{f:FM}{fa:Addr}{fd:FuncData}{ps:List Str}{k n:Nat}
theorem aL (F:bZ X.prog X.w X.K X.mg X.base gn k fa fd ps (spT X.K n f)) (hr:lQ k X.A) (hg:Gl X x) (hm:X.mg x=some (.ref fa)) (hk:PySem.W.keepIn X.K (.ref fa)=true) (hb:Binds X.K fd ps []) (ha:JU X (e :: es) gu) (hn:(e :: es).length=n:=by rfl)
  (hdb:(x == ("__debug__":Str))=false:=by decide) (he:starEach (e :: es) X.env=(false,eval e X.env) :: starEach es X.env:=by rfl) (hpl:(backTo pos (starEach es X.env)).any (·.1)=false:=by rfl):
  JE X (.Call (.Name x p) (e :: es) [] pos) (aO f gu):=⟨fun B=>(KI F hr hg hm hk hb .nil M3 (ha.h B) hdb he hpl).imp fun σ H Q ⟨S,F0,u,S',R,hg,q⟩=>by
 obtain⟨⟨us,S1⟩,h1,hg⟩:=aq hg
 dsimp only at hg
 split at hg
 ·rename_i hc
  obtain⟨ws,h2,hg⟩:=aq hg
  obtain⟨⟨r,outs⟩,h3,hg⟩:=aq hg
  obtain⟨S2,h4,hg⟩:=aH hg
  cases hg
  refine⟨S,F0,us,S1,R,h1,fun vs F1 H1 R1 st1 rr=>?_⟩
  show spT X.K n f (vs++[]) H1 Q E0
  rw[List.append_nil]
  have hlen:vs.length=n:=by rw[rr.length,ha.len _ _ _ h1];exact hn
  refine⟨hlen,F1,ws,r,outs,R1.sub,rG R1 rr h2,fO R1 rr h2 hc.1 hc.2,h3,fun v F2 H2 po rn=>?_⟩
  obtain⟨R2,st2,mu⟩:=kQ R1 st1 rr h2 h4 hc.1 po
  refine q v F2 H2 R2 st2 ?_
  cases r with
  | t d=>exact rn
  | b o=>cases rn
  | v i=>cases rn
  | s i=>cases rn
  | f i=>cases rn
  | m o=>
   obtain⟨a,e,h0,f,h⟩:=rn
   refine⟨a,e,none_of st1.ext.there h0,f,h,fun m=>?_,none_of R1.ext.there h0⟩
   obtain⟨o',ho⟩:=R1.has (mu a m)
   rw[h0] at ho
   cases ho
 ·cases hg⟩
end
noncomputable def aT:List U->SS->Option (List MO)
 | [],_=>some []
 | .b _ :: us,some (.b o) :: S=>(aT us S).map fun os=>o :: os
 | .b _ :: _,_=>none
 | _ :: us,_ :: S=>aT us S
 | _ :: _,[]=>none
noncomputable def aW (n:Nat) (g:GS):FM:=fun us=>(g (us.map some++List.replicate (n - us.length) none)).bind fun o=>match o with
 | .rt (.t d) S=>(aT us S).map fun os=>(.t d,os)
 | .rt (.m o) S=>(aT us S).map fun os=>(.m o,os)
 | .nx S=>(aT us S).map fun os=>(.t .dR,os)
 | _=>none
noncomputable def lent:List V->List U->List (Option Addr)
 | .ref a :: vs,.b _ :: us=>some a :: lent vs us
 | _ :: vs,_ :: us=>none :: lent vs us
 | _,_=>[]
theorem oz:∀(vs:List V) (us:List U) (a:Addr),some a∈lent vs us↔a∈addrs vs us
 | [],us,a=>by cases us <;> simp[lent,addrs]
 | v :: vs,[],a=>by cases v <;> simp[lent,addrs]
 | v :: vs,u :: us,a=>by
  have ih:=oz vs us a
  cases v <;> cases u <;> simp[lent,addrs,ih]
theorem AN:∀{vs:List V}{us:List U}{i:Nat}{a:Addr},(lent vs us)[i]? =some (some a)->vs[i]? =some (.ref a)/\∃o,us[i]? =some (.b o)
 | [],us,i,a,h=>by cases us <;> simp[lent] at h
 | v :: vs,[],i,a,h=>by cases v <;> simp[lent] at h
 | v :: vs,u :: us,0,a,h=>by
  cases v <;> cases u <;> simp[lent] at h
  subst h
  exact⟨rfl,_,rfl⟩
 | v :: vs,u :: us,i+1,a,h=>by
  have h':(lent vs us)[i]? =some (some a):=by cases v <;> cases u <;> simpa[lent] using h
  simpa using AN h'
theorem zz {K:PySem.W.Frag}:∀{F H:Hp}{vs:List V}{us:List U}{i:Nat}{o:MO},Paired (HK K F H) vs us->us[i]? =some (.b o)->∃a,vs[i]? =some (.ref a)/\(lent vs us)[i]? =some (some a)/\F a=none/\At F H a o
 | _,_,_,_,_,_,.nil,h=>by simp at h
 | _,_,_,_,0,o,@Paired.cons _ _ _ v u vs us r rs,h=>by
  simp at h
  subst h
  obtain⟨a,rfl,f,k⟩:=r
  exact⟨a,rfl,rfl,f,k⟩
 | _,_,_,_,i+1,o,@Paired.cons _ _ _ v u vs us r rs,h=>by
  obtain⟨a,h1,h2,h3⟩:=zz (i:=i) rs (by simpa using h)
  refine⟨a,by simpa using h1,?_,h3⟩
  cases v <;> cases u <;> simpa[lent] using h2
theorem ym : ∀ {vs : List V} {us : List U} {i j : Nat} {a : Addr}, (addrs vs us).Nodup -> (lent vs us)[i]? = some (some a) -> (lent vs us)[j]? = some (some a) -> i = j
  | [],us,i,j,a,_,h,_=>by cases us <;> simp[lent] at h
  | v :: vs,[],i,j,a,_,h,_=>by cases v <;> simp[lent] at h
  | v :: vs, u :: us, i, j, a, nd, h1, h2 => by
    have ih:∀{i j},(addrs vs us).Nodup->(lent vs us)[i]? =some (some a)->(lent vs us)[j]? =some (some a)->i=j:=fun {i j}=>ym (i:=i) (j:=j)
    by_cases Xo:∃c o,v= .ref c/\u= .b o
    . obtain⟨c,o,rfl,rfl⟩:=Xo
      obtain⟨n1,n2⟩:=List.nodup_cons.mp (show(c :: addrs vs us).Nodup from nd)
      cases i with
      | zero=>
        cases j with
        | zero=>rfl
        | succ j=>
          have e1:c=a:=by simpa[lent] using h1
          have e2:(lent vs us)[j]? =some (some a):=by simpa[lent] using h2
          subst e1
          exact absurd ((oz vs us c).mp (List.mem_of_getElem? e2)) n1
      | succ i=>
        have e1:(lent vs us)[i]? =some (some a):=by simpa[lent] using h1
        cases j with
        | zero=>
          have e2:c=a:=by simpa[lent] using h2
          subst e2
          exact absurd ((oz vs us c).mp (List.mem_of_getElem? e1)) n1
        | succ j=>exact congrArg Nat.succ (ih n2 e1 (by simpa[lent] using h2))
    . have e1:lent (v :: vs) (u :: us)=none :: lent vs us:=by cases v <;> cases u <;> first | rfl | exact absurd ⟨_,_,rfl,rfl⟩ Xo
      have e2:addrs (v :: vs) (u :: us)=addrs vs us:=by cases v <;> cases u <;> first | rfl | exact absurd ⟨_,_,rfl,rfl⟩ Xo
      rw[e1] at h1 h2
      rw[e2] at nd
      cases i with
      | zero=>simp at h1
      | succ i=>
        cases j with
        | zero=>simp at h2
        | succ j=>exact congrArg Nat.succ (ih nd (by simpa using h1) (by simpa using h2))
theorem qK {α β:Type}{P:α->β->Prop}:∀{l:List α}{r:List β}{i:Nat}{y:β},Paired P l r->r[i]? =some y->∃x,l[i]? =some x/\P x y
 | _,_,_,_,.nil,h=>by simp at h
 | _,_,0,_,.cons p _,h=>by simp at h;subst h;exact⟨_,rfl,p⟩
 | _,_,i+1,_,.cons _ ps,h=>by
  obtain⟨x,h1,h2⟩:=qK (i:=i) ps (by simpa using h)
  exact⟨x,by simpa using h1,h2⟩
theorem pT {K:PySem.W.Frag}{F H:Hp}{vs:List V}{us:List U}{n:Nat}(sb:Sub F H) (ar:Paired (HK K F H) vs us) (nd:(addrs vs us).Nodup) (N:List Str) (hN:N.length=n):
  Rel K ⟨lent vs us,F,H⟩ (us.map some++List.replicate (n - us.length) none) (start N vs) F H:=by
 have hl:vs.length=us.length:=ar.length
 have gS:∀{i:Nat}{u:U},(us.map some++List.replicate (n - us.length) none)[i]? =some (some u)->us[i]? =some u:=fun {i u} h=>by
  rw[List.getElem?_append] at h
  split at h
  ·rw[List.getElem?_map] at h
   obtain⟨w,h1,h2⟩:=aH h
   cases h2
   exact h1
  ·rw[List.getElem?_replicate] at h
   split at h <;> cases h
 have Xp:∀{i:Nat}{v:V},vs[i]? =some v->(start N vs)[i]? =some (some v):=fun {i v} h=>by
  unfold start
  have hi:=(List.getElem?_eq_some_iff.mp h).1
  rw[List.getElem?_append_left (by simpa using hi),List.getElem?_map,h]
  rfl
 have vb:∀{i:Nat}{v w:V},vs[i]? =some v->(start N vs)[i]? =some (some w)->v=w:=fun {i v w} h k=>by
  rw[Xp h] at k
  cases k
  rfl
 have Lc:∀{i:Nat}{u:U},us[i]? =some u->ir u=true->∃o a,u= .b o/\vs[i]? =some (.ref a)/\(lent vs us)[i]? =some (some a)/\F a=none/\At F H a o:=fun {i u} h hm=>by
  obtain⟨v,h1,h2⟩:=qK ar h
  cases u with
  | t d=>cases hm
  | v d=>cases hm
  | s d=>cases hm
  | f d=>cases hm
  | m o=>cases h2
  | b o=>obtain⟨a,k1,k2,k3,k4⟩:=zz ar h;exact⟨o,a,rfl,k1,k2,k3,k4⟩
 refine⟨sb,?_,fun i u h=>?_,fun i j u w a h1 m1 h2 m2 v1 v2=>?_,fun i o a h hv=>?_,fun i o a h hv=>?_,fun i a h=>?_,Ext.refl ..⟩
 ·unfold start;simp[hl,hN]
 ·obtain⟨v,h1,h2⟩:=qK ar (gS h)
  refine⟨v,Xp h1,?_⟩
  cases u with
  | t d=>exact h2
  | s d=>exact h2
  | f d=>exact h2
  | v d=>cases h2
  | m o=>cases h2
  | b o=>exact h2
 ·obtain⟨_,a1,_,k1,k2,_⟩:=Lc (gS h1) m1
  obtain⟨_,a2,_,l1,l2,_⟩:=Lc (gS h2) m2
  have e1:=vb k1 v1
  have e2:=vb l1 v2
  cases e1
  cases e2
  exact ym nd k2 l2
 ·obtain⟨_,_,e,_⟩:=Lc (gS h) rfl
  cases e
 ·obtain⟨_,a1,_,k1,k2,_⟩:=Lc (gS h) rfl
  have e1:=vb k1 hv
  cases e1
  exact List.mem_of_getElem? k2
 ·obtain⟨k1,o,k2⟩:=AN h
  refine⟨Xp k1,o,?_⟩
  have hi:=(List.getElem?_eq_some_iff.mp k2).1
  rw[List.getElem?_append_left (by simpa using hi),List.getElem?_map,k2]
  rfl
theorem zA {F' H' : Hp} : ∀ {vs : List V} {us : List U} {S : SS} {os : List MO}, aT us S = some os -> vs.length = us.length -> (∀ (i : Nat) (o : MO) (a : Addr), (lent vs us)[i]? = some (some a) -> S[i]? = some (some (.b o)) -> F' a = none /\ At F' H' a o) -> (∀ (i : Nat) (o : MO), us[i]? = some (.b o) -> ∃ a, vs[i]? = some (.ref a)) ->
    Paired (fun a o=>F' a=none/\At F' H' a o) (addrs vs us) os
  | [],[],S,os,h,_,_,_=>by cases S <;> (simp[aT] at h;subst h;exact .nil)
  | [],_ :: _,_,_,_,l,_,_=>by cases l
  | _ :: _,[],_,_,_,l,_,_=>by cases l
  | v :: vs, u :: us, S, os, h, l, k, kb => by
    have l':vs.length=us.length:=by simpa using l
    have kb':∀(i:Nat) (o:MO),us[i]? =some (.b o)->∃a,vs[i]? =some (.ref a):=fun i o z=>by simpa using kb (i+1) o (by simpa using z)
    by_cases hu:∃o,u= .b o
    . obtain⟨o,rfl⟩:=hu
      obtain⟨a,ha⟩:=kb 0 o rfl
      have ha:v= .ref a:=by simpa using ha
      subst ha
      cases S with
      | nil=>simp[aT] at h
      | cons s S=>
        cases s with
        | none=>simp[aT] at h
        | some s=>
          cases s with
          | b o'=>
            obtain⟨os',h1,h2⟩:=aH (show(aT us S).map (fun os=>o' :: os)=some os from h)
            subst h2
            exact .cons (k 0 o' a rfl rfl) (zA h1 l' (fun i o a z1 z2=>k (i+1) o a (by simpa[lent] using z1) (by simpa using z2)) kb')
          | t d=>simp[aT] at h
          | m d=>simp[aT] at h
          | v d=>simp[aT] at h
          | s d=>simp[aT] at h
          | f d=>simp[aT] at h
    . cases S with
      | nil=>cases u <;> first | (simp[aT] at h;done) | exact absurd ⟨_,rfl⟩ hu
      | cons s S=>
        have h':aT us S=some os:=by cases u <;> first | exact absurd ⟨_,rfl⟩ hu | simpa[aT] using h
        have e2:addrs (v :: vs) (u :: us)=addrs vs us:=by cases v <;> cases u <;> first | rfl | exact absurd ⟨_,rfl⟩ hu
        have e1:lent (v :: vs) (u :: us)=none :: lent vs us:=by cases v <;> cases u <;> first | rfl | exact absurd ⟨_,rfl⟩ hu
        rw[e2]
        exact zA h' l' (fun i o a z1 z2=>k (i+1) o a (by rw[e1];simpa using z1) (by simpa using z2)) kb'
theorem post_of {K:PySem.W.Frag}{F0 H:Hp}{vs:List V}{us:List U}(ar:Paired (HK K F0 H) vs us) (S':SS) (σ':St) (F' H':Hp) (os:List MO) (R':Rel K ⟨lent vs us,F0,H⟩ S' σ' F' H') (ho':aT us S'=some os):Post F0 H F' H' (addrs vs us) os:=by
 refine⟨R'.sub,⟨R'.ext.le,fun b o z n=>R'.ext.keep b o z fun m=>n ((oz vs us b).mp m),fun b o z n=>R'.ext.kq b o z fun m=>n ((oz vs us b).mp m),R'.ext.there,R'.ext.lN⟩,zA ho' ar.length (fun i o a z1 z2=>?_) fun i o z=>?_⟩
 ·obtain⟨k1,o2,k2⟩:=R'.par i a z1
  obtain⟨v,j1,j2⟩:=R'.rep i _ z2
  rw[k1] at j1
  cases j1
  obtain⟨c,e,f,k⟩:=j2
  cases e
  exact⟨f,k⟩
 ·obtain⟨a,h1,_⟩:=zz ar z
  exact⟨a,h1⟩
section
variable {P:Program}{w:World}{K:PySem.W.Frag}{mg:Str->Option Value}{base:Heap}
theorem uu {x qual:Str}{st:Stmt}{f:Addr}{fd:FuncData}{N ps:List Str}{k:Nat}{fm:FM}{g:GS}(F:qq K x qual st f fd) (Sc:cA N ps (aP st))
  (hb:∀(cdv:Value) (A:Around) (outer:List Env) (s:Shared) (H:Hp) (E:XK),lQ k (A.deeper (envOfC qual (aP st) s.heap.objs.size f cdv))->JB (B9 gn P w K mg base N qual (aP st) f cdv A outer s H E).Rz (bS st) g)
  (hf:∀us r,fm us=some r->aW N.length g us=some r):bZ P w K mg base gn (k+1) f fd ps (spT K ps.length fm):=by
 refine F.ok Sc (fun vs H Q E h=>h.1) fun cdv A outer s H vs Q E hr h=>?_
 obtain⟨hlen,F0,us,r,outs,sb,ar,nd,hfm,q⟩:=h
 have hrun:=hf us (r,outs) hfm
 have J:=hb cdv A outer s H E hr
 refine⟨_,J.h ⟨lent vs us,F0,H⟩,?_⟩
 have R0:=pT sb ar nd N rfl
 obtain⟨o,ho,hrun⟩:=aq hrun
 refine⟨_,F0,o,R0,ho,?_⟩
 have post:=post_of ar
 cases o with
 | bk S'=>cases hrun
 | ct S'=>cases hrun
 | nx S'=>
  obtain⟨os,h1,h2⟩:=aH (show(aT us S').map _=some (r,outs) from hrun)
  cases h2
  exact fun σ' F' H' R' le=>q .dR F' H' (post S' σ' F' H' outs R' h1) .dR
 | rt u S'=>
  cases u with
  | b o=>cases hrun
  | v i=>cases hrun
  | s i=>cases hrun
  | f i=>cases hrun
  | t d=>
   obtain⟨os,h1,h2⟩:=aH (show(aT us S').map _=some (r,outs) from hrun)
   cases h2
   exact fun v σ' F' H' R' le rr=>q v F' H' (post S' σ' F' H' outs R' h1) rr
  | m o=>
   obtain⟨os,h1,h2⟩:=aH (show(aT us S').map _=some (r,outs) from hrun)
   cases h2
   exact fun v σ' F' H' R' le rr=>q v F' H' (post S' σ' F' H' outs R' h1) (by obtain⟨a,e,h0,f,h,n,hB⟩:=rr;exact⟨a,e,hB,f,h⟩)
end
noncomputable def zB (S:SS) (i:Nat):Option U:=match S[i]? with
 | some (some (.t d))=>some (.t d)
 | some (some (.s d))=>some (.s d)
 | some (some (.f d))=>some (.f d)
 | some (some (.m _))=>some (.v i)
 | some (some (.b _))=>some (.v i)
 | _=>none
noncomputable def g8 (S:SS):List Nat->Option (List U)
 | []=>some []
 | i :: cap=>(zB S i).bind fun u=>(g8 S cap).map fun us=>u :: us
noncomputable def eZ:GT:=fun S=>some (true,S)
noncomputable def gO (cap:List Nat) (q:GT) (g:GD):List D->SS->List D->Option (List D×SS)
  | [],S,acc=>some (acc,S)
  | d :: ds, S, acc => (g8 S cap).bind fun us =>
    if(slotsOf us).Nodup/\dz us<=1 then(cM S us).bind fun ws=>(q (some (.t d) :: ws.map some)).bind fun p=>
      if p.1 then(g p.2).bind fun r=>(aT (.t d :: ws) r.2).bind fun outs=>(wb us outs S).bind fun S'=>gO cap q g ds S' (acc++[r.1])
      else(aT (.t d :: ws) p.2).bind fun outs=>(wb us outs S).bind fun S'=>gO cap q g ds S' acc
    else none
noncomputable def oA (cap:List Nat) (gi:GI) (q:GT) (g:GD):GE:=fun S=>(gi S).bind fun p=>if p.1.length<=100000 then(gO cap q g p.1 p.2 []).map fun r=>(.m (.lst r.1),r.2) else none
structure Vc (X:Cx) (es:List Expr) (q:GT):Prop where
 h:∀B,M5 X es (tQ X.K B q)
theorem nh {X:Cx}:Vc X [] eZ:=⟨fun B pins s σ H Q I ⟨S,F,b,S',R,hg,q⟩=>by cases hg;exact K1 pins s σ H Q I (q F H R (Step.refl ..))⟩
theorem zC {K:PySem.W.Frag}{B:Base}{S:SS}{σ:St}{F H:Hp}(R:Rel K B S σ F H):∀{cap:List Nat}{us:List U},g8 S cap=some us->∃vs:List V,cL cap σ=vs.map some/\Paired (fun v u=>kr K B S σ H F H v u) vs us
  | [],us,h=>by cases h;exact⟨[],rfl,.nil⟩
  | i :: cap, us, h => by
    obtain⟨u,h1,h⟩:=aq h
    obtain⟨us',h2,h⟩:=aH h
    subst h
    obtain⟨vs,k1,k2⟩:=zC R h2
    have one:∀w,S[i]? =some (some w)->∃v,σ[i]? =some (some v)/\zp K F H v w:=R.rep i
    unfold zB at h1
    have fin:∀v,σ[i]? =some (some v)->kr K B S σ H F H v u->∃vs:List V,cL (i :: cap) σ=vs.map some/\Paired (fun v u=>kr K B S σ H F H v u) vs (u :: us'):=fun v e r=>
      ⟨v :: vs,by show(σ[i]?).join :: cL cap σ=_;rw[e,k1];rfl,.cons r k2⟩
    split at h1
    . rename_i d e
      cases h1
      obtain⟨v,e1,r⟩:=one _ e
      exact fin v e1 r
    . rename_i d e
      cases h1
      obtain⟨v,e1,r⟩:=one _ e
      exact fin v e1 r
    . rename_i d e
      cases h1
      obtain⟨v,e1,r⟩:=one _ e
      exact fin v e1 r
    . rename_i o e
      cases h1
      obtain⟨v,e1,r⟩:=one _ e
      exact fin v e1 ⟨e1,_,e⟩
    . rename_i o e
      cases h1
      obtain⟨v,e1,r⟩:=one _ e
      exact fin v e1 ⟨e1,_,e⟩
    . cases h1
theorem oB {K:PySem.W.Frag}{B:Base}{S:SS}{σ:St}{F H:Hp}(R:Rel K B S σ F H) (d:D){us ws:List U}(h:cM S us=some ws):cM S (.t d :: us)=some (.t d :: ws):=by
 show(some (U.t d)).bind _=_
 show(cM S us).map _=_
 rw[h]
 rfl
theorem HL {K : PySem.W.Frag} {B : Base} {cap : List Nat} {gi : GI} {q : GT} {g : GD} {σ : St} {H : Hp} {Q : VK} (h : tE K B (oA cap gi q g) σ H Q) : WT (Xj K B gi) cap (fun σ H Q => ∃ B, tQ K B q σ H Q) (fun σ H Q => ∃ B, tD K B g σ H Q) σ H Q := by
  obtain⟨x,_⟩:∃x:Str,True:=⟨"",trivial⟩
  obtain⟨S,F,u,S',R,hg,k⟩:=h
  obtain⟨⟨ds,S1⟩,h1,hg⟩:=aq hg
  dsimp only at hg
  split at hg
  . rename_i hlen
    obtain⟨⟨res,Sf⟩,h2,hg⟩:=aH hg
    cases hg
    refine⟨S,F,ds,S1,R,h1,fun J F1 H1 R1 st1 w=>?_⟩
    refine⟨fun i m ys H'=>∃S2 F2 acc,Rel K B S2 σ F2 H'/\Step S S2 σ F H F2 H'/\(∀b o,F1 b=some o->F2 b=some o)/\bN F2 ys acc/\acc.length<=i/\i<=ds.length/\m=ds.length - i/\gO cap q g (ds.drop i) S2 acc=some (res,Sf),
      ⟨_,S1,F1,[],R1,st1,fun _ _ z=>z,.nil,Nat.le_refl _,Nat.zero_le _,rfl,h2⟩,?_⟩
    rintro i m ys H' ⟨S2,F2,acc,R2,st2,le,ry,ha,hl,rfl,dQ⟩
    refine⟨by rw[ry.length];exact Nat.lt_of_le_of_lt (Nat.le_trans ha (Nat.le_trans hl hlen)) (by decide),?_⟩
    have w':=w F2 H' le R2.sub i
    by_cases hlt:i < ds.length
    . have hd:ds[i]? =some ds[i]:=List.getElem?_eq_getElem hlt
      obtain⟨go,yl⟩:=w'.1 _ hd
      rw[List.drop_eq_getElem_cons hlt] at dQ
      refine .inr ⟨go,fun xv H3 y=>?_⟩
      obtain⟨rfl,rx⟩:=yl xv H3 y
      obtain⟨us,e1,dQ⟩:=aq dQ
      skip
      split at dQ
      . rename_i hnd
        obtain⟨ws,e2,dQ⟩:=aq dQ
        obtain⟨⟨bk,T1⟩,e3,dQ⟩:=aq dQ
        obtain⟨vs,k1,k2⟩:=zC R2 e1
        have rr:Paired (fun v u=>kr K B S2 σ H3 F2 H3 v u) (xv :: vs) (.t ds[i] :: us):=.cons rx k2
        have er:=oB R2 ds[i] e2
        have ar:=rG R2 rr er
        have nd:=fO R2 rr er hnd.1 hnd.2
        have R3:=pT (n:=ws.length+1) R2.sub ar nd (List.replicate (ws.length+1) x) (by simp)
        have hvl:vs.length=ws.length:=by have:=ar.length;simpa using this
        have es:start (List.replicate (ws.length+1) x) (xv :: vs)=some xv :: cL cap σ:=by
          unfold start;rw[k1];simp[hvl]
        have eS:(U.t ds[i] :: ws).map some++List.replicate (ws.length+1 - (U.t ds[i] :: ws).length) none=some (U.t ds[i]) :: ws.map some:=by simp
        rw[es,eS] at R3
        have back:∀(T2:SS) (F3 H4:Hp) (outs:List MO) (S3:SS),Rel K ⟨lent (xv :: vs) (U.t ds[i] :: ws),F2,H3⟩ T2 (some xv :: cL cap σ) F3 H4->aT (U.t ds[i] :: ws) T2=some outs->wb us outs S2=some S3->Rel K B S3 σ F3 H4/\Step S S3 σ F H F3 H4/\(∀b o,F2 b=some o->F3 b=some o):=fun T2 F3 H4 outs S3 RT ho hw=>by
          have po:=post_of ar T2 _ F3 H4 outs RT ho
          obtain⟨Ra,vN,_⟩:=kQ (S0:=S2) (F0:=F2) (H0:=H3) R2 (Step.refl ..) rr er (show wb (U.t ds[i] :: us) outs S2=some S3 by cases outs <;> exact hw) hnd.1 po
          exact⟨Ra,st2.trans vN,vN.ext.le⟩
        refine⟨_,_,F2,bk,T1,R3,e3,fun F3 H4 Na SR=>?_⟩
        cases bk with
        | true=>
          obtain⟨⟨yd,T2⟩,e4,dQ⟩:=aq (show(g T1).bind _=_ from dQ)
          obtain⟨outs,e5,dQ⟩:=aq dQ
          obtain⟨S3,e6,dQ⟩:=aq dQ
          refine zj ⟨_,T1,F3,yd,T2,Na,e4,fun yv F4 H5 SV SW SX=>?_⟩
          obtain⟨Ra,vN,AO⟩:=back T2 F4 H5 outs S3 SV e5 e6
          refine⟨ds.length - (i+1),by omega,S3,F4,acc++[yd],Ra,vN,fun b o z=>AO b o (le b o z),(ry.le AO).append (.cons SX .nil),by simp;omega,hlt,rfl,dQ⟩
        | false=>
          obtain⟨outs,e5,dQ⟩:=aq (show(aT (U.t ds[i] :: ws) T1).bind _=_ from dQ)
          obtain⟨S3,e6,dQ⟩:=aq dQ
          obtain⟨Ra,vN,AO⟩:=back T1 F3 H4 outs S3 Na e5 e6
          exact zh ⟨ds.length - (i+1),by omega,S3,F3,acc,Ra,vN,fun b o z=>AO b o (le b o z),ry.le AO,by omega,hlt,rfl,dQ⟩
      . cases dQ
    . have e:i=ds.length:=by omega
      subst e
      rw[List.drop_length] at dQ
      cases dQ
      refine .inl ⟨w'.2 (Nat.le_refl _),fun p hp=>?_⟩
      have n:=iU.obj (F:=F2) hp (.lst ys)
      refine k (.ref p) F2 _ (R2.new n (R2.sub.same n.same)) (st2.trans n.step) ⟨p,rfl,none_of st2.ext.there hp,R2.sub.fresh hp,⟨ys,bx,ry⟩,fun m=>?_,none_of R2.ext.there hp⟩
      obtain⟨o,ho⟩:=R2.has m
      rw[hp] at ho
      cases ho
  . cases hg
theorem vd {X:Cx}{elt iter:Expr}{ifs:List Expr}{x:Str}{px pos:Pos}{scope:Scope}{cl:List (Str×Addr)}{cJ:List Str}{cap:List Nat}{gi:GI}{q:GT}{g:GD}(T:lU X x cJ cap scope cl) (hc:X.calm=true) (hi:JI X (.Name x px) iter gi)
  (ht:∀C s H fp,Vc (fC X (x :: cJ) scope cl C s H fp) ifs q) (he:∀C s H fp,JD (fC X (x :: cJ) scope cl C s H fp) elt g)
  (hs:∀x,foldedSetIterable iter X.env x=pure x:=by intro _;rfl):JE X (.ListComp elt [⟨.Name x px,iter,ifs,0⟩] scope pos) (oA cap gi q g):=⟨fun B=>by
 exact(Hr (tc:=fun σ H Q=>∃B,tQ X.K B q σ H Q) (te:=fun σ H Q=>∃B,tD X.K B g σ H Q) T hc (hi.h B) (fun C s H fp pins s' σ H' Q I ⟨B',z⟩=>(ht C s H fp).h B' pins s' σ H' Q I z) (fun C s H fp pins s' σ H' Q I ⟨B',z⟩=>(he C s H fp).h B' pins s' σ H' Q I z) hs).imp fun σ H Q h=>HL h⟩
mutual
noncomputable def ni:D->D->Bool
 | .dR,.dR=>true
 | .bl a,.bl b=>a == b
 | .int a,.int b=>a == b
 | .bl a,.int b=>(if a then 1 else 0) == b
 | .int a,.bl b=>a == (if b then 1 else 0)
 | .str a,.str b=>a == b
 | .tup a,.tup b=>qL a b
 | .lst a,.lst b=>qL a b
 | _,_=>false
noncomputable def qL:List D->List D->Bool
 | [],[]=>true
 | a :: as,b :: bs=>ni a b && qL as bs
 | _,_=>false
end
mutual
noncomputable def gW:D->Nat
 | .tup ds=>gP ds+1
 | .lst ds=>gP ds+1
 | _=>0
noncomputable def gP:List D->Nat
 | []=>0
 | d :: ds=>max (gW d) (gP ds)
end
mutual
theorem rJ:∀d:D,ni d d=true
 | .dR=>rfl
 | .bl a=>by simp[ni]
 | .int a=>by simp[ni]
 | .str a=>by simp[ni]
 | .tup a=>by unfold ni;exact mO a
 | .lst a=>by unfold ni;exact mO a
theorem mO:∀ds:List D,qL ds ds=true
 | []=>rfl
 | d :: ds=>by unfold qL;rw[rJ d,mO ds];rfl
end
noncomputable def oE (as bs:List D) (j:Nat):Bool:=match as[j]?,bs[j]? with
 | some a,some b=>ni a b
 | _,_=>true
theorem vO (n:Nat) (e:Nat->Bool):(List.range (n+1)).all e=(e 0 && (List.range n).all fun j=>e (j+1)):=by
 rw[List.range_succ_eq_map,List.all_cons,List.all_map]
 rfl
theorem oF:∀{as bs:List D},as.length≠bs.length->qL as bs=false
 | [],[],h=>absurd rfl h
 | [],_ :: _,_=>rfl
 | _ :: _,[],_=>rfl
 | a :: as,b :: bs,h=>by
  unfold qL
  rw[oF (as:=as) (bs:=bs) (fun z=>h (by simp[z])),Bool.and_false]
theorem kR:∀{as bs:List D},as.length=bs.length->(List.range as.length).all (oE as bs)=qL as bs
 | [],[],_=>rfl
 | [],_ :: _,h=>by cases h
 | _ :: _,[],h=>by cases h
 | a :: as,b :: bs,h=>by
  have h':as.length=bs.length:=by simpa using h
  show(List.range (as.length+1)).all _=_
  rw[vO]
  unfold qL
  have ih:=kR h'
  have e:(fun j=>oE (a :: as) (b :: bs) (j+1))=oE as bs:=by funext j;simp[oE]
  rw[e,ih]
  rfl
mutual
theorem Rep.uniq {F:Hp}:∀{v:V}{d e:D},Rep F v d->Rep F v e->d=e
 | _,_,_,.dR,r=>by cases r;rfl
 | _,_,_,.bl b,r=>by cases r;rfl
 | _,_,_,.int b,r=>by cases r;rfl
 | _,_,_,.str b,r=>by cases r;rfl
 | _,_,_,.tup e1 r1,r=>by
  cases r with
  | tup e2 r2=>rw[e1] at e2;cases e2;rw[bN.uniq r1 r2]
  | lst e2 r2=>rw[e1] at e2;cases e2
 | _,_,_,.lst e1 r1,r=>by
  cases r with
  | tup e2 r2=>rw[e1] at e2;cases e2
  | lst e2 r2=>rw[e1] at e2;cases e2;rw[bN.uniq r1 r2]
theorem bN.uniq {F:Hp}:∀{vs:List V}{ds es:List D},bN F vs ds->bN F vs es->ds=es
 | _,_,_,.nil,r=>by cases r;rfl
 | _,_,_,.cons r1 s1,r=>by
  cases r with
  | cons r2 s2=>rw[Rep.uniq r1 r2,bN.uniq s1 s2]
end
section
variable {X:Cx}{pins:List (Addr×Obj)}{σ:St}{F H:Hp}{s:Shared}
theorem Sub.isTup (I:Inv X pins σ H s) (sb:Sub F H){a:Addr}{vs:List V}(h:F a=some (.tup vs)):∃its:List Value,Vals vs its/\s.heap.IsTuple a its.toArray:=by
 obtain⟨its,rv,p,_⟩:=I.tuple (.inl (Rd.of (sb a _ h)))
 exact⟨its,rv,p⟩
theorem Sub.gq (I:Inv X pins σ H s) (sb:Sub F H){a:Addr}{vs:List V}(h:F a=some (.lst vs)):∃its:List Value,Vals vs its/\s.heap.IsList a its.toArray:=by
 obtain⟨its,rv,p,_⟩:=I.list (.inl (Rd.of (sb a _ h)))
 exact⟨its,rv,p.isList⟩
noncomputable def jW (A:Around) (s:Shared) (its cE:List Value) (ds es:List D):Prop:=∀j (h1:j < its.toArray.size) (h2:j < cE.toArray.size),SeqAt.EqAt A.in1 s its.toArray[j] cE.toArray[j] (oE ds es j)
theorem DF {n m:Nat}(h:n=m) (e:Nat->Bool):((List.range (min n m)).all e && n == m)=(List.range n).all e:=by
 subst h;simp
theorem rK {A:Around}{ca cb:Addr}{gU cE:List Value}{ds es:List D}(hu:A.units < cLine) (pa:s.heap.IsTuple ca gU.toArray) (pb:s.heap.IsTuple cb cE.toArray) (la:gU.length=ds.length) (lb:cE.length=es.length) (h:jW A s gU cE ds es):
  SeqAt.RcAt A s (.ref ca) (.ref cb) (qL ds es):=by
 have q:=SeqAt.RcAt.tuples (e:=oE ds es) pa pb hu h
 rw[List.size_toArray,List.size_toArray,la,lb] at q
 by_cases hl:ds.length=es.length
 ·rw[DF hl,kR hl] at q;exact q
 ·rw[oF hl]
  have:(ds.length == es.length)=false:=by simpa using hl
  rw[this,Bool.and_false] at q
  exact q
theorem vP {A:Around}{ca cb:Addr}{gU cE:List Value}{ds es:List D}(hu:A.units < cLine) (pa:s.heap.IsTuple ca gU.toArray) (pb:s.heap.IsTuple cb cE.toArray) (la:gU.length=ds.length) (lb:cE.length=es.length) (h:jW A s gU cE ds es):
  SeqAt.RcNeAt A s (.ref ca) (.ref cb) (!qL ds es):=by
 have q:=SeqAt.RcNeAt.tuples (e:=oE ds es) pa pb hu h
 rw[List.size_toArray,List.size_toArray,la,lb] at q
 by_cases hl:ds.length=es.length
 ·rw[DF hl,kR hl] at q;exact q
 ·rw[oF hl]
  have:(ds.length == es.length)=false:=by simpa using hl
  rw[this,Bool.and_false] at q
  exact q
theorem uv {A:Around}{ca cb:Addr}{gU cE:List Value}{ds es:List D}(hu:A.units < cLine) (pa:s.heap.IsList ca gU.toArray) (pb:s.heap.IsList cb cE.toArray) (la:gU.length=ds.length) (lb:cE.length=es.length) (h:jW A s gU cE ds es):
  SeqAt.RcAt A s (.ref ca) (.ref cb) (qL ds es):=by
 by_cases hl:ds.length=es.length
 ·have q:=SeqAt.RcAt.lists (e:=oE ds es) pa pb (by rw[List.size_toArray,List.size_toArray,la,lb];exact hl) hu h
  rw[List.size_toArray,la,kR hl] at q;exact q
 ·rw[oF hl]
  exact SeqAt.RcAt.lists_lengths pa pb (by rw[List.size_toArray,List.size_toArray,la,lb];simpa using hl) hu
theorem xC {A:Around}{ca cb:Addr}{gU cE:List Value}{ds es:List D}(hu:A.units < cLine) (pa:s.heap.IsList ca gU.toArray) (pb:s.heap.IsList cb cE.toArray) (la:gU.length=ds.length) (lb:cE.length=es.length) (h:jW A s gU cE ds es):
  SeqAt.RcNeAt A s (.ref ca) (.ref cb) (!qL ds es):=by
 by_cases hl:ds.length=es.length
 ·have q:=SeqAt.RcNeAt.lists (e:=oE ds es) pa pb (by rw[List.size_toArray,List.size_toArray,la,lb];exact hl) hu h
  rw[List.size_toArray,la,kR hl] at q;exact q
 ·rw[oF hl]
  exact SeqAt.RcNeAt.lists_lengths pa pb (by rw[List.size_toArray,List.size_toArray,la,lb];simpa using hl) hu
theorem fG {α:Type}(l:List α) (j:Nat) (h:j < l.toArray.size):l[j]? =some l.toArray[j]:=by
 have z:j < l.length:=by simpa using h
 simp[z]
mutual
theorem Nb (I : Inv X pins σ H s) (sb : Sub F H) : ∀ (d : D) {e : D} {A : Around} {x y : V} {u w' : Value}, Rep F x d -> Rep F y e -> RelV x u -> RelV y w' -> A.units + gW d < cLine -> SeqAt.EqAt A s u w' (ni d e) := fun d {e A x y u w'} r1 r2 rx ry hu => by
  cases r1 with
  | dR=>
    cases rx
    cases r2 with
    | dR=>cases ry;exact SeqAt.EqAt.same _
    | bl b=>cases ry;exact SeqAt.EqAt.none_bool b
    | int b=>obtain⟨tb,rfl⟩:=ry;exact SeqAt.EqAt.none_int b tb
    | str b=>obtain⟨tb,rfl⟩:=ry;exact SeqAt.EqAt.none_str b tb
    | @tup cb oG mQ eb rb=>cases ry;obtain⟨cE,kT,pb⟩:=sb.isTup I eb;exact SeqAt.EqAt.none_tuple pb (by omega)
    | @lst cb oG mQ eb rb=>cases ry;obtain⟨cE,kT,pb⟩:=sb.gq I eb;exact SeqAt.EqAt.none_list pb (by omega)
  | bl a=>
    cases rx
    cases r2 with
    | dR=>cases ry;exact SeqAt.EqAt.bool_none a
    | bl b=>cases ry;exact SeqAt.EqAt.bool_bool a b
    | int b=>obtain⟨tb,rfl⟩:=ry;exact SeqAt.EqAt.bool_int a b tb
    | str b=>obtain⟨tb,rfl⟩:=ry;exact SeqAt.EqAt.bool_str a b tb
    | @tup cb oG mQ eb rb=>cases ry;obtain⟨cE,kT,pb⟩:=sb.isTup I eb;exact SeqAt.EqAt.bool_tuple a pb (by omega)
    | @lst cb oG mQ eb rb=>cases ry;obtain⟨cE,kT,pb⟩:=sb.gq I eb;exact SeqAt.EqAt.bool_list a pb (by omega)
  | int a=>
    obtain⟨ta,rfl⟩:=rx
    cases r2 with
    | dR=>cases ry;exact SeqAt.EqAt.int_none a ta
    | bl b=>cases ry;exact SeqAt.EqAt.int_bool a ta b
    | int b=>obtain⟨tb,rfl⟩:=ry;exact SeqAt.EqAt.int_int a ta b tb
    | str b=>obtain⟨tb,rfl⟩:=ry;exact SeqAt.EqAt.int_str a ta b tb
    | @tup cb oG mQ eb rb=>cases ry;obtain⟨cE,kT,pb⟩:=sb.isTup I eb;exact SeqAt.EqAt.int_tuple a ta pb (by omega)
    | @lst cb oG mQ eb rb=>cases ry;obtain⟨cE,kT,pb⟩:=sb.gq I eb;exact SeqAt.EqAt.int_list a ta pb (by omega)
  | str a=>
    obtain⟨ta,rfl⟩:=rx
    cases r2 with
    | dR=>cases ry;exact SeqAt.EqAt.str_none a ta
    | bl b=>cases ry;exact SeqAt.EqAt.str_bool a ta b
    | int b=>obtain⟨tb,rfl⟩:=ry;exact SeqAt.EqAt.str_int a ta b tb
    | str b=>obtain⟨tb,rfl⟩:=ry;exact SeqAt.EqAt.str_str a ta b tb
    | @tup cb oG mQ eb rb=>cases ry;obtain⟨cE,kT,pb⟩:=sb.isTup I eb;exact SeqAt.EqAt.str_tuple a ta pb (by omega)
    | @lst cb oG mQ eb rb=>cases ry;obtain⟨cE,kT,pb⟩:=sb.gq I eb;exact SeqAt.EqAt.str_list a ta pb (by omega)
  | @tup ca SY qi ea ra=>
    cases rx;obtain⟨gU,AQ,pa⟩:=sb.isTup I ea
    cases r2 with
    | dR=>cases ry;exact SeqAt.EqAt.tuple_none pa (by omega)
    | bl b=>cases ry;exact SeqAt.EqAt.tuple_bool b pa (by omega)
    | int b=>obtain⟨tb,rfl⟩:=ry;exact SeqAt.EqAt.tuple_int b tb pa (by omega)
    | str b=>obtain⟨tb,rfl⟩:=ry;exact SeqAt.EqAt.tuple_str b tb pa (by omega)
    | @tup cb oG mQ eb rb=>cases ry;obtain⟨cE,kT,pb⟩:=sb.isTup I eb;exact(by
      have hd:A.units+(gP qi+1) < cLine:=hu
      have items:jW A s gU cE qi mQ:=fun j h1 h2=>kU I sb qi (A:=A.in1) ra rb AQ kT (by show A.units+1+gP qi < cLine;omega) (fG gU j h1) (fG cE j h2)
      by_cases hc:ca=cb
      . subst hc
        rw[ea] at eb
        cases eb
        obtain rfl:=bN.uniq ra rb
        show SeqAt.EqAt A s _ _ (qL qi qi)
        rw[mO]
        exact SeqAt.EqAt.same _
      . exact SeqAt.EqAt.of_refs hc (rK (by omega) pa pb (AQ.length.symm.trans ra.length) (kT.length.symm.trans rb.length) items))
    | @lst cb oG mQ eb rb=>cases ry;obtain⟨cE,kT,pb⟩:=sb.gq I eb;exact SeqAt.EqAt.tuple_list pa pb (by omega)
  | @lst ca SY qi ea ra=>
    cases rx;obtain⟨gU,AQ,pa⟩:=sb.gq I ea
    cases r2 with
    | dR=>cases ry;exact SeqAt.EqAt.list_none pa (by omega)
    | bl b=>cases ry;exact SeqAt.EqAt.list_bool b pa (by omega)
    | int b=>obtain⟨tb,rfl⟩:=ry;exact SeqAt.EqAt.list_int b tb pa (by omega)
    | str b=>obtain⟨tb,rfl⟩:=ry;exact SeqAt.EqAt.list_str b tb pa (by omega)
    | @tup cb oG mQ eb rb=>cases ry;obtain⟨cE,kT,pb⟩:=sb.isTup I eb;exact SeqAt.EqAt.list_tuple pa pb (by omega)
    | @lst cb oG mQ eb rb=>cases ry;obtain⟨cE,kT,pb⟩:=sb.gq I eb;exact(by
      have hd:A.units+(gP qi+1) < cLine:=hu
      have items:jW A s gU cE qi mQ:=fun j h1 h2=>kU I sb qi (A:=A.in1) ra rb AQ kT (by show A.units+1+gP qi < cLine;omega) (fG gU j h1) (fG cE j h2)
      by_cases hc:ca=cb
      . subst hc
        rw[ea] at eb
        cases eb
        obtain rfl:=bN.uniq ra rb
        show SeqAt.EqAt A s _ _ (qL qi qi)
        rw[mO]
        exact SeqAt.EqAt.same _
      . exact SeqAt.EqAt.of_refs hc (uv (by omega) pa pb (AQ.length.symm.trans ra.length) (kT.length.symm.trans rb.length) items))
theorem kU (I : Inv X pins σ H s) (sb : Sub F H) : ∀ (ds : List D) {es : List D} {A : Around} {vs ws : List V} {us us' : List Value} {j : Nat} {u w' : Value}, bN F vs ds -> bN F ws es -> Vals vs us -> Vals ws us' -> A.units + gP ds < cLine -> us[j]? = some u -> us'[j]? = some w' -> SeqAt.EqAt A s u w' (oE ds es j) := fun ds {es A vs ws us us' j u w'} r1 r2 v1 v2 hu h1 h2 => by
  cases r1 with
  | nil=>cases v1;simp at h1
  | @cons v d vs ds r rs =>
    cases v1 with
    | cons q qs=>
      cases r2 with
      | nil=>cases v2;simp at h2
      | @cons w e ws es r' rs'=>
        cases v2 with
        | cons q' Vd=>
          have hd:A.units+max (gW d) (gP ds) < cLine:=hu
          cases j with
          | zero=>
            simp at h1 h2
            subst h1 h2
            exact Nb I sb d r r' q q' (by omega)
          | succ j=>
            simp at h1 h2
            have:=kU I sb ds (A:=A) rs rs' qs Vd (j:=j) (by omega) h1 h2
            simpa[oE] using this
end
end
section
variable {X:Cx}{pins:List (Addr×Obj)}{σ:St}{F H:Hp}{s:Shared}
theorem S4 (I:Inv X pins σ H s) (sb:Sub F H){d e:D}{A:Around}{x y:V}{u w':Value}(r1:Rep F x d) (r2:Rep F y e) (rx:RelV x u) (ry:RelV y w') (hu:A.units+gW d < cLine):SeqAt.RcAt A s u w' (ni d e):=by
 cases r1 with
 | dR=>
  cases rx
  cases r2 with
  | dR=>cases ry;exact SeqAt.RcAt.none_none
  | bl b=>cases ry;exact SeqAt.RcAt.none_bool b
  | int b=>obtain⟨tb,rfl⟩:=ry;exact SeqAt.RcAt.none_int b tb
  | str b=>obtain⟨tb,rfl⟩:=ry;exact SeqAt.RcAt.none_str b tb
  | @tup cb oG mQ eb rb=>cases ry;obtain⟨cE,kT,pb⟩:=sb.isTup I eb;exact SeqAt.RcAt.none_tuple pb (by omega)
  | @lst cb oG mQ eb rb=>cases ry;obtain⟨cE,kT,pb⟩:=sb.gq I eb;exact SeqAt.RcAt.none_list pb (by omega)
 | bl a=>
  cases rx
  cases r2 with
  | dR=>cases ry;exact SeqAt.RcAt.bool_none a
  | bl b=>cases ry;exact SeqAt.RcAt.bool_bool a b
  | int b=>obtain⟨tb,rfl⟩:=ry;exact SeqAt.RcAt.bool_int a b tb
  | str b=>obtain⟨tb,rfl⟩:=ry;exact SeqAt.RcAt.bool_str a b tb
  | @tup cb oG mQ eb rb=>cases ry;obtain⟨cE,kT,pb⟩:=sb.isTup I eb;exact SeqAt.RcAt.bool_tuple a pb (by omega)
  | @lst cb oG mQ eb rb=>cases ry;obtain⟨cE,kT,pb⟩:=sb.gq I eb;exact SeqAt.RcAt.bool_list a pb (by omega)
 | int a=>
  obtain⟨ta,rfl⟩:=rx
  cases r2 with
  | dR=>cases ry;exact SeqAt.RcAt.int_none a ta
  | bl b=>cases ry;exact SeqAt.RcAt.int_bool a ta b
  | int b=>obtain⟨tb,rfl⟩:=ry;exact SeqAt.RcAt.int_int a ta b tb
  | str b=>obtain⟨tb,rfl⟩:=ry;exact SeqAt.RcAt.int_str a ta b tb
  | @tup cb oG mQ eb rb=>cases ry;obtain⟨cE,kT,pb⟩:=sb.isTup I eb;exact SeqAt.RcAt.int_tuple a ta pb (by omega)
  | @lst cb oG mQ eb rb=>cases ry;obtain⟨cE,kT,pb⟩:=sb.gq I eb;exact SeqAt.RcAt.int_list a ta pb (by omega)
 | str a=>
  obtain⟨ta,rfl⟩:=rx
  cases r2 with
  | dR=>cases ry;exact SeqAt.RcAt.str_none a ta
  | bl b=>cases ry;exact SeqAt.RcAt.str_bool a ta b
  | int b=>obtain⟨tb,rfl⟩:=ry;exact SeqAt.RcAt.str_int a ta b tb
  | str b=>obtain⟨tb,rfl⟩:=ry;exact SeqAt.RcAt.str_str a ta b tb
  | @tup cb oG mQ eb rb=>cases ry;obtain⟨cE,kT,pb⟩:=sb.isTup I eb;exact SeqAt.RcAt.str_tuple a ta pb (by omega)
  | @lst cb oG mQ eb rb=>cases ry;obtain⟨cE,kT,pb⟩:=sb.gq I eb;exact SeqAt.RcAt.str_list a ta pb (by omega)
 | @tup ca SY qi ea ra=>
  cases rx;obtain⟨gU,AQ,pa⟩:=sb.isTup I ea
  cases r2 with
  | dR=>cases ry;exact SeqAt.RcAt.tuple_none pa (by omega)
  | bl b=>cases ry;exact SeqAt.RcAt.tuple_bool b pa (by omega)
  | int b=>obtain⟨tb,rfl⟩:=ry;exact SeqAt.RcAt.tuple_int b tb pa (by omega)
  | str b=>obtain⟨tb,rfl⟩:=ry;exact SeqAt.RcAt.tuple_str b tb pa (by omega)
  | @tup cb oG mQ eb rb=>cases ry;obtain⟨cE,kT,pb⟩:=sb.isTup I eb;exact(by
   have hd:A.units+(gP qi+1) < cLine:=hu
   have items:jW A s gU cE qi mQ:=fun j h1 h2=>kU I sb qi (A:=A.in1) ra rb AQ kT (by show A.units+1+gP qi < cLine;omega) (fG gU j h1) (fG cE j h2)
   exact rK (by omega) pa pb (AQ.length.symm.trans ra.length) (kT.length.symm.trans rb.length) items)
  | @lst cb oG mQ eb rb=>cases ry;obtain⟨cE,kT,pb⟩:=sb.gq I eb;exact SeqAt.RcAt.tuple_list pa pb (by omega)
 | @lst ca SY qi ea ra=>
  cases rx;obtain⟨gU,AQ,pa⟩:=sb.gq I ea
  cases r2 with
  | dR=>cases ry;exact SeqAt.RcAt.list_none pa (by omega)
  | bl b=>cases ry;exact SeqAt.RcAt.list_bool b pa (by omega)
  | int b=>obtain⟨tb,rfl⟩:=ry;exact SeqAt.RcAt.list_int b tb pa (by omega)
  | str b=>obtain⟨tb,rfl⟩:=ry;exact SeqAt.RcAt.list_str b tb pa (by omega)
  | @tup cb oG mQ eb rb=>cases ry;obtain⟨cE,kT,pb⟩:=sb.isTup I eb;exact SeqAt.RcAt.list_tuple pa pb (by omega)
  | @lst cb oG mQ eb rb=>cases ry;obtain⟨cE,kT,pb⟩:=sb.gq I eb;exact(by
   have hd:A.units+(gP qi+1) < cLine:=hu
   have items:jW A s gU cE qi mQ:=fun j h1 h2=>kU I sb qi (A:=A.in1) ra rb AQ kT (by show A.units+1+gP qi < cLine;omega) (fG gU j h1) (fG cE j h2)
   exact uv (by omega) pa pb (AQ.length.symm.trans ra.length) (kT.length.symm.trans rb.length) items)
theorem Ld (I:Inv X pins σ H s) (sb:Sub F H){d e:D}{A:Around}{x y:V}{u w':Value}(r1:Rep F x d) (r2:Rep F y e) (rx:RelV x u) (ry:RelV y w') (hu:A.units+gW d < cLine):SeqAt.RcNeAt A s u w' (!ni d e):=by
 cases r1 with
 | dR=>
  cases rx
  cases r2 with
  | dR=>cases ry;exact SeqAt.RcNeAt.none_none
  | bl b=>cases ry;exact SeqAt.RcNeAt.none_bool b
  | int b=>obtain⟨tb,rfl⟩:=ry;exact SeqAt.RcNeAt.none_int b tb
  | str b=>obtain⟨tb,rfl⟩:=ry;exact SeqAt.RcNeAt.none_str b tb
  | @tup cb oG mQ eb rb=>cases ry;obtain⟨cE,kT,pb⟩:=sb.isTup I eb;exact SeqAt.RcNeAt.none_tuple pb (by omega)
  | @lst cb oG mQ eb rb=>cases ry;obtain⟨cE,kT,pb⟩:=sb.gq I eb;exact SeqAt.RcNeAt.none_list pb (by omega)
 | bl a=>
  cases rx
  cases r2 with
  | dR=>cases ry;exact SeqAt.RcNeAt.bool_none a
  | bl b=>cases ry;exact SeqAt.RcNeAt.bool_bool a b
  | int b=>obtain⟨tb,rfl⟩:=ry;exact SeqAt.RcNeAt.bool_int a b tb
  | str b=>obtain⟨tb,rfl⟩:=ry;exact SeqAt.RcNeAt.bool_str a b tb
  | @tup cb oG mQ eb rb=>cases ry;obtain⟨cE,kT,pb⟩:=sb.isTup I eb;exact SeqAt.RcNeAt.bool_tuple a pb (by omega)
  | @lst cb oG mQ eb rb=>cases ry;obtain⟨cE,kT,pb⟩:=sb.gq I eb;exact SeqAt.RcNeAt.bool_list a pb (by omega)
 | int a=>
  obtain⟨ta,rfl⟩:=rx
  cases r2 with
  | dR=>cases ry;exact SeqAt.RcNeAt.int_none a ta
  | bl b=>cases ry;exact SeqAt.RcNeAt.int_bool a ta b
  | int b=>obtain⟨tb,rfl⟩:=ry;exact SeqAt.RcNeAt.int_int a ta b tb
  | str b=>obtain⟨tb,rfl⟩:=ry;exact SeqAt.RcNeAt.int_str a ta b tb
  | @tup cb oG mQ eb rb=>cases ry;obtain⟨cE,kT,pb⟩:=sb.isTup I eb;exact SeqAt.RcNeAt.int_tuple a ta pb (by omega)
  | @lst cb oG mQ eb rb=>cases ry;obtain⟨cE,kT,pb⟩:=sb.gq I eb;exact SeqAt.RcNeAt.int_list a ta pb (by omega)
 | str a=>
  obtain⟨ta,rfl⟩:=rx
  cases r2 with
  | dR=>cases ry;exact SeqAt.RcNeAt.str_none a ta
  | bl b=>cases ry;exact SeqAt.RcNeAt.str_bool a ta b
  | int b=>obtain⟨tb,rfl⟩:=ry;exact SeqAt.RcNeAt.str_int a ta b tb
  | str b=>obtain⟨tb,rfl⟩:=ry;exact SeqAt.RcNeAt.str_str a ta b tb
  | @tup cb oG mQ eb rb=>cases ry;obtain⟨cE,kT,pb⟩:=sb.isTup I eb;exact SeqAt.RcNeAt.str_tuple a ta pb (by omega)
  | @lst cb oG mQ eb rb=>cases ry;obtain⟨cE,kT,pb⟩:=sb.gq I eb;exact SeqAt.RcNeAt.str_list a ta pb (by omega)
 | @tup ca SY qi ea ra=>
  cases rx;obtain⟨gU,AQ,pa⟩:=sb.isTup I ea
  cases r2 with
  | dR=>cases ry;exact SeqAt.RcNeAt.tuple_none pa (by omega)
  | bl b=>cases ry;exact SeqAt.RcNeAt.tuple_bool b pa (by omega)
  | int b=>obtain⟨tb,rfl⟩:=ry;exact SeqAt.RcNeAt.tuple_int b tb pa (by omega)
  | str b=>obtain⟨tb,rfl⟩:=ry;exact SeqAt.RcNeAt.tuple_str b tb pa (by omega)
  | @tup cb oG mQ eb rb=>cases ry;obtain⟨cE,kT,pb⟩:=sb.isTup I eb;exact(by
   have hd:A.units+(gP qi+1) < cLine:=hu
   have items:jW A s gU cE qi mQ:=fun j h1 h2=>kU I sb qi (A:=A.in1) ra rb AQ kT (by show A.units+1+gP qi < cLine;omega) (fG gU j h1) (fG cE j h2)
   exact vP (by omega) pa pb (AQ.length.symm.trans ra.length) (kT.length.symm.trans rb.length) items)
  | @lst cb oG mQ eb rb=>cases ry;obtain⟨cE,kT,pb⟩:=sb.gq I eb;exact SeqAt.RcNeAt.tuple_list pa pb (by omega)
 | @lst ca SY qi ea ra=>
  cases rx;obtain⟨gU,AQ,pa⟩:=sb.gq I ea
  cases r2 with
  | dR=>cases ry;exact SeqAt.RcNeAt.list_none pa (by omega)
  | bl b=>cases ry;exact SeqAt.RcNeAt.list_bool b pa (by omega)
  | int b=>obtain⟨tb,rfl⟩:=ry;exact SeqAt.RcNeAt.list_int b tb pa (by omega)
  | str b=>obtain⟨tb,rfl⟩:=ry;exact SeqAt.RcNeAt.list_str b tb pa (by omega)
  | @tup cb oG mQ eb rb=>cases ry;obtain⟨cE,kT,pb⟩:=sb.isTup I eb;exact SeqAt.RcNeAt.list_tuple pa pb (by omega)
  | @lst cb oG mQ eb rb=>cases ry;obtain⟨cE,kT,pb⟩:=sb.gq I eb;exact(by
   have hd:A.units+(gP qi+1) < cLine:=hu
   have items:jW A s gU cE qi mQ:=fun j h1 h2=>kU I sb qi (A:=A.in1) ra rb AQ kT (by show A.units+1+gP qi < cLine;omega) (fG gU j h1) (fG cE j h2)
   exact xC (by omega) pa pb (AQ.length.symm.trans ra.length) (kT.length.symm.trans rb.length) items)
noncomputable def jB:List D->Option U
 | [a,b]=>if gW a<=40 then some (.t (.bl (ni a b))) else none
 | _=>none
noncomputable def zD:List D->Option U
 | [a,b]=>if gW a<=40 then some (.t (.bl (!ni a b))) else none
 | _=>none
theorem cG (hu:X.A.units+64 < cLine):AH X (compareOp .Eq) jB:=by
 intro pins s σ H x y v u Q I rx ry ⟨F,ds,w,sb,rs,hw,q⟩
 obtain⟨d,e,rfl,r1,r2⟩:=ur rs
 obtain⟨hd,rfl⟩:=cV (show(if gW d<=40 then some (U.t (.bl (ni d e))) else none)=some w from hw)
 exact S4 I sb r1 r2 rx ry (by omega) _ _ _ _ ⟨.bl _,H,I,rfl,q _ F H (iU.refl ..) sb (.bl _)⟩
theorem kW (hu:X.A.units+64 < cLine):AH X (compareOp .NotEq) zD:=by
 intro pins s σ H x y v u Q I rx ry ⟨F,ds,w,sb,rs,hw,q⟩
 obtain⟨d,e,rfl,r1,r2⟩:=ur rs
 obtain⟨hd,rfl⟩:=cV (show(if gW d<=40 then some (U.t (.bl (!ni d e))) else none)=some w from hw)
 exact Ld I sb r1 r2 rx ry (by omega) _ _ _ _ ⟨.bl _,H,I,rfl,q _ F H (iU.refl ..) sb (.bl _)⟩
noncomputable def inD (x:D) (ds:List D):Bool:=ds.any fun y=>ni y x
noncomputable def Xq:List D->Option U
 | [x,.tup ds]=>if gP ds<=40 then some (.t (.bl (inD x ds))) else none
 | [x,.lst ds]=>if gP ds<=40 then some (.t (.bl (inD x ds))) else none
 | [.str i,.str j]=>some (.t (.bl (!(Builtin.Str.occurrences j i 0 j.length 1).isEmpty)))
 | _=>none
theorem RelV.uniq {v w':V}{u:Value}(a:RelV v u) (b:RelV w' u):v=w':=by
 cases v <;> cases w' <;> simp only[RelV] at a b <;> first
  | rfl
  | (subst a;cases b;done)
  | (subst a;cases b;rfl)
  | (obtain⟨t,rfl⟩:=a;obtain⟨t',e⟩:=b;cases e;done)
  | (obtain⟨t,rfl⟩:=a;obtain⟨t',e⟩:=b;cases e;rfl)
  | (obtain⟨t,rfl⟩:=a;cases b;done)
  | (obtain⟨t,rfl⟩:=b;cases a;done)
open Classical in
noncomputable def Le (F:Hp) (d:D) (y:Value):Bool:=if h:∃(v:V) (dd:D),RelV v y/\Rep F v dd then ni (Classical.choose (Classical.choose_spec h)) d else false
theorem HM {v:V}{dd d:D}{y:Value}(a:RelV v y) (r:Rep F v dd):Le F d y=ni dd d:=by
 unfold Le
 have h:∃(v:V) (dd:D),RelV v y/\Rep F v dd:=⟨v,dd,a,r⟩
 rw[dif_pos h]
 have k:=Classical.choose_spec (Classical.choose_spec h)
 have e1:=RelV.uniq k.1 a
 have r':Rep F (Classical.choose h) dd:=by rw[e1];exact r
 rw[Rep.uniq k.2 r']
theorem AR (I:Inv X pins σ H s) (sb:Sub F H){A:Around}{x:V}{u:Value}{d:D}(r:Rep F x d) (rx:RelV x u):∀{vs:List V}{ds:List D}{its:List Value},bN F vs ds->Vals vs its->A.units+gP ds < cLine->
  (∀y∈its,SeqAt.EqAt A s y u (Le F d y))/\its.any (Le F d)=inD d ds
 | _,_,_,.nil,.nil,_=>⟨(fun y hy=>absurd hy (by simp)),rfl⟩
 | _,_,_,@bN.cons _ v dd vs ds r1 rs,.cons q qs,hu=>by
  have hd:A.units+max (gW dd) (gP ds) < cLine:=hu
  obtain⟨h1,h2⟩:=AR I sb (A:=A) r rx rs qs (by omega)
  refine⟨fun y hy=>?_,?_⟩
  ·rcases List.mem_cons.mp hy with rfl | hy
   ·rw[HM q r1];exact Nb I sb dd r1 r q rx (by omega)
   ·exact h1 y hy
  ·rw[List.any_cons,h2,HM q r1]
   rfl
end
noncomputable def AS (T:String) (d:D):Option Bool:=match T with
 | "tuple"=>some (Hu d)
 | "list"=>some (Hv d)
 | "str"=>some (zo d)
 | "bool"=>some (M7 d)
 | "int"=>some (Hw d)
 | _=>none
theorem HN {K:PySem.W.Frag}{T:String}{d:D}{b:Bool}(h:AS T d=some b):PySem.W.kitOne K (.type (OE d)) (.type T)=some b:=by
 unfold AS at h
 split at h
 ·cases h;exact K4 d
 ·cases h;exact K5 d
 ·cases h;exact Hx d
 ·cases h;exact OF d
 ·cases h;exact K6 d
 ·cases h
noncomputable def vQ:List String->D->Option Bool
 | [],_=>some false
 | T :: Ts,d=>match AS T d with
  | some true=>some true
  | some false=>vQ Ts d
  | none=>none
section
variable {X:Cx}{pins:List (Addr×Obj)}{σ:St}{F H:Hp}{s:Shared}
theorem Lf (I:Inv X pins σ H s) (sb:Sub F H){A:Around}{E:Value->Shared->Prop}{Q:Value->Shared->Prop}{x:V}{u:Value}{d:D}{c:Value}{b:Bool}(r:Rep F x d) (rx:RelV x u) (e:PySem.W.kitOne X.K (.type (OE d)) c=some b) (h:∀tk,Q (.bool b) {s with toks:=tk}):
  wpAny (model X.prog X.w) A (call (.builtin "isinstance") [u,c]) Q E s:=by
 cases r with
 | dR=>cases rx;exact PySem.W.kia_one PySem.W.kitx_none I.B5 True.intro e (fun z=>nomatch z) h
 | bl y=>cases rx;exact PySem.W.kia_one PySem.W.kitx_bool I.B5 True.intro e (fun z=>nomatch z) h
 | int i=>obtain⟨t,rfl⟩:=rx;exact PySem.W.kia_one PySem.W.kitx_int I.B5 True.intro e (fun z=>nomatch z) h
 | str y=>obtain⟨t,rfl⟩:=rx;exact PySem.W.kia_one PySem.W.kitx_str I.B5 True.intro e (fun z=>nomatch z) h
 | tup ea _=>
  cases rx
  obtain⟨its,_,o,h1,h2,_⟩:=sb.isTup I ea
  exact PySem.W.kia_one PySem.W.kitx_tuple I.B5 ⟨o,h1,h2⟩ e (fun z=>nomatch z) h
 | lst ea _=>
  cases rx
  obtain⟨its,_,o,h1,h2,_⟩:=sb.gq I ea
  exact PySem.W.kia_one PySem.W.kitx_list I.B5 ⟨o,h1,h2⟩ e (fun z=>nomatch z) h
end
noncomputable def Xr (Ts:List String) (g:GD):GD:=fun S=>(g S).bind fun p=>(vQ Ts p.1).map fun b=>(.bl b,p.2)
section
variable {X:Cx}{a b c e:Expr}{es:List Expr}{pos p p2 px:Pos}{x y:Str}{g ga gb gc:GD}{gA:GA}
theorem EK {T:String}{d:D}{b:Bool}(h:vQ [T] d=some b):AS T d=some b:=by
 unfold vQ at h
 cases e:AS T d with
 | none=>rw[e] at h;cases h
 | some k=>rw[e] at h;cases k <;> exact h
theorem EL {T:String}(hg:Gl X "isinstance") (hm:X.mg "isinstance" =none) (OP:Gl X y) (hm2:X.mg y=none) (hv2:bootBuiltins y=some (.type T)) (ha:JD X a ga) (hn2:y≠"__name__":=by decide) (hd2:(y == ("__debug__":Str))=false:=by decide)
    (hs:starEach [a,.Name y px] X.env=(false,eval a X.env) :: starEach [.Name y px] X.env:=by rfl) (hs2:starEach [.Name y px] X.env=(false,eval (.Name y px) X.env) :: starEach [] X.env:=by rfl) (hpl:(backTo pos (starEach [.Name y px] X.env)).any (·.1)=false:=by rfl):
    JD X (.Call (.Name "isinstance" p) [a,.Name y px] [] pos) (Xr [T] ga):=⟨fun B=>
  (nW (r := fun xs H Q => ∃ x F d b, xs = [x, .ty T] /\ Sub F H /\ Rep F x d /\ AS T d = some b /\ Q (.bl b) H) (fun pins s σ H xs us Q I r ⟨x, F, d, b, e1, sb, rd, hk, q⟩ => by
      subst e1
      obtain⟨u,w',rfl,ru,rw'⟩:=vals2 r
      cases rw'
      exact Lf I sb rd ru (HN hk) fun tk=>⟨.bl b,H,I.tok tk,rfl,q⟩) hg hm PyProof.Rows.Boot.isinstance (pP (ha.h B) (pP (Kv (v:=.ty T) OP hm2 hv2 rfl hn2 hd2) y9 hs2) hs) (by decide) (by decide) hs hpl).imp fun σ H Q ⟨S,F,d,S',R,hg,q⟩=>by
  obtain⟨⟨d1,S1⟩,h1,hg⟩:=aq hg
  obtain⟨k,h2,hg⟩:=aH hg
  cases hg
  exact⟨S,F,d1,_,R,h1,fun v F1 H1 R1 st1 r1=>⟨v,F1,d1,k,rfl,R1.sub,r1,EK h2,q _ F1 H1 R1 st1 (.bl k)⟩⟩⟩
noncomputable def kX:List D->Option (List Bool)
 | []=>some []
 | .bl b :: ds=>(kX ds).map fun bs=>b :: bs
 | _=>none
theorem uw {F:Hp}:∀{vs:List V}{ds:List D}{bs:List Bool},bN F vs ds->kX ds=some bs->vs=bs.map V.bl
 | _,_,_,.nil,h=>by cases h;rfl
 | _,_,_,@bN.cons _ v d vs ds r rs,h=>by
  cases d <;> try (simp[kX] at h;done)
  obtain⟨bs,h1,h2⟩:=aH (show(kX ds).map _=_ from h)
  subst h2
  rw[iO r,uw rs h1]
  rfl
noncomputable def Xs:List D->Option U
 | [.lst ds]=>(kX ds).map fun bs=>.t (.bl (bs.all id))
 | _=>none
noncomputable def AU:List D->Option U
 | [.lst ds]=>(kX ds).map fun bs=>.t (.bl (bs.any id))
 | _=>none
theorem zE {P:D->Prop}{F:Hp}{xs:List V}{ds:List D}{f:List D->Option U}{w':U}(rs:bN F xs ds) (h:f ds=some w') (hn:f []=none) (h2:∀a b r,f (a :: b :: r)=none):∃x d,xs=[x]/\ds=[d]/\Rep F x d:=by
 cases rs with
 | nil=>rw[hn] at h;cases h
 | cons r rs=>
  cases rs with
  | nil=>exact⟨_,_,rfl,rfl,r⟩
  | cons _ _=>rw[h2] at h;cases h
theorem EM (hc:X.calm=true):jC X (.builtin "any") (rP AU):=by
 intro pins s σ H xs us Q I r ⟨F,ds,w,sb,rs,hw,q⟩
 obtain⟨x,d,rfl,rfl,r1⟩:=zE (P:=fun _=>True) rs hw rfl (fun d _ _=>by cases d <;> rfl)
 cases d <;> try (simp[AU] at hw;done)
 rename_i ds
 obtain⟨bs,h1,rfl⟩:=aH (show(kX ds).map _=some w from hw)
 obtain⟨a,vs,rfl,fa,ha,uK⟩:=sb.lX r1
 obtain rfl:=uw uK h1
 exact ED hc pins s σ H _ us Q I r ⟨a,bs,rfl,.inl ha,q _ F H (iU.refl ..) sb (.bl _)⟩
noncomputable def DG:List D->Option U
 | [.int i,.int j,.int k]=>some (.t (.int (if j < i then(if k < j then k else j) else if k < i then k else i)))
 | _=>none
theorem Cp (hc : X.calm = true) : jC X (.builtin "min") (rP DG) := by
  intro pins s σ H xs us Q I r ⟨F,ds,w,sb,rs,hw,q⟩
  unfold DG at hw
  split at hw
  . rename_i i j k
    cases hw
    cases rs with
    | cons r1 rs=>cases rs with
      | cons r2 rs=>cases rs with
        | cons r3 rs=>
          cases rs
          rw[gH r1,gH r2,gH r3] at r
          exact EF hc pins s σ H _ us Q I r ⟨i,j,k,rfl,q _ F H (iU.refl ..) sb (.int _)⟩
  . cases hw
noncomputable def S5:List D->Option U
 | [.int i,.int j]=>some (.t (.int (if j < i then j else i)))
 | _=>none
noncomputable def DH:List D->Option U
 | [.int i,.int j]=>some (.t (.int (if j > i then j else i)))
 | _=>none
theorem Cq (hc : X.calm = true) : jC X (.builtin "max") (rP DH) := by
  intro pins s σ H xs us Q I r ⟨F,ds,w,sb,rs,hw,q⟩
  unfold DH at hw
  split at hw
  . rename_i i j
    cases hw
    cases rs with
    | cons r1 rs=>cases rs with
      | cons r2 rs=>
        cases rs
        rw[gH r1,gH r2] at r
        exact Et hc pins s σ H _ us Q I r ⟨i,j,rfl,q _ F H (iU.refl ..) sb (.int _)⟩
  . cases hw
noncomputable def Nc:List D->Option U
 | [.tup ds]=>some (.m (.lst ds))
 | [.lst ds]=>some (.m (.lst ds))
 | _=>none
noncomputable def vR:List D->Option U
 | [.tup ds]=>some (.t (.tup ds))
 | [.lst ds]=>some (.t (.tup ds))
 | _=>none
theorem AV:jC X (.type "tuple") (rP vR):=by
 intro pins s σ H xs us Q I r ⟨F,ds,w,sb,rs,hw,q⟩
 obtain⟨x,d,rfl,rfl,r1⟩:=zE (P:=fun _=>True) rs hw rfl (fun d _ _=>by cases d <;> rfl)
 cases d <;> try (simp[vR] at hw;done)
 ·cases hw
  have r0:=r1
  obtain⟨a,vs,rfl,fa,ha,uK⟩:=sb.lW r1
  exact qp pins s σ H _ us Q I r ⟨a,vs,rfl,.inr ⟨.inl ha,q _ F H (iU.refl ..) sb r0⟩⟩
 ·cases hw
  obtain⟨a,vs,rfl,fa,ha,uK⟩:=sb.lX r1
  exact qp pins s σ H _ us Q I r ⟨a,vs,rfl,.inl ⟨.inl ha,fun p hp=>q _ _ _ (iU.root sb hp _) (sb.sN hp) (.tup bx (uK.le (mD (sb.fresh hp))))⟩⟩
end
noncomputable def keyOf:D->Option Key
 | .int i=>some (.inl i)
 | .str z=>some (.inr z)
 | _=>none
theorem pU {F:Hp}{v:V}{d:D}{k:Key}(r:Rep F v d) (h:keyOf d=some k):v=kV k:=by
 cases r <;> cases h <;> rfl
noncomputable def cz {κ:Type} [DecidableEq κ] (kvs:List (κ×D)) (k:κ):Option D:=(kvs.find? fun kv=>decide (kv.1=k)).map (·.2)
noncomputable def putD {κ:Type} [DecidableEq κ] (kvs:List (κ×D)) (k:κ) (d:D):List (κ×D):=
 if(kvs.any fun kv=>decide (kv.1=k))=true then kvs.map (fun kv=>if kv.1=k then(kv.1,d) else kv) else kvs++[(k,d)]
theorem pW {κ:Type} [DecidableEq κ] {F:Hp}{k:κ}{d:D}:∀{ws:List (κ×V)}{kvs:List (κ×D)},Paired (iQ F) ws kvs->cz kvs k=some d->∃v,qH ws k=some v/\Rep F v d
 | _,_,.nil,h=>by cases h
 | _,_,@Paired.cons _ _ _ p q ws kvs r rs,h=>by
  by_cases e:q.1=k
  ·have e':p.1=k:=r.1.trans e
   refine⟨p.2,rq e',?_⟩
   have:cz (q :: kvs) k=some q.2:=by simp[cz,List.find?_cons,e]
   rw[this] at h
   cases h
   exact r.2
  ·have e':¬p.1=k:=fun z=>e (r.1.symm.trans z)
   have:cz (q :: kvs) k=cz kvs k:=by simp[cz,List.find?_cons,e]
   rw[this] at h
   obtain⟨v,h1,h2⟩:=pW rs h
   exact⟨v,by rw[nX e'];exact h1,h2⟩
theorem yp {κ:Type} [DecidableEq κ] {F:Hp}{k:κ}:∀{ws:List (κ×V)}{kvs:List (κ×D)},Paired (iQ F) ws kvs->cz kvs k=none->qH ws k=none
 | _,_,.nil,h=>rfl
 | _,_,@Paired.cons _ _ _ p q ws kvs r rs,h=>by
  by_cases e:q.1=k
  ·have:cz (q :: kvs) k=some q.2:=by simp[cz,List.find?_cons,e]
   rw[this] at h
   cases h
  ·have e':¬p.1=k:=fun z=>e (r.1.symm.trans z)
   have:cz (q :: kvs) k=cz kvs k:=by simp[cz,List.find?_cons,e]
   rw[this] at h
   rw[nX e']
   exact yp rs h
theorem AW {κ:Type} [DecidableEq κ] {F:Hp}{k:κ}:∀{ws:List (κ×V)}{kvs:List (κ×D)},Paired (iQ F) ws kvs->(ws.any fun kv=>decide (kv.1=k))=(kvs.any fun kv=>decide (kv.1=k))
 | _,_,.nil=>rfl
 | _,_,.cons r rs=>by rw[List.any_cons,List.any_cons,AW rs,r.1]
theorem AX {κ:Type} [DecidableEq κ] {F:Hp}{k:κ}{v:V}{d:D}(r:Rep F v d):∀{ws:List (κ×V)}{kvs:List (κ×D)},Paired (iQ F) ws kvs->Paired (iQ F) (ws.map fun kv=>if kv.1=k then(kv.1,v) else kv) (kvs.map fun kv=>if kv.1=k then(kv.1,d) else kv)
 | _,_,.nil=>.nil
 | _,_,@Paired.cons _ _ _ p q ws kvs h hs=>by
  refine .cons ?_ (AX r hs)
  show iQ F (if p.1=k then(p.1,v) else p) (if q.1=k then(q.1,d) else q)
  rw[h.1]
  by_cases e:q.1=k
  ·rw[if_pos e,if_pos e];exact⟨rfl,r⟩
  ·rw[if_neg e,if_neg e];exact h
theorem ux {α β:Type}{P:α->β->Prop}{x:α}{y:β}(p:P x y):∀{l:List α}{r:List β},Paired P l r->Paired P (l++[x]) (r++[y])
 | _,_,.nil=>.cons p .nil
 | _,_,.cons q qs=>.cons q (ux p qs)
theorem vU {κ:Type} [DecidableEq κ] {F:Hp}{k:κ}{v:V}{d:D}{ws:List (κ×V)}{kvs:List (κ×D)}(h:Paired (iQ F) ws kvs) (r:Rep F v d):Paired (iQ F) (putK ws k v) (putD kvs k d):=by
 unfold putK putD
 rw[AW h]
 by_cases e:(kvs.any fun kv=>decide (kv.1=k))=true
 ·rw[if_pos e,if_pos e];exact AX r h
 ·rw[if_neg e,if_neg e];exact ux ⟨rfl,r⟩ h
noncomputable def uL:D->Option D
 | .tup ds=>if gM 8 (.tup ds)=true then some (.tup ds) else none
 | _=>none
theorem rL {F H:Hp}{v:V}{d:D}{ks:D}(sb:Sub F H) (r:Rep F v d) (h:uL d=some ks):∃b,v= .ref b/\Kd H b ks:=by
 cases r with
 | @tup a vs ds e rs=>
  obtain⟨h1,h2⟩:=cV (show(if gM 8 (.tup ds)=true then some (D.tup ds) else none)=some ks from h)
  subst h2
  exact⟨a,rfl,Rep.le sb (.tup e rs),h1⟩
 | dR=>cases h
 | bl _=>cases h
 | int _=>cases h
 | str _=>cases h
 | lst _ _=>cases h
noncomputable def qw:U->D->Option D
 | .t (.tup ds),.int i=>gD ds i
 | .t (.lst ds),.int i=>gD ds i
 | .m (.lst ds),.int i=>gD ds i
 | .b (.lst ds),.int i=>gD ds i
 | .s ns,.int i=>(gD ns i).map D.int
 | .m (.dct kvs),k=>(keyOf k).bind (cz kvs)
 | .b (.dct kvs),k=>(keyOf k).bind (cz kvs)
 | .m (.cU kvs),k=>(uL k).bind (cz kvs)
 | .b (.cU kvs),k=>(uL k).bind (cz kvs)
 | _,_=>none
noncomputable def dg (i:Nat) (gb:GD):GD:=fun S=>match S[i]? with
 | some (some _)=>(gb S).bind fun p=>match p.2[i]? with
  | some (some u)=>(qw u p.1).map fun d=>(d,p.2)
  | _=>none
 | _=>none
theorem DI {α β:Type}(f:α->β){l:List α}{i:Int}{x:α}(h:gD l i=some x):gD (l.map f) i=some (f x):=by
 unfold gD at h ⊢
 rw[List.length_map]
 obtain⟨j,h1,h2⟩:=aq h
 rw[h1]
 show(l.map f)[j]? =_
 rw[List.getElem?_map,h2]
 rfl
section
variable {X:Cx}{a b c e value:Expr}{es:List Expr}{pos p p2 px pos':Pos}{x y:Str}{g ga gb gc gk gv:GD}{gA:GA}
theorem bR {i : Nat} (hu : X.A.units + 20 < cLine) (hb : JD X b gb) (hs : zf b := by first | (intro _ _; rfl)) (hN : X.N[i]? = some x := by rfl) (hv : Gw X.env.scope x := by first | exact Or.inl rfl | exact Or.inr (Or.inl rfl) | exact Or.inr (Or.inr rfl))
    (hd:(x == ("__debug__":Str))=false:=by decide) (hcd:(x == ("__classdict__":Str))=false:=by decide):JD X (.Subscript (.Name x px) b pos) (dg i gb):=⟨fun B=>PE.orelse fun σ H Q ⟨S,F,d,S',R,hg,q⟩=>by
  unfold dg at hg
  split at hg
  . rename_i u0 Lg
    obtain⟨v0,hv0,_⟩:=R.rep i u0 Lg
    obtain⟨⟨k,S1⟩,h1,hg⟩:=aq hg
    dsimp only at hg
    split at hg
    . rename_i u hS
      obtain⟨d',hr,hg⟩:=aH hg
      cases hg
      have DE:∀F1 H1,Rel X.K B S' σ F1 H1->zp X.K F1 H1 v0 u:=fun F1 H1 R1=>by
        obtain⟨v,k1,k2⟩:=R1.rep i u hS
        rw[hv0] at k1
        cases k1
        exact k2
      have seq:∀(Y:V->V->Hp->VK->Prop),PE X (.Subscript (.Name x px) b pos) (QL Y (Ku i) (tD X.K B gb))->(∀v F1 H1,Rel X.K B S' σ F1 H1->Step S S' σ F H F1 H1->Rep F1 v k->Y v0 v H1 Q)->∃t',PE X (.Subscript (.Name x px) b pos) t'/\t' σ H Q:=fun Y hY h=>
        ⟨_,hY,v0,hv0,S,F,k,S',R,h1,fun v F1 H1 R1 st1 r1=>h v F1 H1 R1 st1 r1⟩
      have dict:∀kvs,(∀F1 H1,Rel X.K B S' σ F1 H1->∃a ws,v0= .ref a/\H1 a=some (.dK ws)/\Paired (iQ F1) ws kvs)->(keyOf k).bind (cz kvs)=some d->∃t',PE X (.Subscript (.Name x px) b pos) t'/\t' σ H Q:=fun kvs hat hr=>by
        obtain⟨kk,e1,e2⟩:=aq hr
        refine⟨_,Dn hu (jF hN hv hd hcd) (hb.h B) hs,v0,hv0,S,F,k,S',R,h1,fun v F1 H1 R1 st1 r1=>?_⟩
        obtain⟨a,ws,rfl,ha,pr⟩:=hat F1 H1 R1
        obtain⟨w',z1,z2⟩:=pW pr e2
        rw[pU r1 e1]
        exact⟨a,w',rfl,by rw[<-z1];exact nZ.k ha,q w' F1 H1 R1 st1 z2⟩
      have Nd:∀kvs,(∀F1 H1,Rel X.K B S' σ F1 H1->∃a ws,v0= .ref a/\H1 a=some (.dT ws)/\Paired (iQ F1) ws kvs)->(uL k).bind (cz kvs)=some d->∃t',PE X (.Subscript (.Name x px) b pos) t'/\t' σ H Q:=fun kvs hat hr=>by
        obtain⟨kk,e1,e2⟩:=aq hr
        refine⟨_,Dn hu (jF hN hv hd hcd) (hb.h B) hs,v0,hv0,S,F,k,S',R,h1,fun v F1 H1 R1 st1 r1=>?_⟩
        obtain⟨a,ws,rfl,ha,pr⟩:=hat F1 H1 R1
        obtain⟨w',z1,z2⟩:=pW pr e2
        obtain⟨b',rfl,hb'⟩:=rL R1.sub r1 e1
        exact⟨a,w',rfl,by rw[<-z1];exact nZ.t ha hb',q w' F1 H1 R1 st1 z2⟩
      have list:∀ds ii,k= .int ii->gD ds ii=some d->(∀F1 H1,Rel X.K B S' σ F1 H1->∃a vs,v0= .ref a/\(nT X.K H1 a vs\/yY X.K H1 a vs)/\bN F1 vs ds)->∃t',PE X (.Subscript (.Name x px) b pos) t'/\t' σ H Q:=fun ds ii ek hrr hat=>by
        subst ek
        refine seq _ (G2 G5 (jF hN hv hd hcd) (hb.h B) hs) fun v F1 H1 R1 st1 r1=>?_
        obtain⟨a,vs,rfl,ha,rs⟩:=hat F1 H1 R1
        obtain⟨w',z1,z2⟩:=rs.gD hrr
        rw[gH r1]
        rcases ha with ha | ha
        . exact .inl ⟨a,vs,ii,w',rfl,rfl,ha,z1,q w' F1 H1 R1 st1 z2⟩
        . exact .inr (.inl ⟨a,vs,ii,w',rfl,rfl,ha,z1,q w' F1 H1 R1 st1 z2⟩)
      unfold qw at hr
      split at hr
      . rename_i ds ii
        exact list ds ii rfl hr fun F1 H1 R1=>let⟨a,vs,e1,fa,ha,rs⟩:=R1.sub.lW (DE F1 H1 R1);⟨a,vs,e1,.inr (.inl ha),rs⟩
      . rename_i ds ii
        exact list ds ii rfl hr fun F1 H1 R1=>let⟨a,vs,e1,fa,ha,rs⟩:=R1.sub.lX (DE F1 H1 R1);⟨a,vs,e1,.inl (.inl ha),rs⟩
      . rename_i ds ii
        exact list ds ii rfl hr fun F1 H1 R1=>let⟨a,e1,fa,vs,ha,rs⟩:=DE F1 H1 R1;⟨a,vs,e1,.inl (nT.of ha),rs⟩
      . rename_i ds ii
        exact list ds ii rfl hr fun F1 H1 R1=>let⟨a,e1,fa,vs,ha,rs⟩:=DE F1 H1 R1;⟨a,vs,e1,.inl (nT.of ha),rs⟩
      . rename_i ns ii
        obtain⟨n,z1,z2⟩:=aH hr
        subst z2
        refine seq _ (G2 G5 (jF hN hv hd hcd) (hb.h B) hs) fun v F1 H1 R1 st1 r1=>?_
        obtain⟨a,e1,ha⟩:=DE F1 H1 R1
        rw[gH r1]
        exact .inl ⟨a,ns.map V.int,ii,.int n,e1,rfl,ha.sq,DI V.int z1,q _ F1 H1 R1 st1 (.int n)⟩
      . rename_i kvs
        exact dict kvs (fun F1 H1 R1=>let⟨a,e1,fa,ws,ha,pr⟩:=DE F1 H1 R1;⟨a,ws,e1,ha,pr⟩) hr
      . rename_i kvs
        exact dict kvs (fun F1 H1 R1=>let⟨a,e1,fa,ws,ha,pr⟩:=DE F1 H1 R1;⟨a,ws,e1,ha,pr⟩) hr
      . rename_i kvs
        exact Nd kvs (fun F1 H1 R1=>let⟨a,e1,fa,ws,ha,pr⟩:=DE F1 H1 R1;⟨a,ws,e1,ha,pr⟩) hr
      . rename_i kvs
        exact Nd kvs (fun F1 H1 R1=>let⟨a,e1,fa,ws,ha,pr⟩:=DE F1 H1 R1;⟨a,ws,e1,ha,pr⟩) hr
      . cases hr
    . cases hg
  . cases hg⟩
noncomputable def AY:U->Option Nat
 | .t (.tup ds)=>some ds.length
 | .t (.lst ds)=>some ds.length
 | .t (.str z)=>if z.length<=100000 then some z.length else none
 | .m (.lst ds)=>some ds.length
 | .b (.lst ds)=>some ds.length
 | .m (.dct ds)=>some ds.length
 | .b (.dct ds)=>some ds.length
 | .s ns=>some ns.length
 | _=>none
noncomputable def jH (i:Nat):GD:=fun S=>match S[i]? with
 | some (some u)=>(AY u).map fun n=>(.int (n:Nat),S)
 | _=>none
theorem gT {α β:Type}{P:α->β->Prop}:∀{l:List α}{r:List β},Paired P l r->l.length=r.length
 | _,_,.nil=>rfl
 | _,_,.cons _ ps=>congrArg Nat.succ (gT ps)
theorem jk {i:Nat}(hg:Gl X "len") (hm:X.mg "len" =none) (hN:X.N[i]? =some x:=by rfl) (hv:Gw X.env.scope x:=by first | exact Or.inl rfl | exact Or.inr (Or.inl rfl) | exact Or.inr (Or.inr rfl))
  (hd:(x == ("__debug__":Str))=false:=by decide) (hcd:(x == ("__classdict__":Str))=false:=by decide) (he:starEach [.Name x px] X.env=(false,eval (.Name x px) X.env) :: starEach [] X.env:=by rfl) (hpl:(backTo pos (starEach [] X.env)).any (·.1)=false:=by rfl):
  JD X (.Call (.Name "len" p) [.Name x px] [] pos) (jH i):=⟨fun B=>PE.orelse fun σ H Q ⟨S,F,d,S',R,hg',q⟩=>by
 unfold jH at hg'
 split at hg'
 ·rename_i u hS
  obtain⟨n,hn,hg'⟩:=aH hg'
  cases hg'
  obtain⟨v0,hv0,r0⟩:=R.rep i u hS
  have fin:=q (.int n) F H R (Step.refl ..) (.int _)
  have arg:PA X [.Name x px] (MX (Ku i) Oc):=pP (jF hN hv hd hcd) y9 he
  have list:∀a vs,v0= .ref a->(nT X.K H a vs\/yY X.K H a vs)->vs.length=n->∃t',PE X (.Call (.Name "len" p) [.Name x px] [] pos) t'/\t' σ H Q:=fun a vs e1 ha hl=>
   ⟨_,nW m6 hg hm PySem.boot_len arg (by decide) (by decide) he hpl,v0,hv0,a,vs,by rw[e1],ha,by rw[hl];exact fin⟩
  have dict:∀a ws,v0= .ref a->H a=some (.dK ws)->ws.length=n->∃t',PE X (.Call (.Name "len" p) [.Name x px] [] pos) t'/\t' σ H Q:=fun a vs e1 ha hl=>
   ⟨_,nW EC hg hm PySem.boot_len arg (by decide) (by decide) he hpl,v0,hv0,a,vs,by rw[e1],ha,by rw[hl];exact fin⟩
  unfold AY at hn
  split at hn
  ·cases hn;obtain⟨a,vs,e1,fa,ha,rs⟩:=R.sub.lW r0;exact list a vs e1 (.inr (.inl ha)) rs.length
  ·cases hn;obtain⟨a,vs,e1,fa,ha,rs⟩:=R.sub.lX r0;exact list a vs e1 (.inl (.inl ha)) rs.length
  ·rename_i z
   obtain⟨hl,rfl⟩:=cV hn
   exact⟨_,nW rA hg hm PySem.boot_len arg (by decide) (by decide) he hpl,v0,hv0,z,by rw[DB r0],ku hl,fin⟩
  ·cases hn;obtain⟨a,e1,fa,vs,ha,rs⟩:=r0;exact list a vs e1 (.inl (nT.of ha)) rs.length
  ·cases hn;obtain⟨a,e1,fa,vs,ha,rs⟩:=r0;exact list a vs e1 (.inl (nT.of ha)) rs.length
  ·cases hn;obtain⟨a,e1,fa,ws,ha,pr⟩:=r0;exact dict a ws e1 ha (gT pr)
  ·cases hn;obtain⟨a,e1,fa,ws,ha,pr⟩:=r0;exact dict a ws e1 ha (gT pr)
  ·cases hn;obtain⟨a,e1,ha⟩:=r0;exact list a _ e1 (.inl ha.sq) (by simp)
  ·cases hn
 ·cases hg'⟩
end
noncomputable def sR (o:MO) (k d:D):Option MO:=match o with
 | .dct kvs=>(keyOf k).bind fun kk=>if kvs.length < 100000 then some (.dct (putD kvs kk d)) else none
 | .cU kvs=>(uL k).bind fun kk=>if kvs.length < 10000000 then some (.cU (putD kvs kk d)) else none
 | .ins _ _=>none
 | .lst ds=>match k with
  | .int i=>(Cc ds.length i).map fun j=>.lst (ds.set j d)
  | _=>none
noncomputable def AZ (i:Nat) (gk gv:GD):GS:=fun S=>(gv S).bind fun p=>match p.2[i]? with
 | some (some _)=>(gk p.2).bind fun r=>(Cn r.2 i fun o=>(sR o r.1 p.1).map fun o'=>(.dR,o')).map fun z=>.nx z.2
 | _=>none
theorem bN.set {F:Hp}{v:V}{d:D}(r:Rep F v d):∀{vs:List V}{ds:List D}(j:Nat),bN F vs ds->bN F (vs.set j v) (ds.set j d)
 | _,_,_,.nil=>.nil
 | _,_,0,.cons _ rs=>.cons r rs
 | _,_,j+1,.cons q rs=>.cons q (bN.set r j rs)
section
variable {X:Cx}{a b c e value k:Expr}{es:List Expr}{pos p p2 px pos':Pos}{x y:Str}{g ga gb gc gk gv:GD}{gA:GA}
theorem vV {i:Nat}(hu:X.A.units+20 < cLine) (hk:JD X k gk) (hval:JD X value gv) (hN:X.N[i]? =some x:=by rfl) (hv:Gw X.env.scope x:=by first | exact Or.inl rfl | exact Or.inr (Or.inl rfl) | exact Or.inr (Or.inr rfl))
  (hd:(x == ("__debug__":Str))=false:=by decide) (hcd:(x == ("__classdict__":Str))=false:=by decide)
  (hs:swapsWith value (some (.Subscript (.Name x px) k pos')) pos.line X.env=pure false:=by rfl)
  (hs1:swapsWithSole [.Subscript (.Name x px) k pos'] value pos.line X.env=pure false:=by rfl) (hs2:swappedStores [.Subscript (.Name x px) k pos'] value X.env=pure none:=by rfl)
  (Lh:(assignEach [.Subscript (.Name x px) k pos'] X.env).map (·.2)=[assign (.Subscript (.Name x px) k pos') X.env]:=by rfl)
  (hs4:∀v,assign (.Subscript (.Name x px) k pos') X.env v=(do
   let ov <-holding [v] (eval (.Name x px) X.env)
   let iv <-holding [v,ov] (eval k X.env)
   standAt pos'
   holding [v,ov,iv] (setItem ov iv v)
   release [v,ov,iv] []):=by intro _;rfl):
  JS X (.Assign [.Subscript (.Name x px) k pos'] value pos) (AZ i gk gv):=⟨fun B=>PS.orelse fun D σ H ⟨S,F,o,R,hg,q⟩=>by
 obtain⟨⟨d,S1⟩,h1,hg⟩:=aq hg
 dsimp only at hg
 split at hg
 ·rename_i u0 Lg
  obtain⟨⟨kd,S2⟩,h2,hg⟩:=aq hg
  obtain⟨⟨nd,S3⟩,h3,hg⟩:=aH hg
  subst hg
  obtain⟨u,u',mo,mo',hS,OM,hio,hf,ON,rfl⟩:=sP h3
  obtain⟨mo2,hw,hf2⟩:=aH hf
  cases hf2
  have hv0:∀F1 H1,Rel X.K B S1 σ F1 H1->∃v,σ[i]? =some (some v):=fun F1 H1 R1=>let⟨v,k1,_⟩:=R1.rep i u0 Lg;⟨v,k1⟩
  cases mo with
  | dct kvs=>
   obtain⟨kk,e1,hw⟩:=aq hw
   obtain⟨hl,rfl⟩:=cV hw
   refine⟨_,Dp hu (jF hN hv hd hcd) (hk.h B) (hval.h B) hs,S,F,d,S1,R,h1,fun v F1 H1 R1 st1 r1=>?_⟩
   obtain⟨v0,hv0⟩:=hv0 F1 H1 R1
   refine⟨v0,hv0,S1,F1,kd,S2,R1,h2,fun y F2 H2 R2 st2 r2=>?_⟩
   obtain⟨v',k1,k2⟩:=R2.rep i u hS
   rw[hv0] at k1
   cases k1
   obtain⟨a,o2,rfl,fa,eo,k3⟩:=k2.eY OM
   rw[hio] at eo
   cases eo
   obtain⟨ws,ha,pr⟩:=k3
   rw[pU r2 e1]
   refine⟨a,_,rfl,Ay.k ha (by rw[gT pr];exact Nat.lt_of_lt_of_le hl (by decide)),?_⟩
   obtain⟨R3,st3⟩:=R2.write (ho:=.dK (putK ws kk v)) hS ON hv0 ⟨_,bx,vU pr (r1.le st2.ext.le)⟩
   exact q σ F2 _ R3 fun b o z=>st2.ext.le b o (st1.ext.le b o z)
  | ins C kvs=>cases hw
  | cU kvs=>
   obtain⟨kk,e1,hw⟩:=aq hw
   obtain⟨hl,rfl⟩:=cV hw
   refine⟨_,Dp hu (jF hN hv hd hcd) (hk.h B) (hval.h B) hs,S,F,d,S1,R,h1,fun v F1 H1 R1 st1 r1=>?_⟩
   obtain⟨v0,hv0⟩:=hv0 F1 H1 R1
   refine⟨v0,hv0,S1,F1,kd,S2,R1,h2,fun y F2 H2 R2 st2 r2=>?_⟩
   obtain⟨v',k1,k2⟩:=R2.rep i u hS
   rw[hv0] at k1
   cases k1
   obtain⟨a,o2,rfl,fa,eo,k3⟩:=k2.eY OM
   rw[hio] at eo
   cases eo
   obtain⟨ws,ha,pr⟩:=k3
   obtain⟨b',rfl,hb'⟩:=rL R2.sub r2 e1
   refine⟨a,_,rfl,Ay.t ha hb' (by rw[gT pr];exact Nat.lt_of_lt_of_le hl (by decide)),?_⟩
   obtain⟨R3,st3⟩:=R2.write (ho:=.dT (putK ws kk v)) hS ON hv0 ⟨_,bx,vU pr (r1.le st2.ext.le)⟩
   exact q σ F2 _ R3 fun b o z=>st2.ext.le b o (st1.ext.le b o z)
  | lst ds=>
   unfold sR at hw
   dsimp only at hw
   split at hw
   ·rename_i ii
    obtain⟨j,e1,rfl⟩:=aH hw
    refine⟨_,GJ (hval.h B) (NZ (jF hN hv hd hcd) (hk.h B) set_list hs4) hs1 hs2 Lh,S,F,d,S1,R,h1,fun v F1 H1 R1 st1 r1=>?_⟩
    obtain⟨v0,hv0⟩:=hv0 F1 H1 R1
    refine⟨v0,hv0,S1,F1,_,S2,R1,h2,fun y F2 H2 R2 st2 r2=>?_⟩
    obtain⟨v',k1,k2⟩:=R2.rep i u hS
    rw[hv0] at k1
    cases k1
    obtain⟨a,o2,rfl,fa,eo,k3⟩:=k2.eY OM
    rw[hio] at eo
    cases eo
    obtain⟨vs,ha,rs⟩:=k3
    rw[gH r2]
    refine⟨a,vs,_,j,rfl,rfl,ha,by rw[rs.length];exact e1,?_⟩
    obtain⟨R3,st3⟩:=R2.write (ho:=.lst (vs.set j v)) hS ON hv0 ⟨_,bx,rs.set (r1.le st2.ext.le) j⟩
    exact q σ F2 _ R3 fun b o z=>st2.ext.le b o (st1.ext.le b o z)
   ·cases hw
 ·cases hg⟩
theorem Rel.Xu {K:PySem.W.Frag}{B:Base}{S:SS}{σ:St}{F H:Hp}{a:Addr}{o o':HO}(R:Rel K B S σ F H) (hn:¬eY S σ a) (hf:F a=none) (hB:B.H a=none) (hh:H a=some o) (hz:∀ob u,o≠.lN ob u):Rel K B S σ F (upd H a o'):=by
 have QT:∀b ob w,H b=some (.lN ob w)->upd H a o' b=some (.lN ob w):=fun b ob w z=>by
  rw[aY (fun e=>by rw[e,hh] at z;cases z;exact hz _ _ rfl)];exact z
 refine⟨fun b u z=>?_,R.len,fun j w z=>?_,R.Dz,R.own,R.bor,R.par,⟨R.ext.le,fun b u z n=>?_,R.ext.kq,fun b u z=>?_,fun b ob w z=>QT b ob w (R.ext.lN b ob w z)⟩⟩
 ·have hb:b≠a:=fun e=>by rw[e,hf] at z;cases z
  rw[aY hb];exact R.sub b u z
 ·obtain⟨v,h1,h2⟩:=R.rep j w z
  refine⟨v,h1,h2.le (fun _ _ z=>z) QT fun c hm hc=>?_⟩
  have hca:c≠a:=fun e=>hn ⟨j,w,z,hm,by rw[h1,hc,e]⟩
  obtain⟨c',_,e,f,_⟩:=h2.eY hm
  rw[hc] at e
  cases e
  exact⟨fun o z=>by rw[aY hca];exact z,f⟩
 ·rw[aY (fun e=>by rw[e,hB] at z;cases z)];exact R.ext.keep b u z n
 ·by_cases hb:b=a
  ·exact⟨o',by rw[hb,bx]⟩
  ·rw[aY hb];exact R.ext.there b u z
noncomputable def jI:List (Str×GD)->SS->Option (List (Key×D)×SS)
 | [],S=>some ([],S)
 | (z,g) :: r,S=>(g S).bind fun p=>(jI r p.2).map fun q=>((.inr z,p.1) :: q.1,q.2)
noncomputable def oH (kvs more:List (Key×D)):List (Key×D):=more.foldl (fun acc kv=>putD acc kv.1 kv.2) kvs
theorem vW {F:Hp}:∀{more:List (Key×V)}{Nf:List (Key×D)}{ws:List (Key×V)}{kvs:List (Key×D)},Paired (iQ F) more Nf->Paired (iQ F) ws kvs->Paired (iQ F) (oh ws more) (oH kvs Nf)
 | _,_,_,_,.nil,h=>h
 | _,_,ws,kvs,@Paired.cons _ _ _ p q _ _ r rs,h=>by
  have e:=vU (k:=q.1) h r.2
  show Paired (iQ F) (oh (putK ws p.1 p.2) _) (oH (putD kvs q.1 q.2) _)
  rw[r.1]
  exact vW rs e
noncomputable def uy (ve:List (Str×GD)):GE:=fun S=>(jI ve S).map fun p=>(.m (.dct (oH [] p.1)),p.2)
structure Ve (X:Cx) (pos:Pos) (keys:List (Option Expr)) (values:List Expr) (ve:List (Str×GD)):Prop where
 h:∀B,R7 X pos keys values (ve.map fun p=>(tC (.str p.1),tD X.K B p.2))
theorem DJ:Ve X pos [] [] []:=⟨fun B=>KO⟩
theorem oJ {z:Str}{j:Nat}{pk:Pos}{v:Expr}{ks:List (Option Expr)}{vs:List Expr}{ve:List (Str×GD)}(hv:JD X v g) (hr:Ve X pos ks vs ve):Ve X pos (some (.Constant (.str z) j pk) :: ks) (v :: vs) ((z,g) :: ve):=⟨fun B=>GZ Gx (hv.h B) (hr.h B)⟩
theorem A0 {B:Base}{σ:St}:∀{ve:List (Str×GD)}{S0 S:SS}{F0 H0 F H:Hp}{kvs:List (Key×D)}{S':SS}{Q:List (V×V)->Hp->Prop},Rel X.K B S σ F H->Step S0 S σ F0 H0 F H->jI ve S=some (kvs,S')->
  (∀(ws:List (Key×V)) (F' H':Hp),Rel X.K B S' σ F' H'->Step S0 S' σ F0 H0 F' H'->Paired (iQ F') ws kvs->Q (ws.map fun kv=>(kV kv.1,kv.2)) H')->vt (ve.map fun p=>(tC (.str p.1),tD X.K B p.2)) σ H Q
 | [],S0,S,F0,H0,F,H,kvs,S',Q,R,st,h,q=>by cases h;exact q [] F H R st .nil
 | (z,g) :: r,S0,S,F0,H0,F,H,kvs,S',Q,R,st,h,q=>by
  obtain⟨⟨d,S1⟩,h1,h⟩:=aq h
  obtain⟨⟨uM,S2⟩,h2,h⟩:=aH h
  cases h
  show tC (.str z) σ H fun x H1=>tD X.K B g σ H1 fun y H2=>vt _ σ H2 fun ps H3=>Q ((x,y) :: ps) H3
  refine⟨S,F,d,S1,R,h1,fun v F1 H1 R1 st1 r1=>?_⟩
  refine A0 (S0:=S1) (F0:=F1) (H0:=H1) R1 (Step.refl ..) h2 fun ws F2 H2 R2 st2 pr=>?_
  exact q ((.inr z,v) :: ws) F2 H2 R2 ((st.trans st1).trans st2) (.cons ⟨rfl,r1.le st2.ext.le⟩ pr)
theorem DK {keys : List (Option Expr)} {values : List Expr} {ve : List (Str × GD)} (h : Ve X pos keys values ve) (hall : keys.all (·.isSome) = true := by rfl) (hl : keys.length = values.length := by rfl) (h0 : keys ≠ [] := by decide) (WG : keys.length <= 15 := by decide) (hk : ve.length <= 15 := by decide) :
    JE X (.Dict keys values pos) (uy ve):=⟨fun B=>(KP (h.h B) hall hl h0 WG).imp fun σ H Q ⟨S,F,u,S',R,hg,q⟩=>by
  obtain⟨⟨kvs,S1⟩,h1,hg⟩:=aH hg
  cases hg
  intro p hp
  have n:=iU.obj (F:=F) hp (.dK [])
  have hn:¬eY S σ p:=fun m=>by obtain⟨o,ho⟩:=R.has m;rw[hp] at ho;cases ho
  refine A0 (S0:=S) (F0:=F) (H0:=upd H p (.dK [])) (R.new n (R.sub.same n.same)) (Step.refl ..) h1 fun ws F1 H1 R1 st1 pr=>?_
  have hp1:H1 p=some (.dK []):=st1.ext.keep p _ bx hn
  have hf1:F1 p=none:=st1.ext.kq p _ bx hn (R.sub.fresh hp)
  have hn1:¬eY S1 σ p:=fun m=>hn (st1.mu p m)
  have hB:B.H p=none:=none_of R.ext.there hp
  have len:ws.length<=15:=by
    rw[gT pr]
    have:∀{ve:List (Str×GD)}{S:SS}{kvs:List (Key×D)}{S':SS},jI ve S=some (kvs,S')->kvs.length=ve.length:=fun {ve}=>by
      induction ve with
      | nil=>intro S kvs S' h;cases h;rfl
      | cons p r ih=>
        intro S kvs S' h
        obtain⟨⟨d,T1⟩,k1,h⟩:=aq (show(p.2 S).bind _=_ from h)
        obtain⟨⟨kv2,T2⟩,k2,h⟩:=aH h
        cases h
        show kv2.length+1=r.length+1
        rw[ih k2]
    rw[this h1]
    exact hk
  refine⟨hp1,ws,rfl,len,?_⟩
  have R2:=R1.Xu (o':=.dK (oh [] ws)) hn1 hf1 hB hp1 (fun _ _ z=>by cases z)
  refine q (.ref p) F1 _ R2 ⟨⟨st1.ext.le,fun b o z m=>?_,fun b o z m f=>?_,fun b o z=>?_,fun b ob w z=>?_⟩,st1.mu,st1.slots⟩ ⟨p,rfl,hp,hf1,⟨_,bx,vW pr .nil⟩,hn1,hB⟩
  . have hb:b≠p:=bK z hp
    rw[aY hb]
    exact st1.ext.keep b o (by rw[aY hb];exact z) m
  . have hb:b≠p:=bK z hp
    exact st1.ext.kq b o (by rw[aY hb];exact z) m f
  . have hb:b≠p:=bK z hp
    rw[aY hb]
    exact st1.ext.there b o (by rw[aY hb];exact z)
  . have hb:b≠p:=bK z hp
    rw[aY hb]
    exact st1.ext.lN b ob w (by rw[aY hb];exact z)⟩
end
noncomputable def g9 (g:Option GD) (S:SS):Option (Option Int×SS):=match g with
 | none=>some (none,S)
 | some g=>(g S).bind fun p=>match p.1 with
  | .int i=>some (some i,p.2)
  | _=>none
noncomputable def tPO (K:PySem.W.Frag) (B:Base) (g:Option GD):TO:=fun σ H Q=>∃S F o S',Rel K B S σ F H/\g9 g S=some (o,S')/\∀F' H',Rel K B S' σ F' H'->Step S S' σ F H F' H'->Q o H'
structure JO (X:Cx) (e:Option Expr) (g:Option GD):Prop where
 h:∀B,PO X e (tPO X.K B g)
theorem PO.imp {X:Cx}{e:Option Expr}{t t':TO}(h:PO X e t) (k:∀σ H Q,t' σ H Q->t σ H Q):PO X e t':=fun pins s σ H Q I q=>h pins s σ H Q I (k σ H Q q)
theorem jm {X:Cx}:JO X none none:=⟨fun B=>KS.imp fun σ H Q ⟨S,F,o,S',R,h,q⟩=>by cases h;exact q F H R (Step.refl ..)⟩
theorem iH {X:Cx}{e:Expr}{g:GD}(h:JD X e g):JO X (some e) (some g):=⟨fun B=>(KU (h.h B)).imp fun σ H Q ⟨S,F,o,S',R,h,q⟩=>by
 obtain⟨⟨d,S1⟩,h1,h⟩:=aq (show(g S).bind _=_ from h)
 cases d <;> try (cases h)
 exact⟨S,F,_,_,R,h1,fun v F1 H1 R1 st1 r1=>⟨_,gH r1,q F1 H1 R1 st1⟩⟩⟩
noncomputable def Li (d:D) (lo hi:Option Int):Option U:=match d with
 | .tup ds=>some (.t (.tup (cutD ds lo hi)))
 | .lst ds=>some (.m (.lst (cutD ds lo hi)))
 | .str z=>if z.length<=100000 then some (.t (.str (Txt.slice z lo hi))) else none
 | _=>none
theorem bN.cut {F:Hp}{vs:List V}{ds:List D}(rs:bN F vs ds) (lo hi:Option Int):bN F (xu vs lo hi) (cutD ds lo hi):=by
 unfold xu cutD
 rw[rs.length]
 exact(rs.drop _).take _
noncomputable def Xv:V->Option Int->Option Int->Hp->VK->Prop:=fun x lo hi H Q=>∃F d u,Sub F H/\Rep F x d/\Li d lo hi=some u/\∀v F' H',iU F H F' H'->Sub F' H'->Cj H F' H' v u->Q v H'
theorem Xw {X : Cx} : Sa X Xv := by
  intro pins s σ H x v vl vu lo hi sl Q I rx hs pl pu ⟨F,d,u,sb,r,hf,q⟩
  cases d with
  | tup ds =>
    cases hf
    have r0:=r
    obtain⟨a,xs,rfl,fa,ha,rs⟩:=sb.lW r
    have hl:=rs.length
    by_cases hw:HT.ig xs.length 0 lo=0/\HT.ig xs.length xs.length hi=xs.length
    . cases rx
      obtain⟨its,rv,ht,hz⟩:=I.tuple (.inl ha)
      have hlen:its.toArray.size=xs.length:=by rw[List.size_toArray];exact rv.length.symm
      refine⟨"tuple",_,PyProof.Rows.slot_tuple_getitem.lookup,ht.typeIs,?_⟩
      refine HT.EE ht hs pl pu (by rw[hlen];exact hw) ⟨.ref a,H,I,rfl,q _ F H (iU.refl ..) sb ?_⟩
      have e:cutD ds lo hi=ds:=by
        unfold cutD
        rw[<-hl,hw.1,hw.2,List.drop_zero,Nat.sub_zero,List.take_of_length_le (by rw[hl];exact Nat.le_refl _)]
      show Rep F _ (.tup (cutD ds lo hi))
      rw[e]
      exact r0
    . exact Oj pins s σ H (.ref a) v vl vu lo hi sl Q I rx hs pl pu ⟨a,xs,rfl,.inl ha,hw,fun p hp=>q _ _ _ (iU.root sb hp _) (sb.sN hp) (.tup bx ((rs.cut lo hi).le (mD (sb.fresh hp))))⟩
  | lst ds=>
    cases hf
    obtain⟨a,xs,rfl,fa,ha,rs⟩:=sb.lX r
    exact Dv pins s σ H (.ref a) v vl vu lo hi sl Q I rx hs pl pu ⟨a,xs,rfl,.inl ha,fun p hp=>q _ F _ (iU.obj hp _) (sb.same (iU.obj (F:=F) hp _).same) ⟨p,rfl,hp,sb.fresh hp,_,bx,rs.cut lo hi⟩⟩
  | str z=>
    obtain⟨hl,rfl⟩:=cV hf
    cases r
    exact OD pins s σ H _ v vl vu lo hi sl Q I rx hs pl pu ⟨z,rfl,ku hl,fun _=>q _ F H (iU.refl ..) sb (.str _)⟩
  | dR=>cases hf
  | bl b=>cases hf
  | int b=>cases hf
noncomputable def sS (g:GD) (lo hi:Option GD):GE:=fun S=>(g S).bind fun p=>(g9 lo p.2).bind fun l=>(g9 hi l.2).bind fun h=>(Li p.1 l.1 h.1).map fun u=>(u,h.2)
section
variable {X:Cx}{a b c e:Expr}{lo hi:Option Expr}{pos p p2 px:Pos}{x y:Str}{g ga:GD}{gA:GA}{gl gh:Option GD}
theorem iw (he:JD X e g) (hl:JO X lo gl) (hh:JO X hi gh):JE X (.Subscript e (.Slice lo hi none p2) pos) (sS g gl gh):=⟨fun B=>(AA Xw (he.h B) (hl.h B) (hh.h B)).imp fun σ H Q ⟨S,F,u,S',R,hg,q⟩=>by
 obtain⟨⟨d,S1⟩,h1,hg⟩:=aq hg
 obtain⟨⟨l,S2⟩,h2,hg⟩:=aq hg
 obtain⟨⟨h,S3⟩,h3,hg⟩:=aq hg
 obtain⟨u',h4,hg⟩:=aH hg
 cases hg
 exact⟨S,F,d,S1,R,h1,fun v F1 H1 R1 st1 r1=>⟨S1,F1,l,S2,R1,h2,fun F2 H2 R2 st2=>⟨S2,F2,h,_,R2,h3,fun F3 H3 R3 st3=>⟨F3,d,_,R3.sub,r1.le (fun b o z=>st3.ext.le b o (st2.ext.le b o z)),h4,fun v F4 H4 n s4 r4=>q v F4 H4 (R3.new n s4) (((st1.trans st2).trans st3).trans n.step) (r4.HA R3 ((st1.trans st2).trans st3))⟩⟩⟩⟩⟩
noncomputable def vX (ns:List Int) (lo hi:Option Int):List Int:=(ns.drop (HT.ig ns.length 0 lo)).take (HT.ig ns.length ns.length hi - HT.ig ns.length 0 lo)
noncomputable def HP (i:Nat) (lo hi:Option GD):GE:=fun S=>match S[i]? with
 | some (some (.s ns))=>(g9 lo S).bind fun l=>(g9 hi l.2).map fun h=>(.m (.lst ((vX ns l.1 h.1).map D.int)),h.2)
 | _=>none
theorem yq {F:Hp}:∀ns:List Int,bN F (ns.map V.int) (ns.map D.int)
 | []=>.nil
 | n :: ns=>.cons (.int n) (yq ns)
theorem EN (ns:List Int) (lo hi:Option Int):xu (ns.map V.int) lo hi=(vX ns lo hi).map V.int:=by
 unfold xu vX
 rw[List.length_map,List.map_take,List.map_drop]
theorem EO {i:Nat}(hl:JO X lo gl) (hh:JO X hi gh) (hN:X.N[i]? =some x:=by rfl) (hv:Gw X.env.scope x:=by first | exact Or.inl rfl | exact Or.inr (Or.inl rfl) | exact Or.inr (Or.inr rfl))
  (hd:(x == ("__debug__":Str))=false:=by decide) (hcd:(x == ("__classdict__":Str))=false:=by decide):JE X (.Subscript (.Name x px) (.Slice lo hi none p2) pos) (HP i gl gh):=⟨fun B=>(AA Dv (jF hN hv hd hcd) (hl.h B) (hh.h B)).imp fun σ H Q ⟨S,F,u,S',R,hg,q⟩=>by
 unfold HP at hg
 split at hg
 ·rename_i ns hS
  obtain⟨⟨l,S1⟩,h1,hg⟩:=aq hg
  obtain⟨⟨h,S2⟩,h2,hg⟩:=aH hg
  cases hg
  obtain⟨v0,hv0,a,rfl,sc⟩:=R.rep i _ hS
  refine⟨_,hv0,S,F,l,S1,R,h1,fun F1 H1 R1 st1=>⟨S1,F1,h,_,R1,h2,fun F2 H2 R2 st2=>?_⟩⟩
  have sc2:=(sc.le st1.ext.lN).le st2.ext.lN
  refine⟨a,_,rfl,sc2.sq,fun p hp=>?_⟩
  rw[EN]
  have n:=iU.obj (F:=F2) hp (.lst ((vX ns l h).map V.int))
  have st:=st1.trans st2
  exact q _ F2 _ (R2.new n (R2.sub.same n.same)) (st.trans n.step) (Cj.HA (u:=.m (.lst ((vX ns l h).map D.int))) R2 st ⟨p,rfl,hp,R2.sub.fresh hp,_,bx,yq _⟩)
 ·cases hg⟩
noncomputable def okR (d:D):Prop:=(toPy d).showable=true/\(toPy d).depth<=20/\(toPy d).shown.length<=sizeLine
noncomputable instance (d:D):Decidable (okR d):=by unfold okR;infer_instance
end
theorem HQ {X : Cx} {x y : Str} {scope : Scope} {c : Addr} {i : Nat} (clos : closureFor scope X.env = pure [(y, c)]) (oq : ∀ z ∈ scope.names, z.2 ≠ .cell) (kind : scope.kind = .function) (names : ∀ z ∈ scope.names, z.2 = .local -> scope.names.lookup z.1 = some .local)
    (loc:scope.names.lookup x=some .local) (hc:X.env.cells.lookup y=some c) (only:∀z∈scope.names,z.2= .free->z.1=y) (ne:x≠y) (hN:X.N[i]? =some y) (vis:X.env.scope.names.lookup y=some .cell) (rel:(relabel scope X.env).names.lookup y=some .cell):
    lU X x [y] [i] scope [(y,c)]:=by
  have look:∀n c',([(y,c)]:List (Str×Addr)).lookup n=some c'->n=y/\c'=c:=fun n c' h=>by
    rw[List.lookup_cons] at h
    cases e:n == y with
    | true=>rw[e] at h;cases h;exact⟨eq_of_beq e,rfl⟩
    | false=>rw[e] at h;cases h
  have self:([(y,c)]:List (Str×Addr)).lookup y=some c:=by rw[List.lookup_cons,beq_self_eq_true]
  refine⟨clos,oq,kind,names,loc,fun n c' h=>?_,fun n h=>?_,?_,rfl,fun j n h=>?_,fun n h=>?_⟩
  . obtain⟨rfl,rfl⟩:=look n c' h
    exact hc
  . have key:n=y:=by
      have go:∀k,(k=NameKind.cell\/k=NameKind.free)->(relabel scope X.env).names.lookup n=some k->n=y:=fun k hk e=>by
        have m:=PySem.mem_of_lookup e
        unfold relabel at m
        obtain⟨⟨n',k'⟩,hm,q⟩:=List.mem_map.mp m
        by_cases hf:k'= .free
        . have h0:n'=y:=only _ hm hf
          have e1:n'=n:=by
            have h1:=congrArg Prod.fst q
            dsimp only at h1
            split at h1 <;> exact h1
          exact e1.symm.trans h0
        . have z:(k' == NameKind.free)=false:=by simpa using hf
          simp only[z,Bool.false_and] at q
          have q2:k'=k:=by
            have:=congrArg Prod.snd q
            simpa using this
          rcases hk with rfl | rfl
          . exact absurd q2 (oq _ hm)
          . exact absurd q2 hf
      rcases h with h | h
      . exact go _ (.inl rfl) h
      . exact go _ (.inr rfl) h
    subst key
    exact⟨c,self⟩
  . simp[ne]
  . cases j with
    | zero=>cases h;exact⟨i,rfl,hN,.inr (.inl vis)⟩
    | succ j=>simp at h
  . have e:n=y:=by simpa using h
    subst e
    exact⟨.inl rel,⟨c,self⟩,by rw[vis];decide⟩
section
variable {X:Cx}{a b c e:Expr}{es:List Expr}{pos p p2 px:Pos}{x y:Str}{f:FM}{fa:Addr}{fd:FuncData}{ps:List Str}{k n:Nat}
theorem HR (F:bZ X.prog X.w X.K X.mg X.base gn k fa fd ps (spT X.K 0 f)) (hr:lQ k X.A) (hg:Gl X x) (hm:X.mg x=some (.ref fa)) (hk:PySem.W.keepIn X.K (.ref fa)=true) (hb:Binds X.K fd ps [])
  (hdb:(x == ("__debug__":Str))=false:=by decide):JE X (.Call (.Name x p) [] [] pos) (aO f bq):=⟨fun B=>(GQ F hr hg hm hk hb .nil M3 hdb).imp fun σ H Q ⟨S,F0,u,S',R,hg,q⟩=>by
 obtain⟨⟨us,S1⟩,h1,hg⟩:=aq hg
 cases h1
 have hg:=(yh hg).2
 obtain⟨ws,h2,hg⟩:=aq hg
 cases h2
 obtain⟨⟨r,outs⟩,h3,hg⟩:=aq hg
 obtain⟨S2,h4,hg⟩:=aH hg
 cases hg
 have st0:Step S S σ F0 H F0 H:=Step.refl ..
 refine⟨rfl,F0,[],r,outs,R.sub,.nil,List.nodup_nil,h3,fun v F2 H2 po rn=>?_⟩
 obtain⟨R2,st2,mu⟩:=kQ (vs:=[]) (us:=[]) (ws:=[]) R st0 .nil rfl h4 List.nodup_nil po
 refine q v F2 H2 R2 st2 ?_
 cases r with
 | t d=>exact rn
 | b o=>cases rn
 | v i=>cases rn
 | s i=>cases rn
 | f i=>cases rn
 | m o=>
  obtain⟨a,e,h0,f,h⟩:=rn
  refine⟨a,e,h0,f,h,fun m=>?_,none_of R.ext.there h0⟩
  obtain⟨o',ho⟩:=R.has (mu a m)
  rw[h0] at ho
  cases ho⟩
theorem sU (a:List D) (o:MO) (h:gq o=false):hAppend a o=none:=by
 cases o with
 | lst ds=>cases h
 | dct k=>unfold hAppend;split <;> first | rfl | (rename_i e;cases e)
 | cU k=>unfold hAppend;split <;> first | rfl | (rename_i e;cases e)
 | ins C k=>unfold hAppend;split <;> first | rfl | (rename_i e;cases e)
theorem HS (a:List D) (o:MO) (h:gq o=false):ng a o=none:=by
 cases o with
 | lst ds=>cases h
 | dct k=>unfold ng;split <;> first | rfl | (rename_i e;cases e)
 | cU k=>unfold ng;split <;> first | rfl | (rename_i e;cases e)
 | ins C k=>unfold ng;split <;> first | rfl | (rename_i e;cases e)
theorem Cr (a:List D) (o:MO) (h:gq o=false):jj a o=none:=by
 cases o with
 | lst ds=>cases h
 | dct k=>unfold jj;split <;> first | rfl | (rename_i e;cases e)
 | cU k=>unfold jj;split <;> first | rfl | (rename_i e;cases e)
 | ins C k=>unfold jj;split <;> first | rfl | (rename_i e;cases e)
end
section
variable {X:Cx}
end
section
variable {prog:Program}{w:World}{A:Around}{R:Result->Shared->Prop}{I:Addr}{fp wr:List Addr}{G:Array GenState->Array GenState->Prop}{n:Nat}{P:Nat->Value->Prop}{St:Nat->Shared->Prop}
end
section
variable {prog:Program}{w:World}{A:Around}{E:Value->Shared->Prop}{s:Shared}
end
section
variable {X:Cx}{a:Expr}{pos p p1 p2:Pos}{ga:GD}
end
section
variable {X:Cx}{a:Expr}{x:Str}{px pos:Pos}{ga:GD}
end
noncomputable def look:U->Option D
 | .t d=>some d
 | .m (.lst ds)=>some (.lst ds)
 | .b (.lst ds)=>some (.lst ds)
 | _=>none
section
variable {X:Cx}{x y:Str}{p px py pos:Pos}{f:List D->Option U}
end
section
variable (S:SS) (i:Nat) (g:GD)
@[simp] theorem QV (ds:List D):jj [] (.lst ds)=some (.dR,.lst ds.reverse):=rfl
end
section
variable {X:Cx}{a b c e:Expr}{es:List Expr}{pos p p2 px:Pos}{x y:Str}
noncomputable def S6:R2:=fun x y H Q=>∃l k xs,x= .ref l/\y= .int k/\Rd H l (.lst xs)/\-(2 ^ 63)<=k/\k < 2 ^ 63/\xs.length * k.toNat<=sizeLine/\
 ∀p,H p=none->Q (.ref p) (upd H p (.lst (List.replicate k.toNat xs).flatten))
theorem Lj:yZ X (binaryOp .Mult) S6:=by
 intro pins s σ H x y v u Q I rx ry h
 obtain⟨l,k,xs,rfl,rfl,hH,h1,h2,hz,q⟩:=h
 cases rx
 obtain⟨t,rfl⟩:=ry
 obtain⟨z,its,n,r,hl,e⟩:=hH.AB I
 have hlen:its.toArray.size * k.toNat<=sizeLine:=by rw[List.size_toArray,<-hl];exact hz
 have hcap:¬its.toArray.size * k.toNat > (2 ^ 63 - 1) / 8:=by
  have:(sizeLine:Nat)<=(2 ^ 63 - 1) / 8:=by decide
  omega
 have hfit:¬(!Builtin.List.listFitsIndex k)=true:=by
  rw[fitsIndex_both h1 h2]
  exact Bool.false_ne_true
 have HU:¬Builtin.List.listTooLong (its.toArray.size * k.toNat)=true:=by
  rw[G7 hlen]
  exact Bool.false_ne_true
 have hnew:List.foldl (fun x1 x2=>x1++x2) #[] (List.replicate (if its.toArray.isEmpty=true then 0 else k.toNat) its.toArray)=(List.replicate k.toNat its).flatten.toArray:=by
  have f0:∀m:Nat,List.foldl (fun x1 x2=>x1++x2) #[] (List.replicate m its.toArray)=(List.replicate m its).flatten.toArray:=fun m=>by
   have:=foldl_rep its m []
   rw[List.nil_append] at this
   exact this
  rw[f0]
  cases its with
  | nil=>simp
  | cons a r'=>rw[if_neg (by simp)]
 refine wpAny_binaryOp_repeat_ref (T:="list") (U:="int") (by decide) ⟨_,e,rfl⟩ (fun s'=>typeIs_int s' k t) noFill_list_mul F.fills_int_mul F.slot_int_rmul repeat_list F.slot_int_index.lookup
  (call_meets F.slot_int_rmul (typeIs_int s k t) F.entry_int_rmul (F.args_int_rmul_2 _ _) (int___rmul___int_list k t l its.toArray n)
   ⟨e,rfl,⟨_,e,rfl⟩,call_meets F.slot_list_mul ⟨_,e,rfl⟩ F.entry_list_mul (F.args_list_mul_2 _ _) (AutoListH.list___mul___list_int_3 l its.toArray n k t hfit hcap HU) ⟨e,?_⟩⟩)
 rw[hnew]
 exact⟨.ref _,_,I.So (t':=s.toks) (r.rep k.toNat) (by rw[len_rep,Nat.mul_comm];exact hz),rfl,q _ I.fresh⟩
theorem bN.rep {F:Hp}{vs:List V}{ds:List D}(r:bN F vs ds):∀k:Nat,bN F (List.replicate k vs).flatten (List.replicate k ds).flatten
 | 0=>.nil
 | k+1=>by rw[List.replicate_succ,List.replicate_succ,List.flatten_cons,List.flatten_cons];exact r.append (bN.rep r k)
noncomputable def zF:List D->Option U
 | [.lst ds,.int k]=>if 0<=k/\k.toNat<=100000/\ds.length * k.toNat<=100000 then some (.m (.lst (List.replicate k.toNat ds).flatten)) else none
 | _=>none
theorem zG:AH X (binaryOp .Mult) zF:=by
 intro pins s σ H x y v u Q I rx ry ⟨F,ds,w,sb,rs,hw,q⟩
 obtain⟨d,e,rfl,r1,r2⟩:=ur rs
 cases d <;> cases e <;> try (simp[zF] at hw;done)
 rename_i ds k
 obtain⟨⟨h1,h2,h3⟩,rfl⟩:=cV hw
 obtain⟨a,vs,rfl,fa,ha,uK⟩:=sb.lX r1
 have hy:=gH r2
 subst hy
 exact Lj pins s σ H _ _ v u Q I rx ry ⟨a,k,vs,rfl,rfl,ha,by omega,by omega,by rw[uK.length];exact Nat.le_trans h3 (by decide),
  fun p hp=>q _ F _ (iU.obj hp _) (sb.same (iU.obj (F:=F) hp _).same) ⟨p,rfl,hp,sb.fresh hp,_,bx,uK.rep _⟩⟩
noncomputable def Cs:List D->Option U
 | [.int i]=>some (.t (.int i))
 | [.bl k]=>some (.t (.int (if k then 1 else 0)))
 | _=>none
theorem ER:jC X (.type "int") (rP Cs):=by
 intro pins s σ H xs us Q I r ⟨F,ds,w,sb,rs,hw,q⟩
 obtain⟨x,d,rfl,rfl,r1⟩:=zE (P:=fun _=>True) rs hw rfl (fun d _ _=>by cases d <;> rfl)
 cases d <;> try (simp[Cs] at hw;done)
 ·cases hw
  have hx:=iO r1
  subst hx
  exact xV pins s σ H _ us Q I r (.inr ⟨_,rfl,q _ F H (iU.refl ..) sb (.int _)⟩)
 ·cases hw
  have hx:=gH r1
  subst hx
  exact xV pins s σ H _ us Q I r (.inl ⟨_,rfl,q _ F H (iU.refl ..) sb (.int _)⟩)
theorem vY {x : Str} {cJ : List Str} {cap : List Nat} {scope : Scope} {cl : List (Str × Addr)} (clos : closureFor scope X.env = pure cl) (oq : ∀ z ∈ scope.names, z.2 ≠ .cell) (kind : scope.kind = .function) (names : ∀ z ∈ scope.names, z.2 = .local -> scope.names.lookup z.1 = some .local)
    (loc:scope.names.lookup x=some .local) (hc:cl.map (fun p=>X.env.cells.lookup p.1)=cl.map (fun p=>some p.2)) (only:∀z∈scope.names,z.2= .free->z.1∈cJ) (hcl:cl.map (·.1)=cJ.reverse\/cl.map (·.1)=cJ) (nd:(x :: cJ).Nodup)
    (slot:cap.map (fun i=>X.N[i]?)=cJ.map some) (vis:cJ.map (fun n=>X.env.scope.names.lookup n)=cJ.map fun _=>some .cell) (rel:cJ.map (fun n=>(relabel scope X.env).names.lookup n)=cJ.map fun _=>some .cell):
    lU X x cJ cap scope cl:=by
  have all:∀{α β:Type}{f g:α->β}{l:List α},l.map f=l.map g->∀a∈l,f a=g a:=fun {α β f g l} h=>by
    induction l with
    | nil=>intro a m;cases m
    | cons b r ih=>
      intro a m
      rw[List.map_cons,List.map_cons] at h
      injection h with h1 h2
      rcases List.mem_cons.mp m with z | z
      . rw[z];exact h1
      . exact ih h2 a z
  have S7:∀n,n∈cJ->∃c,cl.lookup n=some c:=fun n hn=>lookup_some (hcl.elim (fun z=>by rw[z];exact List.mem_reverse.mpr hn) fun z=>by rw[z];exact hn)
  have len:cap.length=cJ.length:=by have:=congrArg List.length slot;simpa using this
  refine⟨clos,oq,kind,names,loc,fun n c h=>all hc (n,c) (PySem.mem_of_lookup h),fun n h=>?_,nd,len,fun j n h=>?_,fun n h=>⟨.inl (all rel n h),S7 n h,by rw[all vis n h];decide⟩⟩
  . refine S7 n ?_
    have go:∀k,(k=NameKind.cell\/k=NameKind.free)->(relabel scope X.env).names.lookup n=some k->n∈cJ:=fun k hk e=>by
      have m:=PySem.mem_of_lookup e
      unfold relabel at m
      obtain⟨⟨n',k'⟩,hm,q⟩:=List.mem_map.mp m
      by_cases hf:k'= .free
      . have h0:n'∈cJ:=only _ hm hf
        have e1:n'=n:=by
          have h1:=congrArg Prod.fst q
          dsimp only at h1
          split at h1 <;> exact h1
        rw[<-e1]
        exact h0
      . have z:(k' == NameKind.free)=false:=by simpa using hf
        simp only[z,Bool.false_and] at q
        have q2:k'=k:=by
          have:=congrArg Prod.snd q
          simpa using this
        rcases hk with rfl | rfl
        . exact absurd q2 (oq _ hm)
        . exact absurd q2 hf
    rcases h with h | h
    . exact go _ (.inl rfl) h
    . exact go _ (.inr rfl) h
  . have e:=congrArg (fun l=>l[j]?) slot
    simp only[List.getElem?_map,h,Option.map_some] at e
    cases q:cap[j]? with
    | none=>rw[q] at e;cases e
    | some i=>
      rw[q] at e
      exact⟨i,rfl,Option.some.inj e,.inr (.inl (all vis n (List.mem_of_getElem? h)))⟩
end
open AutoSeq1 (wpAny_loadPart')
noncomputable def nP (k:Bool) (h:Heap) (a:Addr) (its:Array Value):Prop:=match k with
 | true=>h.IsList a its
 | false=>h.IsTuple a its
noncomputable def lR (k:Bool) (h:Heap) (it a:Addr) (i:Nat):Prop:=match k with
 | true=>h.IsListIter it a i
 | false=>h.IsTupleIter it a i
noncomputable def itN:Bool->String
 | true=>"list_iterator"
 | false=>"tuple_iterator"
noncomputable def Gk (k:Bool) (a:Addr):Obj:={cls:=.type (itN k),data:=.fields #[.ref a,.int 0 0]}
theorem nP.at {k:Bool}{h h':Heap}{a:Addr}{its:Array Value}(x:nP k h a its) (g:∀o,h.get? a=some o->h'.get? a=some o):nP k h' a its:=by
 cases k <;> exact let⟨o,ho,r⟩:=x;⟨o,g o ho,r⟩
theorem lR.at {k:Bool}{h h':Heap}{it a:Addr}{i:Nat}(x:lR k h it a i) (g:∀o,h.get? it=some o->h'.get? it=some o):lR k h' it a i:=by
 cases k <;> exact let⟨o,ho,r⟩:=x;⟨o,g o ho,r⟩
theorem lR.obj {k:Bool}{h:Heap}{it a:Addr}{i:Nat}(x:lR k h it a i):∃o,h.get? it=some o/\∀v,o.data≠.cell v:=by
 cases k <;> exact let⟨o,ho,_,r⟩:=x;⟨o,ho,fun v z=>by rw[r] at z;cases z⟩
theorem lR.new (k:Bool) (h:Heap) (a:Addr):lR k (h.push (Gk k a)) h.objs.size a 0:=by
 cases k <;> exact⟨_,Heap.get?_push_size _ rfl,rfl,rfl⟩
section
variable {prog:Program}{w:World}{A:Around}{E:Value->Shared->Prop}{s:Shared}
theorem Ng {k:Bool}{a:Addr}{its:Array Value}{Q:Value->Shared->Prop}(h:nP k s.heap a its) (q:Q (.ref s.heap.objs.size) {s with heap:=s.heap.push (Gk k a)}):wpAny (model prog w) A (pyIter (.ref a)) Q E s:=by
 cases k with
 | true=>exact wpAny_pyIter_list h q
 | false=>exact wpAny_pyIter_tuple h q
theorem Lk {ad t:Addr}{n:Nat}{vals:Array Value}{y:Value}{Q:Value->Shared->Prop}(st:s.heap.IsTupleIter ad t n) (hv:s.heap.IsTuple t vals) (hy:vals[n]? =some y)
  (q:∀h',h'.IsTupleIter ad t (n+1)->Heap.SameBut ad s.heap h'->Q y {s with heap:=h'}):wpAny (model prog w) A (Builtin.SmallTypes.nextOf (.ref ad)) Q E s:=by
 obtain⟨ob,hob,hcl,hdat⟩:=id st
 obtain⟨ob2,OQ,_,nn,HV⟩:=hv
 unfold Builtin.SmallTypes.nextOf
 refine wpAny_bind (wpAny_callSpecial?_slot (name:=Str.ofString "__next__") st.typeIs F.slot_tuple_iterator_next (wpAny_call_entry F.slot_tuple_iterator_next st.typeIs F.entry_tuple_iterator_next ?_ (F.args_tuple_iterator_next_1 _)))
 show wpAny _ _ (field (.ref ad) 0 >>= _) _ _ s
 refine wpAny_bind (wpAny_field hob hdat (x:=.ref t) rfl ?_)
 show wpAny _ _ (if(Value.ref t == Value.none)=true then _ else _) _ _ s;rw[if_neg (show ¬((Value.ref t == Value.none)=true) from Bool.false_ne_true)]
 show wpAny _ _ (field (.ref ad) 1 >>= _) _ _ s
 refine wpAny_bind (wpAny_field hob hdat (x:=.int n 0) rfl ?_)
 show wpAny _ _ (seqItems? (.ref t) >>= _) _ _ s;refine wpAny_bind (wpAny_seqItems OQ HV ?_)
 simp only[Int.toNat_natCast,hy]
 refine wpAny_bind (wpAny_setField hob hdat (by simp) (wpAny_pure ⟨y,rfl,wpAny_pure (q _ ?_ (Heap.SameBut.update ..))⟩))
 exact⟨_,Heap.get?_update_self _ hob (Obj.isFreed_of_fields (Obj.data_mapFields hdat _)),(Obj.cls_mapFields ..).trans hcl,by rw[Obj.data_mapFields hdat];simp[rawInt]⟩
theorem OR {ad t:Addr}{n:Nat}{vals:Array Value}{Q:Value->Shared->Prop}(hn:A.handled=none) (st:s.heap.IsTupleIter ad t n) (hv:s.heap.IsTuple t vals) (hy:vals[n]? =none)
  (q:∀h' e,Heap.ExtBut ad s.heap h'->(∃o,h'.get? e=some o/\o.cls= .type "StopIteration")->E (.ref e) {s with heap:=h'}):wpAny (model prog w) A (Builtin.SmallTypes.nextOf (.ref ad)) Q E s:=by
 obtain⟨ob,hob,hcl,hdat⟩:=id st
 obtain⟨ob2,OQ,_,nn,HV⟩:=hv
 unfold Builtin.SmallTypes.nextOf
 refine wpAny_bind (wpAny_callSpecial?_slot (name:=Str.ofString "__next__") st.typeIs F.slot_tuple_iterator_next (wpAny_call_entry F.slot_tuple_iterator_next st.typeIs F.entry_tuple_iterator_next ?_ (F.args_tuple_iterator_next_1 _)))
 show wpAny _ _ (field (.ref ad) 0 >>= _) _ _ s
 refine wpAny_bind (wpAny_field hob hdat (x:=.ref t) rfl ?_)
 show wpAny _ _ (if(Value.ref t == Value.none)=true then _ else _) _ _ s;rw[if_neg (show ¬((Value.ref t == Value.none)=true) from Bool.false_ne_true)]
 show wpAny _ _ (field (.ref ad) 1 >>= _) _ _ s
 refine wpAny_bind (wpAny_field hob hdat (x:=.int n 0) rfl ?_)
 show wpAny _ _ (seqItems? (.ref t) >>= _) _ _ s;refine wpAny_bind (wpAny_seqItems OQ HV ?_)
 simp only[Int.toNat_natCast,hy]
 refine wpAny_bind (wpAny_rule (wpAny_bind (wpAny_setField hob hdat (by simp) ?_)))
 show wpAny _ _ (newExc (.type "StopIteration") [] >>= _) _ _ _;refine wpAny_bind ?_;simp only[newExc,newTuple]
 refine wpAny_bind (wpAny_newObj_type ?_ (by size_fits));refine wpAny_bind (m:=firstArgMember _ _) (wpAny_of_eq (a:=Value.none) (by first | rfl | (simp only[firstArgMember];rfl)) ?_)
 refine wpAny_newObj_type ?_ (by size_fits);simp only[raiseNew];refine wpAny_bind (wpAny_handled ?_)
 first | rw[show A.in1.handled=none from hn] | rw[hn]
 refine wpAny_bind (wpAny_pure (wpAny_throw ?_));exact q _ _ (((Heap.SameBut.update ..).extBut.push _).push _) ⟨_,Heap.get?_push_size _ rfl,rfl⟩
theorem nextK {k:Bool}{ad t:Addr}{n:Nat}{vals:Array Value}{y:Value}{Q:Value->Shared->Prop}(st:lR k s.heap ad t n) (hv:nP k s.heap t vals) (hy:vals[n]? =some y)
  (q:∀h',lR k h' ad t (n+1)->Heap.SameBut ad s.heap h'->Q y {s with heap:=h'}):wpAny (model prog w) A (Builtin.SmallTypes.nextOf (.ref ad)) Q E s:=by
 cases k with
 | true=>exact wpAny_nextOf_list_item st hv hy q
 | false=>exact Lk st hv hy q
theorem A1 {k:Bool}{ad t:Addr}{n:Nat}{vals:Array Value}{Q:Value->Shared->Prop}(hn:A.handled=none) (st:lR k s.heap ad t n) (hv:nP k s.heap t vals) (hy:vals[n]? =none)
  (q:∀h' e,Heap.ExtBut ad s.heap h'->(∃o,h'.get? e=some o/\o.cls= .type "StopIteration")->E (.ref e) {s with heap:=h'}):wpAny (model prog w) A (Builtin.SmallTypes.nextOf (.ref ad)) Q E s:=by
 cases k with
 | true=>exact wpAny_nextOf_list_end hn st hv hy q
 | false=>exact OR hn st hv hy q
theorem OS {k:Bool}(hn:A.handled=none) (ad t:Addr) (hne:t≠ad) (vals:Array Value):Draws prog w A ad [ad,t] vals.size (fun i v=>vals[i]? =some v) (fun i h=>lR k h ad t i/\nP k h t vals) where
 live:=fun _ _ st=>let⟨o,ho,_⟩:=st.1.obj;⟨o,ho⟩
 frame:=fun _ _ _ st hk=>⟨st.1.at fun o e=>hk ad (by simp) o e,st.2.at fun o e=>hk t (by simp) o e⟩
 item:=fun i s Q E hi st hQ=>nextK st.1 st.2 (y:=vals[i]) (by simp[hi]) fun h' OT hs'=>hQ _ h' s.toks (by simp[hi]) ⟨OT,st.2.at fun o e=>hs'.extBut _ _ hne e⟩ hs'
 done:=fun s Q E st hE=>A1 hn st.1 st.2 (by simp) hE
end
theorem HW (l:Addr) (vals:Array Value) (n:Nat) (dct:Option Addr) (sl:Array (Option Value)):
  Meets (Builtin.«enumerate.__new__» ⟨[.type "enumerate",.ref l],[]⟩) (fun _ R s=>s.heap.get? l=some {cls:=.type "tuple",dict:=dct,data:=.seq vals n,slots:=sl}/\
   R (.ok (.ret (.ref (s.heap.push (Gk false l)).objs.size))) {s with heap:=(s.heap.push (Gk false l)).push {cls:=.type "enumerate",data:=.fields #[.none,.bool false,.ref s.heap.objs.size,rawInt 0,.none,.none]}}):=
 .of_wp fun prog w A R s h=>by
  obtain⟨hp,g,d,tk,os⟩:=s;obtain⟨hl,h⟩:=h
  have hsub:=sub_enumerate
  have hT:Heap.IsTuple (Shared.heap ⟨hp,g,d,tk,os⟩) l vals:=⟨_,hl,rfl,n,rfl⟩
  wp_walk using wpAny_loadPart' hl
  refine wpAny_stack_any fun st=>wpAny_pure ?_
  split
  ·rename_i c _ _ _ _ _
   cases(c == Value.type "enumerate")
   ·wp_walk using wpAny_loadPart' hl,wpAny_pyIter_tuple hT;exact⟨_,rfl,h⟩
   ·wp_walk using wpAny_loadPart' hl,wpAny_pyIter_tuple hT;exact⟨_,rfl,h⟩
  ·wp_walk using wpAny_loadPart' hl,wpAny_pyIter_tuple hT;exact⟨_,rfl,h⟩
section
variable {prog:Program}{w:World}{A:Around}{E:Value->Shared->Prop}{s:Shared}
theorem Ct {k:Bool}{l:Addr}{vals:Array Value}{Q:Value->Shared->Prop}(hL:nP k s.heap l vals)
  (h:∀h',IsEnum h' (s.heap.objs.size+1) s.heap.objs.size 0 .none->lR k h' s.heap.objs.size l 0->(∀b o,s.heap.get? b=some o->h'.get? b=some o)->Q (.ref (s.heap.objs.size+1)) {s with heap:=h'}):
  wpAny (model prog w) A (call (.type "enumerate") [.ref l]) Q E s:=by
 cases k with
 | true=>exact call_enumerate_list hL fun h' a b _ c=>h h' a b c
 | false=>
  obtain⟨⟨c,dct,dt,sl⟩,hl,hc,n,hd⟩:=hL
  have hc:c= .type "tuple":=hc
  have hd:dt= .seq vals n:=hd
  subst hc hd
  refine callType_new F.called_enumerate (by decide) (F.typeCall_enumerate_1 _) (F.newCall_enumerate_1 _) (fun obj=>F.args_object_init_2 obj _) F.entry_enumerate_new (HW l vals n dct sl) ⟨hl,?_⟩
  have hz:(s.heap.push (Gk false l)).objs.size=s.heap.objs.size+1:=Heap.size_push ..
  show _/\_
  rw[hz]
  have he:IsEnum ((s.heap.push (Gk false l)).push {cls:=.type "enumerate",data:=.fields #[.none,.bool false,.ref s.heap.objs.size,rawInt 0,.none,.none]}) (s.heap.objs.size+1) s.heap.objs.size 0 .none:=by
   have:=Heap.get?_push_size (s.heap.push (Gk false l)) (o:={cls:=.type "enumerate",data:=.fields #[.none,.bool false,.ref s.heap.objs.size,rawInt 0,.none,.none]}) rfl
   rw[hz] at this;exact this
  exact⟨⟨_,he,rfl⟩,h _ he ((lR.new false s.heap l).at fun o e=>Heap.get?_push_of_some _ e) fun b o x=>Heap.get?_push_of_some _ (Heap.get?_push_of_some _ x)⟩
end
theorem OU {prog:Program}{w:World}{A:Around}{k:Bool}(hn:A.handled=none) (ad t:Addr) (vals:Array Value) (n:Nat) (he:vals[n]? =none):Draws prog w A ad [ad,t] n (fun _ _=>True) (fun i h=>lR k h ad t i/\nP k h t vals/\i=n) where
 live:=fun _ _ st=>let⟨o,ho,_⟩:=st.1.obj;⟨o,ho⟩
 frame:=fun _ _ _ st hk=>⟨st.1.at fun o e=>hk ad (by simp) o e,st.2.1.at fun o e=>hk t (by simp) o e,st.2.2⟩
 item:=fun i s Q E hi st hQ=>absurd hi (by rw[st.2.2];exact Nat.lt_irrefl _)
 done:=fun s Q E st hE=>A1 hn st.1 st.2.1 he hE
noncomputable def yr (K:PySem.W.Frag) (H:Hp) (k:Bool) (a:Addr) (xs:List V):Prop:=match k with
 | true=>nT K H a xs
 | false=>yY K H a xs
section
variable {X:Cx}{pins:List (Addr×Obj)}{σ:St}{H:Hp}{s:Shared}
theorem Inv.Cu (I:Inv X pins σ H s){k:Bool}{a:Addr}{xs:List V}(h:yr X.K H k a xs):∃its:List Value,Vals xs its/\nP k s.heap a its.toArray/\xs.length<=sizeLine:=by
 cases k with
 | true=>obtain⟨its,r,p,z⟩:=I.list h;exact⟨its,r,p.isList,z⟩
 | false=>obtain⟨its,r,p,z⟩:=I.tuple h;exact⟨its,r,p,z⟩
theorem Inv.zH (I:Inv X pins σ H s){k:Bool}{a:Addr}{xs ys:List V}(h:yr X.K H k a xs) (h':yr X.K H k a ys):xs=ys:=by
 cases k with
 | true=>exact I.vo h h'
 | false=>exact I.xU h h'
theorem Inv.vf {t':Nat}{h':Heap}{fp:List Addr}(I:Inv X pins σ H s) (k:∀b o,b∉fp->s.heap.get? b=some o->h'.get? b=some o) (hf:∀b∈fp,lP X pins H b):Inv X pins σ H {s with heap:=h',toks:=t'}:=by
 have Rr:∀b u,H b=some u->b∉fp:=fun b u e z=>by rw[(hf b z).1] at e;cases e
 refine I.step (g':=s.gens) (d':=s.drawn) (ch:=fp) (fun b hb=>?_) (fun b o _ _ hc e _=>k b o hc e) (fun b o _ _ hc e _=>⟨o.slots,k b o hc e⟩) (fun _ _ _ _ n=>n)
  (fun b o hc e=>⟨o,k b o hc e⟩) (fun _ _ e=>e) (fun _ _ _ e=>e) (fun b ps e=>⟨#[],by rw[e];simp⟩) (fun m hm=>?_) (fun b u e=>?_) I.bare
 ·obtain⟨_,f1,_,f3,f4,f5⟩:=hf b hb
  exact⟨f3,f1,f4,f5⟩
 ·obtain⟨o,es,ep,ho,r⟩:=hm
  exact⟨o,es,ep,k _ o (fun z=>(hf _ z).2.1 rfl) ho,r⟩
 ·refine(I.hok b u e).stay (fun c v hc q=>k c v ?_ q) (fun _ q=>q) fun _ _ q=>q
  rcases hc with z | z
  ·rw[z];exact Rr b u e
  ·exact Rr c _ z
theorem Inv.handed {t':Nat}{h':Heap}{fp:List Addr}{xs:List V}{its:List Value}(I:Inv X pins σ H s) (hf:∀b∈fp,lP X pins H b) (hlt:∀b∈fp,b < s.heap.objs.size) (k:∀b o,b∉fp->s.heap.get? b=some o->h'.get? b=some o)
  (ht:h'.get? s.heap.objs.size=some {cls:=.type "tuple",data:=.seq its.toArray}) (hv:Vals xs its) (hz:xs.length<=sizeLine):Inv X pins σ (upd H s.heap.objs.size (.tup xs)) {s with heap:=h',toks:=t'}:=by
 have I1:Inv X pins σ (upd H s.heap.objs.size (.tup xs)) {s with heap:=s.heap.push {cls:=.type "tuple",data:=.seq its.toArray},toks:=t'}:=
  I.laid (fun _ _ q=>Heap.get?_push_of_some _ q) (Nat.le_refl _) ⟨hz,its,hv,IsTup.new s.heap _⟩
 refine Inv.vf (s:={s with heap:=s.heap.push {cls:=.type "tuple",data:=.seq its.toArray},toks:=t'}) (t':=t') (fp:=fp) I1 (fun b o hb e=>?_) fun b hb=>?_
 ·rcases Heap.get?_push_cases (show(s.heap.push {cls:=.type "tuple",data:=.seq its.toArray}).get? b=some o from e) with⟨z1,z2⟩ | z
  ·rw[z1,z2];exact ht
  ·exact k b o hb z
 ·obtain⟨f0,f1,f2,f3,f4,f5⟩:=hf b hb
  exact⟨by rw[aY (Nat.ne_of_lt (hlt b hb))];exact f0,f1,f2,f3,f4,f5⟩
end
noncomputable def Ite (K:PySem.W.Frag) (k:Bool) (a:Addr):It:=
 ⟨fun i H=>∃xs x,yr K H k a xs/\xs[i]? =some x,fun i H x H'=>∃p y,H p=none/\x= .ref p/\H'=upd H p (.tup [.int i,y])/\∀xs,yr K H k a xs->xs[i]? =some y,fun i H=>∃xs,yr K H k a xs/\xs.length<=i⟩
theorem ES {P : Program} {w : World} {K : PySem.W.Frag} {elts : List Expr} {j : Nat} {pos : Pos} (k : Bool) (a it e : Addr) (hai : a ≠ it) (hae : e ≠ a) (hei : e ≠ it) : Turn P w K (.Tuple elts j pos) (Ite K k a) [e, it] e (fun i h => (∃ old, IsEnum h e it (i : Int) old) /\ lR k h it a i) where
  mem:=by simp
  obj := fun i h ⟨⟨old, he⟩, st⟩ b hb => by
    rcases List.mem_cons.mp hb with z | z
    . subst z;exact⟨_,he,fun v z=>by cases z⟩
    . have z:b=it:=by simpa using z
      subst z
      exact st.obj
  keep:=fun i h h' ⟨⟨old,he⟩,st⟩ g=>⟨⟨old,g e (by simp) _ he⟩,st.at fun o q=>g it (by simp) o q⟩
  item:=by
    intro X hP hw hK hc i pins s σ H E I hf st hg
    subst hP hw hK
    obtain⟨xs,x,hq,hx⟩:=hg
    obtain⟨its,rv,p,hz⟩:=I.Cu hq
    obtain⟨u,hu,ru⟩:=rv.get hx
    obtain⟨⟨old,he⟩,hit⟩:=st
    have hsz:i < its.toArray.size:=by rw[List.size_toArray];exact(List.getElem?_eq_some_iff.mp hu).1
    refine wpAny_pyNext_enum_itemD (OS (k:=k) (A:=X.A.in1) (I.ok.hd hc) it a hai its.toArray) he ⟨hit,p⟩ hsz hei (by simp[hae,hei]) fun y h' tk hy ho hs' hT hzz hk=>?_
    obtain⟨OT,p'⟩:=hs'
    have ey:y=u:=by
      have h1:its.toArray[i]? =some u:=by simpa using hu
      rw[h1] at hy;exact(Option.some.inj hy).symm
    subst ey
    refine⟨_,rfl,wpAny_letOwnedTupleGo_enum ho fun h2 he2 hs2=>?_⟩
    have hs2:Heap.SameBut e h' h2:=hs2
    have elt:e < s.heap.objs.size:=Heap.lt_size he
    obtain⟨oi,hoi,_⟩:=hit.obj
    have ilt:it < s.heap.objs.size:=Heap.lt_size hoi
    have S8:∀b∈[e,it],b < s.heap.objs.size:=fun b hb=>by
      rcases List.mem_cons.mp hb with z | z
      . rw[z];exact elt
      . rw[show b=it by simpa using z];exact ilt
    have I2:Inv X pins σ (upd H s.heap.objs.size (.tup [.int i,x])) {s with heap:=h2,toks:=tk+1}:=
      I.handed (its:=[.int i tk,y]) hf S8 (fun b o hb q=>(hs2.2 b fun z=>hb (by simp[z])).trans (hk b o (fun z=>hb (by simp[z])) (fun z=>hb (by simp[z])) q))
        ((hs2.2 _ (Nat.ne_of_gt elt)).trans hT) (.cons ⟨tk,rfl⟩ (.cons ru .nil)) (show 2<=sizeLine by decide)
    refine⟨.ref s.heap.objs.size,_,I2,rfl,⟨_,x,I.fresh,rfl,rfl,fun ys hy2=>by rw[I.zH hy2 hq];exact hx⟩,⟨⟨y,by simpa using he2⟩,OT.at fun o q=>(hs2.2 _ (Ne.symm hei)).trans q⟩,fun b hb=>?_⟩
    rw[aY (Nat.ne_of_lt (S8 b hb))]
    exact(hf b hb).1
  done:=by
    intro X hP hw hK hc i pins s σ H E I hf st hg
    subst hP hw hK
    obtain⟨xs,hq,hx⟩:=hg
    obtain⟨its,rv,p,hz⟩:=I.Cu hq
    obtain⟨⟨old,he⟩,hit⟩:=st
    have hl:=rv.length
    refine wpAny_pyNext_enum_endD (n:=i) (OU (k:=k) (A:=X.A.in1) (I.ok.hd hc) it a its.toArray i (by simp;omega)) he ⟨hit,p,rfl⟩ fun h' hx=>?_
    exact⟨rfl,I.vf (t':=s.toks) (fun b o hb q=>hx b o (fun z=>hb (by simp[z])) q) hf⟩
  self:=fun _ _ _ _ _ st h=>by
    obtain⟨⟨old,he⟩,_⟩:=st
    exact wpAny_pyIter_enum he h
noncomputable abbrev TupAt (h:Heap) (T:Addr) (vals:Array Value):Prop:=h.get? T=some {cls:=.type "tuple",data:=.seq vals}
section
variable {prog:Program}{w:World}{A:Around}{E:Value->Shared->Prop}{s:Shared}
theorem ET {T:Addr}{vals:Array Value}{x:Value}{k:Nat}{Q:Unit->Shared->Prop}(hT:TupAt s.heap T vals) (hz:vals.size<=sizeLine) (h:∀h',TupAt h' T (vals.setIfInBounds k x)->Heap.SameBut T s.heap h'->Q () {s with heap:=h'}):
  wpAny (model prog w) A (updateSeq T (·.setIfInBounds k x)) Q E s:=by
 refine wpAny_updateSeq hT rfl (h _ ?_ (Heap.SameBut.update ..)) hz (by simp only[Array.size_setIfInBounds];omega);rw[TupAt,Heap.get?_update_self _ hT rfl];simp[Obj.mapSeq]
structure zI (N:Nat) (k0 k1:Bool) (l0 l1:Nat) (i:Nat) (f0:Value) (h:Heap):Prop where
 z:IsZip h (N+4) (N+2) (N+3) f0
 ti:TupAt h (N+2) #[.ref N,.ref (N+1)]
 to:∃v:List Value,v.length=2/\TupAt h (N+3) v.toArray
 c0:lR k0 h N l0 i
 c1:lR k1 h (N+1) l1 i
noncomputable def iI (N:Nat):List Addr:=[(N+4),(N+2),(N+3),N,(N+1)]
theorem aR {N b:Nat}:b∈iI N↔N<=b/\b<=N+4:=by
 unfold iI
 simp only[List.mem_cons,List.not_mem_nil,or_false]
 omega
theorem HX {N i:Nat}{k0 k1:Bool}{l0 l1:Nat}{v0 v1:Array Value}{x0 x1:Value}{Q:Option Value->Shared->Prop}(st:zI N k0 k1 l0 l1 i .none s.heap)
  (DL:nP k0 s.heap l0 v0) (xg:v0[i]? =some x0) (Cv:l0 < N)
  (B4:nP k1 s.heap l1 v1) (zJ:v1[i]? =some x1) (Cw:l1 < N)
  (q:∀h',zI N k0 k1 l0 l1 (i+1) (rawInt s.heap.objs.size) h'->TupAt h' s.heap.objs.size #[x0,x1]->(∀(b:Nat) o,b∉iI N->s.heap.get? b=some o->h'.get? b=some o)->Q (some (.ref s.heap.objs.size)) {s with heap:=h'}):
  wpAny (model prog w) A (pyNext (.ref (N+4))) Q E s:=by
 obtain⟨hz,hTI,⟨w0,hw0,hTO⟩,d0,d1⟩:=st
 obtain⟨a0,a1,rfl⟩:∃a0 a1,w0=[a0,a1]:=by
  match w0,hw0 with
  | [a0,a1],_=>exact⟨_,_,rfl⟩
 have hT:s.TypeIs (.ref (N+4)) "zip":=⟨_,hz,rfl⟩
 unfold pyNext
 refine wpAny_bind (wpAny_attempt (wpAny_callSpecial?_slot (name:=Str.ofString "__next__") hT F.slot_zip_next (wpAny_call_entry F.slot_zip_next hT F.entry_zip_next ?_ (F.args_zip_next_1 _))))
 show wpAny _ _ (field (.ref (N+4)) 2 >>= _) _ _ _;refine wpAny_bind (wpAny_field hz rfl (x:=.bool false) rfl ?_)
 show wpAny _ _ (field (.ref (N+4)) 3 >>= _) _ _ _;refine wpAny_bind (wpAny_field hz rfl (x:=.ref (N+2)) rfl ?_)
 refine wpAny_bind (wpAny_seqItems hTI rfl ?_);show wpAny _ _ (Builtin.SmallTypes.ownedTupleIsFree (.ref (N+4)) >>= _) _ _ _
 refine wpAny_bind ?_;unfold Builtin.SmallTypes.ownedTupleIsFree;refine wpAny_bind (wpAny_field hz rfl (x:=.none) rfl (wpAny_pure ?_))
 simp only[if_true];refine wpAny_bind (wpAny_rule ?_);refine wpAny_bind (wpAny_field hz rfl (x:=.ref (N+3)) rfl ?_)
 refine wpAny_bind (wpAny_setField_rec hz (by simp) fun g0 z0 e0=>?_)
 have z0:IsZip g0 (N+4) (N+2) (N+3) .ellipsis:=z0
 have e0:Heap.SameBut (N+4) s.heap g0:=e0
 refine wpAny_bind ?_;simp only[List.zipIdx_cons,List.zipIdx_nil,List.forIn_cons,List.forIn_nil]
 have t0:TupAt g0 (N+3) #[a0,a1]:=(e0.2 _ (by first | omega | (show @Ne Nat _ _;omega))).trans hTO
 have m0:∀(b:Nat) o,b∉iI N->s.heap.get? b=some o->g0.get? b=some o:=fun b o hb y=>(e0.2 b fun z=>hb (aR.mpr (by have z:@Eq Nat b _:=z;omega))).trans y
 have Ll:lR k0 g0 N l0 i:=d0.at fun o y=>(e0.2 _ (by first | omega | (show @Ne Nat _ _;omega))).trans y
 have Cy:lR k1 g0 (N+1) l1 i:=d1.at fun o y=>(e0.2 _ (by first | omega | (show @Ne Nat _ _;omega))).trans y
 refine wpAny_bind (wpAny_bind (wpAny_onRaise ?_));show wpAny _ _ (Builtin.SmallTypes.nextOf (.ref N) >>= _) _ _ _
 refine wpAny_bind (nextK Ll (DL.at fun o y=>m0 _ o (fun z=>by have:=aR.mp z;omega) y) xg fun g1 c0 e1=>wpAny_pure ?_)
 have e1:Heap.SameBut N g0 g1:=e1
 have t1:TupAt g1 (N+3) #[a0,a1]:=(e1.2 _ (by first | omega | (show @Ne Nat _ _;omega))).trans t0
 refine wpAny_bind (wpAny_seqItems t1 rfl ?_);refine wpAny_bind (ET t1 (show 2<=sizeLine by decide) fun g2 t2 e2=>?_)
 have t2:TupAt g2 (N+3) #[x0,a1]:=t2
 have e2:Heap.SameBut (N+3) g1 g2:=e2
 have z1:IsZip g2 (N+4) (N+2) (N+3) .ellipsis:=(e2.2 _ (by first | omega | (show @Ne Nat _ _;omega))).trans ((e1.2 _ (by first | omega | (show @Ne Nat _ _;omega))).trans z0)
 have m2:∀(b:Nat) o,b∉iI N->s.heap.get? b=some o->g2.get? b=some o:=fun b o hb y=>(e2.2 b fun z=>hb (aR.mpr (by have z:@Eq Nat b _:=z;omega))).trans ((e1.2 b fun z=>hb (aR.mpr (by have z:@Eq Nat b _:=z;omega))).trans (m0 b o hb y))
 refine wpAny_bind (wpAny_letGo (wpAny_pure ?_))
 have c0:lR k0 g2 N l0 (i+1):=c0.at fun o y=>(e2.2 _ (by first | omega | (show @Ne Nat _ _;omega))).trans y
 have Cy:lR k1 g2 (N+1) l1 i:=Cy.at fun o y=>(e2.2 _ (by first | omega | (show @Ne Nat _ _;omega))).trans ((e1.2 _ (by first | omega | (show @Ne Nat _ _;omega))).trans y)
 have i0:g2.get? (N+2)=s.heap.get? (N+2):=by rw[e2.2 _ (by first | omega | (show @Ne Nat _ _;omega)),e1.2 _ (by first | omega | (show @Ne Nat _ _;omega)),e0.2 _ (by first | omega | (show @Ne Nat _ _;omega))]
 have s0:g2.objs.size=s.heap.objs.size:=by rw[e2.1,e1.1,e0.1]
 refine wpAny_bind (wpAny_bind (wpAny_onRaise ?_));show wpAny _ _ (Builtin.SmallTypes.nextOf (.ref (N+1)) >>= _) _ _ _
 refine wpAny_bind (nextK Cy (B4.at fun o y=>m2 _ o (fun z=>by have:=aR.mp z;omega) y) zJ fun g3 c1 e3=>wpAny_pure ?_)
 have e3:Heap.SameBut (N+1) g2 g3:=e3
 have t3:TupAt g3 (N+3) #[x0,a1]:=(e3.2 _ (by first | omega | (show @Ne Nat _ _;omega))).trans t2
 refine wpAny_bind (wpAny_seqItems t3 rfl ?_);refine wpAny_bind (ET t3 (show 2<=sizeLine by decide) fun g4 t4 e4=>?_)
 have t4:TupAt g4 (N+3) #[x0,x1]:=t4
 have e4:Heap.SameBut (N+3) g3 g4:=e4
 have z2:IsZip g4 (N+4) (N+2) (N+3) .ellipsis:=(e4.2 _ (by first | omega | (show @Ne Nat _ _;omega))).trans ((e3.2 _ (by first | omega | (show @Ne Nat _ _;omega))).trans z1)
 have m4:∀(b:Nat) o,b∉iI N->s.heap.get? b=some o->g4.get? b=some o:=fun b o hb y=>(e4.2 b fun z=>hb (aR.mpr (by have z:@Eq Nat b _:=z;omega))).trans ((e3.2 b fun z=>hb (aR.mpr (by have z:@Eq Nat b _:=z;omega))).trans (m2 b o hb y))
 refine wpAny_bind (wpAny_letGo (wpAny_pure (wpAny_pure ?_)))
 have c0:lR k0 g4 N l0 (i+1):=c0.at fun o y=>(e4.2 _ (by first | omega | (show @Ne Nat _ _;omega))).trans ((e3.2 _ (by first | omega | (show @Ne Nat _ _;omega))).trans y)
 have c1:lR k1 g4 (N+1) l1 (i+1):=c1.at fun o y=>(e4.2 _ (by first | omega | (show @Ne Nat _ _;omega))).trans y
 have i1:g4.get? (N+2)=s.heap.get? (N+2):=by rw[e4.2 _ (by first | omega | (show @Ne Nat _ _;omega)),e3.2 _ (by first | omega | (show @Ne Nat _ _;omega)),i0]
 have s1:g4.objs.size=s.heap.objs.size:=by rw[e4.1,e3.1,s0]
 refine wpAny_bind (wpAny_seqItems t4 rfl ?_);refine wpAny_bind (wpAny_newTuple ?_)
 have OV:(N+4) < g4.objs.size:=Heap.lt_size z2
 show wpAny _ _ (Builtin.SmallTypes.ownedTupleHandOut (.ref (N+4)) (.ref g4.objs.size) >>= _) _ _ _;refine wpAny_bind ?_;unfold Builtin.SmallTypes.ownedTupleHandOut
 have y0:IsZip (g4.push {cls:=.type "tuple",data:=.seq #[x0,x1]}) (N+4) (N+2) (N+3) .ellipsis:=Heap.get?_push_of_some _ z2
 refine wpAny_bind (wpAny_setField_rec y0 (by simp) fun f1 y1 r1=>?_)
 have y1:IsZip f1 (N+4) (N+2) (N+3) (rawInt g4.objs.size):=y1
 refine wpAny_setField_rec y1 (by simp) fun f2 y2 r2=>?_
 have y2:IsZip f2 (N+4) (N+2) (N+3) (rawInt g4.objs.size):=y2
 have up:∀b o,b≠(N+4)->g4.get? b=some o->f2.get? b=some o:=fun b o hb y=>r2.extBut _ _ hb (r1.extBut _ _ hb (Heap.get?_push_of_some _ y))
 have tt:TupAt f2 g4.objs.size #[x0,x1]:=r2.extBut _ _ (Nat.ne_of_gt OV) (r1.extBut _ _ (Nat.ne_of_gt OV) (Heap.get?_push_size _ rfl))
 rw[s1] at y2 tt
 refine wpAny_pure ⟨_,rfl,wpAny_pure ?_⟩
 rw[s1]
 exact q f2 ⟨y2,up _ _ (by first | omega | (show @Ne Nat _ _;omega)) (i1.trans hTI),⟨[x0,x1],rfl,up _ _ (by first | omega | (show @Ne Nat _ _;omega)) t4⟩,c0.at fun o y=>up _ o (by first | omega | (show @Ne Nat _ _;omega)) y,c1.at fun o y=>up _ o (by first | omega | (show @Ne Nat _ _;omega)) y⟩ tt fun b o hb y=>up b o (fun z=>hb (aR.mpr (by have z:@Eq Nat b _:=z;omega))) (m4 b o hb y)
theorem Lm {N i:Nat}{k0 k1:Bool}{l0 l1:Nat}{v0 v1:Array Value}{Q:Option Value->Shared->Prop}(hn:A.handled=none) (st:zI N k0 k1 l0 l1 i .none s.heap)
  (DL:nP k0 s.heap l0 v0) (Cv:l0 < N)
  (B4:nP k1 s.heap l1 v1) (Cw:l1 < N)
  (hend:v0[i]? =none\/v1[i]? =none)
  (q:∀h',(∀(b:Nat) o,b∉iI N->s.heap.get? b=some o->h'.get? b=some o)->Q none {s with heap:=h'}):
  wpAny (model prog w) A (pyNext (.ref (N+4))) Q E s:=by
 obtain⟨hz,hTI,⟨w0,hw0,hTO⟩,d0,d1⟩:=st
 obtain⟨a0,a1,rfl⟩:∃a0 a1,w0=[a0,a1]:=by
  match w0,hw0 with
  | [a0,a1],_=>exact⟨_,_,rfl⟩
 have hT:s.TypeIs (.ref (N+4)) "zip":=⟨_,hz,rfl⟩
 unfold pyNext
 refine wpAny_bind (wpAny_attempt (wpAny_callSpecial?_slot (name:=Str.ofString "__next__") hT F.slot_zip_next (wpAny_call_entry F.slot_zip_next hT F.entry_zip_next ?_ (F.args_zip_next_1 _))))
 show wpAny _ _ (field (.ref (N+4)) 2 >>= _) _ _ _;refine wpAny_bind (wpAny_field hz rfl (x:=.bool false) rfl ?_)
 show wpAny _ _ (field (.ref (N+4)) 3 >>= _) _ _ _;refine wpAny_bind (wpAny_field hz rfl (x:=.ref (N+2)) rfl ?_)
 refine wpAny_bind (wpAny_seqItems hTI rfl ?_);show wpAny _ _ (Builtin.SmallTypes.ownedTupleIsFree (.ref (N+4)) >>= _) _ _ _
 refine wpAny_bind ?_;unfold Builtin.SmallTypes.ownedTupleIsFree;refine wpAny_bind (wpAny_field hz rfl (x:=.none) rfl (wpAny_pure ?_))
 simp only[if_true];refine wpAny_bind (wpAny_rule ?_);refine wpAny_bind (wpAny_field hz rfl (x:=.ref (N+3)) rfl ?_)
 refine wpAny_bind (wpAny_setField_rec hz (by simp) fun g0 z0 e0=>?_)
 have z0:IsZip g0 (N+4) (N+2) (N+3) .ellipsis:=z0
 have e0:Heap.SameBut (N+4) s.heap g0:=e0
 refine wpAny_bind ?_;simp only[List.zipIdx_cons,List.zipIdx_nil,List.forIn_cons,List.forIn_nil]
 have t0:TupAt g0 (N+3) #[a0,a1]:=(e0.2 _ (by first | omega | (show @Ne Nat _ _;omega))).trans hTO
 have m0:∀(b:Nat) o,b∉iI N->s.heap.get? b=some o->g0.get? b=some o:=fun b o hb y=>(e0.2 b fun z=>hb (aR.mpr (by have z:@Eq Nat b _:=z;omega))).trans y
 have Ll:lR k0 g0 N l0 i:=d0.at fun o y=>(e0.2 _ (by first | omega | (show @Ne Nat _ _;omega))).trans y
 have Cy:lR k1 g0 (N+1) l1 i:=d1.at fun o y=>(e0.2 _ (by first | omega | (show @Ne Nat _ _;omega))).trans y
 refine wpAny_bind (wpAny_bind (wpAny_onRaise ?_));show wpAny _ _ (Builtin.SmallTypes.nextOf (.ref N) >>= _) _ _ _
 have xD:nP k0 g0 l0 v0:=DL.at fun o y=>m0 _ o (fun z=>by have:=aR.mp z;omega) y
 cases xg:v0[i]? with
 | none=>
  refine wpAny_bind (A1 hn Ll xD xg fun u1 e r1 he=>?_)
  have r1:Heap.ExtBut N g0 u1:=r1
  obtain⟨oe,zK,hce⟩:=he
  have y1:IsZip u1 (N+4) (N+2) (N+3) .ellipsis:=r1 _ _ (by first | omega | (show @Ne Nat _ _;omega)) z0
  have OW:e≠(N+4):=fun x=>by subst x;rw[y1] at zK;cases zK;simp at hce
  refine wpAny_setField_rec y1 (by simp) fun u2 _ r2=>?_
  have r2:Heap.SameBut (N+4) u1 u2:=r2
  refine wpAny_bind (wpAny_isInstance (T:="StopIteration") (b:=true) ⟨oe,r2.extBut _ _ OW zK,hce⟩ isSubtype_stop (wpAny_pure (q _ fun b o hb y=>r2.extBut _ _ (fun z=>hb (aR.mpr (by have z:@Eq Nat b _:=z;omega))) (r1 _ _ (fun z=>hb (aR.mpr (by have z:@Eq Nat b _:=z;omega))) (m0 b o hb y)))))
 | some x0=>
  refine wpAny_bind (nextK Ll xD xg fun g1 c0 e1=>wpAny_pure ?_)
  have e1:Heap.SameBut N g0 g1:=e1
  have t1:TupAt g1 (N+3) #[a0,a1]:=(e1.2 _ (by first | omega | (show @Ne Nat _ _;omega))).trans t0
  refine wpAny_bind (wpAny_seqItems t1 rfl ?_);refine wpAny_bind (ET t1 (show 2<=sizeLine by decide) fun g2 t2 e2=>?_)
  have t2:TupAt g2 (N+3) #[x0,a1]:=t2
  have e2:Heap.SameBut (N+3) g1 g2:=e2
  have z1:IsZip g2 (N+4) (N+2) (N+3) .ellipsis:=(e2.2 _ (by first | omega | (show @Ne Nat _ _;omega))).trans ((e1.2 _ (by first | omega | (show @Ne Nat _ _;omega))).trans z0)
  have m2:∀(b:Nat) o,b∉iI N->s.heap.get? b=some o->g2.get? b=some o:=fun b o hb y=>(e2.2 b fun z=>hb (aR.mpr (by have z:@Eq Nat b _:=z;omega))).trans ((e1.2 b fun z=>hb (aR.mpr (by have z:@Eq Nat b _:=z;omega))).trans (m0 b o hb y))
  refine wpAny_bind (wpAny_letGo (wpAny_pure ?_))
  have Cy:lR k1 g2 (N+1) l1 i:=Cy.at fun o y=>(e2.2 _ (by first | omega | (show @Ne Nat _ _;omega))).trans ((e1.2 _ (by first | omega | (show @Ne Nat _ _;omega))).trans y)
  refine wpAny_bind (wpAny_bind (wpAny_onRaise ?_));show wpAny _ _ (Builtin.SmallTypes.nextOf (.ref (N+1)) >>= _) _ _ _
  have zL:nP k1 g2 l1 v1:=B4.at fun o y=>m2 _ o (fun z=>by have:=aR.mp z;omega) y
  cases zJ:v1[i]? with
  | none=>
   refine wpAny_bind (A1 hn Cy zL zJ fun u1 e r1 he=>?_)
   have r1:Heap.ExtBut (N+1) g2 u1:=r1
   obtain⟨oe,zK,hce⟩:=he
   have y1:IsZip u1 (N+4) (N+2) (N+3) .ellipsis:=r1 _ _ (by first | omega | (show @Ne Nat _ _;omega)) z1
   have OW:e≠(N+4):=fun x=>by subst x;rw[y1] at zK;cases zK;simp at hce
   refine wpAny_setField_rec y1 (by simp) fun u2 _ r2=>?_
   have r2:Heap.SameBut (N+4) u1 u2:=r2
   refine wpAny_bind (wpAny_isInstance (T:="StopIteration") (b:=true) ⟨oe,r2.extBut _ _ OW zK,hce⟩ isSubtype_stop (wpAny_pure (q _ fun b o hb y=>r2.extBut _ _ (fun z=>hb (aR.mpr (by have z:@Eq Nat b _:=z;omega))) (r1 _ _ (fun z=>hb (aR.mpr (by have z:@Eq Nat b _:=z;omega))) (m2 b o hb y)))))
  | some x1=>
    exact absurd hend (by simp only[xg,zJ];rintro(h | h) <;> cases h)
end
noncomputable abbrev DM (h:Heap) (k0 k1:Bool) (l0 l1:Nat):Heap:=((h.push (Gk k0 l0)).push (Gk k1 l1))
noncomputable abbrev DN (h:Heap) (k0 k1:Bool) (l0 l1:Nat):Heap:=(DM h k0 k1 l0 l1).push {cls:=.type "tuple",data:=.seq #[.ref h.objs.size,.ref (h.push (Gk k0 l0)).objs.size]}
noncomputable abbrev DO (h:Heap) (k0 k1:Bool) (l0 l1:Nat):Heap:=(DN h k0 k1 l0 l1).push {cls:=.type "tuple",data:=.seq #[.none,.none]}
noncomputable abbrev yt (h:Heap) (k0 k1:Bool) (l0 l1:Nat):Heap:=(DO h k0 k1 l0 l1).push {cls:=.type "zip",data:=.fields #[.none,.bool false,.bool false,.ref (DM h k0 k1 l0 l1).objs.size,.ref (DN h k0 k1 l0 l1).objs.size]}
theorem Ln (k0 k1:Bool) (l0 l1:Nat) (v0 v1:Array Value):Meets (Builtin.«zip.__new__» ⟨[.type "zip",.ref l0,.ref l1],[]⟩) (fun _ R s=>nP k0 s.heap l0 v0/\nP k1 s.heap l1 v1/\R (.ok (.ret (.ref (DO s.heap k0 k1 l0 l1).objs.size))) {s with heap:=yt s.heap k0 k1 l0 l1}):=
 .of_wp fun prog w A R s h=>by
  obtain⟨hp,g,d,tk,os⟩:=s;obtain⟨q0,q1,h⟩:=h
  have hsub:=sub_zip
  have p0:nP k0 (Shared.heap ⟨hp,g,d,tk,os⟩) l0 v0:=q0.at fun o e=>e
  have p1:nP k1 (Shared.heap ⟨(hp.push (Gk k0 l0)),g,d,tk,os⟩) l1 v1:=q1.at fun o e=>Heap.get?_push_of_some _ (e)
  wp_walk using Ng p0,Ng p1
  exact⟨_,rfl,h⟩
theorem A2 {prog:Program}{w:World}{A:Around}{E:Value->Shared->Prop}{s:Shared}{k0 k1:Bool}{l0 l1:Nat}{v0 v1:Array Value}{Q:Value->Shared->Prop}(q0:nP k0 s.heap l0 v0) (q1:nP k1 s.heap l1 v1)
  (h:∀h',zI s.heap.objs.size k0 k1 l0 l1 0 .none h'->(∀c o,s.heap.get? c=some o->h'.get? c=some o)->Q (.ref (s.heap.objs.size+4)) {s with heap:=h'}):wpAny (model prog w) A (call (.type "zip") [.ref l0,.ref l1]) Q E s:=by
 refine callType_new F.called_zip (by decide) (F.typeCall_zip_2 _ _) (F.newCall_zip_2 _ _) (fun obj=>F.args_object_init_3 obj _ _) F.entry_zip_new (Ln k0 k1 l0 l1 v0 v1) ⟨q0,q1,?_⟩
 have e0:(DM s.heap k0 k1 l0 l1).objs.size=s.heap.objs.size+2:=by simp only[Heap.size_push]
 have e1:(DN s.heap k0 k1 l0 l1).objs.size=s.heap.objs.size+3:=by rw[Heap.size_push,e0]
 have e2:(DO s.heap k0 k1 l0 l1).objs.size=s.heap.objs.size+4:=by rw[Heap.size_push,e1]
 have g2:(yt s.heap k0 k1 l0 l1).get? (DO s.heap k0 k1 l0 l1).objs.size=some _:=Heap.get?_push_size _ rfl
 have g1:(yt s.heap k0 k1 l0 l1).get? (DN s.heap k0 k1 l0 l1).objs.size=some _:=Heap.get?_push_of_some _ (Heap.get?_push_size _ rfl)
 have g0:(yt s.heap k0 k1 l0 l1).get? (DM s.heap k0 k1 l0 l1).objs.size=some _:=Heap.get?_push_of_some _ (Heap.get?_push_of_some _ (Heap.get?_push_size _ rfl))
 rw[e2,e0,e1] at g2
 rw[e1] at g1
 rw[e0] at g0
 simp only[Heap.size_push] at g0
 show _/\_
 rw[e2]
 refine⟨⟨_,g2,rfl⟩,h _ ⟨g2,g0,⟨[.none,.none],rfl,g1⟩,?_,?_⟩ fun c o x=>Heap.get?_push_of_some _ (Heap.get?_push_of_some _ (Heap.get?_push_of_some _ (Heap.get?_push_of_some _ (Heap.get?_push_of_some _ (x)))))⟩
 ·have:=(lR.new k0 (s.heap) l0).at (h':=yt s.heap k0 k1 l0 l1) fun o e=>Heap.get?_push_of_some _ (Heap.get?_push_of_some _ (Heap.get?_push_of_some _ (Heap.get?_push_of_some _ (e))))
  simpa only[Heap.size_push] using this
 ·have:=(lR.new k1 ((s.heap).push (Gk k0 l0)) l1).at (h':=yt s.heap k0 k1 l0 l1) fun o e=>Heap.get?_push_of_some _ (Heap.get?_push_of_some _ (Heap.get?_push_of_some _ (e)))
  simpa only[Heap.size_push] using this
noncomputable def S9 (K:PySem.W.Frag) (k0 k1:Bool) (l0 l1:Nat):It:=
  ⟨fun i H=>∃a0 x0 a1 x1,(yr K H k0 l0 a0/\a0[i]? =some x0)/\(yr K H k1 l1 a1/\a1[i]? =some x1),
   fun i H x H'=>∃p y0 y1,H p=none/\x= .ref p/\H'=upd H p (.tup [y0,y1])/\(∀xs,yr K H k0 l0 xs->xs[i]? =some y0)/\(∀xs,yr K H k1 l1 xs->xs[i]? =some y1),
   fun i H=>∃a0 a1,yr K H k0 l0 a0/\yr K H k1 l1 a1/\(a0.length<=i\/a1.length<=i)⟩
theorem OX {prog:Program}{w:World}{A:Around}{E:Value->Shared->Prop}{s:Shared}{elts:List Expr}{j:Nat}{pos:Pos}{N i:Nat}{k0 k1:Bool}{l0 l1:Nat}{T:Nat}{Q:Unit->Shared->Prop}(st:zI N k0 k1 l0 l1 i (rawInt T) s.heap)
  (q:∀h',zI N k0 k1 l0 l1 i .none h'->Heap.SameBut (N+4) s.heap h'->Q () {s with heap:=h'}):wpAny (model prog w) A (letOwnedTupleGo (.Tuple elts j pos) (.ref (N+4)) (.ref T)) Q E s:=by
 obtain⟨hz,hTI,⟨w0,hw0,hTO⟩,d0,d1⟩:=st
 refine wpAny_letOwnedTupleGo_zip hz fun h' hz' hs'=>q h' ⟨hz',hs'.extBut _ _ (by first | omega | (show @Ne Nat _ _;omega)) hTI,⟨w0,hw0,hs'.extBut _ _ (by first | omega | (show @Ne Nat _ _;omega)) hTO⟩,d0.at fun o e=>hs'.extBut _ _ (by first | omega | (show @Ne Nat _ _;omega)) e,d1.at fun o e=>hs'.extBut _ _ (by first | omega | (show @Ne Nat _ _;omega)) e⟩ hs'
theorem EU {P:Program}{w:World}{K:PySem.W.Frag}{elts:List Expr}{j:Nat}{pos:Pos}(k0 k1:Bool) (l0 l1:Nat) (N:Nat) (Cv:l0 < N) (Cw:l1 < N):Turn P w K (.Tuple elts j pos) (S9 K k0 k1 l0 l1) (iI N) (N+4) (fun i h=>zI N k0 k1 l0 l1 i .none h) where
 mem:=by rw[aR];omega
 obj:=fun i h ⟨hz,hTI,⟨w0,hw0,hTO⟩,d0,d1⟩ b hb=>by
  unfold iI at hb
  simp only[List.mem_cons,List.not_mem_nil,or_false] at hb
  rcases hb with rfl | rfl | rfl | rfl | rfl
  ·exact⟨_,hz,fun v z=>by cases z⟩
  ·exact⟨_,hTI,fun v z=>by cases z⟩
  ·exact⟨_,hTO,fun v z=>by cases z⟩
  ·exact d0.obj
  ·exact d1.obj
 keep:=fun i h h' ⟨hz,hTI,⟨w0,hw0,hTO⟩,d0,d1⟩ g=>⟨g _ (by rw[aR];omega) _ hz,g _ (by rw[aR];omega) _ hTI,⟨w0,hw0,g _ (by rw[aR];omega) _ hTO⟩,d0.at fun o q=>g _ (by rw[aR];omega) o q,d1.at fun o q=>g _ (by rw[aR];omega) o q⟩
 item:=by
  intro X hP hw hK hc i pins s σ H E I hf st hg
  subst hP hw hK
  obtain⟨a0,x0,a1,x1,⟨b0,xg⟩,⟨b1,zJ⟩⟩:=hg
  obtain⟨HY,Lo,p0,hz0⟩:=I.Cu b0
  obtain⟨u0,Xx,Xy⟩:=Lo.get xg
  obtain⟨HZ,Lp,p1,hz1⟩:=I.Cu b1
  obtain⟨u1,hu1,Xz⟩:=Lp.get zJ
  have slt:∀b∈iI N,b < s.heap.objs.size:=fun b hb=>by have h1:=aR.mp hb;have h2:@LT.lt Nat _ (N+4) s.heap.objs.size:=Heap.lt_size st.z;show @LT.lt Nat _ b s.heap.objs.size;omega
  refine HX st p0 (by simpa using Xx) Cv p1 (by simpa using hu1) Cw fun h' st' hT hk=>?_
  refine⟨_,rfl,OX st' fun h2 st2 hs2=>?_⟩
  have hs2:Heap.SameBut (N+4) h' h2:=hs2
  have OV:=slt (N+4) (aR.mpr (by first | omega | (show @Ne Nat _ _;omega)))
  have I2:Inv X pins σ (upd H s.heap.objs.size (.tup [x0,x1])) {s with heap:=h2,toks:=s.toks}:=
   I.handed (its:=[u0,u1]) hf slt (fun b o hb q=>(hs2.2 b fun z=>hb (aR.mpr (by have z:@Eq Nat b _:=z;omega))).trans (hk b o hb q)) ((hs2.2 _ (Nat.ne_of_gt OV)).trans hT) (.cons Xy (.cons Xz (.nil))) (show 2<=sizeLine by decide)
  refine⟨.ref s.heap.objs.size,_,I2,rfl,⟨_,x0,x1,I.fresh,rfl,rfl,fun ys hy=>by rw[I.zH hy b0];exact xg,fun ys hy=>by rw[I.zH hy b1];exact zJ⟩,st2,fun b hb=>?_⟩
  rw[aY (Nat.ne_of_lt (slt b hb))]
  exact(hf b hb).1
 done:=by
  intro X hP hw hK hc i pins s σ H E I hf st hg
  subst hP hw hK
  obtain⟨a0,a1,b0,b1,hend⟩:=hg
  obtain⟨HY,Lo,p0,hz0⟩:=I.Cu b0
  have Vf:=Lo.length
  obtain⟨HZ,Lp,p1,hz1⟩:=I.Cu b1
  have hl1:=Lp.length
  refine Lm (I.ok.hd hc) st p0 Cv p1 Cw ?_ fun h' hk=>⟨rfl,I.vf (t':=s.toks) hk hf⟩
  simp only[List.getElem?_toArray,List.getElem?_eq_none_iff]
  omega
 self:=fun _ _ _ _ _ st h=>wpAny_pyIter_zip st.z h
section
variable {X:Cx}{a b c e:Expr}{body elts:List Expr}{pos p tpos:Pos}{jt:Nat}
theorem nP.lt {k:Bool}{h:Heap}{a:Addr}{its:Array Value}(x:nP k h a its):a < h.objs.size:=by
 cases k <;> exact let⟨o,ho,_⟩:=x;Heap.lt_size ho
noncomputable def Tc (K:PySem.W.Frag) (ta:TA):TI:=fun σ H R=>ta σ H fun vs H1=>∃k a xs,vs=[.ref a]/\yr K H1 k a xs/\R (Ite K k a) H1
theorem Lq {ta:TA}(hg:Gl X "enumerate") (hm:X.mg "enumerate" =none) (ha:PA X [a] ta) (hs:starEach [a] X.env=[(false,eval a X.env)]:=by rfl):PI X (.Tuple elts jt tpos) (.Call (.Name "enumerate" p) [a] [] pos) (Tc X.K ta):=by
 intro pins s σ H R I h
 refine Call_ (j7 I hg hm boot_enumerate (PyProof.Rows.callWith_type1 (gf (ha pos pins s σ H _ I h) fun us s1 ⟨vs,H1,I1,r1,q1⟩=>?_) hs rfl))
 obtain⟨k,a,xs,rfl,hq,q⟩:=q1
 cases r1 with
 | cons r rr=>
  cases rr
  cases r
  obtain⟨its,rv,p,hz⟩:=I1.Cu hq
  refine Ct p fun h' he hit hk=>wpAny_pyIter_enum he ?_
  have lt:=p.lt
  refine⟨s1.heap.objs.size+1,[s1.heap.objs.size+1,s1.heap.objs.size],_,_,H1,rfl,I1.kept (t':=s1.toks) hk,ES k a s1.heap.objs.size (s1.heap.objs.size+1) (Nat.ne_of_lt lt) (Nat.ne_of_gt (Nat.lt_succ_of_lt lt)) (Nat.succ_ne_self _),⟨⟨.none,he⟩,hit⟩,fun b hb=>?_,q⟩
  have hb:s1.heap.objs.size<=b:=by
   rcases List.mem_cons.mp hb with z | z
   ·rw[z];exact Nat.le_succ _
   ·rw[show b=s1.heap.objs.size by simpa using z];exact Nat.le_refl _
  exact I1.xr hb (I1.hok.fresh hb)
noncomputable def Td (K:PySem.W.Frag) (ta:TA):TI:=fun σ H R=>ta σ H fun vs H1=>∃k0 k1 a0 a1 sG sH,vs=[.ref a0,.ref a1]/\yr K H1 k0 a0 sG/\yr K H1 k1 a1 sH/\R (S9 K k0 k1 a0 a1) H1
theorem Lr {ta:TA}(hg:Gl X "zip") (hm:X.mg "zip" =none) (ha:PA X [a,b] ta) (hs:starEach [a,b] X.env=[(false,eval a X.env),(false,eval b X.env)]:=by rfl) (hs2:starEach [b] X.env=[(false,eval b X.env)]:=by rfl):
  PI X (.Tuple elts jt tpos) (.Call (.Name "zip" p) [a,b] [] pos) (Td X.K ta):=by
 intro pins s σ H R I h
 refine Call_ (j7 I hg hm boot_zip (PyProof.Rows.callWith_type1 (gf (ha pos pins s σ H _ I h) fun us s1 ⟨vs,H1,I1,r1,q1⟩=>?_) (by rw[hs,hs2]) (by rw[hs2];rfl)))
 obtain⟨k0,k1,a0,a1,sG,sH,rfl,h0,h1,q⟩:=q1
 obtain⟨u0,u1,rfl,e0,e1⟩:=r1.two
 cases e0
 cases e1
 obtain⟨HY,Lo,p0,hz0⟩:=I1.Cu h0
 obtain⟨HZ,Lp,p1,hz1⟩:=I1.Cu h1
 refine A2 p0 p1 fun h' st hk=>wpAny_pyIter_zip st.z ?_
 refine⟨_,iI s1.heap.objs.size,_,_,H1,rfl,I1.kept (t':=s1.toks) hk,EU k0 k1 a0 a1 s1.heap.objs.size p0.lt p1.lt,st,fun b hb=>?_,q⟩
 have hb:s1.heap.objs.size<=b:=(aR.mp hb).1
 exact I1.xr hb (I1.hok.fresh hb)
noncomputable def WalkN (J:It) (F:Hp) (ds:List D):Prop:=∀F' H',(∀b o,F b=some o->F' b=some o)->Sub F' H'->∀i,(∀d,ds[i]? =some d->J.go i H'/\∀x H2,J.QK i H' x H2->∃F2,iU F' H' F2 H2/\Sub F2 H2/\Rep F2 x d)/\(ds.length<=i->J.stop i H')
noncomputable def Te (K:PySem.W.Frag) (B:Base) (gi:GI):TI:=fun σ H R=>∃S F ds S',Rel K B S σ F H/\gi S=some (ds,S')/\∀J F' H',Rel K B S' σ F' H'->Step S S' σ F H F' H'->WalkN J F' ds->R J H'
structure Vg (X:Cx) (tg e:Expr) (gi:GI):Prop where
 h:∀B,PI X tg e (Te X.K B gi)
noncomputable def oK:D->Option (Bool×List D)
 | .lst ds=>some (true,ds)
 | .tup ds=>some (false,ds)
 | _=>none
theorem Sub.A3 {K:PySem.W.Frag}{F H:Hp}{v:V}{d:D}{k:Bool}{ds:List D}(sb:Sub F H) (r:Rep F v d) (e:oK d=some (k,ds)):
  ∃a vs,v= .ref a/\bN F vs ds/\∀F' H',(∀b o,F b=some o->F' b=some o)->Sub F' H'->yr K H' k a vs:=by
 cases d <;> try (cases e;done)
 ·cases e
  obtain⟨a,vs,rfl,fa,ha,rs⟩:=sb.lW r
  exact⟨a,vs,rfl,rs,fun F' H' le sb'=>.inl (Rd.of (sb' a _ (le _ _ fa)))⟩
 ·cases e
  obtain⟨a,vs,rfl,fa,ha,rs⟩:=sb.lX r
  exact⟨a,vs,rfl,rs,fun F' H' le sb'=>.inl (Rd.of (sb' a _ (le _ _ fa)))⟩
noncomputable def qx (ds:List D):List D:=ds.mapIdx fun i d=>.tup [.int i,d]
noncomputable def Ia (gA:GA):GI:=fun S=>(gA S).bind fun p=>match p.1 with
 | [d]=>(oK d).map fun q=>(qx q.2,p.2)
 | _=>none
theorem Ls {gA:GA}(hg:Gl X "enumerate") (hm:X.mg "enumerate" =none) (ha:JA X [a] gA) (hs:starEach [a] X.env=[(false,eval a X.env)]:=by rfl):Vg X (.Tuple elts jt tpos) (.Call (.Name "enumerate" p) [a] [] pos) (Ia gA):=
 ⟨fun B=>PI.orelse fun σ H R0 ⟨S,F,ds,S',R,hg',k⟩=>by
 obtain⟨⟨args,S1⟩,h1,hg'⟩:=aq hg'
 refine⟨_,Lq hg hm (ha.h B) hs,S,F,args,S1,R,h1,fun vs F1 H1 R1 st1 r1=>?_⟩
 dsimp only at hg'
 split at hg'
 ·obtain⟨⟨kk,es⟩,h2,hg'⟩:=aH hg'
  cases hg'
  cases r1 with
  | cons r rr=>
   cases rr
   obtain⟨a,ws,rfl,rs,sq⟩:=R1.sub.A3 (K:=X.K) r h2
   refine⟨kk,a,ws,rfl,sq F1 H1 (fun _ _ z=>z) R1.sub,k _ F1 H1 R1 st1 fun F' H' le sb i=>⟨fun d hd=>?_,fun hl=>⟨ws,sq F' H' le sb,by rw[rs.length];simpa[qx] using hl⟩⟩⟩
   unfold qx at hd
   rw[List.getElem?_mapIdx] at hd
   obtain⟨d0,hd0,rfl⟩:=aH hd
   obtain⟨v,k1,k2⟩:=rs.get hd0
   refine⟨⟨ws,v,sq F' H' le sb,k1⟩,fun x H2 y=>?_⟩
   obtain⟨p,y,hp,rfl,rfl,hy⟩:=y
   have ey:=hy ws (sq F' H' le sb)
   rw[k1] at ey
   cases ey
   exact⟨_,iU.root sb hp _,sb.sN hp,.tup bx (.cons (.int _) (.cons (k2.le fun b o z=>mD (sb.fresh hp) b o (le b o z)) .nil))⟩
 ·cases hg'⟩
noncomputable def yu (gA:GA):GI:=fun S=>(gA S).bind fun p=>match p.1 with
 | [d,e]=>(oK d).bind fun q=>(oK e).map fun r=>(List.zipWith (fun a b=>.tup [a,b]) q.2 r.2,p.2)
 | _=>none
theorem DP {gA : GA} (hg : Gl X "zip") (hm : X.mg "zip" = none) (ha : JA X [a, b] gA) (hs : starEach [a, b] X.env = [(false, eval a X.env), (false, eval b X.env)] := by rfl) (hs2 : starEach [b] X.env = [(false, eval b X.env)] := by rfl) :
    Vg X (.Tuple elts jt tpos) (.Call (.Name "zip" p) [a,b] [] pos) (yu gA):=
  ⟨fun B=>PI.orelse fun σ H R0 ⟨S,F,ds,S',R,hg',k⟩=>by
  obtain⟨⟨args,S1⟩,h1,hg'⟩:=aq hg'
  refine⟨_,Lr hg hm (ha.h B) hs hs2,S,F,args,S1,R,h1,fun vs F1 H1 R1 st1 r1=>?_⟩
  dsimp only at hg'
  split at hg'
  . obtain⟨⟨k0,es0⟩,h2,hg'⟩:=aq hg'
    obtain⟨⟨k1,es1⟩,h3,hg'⟩:=aH hg'
    cases hg'
    cases r1 with
    | cons r rr=>
      cases rr with
      | cons r' rr=>
        cases rr
        obtain⟨a0,Vh,rfl,rs0,DL⟩:=R1.sub.A3 (K:=X.K) r h2
        obtain⟨a1,EV,rfl,uK,B4⟩:=R1.sub.A3 (K:=X.K) r' h3
        refine⟨k0,k1,a0,a1,Vh,EV,rfl,DL F1 H1 (fun _ _ z=>z) R1.sub,B4 F1 H1 (fun _ _ z=>z) R1.sub,k _ F1 H1 R1 st1 fun F' H' le sb i=>⟨fun d hd=>?_,fun hl=>⟨Vh,EV,DL F' H' le sb,B4 F' H' le sb,?_⟩⟩⟩
        . rw[List.getElem?_zipWith] at hd
          cases q0:es0[i]? with
          | none=>rw[q0] at hd;cases hd
          | some d0=>
            cases q1:es1[i]? with
            | none=>rw[q0,q1] at hd;cases hd
            | some d1=>
              rw[q0,q1] at hd
              cases hd
              obtain⟨v0,m0,n0⟩:=rs0.get q0
              obtain⟨v1,m1,n1⟩:=uK.get q1
              refine⟨⟨Vh,v0,EV,v1,⟨DL F' H' le sb,m0⟩,B4 F' H' le sb,m1⟩,fun x H2 y=>?_⟩
              obtain⟨p,y0,y1,hp,rfl,rfl,hy0,hy1⟩:=y
              have e0:=hy0 Vh (DL F' H' le sb)
              have e1:=hy1 EV (B4 F' H' le sb)
              rw[m0] at e0
              rw[m1] at e1
              cases e0
              cases e1
              have le2:=fun b o z=>mD (o:=.tup [v0,v1]) (sb.fresh hp) b o (le b o z)
              exact⟨_,iU.root sb hp _,sb.sN hp,.tup bx (.cons (n0.le le2) (.cons (n1.le le2) .nil))⟩
        . rw[List.length_zipWith,<-rs0.length,<-uK.length] at hl
          omega
  . cases hg'⟩
theorem Lu {tg iter:Expr}{stmts:List Stmt}{s1:GS}{bd:GB}{gi:GI}(hp:PassesOwn (model X.prog X.w) X.A X.env X.xe) (hc:X.calm=true) (hi:Vg X tg iter gi) (hg:JG X tg bd) (hb:JB X stmts s1) (hs:∀x,foldedSetIterable iter X.env x=pure x:=by intro _;rfl):
  JS X (.For tg iter stmts [] pos) (nM bd gi s1):=⟨fun B=>(GL hp hc (hi.h B) (hg.h B) (hb.h B) hs).imp fun D σ H ⟨S,F,o,R,h,k⟩=>by
 obtain⟨⟨ds,S1⟩,h1,h⟩:=aq h
 refine⟨S,F,ds,S1,R,h1,fun J F1 H1 R1 st1 w=>?_⟩
 refine⟨fun i m σ' H'=>∃S' F',Rel X.K B S' σ' F' H'/\(∀b o,F1 b=some o->F' b=some o)/\i<=ds.length/\m=ds.length - i/\loop bd s1 (ds.drop i) S'=some o,⟨_,S1,F1,R1,fun _ _ z=>z,Nat.zero_le _,rfl,h⟩,?_⟩
 rintro i m σ' H' ⟨S',F',R',le,hl,rfl,dQ⟩
 have w':=w F' H' le R'.sub i
 by_cases hlt:i < ds.length
 ·have hd:ds[i]? =some ds[i]:=List.getElem?_eq_getElem hlt
  obtain⟨go,yl⟩:=w'.1 _ hd
  rw[List.drop_eq_getElem_cons hlt] at dQ
  obtain⟨S2,e2,dQ⟩:=aq dQ
  obtain⟨o2,e3,dQ⟩:=aq dQ
  refine .inr ⟨go,_,fun σ2 H2 n=>⟨ds.length - (i+1),by omega,n⟩,fun x H2 y=>?_⟩
  obtain⟨F2,nw,sb2,rx⟩:=yl x H2 y
  have R2:=R'.new nw sb2
  have le:∀b o,F1 b=some o->F2 b=some o:=fun b o z=>nw.le b o (le b o z)
  refine⟨S',F2,_,S2,R2,rx,e2,fun σ3 R3=>⟨S2,F2,o2,R3,e3,?_⟩⟩
  cases o2 with
  | nx S3=>exact fun HF F4 H4 R4 Cm=>⟨S3,F4,R4,fun b o z=>Cm b o (le b o z),hlt,rfl,dQ⟩
  | ct S3=>exact fun HF F4 H4 R4 Cm=>⟨S3,F4,R4,fun b o z=>Cm b o (le b o z),hlt,rfl,dQ⟩
  | bk S3=>cases dQ;exact fun HF F4 H4 R4 Cm=>k HF F4 H4 R4 fun b o z=>Cm b o (le b o (st1.ext.le b o z))
  | rt u S3=>cases dQ;exact fun v HF F4 H4 R4 Cm=>k v HF F4 H4 R4 fun b o z=>Cm b o (le b o (st1.ext.le b o z))
 ·have e:i=ds.length:=by omega
  subst e
  rw[List.drop_length] at dQ
  cases dQ
  exact .inl ⟨w'.2 (Nat.le_refl _),k σ' F' H' R' fun b o z=>le b o (st1.ext.le b o z)⟩⟩
end
section
variable {X:Cx}{a b c e:Expr}{x y:Str}{p px py pos pos' tpos:Pos}{f:List D->Option U}{gb:GD}
end
noncomputable def Ib:GE:=fun S=>some (.m (.cU []),S)
section
variable {X:Cx}{a b c e k:Expr}{x y:Str}{p px py pos pos' tpos apos cpos:Pos}{gk:GD}
theorem Lv:JE X (.Dict [] [] pos) Ib:=⟨fun B=>GY.imp fun σ H Q ⟨S,F,u,S',R,hg,q⟩=>by
 cases hg
 intro p hp
 have n:=iU.obj (F:=F) hp (.dT [])
 have hn:¬eY S σ p:=fun m=>by obtain⟨o,ho⟩:=R.has m;rw[hp] at ho;cases ho
 exact q (.ref p) F _ (R.new n (R.sub.same n.same)) n.step ⟨p,rfl,hp,R.sub.fresh hp,⟨[],bx,.nil⟩,hn,none_of R.ext.there hp⟩⟩
noncomputable def Ic:U->D->Option Bool
 | .m (.dct kvs),k=>(keyOf k).map fun kk=>(cz kvs kk).isSome
 | .b (.dct kvs),k=>(keyOf k).map fun kk=>(cz kvs kk).isSome
 | .m (.cU kvs),k=>(uL k).map fun kk=>(cz kvs kk).isSome
 | .b (.cU kvs),k=>(uL k).map fun kk=>(cz kvs kk).isSome
 | _,_=>none
noncomputable def EW (n:Bool) (i:Nat) (g:GD):GD:=fun S=>(g S).bind fun p=>match p.2[i]? with
 | some (some u)=>(Ic u p.1).map fun h=>(.bl (n != h),p.2)
 | _=>none
theorem rM {κ:Type} [DecidableEq κ] {F:Hp}{ws:List (κ×V)}{kvs:List (κ×D)}(pr:Paired (iQ F) ws kvs) (k:κ):(qH ws k).isSome=(cz kvs k).isSome:=by
 cases e:cz kvs k with
 | none=>rw[yp pr e];rfl
 | some d=>obtain⟨v,h,_⟩:=pW pr e;rw[h];rfl
theorem Lw {K:PySem.W.Frag}{F H:Hp}{v w:V}{u:U}{d:D}{h:Bool}(sb:Sub F H) (r:zp K F H v u) (rk:Rep F w d) (e:Ic u d=some h):∃a o,v= .ref a/\nZ H a w o/\o.isSome=h:=by
 unfold Ic at e
 split at e
 ·obtain⟨kk,e1,rfl⟩:=aH e
  obtain⟨a,rfl,fa,ws,ha,pr⟩:=r
  rw[pU rk e1]
  exact⟨a,_,rfl,nZ.k ha,rM pr kk⟩
 ·obtain⟨kk,e1,rfl⟩:=aH e
  obtain⟨a,rfl,fa,ws,ha,pr⟩:=r
  rw[pU rk e1]
  exact⟨a,_,rfl,nZ.k ha,rM pr kk⟩
 ·obtain⟨kk,e1,rfl⟩:=aH e
  obtain⟨a,rfl,fa,ws,ha,pr⟩:=r
  obtain⟨b,rfl,hb⟩:=rL sb rk e1
  exact⟨a,_,rfl,nZ.t ha hb,rM pr kk⟩
 ·obtain⟨kk,e1,rfl⟩:=aH e
  obtain⟨a,rfl,fa,ws,ha,pr⟩:=r
  obtain⟨b,rfl,hb⟩:=rL sb rk e1
  exact⟨a,_,rfl,nZ.t ha hb,rM pr kk⟩
 ·cases e
theorem Lx {B:Base}{n:Bool}{i:Nat}{σ:St}{H:Hp}{Q:VK}(h:tD X.K B (EW n i gk) σ H Q):tD X.K B gk σ H fun y H1=>Ku i σ H1 fun x H2=>∃a o,x= .ref a/\nZ H2 a y o/\Q (.bl (n != o.isSome)) H2:=by
 obtain⟨S,F,d,S',R,hg,q⟩:=h
 obtain⟨⟨d1,S1⟩,h1,hg⟩:=aq hg
 dsimp only at hg
 split at hg
 ·rename_i u hS
  obtain⟨h,h2,hg⟩:=aH hg
  cases hg
  refine⟨S,F,d1,_,R,h1,fun v F1 H1 R1 st1 r1=>?_⟩
  obtain⟨v0,hv0,r0⟩:=R1.rep i u hS
  obtain⟨a,o,e1,g1,e2⟩:=Lw R1.sub r0 r1 h2
  refine⟨v0,hv0,a,o,e1,g1,?_⟩
  rw[e2]
  exact q (.bl _) F1 H1 R1 st1 (.bl _)
 ·cases hg
end
section
variable {X:Cx}{k v:Expr}{pos:Pos}{tk tv:TE}{gk gv:GD}
theorem EX {i:Nat}{x:Str}{px:Pos}(hu:X.A.units+20 < cLine) (hk:JD X k gk) (hN:X.N[i]? =some x:=by rfl) (hv:Gw X.env.scope x:=by first | exact Or.inl rfl | exact Or.inr (Or.inl rfl) | exact Or.inr (Or.inr rfl)) (hd:(x == ("__debug__":Str))=false:=by decide) (hcd:(x == ("__classdict__":Str))=false:=by decide)
  (hm:behindInMarks .NotIn (.Name x px)=false:=by with_unfolding_all rfl):JT X (.Compare k [.NotIn] [.Name x px] pos) (qB (EW true i gk)):=⟨fun B=>(Gz (Ez hu (hk.h B) (jF hN hv hd hcd)) hm).imp fun σ H Q ⟨S,F,kk,S',R,hg,q⟩=>by
 have h:tD X.K B (EW true i gk) σ H (fun v H'=>∃d,v= .bl d/\Q d H'):=⟨S,F,.bl kk,S',R,lV hg,fun v F' H' R' st r=>⟨kk,iO r,q F' H' R' st⟩⟩
 have h2:=Lx h
 simpa[tB,Dm] using h2⟩
end
noncomputable def nF (kvs:List (Str×Int)) (z:Str):Option Int:=(kvs.find? fun p=>decide (p.1=z)).map (·.2)
noncomputable def OY:Option Int->Option Value->Prop
 | some i,u=>∃t,u=some (.int i t)
 | none,u=>u=none
noncomputable def KTab (P:Program) (w:World) (K:PySem.W.Frag) (a:Addr) (kvs:List (Str×Int)):Prop:=
 (a == sysModules)=false/\∃o es ep,K.lookup a=some o/\o.ExactDict/\o.data= .dict es ep/\KeysOf (fM P w) es/\∀z,OY (nF kvs z) (findBy (fM P w).is es (.inr z))
noncomputable def vZ (w:World):List (Str×Int)->List DictEntry->Prop
 | [],[]=>True
 | (z,i) :: r,e :: es=>(e.hash=hashStr w z/\(∃t,e.key= .str z t)/\∃t,e.val= .int i t)/\vZ w r es
 | _,_=>False
theorem yw {P:Program}{w:World}:∀{kvs:List (Str×Int)}{es:List DictEntry},vZ w kvs es->∀e∈es,∃k,(fM P w).is k e.key=true/\e.hash=(fM P w).hash k
 | [],[],_,e,he=>by cases he
 | (z,i) :: r,e :: es,h,e',he=>by
  obtain⟨⟨h1,⟨t,h2⟩,_⟩,h3⟩:=h
  rcases List.mem_cons.mp he with rfl | q
  ·exact⟨.inr z,by rw[h2];exact nQ P w z t,h1⟩
  ·exact yw h3 e' q
 | [],_ :: _,h,_,_=>h.elim
 | _ :: _,[],h,_,_=>h.elim
theorem yx {P:Program}{w:World}(z:Str):∀{kvs:List (Str×Int)}{es:List DictEntry},vZ w kvs es->OY (nF kvs z) ((es.find? fun e=>(fM P w).is (.inr z) e.key).map (·.val))
 | [],[],_=>rfl
 | (y,i) :: r,e :: es,h=>by
  obtain⟨⟨h1,⟨t,h2⟩,u,h4⟩,h3⟩:=h
  have k:(fM P w).is (.inr z) e.key=decide ((.inr z:Key)= .inr y):=KeyKind.is_eq_decide (knd:=fM P w) (k:=.inr y) (by rw[h2];exact nQ P w y t) (.inr z)
  unfold nF
  by_cases q:y=z
  ·subst q
   rw[List.find?_cons_of_pos (by simp),List.find?_cons_of_pos (by rw[k];simp)]
   exact⟨u,by rw[Option.map_some,h4]⟩
  ·rw[List.find?_cons_of_neg (by simpa using q),List.find?_cons_of_neg (by rw[k];simp only[decide_eq_true_eq,Sum.inr.injEq];exact fun e=>q e.symm)]
   exact yx z h3
 | [],_ :: _,h=>h.elim
 | _ :: _,[],h=>h.elim
theorem Ly {P:Program}{w:World}{K:PySem.W.Frag}{a:Addr}{kvs:List (Str×Int)}{es:List DictEntry}{ep:Nat}(h:K.lookup a=some ⟨.type "dict",none,.dict es.toArray ep,#[]⟩) (hs:(a == sysModules)=false) (he:vZ w kvs es):KTab P w K a kvs:=by
 refine⟨hs,_,es.toArray,ep,h,⟨rfl,rfl,rfl⟩,rfl,fun e q=>yw he e (by simpa using q),fun z=>?_⟩
 have:=yx (P:=P) z he
 unfold findBy
 rw[List.find?_toArray]
 exact this
section
variable {X:Cx}{pins:List (Addr×Obj)}{σ:St}{H:Hp}{s:Shared}{a:Addr}{kvs:List (Str×Int)}
theorem KTab.map (I:Inv X pins σ H s) (h:KTab X.prog X.w X.K a kvs):∃f:Key->Option Value,s.heap.MapOf (fM X.prog X.w) a f/\∀z,OY (nF kvs z) (f (.inr z)):=by
 obtain⟨_,o,es,ep,h1,h2,h3,h4,h5⟩:=h
 exact⟨_,⟨o,es,ep,I.B5 a o h1,h2,h3,h4,fun _=>rfl⟩,h5⟩
end
noncomputable def Lz (kvs:List (Str×Int)) (g:GD):GD:=fun S=>(g S).bind fun p=>match p.1 with
 | .str z=>(nF kvs z).map fun i=>(.int i,p.2)
 | _=>none
section
variable {X:Cx}{e f:Expr}{x:Str}{px pos apos cpos:Pos}{ty tx:TE}{g gd:GD}{a:Addr}{kvs:List (Str×Int)}
theorem OZ (hg:Gl X x) (hm:X.mg x=some (.ref a)) (hk:KTab X.prog X.w X.K a kvs) (he:PE X e ty) (hs:KL e) (hd:(x == ("__debug__":Str))=false):
  PE X (.Subscript (.Name x px) e pos) (fun σ H Q=>ty σ H fun y H1=>∃z i,y= .str z/\nF kvs z=some i/\Q (.int i) H1):=by
 intro pins s σ H Q I h
 refine Dl PySem.F.slot_dict_getitem.lookup hs (gf (Df (v:=.ref a) hg hm rfl hd pins s σ H (fun v H1=>v= .ref a/\H1=H) I ⟨rfl,rfl⟩) fun u s1 ⟨x',H1,I1,rx,ex,eH⟩=>?_)
 subst ex eH
 obtain rfl:u=Value.ref a:=rx
 refine gf (he pins s1 σ _ _ I1 h) fun iv s2 ⟨y,H2,I2,ry,z,i,ey,el,q⟩=>?_
 subst ey
 obtain⟨fm,m1,m2⟩:=hk.map I2
 have r:=m2 z
 rw[el] at r
 obtain⟨t,r⟩:=r
 exact⟨m1.typeIs,wpAny_getItem_of (k:=.inr z) (Aw (k:=.inr z) ry) m1 r ⟨.int i,H2,I2.tok _,⟨t,rfl⟩,q⟩⟩
theorem Ie (hg:Gl X x) (hm:X.mg x=some (.ref a)) (hk:KTab X.prog X.w X.K a kvs) (he:JD X e g) (hs:KL e:=by intro _ _;rfl) (hd:(x == ("__debug__":Str))=false:=by decide):JD X (.Subscript (.Name x px) e pos) (Lz kvs g):=
 ⟨fun B=>(OZ hg hm hk (he.h B) hs hd).imp fun σ H Q ⟨S,F,d,S',R,hg',q⟩=>by
  obtain⟨⟨d1,S1⟩,h1,hg'⟩:=aq hg'
  cases d1 <;> try (cases hg')
  rename_i z
  obtain⟨i,h2,hg'⟩:=aH hg'
  cases hg'
  exact⟨S,F,.str z,_,R,h1,fun v F1 H1 R1 st1 r1=>by cases r1;exact⟨z,i,rfl,h2,q (.int i) F1 H1 R1 st1 (.int i)⟩⟩⟩
end
noncomputable def Ig (K:PySem.W.Frag) (a:Addr) (zs:List Str):Prop:=∃(o:Obj) (its:List Value) (n:Nat),K.lookup a=some o/\o.cls= .type "tuple"/\o.data= .seq its.toArray n/\its.length<=1000/\Vals (zs.map V.str) its
noncomputable def zM:List Str->List Value->Prop
 | [],[]=>True
 | z :: r,v :: vs=>(∃t,v= .str z t)/\zM r vs
 | _,_=>False
theorem yy:∀{zs:List Str}{vs:List Value},zM zs vs->Vals (zs.map V.str) vs
 | [],[],_=>.nil
 | z :: r,v :: vs,h=>.cons h.1 (yy h.2)
 | [],_ :: _,h=>h.elim
 | _ :: _,[],h=>h.elim
theorem LA {K:PySem.W.Frag}{a:Addr}{zs:List Str}{its:List Value}{n:Nat}{od:Option Addr}{sl:Array (Option Value)}(h:K.lookup a=some ⟨.type "tuple",od,.seq its.toArray n,sl⟩) (hl:its.length<=1000) (hs:zM zs its):Ig K a zs:=
 ⟨_,its,n,h,rfl,rfl,hl,yy hs⟩
theorem yz {F:Hp}:∀zs:List Str,bN F (zs.map V.str) (zs.map D.str)
 | []=>.nil
 | z :: zs=>.cons (.str z) (yz zs)
theorem rN:∀zs:List Str,gP (zs.map D.str)=0
 | []=>rfl
 | z :: zs=>by show max (gW (.str z)) (gP (zs.map D.str))=0;rw[rN zs];rfl
noncomputable def LB (n:Bool) (zs:List Str) (g:GD):GD:=fun S=>(g S).map fun p=>(.bl (n != inD p.1 (zs.map D.str)),p.2)
section
variable {X:Cx}{e:Expr}{x:Str}{px pos:Pos}{g:GD}{a:Addr}{zs:List Str}
theorem O0 (I:Inv X pins σ H s) (hk:Ig X.K a zs) (hu:X.A.units+64 < cLine){F:Hp}{d:D}{v:V}{u:Value}(sb:Sub F H) (r:Rep F v d) (rv:RelV v u):∃its:List Value,IsTup s.heap a its.toArray/\(∀y∈its,SeqAt.EqAt X.A.in1 s y u (Le F d y))/\its.any (Le F d)=inD d (zs.map D.str):=by
 obtain⟨o,its,n,h1,h2,h3,h4,h5⟩:=hk
 obtain⟨k1,k2⟩:=AR I sb (A:=X.A.in1) r rv (yz zs) h5 (by rw[rN];show X.A.units+1+0 < cLine;omega)
 exact⟨its,⟨o,I.B5 a o h1,h2,n,h3⟩,k1,k2⟩
theorem O1 (hu:X.A.units+64 < cLine) (hg:Gl X x) (hm:X.mg x=some (.ref a)) (hk:Ig X.K a zs){B:Base}(he:PE X e (tD X.K B g)) (hd:(x == ("__debug__":Str))=false):
  PC X .In e (.Name x px) (tD X.K B (LB false zs g)):=by
 intro pins s σ H Q I h
 obtain⟨S,F,d,S',R,hg',q⟩:=h
 obtain⟨⟨d1,S1⟩,h1,hg'⟩:=aH hg'
 cases hg'
 refine gf (he pins s σ H (fun y H1=>∃F',Sub F' H1/\Rep F' y d1/\Q (.bl (false != inD d1 (zs.map D.str))) H1) I ⟨S,F,d1,_,R,h1,fun v F1 H1 R1 st1 r1=>⟨F1,R1.sub,r1,q (.bl _) F1 H1 R1 st1 (.bl _)⟩⟩) fun iv s1 ⟨y,H1,I1,ry,F',sb,r',q'⟩=>?_
 refine gf (Df (v:=.ref a) hg hm rfl hd pins s1 σ H1 (fun v H2=>v= .ref a/\H2=H1) I1 ⟨rfl,rfl⟩) fun u s2 ⟨x',H2,I2,rx,ex,eH⟩=>?_
 subst ex eH
 obtain rfl:u=Value.ref a:=rx
 obtain⟨its,p,k1,k2⟩:=O0 I2 hk hu sb r' ry
 refine SeqAt.in_tupleAt (Le F' d1) p (fun y hy=>k1 y (by simpa using hy)) ⟨.bl _,_,I2,rfl,?_⟩
 rw[show its.toArray.any (Le F' d1)=its.any (Le F' d1) by simp,k2]
 simpa using q'
theorem Tf {B:Base}{g:GD}{σ:St}{H:Hp}{Q:Bool->Hp->Prop}(h:tQ X.K B (qB g) σ H Q):tB (tD X.K B g) σ H Q:=by
 obtain⟨S,F,kk,S',R,hg',q⟩:=h
 exact⟨S,F,.bl kk,S',R,lV hg',fun v F' H' R' st r=>⟨kk,iO r,q F' H' R' st⟩⟩
theorem O2 (hu:X.A.units+64 < cLine) (hg:Gl X x) (hm:X.mg x=some (.ref a)) (hk:Ig X.K a zs) (he:JD X e g) (hd:(x == ("__debug__":Str))=false:=by decide) (hi:behindInMarks .In (.Name x px)=false:=by with_unfolding_all rfl):JT X (.Compare e [.In] [.Name x px] pos) (qB (LB false zs g)):=
 ⟨fun B=>(Gz (O1 hu hg hm hk (he.h B) hd) hi).imp fun σ H Q h=>Tf h⟩
end
section
variable {X:Cx}{e f:Expr}{x:Str}{px pos apos cpos:Pos}{gk gd:GD}{ge:GE}
end
end L2
end
section
namespace HT
open PySem PySem.Spec PyProof.Rows
section
variable {prog:Program}{w:World}{A:Around}{E:Value->Shared->Prop}{s:Shared}
end
end HT
namespace L2
open PySem PySem.Spec PyProof.Rows
section
variable {X:Cx}{e st:Expr}{te ts:TE}{pos p2:Pos}
end
section
variable {X:Cx}
end
end L2
namespace HT
open PySem PySem.Spec PyProof.Rows
section
variable {prog:Program}{w:World}{A:Around}{E:Value->Shared->Prop}{s:Shared}
end
end HT
namespace L2
open PySem PySem.Spec PyProof.Rows
section
variable {X:Cx}{pos:Pos}
end
end L2
end
section
namespace L2
open PySem PySem.Spec PyProof.Rows PySem.Calls
section
variable {prog:Program}{w:World}{A:Around}{E:Value->Shared->Prop}{s:Shared}{a I:Addr}{ep:Nat}{t:SetTable}
end
section
variable {X:Cx}{a:Expr}{pos p p1 p2:Pos}{ga:GD}
end
end L2
end
section
namespace L2
open PySem PySem.Spec PyProof.Rows
section
variable {X:Cx}{x:Str}{p:Pos}{a:Addr}
end
section
variable {X:Cx}{e:Expr}{es:List Expr}{gu:GU}{x:Str}{p pos:Pos}{k n i:Nat}{t:TA}
end
structure oM (X:Cx) (x y0:Str) (cJ:List Str) (cap:List Nat) (scope:Scope) (cl:List (Str×Addr)):Prop where
 one:lU X x cJ cap scope cl
 Tg:scope.names.lookup y0=some .local
 QU:(x :: y0 :: cJ).Nodup
noncomputable def LC (K:PySem.W.Frag) (wi:TI) (cap:List Nat) (tc:TT) (te:TE):TE:=fun σ H Q=>wi σ H fun J H1=>∃W:Nat->Nat->List V->Hp->Prop,(∃m,W 0 m [] H1)/\∀i m ys H,W i m ys H->ys.length < sizeLine/\
  ((J.stop i H/\∀p,H p=none->Q (.ref p) (upd H p (.lst ys)))\/
   (J.go i H/\∀x H',J.QK i H x H'->∃a x1 x2,x= .ref a/\yY K H' a [x1,x2]/\tc (some x1 :: some x2 :: cL cap σ) H' fun b H2=>if b=true then te (some x1 :: some x2 :: cL cap σ) H2 fun y H3=>∃m',m' < m/\W (i+1) m' (ys++[y]) H3 else ∃m',m' < m/\W (i+1) m' ys H2))
theorem EY {X : Cx} {pins : List (Addr × Obj)} {σ : St} {H : Hp} {s s4 : Shared} {x y0 : Str} {cJ : List Str} {cap : List Nat} {scope : Scope} {cl : List (Str × Addr)} {C : Addr} {fp : List Addr} {m' : Str -> Option Value}
    (I:Inv X pins σ H s) (T2:oM X x y0 cJ cap scope cl) (hfp:∀b∈fp,lP X pins H b) (hfo:∀b∈fp,∃o,s.heap.get? b=some o)
    (hC:s.heap.objs.size<=C) (hns:s4.heap.Ns C m') (hos:s4.os=s.os) (hg:s4.gens=s.gens)
    (kept:∀b o,s.heap.get? b=some o->s4.heap.get? b=some o):
    Inv (fC X (x :: y0 :: cJ) scope cl C s H fp) [] (none :: none :: cL cap σ) H s4:=by
  have T:=T2.one
  have fr:∀b,s.heap.objs.size<=b->H b=none:=fun b hb=>I.hok.fresh hb
  refine⟨⟨I.ok.mod,T.kind,I.ok.glob,I.ok.blt,hC,fun y z c h1 h2=>I.ok.inj y z c (T.cells _ _ h1) (T.cells _ _ h2),fun y hy=>T.has y hy,fun y c h=>(by cases h),I.ok.hd,I.ok.frames,.inl rfl,fun b hb=>⟨?_,fun y c e z=>?_⟩,I.bs,Nat.le_trans I.ok.Kg I.sz,fun b o e hb=>?_,fun b hb z=>?_,I.stack,I.yW⟩,
    hos,by rw[hg];exact I.bare,Un.kept kept,⟨m',hns,fun i y v h1 h2 h3=>?_⟩,fun y c h=>?_,fr C hC,fun y c h=>I.nR y c (T.cells _ _ h),fun p hp=>?_,I.hok.kept kept,?_⟩
  . obtain⟨o,e⟩:=hfo b hb
    exact Nat.ne_of_lt (Nat.lt_of_lt_of_le (Heap.lt_size e) hC)
  . exact(hfp b hb).2.2.2.2.1 y c (T.cells _ _ e) z
  . rcases(hfp b hb).2.2.2.1 with z | z
    . exact I.ok.Em b o e z
    . exact absurd (Nat.lt_of_lt_of_le (Heap.lt_size e) (Nat.le_trans I.ok.Kg z)) (Nat.lt_irrefl _)
  . rcases List.mem_cons.mp (I.sI b z) with q | q
    . exact(hfp b hb).2.1 q
    . exact(hfp b hb).2.2.1 q
  . match i,h1,h2 with
    | 0,h1,h2=>cases h2
    | 1,h1,h2=>cases h2
    | j + 2, h1, h2 =>
      have h1:cJ[j]? =some y:=by simpa[fC] using h1
      have h2:(cL cap σ)[j]? =some (some v):=by simpa using h2
      obtain⟨i,e1,e2,e3⟩:=T.slot j y h1
      have e4:σ[i]? =some (some v):=by
        unfold cL at h2
        rw[List.getElem?_map,e1] at h2
        have h2:some ((σ[i]?).join)=some (some v):=h2
        have h2:=Option.some.inj h2
        cases q:σ[i]? with
        | none=>rw[q] at h2;cases h2
        | some o=>rw[q] at h2;cases h2;rfl
      obtain⟨m,hn,hl⟩:=I.loc
      obtain⟨u,r,l⟩:=hl i y v e2 e4 e3
      obtain⟨k1,⟨c,hc⟩,k3⟩:=T.vis y (List.mem_of_getElem? h1)
      refine⟨u,r,.inr ⟨k1,c,hc,?_⟩⟩
      rcases l with⟨hk,_⟩ | ⟨hk,c',hc',z⟩
      . exact absurd hk k3
      . rw[T.cells _ _ hc] at hc'
        cases hc'
        obtain⟨o,ho,hd⟩:=z
        exact⟨o,kept _ _ ho,hd⟩
  . obtain⟨v,o,ho,hd⟩:=I.cell y c (T.cells _ _ h)
    exact⟨v,o,kept _ _ ho,hd⟩
  . exact absurd (show p∈([]:List (Addr×Obj)) from hp) (by simp)
  . show(none :: none :: cL cap σ).length=(x :: y0 :: cJ).length
    simp[cL,T.len]
noncomputable def sV (P:Program) (w:World) (A:Around) (env:Env) (R:Result->Shared->Prop):Value->Shared->Prop:=notedBy (model P w) A env fun e s'=>R (.error e) s'
theorem zN {P:Program}{w:World}{A:Around}{R:Result->Shared->Prop}{s:Shared}{elt tg iter:Expr}{ifs:List Expr}{scope:Scope}{pos:Pos}{it acc:Value}{env:Env}(J:Nat->Shared->Prop)
    (turn : ∀ n s, J n s -> wpAny (model P w) A (pyNext it) (fun r s1 => match r with
      | none=>R (.ok .next) s1
      | some v=>wpAny (model P w) A (letOwnedTupleGo tg it v) (fun _ s1=>wpAny (model P w) A (assign tg env v) (fun _ s2=>
          wpAny (model P w) A (forIn ifs true fun c r=>if r=true then do let ok <-isTrue c env (eval c env);pure (ForInStep.yield ok) else pure (ForInStep.yield r)) (fun ok s3=>
            if ok=true then wpAny (model P w) A (eval elt env) (fun x s4=>wpAny (model P w) A (call (.builtin "list.append") [acc,x]) (fun _ s5=>∃m,m < n/\J m s5) (sV P w A env R) s4) (sV P w A env R) s3
            else ∃m,m < n/\J m s3) (sV P w A env R) s2) (sV P w A env R) s1) (sV P w A env R) s1) (sV P w A env R) s)
    (n:Nat) (h:J n s):codeAny (model P w) A (.compLoop (.ListComp elt [⟨tg,iter,ifs,0⟩] scope pos) 0 it acc env) R s:=by
  refine codeAny_loop rfl J (fun n s hJ=>?_) n h
  show wpAny _ A ((compTurn (.ListComp elt [⟨tg,iter,ifs,0⟩] scope pos) 0 it acc env).onRaise (fun x=>do noteFrame x env;theTreesLotGoes x)) _ _ s
  refine wpAny_noted ?_
  rw[compTurn_list]
  refine wpAny_bind (wpAny_standAt (wpAny_bind (wpAny_mono (turn n s hJ) (fun r s1 k1=>?_) fun _ _ z=>z)))
  cases r with
  | none=>exact wpAny_pure k1
  | some v=>
    refine wpAny_bind (wpAny_mono k1 (fun _ s1 k1=>?_) fun _ _ z=>z)
    refine wpAny_bind (wpAny_mono k1 (fun _ s2 k2=>wpAny_bind (wpAny_mono k2 (fun ok s3 k3=>?_) fun _ _ z=>z)) fun _ _ z=>z)
    cases ok with
    | false=>exact wpAny_pure ⟨rfl,k3⟩
    | true=>exact wpAny_bind (wpAny_bind (wpAny_mono k3 (fun x s4 k4=>wpAny_bind (wpAny_mono k4 (fun _ s5 k5=>wpAny_pure (wpAny_pure ⟨rfl,k5⟩)) fun _ _ z=>z)) fun _ _ z=>z))
theorem A4 {X:Cx}{elt iter:Expr}{ifs:List Expr}{x y0:Str}{px py pt pos:Pos}{k0:Nat}{scope:Scope}{cl:List (Str×Addr)}{cJ:List Str}{cap:List Nat}{wi:TI}{tc:TT}{te:TE}{pins:List (Addr×Obj)}{s:Shared}{σ:St}{H:Hp}{Q:VK}{use:Option (Value->Sem Unit)}{Qf:Value->Shared->Prop}{pos2:Pos}
    (T2:oM X x y0 cJ cap scope cl) (hc:X.calm=true) (hi:PI X (.Tuple [.Name x px,.Name y0 py] k0 pt) iter wi)
    (ht:∀C s H fp,M5 (fC X (x :: y0 :: cJ) scope cl C s H fp) ifs tc) (he:∀C s H fp,PE (fC X (x :: y0 :: cJ) scope cl C s H fp) elt te)
    (hs:∀x,foldedSetIterable iter X.env x=pure x) (I:Inv X pins σ H s) (h:LC X.K wi cap tc te σ H Q)
    (hend:∀(D C:Addr) (s7:Shared) (H6:Hp) (ys:List V),Inv X pins σ (upd H6 D (.lst ys)) s7->(∃m,s7.heap.Ns C m)->lP X pins (upd H6 D (.lst ys)) C->Q (.ref D) (upd H6 D (.lst ys))->compPost (model X.prog X.w) X.A X.xe use Qf (.ref D) C (.ok .next) s7):
    wpAny (model X.prog X.w) X.A (comprehension (.ListComp elt [⟨.Tuple [.Name x px,.Name y0 py] k0 pt,iter,ifs,0⟩] scope pos) scope X.env pos2 (newList []) false (eval iter X.env) use) Qf X.xe s:=by
  have T:=T2.one
  refine wpAny_comprehension_free (use:=use) rfl hs T.clos T.kind T.names (gf (hi pins s σ H _ I h) fun v s1 h1=>gf h1 fun itv s2 h2=>?_)
  obtain⟨it,fp,tn,J,H2,rfl,I2,xx,st2,f2,W,⟨m0,w0⟩,turn⟩:=h2
  refine wpAny_newObj_type (wpAny_newFunctionEnv T.oq (by intro y hy;simp at hy) (fun h4 zm vD=>?_) T.kind)
  dsimp only at zm vD ⊢
  generalize Oo:s2.heap.push {cls:=.type "list",dict:=none,data:=.seq ([]:List Value).toArray}=H3 at zm vD ⊢
  have eC:H3.objs.size=s2.heap.objs.size+1:=by rw[<-Oo,Heap.size_push]
  generalize eC':H3.objs.size=C at eC zm vD ⊢
  generalize eD:s2.heap.objs.size=D at eC ⊢
  have Hj:C=D+1:=eC
  have hDC:D≠C:=by rw[Hj];exact Nat.ne_of_lt (Nat.lt_succ_self D)
  have hC:s2.heap.objs.size<=C:=by rw[eD,Hj];exact Nat.le_succ D
  have hD:s2.heap.objs.size<=D:=by rw[eD];exact Nat.le_refl D
  have kept:∀b o,s2.heap.get? b=some o->h4.get? b=some o:=fun b o e=>vD.extBut b o (Nat.ne_of_lt (Nat.lt_of_lt_of_le (Heap.lt_size e) hC)) (Heap.get?_push_of_some _ (Oo▸Heap.get?_push_of_some _ e))
  have hacc:h4.get? D=some {cls:=.type "list",data:=.seq ([]:List Value).toArray ([]:List Value).length}:=vD.extBut _ _ hDC (Heap.get?_push_of_some _ (Oo▸eD▸Heap.get?_push_size _ rfl))
  have Su:∀b∈fp,∃o,s2.heap.get? b=some o:=fun b hb=>let⟨o,e,_⟩:=xx.obj _ _ st2 b hb;⟨o,e⟩
  have hDf:D∉fp:=fun hb=>by
    obtain⟨o,e⟩:=Su D hb
    exact absurd (Nat.lt_of_lt_of_le (Heap.lt_size e) hD) (Nat.lt_irrefl _)
  have Sv:tn 0 h4:=xx.keep _ _ _ st2 fun b _ o e=>kept b o e
  have key : ∀ s5 : Shared, s5 = { s2 with heap := h4, toks := s2.toks + ([] : List (Str × Value)).length } ->
      codeAny (model X.prog X.w) X.A (.compLoop (.ListComp elt [⟨.Tuple [.Name x px,.Name y0 py] k0 pt,iter,ifs,0⟩] scope pos) 0 (.ref it) (.ref D) (compEnvC scope cl C X.env)) (compPost (model X.prog X.w) X.A X.xe use Qf (.ref D) C) s5:=by
    rintro s5 rfl
    have I4:Inv (fC X (x :: y0 :: cJ) scope cl C s2 H2 fp) [] (none :: none :: cL cap σ) H2 {s2 with heap:=h4,toks:=s2.toks+([]:List (Str×Value)).length}:=
      EY (s4:={s2 with heap:=h4,toks:=s2.toks+([]:List (Str×Value)).length}) I2 T2 f2 Su hC zm rfl rfl kept
    generalize hY:fC X (x :: y0 :: cJ) scope cl C s2 H2 fp=Y at I4
    have fD:∀{H':Hp},H' D=none->lP Y [] H' D:=fun {H'} hn=>by
      subst hY
      refine⟨hn,hDC,fun z=>(List.mem_cons.mp (I2.sI D z)).elim (fun q=>absurd (Nat.lt_of_lt_of_le (q▸I2.lt) hD) (Nat.lt_irrefl _)) fun q=>I2.NO hD q,.inr hD,fun y c e z=>?_,fun p hp=>absurd (show p∈([]:List (Addr×Obj)) from hp) (by simp)⟩
      obtain⟨v,q⟩:=I2.cell y c (T.cells _ _ e)
      exact absurd (Nat.lt_of_lt_of_le q.lt (by rw[z];exact hD)) (Nat.lt_irrefl _)
    have fF:∀{H':Hp},(∀b∈fp,H' b=none)->∀b∈fp,lP Y [] H' b:=fun {H'} hn b hb=>by
      have q:=I4.ok.U3 b (by subst hY;exact hb)
      exact⟨hn b hb,fun z=>q.1 z,I4.ok.En b (by subst hY;exact hb),.inl (by subst hY;exact hb),fun y c e z=>q.2 y c e z,fun p hp=>absurd (show p∈([]:List (Addr×Obj)) from(by subst hY;exact hp)) (by simp)⟩
    have eA:Y.A=X.A:=by subst hY;rfl
    have eP:Y.prog=X.prog:=by subst hY;rfl
    have eW:Y.w=X.w:=by subst hY;rfl
    have eK:Y.K=X.K:=by subst hY;rfl
    have eE:Y.env=compEnvC scope cl C X.env:=by subst hY;rfl
    have eX:Y.xe=fun _ _=>False:=by subst hY;rfl
    have eN:Y.N=x :: y0 :: cJ:=by subst hY;rfl
    have M6:Y.calm=true:=by subst hY;exact hc
    have WV:M5 Y ifs tc:=by subst hY;exact ht _ _ _ _
    have WW:PE Y elt te:=by subst hY;exact he _ _ _ _
    have WX:PG Y (.Tuple [.Name x px,.Name y0 py] k0 pt) (RG Y.K 2 (GG (vp 0) (GG (vp 1) RE))):=GH M6 (vq (u5 (by rw[eN];exact T2.QU) (by rw[eN];rfl) (by rw[eE];exact .inl (lookup_relabel_local T.loc)) (.inr (by rw[eE];exact lookup_relabel_local T.loc))) (vq (u5 (by rw[eN];exact T2.QU) (by rw[eN];rfl) (by rw[eE];exact .inl (lookup_relabel_local T2.Tg)) (.inr (by rw[eE];exact lookup_relabel_local T2.Tg))) Dg))
    have qI:∀(E':Value->Shared->Prop) (e:Value) (s':Shared),Y.xe e s'->E' e s':=fun E' e s' z=>by rw[eX] at z;exact z.elim
    refine zN (fun n s'=>∃i ys us H' o o',Inv Y [] (o :: o' :: cL cap σ) H' s'/\tn i s'.heap/\(∀b∈fp,H' b=none)/\H' D=none/\s'.heap.get? D=some {cls:=.type "list",data:=.seq us.toArray us.length}/\Vals ys us/\W i n ys H') ?_ m0
      ⟨0,[],[],H2,none,none,I4,Sv,fun b hb=>(f2 b hb).1,I2.hok.fresh hD,hacc,.nil,w0⟩
    rintro n s6 ⟨i,ys,us,H6,o6,Vi,I6,Oq,Ot,d6,a6,v6,w6⟩
    have WY:us.length=ys.length:=v6.length.symm
    obtain⟨hz,Hl⟩:=turn i n ys H6 w6
    rcases Hl with⟨stop,qn⟩ | ⟨go,step⟩
    . have q := xx.done Y eP eW eK M6 i [] s6 (o6 :: Vi :: cL cap σ) H6 (notedBy (model X.prog X.w) X.A (compEnvC scope cl C X.env) fun e s' => compPost (model X.prog X.w) X.A X.xe use Qf (.ref D) C (.error e) s') I6 (fF Ot) Oq stop
      rw[eA] at q
      have Ou:=I6.pinned (fp:=[D]) (fun b hb=>by rw[List.mem_singleton.mp hb];exact fD d6) (fun b hb=>by rw[List.mem_singleton.mp hb];exact⟨_,a6,fun v z=>by cases z⟩)
      have q:=xx.done Y eP eW eK M6 i _ s6 (o6 :: Vi :: cL cap σ) H6 (notedBy (model X.prog X.w) X.A (compEnvC scope cl C X.env) fun e s'=>compPost (model X.prog X.w) X.A X.xe use Qf (.ref D) C (.error e) s') Ou (fun b hb=>?_) Oq stop
      . rw [eA] at q
        refine gf q fun r s7 ⟨hr,I7⟩=>?_
        subst hr
        have a7:s7.heap.get? D=_:=(I7.pin (D,{cls:=.type "list",data:=.seq us.toArray us.length}) (List.mem_append_right _ (List.mem_append_right _ (dY (List.mem_singleton.mpr rfl) a6)))).1
        obtain⟨m7,K2,_⟩:=I7.loc
        rw[eE] at K2
        have Ho:H6 D=none:=d6
        have WZ:H6 C=none:=by have:=I7.free;rw[eE] at this;exact this
        have Ov:nO X.prog X.w H6 s7.heap:=by have q:=I7.hok;rw[eP,eW] at q;exact q
        have new:fB X.prog X.w (upd H6 D (.lst ys)) s7.heap D (.lst ys):=⟨Nat.le_of_lt hz,us,us.length,v6,a7⟩
        have u7:Un (frs X.stack) fp H2 H6 s2.heap s7.heap:=by have:=I7.base;subst hY;exact this
        have W2:∀b o,s2.heap.get? b=some o->b≠D:=fun b o e=>Nat.ne_of_lt (Nat.lt_of_lt_of_le (Heap.lt_size e) hD)
        have u8:Un (frs X.stack) fp H2 (upd H6 D (.lst ys)) s2.heap s7.heap:=
          ⟨u7.keep,u7.slot,fun b o e n hx=>by rw[aY (W2 b o e)];exact u7.free b o e n hx,u7.there,
           fun b xs e=>by have z:=u7.tups b xs e;rw[aY (bK z Ho)];exact z,fun b o u e=>by have z:=u7.vm b o u e;rw[aY (bK z Ho)];exact z,
           fun b ps e=>by obtain⟨more,z⟩:=u7.xm b ps e;exact⟨more,by rw[aY (bK z Ho)];exact z⟩⟩
        have W3:s7.os=s2.os:=by have:=I7.os;subst hY;exact this
        have I9:Inv X pins σ (upd H6 D (.lst ys)) s7:=I2.MV (ch:=fp) W3 u8 (Ov.M4 Ho new) I7.bare fun b hb=>⟨(f2 b hb).2.2.2.1,(f2 b hb).2.1,(f2 b hb).2.2.2.2.1,(f2 b hb).2.2.2.2.2⟩
        exact hend D C s7 H6 ys I9 ⟨m7,K2⟩ (I2.xr hC (by rw[aY (Ne.symm hDC)];exact WZ)) (qn D Ho)
      . obtain⟨f0,f1,Ow,f3,f4,f5⟩:=fF Ot b hb
        refine⟨f0,f1,Ow,f3,f4,fun p hp z=>?_⟩
        rcases List.mem_append.mp hp with q' | q'
        . exact f5 p (List.mem_append_left _ q') z
        . rcases List.mem_append.mp q' with q' | q'
          . exact absurd q' (by simp)
          . have:=(mK q').1
            rw[List.mem_singleton.mp this] at z
            exact hDf (z▸hb)
    . have Ou:=I6.pinned (fp:=[D]) (fun b hb=>by rw[List.mem_singleton.mp hb];exact fD d6) (fun b hb=>by rw[List.mem_singleton.mp hb];exact⟨_,a6,fun v z=>by cases z⟩)
      have Sx:∀{H':Hp},(∀b∈fp,H' b=none)->∀b∈fp,lP Y ([]++mC [D] s6.heap) H' b:=fun {H'} hn b hb=>by
        obtain⟨f0,f1,Ow,f3,f4,f5⟩:=fF hn b hb
        refine⟨f0,f1,Ow,f3,f4,fun p hp z=>?_⟩
        rcases List.mem_append.mp hp with q' | q'
        . exact f5 p (List.mem_append_left _ q') z
        . rcases List.mem_append.mp q' with q' | q'
          . exact absurd q' (by simp)
          . have:=(mK q').1
            rw[List.mem_singleton.mp this] at z
            exact hDf (z▸hb)
      have q:=xx.item Y eP eW eK M6 i _ s6 (o6 :: Vi :: cL cap σ) H6 (notedBy (model X.prog X.w) X.A (compEnvC scope cl C X.env) fun e s'=>compPost (model X.prog X.w) X.A X.xe use Qf (.ref D) C (.error e) s') Ou (Sx Ot) Oq go
      rw[eA] at q
      refine gf q fun r s6' ⟨u,hr,h7⟩=>?_
      subst hr
      refine gf h7 fun _ s7 ⟨xv,H8,I8,r8,y8,Ox,W4⟩=>?_
      have W5:=I8.pinned (Sx W4) (xx.obj _ _ Ox)
      obtain⟨a8,x1,x2,e8,sq8,stp⟩:=step xv _ y8
      have qa:=WX _ s7 (o6 :: Vi :: cL cap σ) H8 xv u (fun σ' H'=>σ'=some x1 :: some x2 :: cL cap σ/\H'=H8) W5 r8 ⟨a8,[x1,x2],e8,by rw[eK];exact sq8,rfl,x1,[x2],rfl,x2,[],rfl,rfl,rfl,rfl⟩
      rw[eP,eW,eA,eE] at qa
      refine wpAny_mono qa (fun _ s9 h9=>?_) (qI _)
      obtain⟨σ9,H9,I9,e9,W6⟩:=h9
      subst e9 W6
      have qt:=WV _ s9 _ _ _ I9 stp
      rw[eP,eW,eA,eE] at qt
      refine wpAny_mono qt (fun ok W7 h10=>?_) (qI _)
      obtain⟨W8,SD,K3⟩:=h10
      have back:∀{s':Shared}{H':Hp},Inv Y (([]++mC [D] s6.heap)++mC fp s7.heap) (some x1 :: some x2 :: cL cap σ) H' s'->Inv Y [] (some x1 :: some x2 :: cL cap σ) H' s'/\tn (i+1) s'.heap/\(∀b∈fp,H' b=none)/\H' D=none/\s'.heap.get? D=some {cls:=.type "list",data:=.seq us.toArray us.length}:=fun {s' H'} J=>by
        refine⟨J.kN.kN,xx.keep _ _ _ Ox fun b hb o e=>(J.pin (b,o) (List.mem_append_right _ (List.mem_append_right _ (dY hb e)))).1,fun b hb=>?_,?_,?_⟩
        . obtain⟨o,e,d⟩:=xx.obj _ _ Ox b hb
          exact(J.pin (b,o) (List.mem_append_right _ (List.mem_append_right _ (dY hb e)))).2.1
        . exact(J.pin (D,_) (List.mem_append_right _ (List.mem_append_left _ (List.mem_append_right _ (dY (List.mem_singleton.mpr rfl) a6))))).2.1
        . exact(J.pin (D,_) (List.mem_append_right _ (List.mem_append_left _ (List.mem_append_right _ (dY (List.mem_singleton.mpr rfl) a6))))).1
      cases ok with
      | false=>
        rw[if_neg (by decide)] at K3 ⊢
        obtain⟨m',hm,W9⟩:=K3
        obtain⟨b1,b2,b3,b4,b5⟩:=back SD
        exact⟨m',hm,i+1,ys,us,W8,some x1,some x2,b1,b2,b3,b4,b5,v6,W9⟩
      | true=>
        rw[if_pos rfl] at K3 ⊢
        have qe:=WW _ W7 _ _ _ SD K3
        rw[eP,eW,eA,eE] at qe
        refine wpAny_mono qe (fun y Oz h11=>?_) (qI _)
        obtain⟨yv,SE,Xa,Xb,m',hm,Xc⟩:=h11
        obtain⟨b1,b2,b3,b4,b5⟩:=back Xa
        refine append_at (hsz:=by rw[List.size_toArray,WY];exact Nat.le_of_lt hz) b5 fun h12 OA OB=>?_
        have Hq:∀b o,b≠D->Oz.heap.get? b=some o->h12.get? b=some o:=fun b o hb e=>OA.extBut b o hb e
        obtain⟨g0,g1,g2,g3,g4,g5⟩:=fD b4
        have Xd:Inv Y [] (some x1 :: some x2 :: cL cap σ) SE {Oz with heap:=h12}:=b1.turned (t':=Oz.toks) Hq g0 g1 g3 g4 g5
        refine⟨m',hm,i+1,ys++[yv],us++[y],SE,some x1,some x2,Xd,xx.keep _ _ _ b2 fun b hb o e=>Hq b o (fun z=>hDf (z▸hb)) e,b3,b4,OB.trans (congrArg some (Hg us y)),v6.append (.cons Xb .nil),Xc⟩
  exact codeAny_compStart_list (key _ rfl) (xx.self _ 0 _ _ _ Sv (key _ rfl))
theorem yC {X:Cx}{elt iter:Expr}{ifs:List Expr}{x y0:Str}{px py pt pos:Pos}{k0:Nat}{scope:Scope}{cl:List (Str×Addr)}{cJ:List Str}{cap:List Nat}{wi:TI}{tc:TT}{te:TE}
  (T2:oM X x y0 cJ cap scope cl) (hc:X.calm=true) (hi:PI X (.Tuple [.Name x px,.Name y0 py] k0 pt) iter wi)
  (ht:∀C s H fp,M5 (fC X (x :: y0 :: cJ) scope cl C s H fp) ifs tc) (he:∀C s H fp,PE (fC X (x :: y0 :: cJ) scope cl C s H fp) elt te)
  (hs:∀x,foldedSetIterable iter X.env x=pure x:=by intro _;rfl):
  PE X (.ListComp elt [⟨.Tuple [.Name x px,.Name y0 py] k0 pt,iter,ifs,0⟩] scope pos) (LC X.K wi cap tc te):=by
 intro pins s σ H Q I h
 rw[eval_ListComp]
 refine A4 T2 hc hi ht he hs I h ?_
 rintro p C s7 H6 ys I9 ⟨m7,K2⟩ ⟨g0,g1,g2,g3,g4,g5⟩ q
 exact⟨m7,K2,fun h' hs'=>⟨.ref p,_,I9.turned (t':=s7.toks) (fun b o hb e=>hs'.extBut b o hb e) g0 g1 g3 g4 g5,rfl,q⟩⟩
noncomputable def iy (cap:List Nat) (q:GT) (g:GD):List D->SS->List D->Option (List D×SS)
 | [],S,acc=>some (acc,S)
 | .tup [a,b] :: ds,S,acc=>(g8 S cap).bind fun us=>
  if(slotsOf us).Nodup/\dz us<=1 then(cM S us).bind fun ws=>(q (some (.t a) :: some (.t b) :: ws.map some)).bind fun p=>
   if p.1 then(g p.2).bind fun r=>(aT (.t a :: .t b :: ws) r.2).bind fun outs=>(wb us outs S).bind fun S'=>iy cap q g ds S' (acc++[r.1])
   else(aT (.t a :: .t b :: ws) p.2).bind fun outs=>(wb us outs S).bind fun S'=>iy cap q g ds S' acc
  else none
 | _ :: _,_,_=>none
noncomputable def kY (cap:List Nat) (gi:GI) (q:GT) (g:GD):GE:=fun S=>(gi S).bind fun p=>if p.1.length<=100000 then(iy cap q g p.1 p.2 []).map fun r=>(.m (.lst r.1),r.2) else none
theorem A5 {F:Hp}{xs:List V}{a b:D}(r:bN F xs [a,b]):∃x1 x2,xs=[x1,x2]/\Rep F x1 a/\Rep F x2 b:=by
 cases r with
 | cons r1 rr=>cases rr with
  | cons r2 rr2=>cases rr2;exact⟨_,_,rfl,r1,r2⟩
theorem EZ {K : PySem.W.Frag} {B : Base} {cap : List Nat} {gi : GI} {q : GT} {g : GD} {σ : St} {H : Hp} {Q : VK} (h : tE K B (kY cap gi q g) σ H Q) : LC K (Xj K B gi) cap (fun σ H Q => ∃ B, tQ K B q σ H Q) (fun σ H Q => ∃ B, tD K B g σ H Q) σ H Q := by
  obtain⟨x,_⟩:∃x:Str,True:=⟨"",trivial⟩
  obtain⟨S,F,u,S',R,hg,k⟩:=h
  obtain⟨⟨ds,S1⟩,h1,hg⟩:=aq hg
  dsimp only at hg
  split at hg
  . rename_i hlen
    obtain⟨⟨res,Sf⟩,h2,hg⟩:=aH hg
    cases hg
    refine⟨S,F,ds,S1,R,h1,fun J F1 H1 R1 st1 w=>?_⟩
    refine⟨fun i m ys H'=>∃S2 F2 acc,Rel K B S2 σ F2 H'/\Step S S2 σ F H F2 H'/\(∀b o,F1 b=some o->F2 b=some o)/\bN F2 ys acc/\acc.length<=i/\i<=ds.length/\m=ds.length - i/\iy cap q g (ds.drop i) S2 acc=some (res,Sf),
      ⟨_,S1,F1,[],R1,st1,fun _ _ z=>z,.nil,Nat.le_refl _,Nat.zero_le _,rfl,h2⟩,?_⟩
    rintro i m ys H' ⟨S2,F2,acc,R2,st2,le,ry,ha,hl,rfl,dQ⟩
    refine⟨by rw[ry.length];exact Nat.lt_of_le_of_lt (Nat.le_trans ha (Nat.le_trans hl hlen)) (by decide),?_⟩
    have w':=w F2 H' le R2.sub i
    by_cases hlt:i < ds.length
    . have hd:ds[i]? =some ds[i]:=List.getElem?_eq_getElem hlt
      obtain⟨go,yl⟩:=w'.1 _ hd
      rw[List.drop_eq_getElem_cons hlt] at dQ
      refine .inr ⟨go,fun xv H3 y=>?_⟩
      obtain⟨rfl,rx⟩:=yl xv H3 y
      obtain⟨da,db,XA⟩:∃da db,ds[i]= .tup [da,db]:=by
        generalize ds[i]=dd at dQ
        unfold iy at dQ
        split at dQ
        . rename_i z;cases z
        . rename_i z;injection z with z1 z2;exact⟨_,_,z1⟩
        . cases dQ
      rw[XA] at dQ rx
      obtain⟨pa,xs2,XC,fpa,hpa,Km⟩:=R2.sub.lW rx
      obtain⟨x1,x2,exs,XD,XE⟩:=A5 Km
      subst exs XC
      obtain⟨us,e1,dQ⟩:=aq (show(g8 S2 cap).bind _=_ from dQ)
      split at dQ
      . rename_i hnd
        obtain⟨ws,e2,dQ⟩:=aq dQ
        obtain⟨⟨bk,T1⟩,e3,dQ⟩:=aq dQ
        obtain⟨vs,k1,k2⟩:=zC R2 e1
        have rr:Paired (fun v u=>kr K B S2 σ H3 F2 H3 v u) (x1 :: x2 :: vs) (.t da :: .t db :: us):=.cons XD (.cons XE k2)
        have er:=oB R2 da (oB R2 db e2)
        have ar:=rG R2 rr er
        have nd:=fO R2 rr er hnd.1 hnd.2
        have R3:=pT (n:=ws.length+2) R2.sub ar nd (List.replicate (ws.length+2) x) (by simp)
        have hvl:vs.length=ws.length:=by have:=ar.length;simpa using this
        have es:start (List.replicate (ws.length+2) x) (x1 :: x2 :: vs)=some x1 :: some x2 :: cL cap σ:=by
          unfold start;rw[k1];simp[hvl]
        have eS:(U.t da :: U.t db :: ws).map some++List.replicate (ws.length+2 - (U.t da :: U.t db :: ws).length) none=some (U.t da) :: some (U.t db) :: ws.map some:=by simp
        rw[es,eS] at R3
        have back:∀(T2:SS) (F3 H4:Hp) (outs:List MO) (S3:SS),Rel K ⟨lent (x1 :: x2 :: vs) (U.t da :: U.t db :: ws),F2,H3⟩ T2 (some x1 :: some x2 :: cL cap σ) F3 H4->aT (U.t da :: U.t db :: ws) T2=some outs->wb us outs S2=some S3->Rel K B S3 σ F3 H4/\Step S S3 σ F H F3 H4/\(∀b o,F2 b=some o->F3 b=some o):=fun T2 F3 H4 outs S3 RT ho hw=>by
          have po:=post_of ar T2 _ F3 H4 outs RT ho
          obtain⟨Ra,vN,_⟩:=kQ (S0:=S2) (F0:=F2) (H0:=H3) R2 (Step.refl ..) rr er (show wb (U.t da :: U.t db :: us) outs S2=some S3 by cases outs <;> exact hw) hnd.1 po
          exact⟨Ra,st2.trans vN,vN.ext.le⟩
        refine⟨pa,x1,x2,rfl,.inl hpa,_,_,F2,bk,T1,R3,e3,fun F3 H4 Na SR=>?_⟩
        cases bk with
        | true=>
          obtain⟨⟨yd,T2⟩,e4,dQ⟩:=aq (show(g T1).bind _=_ from dQ)
          obtain⟨outs,e5,dQ⟩:=aq dQ
          obtain⟨S3,e6,dQ⟩:=aq dQ
          refine zj ⟨_,T1,F3,yd,T2,Na,e4,fun yv F4 H5 SV SW SX=>?_⟩
          obtain⟨Ra,vN,AO⟩:=back T2 F4 H5 outs S3 SV e5 e6
          refine⟨ds.length - (i+1),by omega,S3,F4,acc++[yd],Ra,vN,fun b o z=>AO b o (le b o z),(ry.le AO).append (.cons SX .nil),by simp;omega,hlt,rfl,dQ⟩
        | false=>
          obtain⟨outs,e5,dQ⟩:=aq (show(aT (U.t da :: U.t db :: ws) T1).bind _=_ from dQ)
          obtain⟨S3,e6,dQ⟩:=aq dQ
          obtain⟨Ra,vN,AO⟩:=back T1 F3 H4 outs S3 Na e5 e6
          exact zh ⟨ds.length - (i+1),by omega,S3,F3,acc,Ra,vN,fun b o z=>AO b o (le b o z),ry.le AO,by omega,hlt,rfl,dQ⟩
      . cases dQ
    . have e:i=ds.length:=by omega
      subst e
      rw[List.drop_length] at dQ
      cases dQ
      refine .inl ⟨w'.2 (Nat.le_refl _),fun p hp=>?_⟩
      have n:=iU.obj (F:=F2) hp (.lst ys)
      refine k (.ref p) F2 _ (R2.new n (R2.sub.same n.same)) (st2.trans n.step) ⟨p,rfl,none_of st2.ext.there hp,R2.sub.fresh hp,⟨ys,bx,ry⟩,fun m=>?_,none_of R2.ext.there hp⟩
      obtain⟨o,ho⟩:=R2.has m
      rw[hp] at ho
      cases ho
  . cases hg
theorem Ih {X:Cx}{elt iter:Expr}{ifs:List Expr}{x y0:Str}{px py pt pos:Pos}{k0:Nat}{scope:Scope}{cl:List (Str×Addr)}{cJ:List Str}{cap:List Nat}{gi:GI}{q:GT}{g:GD}(T:oM X x y0 cJ cap scope cl) (hc:X.calm=true) (hi:JI X (.Tuple [.Name x px,.Name y0 py] k0 pt) iter gi)
  (ht:∀C s H fp,Vc (fC X (x :: y0 :: cJ) scope cl C s H fp) ifs q) (he:∀C s H fp,JD (fC X (x :: y0 :: cJ) scope cl C s H fp) elt g)
  (hs:∀x,foldedSetIterable iter X.env x=pure x:=by intro _;rfl):JE X (.ListComp elt [⟨.Tuple [.Name x px,.Name y0 py] k0 pt,iter,ifs,0⟩] scope pos) (kY cap gi q g):=⟨fun B=>
 (yC (tc:=fun σ H Q=>∃B,tQ X.K B q σ H Q) (te:=fun σ H Q=>∃B,tD X.K B g σ H Q) T hc (hi.h B) (fun C s H fp pins s' σ H' Q I ⟨B',z⟩=>(ht C s H fp).h B' pins s' σ H' Q I z) (fun C s H fp pins s' σ H' Q I ⟨B',z⟩=>(he C s H fp).h B' pins s' σ H' Q I z) hs).imp fun σ H Q h=>EZ h⟩
end L2
end
section
namespace L2
open PySem PySem.Spec PyProof.Rows PySem.Calls
section
variable {X:Cx}{o e:Expr}{m:Str}{apos cpos:Pos}{id:String}{go ge:GD}{f:List D->Option U}
end
section
variable {X:Cx}
end
end L2
end
section
namespace L2
open PySem PySem.Spec PyProof.Rows
section
variable {X:Cx}{C:Addr}{e value:Expr}{es:List Expr}{gu:GU}{x y m:Str}{px p pos pos' apos tpos:Pos}{f:Str}{fm:FM}{fa:Addr}{fd:FuncData}{ps:List Str}{k n i:Nat}{g:GD}
end
end L2
end
section
namespace L2
open PySem PySem.Spec PyProof.Rows PySem.Calls
section
variable {X:Cx}
end
section
variable {X:Cx}{e f:Expr}{x:Str}{px pos apos cpos:Pos}{ty tx:TE}{g gd:GD}{a:Addr}{kvs:List (Str×Int)}
end
section
variable {prog:Program}{w:World}{A:Around}{E:Value->Shared->Prop}{s:Shared}
theorem rO {M:Model}{a:Addr}{Q:Option Obj->Shared->Prop}(h:Q (s.heap.get? a) s):wpAny M A (loadIfAlive a) Q E s:=fun Γ p _=>by
 unfold loadIfAlive
 rw[Sem.wp_loadIfAlive]
 exact(wpAny_pure h:wpAny M A (pure (s.heap.get? a)) Q E s) Γ p (by assumption)
noncomputable abbrev jJ (h:Heap) (z TI TO:Addr) (f0 f1:Value):Prop:=h.get? z=some {cls:=.type "zip",dict:=none,data:=.fields #[f0,f1,.bool false,.ref TI,.ref TO],slots:=#[]}
noncomputable def XF (f0 f1:Value):Prop:=(f0= .none\/∃T:Int,f0=rawInt T)/\∃b,f1= .bool b
structure qM (N:Nat) (k0 k1:Bool) (l0 l1:Nat) (i:Nat) (h:Heap):Prop where
 z:∃f0 f1,XF f0 f1/\jJ h (N+4) (N+2) (N+3) f0 f1
 ti:TupAt h (N+2) #[.ref N,.ref (N+1)]
 to:∃v:List Value,v.length=2/\TupAt h (N+3) v.toArray
 c0:lR k0 h N l0 i
 c1:lR k1 h (N+1) l1 i
theorem zI.l {N:Nat}{k0 k1:Bool}{l0 l1 i:Nat}{h:Heap}(x:zI N k0 k1 l0 l1 i .none h):qM N k0 k1 l0 l1 i h:=⟨⟨_,_,⟨.inl rfl,_,rfl⟩,x.z⟩,x.ti,x.to,x.c0,x.c1⟩
theorem A6 {z TI TO : Addr} {f0 f1 : Value} {Q : Bool -> Shared -> Prop} (hz : jJ s.heap z TI TO f0 f1) (hf : XF f0 f1)
    (q:∀b h' g0 g1,XF g0 g1->jJ h' z TI TO g0 g1->Heap.SameBut z s.heap h'->Q b {s with heap:=h'}):wpAny (model prog w) A (Builtin.SmallTypes.ownedTupleIsFree (.ref z)) Q E s:=by
  unfold Builtin.SmallTypes.ownedTupleIsFree
  have same:Heap.SameBut z s.heap s.heap:=⟨rfl,fun _ _=>rfl⟩
  obtain⟨h0,b1,rfl⟩:=id hf
  rcases h0 with rfl | ⟨T,rfl⟩
  . exact wpAny_bind (wpAny_field hz rfl (x:=.none) rfl (wpAny_pure (q true s.heap _ _ hf hz same)))
  . refine wpAny_bind (wpAny_field hz rfl (x:=rawInt T) rfl ?_)
    show wpAny _ _ (loadIfAlive T.toNat >>= _) _ _ _
    refine wpAny_bind (rO ?_)
    cases hl:s.heap.get? T.toNat with
    | none=>exact wpAny_pure (q true s.heap _ _ hf hz same)
    | some o=>
      show wpAny _ _ (field (.ref z) 1 >>= _) _ _ _
      refine wpAny_bind (wpAny_field hz rfl (x:=.bool b1) rfl ?_)
      cases b1 with
      | true=>exact wpAny_pure (q false s.heap _ _ hf hz same)
      | false=>
        show wpAny _ _ (setField (.ref z) 1 (.bool true) >>= _) _ _ _
        refine wpAny_bind (wpAny_setField_rec hz (by simp) fun h' hz' e'=>?_)
        exact wpAny_pure (q false h' (rawInt T) (.bool true) ⟨.inr ⟨T,rfl⟩,true,rfl⟩ hz' e')
theorem Ii {N i:Nat}{k0 k1:Bool}{l0 l1:Nat}{v0 v1:Array Value}{x0 x1:Value}{Q:Option Value->Shared->Prop}(st:qM N k0 k1 l0 l1 i s.heap)
  (DL:nP k0 s.heap l0 v0) (xg:v0[i]? =some x0) (Cv:l0 < N)
  (B4:nP k1 s.heap l1 v1) (zJ:v1[i]? =some x1) (Cw:l1 < N)
  (q:∀h',qM N k0 k1 l0 l1 (i+1) h'->TupAt h' s.heap.objs.size #[x0,x1]->(∀(b:Nat) o,b∉iI N->s.heap.get? b=some o->h'.get? b=some o)->Q (some (.ref s.heap.objs.size)) {s with heap:=h'}):
  wpAny (model prog w) A (pyNext (.ref (N+4))) Q E s:=by
 obtain⟨⟨f0,f1,hf,hz⟩,hTI,⟨w0,hw0,hTO⟩,d0,d1⟩:=st
 obtain⟨a0,a1,rfl⟩:∃a0 a1,w0=[a0,a1]:=by
  match w0,hw0 with
  | [a0,a1],_=>exact⟨_,_,rfl⟩
 have hT:s.TypeIs (.ref (N+4)) "zip":=⟨_,hz,rfl⟩
 unfold pyNext
 refine wpAny_bind (wpAny_attempt (wpAny_callSpecial?_slot (name:=Str.ofString "__next__") hT F.slot_zip_next (wpAny_call_entry F.slot_zip_next hT F.entry_zip_next ?_ (F.args_zip_next_1 _))))
 show wpAny _ _ (field (.ref (N+4)) 2 >>= _) _ _ _;refine wpAny_bind (wpAny_field hz rfl (x:=.bool false) rfl ?_)
 show wpAny _ _ (field (.ref (N+4)) 3 >>= _) _ _ _;refine wpAny_bind (wpAny_field hz rfl (x:=.ref (N+2)) rfl ?_)
 refine wpAny_bind (wpAny_seqItems hTI rfl ?_);show wpAny _ _ (Builtin.SmallTypes.ownedTupleIsFree (.ref (N+4)) >>= _) _ _ _
 refine wpAny_bind (A6 hz hf fun fr v7 q0 fl hf' hz' yD=>?_)
 clear hf hz hT
 have yD:Heap.SameBut (N+4) s.heap v7:=yD
 cases fr
 case false=>
  have Nh:∀(b:Nat) o,b∉iI N->s.heap.get? b=some o->v7.get? b=some o:=fun b o hb y=>(yD.2 b fun z=>hb (aR.mpr (by have z:@Eq Nat b _:=z;omega))).trans y
  have d0:lR k0 v7 N l0 i:=d0.at fun o y=>(yD.2 _ (by first | omega | (show @Ne Nat _ _;omega))).trans y
  have d1:lR k1 v7 (N+1) l1 i:=d1.at fun o y=>(yD.2 _ (by first | omega | (show @Ne Nat _ _;omega))).trans y
  have hTO:TupAt v7 (N+3) #[a0,a1]:=(yD.2 _ (by first | omega | (show @Ne Nat _ _;omega))).trans hTO
  have hTI:TupAt v7 (N+2) #[.ref N,.ref (N+1)]:=(yD.2 _ (by first | omega | (show @Ne Nat _ _;omega))).trans hTI
  have xD:nP k0 v7 l0 v0:=DL.at fun o y=>Nh _ o (fun z=>by have:=aR.mp z;omega) y
  have zL:nP k1 v7 l1 v1:=B4.at fun o y=>Nh _ o (fun z=>by have:=aR.mp z;omega) y
  simp only[Bool.false_eq_true,if_false]
  refine wpAny_bind ?_
  rw[<-Array.forIn_toList]
  simp only[List.forIn_cons,List.forIn_nil]
  refine wpAny_bind (wpAny_bind (wpAny_holding ?_));show wpAny _ _ (Builtin.SmallTypes.nextOf (.ref N) >>= _) _ _ _
  refine wpAny_bind (nextK d0 xD xg fun g1 c0 e1=>wpAny_pure (wpAny_pure ?_))
  have e1:Heap.SameBut N v7 g1:=e1
  have m1:∀(b:Nat) o,b∉iI N->s.heap.get? b=some o->g1.get? b=some o:=fun b o hb y=>(e1.2 b fun z=>hb (aR.mpr (by have z:@Eq Nat b _:=z;omega))).trans (Nh b o hb y)
  have d1:lR k1 g1 (N+1) l1 i:=d1.at fun o y=>(e1.2 _ (by first | omega | (show @Ne Nat _ _;omega))).trans y
  have zL:nP k1 g1 l1 v1:=B4.at fun o y=>m1 _ o (fun z=>by have:=aR.mp z;omega) y
  refine wpAny_bind (wpAny_bind (wpAny_holding ?_));show wpAny _ _ (Builtin.SmallTypes.nextOf (.ref (N+1)) >>= _) _ _ _
  refine wpAny_bind (nextK d1 zL zJ fun g2 c1 e2=>wpAny_pure (wpAny_pure (wpAny_pure ?_)))
  have e2:Heap.SameBut (N+1) g1 g2:=e2
  have s2:g2.objs.size=s.heap.objs.size:=by rw[e2.1,e1.1,yD.1]
  refine wpAny_bind (wpAny_newTuple ?_ (show 2<=sizeLine by decide))
  refine wpAny_pure ⟨_,rfl,wpAny_pure ?_⟩
  have keep:∀(b:Nat) o,b≠N->b≠N+1->v7.get? b=some o->(g2.push {cls:=.type "tuple",data:=.seq #[x0,x1]}).get? b=some o:=fun b o h1 h2 y=>Heap.get?_push_of_some _ ((e2.2 _ h2).trans ((e1.2 _ h1).trans y))
  have tt:TupAt (g2.push {cls:=.type "tuple",data:=.seq #[x0,x1]}) g2.objs.size #[x0,x1]:=Heap.get?_push_size _ rfl
  have q':=q (g2.push {cls:=.type "tuple",data:=.seq #[x0,x1]}) ⟨⟨_,_,hf',keep _ _ (by first | omega | (show @Ne Nat _ _;omega)) (by first | omega | (show @Ne Nat _ _;omega)) hz'⟩,keep _ _ (by first | omega | (show @Ne Nat _ _;omega)) (by first | omega | (show @Ne Nat _ _;omega)) hTI,⟨[a0,a1],rfl,keep _ _ (by first | omega | (show @Ne Nat _ _;omega)) (by first | omega | (show @Ne Nat _ _;omega)) hTO⟩,c0.at fun o y=>Heap.get?_push_of_some _ ((e2.2 _ (by first | omega | (show @Ne Nat _ _;omega))).trans y),c1.at fun o y=>Heap.get?_push_of_some _ y⟩ (by rw[<-s2];exact tt) fun b o hb y=>Heap.get?_push_of_some _ ((e2.2 b fun z=>hb (aR.mpr (by have z:@Eq Nat b _:=z;omega))).trans (m1 b o hb y))
  rw[<-s2] at q'
  exact q'
 simp only[if_true];refine wpAny_bind (wpAny_rule ?_);refine wpAny_bind (wpAny_field hz' rfl (x:=.ref (N+3)) rfl ?_)
 refine wpAny_bind (wpAny_setField_rec hz' (by simp) fun g0 z0 e0=>?_)
 have e0:Heap.SameBut (N+4) v7 g0:=e0
 have e0:Heap.SameBut (N+4) s.heap g0:=⟨e0.1.trans yD.1,fun b hb=>(e0.2 b hb).trans (yD.2 b hb)⟩
 have z0:jJ g0 (N+4) (N+2) (N+3) .ellipsis fl:=z0
 have e0:Heap.SameBut (N+4) s.heap g0:=e0
 refine wpAny_bind ?_;simp only[List.zipIdx_cons,List.zipIdx_nil,List.forIn_cons,List.forIn_nil]
 have t0:TupAt g0 (N+3) #[a0,a1]:=(e0.2 _ (by first | omega | (show @Ne Nat _ _;omega))).trans hTO
 have m0:∀(b:Nat) o,b∉iI N->s.heap.get? b=some o->g0.get? b=some o:=fun b o hb y=>(e0.2 b fun z=>hb (aR.mpr (by have z:@Eq Nat b _:=z;omega))).trans y
 have Ll:lR k0 g0 N l0 i:=d0.at fun o y=>(e0.2 _ (by first | omega | (show @Ne Nat _ _;omega))).trans y
 have Cy:lR k1 g0 (N+1) l1 i:=d1.at fun o y=>(e0.2 _ (by first | omega | (show @Ne Nat _ _;omega))).trans y
 refine wpAny_bind (wpAny_bind (wpAny_onRaise ?_));show wpAny _ _ (Builtin.SmallTypes.nextOf (.ref N) >>= _) _ _ _
 refine wpAny_bind (nextK Ll (DL.at fun o y=>m0 _ o (fun z=>by have:=aR.mp z;omega) y) xg fun g1 c0 e1=>wpAny_pure ?_)
 have e1:Heap.SameBut N g0 g1:=e1
 have t1:TupAt g1 (N+3) #[a0,a1]:=(e1.2 _ (by first | omega | (show @Ne Nat _ _;omega))).trans t0
 refine wpAny_bind (wpAny_seqItems t1 rfl ?_);refine wpAny_bind (ET t1 (show 2<=sizeLine by decide) fun g2 t2 e2=>?_)
 have t2:TupAt g2 (N+3) #[x0,a1]:=t2
 have e2:Heap.SameBut (N+3) g1 g2:=e2
 have z1:jJ g2 (N+4) (N+2) (N+3) .ellipsis fl:=(e2.2 _ (by first | omega | (show @Ne Nat _ _;omega))).trans ((e1.2 _ (by first | omega | (show @Ne Nat _ _;omega))).trans z0)
 have m2:∀(b:Nat) o,b∉iI N->s.heap.get? b=some o->g2.get? b=some o:=fun b o hb y=>(e2.2 b fun z=>hb (aR.mpr (by have z:@Eq Nat b _:=z;omega))).trans ((e1.2 b fun z=>hb (aR.mpr (by have z:@Eq Nat b _:=z;omega))).trans (m0 b o hb y))
 refine wpAny_bind (wpAny_letGo (wpAny_pure ?_))
 have c0:lR k0 g2 N l0 (i+1):=c0.at fun o y=>(e2.2 _ (by first | omega | (show @Ne Nat _ _;omega))).trans y
 have Cy:lR k1 g2 (N+1) l1 i:=Cy.at fun o y=>(e2.2 _ (by first | omega | (show @Ne Nat _ _;omega))).trans ((e1.2 _ (by first | omega | (show @Ne Nat _ _;omega))).trans y)
 have i0:g2.get? (N+2)=s.heap.get? (N+2):=by rw[e2.2 _ (by first | omega | (show @Ne Nat _ _;omega)),e1.2 _ (by first | omega | (show @Ne Nat _ _;omega)),e0.2 _ (by first | omega | (show @Ne Nat _ _;omega))]
 have s0:g2.objs.size=s.heap.objs.size:=by rw[e2.1,e1.1,e0.1]
 refine wpAny_bind (wpAny_bind (wpAny_onRaise ?_));show wpAny _ _ (Builtin.SmallTypes.nextOf (.ref (N+1)) >>= _) _ _ _
 refine wpAny_bind (nextK Cy (B4.at fun o y=>m2 _ o (fun z=>by have:=aR.mp z;omega) y) zJ fun g3 c1 e3=>wpAny_pure ?_)
 have e3:Heap.SameBut (N+1) g2 g3:=e3
 have t3:TupAt g3 (N+3) #[x0,a1]:=(e3.2 _ (by first | omega | (show @Ne Nat _ _;omega))).trans t2
 refine wpAny_bind (wpAny_seqItems t3 rfl ?_);refine wpAny_bind (ET t3 (show 2<=sizeLine by decide) fun g4 t4 e4=>?_)
 have t4:TupAt g4 (N+3) #[x0,x1]:=t4
 have e4:Heap.SameBut (N+3) g3 g4:=e4
 have z2:jJ g4 (N+4) (N+2) (N+3) .ellipsis fl:=(e4.2 _ (by first | omega | (show @Ne Nat _ _;omega))).trans ((e3.2 _ (by first | omega | (show @Ne Nat _ _;omega))).trans z1)
 have m4:∀(b:Nat) o,b∉iI N->s.heap.get? b=some o->g4.get? b=some o:=fun b o hb y=>(e4.2 b fun z=>hb (aR.mpr (by have z:@Eq Nat b _:=z;omega))).trans ((e3.2 b fun z=>hb (aR.mpr (by have z:@Eq Nat b _:=z;omega))).trans (m2 b o hb y))
 refine wpAny_bind (wpAny_letGo (wpAny_pure (wpAny_pure ?_)))
 have c0:lR k0 g4 N l0 (i+1):=c0.at fun o y=>(e4.2 _ (by first | omega | (show @Ne Nat _ _;omega))).trans ((e3.2 _ (by first | omega | (show @Ne Nat _ _;omega))).trans y)
 have c1:lR k1 g4 (N+1) l1 (i+1):=c1.at fun o y=>(e4.2 _ (by first | omega | (show @Ne Nat _ _;omega))).trans y
 have i1:g4.get? (N+2)=s.heap.get? (N+2):=by rw[e4.2 _ (by first | omega | (show @Ne Nat _ _;omega)),e3.2 _ (by first | omega | (show @Ne Nat _ _;omega)),i0]
 have s1:g4.objs.size=s.heap.objs.size:=by rw[e4.1,e3.1,s0]
 refine wpAny_bind (wpAny_seqItems t4 rfl ?_);refine wpAny_bind (wpAny_newTuple ?_)
 have OV:(N+4) < g4.objs.size:=Heap.lt_size z2
 show wpAny _ _ (Builtin.SmallTypes.ownedTupleHandOut (.ref (N+4)) (.ref g4.objs.size) >>= _) _ _ _;refine wpAny_bind ?_;unfold Builtin.SmallTypes.ownedTupleHandOut
 have y0:jJ (g4.push {cls:=.type "tuple",data:=.seq #[x0,x1]}) (N+4) (N+2) (N+3) .ellipsis fl:=Heap.get?_push_of_some _ z2
 refine wpAny_bind (wpAny_setField_rec y0 (by simp) fun f1 y1 r1=>?_)
 have y1:jJ f1 (N+4) (N+2) (N+3) (rawInt g4.objs.size) fl:=y1
 refine wpAny_setField_rec y1 (by simp) fun f2 y2 r2=>?_
 have y2:jJ f2 (N+4) (N+2) (N+3) (rawInt g4.objs.size) (.bool false):=y2
 have up:∀b o,b≠(N+4)->g4.get? b=some o->f2.get? b=some o:=fun b o hb y=>r2.extBut _ _ hb (r1.extBut _ _ hb (Heap.get?_push_of_some _ y))
 have tt:TupAt f2 g4.objs.size #[x0,x1]:=r2.extBut _ _ (Nat.ne_of_gt OV) (r1.extBut _ _ (Nat.ne_of_gt OV) (Heap.get?_push_size _ rfl))
 rw[s1] at y2 tt
 refine wpAny_pure ⟨_,rfl,wpAny_pure ?_⟩
 rw[s1]
 exact q f2 ⟨⟨_,_,⟨.inr ⟨_,rfl⟩,false,rfl⟩,y2⟩,up _ _ (by first | omega | (show @Ne Nat _ _;omega)) (i1.trans hTI),⟨[x0,x1],rfl,up _ _ (by first | omega | (show @Ne Nat _ _;omega)) t4⟩,c0.at fun o y=>up _ o (by first | omega | (show @Ne Nat _ _;omega)) y,c1.at fun o y=>up _ o (by first | omega | (show @Ne Nat _ _;omega)) y⟩ tt fun b o hb y=>up b o (fun z=>hb (aR.mpr (by have z:@Eq Nat b _:=z;omega))) (m4 b o hb y)
theorem LD {N i : Nat} {k0 k1 : Bool} {l0 l1 : Nat} {v0 v1 : Array Value} {Q : Option Value -> Shared -> Prop} (hn : A.handled = none) (st : qM N k0 k1 l0 l1 i s.heap)
    (DL:nP k0 s.heap l0 v0) (Cv:l0 < N)
    (B4:nP k1 s.heap l1 v1) (Cw:l1 < N)
    (hend:v0[i]? =none\/v1[i]? =none)
    (q:∀h',(∀(b:Nat) o,b∉iI N->s.heap.get? b=some o->h'.get? b=some o)->Q none {s with heap:=h'}):
    wpAny (model prog w) A (pyNext (.ref (N+4))) Q E s:=by
  obtain⟨⟨f0,f1,hf,hz⟩,hTI,⟨w0,hw0,hTO⟩,d0,d1⟩:=st
  obtain⟨a0,a1,rfl⟩:∃a0 a1,w0=[a0,a1]:=by
    match w0,hw0 with
    | [a0,a1],_=>exact⟨_,_,rfl⟩
  have hT:s.TypeIs (.ref (N+4)) "zip":=⟨_,hz,rfl⟩
  unfold pyNext
  refine wpAny_bind (wpAny_attempt (wpAny_callSpecial?_slot (name:=Str.ofString "__next__") hT F.slot_zip_next (wpAny_call_entry F.slot_zip_next hT F.entry_zip_next ?_ (F.args_zip_next_1 _))))
  show wpAny _ _ (field (.ref (N+4)) 2 >>= _) _ _ _;refine wpAny_bind (wpAny_field hz rfl (x:=.bool false) rfl ?_)
  show wpAny _ _ (field (.ref (N+4)) 3 >>= _) _ _ _;refine wpAny_bind (wpAny_field hz rfl (x:=.ref (N+2)) rfl ?_)
  refine wpAny_bind (wpAny_seqItems hTI rfl ?_);show wpAny _ _ (Builtin.SmallTypes.ownedTupleIsFree (.ref (N+4)) >>= _) _ _ _
  refine wpAny_bind (A6 hz hf fun fr v7 q0 fl hf' hz' yD=>?_)
  clear hf hz hT
  have yD:Heap.SameBut (N+4) s.heap v7:=yD
  cases fr
  case false=>
    have Nh:∀(b:Nat) o,b∉iI N->s.heap.get? b=some o->v7.get? b=some o:=fun b o hb y=>(yD.2 b fun z=>hb (aR.mpr (by have z:@Eq Nat b _:=z;omega))).trans y
    have d0:lR k0 v7 N l0 i:=d0.at fun o y=>(yD.2 _ (by first | omega | (show @Ne Nat _ _;omega))).trans y
    have d1:lR k1 v7 (N+1) l1 i:=d1.at fun o y=>(yD.2 _ (by first | omega | (show @Ne Nat _ _;omega))).trans y
    have hTO:TupAt v7 (N+3) #[a0,a1]:=(yD.2 _ (by first | omega | (show @Ne Nat _ _;omega))).trans hTO
    have hTI:TupAt v7 (N+2) #[.ref N,.ref (N+1)]:=(yD.2 _ (by first | omega | (show @Ne Nat _ _;omega))).trans hTI
    have xD:nP k0 v7 l0 v0:=DL.at fun o y=>Nh _ o (fun z=>by have:=aR.mp z;omega) y
    have zL:nP k1 v7 l1 v1:=B4.at fun o y=>Nh _ o (fun z=>by have:=aR.mp z;omega) y
    simp only[Bool.false_eq_true,if_false]
    refine wpAny_bind ?_
    rw[<-Array.forIn_toList]
    simp only[List.forIn_cons,List.forIn_nil]
    refine wpAny_bind (wpAny_bind (wpAny_holding ?_));show wpAny _ _ (Builtin.SmallTypes.nextOf (.ref N) >>= _) _ _ _
    cases xg:v0[i]? with
    | none=>
      refine wpAny_bind (A1 hn d0 xD xg fun u1 e r1 he=>?_)
      have r1:Heap.ExtBut N v7 u1:=r1
      obtain⟨oe,zK,hce⟩:=he
      exact wpAny_bind (wpAny_isInstance (T:="StopIteration") (b:=true) ⟨oe,zK,hce⟩ isSubtype_stop (wpAny_pure (q _ fun b o hb y=>r1 _ _ (fun z=>hb (aR.mpr (by have z:@Eq Nat b _:=z;omega))) (Nh b o hb y))))
    | some x0=>
      refine wpAny_bind (nextK d0 xD xg fun g1 c0 e1=>wpAny_pure (wpAny_pure ?_))
      have e1:Heap.SameBut N v7 g1:=e1
      have m1:∀(b:Nat) o,b∉iI N->s.heap.get? b=some o->g1.get? b=some o:=fun b o hb y=>(e1.2 b fun z=>hb (aR.mpr (by have z:@Eq Nat b _:=z;omega))).trans (Nh b o hb y)
      have d1:lR k1 g1 (N+1) l1 i:=d1.at fun o y=>(e1.2 _ (by first | omega | (show @Ne Nat _ _;omega))).trans y
      have zL:nP k1 g1 l1 v1:=B4.at fun o y=>m1 _ o (fun z=>by have:=aR.mp z;omega) y
      refine wpAny_bind (wpAny_bind (wpAny_holding ?_));show wpAny _ _ (Builtin.SmallTypes.nextOf (.ref (N+1)) >>= _) _ _ _
      cases zJ:v1[i]? with
      | none=>
        refine wpAny_bind (A1 hn d1 zL zJ fun u1 e r1 he=>?_)
        have r1:Heap.ExtBut (N+1) g1 u1:=r1
        obtain⟨oe,zK,hce⟩:=he
        exact wpAny_bind (wpAny_isInstance (T:="StopIteration") (b:=true) ⟨oe,zK,hce⟩ isSubtype_stop (wpAny_pure (q _ fun b o hb y=>r1 _ _ (fun z=>hb (aR.mpr (by have z:@Eq Nat b _:=z;omega))) (m1 b o hb y))))
      | some x1=>exact absurd hend (by simp only[xg,zJ];rintro(h | h) <;> cases h)
  simp only[if_true];refine wpAny_bind (wpAny_rule ?_);refine wpAny_bind (wpAny_field hz' rfl (x:=.ref (N+3)) rfl ?_)
  refine wpAny_bind (wpAny_setField_rec hz' (by simp) fun g0 z0 e0=>?_)
  have e0:Heap.SameBut (N+4) v7 g0:=e0
  have e0:Heap.SameBut (N+4) s.heap g0:=⟨e0.1.trans yD.1,fun b hb=>(e0.2 b hb).trans (yD.2 b hb)⟩
  have z0:jJ g0 (N+4) (N+2) (N+3) .ellipsis fl:=z0
  have e0:Heap.SameBut (N+4) s.heap g0:=e0
  refine wpAny_bind ?_;simp only[List.zipIdx_cons,List.zipIdx_nil,List.forIn_cons,List.forIn_nil]
  have t0:TupAt g0 (N+3) #[a0,a1]:=(e0.2 _ (by first | omega | (show @Ne Nat _ _;omega))).trans hTO
  have m0:∀(b:Nat) o,b∉iI N->s.heap.get? b=some o->g0.get? b=some o:=fun b o hb y=>(e0.2 b fun z=>hb (aR.mpr (by have z:@Eq Nat b _:=z;omega))).trans y
  have Ll:lR k0 g0 N l0 i:=d0.at fun o y=>(e0.2 _ (by first | omega | (show @Ne Nat _ _;omega))).trans y
  have Cy:lR k1 g0 (N+1) l1 i:=d1.at fun o y=>(e0.2 _ (by first | omega | (show @Ne Nat _ _;omega))).trans y
  refine wpAny_bind (wpAny_bind (wpAny_onRaise ?_));show wpAny _ _ (Builtin.SmallTypes.nextOf (.ref N) >>= _) _ _ _
  have xD:nP k0 g0 l0 v0:=DL.at fun o y=>m0 _ o (fun z=>by have:=aR.mp z;omega) y
  cases xg:v0[i]? with
  | none=>
    refine wpAny_bind (A1 hn Ll xD xg fun u1 e r1 he=>?_)
    have r1:Heap.ExtBut N g0 u1:=r1
    obtain⟨oe,zK,hce⟩:=he
    have y1:jJ u1 (N+4) (N+2) (N+3) .ellipsis fl:=r1 _ _ (by first | omega | (show @Ne Nat _ _;omega)) z0
    have OW:e≠(N+4):=fun x=>by subst x;rw[y1] at zK;cases zK;simp at hce
    refine wpAny_setField_rec y1 (by simp) fun u2 _ r2=>?_
    have r2:Heap.SameBut (N+4) u1 u2:=r2
    refine wpAny_bind (wpAny_isInstance (T:="StopIteration") (b:=true) ⟨oe,r2.extBut _ _ OW zK,hce⟩ isSubtype_stop (wpAny_pure (q _ fun b o hb y=>r2.extBut _ _ (fun z=>hb (aR.mpr (by have z:@Eq Nat b _:=z;omega))) (r1 _ _ (fun z=>hb (aR.mpr (by have z:@Eq Nat b _:=z;omega))) (m0 b o hb y)))))
  | some x0=>
    refine wpAny_bind (nextK Ll xD xg fun g1 c0 e1=>wpAny_pure ?_)
    have e1:Heap.SameBut N g0 g1:=e1
    have t1:TupAt g1 (N+3) #[a0,a1]:=(e1.2 _ (by first | omega | (show @Ne Nat _ _;omega))).trans t0
    refine wpAny_bind (wpAny_seqItems t1 rfl ?_);refine wpAny_bind (ET t1 (show 2<=sizeLine by decide) fun g2 t2 e2=>?_)
    have t2:TupAt g2 (N+3) #[x0,a1]:=t2
    have e2:Heap.SameBut (N+3) g1 g2:=e2
    have z1:jJ g2 (N+4) (N+2) (N+3) .ellipsis fl:=(e2.2 _ (by first | omega | (show @Ne Nat _ _;omega))).trans ((e1.2 _ (by first | omega | (show @Ne Nat _ _;omega))).trans z0)
    have m2:∀(b:Nat) o,b∉iI N->s.heap.get? b=some o->g2.get? b=some o:=fun b o hb y=>(e2.2 b fun z=>hb (aR.mpr (by have z:@Eq Nat b _:=z;omega))).trans ((e1.2 b fun z=>hb (aR.mpr (by have z:@Eq Nat b _:=z;omega))).trans (m0 b o hb y))
    refine wpAny_bind (wpAny_letGo (wpAny_pure ?_))
    have Cy:lR k1 g2 (N+1) l1 i:=Cy.at fun o y=>(e2.2 _ (by first | omega | (show @Ne Nat _ _;omega))).trans ((e1.2 _ (by first | omega | (show @Ne Nat _ _;omega))).trans y)
    refine wpAny_bind (wpAny_bind (wpAny_onRaise ?_));show wpAny _ _ (Builtin.SmallTypes.nextOf (.ref (N+1)) >>= _) _ _ _
    have zL:nP k1 g2 l1 v1:=B4.at fun o y=>m2 _ o (fun z=>by have:=aR.mp z;omega) y
    cases zJ:v1[i]? with
    | none=>
      refine wpAny_bind (A1 hn Cy zL zJ fun u1 e r1 he=>?_)
      have r1:Heap.ExtBut (N+1) g2 u1:=r1
      obtain⟨oe,zK,hce⟩:=he
      have y1:jJ u1 (N+4) (N+2) (N+3) .ellipsis fl:=r1 _ _ (by first | omega | (show @Ne Nat _ _;omega)) z1
      have OW:e≠(N+4):=fun x=>by subst x;rw[y1] at zK;cases zK;simp at hce
      refine wpAny_setField_rec y1 (by simp) fun u2 _ r2=>?_
      have r2:Heap.SameBut (N+4) u1 u2:=r2
      refine wpAny_bind (wpAny_isInstance (T:="StopIteration") (b:=true) ⟨oe,r2.extBut _ _ OW zK,hce⟩ isSubtype_stop (wpAny_pure (q _ fun b o hb y=>r2.extBut _ _ (fun z=>hb (aR.mpr (by have z:@Eq Nat b _:=z;omega))) (r1 _ _ (fun z=>hb (aR.mpr (by have z:@Eq Nat b _:=z;omega))) (m2 b o hb y)))))
    | some x1=>
        exact absurd hend (by simp only[xg,zJ];rintro(h | h) <;> cases h)
end
theorem Cz:typeLookup (.type "zip") "__len__" =pure none:=by rw[typeLookup_type,builtinLookup_eq_fast];kernel_rfl
theorem A7:typeLookup (.type "zip") "__length_hint__" =pure none:=by rw[typeLookup_type,builtinLookup_eq_fast];kernel_rfl
theorem qM.keep {N:Nat}{k0 k1:Bool}{l0 l1 i:Nat}{h h':Heap}(x:qM N k0 k1 l0 l1 i h) (g:∀b∈iI N,∀o,h.get? b=some o->h'.get? b=some o):qM N k0 k1 l0 l1 i h':=by
 obtain⟨⟨f0,f1,hf,hz⟩,hTI,⟨w0,hw0,hTO⟩,d0,d1⟩:=x
 exact⟨⟨f0,f1,hf,g _ (by rw[aR];omega) _ hz⟩,g _ (by rw[aR];omega) _ hTI,⟨w0,hw0,g _ (by rw[aR];omega) _ hTO⟩,d0.at fun o q=>g _ (by rw[aR];omega) o q,d1.at fun o q=>g _ (by rw[aR];omega) o q⟩
theorem qM.typeIs {N:Nat}{k0 k1:Bool}{l0 l1 i:Nat}{s:Shared}(x:qM N k0 k1 l0 l1 i s.heap):s.TypeIs (.ref (N+4)) "zip":=by
 obtain⟨⟨f0,f1,hf,hz⟩,_⟩:=x
 exact⟨_,hz,rfl⟩
theorem qM.lt {N:Nat}{k0 k1:Bool}{l0 l1 i:Nat}{h:Heap}(x:qM N k0 k1 l0 l1 i h):@LT.lt Nat _ (N+4) h.objs.size:=by
 obtain⟨⟨f0,f1,hf,hz⟩,_⟩:=x
 exact Heap.lt_size hz
noncomputable def ZW (K:PySem.W.Frag) (k0 k1:Bool) (l0 l1:Addr) (sG sH:List V) (S:Addr) (W:Nat->List V->Hp->Prop):Prop:=∀i ys H,W i ys H->yr K H k0 l0 sG/\yr K H k1 l1 sH/\H S=some (.lst ys)/\ys.length=i/\
 ∀x0 x1 p,sG[i]? =some x0->sH[i]? =some x1->H p=none->W (i+1) (ys++[.ref p]) (upd (upd H p (.tup [x0,x1])) S (.lst (ys++[.ref p])))
theorem Vals.snoc {xs:List V}{us:List Value}{x:V}{u:Value}(r:Vals xs us) (q:RelV x u):Vals (xs++[x]) (us++[u]):=r.append (.cons q .nil)
section
variable {X:Cx}{pins:List (Addr×Obj)}{σ:St}{A:Around}{R:Result->Shared->Prop}{N:Nat}{k0 k1:Bool}{l0 l1:Nat}{sG sH:List V}{S:Addr}{W:Nat->List V->Hp->Prop}{res:Value}
theorem LF (hh : A.handled = none) (Cv : l0 < N) (Cw : l1 < N) (zw : ZW X.K k0 k1 l0 l1 sG sH S W)
    (hR:∀ys H s',Inv X pins σ H s'->W (min sG.length sH.length) ys H->R (.ok (.ret res)) s'):
    ∀(k i:Nat) (s:Shared) (H:Hp) (ys:List V),min sG.length sH.length - i=k->i<=min sG.length sH.length->Inv X pins σ H s->(∀b∈iI N,lP X pins H b)->qM N k0 k1 l0 l1 i s.heap->W i ys H->
    codeAny (model X.prog X.w) A (.builtin "list.extend.loop" ⟨[.ref S,.ref (N+4),res],[]⟩) R s:=by
  intro k
  induction k with
  | zero=>
    intro i s H ys hk hi I hf st hw
    have hin:i=min sG.length sH.length:=by omega
    subst hin
    obtain⟨h0,h1,hS,hl,_⟩:=zw _ _ _ hw
    obtain⟨HY,Lo,p0,hz0⟩:=I.Cu h0
    obtain⟨HZ,Lp,p1,hz1⟩:=I.Cu h1
    have e0:=Lo.length
    have e1:=Lp.length
    refine codeAny_builtin F.entry_extend_loop ?_
    rw[Around.under_plainId F.plain_extend_loop _]
    show wpAny _ A.in1 (pyNext (.ref (N+4)) >>= _) _ _ s
    refine wpAny_bind (LD hh st p0 Cv p1 Cw ?_ fun h' hk'=>wpAny_pure (hR ys H _ (I.vf (t':=s.toks) hk' hf) hw))
    simp only[List.getElem?_toArray,List.getElem?_eq_none_iff]
    omega
  | succ k ih=>
    intro i s H ys hk hi I hf st hw
    have hlt:i < min sG.length sH.length:=by omega
    obtain⟨h0,h1,hS,hl,hstep⟩:=zw _ _ _ hw
    obtain⟨HY,Lo,p0,hz0⟩:=I.Cu h0
    obtain⟨HZ,Lp,p1,hz1⟩:=I.Cu h1
    obtain⟨x0,xg⟩:∃x,sG[i]? =some x:=⟨sG[i]'(by omega),List.getElem?_eq_getElem _⟩
    obtain⟨x1,zJ⟩:∃x,sH[i]? =some x:=⟨sH[i]'(by omega),List.getElem?_eq_getElem _⟩
    obtain⟨u0,Xx,Xy⟩:=Lo.get xg
    obtain⟨u1,hu1,Xz⟩:=Lp.get zJ
    have slt:∀b∈iI N,b < s.heap.objs.size:=fun b hb=>by have h1:=aR.mp hb;have h2:=st.lt;show @LT.lt Nat _ b s.heap.objs.size;omega
    refine codeAny_builtin F.entry_extend_loop ?_
    rw[Around.under_plainId F.plain_extend_loop _]
    show wpAny _ A.in1 (pyNext (.ref (N+4)) >>= _) _ _ s
    refine wpAny_bind (Ii st p0 (by simpa using Xx) Cv p1 (by simpa using hu1) Cw fun h' st' hT hk'=>?_)
    have I2:Inv X pins σ (upd H s.heap.objs.size (.tup [x0,x1])) {s with heap:=h',toks:=s.toks}:=
      I.handed (its:=[u0,u1]) hf slt hk' hT (.cons Xy (.cons Xz .nil)) (show 2<=sizeLine by decide)
    have hS2:upd H s.heap.objs.size (.tup [x0,x1]) S=some (.lst ys):=by rw[aY (bK hS I.fresh)];exact hS
    obtain⟨hzS,its,n,rvS,hoS⟩:=(show fB X.prog X.w _ _ S (.lst ys) from I2.hok S _ hS2)
    show wpAny _ A.in1 (updateSeq S (·.push (.ref s.heap.objs.size)) >>= _) _ _ _
    have hS':h'.get? S=some {cls:=.type "list",data:=.seq its.toArray n}:=hoS
    have eit:=rvS.length
    have hyl:its.length<=sizeLine:=by rw[<-eit];exact hzS
    refine wpAny_bind (wpAny_updateSeq hS' rfl (wpAny_pure ⟨plainId_quiet F.plain_extend_loop _,?_⟩) (by simpa using hyl) (by show(its.toArray.push _).size<=sizeLine+1;rw[Array.size_push,List.size_toArray];omega))
    have hS3:=Heap.get?_update_self (Obj.mapSeq fun x=>x.push (.ref s.heap.objs.size)) hS' rfl
    have Kp:∀b o,b≠S->h'.get? b=some o->(h'.update S (Obj.mapSeq fun x=>x.push (.ref s.heap.objs.size))).get? b=some o:=fun b o hb e=>(Heap.get?_update_other _ _ (Ne.symm hb)).trans e
    have hSz:S∉iI N:=fun z=>by have:=(hf S z).1;rw[hS] at this;cases this
    have hl2:ys.length+1<=sizeLine:=by rw[hl];omega
    have I3:=I2.write (o:=.lst (ys++[.ref s.heap.objs.size])) (t':=s.toks) (h':=h'.update S (Obj.mapSeq fun x=>x.push (.ref s.heap.objs.size))) (x:=S) (e:=S) (by rw[hS2];exact True.intro) (.inl rfl) Kp ⟨_,hS3⟩
      (show fB X.prog X.w _ _ S (.lst _) from⟨by rw[List.length_append];exact hl2,its++[.ref s.heap.objs.size],_,rvS.snoc (show RelV (.ref s.heap.objs.size) (.ref s.heap.objs.size) from rfl),by
        have e:(its++[Value.ref s.heap.objs.size]).toArray=its.toArray.push (.ref s.heap.objs.size):=by simp
        rw[e];exact hS3⟩)
    refine ih (i+1) _ _ _ (by omega) hlt I3 (fun b hb=>?_) (st'.keep fun b hb o q=>Kp b o (fun z=>hSz (z▸hb)) q) (hstep x0 x1 _ xg zJ I.fresh)
    obtain⟨f0,f1,f2,f3,f4,f5⟩:=hf b hb
    have XG:b≠S:=fun z=>hSz (z▸hb)
    exact⟨by rw[aY XG,aY (Nat.ne_of_lt (slt b hb))];exact f0,f1,f2,f3,f4,f5⟩
theorem Ij {s:Shared}{H:Hp}{ys:List V}(I:Inv X pins σ H s) (hS:H S=some (.lst ys)):ys.length<=sizeLine/\∃(its:List Value) (n:Nat),Vals ys its/\s.heap.get? S=some {cls:=.type "list",data:=.seq its.toArray n}:=
 (show fB X.prog X.w _ _ S (.lst ys) from I.hok S _ hS)
theorem Ni {s:Shared}{H:Hp}{h':Heap}{n:Nat}(I:Inv X pins σ H s) (hS:H S=some (.lst [])) (Kp:∀b o,b≠S->s.heap.get? b=some o->h'.get? b=some o) (hn:h'.get? S=some {cls:=.type "list",data:=.seq #[] n}):Inv X pins σ H {s with heap:=h'}:=by
 have e:upd H S (.lst [])=H:=by
  funext b
  by_cases hb:b=S
  ·subst hb;rw[bx,hS]
  ·rw[aY hb]
 have I2:=I.write (o:=.lst []) (t':=s.toks) (h':=h') (x:=S) (e:=S) (by rw[hS];exact True.intro) (.inl rfl) Kp ⟨_,hn⟩ (show fB X.prog X.w _ _ S (.lst []) from⟨Nat.zero_le _,[],n,.nil,hn⟩)
 rw[e] at I2
 exact I2
theorem E1 {s:Shared}{H:Hp}(hh:A.handled=none) (Cv:l0 < N) (Cw:l1 < N) (Nj:S∉iI N) (zw:ZW X.K k0 k1 l0 l1 sG sH S W)
  (hR:∀ys H s',Inv X pins σ H s'->W (min sG.length sH.length) ys H->R (.ok (.ret res)) s') (I:Inv X pins σ H s) (hf:∀b∈iI N,lP X pins H b) (st:qM N k0 k1 l0 l1 0 s.heap) (hw:W 0 [] H):
  wpAny (model X.prog X.w) A.in1 (Builtin.List.listExtendWith (.ref S) (.ref (N+4)) res)
   (fun fin s'=>match fin with | .done f=>R (.ok f) s' | .again c'=>c'.quiet=true/\codeAny (model X.prog X.w) A c' R s') (fun e s'=>R (.error e) s') s:=by
 obtain⟨_,_,Lg,_,_⟩:=zw _ _ _ hw
 obtain⟨_,its,n,rv,hS⟩:=Ij I Lg
 cases rv
 have hSI:S≠(N+4):=fun e=>Nj (e▸aR.mpr (by omega))
 unfold Builtin.List.listExtendWith
 refine wpAny_bind (wpAny_typeOf st.typeIs ?_)
 have h1:Builtin.List.listSameRef (.ref S) (.ref (N+4))=false:=by simp[Builtin.List.listSameRef,hSI]
 have h2:(Value.type "zip" == Value.type "list")=false:=by decide
 have h3:(Value.type "zip" == Value.type "tuple")=false:=by decide
 simp only[h1,h2,h3,Bool.or_false,Bool.false_eq_true,if_false]
 obtain⟨⟨f0,f1,hf0,hz⟩,_⟩:=id st
 refine wpAny_bind (wpAny_pyIter_slot st.typeIs F.slot_zip_iter (wpAny_call_entry F.slot_zip_iter st.typeIs F.entry_zip_iter (show wpAny _ _ (ret (.ref (N+4))) _ _ s from wpAny_pure ⟨_,rfl,"zip",_,st.typeIs,F.slot_zip_next.lookup,?_⟩) (F.args_zip_iter_1 _)))
 refine wpAny_bind (wpAny_holding ?_)
 unfold Builtin.List.listLengthHint
 refine wpAny_bind (wpAny_specialOf st.typeIs Cz ?_)
 show wpAny _ A.in1 (specialOf (Value.ref (N+4)) (Str.ofString "__length_hint__") >>= _) _ _ _
 refine wpAny_bind (wpAny_specialOf st.typeIs A7 ?_)
 refine wpAny_pure ?_
 show wpAny _ A.in1 (rule "list.extend.makes-room" >>= fun _=>Builtin.List.listTouch (.ref S) >>= fun _=>
  again (.builtin "list.extend.loop" ⟨[.ref S,.ref (N+4),res],[]⟩)) _ _ _
 refine wpAny_bind (wpAny_rule ?_)
 refine wpAny_bind ?_
 show wpAny _ A.in1 (updateSeq S (·.push .none) >>= fun _=>updateSeq S (·.pop)) _ _ _
 refine wpAny_bind (wpAny_updateSeq hS rfl ?_)
 have DQ:=Heap.get?_update_self (Obj.mapSeq (·.push Value.none)) hS rfl
 refine wpAny_updateSeq (hz:=by seq_fits) DQ rfl ?_
 have Th:=Heap.get?_update_self (Obj.mapSeq (·.pop)) DQ rfl
 have Kp:∀b o,b≠S->s.heap.get? b=some o->((s.heap.update S (Obj.mapSeq (·.push Value.none))).update S (Obj.mapSeq (·.pop))).get? b=some o:=
  fun b o hb e=>(Heap.get?_update_other _ _ (Ne.symm hb)).trans ((Heap.get?_update_other _ _ (Ne.symm hb)).trans e)
 have I9:=Ni I Lg Kp Th
 exact wpAny_pure ⟨plainId_quiet F.plain_extend_loop _,LF hh Cv Cw zw hR _ 0 _ H [] rfl (Nat.zero_le _) I9 hf (st.keep fun b hb o e=>Kp b o (fun z=>Nj (z▸hb)) e) hw⟩
theorem LG {s:Shared}{H:Hp}(hh:A.handled=none) (Cv:l0 < N) (Cw:l1 < N) (Nj:S∉iI N) (zw:ZW X.K k0 k1 l0 l1 sG sH S W)
  (hR:∀ys H s',Inv X pins σ H s'->W (min sG.length sH.length) ys H->R (.ok (.ret .none)) s') (I:Inv X pins σ H s) (hf:∀b∈iI N,lP X pins H b) (st:qM N k0 k1 l0 l1 0 s.heap) (hw:W 0 [] H):
  wpAny (model X.prog X.w) A.in1 (Builtin.«list.__init__» ⟨[.ref S,.ref (N+4)],[]⟩)
   (fun fin s'=>match fin with | .done f=>R (.ok f) s' | .again c'=>c'.quiet=true/\codeAny (model X.prog X.w) A c' R s') (fun e s'=>R (.error e) s') s:=by
 obtain⟨_,_,Lg,_,_⟩:=zw _ _ _ hw
 obtain⟨_,its,n,rv,hS⟩:=Ij I Lg
 cases rv
 show wpAny _ A.in1 (do let old <-Builtin.List.listItems (.ref S);Builtin.List.listUpdate (.ref S) (fun _=>#[]);letGo old.toList.reverse;Builtin.List.listExtendWith (.ref S) (.ref (N+4)) .none) _ _ s
 refine wpAny_bind ?_
 unfold Builtin.List.listItems
 refine wpAny_bind (wpAny_seqItems hS rfl (wpAny_pure ?_))
 show wpAny _ A.in1 (updateSeq S (fun _=>#[]) >>= fun _=>letGo (#[]:Array Value).toList.reverse >>= fun _=>Builtin.List.listExtendWith (.ref S) (.ref (N+4)) .none) _ _ s
 refine wpAny_bind (wpAny_updateSeq hS rfl ?_)
 have DQ:=Heap.get?_update_self (Obj.mapSeq (fun _=>(#[]:Array Value))) hS rfl
 have Kp:∀b o,b≠S->s.heap.get? b=some o->(s.heap.update S (Obj.mapSeq (fun _=>(#[]:Array Value)))).get? b=some o:=
  fun b o hb e=>(Heap.get?_update_other _ _ (Ne.symm hb)).trans e
 refine wpAny_bind (wpAny_letGo ?_)
 exact E1 hh Cv Cw Nj zw hR (Ni I Lg Kp DQ) hf (st.keep fun b hb o e=>Kp b o (fun z=>Nj (z▸hb)) e) hw
end
section
variable {X:Cx}{pins:List (Addr×Obj)}{σ:St}{A:Around}{E:Value->Shared->Prop}{N:Nat}{k0 k1:Bool}{l0 l1:Nat}{sG sH:List V}
theorem A8 {s:Shared}{H:Hp}{Q:Value->Shared->Prop}(hh:A.handled=none) (Cv:l0 < N) (Cw:l1 < N) (I:Inv X pins σ H s) (hf:∀b∈iI N,lP X pins H b) (st:qM N k0 k1 l0 l1 0 s.heap)
  (h:∀S,H S=none->∃W,ZW X.K k0 k1 l0 l1 sG sH S W/\W 0 [] (upd H S (.lst []))/\∀ys H' s',Inv X pins σ H' s'->W (min sG.length sH.length) ys H'->Q (.ref S) s'):wpAny (model X.prog X.w) A (call (.type "list") [.ref (N+4)]) Q E s:=by
 refine callType_codes (Q₁:=fun obj s₁=>obj= .ref s.heap.objs.size/\s₁={s with heap:=s.heap.push {cls:=.type "list",data:=.seq #[]}}) F.called_list (F.typeCall_list_1 _) F.entry_list_init
  (code_list_new _ ⟨rfl,rfl⟩) fun obj s₁ h₁=>?_
 obtain⟨rfl,rfl⟩:=h₁
 have hS:(s.heap.push {cls:=.type "list",data:=.seq #[]}).get? s.heap.objs.size=some {cls:=.type "list",data:=.seq #[]}:=Heap.get?_push_size _ rfl
 have hn:H s.heap.objs.size=none:=I.hok.fresh (Nat.le_refl _)
 obtain⟨W,zw,w0,q⟩:=h _ hn
 have I1:=I.laid (a:=s.heap.objs.size) (o:=.lst []) (t':=s.toks) (h':=s.heap.push {cls:=.type "list",data:=.seq #[]}) (fun _ _ z=>Heap.get?_push_of_some _ z) (Nat.le_refl _) (show fB X.prog X.w _ _ _ (.lst []) from⟨Nat.zero_le _,[],0,.nil,hS⟩)
 have Nj:s.heap.objs.size∉iI N:=fun z=>by have h1:=aR.mp z;have h2:=st.lt;omega
 refine⟨⟨_,hS,rfl⟩,F.args_list_init_2 _ _,LG (A:=A.in1) hh Cv Cw Nj zw (fun ys H' s' I' w'=>⟨rfl,q ys H' s' I' w'⟩) I1 (fun b hb=>?_) (st.keep fun b hb o e=>Heap.get?_push_of_some _ e) w0⟩
 obtain⟨f0,f1,f2,f3,f4,f5⟩:=hf b hb
 have XG:b≠s.heap.objs.size:=fun z=>Nj (z▸hb)
 exact⟨by rw[aY XG];exact f0,f1,f2,f3,f4,f5⟩
end
noncomputable def zO (a b:List D):List D:=List.zipWith (fun a b=>.tup [a,b]) a b
noncomputable def yE:List D->Option U
 | [d,e]=>(oK d).bind fun q=>(oK e).map fun r=>.m (.lst (zO q.2 r.2))
 | _=>none
theorem Ik {ds:List D}{u:U}(h:yE ds=some u):∃d e k0 DC k1 Gm,ds=[d,e]/\oK d=some (k0,DC)/\oK e=some (k1,Gm)/\u= .m (.lst (zO DC Gm)):=by
 unfold yE at h
 split at h
 ·obtain⟨⟨k0,DC⟩,h1,h⟩:=aq h
  obtain⟨⟨k1,Gm⟩,h2,rfl⟩:=aH h
  exact⟨_,_,k0,DC,k1,Gm,rfl,h1,h2,rfl⟩
 ·cases h
theorem take_snoc {α:Type}{l:List α}{i:Nat}{x:α}(h:l[i]? =some x):l.take (i+1)=l.take i++[x]:=by
 rw[List.take_succ,h];rfl
section
variable {X:Cx}{a b:Expr}{p p2 pos pos2:Pos}{t:TA}{ga gb:GD}{gA:GA}
theorem XH {K:PySem.W.Frag}{F0 H1:Hp}{S:Addr}{k0 k1:Bool}{a0 a1:Addr}{sG sH:List V}{DC Gm:List D}(hS:H1 S=none) (r0:bN F0 sG DC) (r1:bN F0 sH Gm)
  (s0:∀F' H',(∀b o,F0 b=some o->F' b=some o)->Sub F' H'->yr K H' k0 a0 sG) (s1:∀F' H',(∀b o,F0 b=some o->F' b=some o)->Sub F' H'->yr K H' k1 a1 sH):
  ZW K k0 k1 a0 a1 sG sH S fun i ys H=>∃F,iU F0 H1 F H/\Sub F H/\F S=none/\H S=some (.lst ys)/\ys.length=i/\bN F ys ((zO DC Gm).take i):=by
 rintro i ys H ⟨F,n,sb,fS,Vj,hl,rs⟩
 refine⟨s0 F H n.le sb,s1 F H n.le sb,Vj,hl,fun x0 x1 q h0 h1 hq=>?_⟩
 have hqS:q≠S:=fun z=>by rw[z,Vj] at hq;cases hq
 have fq:F q=none:=sb.fresh hq
 have le:∀b o,F b=some o->upd F q (.tup [x0,x1]) b=some o:=mD fq
 obtain⟨d0,e0,k0'⟩:∃d,DC[i]? =some d/\Rep F0 x0 d:=by
  have Vf:=r0.length
  have:i < DC.length:=by rw[<-Vf];exact(List.getElem?_eq_some_iff.mp h0).1
  obtain⟨v,e1,e2⟩:=r0.get (i:=i) (d:=DC[i]) (List.getElem?_eq_getElem this)
  rw[h0] at e1;cases e1
  exact⟨_,List.getElem?_eq_getElem this,e2⟩
 obtain⟨d1,e1,k1'⟩:∃d,Gm[i]? =some d/\Rep F0 x1 d:=by
  have Vf:=r1.length
  have:i < Gm.length:=by rw[<-Vf];exact(List.getElem?_eq_some_iff.mp h1).1
  obtain⟨v,e1,e2⟩:=r1.get (i:=i) (d:=Gm[i]) (List.getElem?_eq_getElem this)
  rw[h1] at e1;cases e1
  exact⟨_,List.getElem?_eq_getElem this,e2⟩
 have ez:(zO DC Gm)[i]? =some (.tup [d0,d1]):=by
  unfold zO
  rw[List.getElem?_zipWith,e0,e1]
 refine⟨upd F q (.tup [x0,x1]),⟨fun c o z=>le c o (n.le c o z),fun c o z=>?_,fun c o z f=>?_⟩,fun c o z=>?_,?_,bx,by simp[hl],?_⟩
 ·have h1:c≠S:=bK z hS
  have h2:c≠q:=bK (n.same c o z) hq
  rw[aY h1,aY h2]
  exact n.same c o z
 ·have h2:c≠q:=bK (n.same c o z) hq
  rw[aY h2]
  exact n.kq c o z f
 ·by_cases h2:c=q
  ·subst h2
   rw[bx] at z
   rw[aY hqS,bx]
   exact z
  ·rw[aY h2] at z
   have h1:c≠S:=fun w=>by rw[w,fS] at z;cases z
   rw[aY h1,aY h2]
   exact sb c o z
 ·rw[aY (Ne.symm hqS)];exact fS
 ·rw[take_snoc ez]
  exact(rs.le le).append (.cons (.tup bx (.cons (k0'.le fun c o z=>le c o (n.le c o z)) (.cons (k1'.le fun c o z=>le c o (n.le c o z)) .nil))) .nil)
theorem CA (hc : X.calm = true) (hg : Gl X "list") (hm : X.mg "list" = none) (OP : Gl X "zip") (hm2 : X.mg "zip" = none) (ha : PA X [a, b] t) (hs : starEach [a, b] X.env = [(false, eval a X.env), (false, eval b X.env)] := by rfl) (hs2 : starEach [b] X.env = [(false, eval b X.env)] := by rfl)
    (Lh:starEach [.Call (.Name "zip" p2) [a,b] [] pos2] X.env=[(false,eval (.Call (.Name "zip" p2) [a,b] [] pos2) X.env)]:=by rfl):
    PE X (.Call (.Name "list" p) [.Call (.Name "zip" p2) [a,b] [] pos2] [] pos) (fun σ H Q=>t σ H fun vs H1=>rP yE vs H1 Q):=by
  intro pins s σ H Q I h
  refine wpAny_Call_Name_kw (j7 I hg hm PyProof.Rows.Boot.list ?_)
  refine PyProof.Rows.callWith_type1 ?_ (by rw[Lh];rfl) rfl
  rw[Lh]
  refine Calls.spliced_cons (Call_ (j7 I OP hm2 boot_zip (PyProof.Rows.callWith_type1 (gf (ha pos2 pins s σ H _ I h) fun us s1 ⟨vs,H1,I1,r1,q1⟩=>?_) (by rw[hs,hs2]) (by rw[hs2];rfl))))
  obtain⟨F0,ds,w,sb,rs,hw,q⟩:=q1
  obtain⟨d,e,k0,DC,k1,Gm,rfl,e0,e1,rfl⟩:=Ik hw
  cases rs with
  | cons ra rs=>
    cases rs with
    | cons rb rs=>
      cases rs
      obtain⟨a0,sG,rfl,y0,z0⟩:=sb.A3 (K:=X.K) ra e0
      obtain⟨a1,sH,rfl,y1,z1⟩:=sb.A3 (K:=X.K) rb e1
      obtain⟨u0,u1,rfl,v0,v1⟩:=r1.two
      cases v0
      cases v1
      obtain⟨HY,Lo,p0,hz0⟩:=I1.Cu (z0 F0 H1 (fun _ _ z=>z) sb)
      obtain⟨HZ,Lp,p1,hz1⟩:=I1.Cu (z1 F0 H1 (fun _ _ z=>z) sb)
      refine A2 p0 p1 fun h' st hk=>Calls.spliced_nil ?_
      have I2:=I1.kept (t':=s1.toks) hk
      refine A8 (X:=X) (sG:=sG) (sH:=sH) (I1.ok.hd hc) p0.lt p1.lt I2 (fun b hb=>?_) st.l fun S hS=>⟨_,XH hS y0 y1 z0 z1,⟨F0,iU.obj hS _,sb.same (iU.obj (F:=F0) hS _).same,sb.fresh hS,bx,rfl,.nil⟩,fun ys H' s' I' w'=>?_⟩
      . have hb:s1.heap.objs.size<=b:=(aR.mp hb).1
        exact I1.xr hb (I1.hok.fresh hb)
      . obtain⟨F,n,sb',fS,Vj,hl,rs⟩:=w'
        refine⟨.ref S,H',I',rfl,q _ F H' n sb' ⟨S,rfl,hS,fS,ys,Vj,?_⟩⟩
        rw[List.take_of_length_le (by unfold zO;rw[List.length_zipWith,<-y0.length,<-y1.length];exact Nat.le_refl _)] at rs
        exact rs
theorem CB (hc:X.calm=true) (hg:Gl X "list") (hm:X.mg "list" =none) (OP:Gl X "zip") (hm2:X.mg "zip" =none) (ha:JA X [a,b] gA) (hs:starEach [a,b] X.env=[(false,eval a X.env),(false,eval b X.env)]:=by rfl) (hs2:starEach [b] X.env=[(false,eval b X.env)]:=by rfl)
  (Lh:starEach [.Call (.Name "zip" p2) [a,b] [] pos2] X.env=[(false,eval (.Call (.Name "zip" p2) [a,b] [] pos2) X.env)]:=by rfl):
  JE X (.Call (.Name "list" p) [.Call (.Name "zip" p2) [a,b] [] pos2] [] pos) (eP yE gA):=
 ⟨fun B=>(CA hc hg hm OP hm2 (ha.h B) hs hs2 Lh).imp fun σ H Q h=>jG (fun _ _ _ z=>z) h⟩
end
theorem CC {K : PySem.W.Frag} {B : Base} {cap : List Nat} {gi : GI} {q : GT} {g : GD} {σ : St} {H : Hp} {Q : VK} (h : tE K B (kY cap gi q g) σ H Q) : LC K (Te K B gi) cap (fun σ H Q => ∃ B, tQ K B q σ H Q) (fun σ H Q => ∃ B, tD K B g σ H Q) σ H Q := by
  obtain⟨x,_⟩:∃x:Str,True:=⟨"",trivial⟩
  obtain⟨S,F,u,S',R,hg,k⟩:=h
  obtain⟨⟨ds,S1⟩,h1,hg⟩:=aq hg
  dsimp only at hg
  split at hg
  . rename_i hlen
    obtain⟨⟨res,Sf⟩,h2,hg⟩:=aH hg
    cases hg
    refine⟨S,F,ds,S1,R,h1,fun J F1 H1 R1 st1 w=>?_⟩
    refine⟨fun i m ys H'=>∃S2 F2 acc,Rel K B S2 σ F2 H'/\Step S S2 σ F H F2 H'/\(∀b o,F1 b=some o->F2 b=some o)/\bN F2 ys acc/\acc.length<=i/\i<=ds.length/\m=ds.length - i/\iy cap q g (ds.drop i) S2 acc=some (res,Sf),
      ⟨_,S1,F1,[],R1,st1,fun _ _ z=>z,.nil,Nat.le_refl _,Nat.zero_le _,rfl,h2⟩,?_⟩
    rintro i m ys H' ⟨S2,F2,acc,R2,st2,le,ry,ha,hl,rfl,dQ⟩
    refine⟨by rw[ry.length];exact Nat.lt_of_le_of_lt (Nat.le_trans ha (Nat.le_trans hl hlen)) (by decide),?_⟩
    have w':=w F2 H' le R2.sub i
    by_cases hlt:i < ds.length
    . have hd:ds[i]? =some ds[i]:=List.getElem?_eq_getElem hlt
      obtain⟨go,yl⟩:=w'.1 _ hd
      rw[List.drop_eq_getElem_cons hlt] at dQ
      refine .inr ⟨go,fun xv H3 y=>?_⟩
      obtain⟨FN,n3,sb3,rx⟩:=yl xv H3 y
      obtain⟨da,db,XA⟩:∃da db,ds[i]= .tup [da,db]:=by
        generalize ds[i]=dd at dQ
        unfold iy at dQ
        split at dQ
        . rename_i z;cases z
        . rename_i z;injection z with z1 z2;exact⟨_,_,z1⟩
        . cases dQ
      have R2:Rel K B S2 σ FN H3:=R2.new n3 sb3
      have st2:Step S S2 σ F H FN H3:=st2.trans n3.step
      have le:∀b o,F1 b=some o->FN b=some o:=fun b o z=>n3.le b o (le b o z)
      have ry:=ry.le n3.le
      rw[XA] at dQ rx
      obtain⟨pa,xs2,XC,fpa,hpa,Km⟩:=R2.sub.lW rx
      obtain⟨x1,x2,exs,XD,XE⟩:=A5 Km
      subst exs XC
      obtain⟨us,e1,dQ⟩:=aq (show(g8 S2 cap).bind _=_ from dQ)
      split at dQ
      . rename_i hnd
        obtain⟨ws,e2,dQ⟩:=aq dQ
        obtain⟨⟨bk,T1⟩,e3,dQ⟩:=aq dQ
        obtain⟨vs,k1,k2⟩:=zC R2 e1
        have rr:Paired (fun v u=>kr K B S2 σ H3 FN H3 v u) (x1 :: x2 :: vs) (.t da :: .t db :: us):=.cons XD (.cons XE k2)
        have er:=oB R2 da (oB R2 db e2)
        have ar:=rG R2 rr er
        have nd:=fO R2 rr er hnd.1 hnd.2
        have R3:=pT (n:=ws.length+2) R2.sub ar nd (List.replicate (ws.length+2) x) (by simp)
        have hvl:vs.length=ws.length:=by have:=ar.length;simpa using this
        have es:start (List.replicate (ws.length+2) x) (x1 :: x2 :: vs)=some x1 :: some x2 :: cL cap σ:=by
          unfold start;rw[k1];simp[hvl]
        have eS:(U.t da :: U.t db :: ws).map some++List.replicate (ws.length+2 - (U.t da :: U.t db :: ws).length) none=some (U.t da) :: some (U.t db) :: ws.map some:=by simp
        rw[es,eS] at R3
        have back:∀(T2:SS) (F3 H4:Hp) (outs:List MO) (S3:SS),Rel K ⟨lent (x1 :: x2 :: vs) (U.t da :: U.t db :: ws),FN,H3⟩ T2 (some x1 :: some x2 :: cL cap σ) F3 H4->aT (U.t da :: U.t db :: ws) T2=some outs->wb us outs S2=some S3->Rel K B S3 σ F3 H4/\Step S S3 σ F H F3 H4/\(∀b o,FN b=some o->F3 b=some o):=fun T2 F3 H4 outs S3 RT ho hw=>by
          have po:=post_of ar T2 _ F3 H4 outs RT ho
          obtain⟨Ra,vN,_⟩:=kQ (S0:=S2) (F0:=FN) (H0:=H3) R2 (Step.refl ..) rr er (show wb (U.t da :: U.t db :: us) outs S2=some S3 by cases outs <;> exact hw) hnd.1 po
          exact⟨Ra,st2.trans vN,vN.ext.le⟩
        refine⟨pa,x1,x2,rfl,.inl hpa,_,_,FN,bk,T1,R3,e3,fun F3 H4 Na SR=>?_⟩
        cases bk with
        | true=>
          obtain⟨⟨yd,T2⟩,e4,dQ⟩:=aq (show(g T1).bind _=_ from dQ)
          obtain⟨outs,e5,dQ⟩:=aq dQ
          obtain⟨S3,e6,dQ⟩:=aq dQ
          refine zj ⟨_,T1,F3,yd,T2,Na,e4,fun yv F4 H5 SV SW SX=>?_⟩
          obtain⟨Ra,vN,AO⟩:=back T2 F4 H5 outs S3 SV e5 e6
          refine⟨ds.length - (i+1),by omega,S3,F4,acc++[yd],Ra,vN,fun b o z=>AO b o (le b o z),(ry.le AO).append (.cons SX .nil),by simp;omega,hlt,rfl,dQ⟩
        | false=>
          obtain⟨outs,e5,dQ⟩:=aq (show(aT (U.t da :: U.t db :: ws) T1).bind _=_ from dQ)
          obtain⟨S3,e6,dQ⟩:=aq dQ
          obtain⟨Ra,vN,AO⟩:=back T1 F3 H4 outs S3 Na e5 e6
          exact zh ⟨ds.length - (i+1),by omega,S3,F3,acc,Ra,vN,fun b o z=>AO b o (le b o z),ry.le AO,by omega,hlt,rfl,dQ⟩
      . cases dQ
    . have e:i=ds.length:=by omega
      subst e
      rw[List.drop_length] at dQ
      cases dQ
      refine .inl ⟨w'.2 (Nat.le_refl _),fun p hp=>?_⟩
      have n:=iU.obj (F:=F2) hp (.lst ys)
      refine k (.ref p) F2 _ (R2.new n (R2.sub.same n.same)) (st2.trans n.step) ⟨p,rfl,none_of st2.ext.there hp,R2.sub.fresh hp,⟨ys,bx,ry⟩,fun m=>?_,none_of R2.ext.there hp⟩
      obtain⟨o,ho⟩:=R2.has m
      rw[hp] at ho
      cases ho
  . cases hg
theorem yF {X:Cx}{elt iter:Expr}{ifs:List Expr}{x y0:Str}{px py pt pos:Pos}{k0:Nat}{scope:Scope}{cl:List (Str×Addr)}{cJ:List Str}{cap:List Nat}{gi:GI}{q:GT}{g:GD}(T:oM X x y0 cJ cap scope cl) (hc:X.calm=true) (hi:Vg X (.Tuple [.Name x px,.Name y0 py] k0 pt) iter gi)
  (ht:∀C s H fp,Vc (fC X (x :: y0 :: cJ) scope cl C s H fp) ifs q) (he:∀C s H fp,JD (fC X (x :: y0 :: cJ) scope cl C s H fp) elt g)
  (hs:∀x,foldedSetIterable iter X.env x=pure x:=by intro _;rfl):JE X (.ListComp elt [⟨.Tuple [.Name x px,.Name y0 py] k0 pt,iter,ifs,0⟩] scope pos) (kY cap gi q g):=⟨fun B=>
 (yC (tc:=fun σ H Q=>∃B,tQ X.K B q σ H Q) (te:=fun σ H Q=>∃B,tD X.K B g σ H Q) T hc (hi.h B) (fun C s H fp pins s' σ H' Q I ⟨B',z⟩=>(ht C s H fp).h B' pins s' σ H' Q I z) (fun C s H fp pins s' σ H' Q I ⟨B',z⟩=>(he C s H fp).h B' pins s' σ H' Q I z) hs).imp fun σ H Q h=>CC h⟩
noncomputable def XI (K:PySem.W.Frag) (a:Addr) (n:Nat):It:=
 ⟨fun i H=>∃xs,nT K H a xs/\xs.length=n/\i < n,fun i H x H'=>H'=H/\∀xs,nT K H a xs->xs[n - 1 - i]? =some x,fun i H=>∃xs,nT K H a xs/\xs.length=n/\n<=i⟩
theorem Il {P:Program}{w:World}{K:PySem.W.Frag}{tg:Expr}(a it:Addr) (n:Nat):Turn P w K tg (XI K a n) [it] it (fun i h=>i<=n/\h.IsRevIter it a ((n:Int) - 1 - (i:Int))) where
 mem:=by simp
 obj:=fun i h st b hb=>by
  have e:b=it:=by simpa using hb
  subst e
  obtain⟨_,o,e,c,d⟩:=st
  exact⟨o,e,fun v z=>by rw[d] at z;cases z⟩
 keep:=fun i h h' st k=>⟨st.1,st.2.at fun o e=>k it (by simp) o e⟩
 item:=by
  intro X hP hw hK hc i pins s σ H E I hf st hg
  subst hP hw hK
  obtain⟨xs,hq,hl,hi⟩:=hg
  obtain⟨its,rv,p,hz⟩:=I.list hq
  have el:=rv.length
  obtain⟨x,hx⟩:∃x,xs[n - 1 - i]? =some x:=⟨xs[n - 1 - i]'(by omega),List.getElem?_eq_getElem _⟩
  obtain⟨u,hu,ru⟩:=rv.get hx
  obtain⟨f0,f1,f2,f3,f4,f5⟩:=hf it (by simp)
  have e:(n:Int) - 1 - (i:Int)=((n - 1 - i:Nat):Int):=by omega
  have hit:=st.2
  rw[e] at hit
  refine wpAny_pyNext_rev_item hit p.isList (x:=u) (by simpa using hu) fun h' st' sb=>?_
  have I1:Inv X pins σ H {s with heap:=h'}:=I.turned (t':=s.toks) (fun b o hb e=>(sb.2 b hb).trans e) f0 f1 f3 f4 f5
  have e2:((n - 1 - i:Nat):Int) - 1=(n:Int) - 1 - ((i+1:Nat):Int):=by omega
  rw[e2] at st'
  obtain⟨o,e,c,d⟩:=id st'
  exact⟨u,rfl,Dh (s:={s with heap:=h'}) e c d (by decide) ⟨x,H,I1,ru,⟨rfl,fun ys hy=>by rw[I.vo hy hq];exact hx⟩,⟨hi,st'⟩,fun b hb=>(hf b hb).1⟩⟩
 done:=by
  intro X hP hw hK hc i pins s σ H E I hf st hg
  subst hP hw hK
  obtain⟨xs,hq,hl,hi⟩:=hg
  obtain⟨f0,f1,f2,f3,f4,f5⟩:=hf it (by simp)
  have e:(n:Int) - 1 - (i:Int)=-1:=by have:=st.1;omega
  have hit:=st.2
  rw[e] at hit
  exact wpAny_pyNext_rev_end (I.ok.hd hc) hit fun h' eb=>⟨rfl,I.turned (t':=s.toks) (fun b o hb e=>eb b o hb e) f0 f1 f3 f4 f5⟩
 self:=fun _ _ _ _ _ st h=>wpAny_pyIter_revIter st.2 h
section
variable {X:Cx}{tg a b:Expr}{p pos:Pos}{ta:TA}{gA:GA}
noncomputable def XJ (K:PySem.W.Frag) (ta:TA):TI:=fun σ H R=>ta σ H fun vs H1=>∃c xs,vs=[.ref c]/\nT K H1 c xs/\R (XI K c xs.length) H1
theorem O3 (hg:Gl X "reversed") (hm:X.mg "reversed" =none) (ha:PA X [a] ta) (hs:starEach [a] X.env=[(false,eval a X.env)]:=by rfl):PI X tg (.Call (.Name "reversed" p) [a] [] pos) (XJ X.K ta):=by
 intro pins s σ H R I h
 refine Call_ (j7 I hg hm boot_reversed (PyProof.Rows.callWith_type1 (gf (ha pos pins s σ H _ I h) fun us s1 ⟨vs,H1,I1,r1,q1⟩=>?_) hs rfl))
 obtain⟨c,xs,e,hq,q⟩:=q1
 subst e
 cases r1 with
 | cons r rr=>
  cases rr
  cases r
  obtain⟨its,rv,pl,hz⟩:=I1.list hq
  have el:=rv.length
  refine call_reversed_list pl.isList ?_
  have I2:Inv X pins σ H1 {s1 with heap:=s1.heap.push (revObj c ((its.toArray.size:Int) - 1))}:=I1.kept (t':=s1.toks) fun b o e=>Heap.get?_push_of_some _ e
  have st:(s1.heap.push (revObj c ((its.toArray.size:Int) - 1))).IsRevIter s1.heap.objs.size c ((its.toArray.size:Int) - 1):=⟨_,Heap.get?_push_size _ rfl,rfl,rfl⟩
  refine wpAny_pyIter_revIter (s:={s1 with heap:=s1.heap.push (revObj c ((its.toArray.size:Int) - 1))}) st ?_
  refine⟨s1.heap.objs.size,[s1.heap.objs.size],_,_,H1,rfl,I2,Il c _ xs.length,⟨Nat.zero_le _,?_⟩,fun b hb=>?_,q⟩
  ·have e:(its.toArray.size:Int) - 1=(xs.length:Int) - 1 - ((0:Nat):Int):=by simp;omega
   rw[<-e]
   exact st
  ·have e:b=s1.heap.objs.size:=by simpa using hb
   subst e
   exact I1.xr (Nat.le_refl _) (I1.hok.fresh (Nat.le_refl _))
theorem Im {K:PySem.W.Frag}{F:Hp}{c:Addr}{vs:List V}{ds:List D}(fa:F c=some (.lst vs)) (rs:bN F vs ds):Walk (XI K c vs.length) F ds.reverse:=fun F' H' le sb i=>by
 have ha:nT K H' c vs:=.inl (Rd.of (sb c _ (le _ _ fa)))
 have hl:=rs.length
 refine⟨fun d hd=>?_,fun hi=>⟨vs,ha,rfl,by rw[List.length_reverse] at hi;omega⟩⟩
 have hi:i < ds.length:=by have:=(List.getElem?_eq_some_iff.mp hd).1;simpa using this
 rw[List.getElem?_reverse hi] at hd
 obtain⟨v,h1,h2⟩:=rs.get hd
 refine⟨⟨vs,ha,rfl,by omega⟩,fun x H2 y=>⟨y.1,?_⟩⟩
 have:=y.2 vs ha
 rw[hl,h1] at this
 cases this
 exact h2.le le
noncomputable def O4 (gA:GA):GI:=fun S=>(gA S).bind fun p=>match p.1 with
 | [.lst ds]=>some (ds.reverse,p.2)
 | _=>none
theorem O5 (hg:Gl X "reversed") (hm:X.mg "reversed" =none) (ha:JA X [a] gA) (hs:starEach [a] X.env=[(false,eval a X.env)]:=by rfl):JI X tg (.Call (.Name "reversed" p) [a] [] pos) (O4 gA):=⟨fun B=>PI.orelse fun σ H R0 ⟨S,F,ds,S',R,hg',k⟩=>by
 obtain⟨⟨args,S1⟩,h1,hg'⟩:=aq hg'
 dsimp only at hg'
 split at hg'
 ·rename_i l
  cases hg'
  refine⟨_,O3 hg hm (ha.h B) hs,S,F,_,_,R,h1,fun vs F1 H1 R1 st1 r1=>?_⟩
  cases r1 with
  | cons r rr=>
   cases rr
   obtain⟨c,xs,rfl,fa,hq,rs⟩:=R1.sub.lX r
   exact⟨c,xs,rfl,.inl hq,k _ F1 H1 R1 st1 (Im fa rs)⟩
 ·cases hg'⟩
noncomputable def oN:List D->Option U
 | [.int j]=>if j < 1000000/\-1000000 < j then some (.m (.lst (nK 0 j.toNat))) else none
 | _=>none
theorem E2 {lo:Int}{n:Nat}{acc:Array Value}(h:ItemsOf (fun i v=>∃t,v= .int (lo+i * 1) t) acc n):Vals ((List.range n).map fun k=>V.int (lo+(k:Nat))) acc.toList:=by
 obtain⟨hn,hi⟩:=h
 have gen:∀(m:Nat),m<=n->Vals (((List.range n).map fun k=>V.int (lo+(k:Nat))).drop (n - m)) (acc.toList.drop (n - m)):=by
  intro m
  induction m with
  | zero=>intro _;rw[List.drop_of_length_le (by simp),List.drop_of_length_le (by simp[hn])];exact .nil
  | succ m ih=>
   intro hm
   have h1:n - (m+1) < n:=by omega
   have e1:n - (m+1)+1=n - m:=by omega
   rw[List.drop_eq_getElem_cons (by simpa using h1),List.drop_eq_getElem_cons (l:=acc.toList) (by simpa[hn] using h1),e1]
   refine .cons ?_ (ih (by omega))
   obtain⟨t,ht⟩:=hi (n - (m+1)) _ (Array.getElem?_eq_getElem (by rw[hn];exact h1))
   simp only[List.getElem_map,List.getElem_range,Array.getElem_toList]
   refine⟨t,ht.trans ?_⟩
   rw[Int.mul_one]
 have:=gen n (Nat.le_refl _)
 simpa using this
theorem Io (F:Hp) (lo:Int) (n:Nat):bN F ((List.range n).map fun k=>V.int (lo+(k:Nat))) (nK lo n):=by
 unfold nK
 generalize List.range n=l
 induction l with
 | nil=>exact .nil
 | cons a l ih=>exact .cons (.int _) ih
theorem xE {pins:List (Addr×Obj)}{σ:St}{H F:Hp}{s:Shared}{E:Value->Shared->Prop}{Q:VK}{lo hi:Int}{t u v:Tok}{tk:Nat}(hc:X.calm=true) (I:Inv X pins σ H s) (sb:Sub F H) (h1:lo < 1000000) (h2:-1000000 < lo) (h3:hi < 1000000) (h4:-1000000 < hi)
  (q:∀w F' H',iU F H F' H'->Sub F' H'->Cj H F' H' w (.m (.lst (nK lo (hi - lo).toNat)))->Q w H'):
  wpAny (model X.prog X.w) X.A (call (.type "list") [.ref s.heap.objs.size]) (EP X pins σ Q) E {s with heap:=s.heap.push {cls:=.type "range",data:=.fields #[.int lo t,.int hi u,.int 1 v]},toks:=tk}:=by
 have I1:Inv X pins σ H {s with heap:=s.heap.push {cls:=.type "range",data:=.fields #[.int lo t,.int hi u,.int 1 v]},toks:=tk}:=I.kept fun b o e=>Heap.get?_push_of_some _ e
 have hn:Builtin.Range.rangeSize lo hi 1=((hi - lo).toNat:Nat):=by rw[rangeSize_one];split <;> omega
 refine call_list_range (I.ok.hd hc) (IsRange.new ..) (small_one (by omega) (by omega) (by omega) (by omega)) hn (by omega) fun h' tk' acc c hk hS hacc=>?_
 have hp:H (s.heap.push {cls:=.type "range",data:=.fields #[.int lo t,.int hi u,.int 1 v]}).objs.size=none:=I1.hok.fresh (Nat.le_refl _)
 have rv:=E2 hacc
 have I2:=I1.laid (a:=(s.heap.push {cls:=.type "range",data:=.fields #[.int lo t,.int hi u,.int 1 v]}).objs.size) (o:=.lst ((List.range (hi - lo).toNat).map fun k=>V.int (lo+(k:Nat)))) (t':=tk') (h':=h') hk (Nat.le_refl _)
  ⟨by rw[List.length_map,List.length_range,sizeLine_eq];omega,acc.toList,c,rv,hS⟩
 exact⟨.ref _,_,I2,rfl,q _ F _ (iU.obj hp _) (sb.same (iU.obj (F:=F) hp _).same) ⟨_,rfl,hp,sb.fresh hp,_,bx,Io F lo _⟩⟩
variable {p2 pos2:Pos}
theorem A9 (hc : X.calm = true) (hg : Gl X "list") (hm : X.mg "list" = none) (OP : Gl X "range") (hm2 : X.mg "range" = none) (ha : JA X [a] gA) (hs : starEach [a] X.env = [(false, eval a X.env)] := by rfl)
    (Lh:starEach [.Call (.Name "range" p2) [a] [] pos2] X.env=[(false,eval (.Call (.Name "range" p2) [a] [] pos2) X.env)]:=by rfl):
    JE X (.Call (.Name "list" p) [.Call (.Name "range" p2) [a] [] pos2] [] pos) (eP oN gA):=⟨fun B=>by
  intro pins s σ H Q I h
  have h:=jG (fun _ _ _ z=>z) h
  refine wpAny_Call_Name_kw (j7 I hg hm PyProof.Rows.Boot.list ?_)
  refine PyProof.Rows.callWith_type1 ?_ (by rw[Lh];rfl) rfl
  rw[Lh]
  refine Calls.spliced_cons (Call_ (j7 I OP hm2 boot_range (PyProof.Rows.callWith_type1 (gf (ha.h B pos2 pins s σ H _ I h) fun us s1 ⟨vs,H1,I1,r1,q1⟩=>?_) hs rfl)))
  obtain⟨F0,ds,w,sb,rs,hw,q⟩:=q1
  unfold oN at hw
  split at hw
  . obtain⟨h1,rfl⟩:=cV hw
    cases rs with
    | cons ra rs=>
      cases rs
      cases ra
      cases r1 with
      | cons r rr=>
        cases rr
        obtain⟨t,rfl⟩:=r
        refine call_range_1 (Calls.spliced_nil ?_)
        refine xE hc I1 sb (by omega) (by omega) h1.1 h1.2 ?_
        simpa using q
  . cases hw⟩
end
end L2
end
section
namespace L2
open PySem PySem.Spec PyProof.Rows
noncomputable def kZ:List D->Option U
 | [.bl a,.bl b]=>some (.t (.bl (a == b)))
 | [.dR,.bl _]=>some (.t (.bl false))
 | _=>none
noncomputable def lg:List D->Option U
 | [.bl a,.bl b]=>some (.t (.bl (a != b)))
 | [.dR,.bl _]=>some (.t (.bl true))
 | _=>none
section
variable {M:Model}{A:Around}{E:Value->Shared->Prop}{s:Shared}{Q:Value->Shared->Prop}
theorem Ip {d:Bool}(h:Q (.bool false) s):wpAny M A (compareOp .Is .none (.bool d)) Q E s:=by
 have e:(Value.none == Value.bool d)=false:=by cases d <;> rfl
 exact wpAny_pure (a:=Value.bool (Value.none == Value.bool d)) (by rw[e];exact h)
theorem Ba {d:Bool}(h:Q (.bool true) s):wpAny M A (compareOp .IsNot .none (.bool d)) Q E s:=by
 have e:(!(Value.none == Value.bool d))=true:=by cases d <;> rfl
 exact wpAny_pure (a:=Value.bool (!(Value.none == Value.bool d))) (by rw[e];exact h)
end
theorem pX {X:Cx}:AH X (compareOp .Is) kZ:=by
 intro pins s σ H x y v u Q I rx ry ⟨F,ds,w,sb,rs,hw,q⟩
 obtain⟨d,e,rfl,r1,r2⟩:=ur rs
 cases d <;> cases e <;> try (simp[kZ] at hw;done)
 ·cases hw
  cases r1
  rw[iO r2] at ry
  cases rx
  cases ry
  exact Ip ⟨.bl _,H,I,rfl,q _ F H (iU.refl ..) sb (.bl _)⟩
 ·cases hw
  rw[iO r1] at rx
  rw[iO r2] at ry
  cases rx
  cases ry
  exact is_bool ⟨.bl _,H,I,rfl,q _ F H (iU.refl ..) sb (.bl _)⟩
theorem uz {X:Cx}:AH X (compareOp .IsNot) lg:=by
 intro pins s σ H x y v u Q I rx ry ⟨F,ds,w,sb,rs,hw,q⟩
 obtain⟨d,e,rfl,r1,r2⟩:=ur rs
 cases d <;> cases e <;> try (simp[lg] at hw;done)
 ·cases hw
  cases r1
  rw[iO r2] at ry
  cases rx
  cases ry
  exact Ba ⟨.bl _,H,I,rfl,q _ F H (iU.refl ..) sb (.bl _)⟩
 ·cases hw
  rw[iO r1] at rx
  rw[iO r2] at ry
  cases rx
  cases ry
  exact isnot_bool ⟨.bl _,H,I,rfl,q _ F H (iU.refl ..) sb (.bl _)⟩
@[simp] theorem Ti (a b:Bool):kZ [.bl a,.bl b]=some (.t (.bl (a == b))):=rfl
@[simp] theorem QW (b:Bool):kZ [.dR,.bl b]=some (.t (.bl false)):=rfl
@[simp] theorem O6 (a b:Bool):lg [.bl a,.bl b]=some (.t (.bl (a != b))):=rfl
@[simp] theorem Nk (b:Bool):lg [.dR,.bl b]=some (.t (.bl true)):=rfl
section
variable (S:SS) (d e:D) (o:MO) (i j:Nat) (g ga gb gc:GD) (ge:GE) (q q1 q2:GT) (gA:GA) (gu:GU) (a b:GS) (f f':List D->Option U) (fm:FM) (bd:GB) (gi:GI)
@[simp] theorem XM:aj i S=match S[i]? with | some (some (.t d))=>some (.t d,S) | some (some (.s d))=>some (.s d,S) | some (some (.f d))=>some (.f d,S) | some (some _)=>some (.v i,S) | _=>none:=rfl
@[simp] theorem aez:eC d S=some (d,S):=rfl
@[simp] theorem XN:aA S=some ([],S):=rfl
@[simp] theorem Vk:aa g gA S=(g S).bind fun p=>(gA p.2).map fun q=>(p.1 :: q.1,q.2):=rfl
@[simp] theorem aeA:eP f gA S=(gA S).bind fun p=>(f p.1).map fun u=>(u,p.2):=rfl
@[simp] theorem aeB:eF ge S=(ge S).bind fun p=>fz p.1 p.2:=rfl
@[simp] theorem aeC:eT g S=(g S).map fun p=>(.t p.1,p.2):=rfl
@[simp] theorem XO:fz (.t d) S=some (d,S):=rfl
@[simp] theorem XQ (ds:List D):fz (.m (.lst ds)) S=some (.lst ds,S):=rfl
@[simp] theorem XR:fz (.v i) S=match S[i]? with | some (some (.t d))=>some (d,S) | some (some (.m (.lst ds)))=>some (.lst ds,S.set i (some (.t (.lst ds)))) | _=>none:=rfl
@[simp] theorem aeD:qB g S=(g S).bind fun p=>match p.1 with | .bl k=>some (k,p.2) | _=>none:=rfl
@[simp] theorem XS:vF q S=(q S).map fun p=>(!p.1,p.2):=rfl
@[simp] theorem XT:kO q1 q2 S=(q1 S).bind fun p=>if p.1 then q2 p.2 else some (false,p.2):=rfl
@[simp] theorem Tj:uq q1 q2 S=(q1 S).bind fun p=>if p.1 then some (true,p.2) else q2 p.2:=rfl
@[simp] theorem aeE:eQ q S=(q S).map fun p=>(.bl p.1,p.2):=rfl
@[simp] theorem Vl:eZ S=some (true,S):=rfl
@[simp] theorem acz:eCh f f' ga gb gc S=(ga S).bind fun p=>(gb p.2).bind fun q=>match f [p.1,q.1] with
 | some (.t (.bl k))=>if k then(gc q.2).bind fun r=>match f' [q.1,r.1] with
   | some (.t (.bl k'))=>some (.bl k',r.2)
   | _=>none
  else some (.bl false,q.2)
 | _=>none:=rfl
@[simp] theorem acA (g1 g2:GE):Xh q g1 g2 S=(q S).bind fun p=>if p.1 then g1 p.2 else g2 p.2:=rfl
@[simp] theorem XU:dc S=some (.nx S):=rfl
@[simp] theorem O7:aZ a b S=(a S).bind fun o=>match o with | .nx S1=>b S1 | o=>some o:=rfl
@[simp] theorem XW:cK i ge S=(ge S).bind fun p=>match p.1 with | .m o=>(rE i (.m o) p.2).map .nx | u=>(fz u p.2).bind fun q=>(rE i (.t q.1) q.2).map .nx:=rfl
@[simp] theorem iz (u:U):rE i u S=match S[i]? with | some (some (.b _))=>none | some _=>some (S.set i (some u)) | none=>none:=rfl
@[simp] theorem Vm:yi ge S=(ge S).map fun p=>.nx p.2:=rfl
@[simp] theorem XX:cj ge S=(ge S).bind fun p=>match p.1 with
 | .v i=>match p.2[i]? with
  | some (some (.t d))=>some (.rt (.t d) p.2)
  | some (some (.m o))=>some (.rt (.m o) (p.2.set i none))
  | _=>none
 | .s _=>none
 | .f _=>none
 | u=>some (.rt u p.2):=rfl
@[simp] theorem Iq:i8 q a b S=(q S).bind fun p=>if p.1 then a p.2 else b p.2:=rfl
@[simp] theorem XY:OJ bd g S=(g S).bind fun p=>(bd p.1 p.2).map .nx:=rfl
@[simp] theorem Vn:bName i d S=rE i (.t d) S:=rfl
@[simp] theorem Ir:nM bd gi a S=(gi S).bind fun p=>loop bd a p.1 p.2:=rfl
@[simp] theorem XZ:zy g S=(g S).bind fun p=>match p.1 with | .tup ds=>some (ds,p.2) | .lst ds=>some (ds,p.2) | _=>none:=rfl
@[simp] theorem Vo:qu gA S=(gA S).bind fun p=>match p.1 with | [.int j]=>if j < 1000000/\-1000000 < j then some (nK 0 j.toNat,p.2) else none | _=>none:=rfl
@[simp] theorem Vp:AK gA S=(gA S).bind fun p=>match p.1 with | [.int i,.int j]=>if i < 1000000/\-1000000 < i/\j < 1000000/\-1000000 < j then some (nK i (j - i).toNat,p.2) else none | _=>none:=rfl
@[simp] theorem O8:loop bd a [] S=some (.nx S):=rfl
@[simp] theorem X0:bq S=some ([],S):=rfl
@[simp] theorem X3:aC g gu S=(g S).bind fun p=>(gu p.2).map fun q=>(.t p.1 :: q.1,q.2):=rfl
@[simp] theorem X4:cC ge gu S=(ge S).bind fun p=>(gu p.2).map fun q=>(p.1 :: q.1,q.2):=rfl
@[simp] theorem Vq:aO fm gu S=(gu S).bind fun p=>if(slotsOf p.1).Nodup/\dz p.1<=1 then(cM p.2 p.1).bind fun us=>(fm us).bind fun r=>(wb p.1 r.2 p.2).map fun S2=>(r.1,S2) else none:=rfl
@[simp] theorem QX:cM S []=some []:=rfl
@[simp] theorem O9 (u:U) (us:List U):cM S (u :: us)=(resolve S u).bind fun w=>(cM S us).map fun ws=>w :: ws:=rfl
@[simp] theorem Vr:resolve S (.t d)=some (.t d):=rfl
@[simp] theorem Vs:resolve S (.m o)=some (.b o):=rfl
@[simp] theorem Vt (ns:List Int):resolve S (.s ns)=some (.s ns):=rfl
@[simp] theorem Vu:resolve S (.v i)=match S[i]? with | some (some (.m o))=>some (.b o) | some (some (.b o))=>some (.b o) | _=>none:=rfl
@[simp] theorem Tn:slotsOf []=[]:=rfl
@[simp] theorem X5 (us:List U):slotsOf (.t d :: us)=slotsOf us:=rfl
@[simp] theorem X6 (us:List U):slotsOf (.m o :: us)=slotsOf us:=rfl
@[simp] theorem X7 (ns:List Int) (us:List U):slotsOf (.s ns :: us)=slotsOf us:=rfl
@[simp] theorem X8 (us:List U):slotsOf (.v i :: us)=i :: slotsOf us:=rfl
@[simp] theorem To:dz []=0:=rfl
@[simp] theorem Yb (us:List U):dz (.t d :: us)=dz us:=rfl
@[simp] theorem Yc (us:List U):dz (.m o :: us)=dz us+1:=rfl
@[simp] theorem Yd (ns:List Int) (us:List U):dz (.s ns :: us)=dz us:=rfl
@[simp] theorem Ye (us:List U):dz (.v i :: us)=dz us:=rfl
@[simp] theorem Tp:wb [] [] S=some S:=rfl
@[simp] theorem Yg (us:List U) (os:List MO):wb (.t d :: us) os S=wb us os S:=by cases os <;> rfl
@[simp] theorem Yh (ns:List Int) (us:List U) (os:List MO):wb (.s ns :: us) os S=wb us os S:=by cases os <;> rfl
@[simp] theorem Yi (us:List U) (os:List MO):wb (.m o :: us) (o' :: os) S=wb us os S:=rfl
@[simp] theorem Yj (us:List U) (os:List MO):wb (.v i :: us) (o :: os) S=match S[i]? with | some (some (.m _))=>wb us os (S.set i (some (.m o))) | some (some (.b _))=>wb us os (S.set i (some (.b o))) | _=>none:=rfl
@[simp] theorem Yk:dg i gb S=match S[i]? with | some (some _)=>(gb S).bind fun p=>(match p.2[i]? with | some (some u)=>(qw u p.1).map fun d=>(d,p.2) | _=>none) | _=>none:=rfl
@[simp] theorem Yl:jH i S=match S[i]? with | some (some u)=>(AY u).map fun n=>(.int (n:Nat),S) | _=>none:=rfl
@[simp] theorem aeF (h:List D->MO->Option (D×MO)):eM i h gA S=if SQ S i then(gA S).bind fun p=>Cn p.2 i (h p.1) else none:=rfl
@[simp] theorem Ym (gk gv:GD):AZ i gk gv S=(gv S).bind fun p=>match p.2[i]? with | some (some _)=>(gk p.2).bind fun r=>(Cn r.2 i fun o=>(sR o r.1 p.1).map fun o'=>(.dR,o')).map fun z=>.nx z.2 | _=>none:=rfl
@[simp] theorem acB (Ts:List String):Xr Ts g S=(g S).bind fun p=>(vQ Ts p.1).map fun b=>(.bl b,p.2):=rfl
@[simp] theorem Pa (ds:List D) (k:Int):qw (.t (.tup ds)) (.int k)=gD ds k:=rfl
@[simp] theorem Pb (ds:List D) (k:Int):qw (.t (.lst ds)) (.int k)=gD ds k:=rfl
@[simp] theorem Pc (ds:List D) (k:Int):qw (.m (.lst ds)) (.int k)=gD ds k:=rfl
@[simp] theorem Pd (ds:List D) (k:Int):qw (.b (.lst ds)) (.int k)=gD ds k:=rfl
@[simp] theorem Pe (kvs:List (Key×D)) (k:D):qw (.b (.dct kvs)) k=(keyOf k).bind (cz kvs):=by cases k <;> rfl
@[simp] theorem QY (ns:List Int) (k:Int):qw (.s ns) (.int k)=(gD ns k).map D.int:=rfl
@[simp] theorem Vv (k:Int):keyOf (.int k)=some (.inl k):=rfl
@[simp] theorem Vw (k:Str):keyOf (.str k)=some (.inr k):=rfl
@[simp] theorem QZ (ds:List D):AY (.t (.tup ds))=some ds.length:=rfl
@[simp] theorem Q0 (ds:List D):AY (.t (.lst ds))=some ds.length:=rfl
@[simp] theorem Q2 (ds:List D):AY (.m (.lst ds))=some ds.length:=rfl
@[simp] theorem Q3 (ds:List D):AY (.b (.lst ds))=some ds.length:=rfl
@[simp] theorem Tq (ns:List Int):AY (.s ns)=some ns.length:=rfl
@[simp] theorem acC (C:Int->Int->Bool) (h:Int->Int->D) (x y:Int):Kl C h [.int x,.int y]=if C x y then some (.t (h x y)) else none:=rfl
@[simp] theorem Tr (x y:Int):cN [.int x,.int y]=some (.t (.int (x+y))):=rfl
@[simp] theorem Tt (x y:Str):cN [.str x,.str y]=if x.length+y.length<=100000 then some (.t (.str (x++y))) else none:=rfl
@[simp] theorem Tu (x y:List D):cN [.tup x,.tup y]=if x.length+y.length<=100000 then some (.t (.tup (x++y))) else none:=rfl
@[simp] theorem Tv (x y:List D):cN [.lst x,.lst y]=if x.length+y.length<=100000 then some (.m (.lst (x++y))) else none:=rfl
@[simp] theorem Yn (x y:Int):Ck [.int x,.int y]=if((decide (-(2 ^ 64) < x) && decide (x < 2 ^ 64)) || (decide (-(2 ^ 64) < y) && decide (y < 2 ^ 64))) then some (.t (.int (x * y))) else none:=rfl
@[simp] theorem Yo (x:Int):nL [.int x]=some (.t (.int (-x))):=rfl
@[simp] theorem Yp (ds:List D):cy ds=if ds.length<=100000 then some (.t (.tup ds)) else none:=rfl
@[simp] theorem Yq (ds:List D):ji ds=if ds.length<=100000 then some (.m (.lst ds)) else none:=rfl
@[simp] theorem Vx (ds:List D) (k:Int):xA [.tup ds,.int k]=(gD ds k).map .t:=rfl
@[simp] theorem Vy (ds:List D) (k:Int):xA [.lst ds,.int k]=(gD ds k).map .t:=rfl
@[simp] theorem Tw:jB [d,e]=if gW d<=40 then some (.t (.bl (ni d e))) else none:=rfl
@[simp] theorem Bb:zD [d,e]=if gW d<=40 then some (.t (.bl (!ni d e))) else none:=rfl
@[simp] theorem Vz (x y z:Int):DG [.int x,.int y,.int z]=some (.t (.int (if y < x then(if z < y then z else y) else if z < x then z else x))):=rfl
@[simp] theorem VA (x y:Int):DH [.int x,.int y]=some (.t (.int (if y > x then y else x))):=rfl
@[simp] theorem Tz (ds:List D):AI [.tup ds]=some (.t (.int ds.length)):=rfl
@[simp] theorem TF (ds:List D):AI [.lst ds]=some (.t (.int ds.length)):=rfl
@[simp] theorem Q4 (ds:List D):Nc [.tup ds]=some (.m (.lst ds)):=rfl
@[simp] theorem Q5 (ds:List D):Nc [.lst ds]=some (.m (.lst ds)):=rfl
@[simp] theorem Pf (ds:List D):vR [.tup ds]=some (.t (.tup ds)):=rfl
@[simp] theorem Pg (ds:List D):vR [.lst ds]=some (.t (.tup ds)):=rfl
@[simp] theorem Yr (ds:List D):Xs [.lst ds]=(kX ds).map fun bs=>.t (.bl (bs.all id)):=rfl
@[simp] theorem Ys (ds:List D):AU [.lst ds]=(kX ds).map fun bs=>.t (.bl (bs.any id)):=rfl
@[simp] theorem VB (x y:Str):ni (.str x) (.str y)=(x == y):=by simp[ni]
@[simp] theorem VC (x y:Int):ni (.int x) (.int y)=(x == y):=by simp[ni]
@[simp] theorem VD (x y:Bool):ni (.bl x) (.bl y)=(x == y):=by simp[ni]
@[simp] theorem VE (x:Str):gW (.str x)=0:=by simp[gW]
@[simp] theorem VF (x:Int):gW (.int x)=0:=by simp[gW]
@[simp] theorem VG (x:Bool):gW (.bl x)=0:=by simp[gW]
@[simp] theorem Yt (h:MO->Option (D×MO)):Cn S i h=match S[i]? with | some (some (.m o))=>(h o).map fun r=>(r.1,S.set i (some (.m r.2))) | some (some (.b o))=>(h o).map fun r=>(r.1,S.set i (some (.b r.2))) | _=>none:=rfl
@[simp] theorem acD:SQ S i=match S[i]? with | some (some (.m (.lst _)))=>true | some (some (.b (.lst _)))=>true | _=>false:=rfl
@[simp] theorem Q6 (kvs:List (Key×D)) (k:D):sR (.dct kvs) k d=(keyOf k).bind fun kk=>if kvs.length < 100000 then some (.dct (putD kvs kk d)) else none:=rfl
@[simp] theorem Q7 (ds:List D) (k:Int):sR (.lst ds) (.int k) d=(Cc ds.length k).map fun j=>.lst (ds.set j d):=rfl
@[simp] theorem TH (ds:List D):hAppend [d] (.lst ds)=if ds.length < 100000 then some (.dR,.lst (ds++[d])) else none:=rfl
@[simp] theorem Q8:aT [] S=some []:=by cases S <;> rfl
@[simp] theorem VH (us:List U) (o2:MO):aT (.b o2 :: us) (some (.b o) :: S)=(aT us S).map fun os=>o :: os:=rfl
@[simp] theorem DR (us:List U) (x:Option U):aT (.t d :: us) (x :: S)=aT us S:=by cases x <;> rfl
@[simp] theorem VI (ns:List Int) (us:List U) (x:Option U):aT (.s ns :: us) (x :: S)=aT us S:=by cases x <;> rfl
end
structure dG where
 c:Int
 l:Int
 n:Int
noncomputable def cH (t:dG):List (Key×D):=[(.inr "cell",.int t.c),(.inr "left",.int t.l),(.inr "turn",.int t.n)]
noncomputable def oO:List (Key×D)->Option dG
 | [(k1,.int c),(k2,.int l),(k3,.int n)]=>if k1= .inr "cell"/\k2= .inr "left"/\k3= .inr "turn" then some ⟨c,l,n⟩ else none
 | _=>none
@[simp] theorem Ph (t:dG):oO (cH t)=some t:=by simp[oO,cH]
theorem oR {kvs:List (Key×D)}{t:dG}(h:oO kvs=some t):kvs=cH t:=by
 unfold oO at h
 split at h
 ·obtain⟨⟨rfl,rfl,rfl⟩,rfl⟩:=cV h
  rfl
 ·cases h
@[simp] theorem Yu (t:dG):cz (cH t) (.inr "cell")=some (.int t.c):=by rfl
@[simp] theorem Yv (t:dG):cz (cH t) (.inr "left")=some (.int t.l):=by rfl
@[simp] theorem Yw (t:dG):cz (cH t) (.inr "turn")=some (.int t.n):=by rfl
@[simp] theorem VJ (t:dG) (x:Int):putD (cH t) (.inr "turn") (.int x)=cH {t with n:=x}:=by rfl
@[simp] theorem VL (t:dG) (x:Int):putD (cH t) (.inr "left") (.int x)=cH {t with l:=x}:=by rfl
@[simp] theorem TJ (t:dG):(cH t).length=3:=rfl
noncomputable def mixed (c n:Int):Int:=(((c % 2147483647+31 * (n+1) * (n+1)+1) * 48271) % 2147483629+7 * (n+1)) * 69621 % 2147483587 / 7
noncomputable def bz (t:dG) (m:Int):Int:=if 0 < t.l then t.l % m else mixed t.c t.n % m
noncomputable def bg (t:dG) (m:Int):dG:=if 0 < t.l then⟨t.c,t.l / m,t.n+1⟩ else⟨t.c,t.l,t.n+1⟩
noncomputable def cS:FM
 | [.b (.dct kvs),.t (.int m)]=>(oO kvs).bind fun t=>if 0 < m/\m < 1000000/\0<=t.n/\t.n < 1000000 then some (.t (.int (bz t m)),[.dct (cH (bg t m))]) else none
 | _=>none
noncomputable def jY:GS:=
 (aZ (cK 2 (eP cN (aa (dg 0 (eC (.str "turn"))) (aa (eC (.int 1)) aA))))
 (aZ (AZ 0 (eC (.str "turn")) (eF (aj 2)))
 (aZ (i8 (qB (eF (eP QN (aa (dg 0 (eC (.str "left"))) (aa (eC (.int 0)) aA))))) (aZ (cK 3 (eP xy (aa (dg 0 (eC (.str "left"))) (aa (eF (aj 1)) aA))))
 (aZ (AZ 0 (eC (.str "left")) (eF (eP K9 (aa (dg 0 (eC (.str "left"))) (aa (eF (aj 1)) aA)))))
 (cj (aj 3)))) dc)
 (aZ (cK 4 (eP Ck (aa (eF (eP cN (aa (eF (eP cN (aa (eF (eP xy (aa (dg 0 (eC (.str "cell"))) (aa (eC (.int 2147483647)) aA)))) (aa (eF (eP Ck (aa (eF (eP Ck (aa (eC (.int 31)) (aa (eF (aj 2)) aA)))) (aa (eF (aj 2)) aA)))) aA)))) (aa (eC (.int 1)) aA)))) (aa (eC (.int 48271)) aA))))
 (aZ (cK 4 (eP Ck (aa (eF (eP cN (aa (eF (eP xy (aa (eF (aj 4)) (aa (eC (.int 2147483629)) aA)))) (aa (eF (eP Ck (aa (eC (.int 7)) (aa (eF (aj 2)) aA)))) aA)))) (aa (eC (.int 69621)) aA))))
 (cj (eP xy (aa (eF (eP K9 (aa (eF (eP xy (aa (eF (aj 4)) (aa (eC (.int 2147483587)) aA)))) (aa (eC (.int 7)) aA)))) (aa (eF (aj 1)) aA)))))))))
theorem pick_run:∀us r,cS us=some r->aW 5 jY us=some r:=by
 intro us r h
 unfold cS at h
 split at h
 ·rename_i kvs m
  obtain⟨t,h1,h⟩:=aq h
  obtain⟨⟨h2,h3,h4,h5⟩,rfl⟩:=cV h
  obtain rfl:=oR h1
  have e1:-18446744073709551616 < t.n+1:=by omega
  have e2:t.n+1 < 18446744073709551616:=by omega
  have e3:m < 1073741824:=by omega
  by_cases hl:0 < t.l
  ·simp[aW,jY,bz,bg,hl,h2,e3]
  ·simp[aW,jY,bz,bg,hl,h2,e3,mixed,e1,e2]
 ·cases h
noncomputable def Yx:FM
 | [.t d,.t (.int l),.t (.int m)]=>some (.t (.bl (jh d l m)),[])
 | _=>none
noncomputable def kC:GS:=
 (cj (eP ji (aa (eC (.str "a")) (aa (eC (.str "ab")) (aa (eC (.str "abc")) (aa (eC (.str "b")) (aa (eC (.str "any")) (aa (eC (.str "name")) (aa (eC (.str "x")) (aa (eC (.str "zzzzzzzz")) aA))))))))))
noncomputable def gg:List Str:=["a","ab","abc","b","any","name","x","zzzzzzzz"]
noncomputable def mF:FM
 | []=>some (.m (.lst (gg.map D.str)),[])
 | _=>none
theorem E3:∀us r,mF us=some r->aW 0 kC us=some r:=by
 intro us r h
 unfold mF at h
 split at h
 ·cases h
  simp[aW,kC,gg]
 ·cases h
noncomputable def jZ:GS:=
 (aZ (cK 2 (aj 1))
 (aZ (i8 (qB (eF (eP QN (aa (jH 0) (aa (eC (.int 0)) aA))))) (cK 2 (eP cN (aa (dg 0 (eF (eP xy (aa (eF (aj 1)) (aa (jH 0) aA))))) (aa (eF (eP K9 (aa (eF (aj 1)) (aa (jH 0) aA)))) aA)))) dc)
 (cj (uy [("cell",(eF (aj 2))),("left",(eF (eP DH (aa (eC (.int 0)) (aa (eF (eP ou (aa (eF (aj 2)) (aa (eF (eP SI (aa (eC (.int 10)) (aa (eC (.int 18)) aA)))) aA)))) aA))))),("turn",(eC (.int 0)))]))))
noncomputable def Bc (ns:List Int) (k:Int):Int:=if 0 < ns.length then(gD ns (k % ns.length)).getD 0+k / ns.length else k
noncomputable def Bd (ns:List Int) (k:Int):dG:=⟨Bc ns k,if Bc ns k - 10 ^ 18 > 0 then Bc ns k - 10 ^ 18 else 0,0⟩
noncomputable def jD:FM
 | [.s ns,.t (.int k)]=>if 0<=k/\k < 1000000/\ns.length < 1000000 then some (.m (.dct (cH (Bd ns k))),[]) else none
 | _=>none
theorem Iu {α:Type}{l:List α}{i:Int}(h0:0<=i) (h1:i < l.length):∃x,gD l i=some x:=by
 unfold gD Cc
 rw[if_pos h0,if_pos h1]
 have:i.toNat < l.length:=by omega
 exact⟨l[i.toNat],List.getElem?_eq_getElem this⟩
@[simp] theorem TL (k1 k2 k3:Str) (g1 g2 g3:GD) (S:SS):uy [(k1,g1),(k2,g2),(k3,g3)] S=(g1 S).bind fun a=>(g2 a.2).bind fun b=>(g3 b.2).map fun c=>(.m (.dct (oH [] [(.inr k1,a.1),(.inr k2,b.1),(.inr k3,c.1)])),c.2):=by
 simp only[uy,jI]
 cases g1 S with
 | none=>rfl
 | some a=>
  simp only[Option.bind_some]
  cases g2 a.2 with
  | none=>rfl
  | some b=>
   simp only[Option.bind_some]
   cases g3 b.2 with
   | none=>rfl
   | some c=>rfl
theorem v9 (c l n:Int):oH [] [(.inr "cell",.int c),(.inr "left",.int l),(.inr "turn",.int n)]=cH ⟨c,l,n⟩:=rfl
theorem Iv:∀us r,jD us=some r->aW 3 jZ us=some r:=by
 intro us r h
 unfold jD at h
 split at h
 ·rename_i ns k
  obtain⟨⟨h1,h2,h3⟩,rfl⟩:=cV h
  by_cases hl:0 < ns.length
  ·have e0:(0:Int) < ns.length:=by omega
   obtain⟨x,hx⟩:=Iu (l:=ns) (i:=k % ns.length) (Int.emod_nonneg _ (by omega)) (Int.emod_lt_of_pos _ e0)
   have e1:(ns.length:Int) < 1073741824:=by omega
   simp[aW,jZ,e0,e1,hx,v9,Bd,Bc,hl]
  ·have e0:¬(0:Int) < ns.length:=by omega
   simp[aW,jZ,e0,v9,Bd,Bc,hl]
 ·cases h
end L2
end
section
namespace Sw
open PySem PySem.Spec PyProof.Rows L2
theorem bB {t:dG}{m:Int}(h:0 < m):0<=bz t m/\bz t m < m:=by
 unfold bz
 split
 ·exact⟨Int.emod_nonneg _ (by omega),Int.emod_lt_of_pos _ h⟩
 ·exact⟨Int.emod_nonneg _ (by omega),Int.emod_lt_of_pos _ h⟩
@[simp] theorem fP (t:dG) (m:Int):(bg t m).n=t.n+1:=by unfold bg;split <;> rfl
theorem lq {t:dG}{m:Int}(h1:0 < m) (h2:m < 1000000) (h3:0<=t.n) (h4:t.n < 1000000):cS [.b (.dct (cH t)),.t (.int m)]=some (.t (.int (bz t m)),[.dct (cH (bg t m))]):=by
 simp[cS,h1,h2,h3,h4]
theorem Iw {α:Type}{l:List α}{i:Int}(h0:0<=i) (h1:i < l.length):gD l i=some (l[i.toNat]'(by omega)):=by
 unfold gD Cc
 rw[if_pos h0,if_pos h1]
 exact List.getElem?_eq_getElem (by omega)
noncomputable def jK (T:List (Str×Int)):D:=.tup (T.map fun p=>.tup [.str p.1,.int p.2])
structure CD where
 names:List Str
 tab:List (Str×Int)
 left:Int
 t:dG
noncomputable def wc (i j k:Int):Int:=if j < i then(if k < j then k else j) else if k < i then k else i
noncomputable def cO (s:CD) (k:Int):CD:=
 let i:=(bz s.t s.names.length).toNat
 let t1:=bg s.t s.names.length
 let most:=wc 5 (s.left - 4+k) (bz t1 6)
 ⟨s.names.eraseIdx i,s.tab++[(s.names.getD i "",most)],s.left - most - 1,bg t1 6⟩
noncomputable def eO (iA:FM) (az:FM):GS:=
 (aZ (cK 5 (eT (eM 1 ng (aa (eF (aO az (cC (aj 0) (aC (jH 1) bq)))) aA))))
 (aZ (cK 6 (eP DG (aa (eC (.int 5)) (aa (eF (eP cN (aa (eF (eP ou (aa (eF (aj 3)) (aa (eC (.int 4)) aA)))) (aa (eF (aj 4)) aA)))) (aa (eF (aO az (cC (aj 0) (aC (eC (.int 6)) bq)))) aA)))))
 (aZ (cK 2 (eP cN (aa (eF (aj 2)) (aa (eF (eP cy (aa (eF (eP cy (aa (eF (aj 5)) (aa (eF (aj 6)) aA)))) aA))) aA))))
 (cK 3 (eP ou (aa (eF (eP ou (aa (eF (aj 3)) (aa (eF (aj 6)) aA)))) (aa (eC (.int 1)) aA)))))))
noncomputable def kD (iA:FM) (az:FM):GS:=
 (aZ (cK 1 (aO iA bq))
 (aZ (cK 2 (eP cy aA))
 (aZ (cK 3 (eT (eC (.int 12))))
 (aZ (nM (bName 4) (qu (aa (eF (eP xA (aa (eF (eP ji (aa (eC (.int 1)) (aa (eC (.int 2)) (aa (eC (.int 2)) (aa (eC (.int 3)) (aa (eC (.int 4)) aA))))))) (aa (eF (aO az (cC (aj 0) (aC (eC (.int 5)) bq)))) aA)))) aA)) (eO iA az))
 (cj (aj 2))))))
noncomputable def j0 (s:CD) (x y z:Option U):SS:=[some (.b (.dct (cH s.t))),some (.m (.lst (s.names.map D.str))),some (.t (jK s.tab)),some (.t (.int s.left)),x,y,z]
theorem E4 {i:Int}{n:Nat}(h0:0<=i) (h1:i < n):seqIndex? i n=some i.toNat:=by
 unfold seqIndex?
 simp[h0,h1]
 try omega
theorem mG {α β:Type}(f:α->β):∀(l:List α) (k:Nat),(l.map f).eraseIdx k=(l.eraseIdx k).map f
 | [],_=>rfl
 | _ :: _,0=>rfl
 | a :: l,k+1=>by simp[mG f l k]
theorem Iz {s:CD}{k:Int}{x y z:Option U}(hn:0 < s.names.length) (hn2:s.names.length<=8) (ht:s.tab.length<=100) (h3:0<=s.t.n) (h4:s.t.n < 900000) (hx:(x=none/\y=none/\z=none)\/∃a b c,x=some (.t a)/\y=some (.t b)/\z=some (.t c)):
  ∃a b c,(bName 4 (.int k) (j0 s x y z)).bind (eO mF cS)=some (.nx (j0 (cO s k) (some (.t a)) (some (.t b)) (some (.t c)))):=by
 have p1:=bB (t:=s.t) (m:=s.names.length) (by omega)
 have e1:=lq (t:=s.t) (m:=s.names.length) (by omega) (by omega) h3 (by omega)
 have e2:=lq (t:=bg s.t s.names.length) (m:=6) (by omega) (by omega) (by simp;omega) (by simp;omega)
 have e3:=E4 p1.1 p1.2
 have e4:(bz s.t s.names.length).toNat < s.names.length:=by omega
 have e5:-9223372036854775808<=bz s.t s.names.length:=by omega
 have e6:bz s.t s.names.length < 9223372036854775808:=by omega
 have e7:s.tab.length+1<=100000:=by omega
 refine⟨.int k,.str s.names[(bz s.t s.names.length).toNat],.int (wc 5 (s.left - 4+k) (bz (bg s.t s.names.length) 6)),?_⟩
 rcases hx with⟨rfl,rfl,rfl⟩ | ⟨a,b,c,rfl,rfl,rfl⟩
 ·simp[eO,j0,jK,e1,e2,ng,e3,e4,e5,e6,e7,cO,wc,mG]
 ·simp[eO,j0,jK,e1,e2,ng,e3,e4,e5,e6,e7,cO,wc,mG]
theorem we {s:CD}{k:Int}(hn:0 < s.names.length):(cO s k).names.length+1=s.names.length:=by
 have p1:=bB (t:=s.t) (m:=s.names.length) (by omega)
 have:(bz s.t s.names.length).toNat < s.names.length:=by omega
 show(s.names.eraseIdx _).length+1=_
 rw[List.length_eraseIdx,if_pos this]
 omega
@[simp] theorem Pj (s:CD) (k:Int):(cO s k).t.n=s.t.n+2:=by
 show(bg (bg s.t _) 6).n=_
 simp;omega
@[simp] theorem IA (s:CD) (k:Int):(cO s k).tab.length=s.tab.length+1:=by
 show(s.tab++[_]).length=_
 simp
theorem Be:∀(ks:List Int) (s:CD) (x y z:Option U),ks.length<=s.names.length->s.names.length<=8->s.tab.length+ks.length<=100->0<=s.t.n->s.t.n+2 * ks.length < 900000->((x=none/\y=none/\z=none)\/∃a b c,x=some (.t a)/\y=some (.t b)/\z=some (.t c))->
    ∃x' y' z',loop (bName 4) (eO mF cS) (ks.map D.int) (j0 s x y z)=some (.nx (j0 (ks.foldl cO s) x' y' z'))
  | [],s,x,y,z,_,_,_,_,_,_=>⟨x,y,z,rfl⟩
  | k :: ks, s, x, y, z, h1, h2, h3, h4, h5, hx => by
    have l1:ks.length+1<=s.names.length:=h1
    have l3:s.tab.length+(ks.length+1)<=100:=h3
    have l5:s.t.n+2 * ((ks.length+1:Nat):Int) < 900000:=h5
    have hn:0 < s.names.length:=by omega
    obtain⟨a,b,c,e⟩:=Iz (k:=k) hn h2 (by omega) h4 (by omega) hx
    have n1:=we (s:=s) (k:=k) hn
    obtain⟨x',y',z',ih⟩:=Be ks (cO s k) (some (.t a)) (some (.t b)) (some (.t c)) (by omega) (by omega) (by simp;omega) (by simp;omega) (by simp;omega) (.inr ⟨a,b,c,rfl,rfl,rfl⟩)
    refine⟨x',y',z',?_⟩
    show(bName 4 (.int k) (j0 s x y z)).bind (fun S1=>(eO mF cS S1).bind fun o=>match o with
      | .nx S2=>loop (bName 4) (eO mF cS) (ks.map D.int) S2
      | .ct S2=>loop (bName 4) (eO mF cS) (ks.map D.int) S2
      | .bk S2=>some (.nx S2)
      | .rt u S2=>some (.rt u S2))=_
    rw[<-Option.bind_assoc,e]
    exact ih
noncomputable def tabI (t:dG):Int:=([1,2,2,3,4]:List Int).getD (bz t 5).toNat 1
noncomputable def oU (t:dG):Nat:=(tabI t).toNat
noncomputable def upTo (n:Nat):List Int:=(List.range n).map fun(k:Nat)=>(k:Int)
noncomputable def iB (t:dG):CD:=(upTo (oU t)).foldl cO ⟨gg,[],12,bg t 5⟩
noncomputable def gX:FM
 | [.b (.dct kvs)]=>(oO kvs).bind fun t=>if 0<=t.n/\t.n < 800000 then some (.t (jK (iB t).tab),[.dct (cH (iB t).t)]) else none
 | _=>none
theorem Bf (n:Nat):nK 0 n=(upTo n).map D.int:=by
 unfold nK upTo
 simp
theorem DS (t:dG):1<=tabI t/\tabI t<=4:=by
 unfold tabI
 have p:=bB (t:=t) (m:=5) (by omega)
 generalize (bz t 5).toNat=i
 match i with
 | 0=>decide
 | 1=>decide
 | 2=>decide
 | 3=>decide
 | 4=>decide
 | _+5=>simp
theorem zP (t:dG):1<=oU t/\oU t<=4:=by
 have:=DS t
 unfold oU
 omega
theorem IB {t:dG}:gD [D.int 1,D.int 2,D.int 2,D.int 3,D.int 4] (bz t 5)=some (.int (tabI t)):=by
 have p:=bB (t:=t) (m:=5) (by omega)
 unfold tabI
 generalize bz t 5=i at p
 obtain⟨h0,h1⟩:=p
 have:i=0\/i=1\/i=2\/i=3\/i=4:=by omega
 rcases this with rfl | rfl | rfl | rfl | rfl <;> rfl
theorem E5:∀us r,gX us=some r->aW 7 (kD mF cS) us=some r:=by
 intro us r h
 unfold gX at h
 split at h
 ·rename_i kvs
  obtain⟨t,h1,h⟩:=aq h
  obtain⟨⟨h2,h3⟩,rfl⟩:=cV h
  obtain rfl:=oR h1
  have e1:=lq (t:=t) (m:=5) (by omega) (by omega) h2 (by omega)
  have b:=zP t
  obtain⟨x,y,z,e2⟩:=Be (upTo (oU t)) ⟨gg,[],12,bg t 5⟩ none none none (by simp[upTo,gg];omega) (by simp[gg]) (by simp[upTo];omega) (by simp;omega) (by simp[upTo];omega) (.inl ⟨rfl,rfl,rfl⟩)
  have bI:=DS t
  have e3:tabI t < 1000000:=by omega
  have e4:-1000000 < tabI t:=by omega
  rw[<-Bf] at e2
  simp only[j0] at e2
  have e0:mF []=some (.m (.lst (gg.map D.str)),[]):=rfl
  have e5:jK []= .tup []:=rfl
  rw[e5] at e2
  unfold oU at e2
  simp[aW,kD,e0,e1,IB,e3,e4,e2,iB,oU]
 ·cases h
noncomputable def Pk:D->Option (Str×Int)
 | .tup [.str z,.int i]=>some (z,i)
 | _=>none
noncomputable def Bg:List D->Option (List (Str×Int))
 | []=>some []
 | d :: ds=>(Pk d).bind fun p=>(Bg ds).map fun ps=>p :: ps
noncomputable def tabOf:D->Option (List (Str×Int))
 | .tup ds=>Bg ds
 | _=>none
@[simp] theorem E6 (T:List (Str×Int)):Bg (T.map fun p=>.tup [.str p.1,.int p.2])=some T:=by
 induction T with
 | nil=>rfl
 | cons p T ih=>simp[Bg,Pk,ih]
@[simp] theorem VM (T:List (Str×Int)):tabOf (jK T)=some T:=E6 T
theorem wg:∀{ds:List D}{T:List (Str×Int)},Bg ds=some T->ds=T.map fun p=>.tup [.str p.1,.int p.2]
  | [],T,h=>by cases h;rfl
  | d :: ds, T, h => by
    obtain⟨p,h1,h⟩:=aq h
    obtain⟨ps,h2,h⟩:=aH h
    subst h
    unfold Pk at h1
    split at h1
    . cases h1
      rw[wg h2]
      rfl
    . cases h1
theorem CF {d:D}{T:List (Str×Int)}(h:tabOf d=some T):d=jK T:=by
 unfold tabOf at h
 split at h
 ·rw[wg h];rfl
 ·cases h
noncomputable def gF (az:FM):GS:=
 (aZ (OJ (qJ 2 (g7 (bName 5) (g7 (bName 6) rF))) (dg 1 (eF (aO az (cC (aj 0) (aC (jH 1) bq))))))
 (cK 3 (eP cN (aa (eF (aj 3)) (aa (eF (eP cy (aa (eF (eP cy (aa (eF (aj 5)) (aa (eF (aO az (cC (aj 0) (aC (eF (eP cN (aa (eF (aj 6)) (aa (eC (.int 1)) aA)))) bq)))) aA)))) aA))) aA)))))
noncomputable def nj (az:FM):GS:=
 (aZ (cK 3 (eP cy aA))
 (aZ (nM (bName 4) (qu (aa (eF (aO az (cC (aj 0) (aC (eF (eP cN (aa (eF (aj 2)) (aa (eC (.int 1)) aA)))) bq)))) aA)) (gF az))
 (cj (aj 3))))
noncomputable def dU (T:List (Str×Int)) (s:List (Str×Int)×dG) (_:Int):List (Str×Int)×dG:=
 let p:=T.getD (bz s.2 T.length).toNat ("",0)
 let t1:=bg s.2 T.length
 (s.1++[(p.1,bz t1 (p.2+1))],bg t1 (p.2+1))
noncomputable def j3 (T:List (Str×Int)) (most:D) (s:List (Str×Int)×dG) (x y z:Option U):SS:=[some (.b (.dct (cH s.2))),some (.t (jK T)),some (.t most),some (.t (jK s.1)),x,y,z]
structure qy (T:List (Str×Int)):Prop where
 pos:0 < T.length
 len:T.length<=10
 mst:∀p∈T,0<=p.2/\p.2<=10
theorem IC {T:List (Str×Int)}{most:D}{s:List (Str×Int)×dG}{k:Int}{x y z:Option U}(ok:qy T) (hr:s.1.length<=1000) (h3:0<=s.2.n) (h4:s.2.n < 900000) (hx:(x=none/\y=none/\z=none)\/∃a b c,x=some (.t a)/\y=some (.t b)/\z=some (.t c)):
  ∃a b c,(bName 4 (.int k) (j3 T most s x y z)).bind (gF cS)=some (.nx (j3 T most (dU T s k) (some (.t a)) (some (.t b)) (some (.t c)))):=by
 have p0:=ok.pos
 have p00:=ok.len
 have p1:=bB (t:=s.2) (m:=T.length) (by omega)
 have e1:=lq (t:=s.2) (m:=T.length) (by omega) (by omega) h3 (by omega)
 have e4:(bz s.2 T.length).toNat < T.length:=by omega
 have e5:T.getD (bz s.2 T.length).toNat ("",0)=T[(bz s.2 T.length).toNat]:=by simp[List.getD,e4]
 have hm:=ok.mst _ (List.getElem_mem e4)
 have e2:=lq (t:=bg s.2 T.length) (m:=T[(bz s.2 T.length).toNat].2+1) (by omega) (by omega) (by simp;omega) (by simp;omega)
 have e3:gD (T.map fun p=>D.tup [.str p.1,.int p.2]) (bz s.2 T.length)=some (.tup [.str T[(bz s.2 T.length).toNat].1,.int T[(bz s.2 T.length).toNat].2]):=DI _ (by rw[Iw p1.1 p1.2])
 have e7:s.1.length+1<=100000:=by omega
 refine⟨.int k,.str T[(bz s.2 T.length).toNat].1,.int T[(bz s.2 T.length).toNat].2,?_⟩
 rcases hx with⟨rfl,rfl,rfl⟩ | ⟨a,b,c,rfl,rfl,rfl⟩
 ·simp[gF,j3,jK,e1,e2,e3,e7,dU,e4,qJ,g7,rF]
 ·simp[gF,j3,jK,e1,e2,e3,e7,dU,e4,qJ,g7,rF]
@[simp] theorem Bh (T:List (Str×Int)) (s:List (Str×Int)×dG) (k:Int):(dU T s k).1.length=s.1.length+1:=by simp[dU]
@[simp] theorem E7 (T:List (Str×Int)) (s:List (Str×Int)×dG) (k:Int):(dU T s k).2.n=s.2.n+2:=by simp[dU];omega
theorem Bj {T:List (Str×Int)}{most:D}(ok:qy T):∀(ks:List Int) (s:List (Str×Int)×dG) (x y z:Option U),s.1.length+ks.length<=1000->0<=s.2.n->s.2.n+2 * ks.length < 900000->((x=none/\y=none/\z=none)\/∃a b c,x=some (.t a)/\y=some (.t b)/\z=some (.t c))->
    ∃x' y' z',loop (bName 4) (gF cS) (ks.map D.int) (j3 T most s x y z)=some (.nx (j3 T most (ks.foldl (dU T) s) x' y' z'))
  | [],s,x,y,z,_,_,_,_=>⟨x,y,z,rfl⟩
  | k :: ks, s, x, y, z, h3, h4, h5, hx => by
    have l3:s.1.length+(ks.length+1)<=1000:=h3
    have l5:s.2.n+2 * ((ks.length+1:Nat):Int) < 900000:=h5
    obtain⟨a,b,c,e⟩:=IC (k:=k) (most:=most) ok (by omega) h4 (by omega) hx
    obtain⟨x',y',z',ih⟩:=Bj ok ks (dU T s k) (some (.t a)) (some (.t b)) (some (.t c)) (by simp;omega) (by simp;omega) (by simp;omega) (.inr ⟨a,b,c,rfl,rfl,rfl⟩)
    refine⟨x',y',z',?_⟩
    show(bName 4 (.int k) (j3 T most s x y z)).bind (fun S1=>(gF cS S1).bind fun o=>match o with
      | .nx S2=>loop (bName 4) (gF cS) (ks.map D.int) S2
      | .ct S2=>loop (bName 4) (gF cS) (ks.map D.int) S2
      | .bk S2=>some (.nx S2)
      | .rt u S2=>some (.rt u S2))=_
    rw[<-Option.bind_assoc,e]
    exact ih
noncomputable def sW (t:dG) (T:List (Str×Int)) (most:Int):List (Str×Int)×dG:=(upTo (bz t (most+1)).toNat).foldl (dU T) ([],bg t (most+1))
noncomputable def CG (T:List (Str×Int)):Bool:=decide (0 < T.length) && (decide (T.length<=10) && T.all fun p=>decide (0<=p.2) && decide (p.2<=10))
theorem wj {T:List (Str×Int)}:CG T=true↔qy T:=by
 unfold CG
 simp only[Bool.and_eq_true,decide_eq_true_eq,List.all_eq_true]
 exact⟨fun⟨a,b,c⟩=>⟨a,b,c⟩,fun⟨a,b,c⟩=>⟨a,b,c⟩⟩
noncomputable def nN:FM
 | [.b (.dct kvs),.t td,.t (.int most)]=>(oO kvs).bind fun t=>(tabOf td).bind fun T=>if CG T=true/\0<=most/\most<=100/\0<=t.n/\t.n < 700000 then some (.t (jK (sW t T most).1),[.dct (cH (sW t T most).2)]) else none
 | _=>none
theorem LH:∀us r,nN us=some r->aW 7 (nj cS) us=some r:=by
 intro us r h
 unfold nN at h
 split at h
 ·rename_i kvs td most
  obtain⟨t,h1,h⟩:=aq h
  obtain⟨T,h0,h⟩:=aq h
  obtain⟨⟨hT,h2,h3,h4,h5⟩,rfl⟩:=cV h
  obtain rfl:=oR h1
  obtain rfl:=CF h0
  have ok:=wj.mp hT
  have e1:=lq (t:=t) (m:=most+1) (by omega) (by omega) h4 (by omega)
  have p:=bB (t:=t) (m:=most+1) (by omega)
  obtain⟨x,y,z,e2⟩:=Bj (T:=T) (most:=.int most) ok (upTo (bz t (most+1)).toNat) ([],bg t (most+1)) none none none (by simp[upTo];omega) (by simp;omega) (by simp[upTo];omega) (.inl ⟨rfl,rfl,rfl⟩)
  have e3:bz t (most+1) < 1000000:=by omega
  have e4:-1000000 < bz t (most+1):=by omega
  rw[<-Bf] at e2
  simp only[j3] at e2
  have e5:jK []= .tup []:=rfl
  rw[e5] at e2
  simp[aW,nj,e1,e3,e4,e2,sW]
 ·cases h
noncomputable def Yy:List D:=[.dR,.bl true,.bl false,.int 0,.int (-1),.int 6,.int 10000000000000000000,.str "",.str "A",.str "a.b",.str "a1",.str "ninesigns",.tup [],.lst [],.tup [.str "a"],.lst [.str "a",.int 0],.tup [.str "a",.int 0]]
noncomputable def LI (t:dG):D:=Yy.getD (bz t 17).toNat .dR
noncomputable def zQ (t:dG) (d:D):D×dG:=
 match d with
 | .tup ds=>if bz t 8 < 5 then
   (([.tup (cutD ds none (some (bz (bg t 8) (ds.length+1)))),.tup (ds++cutD ds (some (bz (bg t 8) (ds.length+1))) none),.tup (cutD ds none (some (bz (bg t 8) (ds.length+1)))++cutD ds (some (bz (bg t 8) (ds.length+1)+1)) none),.lst ds,.tup (ds++[.tup ds])]:List D).getD (bz t 8).toNat .dR,bg (bg t 8) (ds.length+1))
  else(LI (bg t 8),bg (bg t 8) 17)
 | .int i=>if jh (.int i) 0 100000000000000000000=true/\bz t 8 < 5 then(([.int (i+1),.int (i - 1),.int 5,.int 9,.int 10]:List D).getD (bz t 8).toNat .dR,bg t 8) else(LI (bg t 8),bg (bg t 8) 17)
 | .str z=>if bz t 8 < 6 then(([.str (z++("a":Str)),.str (Txt.slice z (some 1) none),.str (z++("A":Str)),.str "x",.str "now",.str "less"]:List D).getD (bz t 8).toNat .dR,bg t 8) else(LI (bg t 8),bg (bg t 8) 17)
 | _=>(LI (bg t 8),bg (bg t 8) 17)
noncomputable def DT:Nat->dG->D->D×dG
  | k + 1, t, .tup ds => if ds.length = 0 then zQ t (.tup ds) else if 0 < bz t 4 then
      (.tup (cutD ds none (some (bz (bg t 4) ds.length))++[(DT k (bg (bg t 4) ds.length) (ds.getD (bz (bg t 4) ds.length).toNat .dR)).1]++cutD ds (some (bz (bg t 4) ds.length+1)) none),(DT k (bg (bg t 4) ds.length) (ds.getD (bz (bg t 4) ds.length).toNat .dR)).2)
    else zQ (bg t 4) (.tup ds)
  | _,t,d=>zQ t d
open Classical in
noncomputable def Yz (j:Nat):FM
 | [.b (.dct kvs),.t d,.t (.int k)]=>(oO kvs).bind fun t=>if 0<=k/\k < j/\Gj 5000 d/\0<=t.n/\t.n+2 * k < 600000 then some (.t (DT k.toNat t d).1,[.dct (cH (DT k.toNat t d).2)]) else none
 | _=>none
@[simp] theorem TM (g:GD) (lo hi:Option GD) (S:SS):sS g lo hi S=(g S).bind fun p=>(g9 lo p.2).bind fun l=>(g9 hi l.2).bind fun h=>(Li p.1 l.1 h.1).map fun u=>(u,h.2):=rfl
@[simp] theorem YA (S:SS):g9 none S=some (none,S):=rfl
@[simp] theorem YB (g:GD) (S:SS):g9 (some g) S=(g S).bind fun p=>match p.1 with | .int i=>some (some i,p.2) | _=>none:=rfl
@[simp] theorem LJ (ds:List D) (lo hi:Option Int):Li (.tup ds) lo hi=some (.t (.tup (cutD ds lo hi))):=rfl
@[simp] theorem LK (ds:List D) (lo hi:Option Int):Li (.lst ds) lo hi=some (.m (.lst (cutD ds lo hi))):=rfl
@[simp] theorem VN (z:Str) (lo hi:Option Int):Li (.str z) lo hi=if z.length<=100000 then some (.t (.str (Txt.slice z lo hi))) else none:=rfl
theorem ID:∀(ts:List D) (S:SS),S.length=ts.length->aT (ts.map U.t) S=some []
 | [],S,_=>by cases S <;> rfl
 | d :: ts,[],h=>by cases h
 | d :: ts,x :: S,h=>by
  show aT (U.t d :: ts.map U.t) (x :: S)=_
  rw[DR]
  exact ID ts S (by simpa using h)
theorem Nl (S:SS):∀ts:List D,cM S (ts.map U.t)=some (ts.map U.t)
 | []=>rfl
 | d :: ts=>by
  show(some (U.t d)).bind _=_
  rw[Nl S ts]
  rfl
theorem TN:∀ts:List D,slotsOf (ts.map U.t)=[]
 | []=>rfl
 | d :: ts=>TN ts
theorem TQ:∀ts:List D,dz (ts.map U.t)=0
 | []=>rfl
 | d :: ts=>TQ ts
theorem Pn (S:SS):∀ts:List D,wb (ts.map U.t) [] S=some S
 | []=>rfl
 | d :: ts=>Pn S ts
theorem zR {cap:List Nat}{q:GT}{g:GD}{S:SS}{ts:List D}(hc:g8 S cap=some (ts.map U.t)) (p:D->Bool) (f:D->D):∀(ds acc:List D),
    (∀d∈ds,q (some (.t d) :: ts.map fun x=>some (.t x))=some (p d,some (.t d) :: ts.map fun x=>some (.t x)))->(∀d∈ds,p d=true->g (some (.t d) :: ts.map fun x=>some (.t x))=some (f d,some (.t d) :: ts.map fun x=>some (.t x)))->
    gO cap q g ds S acc=some (acc++(ds.filter p).map f,S)
  | [],acc,_,_=>by simp[gO]
  | d :: ds, acc, hq, hg => by
    have em:(ts.map U.t).map some=ts.map fun x=>some (U.t x):=by simp
    have eo:aT (.t d :: ts.map U.t) (some (.t d) :: ts.map fun x=>some (.t x))=some []:=by rw[DR];exact ID ts _ (by simp)
    have q0:=hq d (List.mem_cons_self)
    unfold gO
    rw[hc]
    simp only[Option.bind_some]
    rw[if_pos ⟨by rw[TN];exact List.nodup_nil,by rw[TQ];exact Nat.zero_le _⟩,Nl]
    simp only[Option.bind_some]
    rw[em,q0]
    simp only[Option.bind_some]
    by_cases hp:p d=true
    . rw[if_pos hp,hg d List.mem_cons_self hp]
      simp only[Option.bind_some]
      rw[eo]
      simp only[Option.bind_some]
      rw[Pn]
      simp only[Option.bind_some]
      rw[zR hc p f ds (acc++[f d]) (fun e he=>hq e (List.mem_cons_of_mem _ he)) (fun e he=>hg e (List.mem_cons_of_mem _ he)),List.filter_cons_of_pos hp]
      simp
    . rw[if_neg hp,eo]
      simp only[Option.bind_some]
      rw[Pn]
      simp only[Option.bind_some]
      rw[zR hc p f ds acc (fun e he=>hq e (List.mem_cons_of_mem _ he)) (fun e he=>hg e (List.mem_cons_of_mem _ he)),List.filter_cons_of_neg hp]
theorem E8 {cap:List Nat}{g:GD}{S:SS}{ts:List D}(hc:g8 S cap=some (ts.map U.t)) (f:D->D) (ds acc:List D) (hg:∀d∈ds,g (some (.t d) :: ts.map fun x=>some (.t x))=some (f d,some (.t d) :: ts.map fun x=>some (.t x))):
  gO cap eZ g ds S acc=some (acc++ds.map f,S):=by
 rw[zR hc (fun _=>true) f ds acc (fun _ _=>rfl) (fun d hd _=>hg d hd),List.filter_eq_self.mpr (fun _ _=>rfl)]
@[simp] theorem LL (cap:List Nat) (gi:GI) (q:GT) (g:GD) (S:SS):oA cap gi q g S=(gi S).bind fun p=>if p.1.length<=100000 then(gO cap q g p.1 p.2 []).map fun r=>(.m (.lst r.1),r.2) else none:=rfl
theorem qN (g:GD) (S:SS):xB g S=(g S).bind fun p=>match p.1 with | .tup ds=>some (ds,p.2) | .lst ds=>some (ds,p.2) | .str z=>some (z.cps.toList.map fun c=>.str ⟨#[c]⟩,p.2) | _=>none:=rfl
noncomputable def jE (p:Str×Int):D:=.tup [.str p.1,.int p.2]
theorem sX {x:D}{z:Str}(h:ni (.str z) x=true):x= .str z:=by
 cases x <;> simp[ni] at h
 rw[h]
structure IE (z:Str):Prop where
 len:z.length<=8
 chs:∀c∈z.cps.toList,c < 16 ^ 8
theorem IF:∀z∈gg,IE z:=by
 intro z hz
 have:z∈(["a","ab","abc","b","any","name","x","zzzzzzzz"]:List Str):=hz
 simp only[List.mem_cons,List.not_mem_nil,or_false] at this
 rcases this with rfl | rfl | rfl | rfl | rfl | rfl | rfl | rfl <;> exact⟨by decide,by decide⟩
structure qO (p:Str×Int):Prop where
 nm:IE p.1
 lo:0<=p.2
 hi:p.2<=10
structure uA (k:Int) (s:CD):Prop where
 nd:(s.tab.map (·.1)++s.names).Nodup
 sub:∀z∈s.names,z∈gg
 ok:∀p∈s.tab,qO p/\p.2<=5
 left:4 - k<=s.left
theorem getD_mem {α:Type}{l:List α}{i:Nat}{x:α}(h:i < l.length):l.getD i x∈l:=by simp[List.getD,h]
theorem wm {α:Type}:∀(l:List α) (i:Nat) (h:i < l.length),(l[i] :: l.eraseIdx i).Perm l
 | a :: l,0,_=>List.Perm.refl _
 | a :: l,i+1,h=>(List.Perm.swap _ _ _).trans (List.Perm.cons a (wm l i (by simpa using h)))
theorem Bk {α:Type}:∀{as l:List α}{i:Nat}{x:α},(as++l).Nodup->i < l.length->((as++[l.getD i x])++l.eraseIdx i).Nodup:=fun {as l i x} nd hi=>by
 have e:l.getD i x=l[i]:=by simp[List.getD,hi]
 rw[e]
 have p:(as++[l[i]]++l.eraseIdx i).Perm (as++l):=by
  rw[List.append_assoc]
  refine List.Perm.append_left as ?_
  show(l[i] :: l.eraseIdx i).Perm l
  exact wm l i hi
 exact p.nodup_iff.mpr nd
theorem LM {k:Int}{s:CD}(h:uA k s) (hk:k<=4) (hn:0 < s.names.length):uA (k+1) (cO s k):=by
 have p1:=bB (t:=s.t) (m:=s.names.length) (by omega)
 have hi:(bz s.t s.names.length).toNat < s.names.length:=by omega
 have p2:=bB (t:=bg s.t s.names.length) (m:=6) (by omega)
 have hl:=h.left
 have hm:0<=wc 5 (s.left - 4+k) (bz (bg s.t s.names.length) 6)/\wc 5 (s.left - 4+k) (bz (bg s.t s.names.length) 6)<=5/\wc 5 (s.left - 4+k) (bz (bg s.t s.names.length) 6)<=s.left - 4+k:=by
  unfold wc
  split <;> split <;> omega
 refine⟨?_,fun z hz=>?_,fun p hp=>?_,?_⟩
 ·show((s.tab++[((s.names.getD (bz s.t s.names.length).toNat "",wc 5 (s.left - 4+k) (bz (bg s.t s.names.length) 6)):Str×Int)]).map (fun(p:Str×Int)=>p.1)++s.names.eraseIdx (bz s.t s.names.length).toNat).Nodup
  rw[List.map_append]
  exact Bk h.nd hi
 ·exact h.sub z (List.mem_of_mem_eraseIdx hz)
 ·rcases List.mem_append.mp hp with hp | hp
  ·exact h.ok p hp
  ·have hp:=List.mem_singleton.mp hp
   subst hp
   exact⟨⟨IF _ (h.sub _ (getD_mem hi)),hm.1,by show wc _ _ _<=10;omega⟩,hm.2.1⟩
 ·show 4 - (k+1)<=s.left - wc 5 (s.left - 4+k) (bz (bg s.t s.names.length) 6) - 1
  omega
theorem vg:∀(n:Nat) (s:CD),n<=4->uA 0 s->n<=s.names.length->uA n ((upTo n).foldl cO s)/\((upTo n).foldl cO s).tab.length=s.tab.length+n/\((upTo n).foldl cO s).names.length+n=s.names.length/\((upTo n).foldl cO s).t.n=s.t.n+2 * n
  | 0,s,_,h,_=>⟨h,rfl,rfl,by simp[upTo]⟩
  | n + 1, s, hn, h, hl => by
    obtain⟨i1,i2,i3,i4⟩:=vg n s (by omega) h (by omega)
    have e:(upTo (n+1)).foldl cO s=cO ((upTo n).foldl cO s) n:=by
      unfold upTo
      rw[List.range_succ,List.map_append,List.foldl_append]
      rfl
    rw[e]
    have st:=LM i1 (by omega) (by omega)
    refine⟨?_,?_,?_,?_⟩
    . have e2:((n+1:Nat):Int)=(n:Int)+1:=by omega
      rw[e2];exact st
    . rw[IA];omega
    . have:=we (s:=(upTo n).foldl cO s) (k:=n) (by omega);omega
    . rw[Pj];omega
theorem Bl (t:dG):((iB t).tab.map (·.1)).Nodup/\qy (iB t).tab/\(∀p∈(iB t).tab,qO p)/\(iB t).tab.length<=4/\t.n+1<=(iB t).t.n/\(iB t).t.n<=t.n+9:=by
 have b:=zP t
 have h0:uA 0 ⟨gg,[],12,bg t 5⟩:=⟨by show([]++gg).Nodup;decide,fun z hz=>hz,(fun p hp=>by cases hp),by show(4:Int) - 0<=12;omega⟩
 obtain⟨i1,i2,i3,i4⟩:=vg (oU t) ⟨gg,[],12,bg t 5⟩ b.2 h0 (by show oU t<=8;omega)
 have e:(upTo (oU t)).foldl cO ⟨gg,[],12,bg t 5⟩=iB t:=rfl
 rw[e] at i1 i2 i3 i4
 have i2:(iB t).tab.length=0+oU t:=i2
 have i4:(iB t).t.n=(bg t 5).n+2 * (oU t:Int):=i4
 rw[fP] at i4
 refine⟨(List.nodup_append.mp i1.nd).1,⟨by omega,by omega,fun p hp=>⟨(i1.ok p hp).1.lo,(i1.ok p hp).1.hi⟩⟩,fun p hp=>(i1.ok p hp).1,by omega,by omega,by omega⟩
theorem Bm {T : List (Str × Int)} (ok : qy T) (hp : ∀ p ∈ T, qO p) : ∀ (ks : List Int) (s : List (Str × Int) × dG), (∀ p ∈ s.1, qO p) -> (∀ p ∈ (ks.foldl (dU T) s).1, qO p) /\ (ks.foldl (dU T) s).1.length = s.1.length + ks.length /\ (ks.foldl (dU T) s).2.n = s.2.n + 2 * ks.length
  | [],s,h=>⟨h,rfl,by simp⟩
  | k :: ks, s, h => by
    have p0:=ok.pos
    have p1:=bB (t:=s.2) (m:=T.length) (by omega)
    have hi:(bz s.2 T.length).toNat < T.length:=by omega
    have hq:=hp _ (getD_mem (x:=(("":Str),(0:Int))) hi)
    obtain⟨i1,i2,i3⟩:=Bm ok hp ks (dU T s k) (fun p hp'=>by
      rcases List.mem_append.mp (show p∈s.1++[_] from hp') with h1 | h1
      . exact h p h1
      . have h1:=List.mem_singleton.mp h1
        subst h1
        have a:=hq.lo
        have b:=hq.hi
        have r:=bB (t:=bg s.2 T.length) (m:=(T.getD (bz s.2 T.length).toNat ("",0)).2+1) (by omega)
        exact⟨hq.nm,r.1,by show bz _ _<=10;omega⟩)
    refine⟨i1,?_,?_⟩
    . show((ks.foldl (dU T) (dU T s k)).1).length=s.1.length+(ks.length+1)
      rw[i2,Bh];omega
    . show((ks.foldl (dU T) (dU T s k)).2).n=s.2.n+2 * ((ks.length+1:Nat):Int)
      rw[i3,E7];omega
theorem E9 {T:List (Str×Int)}(ok:qy T) (hp:∀p∈T,qO p) (t:dG){most:Int}(h0:0<=most):(∀p∈(sW t T most).1,qO p)/\((sW t T most).1.length:Int)<=most/\t.n+1<=(sW t T most).2.n/\(sW t T most).2.n<=t.n+1+2 * most:=by
 obtain⟨i1,i2,i3⟩:=Bm ok hp (upTo (bz t (most+1)).toNat) ([],bg t (most+1)) (fun p hp=>by cases hp)
 have r:=bB (t:=t) (m:=most+1) (by omega)
 have e:(upTo (bz t (most+1)).toNat).length=(bz t (most+1)).toNat:=by simp[upTo]
 rw[e] at i2 i3
 have i2:(sW t T most).1.length=0+(bz t (most+1)).toNat:=i2
 have i3:(sW t T most).2.n=(bg t (most+1)).n+2 * ((bz t (most+1)).toNat:Int):=i3
 rw[fP] at i3
 exact⟨i1,by omega,by omega,by omega⟩
noncomputable def CH (n:Nat):FM
 | [.s ns]=>if ns.length<=n then some (.t (.bl true),[]) else none
 | _=>none
theorem sY {P:Program}{w:World}{K:PySem.W.Frag}{mg:Str->Option Value}{base:Heap}{f:Addr}{fd:FuncData}{n k:Nat}{ps:List Str}{fm:FM}(h:∀us,fm us=none):bZ P w K mg base gn n f fd ps (spT K k fm):=by
 have no:∀vs H Q E,¬spT K k fm vs H Q E:=fun vs H Q E ⟨_,F,us,r,outs,_,_,_,e,_⟩=>by rw[h us] at e;cases e
 exact⟨fun vs H Q E h=>absurd h (no vs H Q E),fun A outer s H args us vs Q E _ _ _ _ h=>absurd h (no vs H Q E)⟩
theorem Po {K:PySem.W.Frag}{H:Hp}{a:Addr}{ns:List Int}{n:Nat}{E:XK}(hl:ns.length<=n) (hO:KZ H) (hS:nT K H a (ns.map V.int)):spT K 1 (CH n) [.ref a] H (fun v _=>v= .bl true) E:=by
 have sc:K7 K H a ns:=by
  rcases hS with(h | h) | h
  ·rcases hO a with z | ⟨o,xs,z⟩
   ·rw[h] at z;cases z
   ·rw[h] at z;cases z
  ·exact .inl h
  ·exact .inr h
 exact⟨rfl,fun _=>none,[.s ns],.t (.bl true),[],(fun b o z=>by cases z),.cons ⟨a,rfl,sc⟩ .nil,List.nodup_nil,by simp[CH,hl],fun v F' H' _ r=>iO r⟩
noncomputable def LET:Str:="abcdefghijklmnopqrstuvwxyz"
noncomputable def YC (y:Str):Bool:=!(Builtin.Str.occurrences LET y 0 LET.length 1).isEmpty
noncomputable def signs (z:Str):List Str:=z.cps.toList.map fun c=>(⟨#[c]⟩:Str)
noncomputable def nameB:D->Bool
 | .str z=>decide (1<=z.length) && decide (z.length<=8) && (signs z).all YC
 | _=>false
end Sw
end
section
namespace L2
open PySem PySem.Spec PyProof.Rows
section
variable (S:SS) (d:D) (i:Nat) (g ga gb gc:GD) (gA:GA)
@[simp] theorem VO (k:Bool):Cs [.bl k]=some (.t (.int (if k then 1 else 0))):=rfl
@[simp] theorem IG (ds:List D) (k:Int):zF [.lst ds,.int k]=if 0<=k/\k.toNat<=100000/\ds.length * k.toNat<=100000 then some (.m (.lst (List.replicate k.toNat ds).flatten)) else none:=rfl
@[simp] theorem VP:Ia gA S=(gA S).bind fun p=>match p.1 with
 | [d]=>(oK d).map fun q=>(qx q.2,p.2)
 | _=>none:=rfl
@[simp] theorem VQ:yu gA S=(gA S).bind fun p=>match p.1 with
 | [d,e]=>(oK d).bind fun q=>(oK e).map fun r=>(List.zipWith (fun a b=>.tup [a,b]) q.2 r.2,p.2)
 | _=>none:=rfl
@[simp] theorem II (ds:List D):oK (.lst ds)=some (true,ds):=rfl
@[simp] theorem IJ (ds:List D):oK (.tup ds)=some (false,ds):=rfl
@[simp] theorem VR (x y:Int):S5 [.int x,.int y]=some (.t (.int (if y < x then y else x))):=rfl
end
end L2
namespace Sq
open PySem PySem.Spec PyProof.Rows L2 Sw
theorem zS {bd:GB}{body:GS}:∀(ds:List D) (I:List D->SS->Prop) (S:SS),I ds S->(∀d r S,I (d :: r) S->∃S1 S2,bd d S=some S1/\body S1=some (.nx S2)/\I r S2)->∃S',loop bd body ds S=some (.nx S')/\I [] S'
 | [],I,S,h,_=>⟨S,rfl,h⟩
 | d :: ds,I,S,h,k=>by
  obtain⟨S1,S2,e1,e2,h2⟩:=k d ds S h
  obtain⟨S',e,h'⟩:=zS ds I S2 h2 k
  refine⟨S',?_,h'⟩
  show((bd d S).bind fun S1=>(body S1).bind _)=_
  rw[e1,Option.bind_some,e2,Option.bind_some]
  exact e
theorem wu (cap : List Nat) (q : GT) (g : GD) (d : D) (ds : List D) (S : SS) (acc : List D) : gO cap q g (d :: ds) S acc = (gO cap q g [d] S acc).bind fun r => gO cap q g ds r.2 r.1 := by
  simp only[gO]
  cases g8 S cap with
  | none=>rfl
  | some us =>
    simp only[Option.bind_some]
    split
    . cases cM S us with
      | none=>rfl
      | some ws =>
        simp only[Option.bind_some]
        cases q (some (.t d) :: ws.map some) with
        | none=>rfl
        | some p=>
          simp only[Option.bind_some]
          split
          . cases g p.2 with
            | none=>rfl
            | some r=>
              simp only[Option.bind_some]
              cases aT (.t d :: ws) r.2 with
              | none=>rfl
              | some outs=>
                simp only[Option.bind_some]
                cases wb us outs S with
                | none=>rfl
                | some S'=>rfl
          . cases aT (.t d :: ws) p.2 with
            | none=>rfl
            | some outs=>
              simp only[Option.bind_some]
              cases wb us outs S with
              | none=>rfl
              | some S'=>rfl
    . rfl
theorem sZ {α:Type}{l:List α}{i:Int}{x:α}(h0:0<=i) (h:l[i.toNat]? =some x):gD l i=some x:=by
 have hl:=(List.getElem?_eq_some_iff.mp h).1
 unfold gD Cc
 rw[if_pos h0,if_pos (by omega)]
 exact h
theorem Pp {α:Type}{l:List α}{i:Int}(h0:0<=i) (h1:i < l.length):∃x,gD l i=some x/\l[i.toNat]? =some x:=by
 have h:i.toNat < l.length:=by omega
 exact⟨l[i.toNat],sZ h0 (List.getElem?_eq_getElem h),List.getElem?_eq_getElem h⟩
theorem yG {gA:GA}{S S':SS}{j:Int}(h:gA S=some ([.int j],S')) (h1:j < 1000000) (h2:-1000000 < j):qu gA S=some (nK 0 j.toNat,S'):=by
 unfold qu
 rw[h]
 simp only[Option.bind_some]
 rw[if_pos ⟨h1,h2⟩]
noncomputable abbrev fd (c i l:Int):MO:=.lst [.int c,.int i,.int l]
end Sq
end
section
namespace L2
open PySem PySem.Spec PyProof.Rows
noncomputable def qj:Option U->Bool
 | some (.b _)=>true
 | _=>false
@[simp] theorem acG:qj none=false:=rfl
@[simp] theorem acH (d:D):qj (some (.t d))=false:=rfl
@[simp] theorem acI (o:MO):qj (some (.m o))=false:=rfl
theorem fQ (i:Nat) (u:U) (S:SS):rE i u S=(S[i]?).bind fun x=>if qj x then none else some (S.set i (some u)):=by
 unfold rE
 cases S[i]? with
 | none=>rfl
 | some x=>cases x with
  | none=>rfl
  | some u=>cases u <;> rfl
@[simp] theorem YD (n:Nat) (bs:Ko) (ds:List D) (S:SS):qJ n bs (.tup ds) S=if ds.length=n then bs ds S else none:=rfl
@[simp] theorem VS (b:GB) (bs:Ko) (d:D) (r:List D) (S:SS):g7 b bs (d :: r) S=(b d S).bind fun S1=>bs r S1:=rfl
@[simp] theorem YE (S:SS):rF [] S=some S:=rfl
@[simp] theorem VT (S:SS):Ib S=some (.m (.cU []),S):=rfl
@[simp] theorem Pq (kvs:List (D×D)) (k:D):qw (.b (.cU kvs)) k=(uL k).bind (cz kvs):=by cases k <;> rfl
@[simp] theorem Q9 (kvs:List (D×D)) (k d:D):sR (.cU kvs) k d=(uL k).bind fun kk=>if kvs.length < 10000000 then some (.cU (putD kvs kk d)) else none:=by cases k <;> rfl
@[simp] theorem TR (z:Str):yf (.str z)=true:=rfl
@[simp] theorem TU (b:Bool):yf (.bl b)=true:=rfl
@[simp] theorem TV (b:Int):yf (.int b)=true:=rfl
@[simp] theorem TM (g:GD) (lo hi:Option GD) (S:SS):sS g lo hi S=(g S).bind fun p=>(g9 lo p.2).bind fun l=>(g9 hi l.2).bind fun h=>(Li p.1 l.1 h.1).map fun u=>(u,h.2):=rfl
@[simp] theorem Rb (S:SS):g9 none S=some (none,S):=rfl
@[simp] theorem Rc (g:GD) (S:SS):g9 (some g) S=(g S).bind fun p=>match p.1 with | .int i=>some (some i,p.2) | _=>none:=rfl
@[simp] theorem LJ (ds:List D) (lo hi:Option Int):Li (.tup ds) lo hi=some (.t (.tup (cutD ds lo hi))):=rfl
@[simp] theorem LK (ds:List D) (lo hi:Option Int):Li (.lst ds) lo hi=some (.m (.lst (cutD ds lo hi))):=rfl
@[simp] theorem Pr (ds:List D):jj [] (.lst ds)=some (.dR,.lst ds.reverse):=rfl
theorem oV {bd:GB}{body:GS}(ds:List D) (I:Nat->SS->Prop) (S:SS) (h0:I 0 S) (hs:∀j d S,ds[j]? =some d->I j S->∃S1 S2,bd d S=some S1/\body S1=some (.nx S2)/\I (j+1) S2):∃S',loop bd body ds S=some (.nx S')/\I ds.length S':=by
 obtain⟨S',e,j,hr,hj,hI⟩:=Sq.zS (bd:=bd) (body:=body) ds (fun r S=>∃j,ds.drop j=r/\j<=ds.length/\I j S) S ⟨0,rfl,Nat.zero_le _,h0⟩ (by
  rintro d r S ⟨j,hr,hj,hI⟩
  have hlt:j < ds.length:=by
   have:=congrArg List.length hr
   rw[List.length_drop,List.length_cons] at this
   omega
  rw[List.drop_eq_getElem_cons hlt] at hr
  injection hr with h1 h2
  obtain⟨S1,S2,e1,e2,h3⟩:=hs j d S (by rw[List.getElem?_eq_getElem hlt,h1]) hI
  exact⟨S1,S2,e1,e2,j+1,h2,hlt,h3⟩)
 have:j=ds.length:=by
  have:=congrArg List.length hr
  rw[List.length_drop,List.length_nil] at this
  omega
 subst this
 exact⟨S',e,hI⟩
theorem comp_map {cap:List Nat}{g:GD}{S:SS}(f:D->D):∀(ds acc:List D),(∀d∈ds,∀acc,gO cap eZ g [d] S acc=some (acc++[f d],S))->gO cap eZ g ds S acc=some (acc++ds.map f,S)
 | [],acc,_=>by simp[gO]
 | d :: ds,acc,h=>by
  rw[Sq.wu,h d List.mem_cons_self,Option.bind_some,comp_map f ds (acc++[f d]) fun e he=>h e (List.mem_cons_of_mem _ he)]
  simp
theorem DU {n j:Nat}{d:D}(h:(nK 0 n)[j]? =some d):j < n/\d= .int j:=by
 unfold nK at h
 rw[List.getElem?_map] at h
 cases e:(List.range n)[j]? with
 | none=>rw[e] at h;cases h
 | some k=>
  rw[e] at h
  obtain⟨h1,h2⟩:=List.getElem?_eq_some_iff.mp e
  rw[List.getElem_range] at h2
  rw[List.length_range] at h1
  subst h2
  refine⟨h1,?_⟩
  have:=Option.some.inj h
  rw[<-this]
  show D.int (0+(j:Int))=_
  rw[Int.zero_add]
end L2
end
section
namespace Ss
open PySem PySem.Spec PyProof.Rows L2 Sw
@[simp] theorem YF (kvs:List (Str×Int)) (g:GD) (S:SS):Lz kvs g S=(g S).bind fun p=>match p.1 with | .str z=>(nF kvs z).map fun i=>(.int i,p.2) | _=>none:=rfl
@[simp] theorem YG (n:Bool) (zs:List Str) (g:GD) (S:SS):LB n zs g S=(g S).map fun p=>(.bl (n != inD p.1 (zs.map D.str)),p.2):=rfl
theorem d7 (a:D) (r:List D):gD (a :: r) 0=some a:=by
 unfold gD Cc
 rw[if_pos (by decide),if_pos (by simp only[List.length_cons];omega)]
 rfl
theorem fR (a b:D) (r:List D):gD (a :: b :: r) 1=some b:=by
 unfold gD Cc
 rw[if_pos (by decide),if_pos (by simp only[List.length_cons];omega)]
 rfl
theorem nk (a b c:D) (r:List D):gD (a :: b :: c :: r) 2=some c:=by
 unfold gD Cc
 rw[if_pos (by decide),if_pos (by simp only[List.length_cons];omega)]
 rfl
theorem LN (x:D) (zs:List Str):Xq [x,.tup (zs.map D.str)]=some (.t (.bl (inD x (zs.map D.str)))):=by
 have:gP (zs.map D.str)<=40:=by rw[L2.rN];omega
 cases x <;> simp[Xq,this]
noncomputable def Bo:List Str:=["less","same","more"]
noncomputable def Rf:List Str:=["each","one"]
noncomputable def qz (bs:List Str):D->Bool
 | .tup [a]=>ni a (.str "any")
 | .tup [a,b]=>if ni a (.str "name") then nameB b else inD a (Bo.map D.str) && (jh b 0 9 || inD b (bs.map D.str))
 | _=>false
noncomputable def LEN:List (Str×Int):=[("yes",1),("no",1),("now",2),("not",2),("both",3),("either",3),("next",2),("till",3),("within",3),("always",2),("some",2),("each",4),("one",4)]
noncomputable def VU:List (Str×Int):=[("yes",1),("no",1),("now",2),("not",1),("both",1),("either",1),("next",1),("till",1),("within",2),("always",1),("some",1),("each",3),("one",3)]
noncomputable def j4 (z:Str):Int:=(nF LEN z).getD 0
noncomputable def fc (z:Str):Nat:=((nF VU z).getD 0).toNat
noncomputable def fT (z:Str):Bool:=inD (.str z) (Rf.map D.str)
noncomputable def nG:List Str:=["yes","no","now","not","both","either","next","till","within","always","some","each","one"]
theorem zT {kvs:List (Str×Int)}{z:Str}(h:z∉kvs.map (·.1)):nF kvs z=none:=by
 unfold nF
 have:kvs.find? (fun p=>decide (p.1=z))=none:=List.find?_eq_none.mpr fun p hp q=>h (by rw[<-of_decide_eq_true q];exact List.mem_map_of_mem hp)
 rw[this]
 rfl
theorem Fb {z:Str}(h:z∉nG):j4 z=0:=by unfold j4;rw[zT (show z∉LEN.map (·.1) from h)];rfl
theorem Bp {z:Str}(h:j4 z≠0):z∈nG:=Classical.byContradiction fun q=>h (Fb q)
structure zU (z:Str):Prop where
 vN:nF VU z=some ((fc z:Nat):Int)
 s1:1<=fc z
 s4:(fc z:Int)<=j4 z
 l4:j4 z<=4
 few:j4 z - fc z<=2
theorem nq:∀z∈nG,zU z:=by
 intro z hz
 simp only[nG,List.mem_cons,List.not_mem_nil,or_false] at hz
 rcases hz with rfl | rfl | rfl | rfl | rfl | rfl | rfl | rfl | rfl | rfl | rfl | rfl | rfl <;> exact⟨by decide,by decide,by decide,by decide,by decide⟩
noncomputable def lu:GS:=
 (cj (sS (eF (aj 0)) (some (Lz [("yes",1),("no",1),("now",2),("not",1),("both",1),("either",1),("next",1),("till",1),("within",2),("always",1),("some",1),("each",3),("one",3)] (dg 0 (eC (.int 0))))) none))
noncomputable def qP:FM:=aW 1 lu
theorem Fc:∀us r,qP us=some r->aW 1 lu us=some r:=fun _ _ h=>h
theorem Bq (ds:List D) (k:Nat):L2.cutD ds (some (k:Int)) none=ds.drop k:=by
 unfold L2.cutD
 rw[HT.vB,HT.zc]
 by_cases h:k<=ds.length
 ·rw[Nat.min_eq_left h,List.take_of_length_le (by rw[List.length_drop];omega)]
 ·rw[Nat.min_eq_right (by omega),List.drop_of_length_le (Nat.le_refl _),List.drop_of_length_le (by omega),List.take_nil]
theorem IK {z:Str}{r:List D}(h:zU z):qP [.t (.tup (.str z :: r))]=some (.t (.tup ((.str z :: r).drop (fc z))),[]):=by
 have e:=h.vN
 unfold VU at e
 have c:=Bq (.str z :: r) (fc z)
 simp[qP,aW,lu,d7,e,c,aT]
noncomputable def gz (bs:List Str) (z:Str) (r:List D):Bool:=
 if j4 z=(r.length:Int)+1 then
  (match r with
  | []=>true
  | a :: r2=>if z="now" then qz bs a else if z="within" then jh a 0 5 else if fT z then(match r2 with | b :: _=>nameB a && nameB b | []=>false) else true)
 else false
noncomputable def strOf:D->Str
 | .str z=>z
 | _=>""
noncomputable def jo (bs:List Str) (z:Str) (r:List D):List Str:=if fT z=true then bs++[strOf (r.getD 1 .dR)] else bs
noncomputable def d8 (z:Str) (r:List D):List D:=(.str z :: r).drop (fc z)
noncomputable def iC:Nat->List Str->D->Bool
 | 0,_,_=>false
 | n+1,bs,.tup (.str z :: r)=>gz bs z r && (d8 z r).all (iC n (jo bs z r))
 | _+1,_,_=>false
theorem CI {bs:List Str}{z:Str}{r:List D}(h:gz bs z r=true):j4 z=(r.length:Int)+1/\zU z/\z∈nG:=by
 unfold gz at h
 split at h
 ·rename_i c
  have:=Bp (z:=z) (by omega)
  exact⟨c,nq z this,this⟩
 ·cases h
theorem oW {d:D}(h:nameB d=true):∃y,d= .str y:=by
 cases d with
 | str z=>exact⟨z,rfl⟩
 | _=>cases h
noncomputable def cF:Nat->D->List D
 | 0,_=>[]
 | n+1,.tup (.str z :: r)=>.tup (.str z :: r) :: (d8 z r).flatMap (cF n)
 | _+1,d=>[d]
theorem wz {n : Nat} {bs : List Str} {d : D} (h : iC (n + 1) bs d = true) : ∃ z r, d = .tup (.str z :: r) /\ gz bs z r = true /\ ∀ p ∈ d8 z r, iC n (jo bs z r) p = true := by
  cases d with
  | tup ds =>
    cases ds with
    | nil=>cases h
    | cons a r=>
      cases a with
      | str z=>
        obtain⟨h1,h2⟩:=Bool.and_eq_true_iff.mp (show(gz bs z r && (d8 z r).all (iC n (jo bs z r)))=true from h)
        exact⟨z,r,rfl,h1,fun p hp=>List.all_eq_true.mp h2 p hp⟩
      | _=>cases h
  | _=>cases h
noncomputable def rQ (n:Nat) (d:D):Nat:=(cF n d).length
noncomputable def kE:D->Bool
 | .tup (.str z :: _)=>fT z
 | _=>false
noncomputable def zV (n:Nat) (d:D):Nat:=((cF n d).filter kE).length
@[simp] theorem LO (ve:List (Str×GD)) (S:SS):uy ve S=(jI ve S).map fun p=>(.m (.dct (oH [] p.1)),p.2):=rfl
@[simp] theorem zW (S:SS):jI [] S=some ([],S):=rfl
@[simp] theorem xF (z:Str) (g:GD) (r:List (Str×GD)) (S:SS):jI ((z,g) :: r) S=(g S).bind fun p=>(jI r p.2).map fun q=>((.inr z,p.1) :: q.1,q.2):=rfl
section
variable {f1 f2 f3 f4 f5:FM}{z:Str}{r:List D}{vs dp:D}{c0 c1:Int}
theorem LP (z:Str):Xq [.str z,.tup [.str "each",.str "one"]]=some (.t (.bl (fT z))):=LN (.str z) Rf
end
theorem DV:j4 "now" =2/\j4 "within" =3:=by decide
theorem wA (n:Nat) (z:Str) (r:List D):(rQ (n+1) (.tup (.str z :: r)):Int)=1+(((d8 z r).flatMap (cF n)).length:Int):=by
 unfold rQ
 show(((.tup (.str z :: r):D) :: (d8 z r).flatMap (cF n)).length:Int)=_
 rw[List.length_cons]
 push_cast
 omega
theorem zX (n:Nat) (z:Str) (r:List D):(zV (n+1) (.tup (.str z :: r)):Int)=(if fT z=true then 1 else 0)+((((d8 z r).flatMap (cF n)).filter kE).length:Int):=by
 unfold zV
 show((((.tup (.str z :: r):D) :: (d8 z r).flatMap (cF n)).filter kE).length:Int)=_
 by_cases h:fT z=true
 ·rw[List.filter_cons_of_pos (by exact h),if_pos h,List.length_cons]
  push_cast
  omega
 ·rw[List.filter_cons_of_neg (by exact h),if_neg h]
  omega
theorem gI (n:Nat) (bs:List Str) (z:Str) (r:List D):iC (n+1) bs (.tup (.str z :: r))=true↔gz bs z r=true/\∀p∈d8 z r,iC n (jo bs z r) p=true:=by
 show(gz bs z r && (d8 z r).all (iC n (jo bs z r)))=true↔_
 rw[Bool.and_eq_true_iff,List.all_eq_true]
theorem Br {bs:List Str}{z:Str}{r:List D}(c:j4 z=(r.length:Int)+1) (n1:¬z="now") (n2:¬(z="within"/\jh (r.getD 0 .dR) 0 5=false)) (hb:fT z=false):gz bs z r=true:=by
 unfold gz
 rw[if_pos c]
 cases r with
 | nil=>rfl
 | cons a q=>
  simp only[n1,if_false,hb]
  by_cases k:z="within"
  ·rw[if_pos k]
   cases w:jh a 0 5 with
   | true=>rfl
   | false=>exact absurd ⟨k,w⟩ n2
  ·rw[if_neg k]
   rfl
end Ss
end
section
namespace Sd
open PySem PySem.Spec PyProof.Rows L2 Sw Ss
@[simp] theorem LO (ve:List (Str×GD)) (S:SS):uy ve S=(jI ve S).map fun p=>(.m (.dct (oH [] p.1)),p.2):=rfl
@[simp] theorem zW (S:SS):jI [] S=some ([],S):=rfl
@[simp] theorem xF (z:Str) (g:GD) (r:List (Str×GD)) (S:SS):jI ((z,g) :: r) S=(g S).bind fun p=>(jI r p.2).map fun q=>((.inr z,p.1) :: q.1,q.2):=rfl
end Sd
end
section
namespace Sn
open PySem PySem.Spec PyProof.Rows L2 Sw Ss
structure Dr (deep:Nat) (bs:List Str) (room:Nat) (bin:Nat) (d:D):Prop where
 fm:iC deep bs d=true
 sz:rQ deep d<=room
 bn:zV deep d=bin
 fit:Gj 8 d
 dep:gW d<=deep+1
class CJ (nms:List Str):Prop where
 ok:∀z∈nms,nameB (.str z)=true/\z.length<=8
 pos:0 < nms.length
 few:nms.length < 900
noncomputable def qZ (nms:List Str):List D:=nms.map D.str
theorem rR (nms:List Str):(qZ nms).length=nms.length:=by unfold qZ;rw[List.length_map]
noncomputable def Bs (nms:List Str) (b:Int):List (Key×D):=[(.inr "names",.lst (qZ nms)),(.inr "binders",.int b)]
theorem Nm (nms:List Str) (b:Int):cz (Bs nms b) (.inr "names")=some (.lst (qZ nms)):=rfl
theorem Nn (nms:List Str) (b:Int):cz (Bs nms b) (.inr "binders")=some (.int b):=rfl
theorem Np (nms:List Str) (b x:Int):putD (Bs nms b) (.inr "binders") (.int x)=Bs nms x:=rfl
theorem IL {nms:List Str} [hn:CJ nms] {i:Int}(h0:0<=i) (h1:i < nms.length):∃z,gD (qZ nms) i=some (.str z)/\nameB (.str z)=true/\z.length<=8:=by
 have h:i.toNat < nms.length:=by omega
 refine⟨nms[i.toNat],Sq.sZ h0 (by unfold qZ;rw[List.getElem?_map,List.getElem?_eq_getElem h];rfl),?_⟩
 exact hn.ok _ (List.getElem_mem h)
noncomputable abbrev tp (t:dG):MO:=.dct (cH t)
theorem gJ {t:dG}{m:Int}(h1:0 < m) (h2:m < 1000) (h3:0<=t.n) (h4:t.n < 900000):cS [.b (tp t),.t (.int m)]=some (.t (.int (bz t m)),[tp (bg t m)]):=lq h1 (by omega) h3 (by omega)
noncomputable def fU (az:FM):GS:=
 (aZ (cK 3 (aO az (cC (aj 0) (aC (eC (.int 5)) bq))))
 (aZ (i8 (qB (eF (eP jB (aa (eF (aj 3)) (aa (eC (.int 0)) aA))))) (cj (eP cy (aa (eC (.str "any")) aA))) dc)
 (aZ (i8 (qB (eF (eP jB (aa (eF (aj 3)) (aa (eC (.int 1)) aA))))) (cj (eP cy (aa (eC (.str "name")) (aa (dg 1 (eF (aO az (cC (aj 0) (aC (jH 1) bq))))) aA)))) dc)
 (aZ (cK 4 (eP xA (aa (eF (eP ji (aa (eC (.int 0)) (aa (eC (.int 1)) (aa (eC (.int 2)) (aa (eC (.int 3)) (aa (eC (.int 5)) (aa (eC (.int 9)) aA)))))))) (aa (eF (aO az (cC (aj 0) (aC (eC (.int 6)) bq)))) aA))))
 (aZ (i8 (kO (qB (eF (eP zD (aa (eF (aj 2)) (aa (eF (eP cy aA)) aA))))) (qB (eF (eP QN (aa (eF (aO az (cC (aj 0) (aC (eC (.int 3)) bq)))) (aa (eC (.int 0)) aA)))))) (cK 4 (eT (dg 2 (eF (aO az (cC (aj 0) (aC (jH 2) bq))))))) dc)
 (cj (eP cy (aa (eF (eP xA (aa (eF (eP ji (aa (eC (.str "less")) (aa (eC (.str "same")) (aa (eC (.str "more")) aA))))) (aa (eF (eP ou (aa (eF (aj 3)) (aa (eC (.int 2)) aA)))) aA)))) (aa (eF (aj 4)) aA)))))))))
noncomputable def lz:FM:=aW 5 (fU cS)
theorem Fd:∀us r,lz us=some r->aW 5 (fU cS) us=some r:=fun _ _ h=>h
theorem uB {x:D}{l:List D}{i:Int}(h0:0<=i) (h1:i < l.length):∃y,gD l i=some y/\y∈l:=by
 obtain⟨y,a,b⟩:=Sq.Pp (l:=l) h0 h1
 exact⟨y,a,List.mem_of_getElem? b⟩
theorem Bt (bs:List Str) (a b:D):qz bs (.tup [a,b])=if ni a (.str "name")=true then nameB b else inD a (Bo.map D.str) && (jh b 0 9 || inD b (bs.map D.str)):=rfl
theorem IM {nms : List Str} [hn : CJ nms] {t : dG} {bs : List Str} (h0 : 0 <= t.n) (h1 : t.n < 800000) (hb : bs.length < 900) (hs : ∀ z ∈ bs, z.length <= 8) :
    ∃d t',lz [.b (tp t),.t (.lst (qZ nms)),.t (.tup (bs.map D.str))]=some (.t d,[tp t'])/\qz bs d=true/\Gj 8 d/\gW d<=1/\t.n<=t'.n/\t'.n<=t.n+4:=by
  have p1:=gJ (t:=t) (m:=5) (by omega) (by omega) h0 (by omega)
  obtain⟨w0,w1⟩:=bB (t:=t) (m:=5) (by omega)
  generalize hw:bz t 5=w at *
  have VW:(bg t 5).n=t.n+1:=fP t 5
  generalize bg t 5=t1 at *
  by_cases c0:w=0
  . subst c0
    exact⟨.tup [.str "any"],t1,by simp[lz,aW,fU,p1,aT],rfl,⟨(by show 1<=8;omega),(by show 3<=8;omega),True.intro⟩,by decide,by omega,by omega⟩
  . by_cases c1:w=1
    . subst c1
      have q1:=hn.pos
      have q2:=hn.few
      have q3:=rR nms
      have p2:=gJ (t:=t1) (m:=((qZ nms).length:Nat)) (by omega) (by omega) (by omega) (by omega)
      obtain⟨v0,v1⟩:=bB (t:=t1) (m:=((qZ nms).length:Nat)) (by omega)
      have Rg:(bg t1 ((qZ nms).length:Nat)).n=t1.n+1:=fP t1 _
      generalize bz t1 ((qZ nms).length:Nat)=v at *
      generalize bg t1 ((qZ nms).length:Nat)=t2 at *
      obtain⟨z,a1,a2,a3⟩:=IL (nms:=nms) v0 (by rw[<-q3];exact v1)
      refine⟨.tup [.str "name",.str z],t2,by simp[lz,aW,fU,p1,aT,p2,a1],?_,⟨(by show 2<=8;omega),(by show 4<=8;omega),a3,True.intro⟩,by show max 0 (max 0 0)+1<=1;omega,by omega,by omega⟩
      rw[Bt,if_pos (rJ _)]
      exact a2
    . have p2:=gJ (t:=t1) (m:=6) (by omega) (by omega) (by omega) (by omega)
      obtain⟨v0,v1⟩:=bB (t:=t1) (m:=6) (by omega)
      generalize bz t1 6=v at *
      have Rg:(bg t1 6).n=t1.n+1:=fP t1 6
      generalize bg t1 6=t2 at *
      obtain⟨nb,b1,b2⟩:=uB (x:=.dR) (l:=[.int 0,.int 1,.int 2,.int 3,.int 5,.int 9]) v0 v1
      have hnb:jh nb 0 9=true/\Gj 8 nb/\gW nb=0:=by
        simp only[List.mem_cons,List.not_mem_nil,or_false] at b2
        rcases b2 with rfl | rfl | rfl | rfl | rfl | rfl <;> exact⟨by decide,True.intro,rfl⟩
      obtain⟨hd,d1,d2⟩:=uB (x:=.dR) (l:=[.str "less",.str "same",.str "more"]) (i:=w - 2) (by omega) (by simp only[List.length_cons,List.length_nil];omega)
      have VX:inD hd (Bo.map D.str)=true/\ni hd (.str "name")=false/\Gj 8 hd/\gW hd=0:=by
        simp only[List.mem_cons,List.not_mem_nil,or_false] at d2
        rcases d2 with rfl | rfl | rfl <;> exact⟨by decide,by decide,(by show _<=8;decide),rfl⟩
      have fin:∀x:D,(jh x 0 9=true\/inD x (bs.map D.str)=true)->Gj 8 x->gW x=0->qz bs (.tup [hd,x])=true/\Gj 8 (.tup [hd,x])/\gW (.tup [hd,x])<=1:=fun x h1 h2 h3=>by
        refine⟨?_,⟨(by show 2<=8;omega),VX.2.2.1,h2,True.intro⟩,by show max (gW hd) (max (gW x) 0)+1<=1;rw[VX.2.2.2,h3];decide⟩
        rw[Bt,VX.2.1,VX.1]
        rcases h1 with q | q
        . rw[q];rfl
        . rw[q];simp
      have dv:gW (.tup (bs.map D.str))<=40:=by show gP (bs.map D.str)+1<=40;rw[L2.rN];omega
      cases bs with
      | nil=>
        obtain⟨f1,f2,f3⟩:=fin nb (.inl hnb.1) hnb.2.1 hnb.2.2
        refine⟨.tup [hd,nb],t2,?_,f1,f2,f3,by omega,by omega⟩
        have q:ni (.tup []) (.tup [])=true:=rfl
        simp only[List.map_nil] at dv ⊢
        simp[lz,aW,fU,p1,aT,c0,c1,p2,b1,dv,q,d1]
      | cons y ys=>
        have q:ni (.tup ((y :: ys).map D.str)) (.tup [])=false:=rfl
        have p3:=gJ (t:=t2) (m:=3) (by omega) (by omega) (by omega) (by omega)
        have t3n:(bg t2 3).n=t2.n+1:=fP t2 3
        generalize bz t2 3=u at *
        generalize bg t2 3=t3 at *
        by_cases c3:0 < u
        . have p4:=gJ (t:=t3) (m:=((y :: ys).map D.str).length) (by rw[List.length_map];simp only[List.length_cons];omega) (by rw[List.length_map];omega) (by omega) (by omega)
          have t4n:(bg t3 ((y :: ys).map D.str).length).n=t3.n+1:=fP t3 _
          obtain⟨x0,x1⟩:=bB (t:=t3) (m:=((y :: ys).map D.str).length) (by rw[List.length_map];simp only[List.length_cons];omega)
          obtain⟨vv,g1,g2⟩:=uB (x:=.dR) (l:=(y :: ys).map D.str) x0 x1
          generalize bg t3 ((y :: ys).map D.str).length=t4 at *
          generalize bz t3 ((y :: ys).map D.str).length=x at *
          obtain⟨vs,m1,rfl⟩:=List.mem_map.mp g2
          have iv:inD (.str vs) ((y :: ys).map D.str)=true:=by
            unfold inD
            exact List.any_eq_true.mpr ⟨.str vs,g2,rJ _⟩
          obtain⟨f1,f2,f3⟩:=fin (.str vs) (.inr iv) (hs vs m1) rfl
          refine⟨.tup [hd,.str vs],t4,?_,f1,f2,f3,by omega,by omega⟩
          generalize (y :: ys).map D.str=L at *
          simp[lz,aW,fU,p1,aT,c0,c1,p2,b1,dv,q,p3,c3,p4,g1,d1]
        . obtain⟨f1,f2,f3⟩:=fin nb (.inl hnb.1) hnb.2.1 hnb.2.2
          refine⟨.tup [hd,nb],t3,?_,f1,f2,f3,by omega,by omega⟩
          generalize (y :: ys).map D.str=L at *
          simp[lz,aW,fU,p1,aT,c0,c1,p2,b1,dv,q,p3,c3,d1]
theorem dr0 {n room:Nat}{bs:List Str}{z:Str}{r:List D}(sh:gz bs z r=true) (pl:d8 z r=[]) (nb:fT z=false) (hr:1<=room) (fit:Gj 8 (.tup (.str z :: r))) (dep:gW (.tup (.str z :: r))<=n+2):Dr (n+1) bs room 0 (.tup (.str z :: r)):=by
 have es:=wA n z r
 have eb:=zX n z r
 rw[pl] at es eb
 rw[nb] at eb
 simp at es eb
 exact⟨(gI n bs z r).mpr ⟨sh,by rw[pl];simp⟩,by omega,by omega,fit,dep⟩
theorem YH {n room b:Nat}{bs:List Str}{z:Str}{r:List D}{p:D}(sh:gz bs z r=true) (pl:d8 z r=[p]) (h:Dr n (jo bs z r) room b p) (fit:Gj 8 (.tup (.str z :: r))) (dep:gW (.tup (.str z :: r))<=n+2):Dr (n+1) bs (room+1) ((if fT z=true then 1 else 0)+b) (.tup (.str z :: r)):=by
 have es:=wA n z r
 have eb:=zX n z r
 rw[pl] at es eb
 have e1:([p].flatMap (cF n)).length=rQ n p:=by simp[rQ]
 have e2:(([p].flatMap (cF n)).filter kE).length=zV n p:=by simp[zV]
 rw[e1] at es
 rw[e2] at eb
 have:=h.sz
 have:=h.bn
 refine⟨(gI n bs z r).mpr ⟨sh,by rw[pl];intro q hq;rw[show q=p by simpa using hq];exact h.fm⟩,by omega,?_,fit,dep⟩
 by_cases hb:fT z=true
 ·rw[if_pos hb] at eb ⊢;omega
 ·rw[if_neg hb] at eb ⊢;omega
theorem dr2 {n r1 r2 b1 b2:Nat}{bs:List Str}{z:Str}{r:List D}{p q:D}(sh:gz bs z r=true) (pl:d8 z r=[p,q]) (nb:fT z=false) (h1:Dr n bs r1 b1 p) (h2:Dr n bs r2 b2 q) (fit:Gj 8 (.tup (.str z :: r))) (dep:gW (.tup (.str z :: r))<=n+2):Dr (n+1) bs (r1+r2+1) (b1+b2) (.tup (.str z :: r)):=by
 have es:=wA n z r
 have eb:=zX n z r
 rw[pl] at es eb
 have e1:([p,q].flatMap (cF n)).length=rQ n p+rQ n q:=by simp[rQ]
 have e2:(([p,q].flatMap (cF n)).filter kE).length=zV n p+zV n q:=by simp[zV]
 rw[e1] at es
 rw[e2,nb] at eb
 simp at eb
 have:=h1.sz
 have:=h1.bn
 have:=h2.sz
 have:=h2.bn
 have ib:jo bs z r=bs:=by unfold jo;rw[if_neg (by rw[nb];simp)]
 refine⟨(gI n bs z r).mpr ⟨sh,by rw[pl,ib];intro x hx;simp at hx;rcases hx with rfl | rfl;exact h1.fm;exact h2.fm⟩,by omega,by omega,fit,dep⟩
theorem Dr.more {n room Nq b:Nat}{bs:List Str}{d:D}(h:Dr n bs room b d) (hr:room<=Nq):Dr n bs Nq b d:=⟨h.fm,Nat.le_trans h.sz hr,h.bn,h.fit,h.dep⟩
noncomputable def bT (az:FM) (lA:FM) (aF:FM) (j5:FM):GS:=
 (aZ (cK 5 (aO az (cC (aj 0) (aC (eC (.int 9)) bq))))
 (aZ (i8 (uq (qB (eF (eP OI (aa (eF (aj 3)) (aa (eC (.int 2)) aA))))) (uq (qB (eF (eP OI (aa (eF (aj 4)) (aa (eC (.int 2)) aA))))) (qB (eF (eP jB (aa (eF (aj 5)) (aa (eC (.int 0)) aA))))))) (aZ (i8 (qB (eF (eP jB (aa (eF (eP xy (aa (eF (aj 5)) (aa (eC (.int 5)) aA)))) (aa (eC (.int 4)) aA))))) (cj (eP cy (aa (eF (eP xA (aa (eF (eP ji (aa (eC (.str "yes")) (aa (eC (.str "no")) aA)))) (aa (eF (aO az (cC (aj 0) (aC (eC (.int 2)) bq)))) aA)))) aA))) dc)
 (cj (eP cy (aa (eC (.str "now")) (aa (eF (aO lA (cC (aj 0) (aC (dg 1 (eC (.str "names"))) (aC (eF (aj 2)) bq))))) aA))))) dc)
 (aZ (i8 (kO (qB (eF (eP OI (aa (eF (aj 5)) (aa (eC (.int 5)) aA))))) (qB (eF (eP QN (aa (eF (aj 3)) (aa (eC (.int 2)) aA)))))) (aZ (cK 6 (eP cN (aa (eC (.int 1)) (aa (eF (aO az (cC (aj 0) (aC (eF (eP ou (aa (eF (aj 3)) (aa (eC (.int 2)) aA)))) bq)))) aA))))
 (aZ (cK 7 (aO aF (cC (aj 0) (cC (aj 1) (aC (eF (aj 2)) (aC (eF (aj 6)) (aC (eF (eP ou (aa (eF (aj 4)) (aa (eC (.int 1)) aA)))) bq)))))))
 (aZ (cK 8 (aO aF (cC (aj 0) (cC (aj 1) (aC (eF (aj 2)) (aC (eF (eP ou (aa (eF (eP ou (aa (eF (aj 3)) (aa (eC (.int 1)) aA)))) (aa (eF (aj 6)) aA)))) (aC (eF (eP ou (aa (eF (aj 4)) (aa (eC (.int 1)) aA)))) bq)))))))
 (cj (eP cy (aa (eF (eP xA (aa (eF (eP ji (aa (eC (.str "both")) (aa (eC (.str "either")) (aa (eC (.str "till")) (aa (eC (.str "till")) aA)))))) (aa (eF (eP ou (aa (eF (aj 5)) (aa (eC (.int 1)) aA)))) aA)))) (aa (eF (aj 7)) (aa (eF (aj 8)) aA)))))))) dc)
 (cj (aO j5 (cC (aj 0) (cC (aj 1) (aC (eF (aj 2)) (aC (eF (aj 3)) (aC (eF (aj 4)) bq))))))))))
noncomputable def cP (az:FM) (aF:FM):GS:=
 (aZ (cK 5 (aO az (cC (aj 0) (aC (eC (.int 8)) bq))))
 (aZ (i8 (kO (qB (eF (eP OI (aa (eF (aj 5)) (aa (eC (.int 3)) aA))))) (qB (eF (eP OI (aa (dg 1 (eC (.str "binders"))) (aa (eC (.int 3)) aA)))))) (aZ (AZ 1 (eC (.str "binders")) (eF (eP cN (aa (dg 1 (eC (.str "binders"))) (aa (eC (.int 1)) aA)))))
 (aZ (cK 6 (eT (dg 1 (eC (.str "names")))))
 (aZ (cK 7 (eP xA (aa (eF (eP ji (aa (eC (.str "x")) (aa (eC (.str "k")) (aa (eC (.str "a")) (aa (eC (.str "ab")) aA)))))) (aa (eF (aO az (cC (aj 0) (aC (eC (.int 4)) bq)))) aA))))
 (aZ (cK 8 (eP cy (aa (eF (eP xA (aa (eF (eP ji (aa (eC (.str "each")) (aa (eC (.str "one")) aA)))) (aa (eF (eP xy (aa (eF (aj 5)) (aa (eC (.int 2)) aA)))) aA)))) (aa (dg 6 (eF (aO az (cC (aj 0) (aC (jH 6) bq))))) (aa (eF (aj 7)) aA)))))
 (cj (eP cN (aa (eF (aj 8)) (aa (eF (eP cy (aa (eF (aO aF (cC (aj 0) (cC (aj 1) (aC (eF (eP cN (aa (eF (aj 2)) (aa (eF (eP cy (aa (eF (aj 7)) aA))) aA)))) (aC (eF (eP ou (aa (eF (aj 3)) (aa (eC (.int 1)) aA)))) (aC (eF (eP ou (aa (eF (aj 4)) (aa (eC (.int 1)) aA)))) bq))))))) aA))) aA)))))))) dc)
 (aZ (cK 8 (eP cy (aa (eF (eP xA (aa (eF (eP ji (aa (eC (.str "not")) (aa (eC (.str "next")) (aa (eC (.str "always")) (aa (eC (.str "some")) aA)))))) (aa (eF (eP xy (aa (eF (aj 5)) (aa (eC (.int 4)) aA)))) aA)))) aA)))
 (aZ (i8 (qB (eF (eP jB (aa (eF (aj 5)) (aa (eC (.int 3)) aA))))) (cK 8 (eP cy (aa (eC (.str "within")) (aa (eF (aO az (cC (aj 0) (aC (eC (.int 6)) bq)))) aA)))) dc)
 (cj (eP cN (aa (eF (aj 8)) (aa (eF (eP cy (aa (eF (aO aF (cC (aj 0) (cC (aj 1) (aC (eF (aj 2)) (aC (eF (eP ou (aa (eF (aj 3)) (aa (eC (.int 1)) aA)))) (aC (eF (eP ou (aa (eF (aj 4)) (aa (eC (.int 1)) aA)))) bq))))))) aA))) aA))))))))
section
variable {f1 f2 f3 f4:FM}{T0 T1 T2 T3 T4:MO}{ws EV LQ:List (Key×D)}{vs nd d1 d2:D}{room deep w:Int}
theorem Pu {v:Int}{y:D}(p1:f1 [.b T0,.t (.int 9)]=some (.t (.int w),[T1])) (h:room < 2\/deep < 2\/w=0) (h5:w % 5=4) (p2:f1 [.b T1,.t (.int 2)]=some (.t (.int v),[T2])) (hy:gD [.str "yes",.str "no"] v=some y):
  aW 9 (bT f1 f2 f3 f4) [.b T0,.b (.dct ws),.t vs,.t (.int room),.t (.int deep)]=some (.t (.tup [y]),[T2,.dct ws]):=by
 by_cases a:room < 2
 ·simp[aW,bT,p1,a,h5,p2,hy,aT]
 ·by_cases b:deep < 2
  ·simp[aW,bT,p1,a,b,h5,p2,hy,aT]
  ·have c:w=0:=by rcases h with h | h | h;exact absurd h a;exact absurd h b;exact h
   subst c
   exact absurd h5 (by decide)
theorem Pw {d:D}(p1:f1 [.b T0,.t (.int 9)]=some (.t (.int w),[T1])) (h:room < 2\/deep < 2\/w=0) (h5:¬w % 5=4) (hn:cz ws (.inr "names")=some nd) (p2:f2 [.b T1,.t nd,.t vs]=some (.t d,[T2])):
  aW 9 (bT f1 f2 f3 f4) [.b T0,.b (.dct ws),.t vs,.t (.int room),.t (.int deep)]=some (.t (.tup [.str "now",d]),[T2,.dct ws]):=by
 by_cases a:room < 2
 ·simp[aW,bT,p1,a,h5,hn,p2,aT]
 ·by_cases b:deep < 2
  ·simp[aW,bT,p1,a,b,h5,hn,p2,aT]
  ·have c:w=0:=by rcases h with h | h | h;exact absurd h a;exact absurd h b;exact h
   subst c
   simp[aW,bT,p1,a,b,hn,p2,aT]
theorem Px {fi:Int}{y:D}(p1:f1 [.b T0,.t (.int 9)]=some (.t (.int w),[T1])) (ha:¬room < 2) (hb:¬deep < 2) (hc:¬w=0) (h5:w < 5) (h2:2 < room) (p2:f1 [.b T1,.t (.int (room - 2))]=some (.t (.int fi),[T2]))
  (p3:f3 [.b T2,.b (.dct ws),.t vs,.t (.int (1+fi)),.t (.int (deep - 1))]=some (.t d1,[T3,.dct EV])) (p4:f3 [.b T3,.b (.dct EV),.t vs,.t (.int (room - 1 - (1+fi))),.t (.int (deep - 1))]=some (.t d2,[T4,.dct LQ])) (hy:gD [.str "both",.str "either",.str "till",.str "till"] (w - 1)=some y):
  aW 9 (bT f1 f2 f3 f4) [.b T0,.b (.dct ws),.t vs,.t (.int room),.t (.int deep)]=some (.t (.tup [y,d1,d2]),[T4,.dct LQ]):=by
 simp[aW,bT,p1,ha,hb,hc,h5,h2,p2,p3,p4,hy,aT]
theorem TX (p1:f1 [.b T0,.t (.int 9)]=some (.t (.int w),[T1])) (ha:¬room < 2) (hb:¬deep < 2) (hc:¬w=0) (h:¬(w < 5/\2 < room)) (p2:f4 [.b T1,.b (.dct ws),.t vs,.t (.int room),.t (.int deep)]=some (.t d1,[T2,.dct EV])):
  aW 9 (bT f1 f2 f3 f4) [.b T0,.b (.dct ws),.t vs,.t (.int room),.t (.int deep)]=some (.t d1,[T2,.dct EV]):=by
 by_cases a:w < 5
 ·have b:¬2 < room:=fun q=>h ⟨a,q⟩
  simp[aW,bT,p1,ha,hb,hc,a,b,p2,aT]
 ·simp[aW,bT,p1,ha,hb,hc,a,p2,aT]
theorem Py {b x n:Int}{bl nl:List D}{xd hd nm:D}(p1:f1 [.b T0,.t (.int 8)]=some (.t (.int w),[T1])) (h3:w < 3) (hb:cz ws (.inr "binders")=some (.int b)) (b3:b < 3) (hl:ws.length < 100000) (hp:putD ws (.inr "binders") (.int (b+1))=EV) (hn:cz EV (.inr "names")=some (.lst nl))
  (p2:f1 [.b T1,.t (.int 4)]=some (.t (.int x),[T2])) (hx:gD [.str "x",.str "k",.str "a",.str "ab"] x=some xd) (hh:gD [.str "each",.str "one"] (w % 2)=some hd) (p3:f1 [.b T2,.t (.int (nl.length:Nat))]=some (.t (.int n),[T3])) (hm:gD nl n=some nm) (hv:bl.length+1<=100000)
  (p4:f2 [.b T3,.b (.dct EV),.t (.tup (bl++[xd])),.t (.int (room - 1)),.t (.int (deep - 1))]=some (.t d1,[T4,.dct LQ])):
  aW 9 (cP f1 f2) [.b T0,.b (.dct ws),.t (.tup bl),.t (.int room),.t (.int deep)]=some (.t (.tup [hd,nm,xd,d1]),[T4,.dct LQ]):=by
 simp[aW,cP,p1,h3,hb,b3,hl,hp,hn,p2,hx,hh,p3,hm,hv,p4,aT]
theorem Pz {b:Int}{hd:D}(p1:f1 [.b T0,.t (.int 8)]=some (.t (.int w),[T1])) (hb:cz ws (.inr "binders")=some (.int b)) (h3:¬(w < 3/\b < 3)) (hw:¬w=3) (hh:gD [.str "not",.str "next",.str "always",.str "some"] (w % 4)=some hd)
  (p4:f2 [.b T1,.b (.dct ws),.t vs,.t (.int (room - 1)),.t (.int (deep - 1))]=some (.t d1,[T4,.dct LQ])):
  aW 9 (cP f1 f2) [.b T0,.b (.dct ws),.t vs,.t (.int room),.t (.int deep)]=some (.t (.tup [hd,d1]),[T4,.dct LQ]):=by
 by_cases a:w < 3
 ·have b:¬b < 3:=fun q=>h3 ⟨a,q⟩
  simp[aW,cP,p1,a,hb,b,hw,hh,p4,aT]
 ·simp[aW,cP,p1,a,hw,hh,p4,aT]
theorem Fe {k:Int}(p1:f1 [.b T0,.t (.int 8)]=some (.t (.int 3),[T1])) (p2:f1 [.b T1,.t (.int 6)]=some (.t (.int k),[T2]))
  (p4:f2 [.b T2,.b (.dct ws),.t vs,.t (.int (room - 1)),.t (.int (deep - 1))]=some (.t d1,[T4,.dct LQ])):
  aW 9 (cP f1 f2) [.b T0,.b (.dct ws),.t vs,.t (.int room),.t (.int deep)]=some (.t (.tup [.str "within",.int k,d1]),[T4,.dct LQ]):=by
 have hh:gD [D.str "not",.str "next",.str "always",.str "some"] 3=some (.str "some"):=rfl
 simp[aW,cP,p1,p2,hh,p4,aT]
end
noncomputable def TY:Nat->FM×FM
 | 0=>(fun _=>none,fun _=>none)
 | j+1=>(aW 9 (bT cS lz (TY j).1 (TY j).2),aW 9 (cP cS (TY j).1))
noncomputable def lT (j:Nat):FM:=(TY j).1
noncomputable def IP (j:Nat):FM:=(TY j).2
theorem LR (j:Nat):∀us r,lT (j+1) us=some r->aW 9 (bT cS lz (lT j) (IP j)) us=some r:=fun _ _ h=>h
theorem LS (j:Nat):∀us r,IP (j+1) us=some r->aW 9 (cP cS (lT j)) us=some r:=fun _ _ h=>h
theorem Ff (us:List U):lT 0 us=none:=rfl
theorem Fg (us:List U):IP 0 us=none:=rfl
noncomputable def IQ (nms:List Str) (f:FM) (deep room:Nat):Prop:=∀(t:dG) (bs:List Str) (b:Nat),0<=t.n->t.n+8 * room < 700000->bs.length+deep < 800->(∀z∈bs,z.length<=8)->b<=3->
 ∃(d:D) (t':dG) (bin:Nat),f [.b (tp t),.b (.dct (Bs nms b)),.t (.tup (bs.map D.str)),.t (.int room),.t (.int deep)]=some (.t d,[tp t',.dct (Bs nms ((b+bin:Nat):Int))])/\Dr deep bs room bin d/\b+bin<=3/\t.n<=t'.n/\t'.n<=t.n+8 * room
theorem Fi {z:Str}(h:z.length<=8):Gj 8 (.str z):=h
theorem wB {bs:List Str}{z:Str}{r:List D}(c:j4 z=(r.length:Int)+1) (n1:z≠"now") (n2:z≠"within") (hb:fT z=false):gz bs z r=true:=Br c n1 (fun q=>n2 q.1) hb
theorem IS {nms:List Str} [hn:CJ nms] {f:FM}{deep room:Nat}(hr:2<=room) (hd:2<=deep) (ih:IQ nms f (deep - 1) (room - 1)):
  ∀(t:dG) (bs:List Str) (b:Nat),0<=t.n->t.n+8 * room < 700002->bs.length+deep < 800->(∀z∈bs,z.length<=8)->b<=3->
  ∃(d:D) (t':dG) (bin:Nat),aW 9 (cP cS f) [.b (tp t),.b (.dct (Bs nms b)),.t (.tup (bs.map D.str)),.t (.int room),.t (.int deep)]=some (.t d,[tp t',.dct (Bs nms ((b+bin:Nat):Int))])/\Dr deep bs room bin d/\b+bin<=3/\t.n<=t'.n/\t'.n+1<=t.n+8 * room:=by
 intro t bs b t0 t1 hl hs hb
 obtain⟨n,rfl⟩:∃n,deep=n+1:=⟨deep - 1,by omega⟩
 obtain⟨rm,rfl⟩:∃m,room=m+1:=⟨room - 1,by omega⟩
 have ih:IQ nms f n rm:=ih
 have er:(((rm+1:Nat):Int) - 1)=(rm:Int):=by omega
 have ed:(((n+1:Nat):Int) - 1)=(n:Int):=by omega
 have p1:=gJ (t:=t) (m:=8) (by omega) (by omega) t0 (by omega)
 obtain⟨w0,w1⟩:=bB (t:=t) (m:=8) (by omega)
 have VW:(bg t 8).n=t.n+1:=fP t 8
 generalize bz t 8=w at *
 generalize bg t 8=ta at *
 by_cases c:w < 3/\(b:Int) < 3
 ·have p2:=gJ (t:=ta) (m:=4) (by omega) (by omega) (by omega) (by omega)
  obtain⟨x0,x1⟩:=bB (t:=ta) (m:=4) (by omega)
  have Rg:(bg ta 4).n=ta.n+1:=fP ta 4
  generalize bz ta 4=x at *
  generalize bg ta 4=tb at *
  have q1:=hn.pos
  have q2:=hn.few
  have p3:=gJ (t:=tb) (m:=((qZ nms).length:Nat)) (by rw[(rR nms)];omega) (by rw[(rR nms)];omega) (by omega) (by omega)
  obtain⟨m0,m1⟩:=bB (t:=tb) (m:=((qZ nms).length:Nat)) (by rw[(rR nms)];omega)
  have t3n:(bg tb ((qZ nms).length:Nat)).n=tb.n+1:=fP tb _
  generalize bz tb ((qZ nms).length:Nat)=m at *
  generalize bg tb ((qZ nms).length:Nat)=tc at *
  obtain⟨nm,a1,a2,a3⟩:=IL m0 (by rw[(rR nms)] at m1;exact m1)
  obtain⟨xd,b1,b2⟩:=uB (x:=.dR) (l:=[.str "x",.str "k",.str "a",.str "ab"]) x0 x1
  obtain⟨hd,d1,d2⟩:=uB (x:=.dR) (l:=[.str "each",.str "one"]) (i:=w % 2) (Int.emod_nonneg _ (by decide)) (Int.emod_lt_of_pos _ (by decide))
  obtain⟨xs,rfl,xn,xl⟩:∃xs,xd= .str xs/\nameB (.str xs)=true/\xs.length<=8:=by
   simp only[List.mem_cons,List.not_mem_nil,or_false] at b2
   rcases b2 with rfl | rfl | rfl | rfl <;> exact⟨_,rfl,by decide +kernel,by decide⟩
  obtain⟨hs2,rfl,hbn,hhl,HU⟩:∃z,hd= .str z/\fT z=true/\z.length<=8/\j4 z=4/\fc z=3/\z≠"now"/\z≠"within":=by
   simp only[List.mem_cons,List.not_mem_nil,or_false] at d2
   rcases d2 with rfl | rfl <;> exact⟨_,rfl,by decide,by decide,by decide,by decide,by decide,by decide⟩
  obtain⟨l4,s3,n1,n2⟩:=HU
  obtain⟨d,t',bin,g1,g2,g3,g4,g5⟩:=ih tc (bs++[xs]) (b+1) (by omega) (by omega) (by rw[List.length_append,List.length_singleton];omega) (by
   intro z hz
   rcases List.mem_append.mp hz with q | q
   ·exact hs z q
   ·rw[show z=xs by simpa using q];exact xl) (by omega)
  have ev:(bs++[xs]).map D.str=bs.map D.str++[.str xs]:=by rw[List.map_append];rfl
  have eb1:((b+1:Nat):Int)=(b:Int)+1:=by omega
  rw[ev,eb1] at g1
  have sh:gz bs hs2 [.str nm,.str xs,d]=true:=by
   unfold gz
   rw[if_pos (by rw[l4];rfl)]
   simp only[n1,n2,if_false,hbn,if_true,a2,xn]
   rfl
  have pl:d8 hs2 [.str nm,.str xs,d]=[d]:=by unfold d8;rw[s3];rfl
  have ib:jo bs hs2 [.str nm,.str xs,d]=bs++[xs]:=by unfold jo;rw[if_pos hbn];rfl
  have dr:=YH (n:=n) (room:=rm) (b:=bin) (bs:=bs) (z:=hs2) (r:=[.str nm,.str xs,d]) sh pl (by rw[ib];exact g2) ⟨(by show 4<=8;omega),Fi hhl,Fi a3,Fi xl,g2.fit,True.intro⟩ (by
   have:=g2.dep
   show max 0 (max 0 (max 0 (max (gW d) 0)))+1<=n+2
   omega)
  rw[if_pos hbn] at dr
  refine⟨_,t',1+bin,?_,dr,by omega,by omega,by omega⟩
  have YI:((b+(1+bin):Nat):Int)=((b+1+bin:Nat):Int):=by omega
  rw[YI]
  exact Py (f1:=cS) (f2:=f) (ws:=Bs nms b) (EV:=Bs nms ((b:Int)+1)) (LQ:=Bs nms ((b+1+bin:Nat):Int)) p1 c.1 (Nn nms b) c.2 (by show 2 < 100000;omega) (Np nms b _) (Nm nms _) p2 b1 d1 p3 a1 (by rw[List.length_map];omega) (by rw[er,ed];exact g1)
 ·by_cases cw:w=3
  ·subst cw
   have p2:=gJ (t:=ta) (m:=6) (by omega) (by omega) (by omega) (by omega)
   obtain⟨x0,x1⟩:=bB (t:=ta) (m:=6) (by omega)
   have Rg:(bg ta 6).n=ta.n+1:=fP ta 6
   generalize bz ta 6=x at *
   generalize bg ta 6=tb at *
   obtain⟨d,t',bin,g1,g2,g3,g4,g5⟩:=ih tb bs b (by omega) (by omega) (by omega) hs hb
   have sh:gz bs "within" [.int x,d]=true:=by
    unfold gz
    rw[if_pos (by rw[DV.2];rfl)]
    simp only[show ¬(("within":Str)="now") by decide,if_false,if_true]
    show(decide (0<=x) && decide (x<=5))=true
    simp only[Bool.and_eq_true,decide_eq_true_eq]
    omega
   have pl:d8 "within" [.int x,d]=[d]:=by unfold d8;rw[show fc "within" =2 by decide];rfl
   have nb:fT "within" =false:=by decide
   have ib:jo bs "within" [.int x,d]=bs:=by unfold jo;rw[if_neg (by rw[nb];simp)]
   have dr:=YH (n:=n) (room:=rm) (b:=bin) (bs:=bs) (z:="within") (r:=[.int x,d]) sh pl (by rw[ib];exact g2) ⟨(by show 3<=8;omega),(by show 6<=8;omega),True.intro,g2.fit,True.intro⟩ (by
    have:=g2.dep
    show max 0 (max 0 (max (gW d) 0))+1<=n+2
    omega)
   rw[if_neg (by rw[nb];simp),Nat.zero_add] at dr
   exact⟨_,t',bin,Fe p1 p2 (by rw[er,ed];exact g1),dr,g3,by omega,by omega⟩
  ·obtain⟨d,t',bin,g1,g2,g3,g4,g5⟩:=ih ta bs b (by omega) (by omega) (by omega) hs hb
   obtain⟨hd,d1,d2⟩:=uB (x:=.dR) (l:=[.str "not",.str "next",.str "always",.str "some"]) (i:=w % 4) (Int.emod_nonneg _ (by decide)) (Int.emod_lt_of_pos _ (by decide))
   obtain⟨z,rfl,nb,zl,l2,s1,n1,n2⟩:∃z,hd= .str z/\fT z=false/\z.length<=8/\j4 z=2/\fc z=1/\z≠"now"/\z≠"within":=by
    simp only[List.mem_cons,List.not_mem_nil,or_false] at d2
    rcases d2 with rfl | rfl | rfl | rfl <;> exact⟨_,rfl,by decide,by decide,by decide,by decide,by decide,by decide⟩
   have sh:gz bs z [d]=true:=wB (by rw[l2];rfl) n1 n2 nb
   have pl:d8 z [d]=[d]:=by unfold d8;rw[s1];rfl
   have ib:jo bs z [d]=bs:=by unfold jo;rw[if_neg (by rw[nb];simp)]
   have dr:=YH (n:=n) (room:=rm) (b:=bin) (bs:=bs) (z:=z) (r:=[d]) sh pl (by rw[ib];exact g2) ⟨(by show 2<=8;omega),Fi zl,g2.fit,True.intro⟩ (by
    have:=g2.dep
    show max 0 (max (gW d) 0)+1<=n+2
    omega)
   rw[if_neg (by rw[nb];simp),Nat.zero_add] at dr
   exact⟨_,t',bin,Pz p1 (Nn nms b) c cw d1 (by rw[er,ed];exact g1),dr,g3,by omega,by omega⟩
theorem PB {nms : List Str} [hn : CJ nms] : ∀ (deep : Nat), 1 <= deep -> ∀ (j room : Nat), 2 * deep <= j -> 1 <= room -> room <= 100 -> IQ nms (lT j) deep room := by
  intro deep
  induction deep with
  | zero=>intro h;omega
  | succ n ih=>
    intro _ j room hj hr hr9 t bs b t0 t1 hl hs hb
    obtain⟨i,rfl⟩:∃i,j=i+2:=⟨j - 2,by omega⟩
    have p1:=gJ (t:=t) (m:=9) (by omega) (by omega) t0 (by omega)
    obtain⟨w0,w1⟩:=bB (t:=t) (m:=9) (by omega)
    have VW:(bg t 9).n=t.n+1:=fP t 9
    generalize bz t 9=w at *
    generalize bg t 9=ta at *
    show ∃d t' bin,aW 9 (bT cS lz (lT (i+1)) (IP (i+1))) _=_/\_
    by_cases c:(room:Int) < 2\/((n+1:Nat):Int) < 2\/w=0
    . by_cases c5:w % 5=4
      . have p2:=gJ (t:=ta) (m:=2) (by omega) (by omega) (by omega) (by omega)
        obtain⟨v0,v1⟩:=bB (t:=ta) (m:=2) (by omega)
        have Rg:(bg ta 2).n=ta.n+1:=fP ta 2
        generalize bz ta 2=v at *
        generalize bg ta 2=tb at *
        obtain⟨y,y1,y2⟩:=uB (x:=.dR) (l:=[.str "yes",.str "no"]) v0 v1
        obtain⟨z,rfl,nb,zl,l2,s1,n1,n2⟩:∃z,y= .str z/\fT z=false/\z.length<=8/\j4 z=1/\fc z=1/\z≠"now"/\z≠"within":=by
          simp only[List.mem_cons,List.not_mem_nil,or_false] at y2
          rcases y2 with rfl | rfl <;> exact⟨_,rfl,by decide,by decide,by decide,by decide,by decide,by decide⟩
        refine⟨_,tb,0,Pu p1 c c5 p2 y1,dr0 (wB (by rw[l2];rfl) n1 n2 nb) (by unfold d8;rw[s1];rfl) nb hr ⟨(by show 1<=8;omega),Fi zl,True.intro⟩ (by show max 0 0+1<=n+2;omega),hb,by omega,by omega⟩
      . obtain⟨d,t',g1,g2,g3,g4,g5,g6⟩:=IM (nms:=nms) (t:=ta) (bs:=bs) (by omega) (by omega) (by omega) hs
        refine⟨_,t',0,Pw p1 c c5 (Nm nms b) g1,dr0 (z:="now") (r:=[d]) ?_ (by unfold d8;rw[show fc "now" =2 by decide];rfl) (by decide) hr ⟨(by show 2<=8;omega),(by show 3<=8;omega),g3,True.intro⟩ (by show max 0 (max (gW d) 0)+1<=n+2;omega),hb,by omega,by omega⟩
        unfold gz
        rw[if_pos (by rw[DV.1];rfl)]
        simp only[if_true]
        exact g2
    . have c1:¬(room:Int) < 2:=fun q=>c (.inl q)
      have c2:¬((n+1:Nat):Int) < 2:=fun q=>c (.inr (.inl q))
      have c3:¬w=0:=fun q=>c (.inr (.inr q))
      have ed:(((n+1:Nat):Int) - 1)=(n:Int):=by omega
      by_cases c4:w < 5/\2 < (room:Int)
      . have p2:=gJ (t:=ta) (m:=(room:Int) - 2) (by omega) (by omega) (by omega) (by omega)
        obtain⟨v0,v1⟩:=bB (t:=ta) (m:=(room:Int) - 2) (by omega)
        have Rg:(bg ta ((room:Int) - 2)).n=ta.n+1:=fP ta _
        generalize bz ta ((room:Int) - 2)=v at *
        generalize bg ta ((room:Int) - 2)=tb at *
        obtain⟨r1,hr1⟩:∃r1:Nat,(r1:Int)=1+v:=⟨(1+v).toNat,by omega⟩
        obtain⟨r2,hr2⟩:∃r2:Nat,(r2:Int)=(room:Int) - 1 - (1+v):=⟨((room:Int) - 1 - (1+v)).toNat,by omega⟩
        obtain⟨d1,ta1,b1,g1,g2,g3,g4,g5⟩:=ih (by omega) (i+1) r1 (by omega) (by omega) (by omega) tb bs b (by omega) (by omega) (by omega) hs hb
        obtain⟨d2,ta2,b2,k1,k2,k3,k4,k5⟩:=ih (by omega) (i+1) r2 (by omega) (by omega) (by omega) ta1 bs (b+b1) (by omega) (by omega) (by omega) hs g3
        obtain⟨y,y1,y2⟩:=uB (x:=.dR) (l:=[.str "both",.str "either",.str "till",.str "till"]) (i:=w - 1) (by omega) (by simp only[List.length_cons,List.length_nil];omega)
        obtain⟨z,rfl,nb,zl,l2,s1,n1,n2⟩:∃z,y= .str z/\fT z=false/\z.length<=8/\j4 z=3/\fc z=1/\z≠"now"/\z≠"within":=by
          simp only[List.mem_cons,List.not_mem_nil,or_false] at y2
          rcases y2 with rfl | rfl | rfl | rfl <;> exact⟨_,rfl,by decide,by decide,by decide,by decide,by decide,by decide⟩
        have dr:=dr2 (n:=n) (bs:=bs) (z:=z) (r:=[d1,d2]) (wB (by rw[l2];rfl) n1 n2 nb) (by unfold d8;rw[s1];rfl) nb g2 k2 ⟨(by show 3<=8;omega),Fi zl,g2.fit,k2.fit,True.intro⟩ (by
          have:=g2.dep
          have:=k2.dep
          show max 0 (max (gW d1) (max (gW d2) 0))+1<=n+2
          omega)
        have YI:((b+(b1+b2):Nat):Int)=((b+b1+b2:Nat):Int):=by omega
        refine⟨_,ta2,b1+b2,?_,dr.more (by omega),by omega,by omega,by omega⟩
        rw[YI]
        rw[hr1] at g1
        rw[hr2] at k1
        exact Px p1 c1 c2 c3 c4.1 c4.2 p2 (by rw[ed];exact g1) (by rw[ed];exact k1) y1
      . obtain⟨d,t',bin,g1,g2,g3,g4,g5⟩:=IS (f:=lT i) (deep:=n+1) (room:=room) (by omega) (by omega) (ih (by omega) i (room - 1) (by omega) (by omega) (by omega)) ta bs b (by omega) (by omega) hl hs hb
        exact⟨d,t',bin,TX p1 c1 c2 c3 c4 g1,g2,g3,by omega,by omega⟩
theorem wC {f g:D->List D}:∀{ps:List D},(∀p∈ps,f p=g p)->ps.flatMap f=ps.flatMap g
 | [],_=>rfl
 | p :: ps,h=>by rw[List.flatMap_cons,List.flatMap_cons,h p List.mem_cons_self,wC fun q hq=>h q (List.mem_cons_of_mem _ hq)]
theorem IT (n:Nat):(nK 0 n).length=n:=by unfold nK;rw[List.length_map,List.length_range]
theorem yH:∀{n:Nat}{bs:List Str}{d:D},iC n bs d=true->iC (n+1) bs d=true/\cF (n+1) d=cF n d
 | 0,_,_,h=>by cases h
 | n+1,bs,d,h=>by
  obtain⟨z,r,rfl,h1,h2⟩:=wz h
  have up:=fun p hp=>yH (h2 p hp)
  refine⟨(gI (n+1) bs z r).mpr ⟨h1,fun p hp=>(up p hp).1⟩,?_⟩
  show(.tup (.str z :: r):D) :: (d8 z r).flatMap (cF (n+1))= .tup (.str z :: r) :: (d8 z r).flatMap (cF n)
  rw[wC fun p hp=>(up p hp).2]
theorem Fj {n m:Nat}{bs:List Str}{d:D}(hm:n<=m) (h:iC n bs d=true):iC m bs d=true/\cF m d=cF n d:=by
  induction m with
  | zero => obtain rfl : n = 0 := by omega
            exact⟨h,rfl⟩
  | succ m ih=>
    by_cases e:n=m+1
    . subst e;exact⟨h,rfl⟩
    . obtain⟨a,b⟩:=ih (by omega)
      obtain⟨c,d⟩:=yH a
      exact⟨c,d.trans b⟩
end Sn
end
section
namespace Sp
open PySem PySem.Spec PyProof.Rows L2 Sw Ss Sn
noncomputable def Nr:List Str:=["not","next","always","some"]
noncomputable def Nt:List Str:=["both","either","till"]
inductive Ts (bs:List Str):D->Prop where
 | any:Ts bs (.tup [.str "any"])
 | name {a:Str}:nameB (.str a)=true->Ts bs (.tup [.str "name",.str a])
 | num {o:Str}{k:Int}:o∈Bo->0<=k->k<=9->Ts bs (.tup [.str o,.int k])
 | var {o y:Str}:o∈Bo->y∈bs->Ts bs (.tup [.str o,.str y])
inductive Sy:Nat->List Str->D->Prop where
 | leaf {n:Nat}{bs:List Str}{z:Str}:z="yes"\/z="no"->Sy (n+1) bs (.tup [.str z])
 | now {n:Nat}{bs:List Str}{t:D}:Ts bs t->Sy (n+1) bs (.tup [.str "now",t])
 | one {n:Nat}{bs:List Str}{z:Str}{p:D}:z∈Nr->Sy n bs p->Sy (n+1) bs (.tup [.str z,p])
 | two {n:Nat}{bs:List Str}{z:Str}{p q:D}:z∈Nt->Sy n bs p->Sy n bs q->Sy (n+1) bs (.tup [.str z,p,q])
 | zY {n:Nat}{bs:List Str}{k:Int}{p:D}:0<=k->k<=5->Sy n bs p->Sy (n+1) bs (.tup [.str "within",.int k,p])
 | bnd {n:Nat}{bs:List Str}{z a y:Str}{p:D}:z="each"\/z="one"->nameB (.str a)=true->nameB (.str y)=true->Sy n (bs++[y]) p->Sy (n+1) bs (.tup [.str z,.str a,.str y,p])
theorem DW {x:D}{zs:List Str}(h:inD x (zs.map D.str)=true):∃z∈zs,x= .str z:=by
 unfold inD at h
 rw[List.any_map,List.any_eq_true] at h
 obtain⟨z,hz,e⟩:=h
 exact⟨z,hz,sX (show ni (.str z) x=true from e)⟩
theorem zZ {z:Str}{zs:List Str}(h:z∈zs):inD (.str z) (zs.map D.str)=true:=by
 unfold inD
 rw[List.any_map,List.any_eq_true]
 exact⟨z,h,rJ _⟩
theorem yI {b:D}{m:Int}(h:jh b 0 m=true):∃k,b= .int k/\0<=k/\k<=m:=by
 cases b with
 | int k=>simp only[jh,Bool.and_eq_true,decide_eq_true_eq] at h;exact⟨k,rfl,h.1,h.2⟩
 | _=>cases h
theorem Ts.of {bs : List Str} {t : D} (h : qz bs t = true) : Ts bs t := by
  unfold qz at h
  split at h
  . rename_i a
    have:ni (.str "any") a=true:=by cases a <;> simp[ni] at h ⊢;exact h.symm
    rw[sX this]
    exact .any
  . rename_i a b
    split at h
    . rename_i c
      have:ni (.str "name") a=true:=by cases a <;> simp[ni] at c ⊢;exact c.symm
      rw[sX this]
      obtain⟨y,rfl⟩:=oW h
      exact .name h
    . obtain⟨h1,h2⟩:=Bool.and_eq_true_iff.mp h
      obtain⟨o,ho,rfl⟩:=DW h1
      rcases Bool.or_eq_true_iff.mp h2 with q | q
      . obtain⟨k,rfl,k0,k1⟩:=yI q
        exact .num ho k0 k1
      . obtain⟨y,hy,rfl⟩:=DW q
        exact .var ho hy
  . cases h
theorem nu {o:Str}(h:o∈Bo):o≠"name"/\o≠"any":=by
 simp only[Bo,List.mem_cons,List.not_mem_nil,or_false] at h
 rcases h with rfl | rfl | rfl <;> decide
theorem Ts.test {bs:List Str}{t:D}(h:Ts bs t):qz bs t=true:=by
 cases h with
 | any=>rfl
 | name h=>simp[qz,h]
 | num ho k0 k1=>
  have:=zZ ho
  have n:=(nu ho).1
  simp[qz,this,n,jh,k0,k1]
 | var ho hy=>
  have h1:=zZ ho
  have h2:=zZ hy
  have n:=(nu ho).1
  simp[qz,h1,h2,n]
theorem Sy.of:∀{n:Nat}{bs:List Str}{d:D},iC n bs d=true->Sy n bs d
  | 0,_,_,h=>by cases h
  | n + 1, bs, d, h => by
    obtain⟨z,r,rfl,hs,hp⟩:=wz h
    obtain⟨c,hh,hz⟩:=CI hs
    unfold gz at hs
    rw[if_pos c] at hs
    simp only[nG,List.mem_cons,List.not_mem_nil,or_false] at hz
    have two:∀{k:Nat},j4 z=(k:Int)+1->r.length=k:=fun e=>by omega
    have l0:r.length=0->r=[]:=List.eq_nil_of_length_eq_zero
    have l1:r.length=1->∃a,r=[a]:=fun e=>by match r,e with | [a],_=>exact⟨a,rfl⟩
    have l2:r.length=2->∃a b,r=[a,b]:=fun e=>by match r,e with | [a,b],_=>exact⟨a,b,rfl⟩
    have l3:r.length=3->∃a b p,r=[a,b,p]:=fun e=>by match r,e with | [a,b,p],_=>exact⟨a,b,p,rfl⟩
    rcases hz with rfl | rfl | rfl | rfl | rfl | rfl | rfl | rfl | rfl | rfl | rfl | rfl | rfl
    . rw[l0 (two (k:=0) (by decide))];exact .leaf (.inl rfl)
    . rw[l0 (two (k:=0) (by decide))];exact .leaf (.inr rfl)
    . obtain⟨a,rfl⟩:=l1 (two (k:=1) (by decide));exact .now (.of hs)
    . obtain⟨a,rfl⟩:=l1 (two (k:=1) (by decide));exact .one (by decide) (Sy.of (hp a (by show a∈[a];simp)))
    . obtain⟨a,b,rfl⟩:=l2 (two (k:=2) (by decide));exact .two (by decide) (Sy.of (hp a (by show a∈[a,b];simp))) (Sy.of (hp b (by show b∈[a,b];simp)))
    . obtain⟨a,b,rfl⟩:=l2 (two (k:=2) (by decide));exact .two (by decide) (Sy.of (hp a (by show a∈[a,b];simp))) (Sy.of (hp b (by show b∈[a,b];simp)))
    . obtain⟨a,rfl⟩:=l1 (two (k:=1) (by decide));exact .one (by decide) (Sy.of (hp a (by show a∈[a];simp)))
    . obtain⟨a,b,rfl⟩:=l2 (two (k:=2) (by decide));exact .two (by decide) (Sy.of (hp a (by show a∈[a,b];simp))) (Sy.of (hp b (by show b∈[a,b];simp)))
    . obtain⟨a,b,rfl⟩:=l2 (two (k:=2) (by decide));obtain⟨k,rfl,k0,k1⟩:=yI (m:=5) hs;exact .zY k0 k1 (Sy.of (hp b (by show b∈[b];simp)))
    . obtain⟨a,rfl⟩:=l1 (two (k:=1) (by decide));exact .one (by decide) (Sy.of (hp a (by show a∈[a];simp)))
    . obtain⟨a,rfl⟩:=l1 (two (k:=1) (by decide));exact .one (by decide) (Sy.of (hp a (by show a∈[a];simp)))
    . obtain⟨a,b,p,rfl⟩:=l3 (two (k:=3) (by decide))
      obtain⟨h1,h2⟩:=Bool.and_eq_true_iff.mp (show(nameB a && nameB b)=true from hs)
      obtain⟨x,rfl⟩:=oW h1;obtain⟨y,rfl⟩:=oW h2
      exact .bnd (.inl rfl) h1 h2 (Sy.of (hp p (by show p∈[p];simp)))
    . obtain⟨a,b,p,rfl⟩:=l3 (two (k:=3) (by decide))
      obtain⟨h1,h2⟩:=Bool.and_eq_true_iff.mp (show(nameB a && nameB b)=true from hs)
      obtain⟨x,rfl⟩:=oW h1;obtain⟨y,rfl⟩:=oW h2
      exact .bnd (.inr rfl) h1 h2 (Sy.of (hp p (by show p∈[p];simp)))
theorem fH {z:Str}(h:z∈Nr):z="not"\/z="next"\/z="always"\/z="some":=by simpa[Nr] using h
theorem fJ {z:Str}(h:z∈Nt):z="both"\/z="either"\/z="till":=by simpa[Nt] using h
theorem Sy.iC {n:Nat}{bs:List Str}{d:D}(h:Sy n bs d):iC n bs d=true:=by
 induction h with
 | leaf h=>rcases h with rfl | rfl <;> rfl
 | @now n bs t h=>have e:=h.test;rw[gI];exact⟨e,fun p hp=>by cases hp⟩
 | one hz _ ih=>rcases fH hz with rfl | rfl | rfl | rfl <;> (rw[gI];exact⟨rfl,fun p hp=>by rw[List.mem_singleton.mp (show p∈[_] from hp)];exact ih⟩)
 | two hz _ _ i1 i2=>
  have two:∀{p q x:D}{f:D->Prop},f p->f q->x∈[p,q]->f x:=fun h1 h2 hx=>by
   rcases List.mem_cons.mp hx with e | e
   ·rw[e];exact h1
   ·rw[List.mem_singleton.mp e];exact h2
  rcases fJ hz with rfl | rfl | rfl <;> (rw[gI];exact⟨rfl,fun p hp=>two (f:=fun x=>Ss.iC _ _ x=true) i1 i2 hp⟩)
 | @zY n bs k p k0 k1 _ ih=>rw[gI];exact⟨by show jh (.int k) 0 5=true;simp[jh,k0,k1],fun p hp=>by rw[List.mem_singleton.mp (show p∈[_] from hp)];exact ih⟩
 | @bnd n bs z a y p hz h1 h2 _ ih=>
  rcases hz with rfl | rfl <;> (rw[gI];exact⟨by show(nameB (.str a) && nameB (.str y))=true;rw[h1,h2];rfl,fun p hp=>by rw[List.mem_singleton.mp (show p∈[_] from hp)];exact ih⟩)
theorem Ts.mono {bs cs:List Str}{t:D}(h:Ts bs t) (k:∀y∈bs,y∈cs):Ts cs t:=by
 cases h with
 | any=>exact .any
 | name h=>exact .name h
 | num a b c=>exact .num a b c
 | var a b=>exact .var a (k _ b)
theorem Sy.mono {n:Nat}{bs:List Str}{d:D}(h:Sy n bs d):∀{cs:List Str},(∀y∈bs,y∈cs)->Sy n cs d:=by
 induction h with
 | leaf h=>exact fun _=>.leaf h
 | now h=>exact fun k=>.now (h.mono k)
 | one hz _ ih=>exact fun k=>.one hz (ih k)
 | two hz _ _ i1 i2=>exact fun k=>.two hz (i1 k) (i2 k)
 | zY a b _ ih=>exact fun k=>.zY a b (ih k)
 | bnd hz a b _ ih=>exact fun k=>.bnd hz a b (ih fun y hy=>by
   rcases List.mem_append.mp hy with q | q
   ·exact List.mem_append.mpr (.inl (k y q))
   ·exact List.mem_append.mpr (.inr q))
noncomputable def qk (xs:List Str) (k:D):D->D
 | .tup [.str o,.str y]=>if o≠"name"/\y∈xs then .tup [.str o,k] else .tup [.str o,.str y]
 | t=>t
noncomputable def iX:Nat->List Str->D->D->D
 | n+1,xs,k,.tup [.str z,p]=>if z="now" then .tup [.str z,qk xs k p] else .tup [.str z,iX n xs k p]
 | n+1,xs,k,.tup [.str z,p,q]=>if z="within" then .tup [.str z,p,iX n xs k q] else .tup [.str z,iX n xs k p,iX n xs k q]
 | n+1,xs,k,.tup [.str z,a,.str y,p]=>.tup [.str z,a,.str y,iX n (xs.filter fun x=>decide (x≠y)) k p]
 | _,_,_,d=>d
theorem IU {z:Str}(h:z∈Nr):z≠"now":=by rcases fH h with rfl | rfl | rfl | rfl <;> decide
theorem IV {z:Str}(h:z∈Nt):z≠"within":=by rcases fJ h with rfl | rfl | rfl <;> decide
section
variable {n:Nat}{xs:List Str}{k:D}
theorem mR {z:Str}:iX n xs k (.tup [.str z])= .tup [.str z]:=by cases n <;> rfl
theorem pY {t:D}:iX (n+1) xs k (.tup [.str "now",t])= .tup [.str "now",qk xs k t]:=by show(if _ then _ else _)=_;rw[if_pos rfl]
theorem pZ {z:Str}{p:D}(h:z∈Nr):iX (n+1) xs k (.tup [.str z,p])= .tup [.str z,iX n xs k p]:=by show(if _ then _ else _)=_;rw[if_neg (IU h)]
theorem p5 {z:Str}{p q:D}(h:z∈Nt):iX (n+1) xs k (.tup [.str z,p,q])= .tup [.str z,iX n xs k p,iX n xs k q]:=by show(if _ then _ else _)=_;rw[if_neg (IV h)]
theorem p6 {p q:D}:iX (n+1) xs k (.tup [.str "within",p,q])= .tup [.str "within",p,iX n xs k q]:=by show(if _ then _ else _)=_;rw[if_pos rfl]
theorem p7 {z y:Str}{a p:D}:iX (n+1) xs k (.tup [.str z,a,.str y,p])= .tup [.str z,a,.str y,iX n (xs.filter fun x=>decide (x≠y)) k p]:=rfl
end
theorem LU {bs xs:List Str}{k t:D}(h:Ts bs t) (hx:∀x∈xs,x∉bs):qk xs k t=t:=by
 cases h with
 | any=>rfl
 | name h=>simp[qk]
 | num a b c=>rfl
 | var a b=>show(if _ then _ else _)=_;rw[if_neg (fun q=>hx _ q.2 b)]
theorem IW {n:Nat}{bs:List Str}{k d:D}(h:Sy n bs d):∀{xs:List Str},(∀x∈xs,x∉bs)->iX n xs k d=d:=by
 induction h with
 | leaf h=>exact fun _=>mR
 | now h=>intro xs hx;rw[pY,LU h hx]
 | one hz _ ih=>intro xs hx;rw[pZ hz,ih hx]
 | two hz _ _ i1 i2=>intro xs hx;rw[p5 hz,i1 hx,i2 hx]
 | zY a b _ ih=>intro xs hx;rw[p6,ih hx]
 | bnd hz a b _ ih=>
  intro xs hx
  rw[p7,ih fun x hx'=>?_]
  obtain⟨h1,h2⟩:=List.mem_filter.mp hx'
  intro q
  rcases List.mem_append.mp q with q | q
  ·exact hx x h1 q
  ·exact of_decide_eq_true h2 (List.mem_singleton.mp q)
theorem LV {bs xs:List Str}{i:Int}{t:D}(h:Ts bs t) (h0:0<=i) (h9:i<=9):Ts (bs.filter fun y=>decide (y∉xs)) (qk xs (.int i) t):=by
 cases h with
 | any=>exact .any
 | name h=>simp[qk];exact .name h
 | num a b c=>exact .num a b c
 | @var o y a b=>
  show Ts _ (if _ then _ else _)
  split
  ·exact .num a h0 h9
  ·rename_i q
   exact .var a (List.mem_filter.mpr ⟨b,decide_eq_true fun z=>q ⟨(nu a).1,z⟩⟩)
theorem IX {n:Nat}{bs:List Str}{i:Int}{d:D}(h:Sy n bs d) (h0:0<=i) (h9:i<=9):∀(xs:List Str),Sy n (bs.filter fun y=>decide (y∉xs)) (iX n xs (.int i) d):=by
 induction h with
 | leaf h=>intro xs;rw[mR];exact .leaf h
 | now h=>intro xs;rw[pY];exact .now (LV h h0 h9)
 | one hz _ ih=>intro xs;rw[pZ hz];exact .one hz (ih xs)
 | two hz _ _ i1 i2=>intro xs;rw[p5 hz];exact .two hz (i1 xs) (i2 xs)
 | zY a b _ ih=>intro xs;rw[p6];exact .zY a b (ih xs)
 | @bnd n bs z a y p hz ha hb _ ih=>
  intro xs
  rw[p7]
  refine .bnd hz ha hb ((ih _).mono fun w hw=>?_)
  obtain⟨h1,h2⟩:=List.mem_filter.mp hw
  have h2:=of_decide_eq_true h2
  rcases List.mem_append.mp h1 with q | q
  ·by_cases e:w=y
   ·exact List.mem_append.mpr (.inr (by rw[e];simp))
   ·exact List.mem_append.mpr (.inl (List.mem_filter.mpr ⟨q,decide_eq_true fun z=>h2 (List.mem_filter.mpr ⟨z,decide_eq_true e⟩)⟩))
  ·exact List.mem_append.mpr (.inr q)
noncomputable def dP:GS:=
 (cj (eT (eQ (kO (qB (eF (eP jB (aa (jH 0) (aa (eC (.int 2)) aA))))) (kO (qB (eF (eP zD (aa (dg 0 (eC (.int 0))) (aa (eC (.str "name")) aA))))) (qB (Xr ["str"] (dg 0 (eC (.int 1))))))))))
noncomputable def dH (iR:FM) (mS:FM) (dB:FM):GS:=
 (aZ (i8 (qB (eF (eP jB (aa (dg 0 (eC (.int 0))) (aa (eC (.str "now")) aA))))) (aZ (i8 (kO (qB (eF (aO iR (aC (dg 0 (eC (.int 1))) bq)))) (qB (eF (eP jB (aa (eF (eP xA (aa (dg 0 (eC (.int 1))) (aa (eC (.int 1)) aA)))) (aa (eF (aj 1)) aA)))))) (cj (eP cy (aa (eC (.str "now")) (aa (eF (eP cy (aa (eF (eP xA (aa (dg 0 (eC (.int 1))) (aa (eC (.int 0)) aA)))) (aa (eF (aj 2)) aA)))) aA)))) dc)
 (cj (aj 0))) dc)
 (aZ (i8 (kO (qB (LB false ["each","one"] (dg 0 (eC (.int 0))))) (qB (eF (eP jB (aa (dg 0 (eC (.int 2))) (aa (eF (aj 1)) aA)))))) (cj (aj 0)) dc)
 (cj (eP cN (aa (eF (sS (eF (aj 0)) none (some (Lz [("yes",1),("no",1),("now",2),("not",1),("both",1),("either",1),("next",1),("till",1),("within",2),("always",1),("some",1),("each",3),("one",3)] (dg 0 (eC (.int 0))))))) (aa (eF (eP vR (aa (eF (oA [2,1] (xB (eF (aO mS (aC (eF (aj 0)) bq)))) eZ (eF (aO dB (aC (eF (aj 0)) (aC (eF (aj 2)) (aC (eF (aj 1)) bq))))))) aA))) aA))))))
noncomputable def DX:FM:=aW 1 dP
theorem PD:∀us r,DX us=some r->aW 1 dP us=some r:=fun _ _ h=>h
noncomputable def Nu:D->Bool
 | .tup [.str o,.str _]=>decide (o≠"name")
 | _=>false
theorem TZ {bs:List Str}{t:D}(h:Ts bs t):DX [.t t]=some (.t (.bl (Nu t)),[]):=by
 cases h with
 | any=>simp[DX,aW,dP,aT,Nu]
 | @name a h=>simp[DX,aW,dP,aT,Nu,d7]
 | @num o k a b c=>have n:=(nu a).1;simp[DX,aW,dP,aT,Nu,d7,fR,n,vQ,AS,zo]
 | @var o y a b=>have n:=(nu a).1;simp[DX,aW,dP,aT,Nu,d7,fR,n,vQ,AS,zo]
theorem rS {z:Str}{r:List D}(hz:z∈nG){pl:List D}(h:(.str z :: r).drop (fc z)=pl):qP [.t (.tup (.str z :: r))]=some (.t (.tup pl),[]):=by rw[IK (nq z hz),h]
theorem IY {z:Str}(h:z∈Nr):z∈nG/\fc z=1/\fT z=false/\z≠"now":=by rcases fH h with rfl | rfl | rfl | rfl <;> decide
theorem IZ {z:Str}(h:z∈Nt):z∈nG/\fc z=1/\fT z=false/\z≠"now":=by rcases fJ h with rfl | rfl | rfl <;> decide
theorem Fl {z:Str}(h:z="yes"\/z="no"):z∈nG/\fc z=1/\fT z=false/\z≠"now":=by rcases h with rfl | rfl <;> decide
theorem I0:("within":Str)∈nG/\fc "within" =2/\fT "within" =false/\("within":Str)≠"now":=by decide
theorem Ja {z:Str}(h:z="each"\/z="one"):z∈nG/\fc z=3/\fT z=true/\z≠"now":=by rcases h with rfl | rfl <;> decide
theorem Jb (ds:List D) (k:Nat):L2.cutD ds none (some (k:Int))=ds.take k:=by
 unfold L2.cutD
 rw[HT.vB,HT.zc,List.drop_zero,Nat.sub_zero]
 by_cases h:k<=ds.length
 ·rw[Nat.min_eq_left h]
 ·rw[Nat.min_eq_right (by omega),List.take_of_length_le (Nat.le_refl _),List.take_of_length_le (by omega)]
section
variable {f1 f2 f3:FM}{t k:D}{x z:Str}{r pl ql:List D}
theorem LW (hz:z≠"now") (hb:fT z=true){a:D}(hr:r=a :: .str x :: pl):aW 3 (dH f1 f2 f3) [.t (.tup (.str z :: r)),.t (.str x),.t k]=some (.t (.tup (.str z :: r)),[]):=by
 subst hr
 unfold fT Rf at hb
 simp only[List.map_cons,List.map_nil] at hb
 simp[aW,dH,aT,d7,nk,hz,hb]
theorem vh {b:Bool}(e1:f1 [.t t]=some (.t (.bl b),[])) (h:b=true->∃o y:Str,t= .tup [.str o,.str y]/\y≠x):aW 3 (dH f1 f2 f3) [.t (.tup [.str "now",t]),.t (.str x),.t k]=some (.t (.tup [.str "now",t]),[]):=by
 cases b with
 | false=>simp[aW,dH,aT,d7,fR,e1]
 | true=>
  obtain⟨o,y,rfl,hn⟩:=h rfl
  simp[aW,dH,aT,d7,fR,e1,hn]
theorem LX {o:Str}(e1:f1 [.t (.tup [.str o,.str x])]=some (.t (.bl true),[])):aW 3 (dH f1 f2 f3) [.t (.tup [.str "now",.tup [.str o,.str x]]),.t (.str x),.t k]=some (.t (.tup [.str "now",.tup [.str o,k]]),[]):=by
 simp[aW,dH,aT,d7,fR,e1]
theorem Bu (hz:z≠"now") (hh:zU z) (hb:fT z=false\/∃(a:D) (y:Str) (q:List D),r=a :: .str y :: q/\y≠x) (e2:f2 [.t (.tup (.str z :: r))]=some (.t (.tup pl),[])) (hl:pl.length<=2) (g:D->D) (e3:∀p∈pl,f3 [.t p,.t (.str x),.t k]=some (.t (g p),[])):
  aW 3 (dH f1 f2 f3) [.t (.tup (.str z :: r)),.t (.str x),.t k]=some (.t (.tup ((.str z :: r).take (fc z)++pl.map g)),[]):=by
 have e:=hh.vN
 unfold VU at e
 have c:=Jb (.str z :: r) (fc z)
 have e4:=E8 (cap:=[2,1]) (g:=eF (aO f3 (aC (eF (aj 0)) (aC (eF (aj 2)) (aC (eF (aj 1)) bq))))) (S:=[some (.t (.tup (.str z :: r))),some (.t (.str x)),some (.t k)]) (ts:=[k,.str x]) rfl g pl [] (by
  intro p hp
  simp[e3 p hp])
 rw[List.nil_append] at e4
 have l1:pl.length<=100000:=by omega
 have l2:((.str z :: r).take (fc z)).length<=4:=by rw[List.length_take];have:=hh.s4;have:=hh.l4;omega
 have l3:((D.str z :: r).take (fc z)).length+pl.length<=100000:=by omega
 have i1:=LP z
 rcases hb with hb | ⟨a,y,q,rfl,hy⟩
 ·unfold fT Rf at hb
  simp only[List.map_cons,List.map_nil] at hb
  simp[-List.length_take,aW,dH,aT,d7,nk,hz,hb,e,qN,e2,e4,l1,c,l3]
 ·cases hb:fT z with
  | false=>
   unfold fT Rf at hb
   simp only[List.map_cons,List.map_nil] at hb
   simp[-List.length_take,aW,dH,aT,d7,nk,hz,hb,e,qN,e2,e4,l1,c,l3]
  | true=>
   unfold fT Rf at hb
   simp only[List.map_cons,List.map_nil] at hb
   simp[-List.length_take,aW,dH,aT,d7,nk,hz,hb,e,qN,e2,e4,l1,c,l3,hy]
end
noncomputable def mT:Nat->FM
 | 0=>fun _=>none
 | j+1=>aW 3 (dH DX qP (mT j))
theorem LY (j:Nat):∀us r,mT (j+1) us=some r->aW 3 (dH DX qP (mT j)) us=some r:=fun _ _ h=>h
theorem Fo (us:List U):mT 0 us=none:=rfl
theorem DY {n : Nat} {bs : List Str} {d : D} (h : Sy n bs d) (x : Str) (k : D) : ∀ {j : Nat}, n <= j -> mT j [.t d, .t (.str x), .t k] = some (.t (iX n [x] k d), []) := by
  induction h with
  | @leaf n bs z h=>
    intro j hj
    obtain⟨j,rfl⟩:∃i,j=i+1:=⟨j - 1,by omega⟩
    obtain⟨h1,h2,h3,h4⟩:=Fl h
    have e:=Bu (f1:=DX) (f3:=mT j) (x:=x) (k:=k) h4 (nq z h1) (.inl h3) (rS (r:=[]) (pl:=[]) h1 (by rw[h2] <;> rfl)) (by decide) id (fun p hp=>by cases hp)
    rw[h2] at e
    rw[mR]
    exact e
  | @now n bs t h=>
    intro j hj
    obtain⟨j,rfl⟩:∃i,j=i+1:=⟨j - 1,by omega⟩
    rw[pY]
    have hv:=TZ h
    cases h with
    | any=>exact vh hv (fun q=>by cases q)
    | @name a h=>rw[show qk [x] k (.tup [.str "name",.str a])= .tup [.str "name",.str a] by simp[qk]];exact vh hv (fun q=>absurd q (by simp[Nu]))
    | num a b c=>exact vh hv (fun q=>by cases q)
    | @var o y a b=>
      have n:=(nu a).1
      by_cases e:y=x
      . subst e
        rw[show qk [y] k (.tup [.str o,.str y])= .tup [.str o,k] by simp[qk,n]]
        rw[show Nu (.tup [.str o,.str y])=true by simp[Nu,n]] at hv
        exact LX hv
      . rw[show qk [x] k (.tup [.str o,.str y])= .tup [.str o,.str y] by simp[qk,e]]
        exact vh hv (fun _=>⟨o,y,rfl,e⟩)
  | @one n bs z p hz _ ih=>
    intro j hj
    obtain⟨j,rfl⟩:∃i,j=i+1:=⟨j - 1,by omega⟩
    obtain⟨h1,h2,h3,h4⟩:=IY hz
    have e:=Bu (f1:=DX) (f3:=mT j) (x:=x) (k:=k) h4 (nq z h1) (.inl h3) (rS (r:=[p]) (pl:=[p]) h1 (by rw[h2] <;> rfl)) (by simp) (iX n [x] k) (fun p hp=>by rw[List.mem_singleton.mp hp];exact ih (by omega))
    rw[h2] at e
    rw[pZ hz]
    exact e
  | @two n bs z p q hz _ _ i1 i2=>
    intro j hj
    obtain⟨j,rfl⟩:∃i,j=i+1:=⟨j - 1,by omega⟩
    obtain⟨h1,h2,h3,h4⟩:=IZ hz
    have e:=Bu (f1:=DX) (f3:=mT j) (x:=x) (k:=k) h4 (nq z h1) (.inl h3) (rS (r:=[p,q]) (pl:=[p,q]) h1 (by rw[h2] <;> rfl)) (by simp) (iX n [x] k) (fun w hw=>by
      rcases List.mem_cons.mp hw with e | e
      . rw[e];exact i1 (by omega)
      . rw[List.mem_singleton.mp e];exact i2 (by omega))
    rw[h2] at e
    rw[p5 hz]
    exact e
  | @zY n bs i p _ _ _ ih=>
    intro j hj
    obtain⟨j,rfl⟩:∃i,j=i+1:=⟨j - 1,by omega⟩
    obtain⟨h1,h2,h3,h4⟩:=I0
    have e:=Bu (f1:=DX) (f3:=mT j) (x:=x) (k:=k) h4 (nq _ h1) (.inl h3) (rS (r:=[.int i,p]) (pl:=[p]) h1 rfl) (by simp) (iX n [x] k) (fun p hp=>by rw[List.mem_singleton.mp hp];exact ih (by omega))
    rw[h2] at e
    rw[p6]
    exact e
  | @bnd n bs z a y p hz _ _ hp ih=>
    intro j hj
    obtain⟨j,rfl⟩:∃i,j=i+1:=⟨j - 1,by omega⟩
    obtain⟨h1,h2,h3,h4⟩:=Ja hz
    rw[p7]
    by_cases e:x=y
    . subst e
      rw[List.filter_cons_of_neg (by simp),List.filter_nil,IW hp fun x hx=>by cases hx]
      exact LW h4 h3 rfl
    . rw[List.filter_cons_of_pos (by simpa using e),List.filter_nil]
      have e:=Bu (f1:=DX) (f3:=mT j) (x:=x) (k:=k) h4 (nq z h1) (.inr ⟨.str a,y,[p],rfl,fun q=>e q.symm⟩) (rS (r:=[.str a,.str y,p]) (pl:=[p]) h1 (by rw[h2] <;> rfl)) (by simp) (iX n [x] k) (fun p hp=>by rw[List.mem_singleton.mp hp];exact ih (by omega))
      rw[h2] at e
      exact e
end Sp
end
section
namespace Sh
open PySem PySem.Spec PyProof.Rows L2 Sw Ss Sn Sp
noncomputable abbrev Row:=List (Str×Int)
noncomputable abbrev Ev:=Str->Option Int
noncomputable def q8 (e:Ev) (y:Str) (m:Int):Ev:=fun x=>if x=y then some m else e x
noncomputable def lZ:Ev:=fun _=>none
noncomputable def uN (e:Ev):D->Int
 | .int k=>k
 | .str y=>(e y).getD 0
 | _=>0
noncomputable def Gn (e:Ev) (h:Str×Int):D->Bool
 | .tup [.str o,v]=>if o="name" then(match v with | .str a=>decide (h.1=a) | _=>false) else if o="less" then decide (h.2 < uN e v) else if o="same" then decide (h.2=uN e v) else decide (uN e v < h.2)
 | .tup [_]=>true
 | _=>false
noncomputable def YJ:D->Nat
 | .int n=>n.toNat
 | _=>0
noncomputable def j8 (n:Nat) (f:Nat->Bool):Bool:=(List.range n).any f
noncomputable def lB (n:Nat) (f:Nat->Bool):Bool:=(List.range n).all f
noncomputable def ev (R:Row) (e:Ev) (d:D) (i:Nat):Bool:=
 match d with
 | .tup [.str z]=>decide (z="yes")
 | .tup [.str z,p]=>
  if z="now" then(match R[i]? with | some h=>Gn e h p | none=>false)
  else if z="not" then !ev R e p i
  else if z="next" then decide (i < R.length) && ev R e p (i+1)
  else if z="always" then lB (R.length - i) fun k=>ev R e p (i+k)
  else j8 (R.length - i) fun k=>ev R e p (i+k)
 | .tup [.str z,a,q]=>
  if z="within" then(j8 (min (R.length - i) (YJ a)) fun k=>ev R e q (i+k))
  else if z="both" then ev R e a i && ev R e q i
  else if z="either" then ev R e a i || ev R e q i
  else j8 (R.length - i) fun k=>ev R e q (i+k) && lB k fun j=>ev R e a (i+j)
 | .tup [.str z,.str a,.str y,p]=>
  if z="each" then lB (R.length - i) fun k=>match R[i+k]? with | some h=>if h.1=a then ev R (q8 e y h.2) p (i+k) else true | none=>true
  else j8 (R.length - i) fun k=>match R[i+k]? with | some h=>if h.1=a then ev R (q8 e y h.2) p (i+k) else false | none=>false
 | _=>false
termination_by sizeOf d
section
variable (R:Row) (e:Ev) (i:Nat)
theorem rT (z:Str):ev R e (.tup [.str z]) i=decide (z="yes"):=by rw[ev]
theorem qQ (t:D):ev R e (.tup [.str "now",t]) i=(match R[i]? with | some h=>Gn e h t | none=>false):=by rw[ev,if_pos rfl]
theorem s8 (p:D):ev R e (.tup [.str "not",p]) i=!ev R e p i:=by rw[ev,if_neg (by decide),if_pos rfl]
theorem nv (p:D):ev R e (.tup [.str "next",p]) i=(decide (i < R.length) && ev R e p (i+1)):=by rw[ev,if_neg (by decide),if_neg (by decide),if_pos rfl]
theorem i9 (p:D):ev R e (.tup [.str "always",p]) i=lB (R.length - i) fun k=>ev R e p (i+k):=by rw[ev,if_neg (by decide),if_neg (by decide),if_neg (by decide),if_pos rfl]
theorem mh (p:D):ev R e (.tup [.str "some",p]) i=j8 (R.length - i) fun k=>ev R e p (i+k):=by rw[ev,if_neg (by decide),if_neg (by decide),if_neg (by decide),if_neg (by decide)]
theorem iJ (n:Int) (p:D):ev R e (.tup [.str "within",.int n,p]) i=j8 (min (R.length - i) n.toNat) fun k=>ev R e p (i+k):=by rw[ev,if_pos rfl];rfl
theorem p8 (p q:D):ev R e (.tup [.str "both",p,q]) i=(ev R e p i && ev R e q i):=by rw[ev,if_neg (by decide),if_pos rfl]
theorem kJ (p q:D):ev R e (.tup [.str "either",p,q]) i=(ev R e p i || ev R e q i):=by rw[ev,if_neg (by decide),if_neg (by decide),if_pos rfl]
theorem mj (p q:D):ev R e (.tup [.str "till",p,q]) i=j8 (R.length - i) fun k=>ev R e q (i+k) && lB k fun j=>ev R e p (i+j):=by rw[ev,if_neg (by decide),if_neg (by decide),if_neg (by decide)]
theorem mq (a y:Str) (p:D):ev R e (.tup [.str "each",.str a,.str y,p]) i=lB (R.length - i) fun k=>match R[i+k]? with | some h=>if h.1=a then ev R (q8 e y h.2) p (i+k) else true | none=>true:=by rw[ev,if_pos rfl]
theorem oX (a y:Str) (p:D):ev R e (.tup [.str "one",.str a,.str y,p]) i=j8 (R.length - i) fun k=>match R[i+k]? with | some h=>if h.1=a then ev R (q8 e y h.2) p (i+k) else false | none=>false:=by rw[ev,if_neg (by decide)]
end
theorem PF (e:Ev) (y:Str) (m n:Int):q8 (q8 e y m) y n=q8 e y n:=by funext x;unfold q8;split <;> rfl
theorem Jc (e:Ev){x y:Str}(h:x≠y) (m n:Int):q8 (q8 e x m) y n=q8 (q8 e y n) x m:=by
 funext w;unfold q8
 by_cases a:w=y
 ·subst a
  have:¬w=x:=fun q=>h q.symm
  simp[this]
 ·simp[a]
theorem nA (e:Ev) (hp:Str×Int){o:Str}(n:o≠"name") (v:D):Gn e hp (.tup [.str o,v])=if o="less" then decide (hp.2 < uN e v) else if o="same" then decide (hp.2=uN e v) else decide (uN e v < hp.2):=by show(if o="name" then _ else _)=_;rw[if_neg n]
theorem wD (e:Ev) (hp:Str×Int) (a:Str):Gn e hp (.tup [.str "name",.str a])=decide (hp.1=a):=by simp[Gn]
theorem LZ {bs:List Str}{t:D}(h:Ts bs t) (e:Ev) (hp:Str×Int) (x:Str) (m:Int):Gn e hp (qk [x] (.int m) t)=Gn (q8 e x m) hp t:=by
 cases h with
 | any=>rfl
 | @name a h=>
  have z:qk [x] (.int m) (.tup [.str "name",.str a])= .tup [.str "name",.str a]:=by simp[qk]
  rw[z,wD,wD]
 | @num o k a b c=>
  have n:=(nu a).1
  show Gn e hp (.tup [.str o,.int k])=_
  rw[nA _ _ n,nA _ _ n]
  rfl
 | @var o y a b=>
  have n:=(nu a).1
  have z:qk [x] (.int m) (.tup [.str o,.str y])=if o≠"name"/\y∈[x] then .tup [.str o,.int m] else .tup [.str o,.str y]:=rfl
  rw[z]
  by_cases q:y=x
  ·subst q
   have u:uN (q8 e y m) (.str y)=m:=by simp[uN,q8]
   rw[if_pos ⟨n,List.mem_singleton.mpr rfl⟩,nA _ _ n,nA _ _ n,u]
   rfl
  ·have u:uN (q8 e x m) (.str y)=uN e (.str y):=by simp[uN,q8,q]
   rw[if_neg (fun w=>q (List.mem_singleton.mp w.2)),nA _ _ n,nA _ _ n,u]
theorem Jd (R : Row) {n : Nat} {bs : List Str} {d : D} (h : Sy n bs d) : ∀ (e : Ev) (x : Str) (m : Int) (i : Nat), ev R e (iX n [x] (.int m) d) i = ev R (q8 e x m) d i := by
  induction h with
  | leaf h=>intro e x m i;rw[mR,rT,rT]
  | now h=>
    intro e x m i
    rw[pY,qQ,qQ]
    cases R[i]? with
    | none=>rfl
    | some hp=>exact LZ h e hp x m
  | @one n bs z p hz _ ih=>
    intro e x m i
    rw[pZ hz]
    rcases fH hz with rfl | rfl | rfl | rfl
    . rw[s8,s8,ih]
    . rw[nv,nv,ih]
    . rw[i9,i9];congr 1;funext k;exact ih ..
    . rw[mh,mh];congr 1;funext k;exact ih ..
  | @two n bs z p q hz _ _ i1 i2=>
    intro e x m i
    rw[p5 hz]
    rcases fJ hz with rfl | rfl | rfl
    . rw[p8,p8,i1,i2]
    . rw[kJ,kJ,i1,i2]
    . rw[mj,mj];congr 1;funext k;rw[i2];congr 2;funext j;exact i1 ..
  | @zY n bs k p a b _ ih=>intro e x m i;rw[p6,iJ,iJ];congr 1;funext k;exact ih ..
  | @bnd n bs z a y p hz ha hb hp ih=>
    intro e x m i
    rw[p7]
    have key:∀(v:Int) (j:Nat),ev R (q8 e y v) (iX n ([x].filter fun w=>decide (w≠y)) (.int m) p) j=ev R (q8 (q8 e x m) y v) p j:=fun v j=>by
      by_cases q:x=y
      . subst q
        rw[List.filter_cons_of_neg (by simp),List.filter_nil,IW hp (fun w hw=>by cases hw),PF]
      . rw[List.filter_cons_of_pos (by simpa using q),List.filter_nil,ih,Jc e q]
    rcases hz with rfl | rfl
    . rw[mq,mq];congr 1;funext k
      cases R[i+k]? with
      | none=>rfl
      | some h=>simp only[key]
    . rw[oX,oX];congr 1;funext k
      cases R[i+k]? with
      | none=>rfl
      | some h=>simp only[key]
noncomputable def cost (r:Nat) (d:D):Nat:=
 match d with
 | .tup [.str z,p]=>if z="now" then 1 else 1+cost r p
 | .tup [.str z,a,q]=>if z="within" then 1+cost r q else 1+cost r a+cost r q
 | .tup [.str z,.str a,.str y,p]=>1+r * cost r p
 | _=>1
termination_by sizeOf d
section
variable (r:Nat)
theorem yJ (z:Str):cost r (.tup [.str z])=1:=by unfold cost;rfl
theorem rW (t:D):cost r (.tup [.str "now",t])=1:=by rw[cost,if_pos rfl]
theorem rX {z:Str}(hz:z∈Nr) (p:D):cost r (.tup [.str z,p])=1+cost r p:=by rw[cost,if_neg (IU hz)]
theorem rY {z:Str}(hz:z∈Nt) (p q:D):cost r (.tup [.str z,p,q])=1+cost r p+cost r q:=by rw[cost,if_neg (IV hz)]
theorem rZ (k p:D):cost r (.tup [.str "within",k,p])=1+cost r p:=by rw[cost,if_pos rfl]
theorem r9 (z a y:Str) (p:D):cost r (.tup [.str z,.str a,.str y,p])=1+r * cost r p:=by rw[cost]
theorem Je {n:Nat}{bs:List Str}{d:D}(h:Sy n bs d):∀(xs:List Str) (k:D),cost r (iX n xs k d)=cost r d:=by
 induction h with
 | leaf h=>intro xs k;rw[mR]
 | now h=>intro xs k;rw[pY,rW,rW]
 | one hz _ ih=>intro xs k;rw[pZ hz,rX r hz,rX r hz,ih]
 | two hz _ _ i1 i2=>intro xs k;rw[p5 hz,rY r hz,rY r hz,i1,i2]
 | zY a b _ ih=>intro xs k;rw[p6,rZ,rZ,ih]
 | bnd hz a b _ ih=>intro xs k;rw[p7,r9,r9,ih]
end
theorem tu (r b:Nat):1<=(r+1) ^ b:=Nat.one_le_pow _ _ (by omega)
theorem L0 (r:Nat){n:Nat}{bs:List Str}{d:D}(h:Sy n bs d):cost r d<=(cF n d).length * (r+1) ^ ((cF n d).filter kE).length:=by
 induction h with
 | @leaf n bs z h=>
  rw[yJ]
  have l:1<=(cF (n+1) (.tup [.str z])).length:=by simp[cF]
  exact Nat.mul_le_mul l (tu r _)
 | @now n bs t h=>
  rw[rW]
  have l:1<=(cF (n+1) (.tup [.str "now",t])).length:=by simp[cF]
  exact Nat.mul_le_mul l (tu r _)
 | @one n bs z p hz _ ih=>
  rw[rX r hz]
  have e:cF (n+1) (.tup [.str z,p])= .tup [.str z,p] :: cF n p:=by rcases fH hz with rfl | rfl | rfl | rfl <;> exact congrArg _ (List.append_nil _)
  have b:kE (.tup [.str z,p])=false:=by rcases fH hz with rfl | rfl | rfl | rfl <;> rfl
  rw[e,List.length_cons,List.filter_cons_of_neg (by rw[b];decide),Nat.add_mul,Nat.one_mul]
  have:=tu r ((cF n p).filter kE).length
  omega
 | @two n bs z p q hz _ _ ip iq=>
  rw[rY r hz]
  have e:cF (n+1) (.tup [.str z,p,q])= .tup [.str z,p,q] :: (cF n p++cF n q):=by rcases fJ hz with rfl | rfl | rfl <;> exact congrArg (fun l=>D.tup _ :: (cF n p++l)) (List.append_nil _)
  have b:kE (.tup [.str z,p,q])=false:=by rcases fJ hz with rfl | rfl | rfl <;> rfl
  rw[e,List.length_cons,List.filter_cons_of_neg (by rw[b];decide),List.filter_append,List.length_append,List.length_append,Nat.add_mul,Nat.one_mul,Nat.add_mul]
  generalize ((cF n p).filter kE).length=b1 at *
  generalize ((cF n q).filter kE).length=b2 at *
  have h1:(r+1) ^ b1<=(r+1) ^ (b1+b2):=Nat.pow_le_pow_right (by omega) (by omega)
  have h2:(r+1) ^ b2<=(r+1) ^ (b1+b2):=Nat.pow_le_pow_right (by omega) (by omega)
  have h3:=Nat.mul_le_mul_left (cF n p).length h1
  have h4:=Nat.mul_le_mul_left (cF n q).length h2
  have:=tu r (b1+b2)
  omega
 | @zY n bs k p _ _ _ ih=>
  rw[rZ]
  have e:cF (n+1) (.tup [.str "within",.int k,p])= .tup [.str "within",.int k,p] :: cF n p:=congrArg _ (List.append_nil _)
  rw[e,List.length_cons,List.filter_cons_of_neg (fun h=>Bool.noConfusion (show false=true from h)),Nat.add_mul,Nat.one_mul]
  have:=tu r ((cF n p).filter kE).length
  omega
 | @bnd n bs z a y p hz ha hb hp ih=>
  rw[r9]
  have e:cF (n+1) (.tup [.str z,.str a,.str y,p])= .tup [.str z,.str a,.str y,p] :: cF n p:=by rcases hz with rfl | rfl <;> exact congrArg _ (List.append_nil _)
  have b:kE (.tup [.str z,.str a,.str y,p])=true:=by rcases hz with rfl | rfl <;> rfl
  rw[e,List.length_cons,List.filter_cons_of_pos b,List.length_cons,Nat.add_mul,Nat.one_mul,Nat.pow_succ]
  generalize ((cF n p).filter kE).length=b1 at *
  generalize (cF n p).length=s1 at *
  have h1:=tu r b1
  generalize (r+1) ^ b1=w at *
  have h2:r * cost r p<=r * (s1 * w):=Nat.mul_le_mul_left r ih
  have h3:s1 * (w * (r+1))=r * (s1 * w)+s1 * w:=by rw[Nat.mul_add,Nat.mul_one,Nat.mul_add,<-Nat.mul_assoc,<-Nat.mul_assoc r,Nat.mul_comm r s1,Nat.mul_assoc s1 r w,Nat.mul_comm r w,Nat.mul_assoc]
  have h4:1<=w * (r+1):=Nat.mul_le_mul h1 (by omega:1<=r+1)
  omega
theorem tw:∀{n m:Nat}(d:D),n<=m->gM n d=true->gM m d=true
 | n,m,.int _,_,_=>by cases m <;> rfl
 | n,m,.str _,_,_=>by cases m <;> rfl
 | n,m,.dR,_,h=>by cases n <;> cases h
 | n,m,.bl _,_,h=>by cases n <;> cases h
 | n,m,.lst _,_,h=>by cases n <;> cases h
 | 0,m,.tup _,_,h=>by cases h
 | n+1,0,.tup _,hm,h=>by omega
 | n+1,m+1,.tup ds,hm,h=>by
  have h:ds.all (gM n)=true:=h
  show ds.all (gM m)=true
  rw[List.all_eq_true] at h ⊢
  intro x hx
  exact tw x (by omega) (h x hx)
theorem T5 {bs:List Str}{t:D}(h:Ts bs t):gM 1 t=true:=by
 cases h <;> rfl
theorem T6 {n:Nat}{bs:List Str}{d:D}(h:Sy n bs d):gM (n+1) d=true:=by
 induction h with
 | leaf h=>rfl
 | @now n bs t h=>have:=tw t (by omega:1<=n+1) (T5 h);show List.all [D.str "now",t] (gM (n+1))=true;simp[this];rfl
 | @one n bs z p hz _ ih=>show List.all [D.str z,p] (gM (n+1))=true;simp[ih];rfl
 | @two n bs z p q hz _ _ i1 i2=>show List.all [D.str z,p,q] (gM (n+1))=true;simp[i1,i2];rfl
 | @zY n bs k p a b _ ih=>show List.all [D.str "within",.int k,p] (gM (n+1))=true;simp[ih];exact⟨rfl,rfl⟩
 | @bnd n bs z a y p hz ha hb _ ih=>show List.all [D.str z,.str a,.str y,p] (gM (n+1))=true;simp[ih];exact⟨rfl,rfl,rfl⟩
theorem PJ {n:Nat}{bs:List Str}{d:D}(h:Sy n bs d):∃ds,d= .tup ds:=by cases h <;> exact⟨_,rfl⟩
theorem L1 {n:Nat}{bs:List Str}{d:D}(h:Sy n bs d) (hn:n<=7):uL d=some d:=by
 obtain⟨ds,rfl⟩:=PJ h
 show(if gM 8 (.tup ds)=true then some (D.tup ds) else none)=_
 rw[if_pos (tw _ (by omega) (T6 h))]
@[simp] theorem T7 (cap:List Nat) (gi:GI) (q:GT) (g:GD) (S:SS):kY cap gi q g S=(gi S).bind fun p=>if p.1.length<=100000 then(iy cap q g p.1 p.2 []).map fun r=>(.m (.lst r.1),r.2) else none:=rfl
@[simp] theorem YK (gA:GA) (S:SS):O4 gA S=(gA S).bind fun p=>match p.1 with
 | [.lst ds]=>some (ds.reverse,p.2)
 | _=>none:=rfl
@[simp] theorem VY (d e:D):yE [d,e]=(oK d).bind fun q=>(oK e).map fun r=>.m (.lst (zO q.2 r.2)):=rfl
@[simp] theorem II (ds:List D):oK (.lst ds)=some (true,ds):=rfl
@[simp] theorem IJ (ds:List D):oK (.tup ds)=some (false,ds):=rfl
noncomputable def bl (l:List Bool):List D:=l.map D.bl
theorem nB (l:List Bool):(bl l).length=l.length:=List.length_map ..
theorem Bv:∀l:List Bool,kX (bl l)=some l
 | []=>rfl
 | b :: l=>by show(kX (bl l)).map _=_;rw[Bv l];rfl
theorem Jf (ds:List D) (d:D):gD (ds++[d]) (-1)=some d:=by
 unfold gD Cc
 rw[List.length_append,List.length_singleton]
 have h1:¬(0:Int)<=-1:=by decide
 rw[if_neg h1]
 have h2:(-(((ds.length+1:Nat)):Int)<=-1):=by omega
 rw[if_pos h2,Option.bind_some]
 have h3:((-1:Int)+((ds.length+1:Nat):Int)).toNat=ds.length:=by omega
 have h4:((((ds.length+1:Nat):Int))+(-1)).toNat=ds.length:=by omega
 first | rw[h3] | rw[h4]
 simp
theorem oY (ds:List D):L2.cutD ds none (some (-1))=ds.take (ds.length - 1):=by
 unfold L2.cutD HT.ig
 simp only[List.drop_zero]
 congr 1
 simp
 omega
theorem L4 {ds:List D}{p n:Nat}(h:p<=ds.length):L2.cutD ds (some (p:Int)) (some ((p:Int)+(n:Int)))=(ds.drop p).take n:=by
 unfold L2.cutD HT.ig
 have e1:¬((p:Int) < 0):=by omega
 have e2:¬((p:Int)+(n:Int) < 0):=by omega
 simp only[e1,e2,if_false]
 have e3:min (p:Int).toNat ds.length=p:=by omega
 have e4:((p:Int)+(n:Int)).toNat=p+n:=by omega
 rw[e3,e4]
 apply List.ext_getElem?
 intro i
 rw[List.getElem?_take,List.getElem?_take]
 by_cases c:i < n
 ·by_cases c2:i < min (p+n) ds.length - p
  ·rw[if_pos c,if_pos c2]
  ·rw[if_pos c,if_neg c2,List.getElem?_eq_none (by rw[List.length_drop];omega)]
 ·rw[if_neg c,if_neg (by omega)]
noncomputable def gQ:GS:=
 (cj (oA [] (xB (eF (aj 0))) eZ (eQ (vF (qB (eF (aj 0)))))))
noncomputable def turnF:FM:=aW 1 gQ
theorem Jg:∀us r,turnF us=some r->aW 1 gQ us=some r:=fun _ _ h=>h
theorem Fp (l:List Bool) (S:SS):gO [] eZ (eQ (vF (qB (eF (aj 0))))) (bl l) S []=some (bl (l.map fun b=>!b),S):=by
 have:=comp_map (cap:=[]) (g:=eQ (vF (qB (eF (aj 0))))) (S:=S) (fun d=>match d with | .bl b=>.bl (!b) | d=>d) (bl l) [] (fun d hd acc=>by
  obtain⟨b,_,rfl⟩:=List.mem_map.mp hd
  simp[gO,g8,slotsOf,dz,cM,eZ,aT,wb])
 rw[this,List.nil_append]
 congr 2
 unfold bl
 rw[List.map_map,List.map_map]
 rfl
theorem wF {l:List Bool}(h:l.length<=100000):turnF [.t (.lst (bl l))]=some (.m (.lst (bl (l.map fun b=>!b))),[]):=by
 have e:=Fp l [some (.t (.lst (bl l)))]
 have hl:=nB l
 simp[turnF,aW,gQ,qN,hl,h,e,aT]
noncomputable def jL:GS:=
 (yi (eT (eM 2 hAppend (aa (eQ (uq (qB (eF (aj 4))) (qB (eQ (kO (qB (eF (aj 3))) (qB (dg 2 (eF (eP nL (aa (eC (.int 1)) aA)))))))))) aA))))
noncomputable def mU:GS:=
 (aZ (cK 2 (eP ji (aa (eC (.bl false)) aA)))
 (aZ (nM (qJ 2 (g7 (bName 3) (g7 (bName 4) rF))) (O4 (aa (eF (eP yE (aa (eF (aj 0)) (aa (eF (aj 1)) aA)))) aA)) (jL))
 (aZ (yi (eT (eM 2 jj aA)))
 (cj (aj 2)))))
noncomputable def oZ:FM:=aW 5 mU
theorem Jh:∀us r,oZ us=some r->aW 5 mU us=some r:=fun _ _ h=>h
noncomputable def iN:List (Bool×Bool)->List Bool
 | []=>[false]
 | p :: ps=>(p.2 || (p.1 && (iN ps).headD false)) :: iN ps
theorem Ji:∀ps,∃h t,iN ps=h :: t
 | []=>⟨_,_,rfl⟩
 | _ :: _=>⟨_,_,rfl⟩
theorem tF:∀ps,(iN ps).length=ps.length+1
 | []=>rfl
 | _ :: ps=>by show(iN ps).length+1=_;rw[tF ps];rfl
noncomputable def pd (p:Bool×Bool):D:=.tup [.bl p.1,.bl p.2]
theorem Fq (a b : D) (ps : List (Bool × Bool)) (hb : ps.length < 99999) : ∃ x3 x4, loop (qJ 2 (g7 (bName 3) (g7 (bName 4) rF))) jL (ps.map pd).reverse [some (.t a), some (.t b), some (.m (.lst [.bl false])), none, none] =
    some (.nx [some (.t a),some (.t b),some (.m (.lst (bl (iN ps).reverse))),x3,x4]):=by
  obtain⟨S',e,qs,ps',x3,x4,h1,h2,h3,rfl⟩:=Sq.zS (bd:=qJ 2 (g7 (bName 3) (g7 (bName 4) rF))) (body:=jL) (ps.map pd).reverse
    (fun r S=>∃(qs ps':List (Bool×Bool)) (x3 x4:Option U),r=(qs.map pd).reverse/\qs++ps'=ps/\(qj x3=false/\qj x4=false)/\S=[some (.t a),some (.t b),some (.m (.lst (bl (iN ps').reverse))),x3,x4]) _ ⟨ps,[],none,none,rfl,List.append_nil _,⟨rfl,rfl⟩,rfl⟩ (by
      rintro d r S ⟨qs,ps',x3,x4,h1,h2,⟨h3,h4⟩,rfl⟩
      rcases List.eq_nil_or_concat qs with rfl | ⟨Vd,q,rfl⟩
      . cases h1
      . rw[List.concat_eq_append,List.map_append,List.reverse_append] at h1
        have h1:d :: r=pd q :: (Vd.map pd).reverse:=h1
        injection h1 with h1 hr
        subst h1
        obtain⟨hd,tl,hc⟩:=Ji ps'
        have el:bl (iN ps').reverse=bl tl.reverse++[.bl hd]:=by rw[hc];simp[bl]
        have ea:=Jf (bl tl.reverse) (.bl hd)
        rw[<-el] at ea
        have hlen:(bl (iN ps').reverse).length < 100000:=by
          have z:=congrArg List.length h2
          rw[List.length_append] at z
          rw[nB,List.length_reverse,tF]
          omega
        have ew:bl (iN (q :: ps')).reverse=bl (iN ps').reverse++[.bl (q.2 || (q.1 && hd))]:=by simp[iN,hc,bl]
        refine⟨[some (.t a),some (.t b),some (.m (.lst (bl (iN ps').reverse))),some (.t (.bl q.1)),some (.t (.bl q.2))],[some (.t a),some (.t b),some (.m (.lst (bl (iN (q :: ps')).reverse))),some (.t (.bl q.1)),some (.t (.bl q.2))],?_,?_,Vd,q :: ps',_,_,hr,by rw[<-h2,List.concat_eq_append];simp,⟨rfl,rfl⟩,rfl⟩
        . simp[-iz,fQ,pd,h3,h4]
        . obtain⟨q1,q2⟩:=q
          rw[ew]
          cases q2 with
          | true=>simp[jL,hlen]
          | false=>
            cases q1 with
            | false=>simp[jL,hlen]
            | true=>simp[jL,ea,hlen])
  have:qs=[]:=by
    have:=congrArg List.length h1
    simpa using this.symm
  subst this
  rw[List.nil_append] at h2
  subst h2
  exact⟨x3,x4,e⟩
theorem DZ (s c:List Bool):zO (bl s) (bl c)=(s.zip c).map pd:=by
 unfold zO bl
 rw[List.zipWith_map,List.zip_eq_zipWith,List.map_zipWith]
 rfl
theorem Bw (s c:List Bool) (h:c.length < 99999):oZ [.t (.lst (bl s)),.t (.lst (bl c))]=some (.m (.lst (bl (iN (s.zip c)))),[]):=by
 obtain⟨x3,x4,e⟩:=Fq (.lst (bl s)) (.lst (bl c)) (s.zip c) (by rw[List.length_zip];omega)
 rw[<-DZ] at e
 have er:(bl (iN (s.zip c)).reverse).reverse=bl (iN (s.zip c)):=by simp[bl]
 simp[oZ,aW,mU,e,er,aT]
noncomputable def kK (bw:FM):GS:=
 (cj (aO bw (aC (eF (eP zF (aa (eF (eP ji (aa (eC (.bl true)) aA))) (aa (jH 0) aA)))) (aC (eF (aj 0)) bq))))
noncomputable def mV (aE:FM) (bu:FM):GS:=
 (cj (aO aE (aC (eF (aO bu (aC (eF (aO aE (aC (eF (aj 0)) bq))) bq))) bq)))
noncomputable def qA:FM:=aW 1 (kK oZ)
noncomputable def Ft:FM:=aW 1 (mV turnF qA)
theorem Jj:∀us r,qA us=some r->aW 1 (kK oZ) us=some r:=fun _ _ h=>h
theorem L5:∀us r,Ft us=some r->aW 1 (mV turnF qA) us=some r:=fun _ _ h=>h
theorem L6 (n:Nat):(List.replicate n [D.bl true]).flatten=bl (List.replicate n true):=by
 induction n with
 | zero=>rfl
 | succ n ih=>rw[List.replicate_succ,List.flatten_cons,ih,List.replicate_succ];rfl
noncomputable def uC (c:List Bool):List Bool:=iN ((List.replicate c.length true).zip c)
noncomputable def D0 (c:List Bool):List Bool:=(uC (c.map fun b=>!b)).map fun b=>!b
theorem Fv (c:List Bool):(uC c).length=c.length+1:=by unfold uC;rw[tF,List.length_zip,List.length_replicate,Nat.min_self]
theorem wG {c:List Bool}(h:c.length < 99999):qA [.t (.lst (bl c))]=some (.m (.lst (bl (uC c))),[]):=by
 have e:=Bw (List.replicate c.length true) c h
 have h':c.length<=100000:=by omega
 have er:=L6 c.length
 have hl:=nB c
 show aW 1 (kK oZ) _=_
 generalize oZ=f at *
 simp[aW,kK,hl,h',er,e,aT,uC]
theorem D3 {c:List Bool}(h:c.length < 99999):Ft [.t (.lst (bl c))]=some (.m (.lst (bl (D0 c))),[]):=by
 have e1:=wF (l:=c) (by omega)
 have e2:=wG (c:=c.map fun b=>!b) (by rw[List.length_map];exact h)
 have e3:=wF (l:=uC (c.map fun b=>!b)) (by rw[Fv,List.length_map];omega)
 show aW 1 (mV turnF qA) _=_
 generalize turnF=f at *
 generalize qA=g at *
 simp[aW,mV,e1,e2,e3,aT,D0]
noncomputable def z4:GS:=
 (cj (oA [0,1] (qu (aa (eF (eP cN (aa (jH 1) (aa (eC (.int 1)) aA)))) aA)) eZ (eF (eP AU (aa (eF (sS (eF (aj 2)) (some (eF (aj 0))) (some (eF (eP cN (aa (eF (aj 0)) (aa (eF (aj 1)) aA))))))) aA)))))
noncomputable def yK:FM:=aW 2 z4
theorem Jk:∀us r,yK us=some r->aW 2 z4 us=some r:=fun _ _ h=>h
noncomputable def yL (n:Nat) (c:List Bool):List Bool:=(List.range (c.length+1)).map fun p=>((c.drop p).take n).any id
theorem Fw {c:List Bool}{n:Nat}:gO [0,1] eZ (eF (eP AU (aa (eF (sS (eF (aj 2)) (some (eF (aj 0))) (some (eF (eP cN (aa (eF (aj 0)) (aa (eF (aj 1)) aA))))))) aA))) (nK 0 (c.length+1)) [some (.t (.int n)),some (.t (.lst (bl c)))] []=
  some (bl (yL n c),[some (.t (.int n)),some (.t (.lst (bl c)))]):=by
 have:=comp_map (cap:=[0,1]) (g:=eF (eP AU (aa (eF (sS (eF (aj 2)) (some (eF (aj 0))) (some (eF (eP cN (aa (eF (aj 0)) (aa (eF (aj 1)) aA))))))) aA))) (S:=[some (.t (.int n)),some (.t (.lst (bl c)))])
  (fun d=>match d with | .int p=>.bl (((c.drop p.toNat).take n).any id) | d=>d) (nK 0 (c.length+1)) [] (fun d hd acc=>by
   unfold nK at hd
   obtain⟨p,hp,rfl⟩:=List.mem_map.mp hd
   have hp:p < c.length+1:=List.mem_range.mp hp
   have e0:(0:Int)+(p:Int)=(p:Int):=by omega
   have e1:=L4 (ds:=bl c) (p:=p) (n:=n) (by rw[nB];omega)
   have e2:((bl c).drop p).take n=bl ((c.drop p).take n):=by unfold bl;rw[<-List.map_drop,<-List.map_take]
   have e3:=Bv ((c.drop p).take n)
   rw[e0]
   rw[e2] at e1
   have e4:(p:Int).toNat=p:=by omega
   simp[gO,g8,zB,aT,e1,e3,g9])
 rw[this,List.nil_append]
 congr 2
 unfold bl yL nK
 rw[List.map_map,List.map_map]
 apply List.map_congr_left
 intro p _
 simp
theorem Jl {c:List Bool}{n:Nat}(h:c.length < 90000):yK [.t (.int n),.t (.lst (bl c))]=some (.m (.lst (bl (yL n c))),[]):=by
 have e:=Fw (c:=c) (n:=n)
 have hl:=nB c
 have a1:(aa (eF (eP cN (aa (jH 1) (aa (eC (.int 1)) aA)))) aA) [some (.t (.int n)),some (.t (.lst (bl c)))]=some ([.int ((c.length:Int)+1)],[some (.t (.int n)),some (.t (.lst (bl c)))]):=by simp[hl]
 have eg:=Sq.yG a1 (by omega) (by omega)
 have h3:((c.length:Int)+1).toNat=c.length+1:=by omega
 rw[h3] at eg
 have h4:(nK 0 (c.length+1)).length<=100000:=by rw[IT];omega
 have ec:oA [0,1] (qu (aa (eF (eP cN (aa (jH 1) (aa (eC (.int 1)) aA)))) aA)) eZ (eF (eP AU (aa (eF (sS (eF (aj 2)) (some (eF (aj 0))) (some (eF (eP cN (aa (eF (aj 0)) (aa (eF (aj 1)) aA))))))) aA))) [some (.t (.int n)),some (.t (.lst (bl c)))]=some (.m (.lst (bl (yL n c))),[some (.t (.int n)),some (.t (.lst (bl c)))]):=by
  rw[LL,eg,Option.bind_some,if_pos h4,e]
  rfl
 show aW 2 (cj (oA _ _ _ _)) _=_
 generalize oA [0,1] (qu (aa (eF (eP cN (aa (jH 1) (aa (eC (.int 1)) aA)))) aA)) eZ (eF (eP AU (aa (eF (sS (eF (aj 2)) (some (eF (aj 0))) (some (eF (eP cN (aa (eF (aj 0)) (aa (eF (aj 1)) aA))))))) aA)))=g at *
 simp[aW,ec,aT]
theorem yM (f:Nat->Bool):lB 0 f=true:=rfl
theorem p9 (n:Nat) (f:Nat->Bool):j8 (n+1) f=(f 0 || j8 n fun k=>f (k+1)):=by
 unfold j8;rw[List.range_succ_eq_map,List.any_cons,List.any_map];rfl
theorem tG (n:Nat) (f:Nat->Bool):lB (n+1) f=(f 0 && lB n fun k=>f (k+1)):=by
 unfold lB;rw[List.range_succ_eq_map,List.all_cons,List.all_map];rfl
theorem Bx (n:Nat) (b:Bool) (f:Nat->Bool):j8 n (fun k=>b && f k)=(b && j8 n f):=by
 cases b with
 | true=>simp
 | false=>unfold j8;simp
theorem Jm (n:Nat) (f:Nat->Bool):(!j8 n fun k=>!f k)=lB n f:=by
 unfold j8 lB
 induction List.range n with
 | nil=>rfl
 | cons a l ih=>rw[List.any_cons,List.all_cons,Bool.not_or,Bool.not_not,ih]
theorem iY {n:Nat}{f g:Nat->Bool}(h:∀k,k < n->f k=g k):j8 n f=j8 n g:=by
 unfold j8
 rw[Bool.eq_iff_iff]
 simp only[List.any_eq_true,List.mem_range]
 exact⟨fun⟨k,a,b⟩=>⟨k,a,by rw[<-h k a];exact b⟩,fun⟨k,a,b⟩=>⟨k,a,by rw[h k a];exact b⟩⟩
theorem lC {n:Nat}{f g:Nat->Bool}(h:∀k,k < n->f k=g k):lB n f=lB n g:=by
 unfold lB
 rw[Bool.eq_iff_iff]
 simp only[List.all_eq_true,List.mem_range]
 exact⟨fun z k a=>by rw[<-h k a];exact z k a,fun z k a=>by rw[h k a];exact z k a⟩
noncomputable def UN (S C:Nat->Bool) (n i:Nat):Bool:=j8 (n - i) fun k=>C (i+k) && lB k fun j=>S (i+j)
theorem L7 (S C:Nat->Bool) (n:Nat):UN S C (n+1) 0=(C 0 || (S 0 && UN (fun k=>S (k+1)) (fun k=>C (k+1)) n 0)):=by
 unfold UN
 rw[Nat.sub_zero,p9]
 simp only[Nat.zero_add,yM,Bool.and_true,Nat.sub_zero]
 congr 1
 rw[<-Bx]
 congr 1
 funext k
 rw[tG]
 cases S 0 <;> simp
theorem L8 (S C:Nat->Bool) (n i:Nat):UN S C (n+1) (i+1)=UN (fun k=>S (k+1)) (fun k=>C (k+1)) n i:=by
 unfold UN
 rw[Nat.add_sub_add_right]
 congr 1
 funext k
 rw[Nat.add_right_comm i 1 k]
 congr 2
 funext j
 rw[Nat.add_right_comm i 1 j]
theorem tH {α:Type}(n:Nat) (f:Nat->α):(List.range (n+1)).map f=f 0 :: (List.range n).map fun k=>f (k+1):=by
 rw[List.range_succ_eq_map,List.map_cons,List.map_map];rfl
theorem uD:∀(n:Nat) (S C:Nat->Bool),iN ((List.range n).map fun i=>(S i,C i))=(List.range (n+1)).map (UN S C n)
 | 0,S,C=>rfl
 | n+1,S,C=>by
  have ih:=uD n (fun k=>S (k+1)) (fun k=>C (k+1))
  rw[tH n,tH (n+1)]
  show(C 0 || (S 0 && (iN ((List.range n).map fun k=>(S (k+1),C (k+1)))).headD false)) :: iN ((List.range n).map fun k=>(S (k+1),C (k+1)))=_
  rw[ih,L7]
  congr 1
  ·rw[tH n];rfl
  ·exact List.map_congr_left fun i _=>(L8 S C n i).symm
noncomputable def tl (n:Nat) (f:Nat->Bool):List Bool:=(List.range n).map f
theorem jq (n:Nat) (f:Nat->Bool):(tl n f).length=n:=by unfold tl;rw[List.length_map,List.length_range]
theorem CK (n:Nat) (S C:Nat->Bool):(tl n S).zip (tl n C)=(List.range n).map fun i=>(S i,C i):=by
 unfold tl
 rw[List.zip_map']
theorem D4 (n:Nat) (S C:Nat->Bool):iN ((tl n S).zip (tl n C))=tl (n+1) (UN S C n):=by rw[CK,uD];rfl
theorem z5 (n:Nat) (C:Nat->Bool):uC (tl n C)=tl (n+1) fun i=>j8 (n - i) fun k=>C (i+k):=by
 unfold uC
 have:List.replicate (tl n C).length true=tl n fun _=>true:=by
  rw[jq];unfold tl;rw[List.map_const',List.length_range]
 rw[this,D4]
 congr 1
 funext i
 unfold UN
 congr 1
 funext k
 have:(lB k fun _=>true)=true:=by unfold lB;simp
 rw[this,Bool.and_true]
theorem CL (n:Nat) (f:Nat->Bool):(tl n f).map (fun b=>!b)=tl n fun i=>!f i:=by unfold tl;rw[List.map_map];rfl
theorem Jo (n:Nat) (C:Nat->Bool):D0 (tl n C)=tl (n+1) fun i=>lB (n - i) fun k=>C (i+k):=by
 unfold D0
 rw[CL,z5,CL]
 congr 1
 funext i
 exact Jm _ _
theorem o7 {n i:Nat}(f:Nat->Bool) (h:i < n):(tl n f)[i]? =some (f i):=by unfold tl;rw[List.getElem?_map,List.getElem?_range h];rfl
theorem z6 (n p k:Nat) (f:Nat->Bool):(((tl n f).drop p).take k).any id=j8 (min (n - p) k) fun j=>f (p+j):=by
 have:((tl n f).drop p).take k=(List.range (min (n - p) k)).map fun j=>f (p+j):=by
  apply List.ext_getElem?
  intro j
  rw[List.getElem?_take,List.getElem?_drop]
  by_cases c:j < min (n - p) k
  ·rw[if_pos (by omega),o7 f (by omega),List.getElem?_map,List.getElem?_range c];rfl
  ·rw[List.getElem?_eq_none (l:=(List.range _).map _) (by rw[List.length_map,List.length_range];omega)]
   split
   ·rw[List.getElem?_eq_none (by rw[jq];omega)]
   ·rfl
 rw[this,List.any_map]
 rfl
theorem Ma (n k:Nat) (C:Nat->Bool):yL k (tl n C)=tl (n+1) fun i=>j8 (min (n - i) k) fun j=>C (i+j):=by
 unfold yL
 rw[jq]
 exact List.map_congr_left fun i _=>z6 n i k C
theorem Mb (n:Nat) (f:Nat->Bool):(bl (tl (n+1) f)).take ((bl (tl (n+1) f)).length - 1)=bl (tl n f):=by
 rw[nB,jq]
 unfold bl tl
 rw[<-List.map_take,<-List.map_take,List.take_range]
 congr 3
 omega
theorem Mc (n : Nat) (f : Nat -> Bool) : (bl (tl (n + 1) f)).drop 1 ++ [.bl false] = bl (tl (n + 1) fun i => decide (i < n) && f (i + 1)) := by
  have:tl (n+1) (fun i=>decide (i < n) && f (i+1))=(tl (n+1) f).drop 1++[false]:=by
    apply List.ext_getElem?
    intro i
    by_cases c:i < n
    . rw[o7 _ (by omega),List.getElem?_append_left (by rw[List.length_drop,jq];omega),List.getElem?_drop,o7 _ (by omega),decide_eq_true c,Nat.add_comm 1 i];rfl
    . by_cases c2:i=n
      . subst c2
        rw[o7 _ (by omega),List.getElem?_append_right (by rw[List.length_drop,jq];omega),List.length_drop,jq,decide_eq_false c]
        simp
      . rw[List.getElem?_eq_none (by rw[jq];omega),List.getElem?_eq_none (by rw[List.length_append,List.length_drop,jq];simp;omega)]
  rw[this]
  unfold bl
  rw[List.map_append,List.map_drop]
  rfl
theorem uE:∀{a b:List Char},a.map Char.toNat=b.map Char.toNat->a=b
 | [],[],_=>rfl
 | [],_ :: _,h=>by simp at h
 | _ :: _,[],h=>by simp at h
 | x :: xs,y :: ys,h=>by
  rw[List.map_cons,List.map_cons] at h
  injection h with h1 h2
  rw[uE h2]
  congr 1
  exact Char.ext (UInt32.toNat_inj.mp h1)
@[simp] theorem lit_eq (s t:String):(Str.ofString s=Str.ofString t)↔s=t:=by
 constructor
 ·intro h
  rw[Str.ofString_eq_toList,Str.ofString_eq_toList] at h
  have h1:(s.toList.map Char.toNat).toArray=(t.toList.map Char.toNat).toArray:=congrArg Str.cps h
  have h2:s.toList.map Char.toNat=t.toList.map Char.toNat:=by simpa using congrArg Array.toList h1
  have h3:=uE h2
  exact String.toList_inj.mp h3
 ·intro h;rw[h]
noncomputable def iS:GS:=
 (aZ (cK 2 (eT (dg 0 (eC (.int 0)))))
 (aZ (i8 (qB (eF (eP jB (aa (eF (aj 2)) (aa (eC (.str "any")) aA))))) (cj (eT (eC (.bl true)))) dc)
 (aZ (i8 (qB (eF (eP jB (aa (eF (aj 2)) (aa (eC (.str "name")) aA))))) (cj (eP jB (aa (dg 1 (eC (.int 0))) (aa (dg 0 (eC (.int 1))) aA)))) dc)
 (aZ (i8 (qB (eF (eP jB (aa (eF (aj 2)) (aa (eC (.str "less")) aA))))) (cj (eP OI (aa (dg 1 (eC (.int 1))) (aa (dg 0 (eC (.int 1))) aA)))) dc)
 (aZ (i8 (qB (eF (eP jB (aa (eF (aj 2)) (aa (eC (.str "same")) aA))))) (cj (eP jB (aa (dg 1 (eC (.int 1))) (aa (dg 0 (eC (.int 1))) aA)))) dc)
 (cj (eP QN (aa (dg 1 (eC (.int 1))) (aa (dg 0 (eC (.int 1))) aA)))))))))
noncomputable def nH:FM:=aW 3 iS
theorem Jp:∀us r,nH us=some r->aW 3 iS us=some r:=fun _ _ h=>h
theorem Jq {t:D}(h:Ts [] t) (p:Str×Int):nH [.t t,.t (jE p)]=some (.t (.bl (Gn lZ p t)),[]):=by
 obtain⟨a,k⟩:=p
 have pr:jE (a,k)= .tup [.str a,.int k]:=rfl
 rw[pr]
 cases h with
 | any=>simp[nH,aW,iS,aT,Gn,d7]
 | @name b h=>
  rw[wD]
  by_cases c:a=b
  ·subst c;simp[nH,aW,iS,aT,d7,fR]
  ·simp[nH,aW,iS,aT,d7,fR,c]
 | @num o m ho b c=>
  have n:=(nu ho).1
  rw[nA _ _ n]
  simp only[Bo,List.mem_cons,List.not_mem_nil,or_false] at ho
  have en:uN lZ (.int m)=m:=rfl
  rw[en]
  rcases ho with rfl | rfl | rfl
  ·simp[nH,aW,iS,aT,d7,fR]
  ·rw[if_neg (by decide)];by_cases q:k=m <;> simp[nH,aW,iS,aT,d7,fR,q]
  ·rw[if_neg (by decide),if_neg (by decide)];simp[nH,aW,iS,aT,d7,fR]
 | var a b=>cases b
noncomputable def fV (gR:FM):GS:=
 (aZ (i8 (qB (EW true 2 (eF (aj 0)))) (AZ 2 (eF (aj 0)) (eF (aO gR (aC (eF (aj 0)) (aC (eF (aj 1)) (cC (aj 2) bq)))))) dc)
 (cj (eT (dg 2 (eF (aj 0))))))
noncomputable def bh (bU:FM) (bO:FM) (aI:FM) (bu:FM) (aN:FM) (aE:FM) (bH:FM) (bw:FM):GS:=
 (aZ (cK 3 (eT (dg 0 (eC (.int 0)))))
 (aZ (i8 (uq (qB (eF (eP jB (aa (eF (aj 3)) (aa (eC (.str "yes")) aA))))) (qB (eF (eP jB (aa (eF (aj 3)) (aa (eC (.str "no")) aA)))))) (cj (eP zF (aa (eF (eP ji (aa (eF (eP jB (aa (eF (aj 3)) (aa (eC (.str "yes")) aA)))) aA))) (aa (eF (eP cN (aa (jH 1) (aa (eC (.int 1)) aA)))) aA)))) dc)
 (aZ (i8 (qB (eF (eP jB (aa (eF (aj 3)) (aa (eC (.str "now")) aA))))) (cj (eP cN (aa (eF (oA [0] (xB (eF (aj 1))) eZ (eF (aO bU (aC (dg 1 (eC (.int 1))) (aC (eF (aj 0)) bq)))))) (aa (eF (eP ji (aa (eC (.bl false)) aA))) aA)))) dc)
 (aZ (i8 (qB (eF (eP jB (aa (eF (aj 3)) (aa (eC (.str "each")) aA))))) (cj (aO bO (aC (eF (aO aI (aC (eF (aj 0)) (aC (eF (aj 1)) (cC (aj 2) bq))))) bq))) dc)
 (aZ (i8 (qB (eF (eP jB (aa (eF (aj 3)) (aa (eC (.str "one")) aA))))) (cj (aO bu (aC (eF (aO aI (aC (eF (aj 0)) (aC (eF (aj 1)) (cC (aj 2) bq))))) bq))) dc)
 (aZ (cK 4 (aO aN (aC (dg 0 (eF (eP nL (aa (eC (.int 1)) aA)))) (aC (eF (aj 1)) (cC (aj 2) bq)))))
 (aZ (i8 (qB (eF (eP jB (aa (eF (aj 3)) (aa (eC (.str "not")) aA))))) (cj (aO aE (aC (eF (aj 4)) bq))) dc)
 (aZ (i8 (qB (eF (eP jB (aa (eF (aj 3)) (aa (eC (.str "next")) aA))))) (cj (eP cN (aa (eF (sS (eF (aj 4)) (some (eC (.int 1))) none)) (aa (eF (eP ji (aa (eC (.bl false)) aA))) aA)))) dc)
 (aZ (i8 (qB (eF (eP jB (aa (eF (aj 3)) (aa (eC (.str "always")) aA))))) (cj (aO bO (aC (eF (sS (eF (aj 4)) none (some (eF (eP nL (aa (eC (.int 1)) aA)))))) bq))) dc)
 (aZ (i8 (qB (eF (eP jB (aa (eF (aj 3)) (aa (eC (.str "some")) aA))))) (cj (aO bu (aC (eF (sS (eF (aj 4)) none (some (eF (eP nL (aa (eC (.int 1)) aA)))))) bq))) dc)
 (aZ (i8 (qB (eF (eP jB (aa (eF (aj 3)) (aa (eC (.str "within")) aA))))) (cj (aO bH (aC (dg 0 (eC (.int 1))) (aC (eF (sS (eF (aj 4)) none (some (eF (eP nL (aa (eC (.int 1)) aA)))))) bq)))) dc)
 (aZ (cK 5 (aO aN (aC (dg 0 (eC (.int 1))) (aC (eF (aj 1)) (cC (aj 2) bq)))))
 (aZ (i8 (qB (eF (eP jB (aa (eF (aj 3)) (aa (eC (.str "both")) aA))))) (cj (kY [] (yu (aa (eF (aj 5)) (aa (eF (aj 4)) aA))) eZ (eQ (kO (qB (eF (aj 0))) (qB (eF (aj 1))))))) dc)
 (aZ (i8 (qB (eF (eP jB (aa (eF (aj 3)) (aa (eC (.str "either")) aA))))) (cj (kY [] (yu (aa (eF (aj 5)) (aa (eF (aj 4)) aA))) eZ (eQ (uq (qB (eF (aj 0))) (qB (eF (aj 1))))))) dc)
 (cj (aO bw (aC (eF (sS (eF (aj 5)) none (some (eF (eP nL (aa (eC (.int 1)) aA)))))) (aC (eF (sS (eF (aj 4)) none (some (eF (eP nL (aa (eC (.int 1)) aA)))))) bq))))))))))))))))))
noncomputable def cX (dB:FM) (aN:FM):GS:=
 (i8 (qB (eF (eP jB (aa (dg 5 (eC (.int 0))) (aa (dg 0 (eC (.int 1))) aA))))) (aZ (cK 6 (aO dB (aC (dg 0 (eC (.int 3))) (aC (dg 0 (eC (.int 2))) (aC (dg 5 (eC (.int 1))) bq)))))
 (yi (eT (eM 3 hAppend (aa (eF (eP xA (aa (eF (aO aN (aC (eF (aj 6)) (aC (eF (aj 1)) (cC (aj 2) bq))))) (aa (eF (aj 4)) aA)))) aA))))) (yi (eT (eM 3 hAppend (aa (eF (eP jB (aa (dg 0 (eC (.int 0))) (aa (eC (.str "each")) aA)))) aA)))))
noncomputable def cQ (dB:FM) (aN:FM):GS:=
 (aZ (cK 3 (eP ji aA))
 (aZ (nM (qJ 2 (g7 (bName 4) (g7 (bName 5) rF))) (Ia (aa (eF (aj 1)) aA)) (cX dB aN))
 (cj (aj 3))))
noncomputable def YL (bU:FM) (bO:FM) (aI:FM) (bu:FM) (aN:FM) (aE:FM) (bH:FM) (bw:FM):GS:=
 (cK 3 (eT (dg 0 (eC (.int 0)))))
noncomputable def YM (bU:FM) (bO:FM) (aI:FM) (bu:FM) (aN:FM) (aE:FM) (bH:FM) (bw:FM):GS:=
 (i8 (uq (qB (eF (eP jB (aa (eF (aj 3)) (aa (eC (.str "yes")) aA))))) (qB (eF (eP jB (aa (eF (aj 3)) (aa (eC (.str "no")) aA)))))) (cj (eP zF (aa (eF (eP ji (aa (eF (eP jB (aa (eF (aj 3)) (aa (eC (.str "yes")) aA)))) aA))) (aa (eF (eP cN (aa (jH 1) (aa (eC (.int 1)) aA)))) aA)))) dc)
noncomputable def th2 (bU:FM) (bO:FM) (aI:FM) (bu:FM) (aN:FM) (aE:FM) (bH:FM) (bw:FM):GS:=
 (i8 (qB (eF (eP jB (aa (eF (aj 3)) (aa (eC (.str "now")) aA))))) (cj (eP cN (aa (eF (oA [0] (xB (eF (aj 1))) eZ (eF (aO bU (aC (dg 1 (eC (.int 1))) (aC (eF (aj 0)) bq)))))) (aa (eF (eP ji (aa (eC (.bl false)) aA))) aA)))) dc)
noncomputable def th3 (bU:FM) (bO:FM) (aI:FM) (bu:FM) (aN:FM) (aE:FM) (bH:FM) (bw:FM):GS:=
 (i8 (qB (eF (eP jB (aa (eF (aj 3)) (aa (eC (.str "each")) aA))))) (cj (aO bO (aC (eF (aO aI (aC (eF (aj 0)) (aC (eF (aj 1)) (cC (aj 2) bq))))) bq))) dc)
noncomputable def th4 (bU:FM) (bO:FM) (aI:FM) (bu:FM) (aN:FM) (aE:FM) (bH:FM) (bw:FM):GS:=
 (i8 (qB (eF (eP jB (aa (eF (aj 3)) (aa (eC (.str "one")) aA))))) (cj (aO bu (aC (eF (aO aI (aC (eF (aj 0)) (aC (eF (aj 1)) (cC (aj 2) bq))))) bq))) dc)
noncomputable def VZ (bU:FM) (bO:FM) (aI:FM) (bu:FM) (aN:FM) (aE:FM) (bH:FM) (bw:FM):GS:=
 (cK 4 (aO aN (aC (dg 0 (eF (eP nL (aa (eC (.int 1)) aA)))) (aC (eF (aj 1)) (cC (aj 2) bq)))))
noncomputable def th6 (bU:FM) (bO:FM) (aI:FM) (bu:FM) (aN:FM) (aE:FM) (bH:FM) (bw:FM):GS:=
 (i8 (qB (eF (eP jB (aa (eF (aj 3)) (aa (eC (.str "not")) aA))))) (cj (aO aE (aC (eF (aj 4)) bq))) dc)
noncomputable def th7 (bU:FM) (bO:FM) (aI:FM) (bu:FM) (aN:FM) (aE:FM) (bH:FM) (bw:FM):GS:=
 (i8 (qB (eF (eP jB (aa (eF (aj 3)) (aa (eC (.str "next")) aA))))) (cj (eP cN (aa (eF (sS (eF (aj 4)) (some (eC (.int 1))) none)) (aa (eF (eP ji (aa (eC (.bl false)) aA))) aA)))) dc)
noncomputable def th8 (bU:FM) (bO:FM) (aI:FM) (bu:FM) (aN:FM) (aE:FM) (bH:FM) (bw:FM):GS:=
 (i8 (qB (eF (eP jB (aa (eF (aj 3)) (aa (eC (.str "always")) aA))))) (cj (aO bO (aC (eF (sS (eF (aj 4)) none (some (eF (eP nL (aa (eC (.int 1)) aA)))))) bq))) dc)
noncomputable def th9 (bU:FM) (bO:FM) (aI:FM) (bu:FM) (aN:FM) (aE:FM) (bH:FM) (bw:FM):GS:=
 (i8 (qB (eF (eP jB (aa (eF (aj 3)) (aa (eC (.str "some")) aA))))) (cj (aO bu (aC (eF (sS (eF (aj 4)) none (some (eF (eP nL (aa (eC (.int 1)) aA)))))) bq))) dc)
noncomputable def T8 (bU:FM) (bO:FM) (aI:FM) (bu:FM) (aN:FM) (aE:FM) (bH:FM) (bw:FM):GS:=
 (i8 (qB (eF (eP jB (aa (eF (aj 3)) (aa (eC (.str "within")) aA))))) (cj (aO bH (aC (dg 0 (eC (.int 1))) (aC (eF (sS (eF (aj 4)) none (some (eF (eP nL (aa (eC (.int 1)) aA)))))) bq)))) dc)
noncomputable def Me (bU:FM) (bO:FM) (aI:FM) (bu:FM) (aN:FM) (aE:FM) (bH:FM) (bw:FM):GS:=
 (cK 5 (aO aN (aC (dg 0 (eC (.int 1))) (aC (eF (aj 1)) (cC (aj 2) bq)))))
noncomputable def PK (bU:FM) (bO:FM) (aI:FM) (bu:FM) (aN:FM) (aE:FM) (bH:FM) (bw:FM):GS:=
 (i8 (qB (eF (eP jB (aa (eF (aj 3)) (aa (eC (.str "both")) aA))))) (cj (kY [] (yu (aa (eF (aj 5)) (aa (eF (aj 4)) aA))) eZ (eQ (kO (qB (eF (aj 0))) (qB (eF (aj 1))))))) dc)
noncomputable def PL (bU:FM) (bO:FM) (aI:FM) (bu:FM) (aN:FM) (aE:FM) (bH:FM) (bw:FM):GS:=
 (i8 (qB (eF (eP jB (aa (eF (aj 3)) (aa (eC (.str "either")) aA))))) (cj (kY [] (yu (aa (eF (aj 5)) (aa (eF (aj 4)) aA))) eZ (eQ (uq (qB (eF (aj 0))) (qB (eF (aj 1))))))) dc)
noncomputable def Mf (bU:FM) (bO:FM) (aI:FM) (bu:FM) (aN:FM) (aE:FM) (bH:FM) (bw:FM):GS:=
 (cj (aO bw (aC (eF (sS (eF (aj 5)) none (some (eF (eP nL (aa (eC (.int 1)) aA)))))) (aC (eF (sS (eF (aj 4)) none (some (eF (eP nL (aa (eC (.int 1)) aA)))))) bq))))
theorem T9 (bU:FM) (bO:FM) (aI:FM) (bu:FM) (aN:FM) (aE:FM) (bH:FM) (bw:FM):bh bU bO aI bu aN aE bH bw=aZ (YL bU bO aI bu aN aE bH bw) (aZ (YM bU bO aI bu aN aE bH bw) (aZ (th2 bU bO aI bu aN aE bH bw) (aZ (th3 bU bO aI bu aN aE bH bw) (aZ (th4 bU bO aI bu aN aE bH bw) (aZ (VZ bU bO aI bu aN aE bH bw) (aZ (th6 bU bO aI bu aN aE bH bw) (aZ (th7 bU bO aI bu aN aE bH bw) (aZ (th8 bU bO aI bu aN aE bH bw) (aZ (th9 bU bO aI bu aN aE bH bw) (aZ (T8 bU bO aI bu aN aE bH bw) (aZ (Me bU bO aI bu aN aE bH bw) (aZ (PK bU bO aI bu aN aE bH bw) (aZ (PL bU bO aI bu aN aE bH bw) (Mf bU bO aI bu aN aE bH bw)))))))))))))):=rfl
theorem D5 (a b:D):gD [a,b] (-1)=some b:=rfl
theorem Nv (a b c:D):gD [a,b,c] (-1)=some c:=rfl
theorem Ua (a b c:D):gD [a,b,c] 1=some b:=rfl
theorem iZ {a b:GS}{S S1:SS}(h:a S=some (.nx S1)):aZ a b S=b S1:=by unfold aZ;rw[h];rfl
theorem wH {a b:GS}{S S1:SS}{u:U}(h:a S=some (.rt u S1)):aZ a b S=some (.rt u S1):=by unfold aZ;rw[h];rfl
theorem fq {S:SS}{z:Str}(h:S[3]? =some (some (.t (.str z)))) (lit:Str):qB (eF (eP jB (aa (eF (aj 3)) (aa (eC (.str lit)) aA)))) S=some (decide (z=lit),S):=by
 by_cases c:z=lit
 ·subst c;simp[h]
 ·simp[h,c]
theorem kF {S:SS}{z lit:Str}{A:GS}(h:S[3]? =some (some (.t (.str z)))) (hn:z≠lit):i8 (qB (eF (eP jB (aa (eF (aj 3)) (aa (eC (.str lit)) aA))))) A dc S=some (.nx S):=by
 have e:=fq h lit
 rw[decide_eq_false hn] at e
 simp only[Iq,e]
 rfl
theorem qC {S:SS}{z:Str}{A:GS}(h:S[3]? =some (some (.t (.str z)))):i8 (qB (eF (eP jB (aa (eF (aj 3)) (aa (eC (.str z)) aA))))) A dc S=A S:=by
 have e:=fq h z
 rw[decide_eq_true rfl] at e
 simp only[Iq,e]
 rfl
theorem Mg {S:SS}{z:Str}{A:GS}(h:S[3]? =some (some (.t (.str z)))) (h1:z≠"yes") (h2:z≠"no"):i8 (uq (qB (eF (eP jB (aa (eF (aj 3)) (aa (eC (.str "yes")) aA))))) (qB (eF (eP jB (aa (eF (aj 3)) (aa (eC (.str "no")) aA)))))) A dc S=some (.nx S):=by
 have e:=fq h "yes"
 have e':=fq h "no"
 rw[decide_eq_false h1] at e
 rw[decide_eq_false h2] at e'
 simp only[Iq,Tj,e,e',Option.bind_some,Bool.false_eq_true,if_false]
 rfl
theorem YN {g:GS}{a b:D}{kvs kvs':List (D×D)}{u:MO}{x y z v w:Option U}(h:g [some (.t a),some (.t b),some (.b (.cU kvs)),none,none,none]=some (.rt (.m u) [x,y,some (.b (.cU kvs')),z,v,w])):aW 6 g [.t a,.t b,.b (.cU kvs)]=some (.m u,[.cU kvs']):=by
 unfold aW
 show(g [some (.t a),some (.t b),some (.b (.cU kvs)),none,none,none]).bind _=_
 rw[h]
 simp[aT]
section
variable {fp gr fE cT ft cY bH cZ:FM}{p q r:D}{kvs kvs' uM:List (D×D)}{o:MO}{l l2:List D}{rs ds:List D}{z:Str}
noncomputable abbrev SA (z:Str) (ds:List D) (r:D) (kvs:List (D×D)):SS:=[some (.t (.tup (.str z :: ds))),some (.t r),some (.b (.cU kvs)),some (.t (.str z)),none,none]
noncomputable abbrev SB (z:Str) (ds:List D) (r:D) (kvs:List (D×D)) (l:List D):SS:=[some (.t (.tup (.str z :: ds))),some (.t r),some (.b (.cU kvs)),some (.t (.str z)),some (.t (.lst l)),none]
noncomputable abbrev SC (z:Str) (ds:List D) (r:D) (kvs:List (D×D)) (l l2:List D):SS:=[some (.t (.tup (.str z :: ds))),some (.t r),some (.b (.cU kvs)),some (.t (.str z)),some (.t (.lst l)),some (.t (.lst l2))]
theorem ta0:YL fp gr fE cT ft cY bH cZ [some (.t (.tup (.str z :: ds))),some (.t r),some (.b (.cU kvs)),none,none,none]=some (.nx (SA z ds r kvs)):=by
 simp[YL,d7]
theorem ta5 (hl:gD (.str z :: ds) (-1)=some p) (e:ft [.t p,.t r,.b (.cU kvs)]=some (.t (.lst l),[.cU kvs'])):VZ fp gr fE cT ft cY bH cZ (SA z ds r kvs)=some (.nx (SB z ds r kvs' l)):=by
 simp[VZ,hl,e]
theorem YO (hl:gD (.str z :: ds) 1=some p) (e:ft [.t p,.t r,.b (.cU kvs)]=some (.t (.lst l2),[.cU kvs'])):Me fp gr fE cT ft cY bH cZ (SB z ds r kvs l)=some (.nx (SC z ds r kvs' l l2)):=by
 simp[Me,hl,e]
noncomputable abbrev Nx (fp gr fE cT ft cY bH cZ:FM):GS:=aZ (th6 fp gr fE cT ft cY bH cZ) (aZ (th7 fp gr fE cT ft cY bH cZ) (aZ (th8 fp gr fE cT ft cY bH cZ) (aZ (th9 fp gr fE cT ft cY bH cZ) (aZ (T8 fp gr fE cT ft cY bH cZ) (aZ (Me fp gr fE cT ft cY bH cZ) (aZ (PK fp gr fE cT ft cY bH cZ) (aZ (PL fp gr fE cT ft cY bH cZ) (Mf fp gr fE cT ft cY bH cZ))))))))
noncomputable abbrev Ub (fp gr fE cT ft cY bH cZ:FM):GS:=aZ (YM fp gr fE cT ft cY bH cZ) (aZ (th2 fp gr fE cT ft cY bH cZ) (aZ (th3 fp gr fE cT ft cY bH cZ) (aZ (th4 fp gr fE cT ft cY bH cZ) (aZ (VZ fp gr fE cT ft cY bH cZ) (Nx fp gr fE cT ft cY bH cZ)))))
theorem tb_start {x y v w u:Option U}(h:Ub fp gr fE cT ft cY bH cZ (SA z ds r kvs)=some (.rt (.m o) [x,y,some (.b (.cU kvs')),v,w,u])):aW 6 (bh fp gr fE cT ft cY bH cZ) [.t (.tup (.str z :: ds)),.t r,.b (.cU kvs)]=some (.m o,[.cU kvs']):=by
 refine YN (x:=x) (y:=y) (z:=v) (v:=w) (w:=u) ?_
 rw[T9]
 exact(iZ ta0).trans h
structure Inner (z:Str):Prop where
 n1:z≠"yes"
 n2:z≠"no"
 n3:z≠"now"
 n4:z≠"each"
 n5:z≠"one"
theorem mW {x y v w u:Option U}(hz:Inner z) (hl:gD (.str z :: ds) (-1)=some p) (e:ft [.t p,.t r,.b (.cU kvs)]=some (.t (.lst l),[.cU kvs'])) (h:Nx fp gr fE cT ft cY bH cZ (SB z ds r kvs' l)=some (.rt (.m o) [x,y,some (.b (.cU uM)),v,w,u])):aW 6 (bh fp gr fE cT ft cY bH cZ) [.t (.tup (.str z :: ds)),.t r,.b (.cU kvs)]=some (.m o,[.cU uM]):=
 tb_start (x:=x) (y:=y) (v:=v) (w:=w) (u:=u) ((iZ (Mg rfl hz.n1 hz.n2)).trans ((iZ (kF rfl hz.n3)).trans ((iZ (kF rfl hz.n4)).trans ((iZ (kF rfl hz.n5)).trans ((iZ (ta5 hl e)).trans h)))))
theorem D6 (hz:z="yes"\/z="no"){n:Nat}(hn:n < 90000) (hr:r= .tup rs\/r= .lst rs) (hl:rs.length=n):
  aW 6 (bh fp gr fE cT ft cY bH cZ) [.t (.tup [.str z]),.t r,.b (.cU kvs)]=some (.m (.lst (List.replicate (n+1) (.bl (decide (z="yes"))))),[.cU kvs]):=by
 have h1:((n:Int)+1).toNat=n+1:=by omega
 have h2:(0:Int)<=(n:Int)+1:=by omega
 have h3:n+1<=100000:=by omega
 have e:∀b:D,(List.replicate (n+1) [b]).flatten=List.replicate (n+1) b:=fun b=>by
  induction (n+1) with
  | zero=>rfl
  | succ m ih=>rw[List.replicate_succ,List.flatten_cons,ih,List.replicate_succ];rfl
 refine tb_start (x:=some (.t (.tup [.str z]))) (y:=some (.t r)) (v:=some (.t (.str z))) (w:=none) (u:=none) (wH ?_)
 rcases hz with rfl | rfl <;> rcases hr with rfl | rfl <;> simp[YM,hl,h1,h2,h3,e]
theorem PM (e:ft [.t p,.t r,.b (.cU kvs)]=some (.t (.lst l),[.cU kvs'])) (e2:cY [.t (.lst l)]=some (.m o,[])):
  aW 6 (bh fp gr fE cT ft cY bH cZ) [.t (.tup [.str "not",p]),.t r,.b (.cU kvs)]=some (.m o,[.cU kvs']):=
 mW (⟨by decide,by decide,by decide,by decide,by decide⟩) (D5 _ _) e (wH ((qC rfl).trans (by simp[e2];exact⟨rfl,rfl,rfl,rfl,rfl⟩)))
theorem Mh (e:ft [.t p,.t r,.b (.cU kvs)]=some (.t (.lst l),[.cU kvs'])) (hl:(l.drop 1).length < 90000):
  aW 6 (bh fp gr fE cT ft cY bH cZ) [.t (.tup [.str "next",p]),.t r,.b (.cU kvs)]=some (.m (.lst (l.drop 1++[.bl false])),[.cU kvs']):=by
 have c:L2.cutD l (some 1) none=l.drop 1:=Bq l 1
 have h:(l.drop 1).length+1<=100000:=by omega
 exact mW (⟨by decide,by decide,by decide,by decide,by decide⟩) (D5 _ _) e ((iZ (kF rfl (by decide))).trans (wH ((qC rfl).trans (by simp[-List.drop_one,-List.length_drop,c,g9,h];exact⟨rfl,rfl,rfl,rfl,rfl⟩))))
theorem Fx (e:ft [.t p,.t r,.b (.cU kvs)]=some (.t (.lst l),[.cU kvs'])) (hc:l.take (l.length - 1)=l2) (e2:gr [.t (.lst l2)]=some (.m o,[])):
  aW 6 (bh fp gr fE cT ft cY bH cZ) [.t (.tup [.str "always",p]),.t r,.b (.cU kvs)]=some (.m o,[.cU kvs']):=by
 have c:=(oY l).trans hc
 exact mW (⟨by decide,by decide,by decide,by decide,by decide⟩) (D5 _ _) e ((iZ (kF rfl (by decide))).trans ((iZ (kF rfl (by decide))).trans (wH ((qC rfl).trans (by simp[c,g9,e2];exact⟨rfl,rfl,rfl,rfl,rfl⟩)))))
theorem Mi (e:ft [.t p,.t r,.b (.cU kvs)]=some (.t (.lst l),[.cU kvs'])) (hc:l.take (l.length - 1)=l2) (e2:cT [.t (.lst l2)]=some (.m o,[])):
  aW 6 (bh fp gr fE cT ft cY bH cZ) [.t (.tup [.str "some",p]),.t r,.b (.cU kvs)]=some (.m o,[.cU kvs']):=by
 have c:=(oY l).trans hc
 exact mW (⟨by decide,by decide,by decide,by decide,by decide⟩) (D5 _ _) e ((iZ (kF rfl (by decide))).trans ((iZ (kF rfl (by decide))).trans ((iZ (kF rfl (by decide))).trans (wH ((qC rfl).trans (by simp[c,g9,e2];exact⟨rfl,rfl,rfl,rfl,rfl⟩))))))
theorem Fy {k:D}(e:ft [.t p,.t r,.b (.cU kvs)]=some (.t (.lst l),[.cU kvs'])) (hc:l.take (l.length - 1)=l2) (e2:bH [.t k,.t (.lst l2)]=some (.m o,[])):
  aW 6 (bh fp gr fE cT ft cY bH cZ) [.t (.tup [.str "within",k,p]),.t r,.b (.cU kvs)]=some (.m o,[.cU kvs']):=by
 have c:=(oY l).trans hc
 exact mW (⟨by decide,by decide,by decide,by decide,by decide⟩) (Nv _ _ _) e ((iZ (kF rfl (by decide))).trans ((iZ (kF rfl (by decide))).trans ((iZ (kF rfl (by decide))).trans ((iZ (kF rfl (by decide))).trans (wH ((qC rfl).trans (by simp[Ua,c,g9,e2];exact⟨rfl,rfl,rfl,rfl,rfl⟩)))))))
theorem Mj {a y:D}(e:fE [.t (.tup [.str "each",a,y,p]),.t r,.b (.cU kvs)]=some (.m (.lst l),[.cU kvs'])) (e2:gr [.t (.lst l)]=some (.m o,[])):
  aW 6 (bh fp gr fE cT ft cY bH cZ) [.t (.tup [.str "each",a,y,p]),.t r,.b (.cU kvs)]=some (.m o,[.cU kvs']):=
 tb_start ((iZ (Mg rfl (by decide) (by decide))).trans ((iZ (kF rfl (by decide))).trans (wH ((qC rfl).trans (by simp[e,e2];exact⟨rfl,rfl,rfl,rfl,rfl⟩)))))
theorem PN {a y:D}(e:fE [.t (.tup [.str "one",a,y,p]),.t r,.b (.cU kvs)]=some (.m (.lst l),[.cU kvs'])) (e2:cT [.t (.lst l)]=some (.m o,[])):
  aW 6 (bh fp gr fE cT ft cY bH cZ) [.t (.tup [.str "one",a,y,p]),.t r,.b (.cU kvs)]=some (.m o,[.cU kvs']):=
 tb_start ((iZ (Mg rfl (by decide) (by decide))).trans ((iZ (kF rfl (by decide))).trans ((iZ (kF rfl (by decide))).trans (wH ((qC rfl).trans (by simp[e,e2];exact⟨rfl,rfl,rfl,rfl,rfl⟩))))))
structure YQ (z:Str):Prop where
 in0:Inner z
 m1:z≠"not"
 m2:z≠"next"
 m3:z≠"always"
 m4:z≠"some"
 m5:z≠"within"
theorem z7 {x y v w u:Option U}(hz:YQ z) (e:ft [.t q,.t r,.b (.cU kvs)]=some (.t (.lst l),[.cU kvs'])) (e1:ft [.t p,.t r,.b (.cU kvs')]=some (.t (.lst l2),[.cU uM]))
  (h:aZ (PK fp gr fE cT ft cY bH cZ) (aZ (PL fp gr fE cT ft cY bH cZ) (Mf fp gr fE cT ft cY bH cZ)) (SC z [p,q] r uM l l2)=some (.rt (.m o) [x,y,some (.b (.cU uM)),v,w,u])):
  aW 6 (bh fp gr fE cT ft cY bH cZ) [.t (.tup [.str z,p,q]),.t r,.b (.cU kvs)]=some (.m o,[.cU uM]):=
 mW (x:=x) (y:=y) (v:=v) (w:=w) (u:=u) hz.in0 (Nv _ _ _) e ((iZ (kF rfl hz.m1)).trans ((iZ (kF rfl hz.m2)).trans ((iZ (kF rfl hz.m3)).trans ((iZ (kF rfl hz.m4)).trans ((iZ (kF rfl hz.m5)).trans ((iZ (YO (Ua _ _ _) e1)).trans h))))))
theorem Mk {l3 l4:List D}(e:ft [.t q,.t r,.b (.cU kvs)]=some (.t (.lst l),[.cU kvs'])) (e1:ft [.t p,.t r,.b (.cU kvs')]=some (.t (.lst l2),[.cU uM])) (hc:l.take (l.length - 1)=l3) (hc2:l2.take (l2.length - 1)=l4) (e2:cZ [.t (.lst l4),.t (.lst l3)]=some (.m o,[])):
  aW 6 (bh fp gr fE cT ft cY bH cZ) [.t (.tup [.str "till",p,q]),.t r,.b (.cU kvs)]=some (.m o,[.cU uM]):=by
 have c:=(oY l).trans hc
 have c2:=(oY l2).trans hc2
 exact z7 (⟨⟨by decide,by decide,by decide,by decide,by decide⟩,by decide,by decide,by decide,by decide,by decide⟩) e e1 ((iZ (kF rfl (by decide))).trans ((iZ (kF rfl (by decide))).trans (by simp[Mf,c,c2,g9,e2];exact⟨rfl,rfl,rfl,rfl,rfl⟩)))
theorem wI (g:GD) (f:Bool->Bool->Bool) (hg:∀a b,g [some (.t (.bl a)),some (.t (.bl b))]=some (.bl (f a b),[some (.t (.bl a)),some (.t (.bl b))])) (S:SS):∀(ps:List (Bool×Bool)) (acc:List D),iy [] eZ g (ps.map pd) S acc=some (acc++bl (ps.map fun p=>f p.1 p.2),S)
 | [],acc=>by simp[iy,bl]
 | p :: ps,acc=>by
  have ih:=wI g f hg S ps (acc++[.bl (f p.1 p.2)])
  show iy [] eZ g (.tup [.bl p.1,.bl p.2] :: ps.map pd) S acc=_
  have e:=hg p.1 p.2
  simp[iy,g8,slotsOf,dz,cM,eZ,e,aT,wb,ih]
  simp[bl]
theorem Jr {f:Bool->Bool->Bool}(hz:(z="both"/\f=fun a b=>a && b)\/(z="either"/\f=fun a b=>a || b)){s c:List Bool}(hl:s.length < 90000) (e:ft [.t q,.t r,.b (.cU kvs)]=some (.t (.lst (bl c)),[.cU kvs'])) (e1:ft [.t p,.t r,.b (.cU kvs')]=some (.t (.lst (bl s)),[.cU uM])):
  aW 6 (bh fp gr fE cT ft cY bH cZ) [.t (.tup [.str z,p,q]),.t r,.b (.cU kvs)]=some (.m (.lst (bl ((s.zip c).map fun p=>f p.1 p.2))),[.cU uM]):=by
 have hz2:List.zipWith (fun a b:D=>D.tup [a,b]) (bl s) (bl c)=(s.zip c).map pd:=DZ s c
 have hl2:((s.zip c).map pd).length<=100000:=by rw[List.length_map,List.length_zip];omega
 have e3:=wI (eQ (kO (qB (eF (aj 0))) (qB (eF (aj 1))))) (fun a b=>a && b) (fun a b=>by cases a <;> simp)
 have e4:=wI (eQ (uq (qB (eF (aj 0))) (qB (eF (aj 1))))) (fun a b=>a || b) (fun a b=>by cases a <;> simp)
 rcases hz with⟨rfl,rfl⟩ | ⟨rfl,rfl⟩
 ·exact z7 (⟨⟨by decide,by decide,by decide,by decide,by decide⟩,by decide,by decide,by decide,by decide,by decide⟩) e e1 (wH ((qC rfl).trans (by simp[-List.length_map,-List.length_zip,hz2,hl2,e3];exact⟨rfl,rfl,rfl,rfl,rfl⟩)))
 ·exact z7 (⟨⟨by decide,by decide,by decide,by decide,by decide⟩,by decide,by decide,by decide,by decide,by decide⟩) e e1 ((iZ (kF rfl (by decide))).trans (wH ((qC rfl).trans (by simp[-List.length_map,-List.length_zip,hz2,hl2,e4];exact⟨rfl,rfl,rfl,rfl,rfl⟩))))
end
noncomputable def Rw (R:Row) (r:D):Prop:=r= .tup (R.map jE)\/r= .lst (R.map jE)
section
variable {fp gr fE cT ft cY bH cZ CM:FM}{p q r t:D}{kvs kvs' uM:List (D×D)}{o:MO}{l l2:List D}{R:Row}
theorem Js {S1 : SS} (d : D) (hd : d = .tup [.str "now", t]) (b : Str × Int -> Bool) (hp : ∀ h ∈ R, fp [.t t, .t (jE h)] = some (.t (.bl (b h)), [])) (hS : S1[0]? = some (some (.t d))) :
    gO [0] eZ (eF (aO fp (aC (dg 1 (eC (.int 1))) (aC (eF (aj 0)) bq)))) (R.map jE) S1 []=some (bl (R.map b),S1):=by
  subst hd
  have:∀(R':Row) (acc:List D),(∀h∈R',h∈R)->gO [0] eZ (eF (aO fp (aC (dg 1 (eC (.int 1))) (aC (eF (aj 0)) bq)))) (R'.map jE) S1 acc=some (acc++bl (R'.map b),S1):=by
    intro R'
    induction R' with
    | nil=>intro acc _;simp[gO,bl]
    | cons h R' ih=>
      intro acc hm
      have e:=hp h (hm h List.mem_cons_self)
      rw[List.map_cons,Sq.wu]
      have e1:gO [0] eZ (eF (aO fp (aC (dg 1 (eC (.int 1))) (aC (eF (aj 0)) bq)))) [jE h] S1 acc=some (acc++[.bl (b h)],S1):=by
        simp[gO,g8,zB,hS,aT,fR,e]
      rw[e1,Option.bind_some,ih _ fun x hx=>hm x (List.mem_cons_of_mem _ hx)]
      simp[bl]
  simpa using this R [] fun _ h=>h
theorem PR (b:Str×Int->Bool) (hp:∀h∈R,fp [.t t,.t (jE h)]=some (.t (.bl (b h)),[])) (hr:Rw R r) (hl:R.length < 90000):
  aW 6 (bh fp gr fE cT ft cY bH cZ) [.t (.tup [.str "now",t]),.t r,.b (.cU kvs)]=some (.m (.lst (bl (R.map b++[false]))),[.cU kvs]):=by
 have e:=fun S1 hS=>Js (S1:=S1) (.tup [.str "now",t]) rfl b hp hS
 have h1:(R.map jE).length<=100000:=by rw[List.length_map];omega
 have h2:(bl (R.map b)).length+1<=100000:=by rw[nB,List.length_map];omega
 have e2:bl (R.map b)++[.bl false]=bl (R.map b++[false]):=by simp[bl]
 refine tb_start (x:=some (.t (.tup [.str "now",t]))) (y:=some (.t r)) (v:=some (.t (.str "now"))) (w:=none) (u:=none) ((iZ (Mg rfl (by decide) (by decide))).trans (wH ((qC rfl).trans ?_)))
 rcases hr with rfl | rfl <;> simp[-List.length_map,qN,h1,h2,e,e2]
theorem PU {z a y x:Str}{m:Int}{i:Nat}{part:D}{acc:List D}{b:Bool}{x4 x5 x6:Option U}(h6:qj x6=false) (hx:x=a) (e1:CM [.t p,.t (.str y),.t (.int m)]=some (.t part,[])) (e2:ft [.t part,.t r,.b (.cU kvs)]=some (.t (.lst l),[.cU kvs'])) (e3:gD l (i:Int)=some (.bl b)) (ha:acc.length < 100000):
  cX CM ft [some (.t (.tup [.str z,.str a,.str y,p])),some (.t r),some (.b (.cU kvs)),some (.m (.lst acc)),some (.t (.int i)),some (.t (.tup [.str x,.int m])),x6]=
   some (.nx [some (.t (.tup [.str z,.str a,.str y,p])),some (.t r),some (.b (.cU kvs')),some (.m (.lst (acc++[.bl b]))),some (.t (.int i)),some (.t (.tup [.str x,.int m])),some (.t part)]):=by
 subst hx
 have t3:gD [D.str z,.str x,.str y,p] 3=some p:=rfl
 simp[-iz,fQ,h6,cX,d7,fR,nk,t3,e1,e2,e3,ha]
theorem Ml {z a y x:Str}{m:Int}{i:Nat}{acc:List D}{x4 x5 x6:Option U}(hx:¬x=a) (ha:acc.length < 100000):
  cX CM ft [some (.t (.tup [.str z,.str a,.str y,p])),some (.t r),some (.b (.cU kvs)),some (.m (.lst acc)),some (.t (.int i)),some (.t (.tup [.str x,.int m])),x6]=
   some (.nx [some (.t (.tup [.str z,.str a,.str y,p])),some (.t r),some (.b (.cU kvs)),some (.m (.lst (acc++[.bl (decide (z="each"))]))),some (.t (.int i)),some (.t (.tup [.str x,.int m])),x6]):=by
 by_cases hz:z="each"
 ·subst hz;simp[cX,d7,fR,nk,hx,ha]
 ·simp[cX,d7,fR,nk,hx,ha,hz]
theorem Jt {R:Row}{j:Nat}{d:D}(h:(qx (R.map jE))[j]? =some d):∃x,R[j]? =some x/\d= .tup [.int j,jE x]:=by
 unfold qx at h
 rw[List.getElem?_mapIdx,List.getElem?_map] at h
 cases e:R[j]? with
 | none=>rw[e] at h;cases h
 | some x=>rw[e] at h;cases h;exact⟨x,rfl,rfl⟩
theorem Ju (R:Row):(qx (R.map jE)).length=R.length:=by unfold qx;rw[List.length_mapIdx,List.length_map]
theorem PV {z a y : Str} {Kn : List (D × D) -> Prop} {C : Nat} (hr : Rw R r) (hl : R.length < 90000) (b : Nat -> Bool) (hk : Kn kvs)
    (step:∀(i:Nat) (h:Str×Int) (ks:List (D×D)),R[i]? =some h->Kn ks->ks.length<=kvs.length+i * C->h.1=a->∃part l ks',CM [.t p,.t (.str y),.t (.int h.2)]=some (.t part,[])/\ft [.t part,.t r,.b (.cU ks)]=some (.t (.lst l),[.cU ks'])/\gD l (i:Int)=some (.bl (b i))/\Kn ks'/\ks'.length<=ks.length+C)
    (hb:∀(i:Nat) (h:Str×Int),R[i]? =some h->¬h.1=a->b i=decide (z="each")):
    ∃kvs',aW 7 (cQ CM ft) [.t (.tup [.str z,.str a,.str y,p]),.t r,.b (.cU kvs)]=some (.m (.lst (bl (tl R.length b))),[.cU kvs'])/\Kn kvs'/\kvs'.length<=kvs.length+R.length * C:=by
  obtain⟨S',e,ks,x4,x5,x6,h1,h2,hh,rfl⟩:=oV (bd:=qJ 2 (g7 (bName 4) (g7 (bName 5) rF))) (body:=cX CM ft) (qx (R.map jE))
    (fun j S=>∃(ks:List (D×D)) (x4 x5 x6:Option U),Kn ks/\ks.length<=kvs.length+j * C/\(qj x4=false/\qj x5=false/\qj x6=false)/\S=[some (.t (.tup [.str z,.str a,.str y,p])),some (.t r),some (.b (.cU ks)),some (.m (.lst (bl (tl j b)))),x4,x5,x6])
    [some (.t (.tup [.str z,.str a,.str y,p])),some (.t r),some (.b (.cU kvs)),some (.m (.lst [])),none,none,none] ⟨kvs,none,none,none,hk,by omega,⟨rfl,rfl,rfl⟩,rfl⟩ (by
      rintro j d S hd ⟨ks,x4,x5,x6,k1,k2,⟨b4,b5,b6⟩,rfl⟩
      obtain⟨h,hj,rfl⟩:=Jt hd
      have jl:j < R.length:=(List.getElem?_eq_some_iff.mp hj).1
      have ha:(bl (tl j b)).length < 100000:=by rw[nB,jq];omega
      have et:bl (tl (j+1) b)=bl (tl j b)++[.bl (b j)]:=by unfold bl tl;rw[List.range_succ,List.map_append,List.map_append];rfl
      have ej:(j+1) * C=j * C+C:=by rw[Nat.add_mul,Nat.one_mul]
      obtain⟨x,m⟩:=h
      have bind:qJ 2 (g7 (bName 4) (g7 (bName 5) rF)) (.tup [.int j,jE (x,m)]) [some (.t (.tup [.str z,.str a,.str y,p])),some (.t r),some (.b (.cU ks)),some (.m (.lst (bl (tl j b)))),x4,x5,x6]=some [some (.t (.tup [.str z,.str a,.str y,p])),some (.t r),some (.b (.cU ks)),some (.m (.lst (bl (tl j b)))),some (.t (.int j)),some (.t (.tup [.str x,.int m])),x6]:=by
        simp[-iz,fQ,b4,b5,jE]
      by_cases c:x=a
      . obtain⟨part,l,ks',e1,e2,e3,e4,e5⟩:=step j (x,m) ks hj k1 k2 c
        exact⟨_,_,bind,PU (x4:=x4) (x5:=x5) b6 c e1 e2 e3 ha,ks',some (.t (.int j)),some (.t (.tup [.str x,.int m])),some (.t part),e4,by omega,⟨rfl,rfl,rfl⟩,by rw[et]⟩
      . have hbj:=hb j (x,m) hj c
        exact⟨_,_,bind,Ml (x4:=x4) (x5:=x5) c ha,ks,some (.t (.int j)),some (.t (.tup [.str x,.int m])),x6,k1,by omega,⟨rfl,rfl,b6⟩,by rw[et,hbj]⟩)
  rw[Ju] at h2 e
  refine⟨ks,?_,h1,h2⟩
  have e':loop (qJ 2 (g7 (bName 4) (g7 (bName 5) rF))) (cX CM ft) (qx (R.map jE)) [some (.t (.tup [.str z,.str a,.str y,p])),some (.t r),some (.b (.cU kvs)),some (.m (.lst [])),none,none,none]=_:=e
  rcases hr with rfl | rfl <;> simp[aW,cQ,aT,e']
theorem Jv {d v:D}(hk:uL d=some d) (h:cz kvs d=some v):aW 3 (fV fE) [.t d,.t r,.b (.cU kvs)]=some (.t v,[.cU kvs]):=by
 simp[aW,fV,aT,EW,Ic,hk,h]
theorem PX {d:D}(hk:uL d=some d) (h:cz kvs d=none) (e:fE [.t d,.t r,.b (.cU kvs)]=some (.m (.lst l),[.cU kvs'])) (hl:kvs'.length < 10000000) (h2:cz (putD kvs' d (.lst l)) d=some (.lst l)):
  aW 3 (fV fE) [.t d,.t r,.b (.cU kvs)]=some (.t (.lst l),[.cU (putD kvs' d (.lst l))]):=by
 simp[aW,fV,aT,EW,Ic,hk,h,e,hl,h2]
end
theorem qD {κ : Type} [DecidableEq κ] (kvs : List (κ × D)) (k : κ) (v : D) : cz (putD kvs k v) k = some v := by
  unfold putD
  split
  . rename_i h
    induction kvs with
    | nil=>simp at h
    | cons p ps ih=>
      by_cases e:p.1=k
      . simp[cz,List.find?_cons,e]
      . have h':(ps.any fun kv=>decide (kv.1=k))=true:=by simpa[List.any_cons,e] using h
        have:=ih h'
        simpa[cz,List.find?_cons,e] using this
  . rename_i h
    induction kvs with
    | nil=>simp[cz]
    | cons p ps ih=>
      have e:¬p.1=k:=fun q=>h (by simp[List.any_cons,q])
      have h':¬(ps.any fun kv=>decide (kv.1=k))=true:=fun q=>h (by simp[List.any_cons,q])
      have:=ih h'
      simpa[cz,List.find?_cons,e] using this
theorem By {κ : Type} [DecidableEq κ] (kvs : List (κ × D)) {k k' : κ} (v : D) (hn : k' ≠ k) : cz (putD kvs k v) k' = cz kvs k' := by
  unfold putD
  split
  . rename_i h
    clear h
    induction kvs with
    | nil=>rfl
    | cons p ps ih=>
      by_cases e:p.1=k
      . have:¬p.1=k':=fun q=>hn (q.symm.trans e)
        have e2:¬k=k':=fun q=>hn q.symm
        simpa[cz,List.find?_cons,e,e2] using ih
      . by_cases e2:p.1=k'
        . simp[cz,List.find?_cons,e,e2,hn]
        . simpa[cz,List.find?_cons,e,e2] using ih
  . have e2:¬k=k':=fun q=>hn q.symm
    simp[cz,List.find?_append,e2]
theorem CN {κ:Type} [DecidableEq κ] (kvs:List (κ×D)) (k:κ) (v:D):(putD kvs k v).length<=kvs.length+1:=by
 unfold putD
 split
 ·rw[List.length_map];omega
 ·simp
noncomputable def PY:Nat->FM×FM×FM
 | 0=>(fun _=>none,fun _=>none,fun _=>none)
 | j+1=>(aW 3 (fV (PY j).2.1),aW 6 (bh nH Ft (PY j).2.2 qA (PY j).1 turnF yK oZ),aW 7 (cQ (mT 9) (PY j).1))
noncomputable def Kq (j:Nat):FM:=(PY j).1
noncomputable def Uc (j:Nat):FM:=(PY j).2.1
noncomputable def Ud (j:Nat):FM:=(PY j).2.2
theorem PZ (j:Nat):∀us r,Kq (j+1) us=some r->aW 3 (fV (Uc j)) us=some r:=fun _ _ h=>h
theorem P0 (j:Nat):∀us r,Uc (j+1) us=some r->aW 6 (bh nH Ft (Ud j) qA (Kq j) turnF yK oZ) us=some r:=fun _ _ h=>h
theorem P1 (j:Nat):∀us r,Ud (j+1) us=some r->aW 7 (cQ (mT 9) (Kq j)) us=some r:=fun _ _ h=>h
theorem Jw (us:List U):Kq 0 us=none:=rfl
theorem Jx (us:List U):Uc 0 us=none:=rfl
theorem Jy (us:List U):Ud 0 us=none:=rfl
noncomputable def Gp (R:Row) (d:D):List D:=bl (tl (R.length+1) (ev R lZ d))
noncomputable def Kn (R:Row) (kvs:List (D×D)):Prop:=∀k v,cz kvs k=some v->v= .lst (Gp R k)
theorem Kn.put {R:Row}{kvs:List (D×D)}{d:D}(h:Kn R kvs):Kn R (putD kvs d (.lst (Gp R d))):=fun k v e=>by
 by_cases c:k=d
 ·subst c
  rw[qD] at e
  cases e
  rfl
 ·rw[By _ _ c] at e
  exact h k v e
noncomputable def Mm (R:Row) (f:FM) (r:D) (n:Nat):Prop:=∀(d:D) (kvs:List (D×D)),Sy n [] d->Kn R kvs->kvs.length+cost R.length d < 10000000->
 ∃kvs',f [.t d,.t r,.b (.cU kvs)]=some (.t (.lst (Gp R d)),[.cU kvs'])/\Kn R kvs'/\kvs'.length<=kvs.length+cost R.length d
theorem Jz (R:Row) (t:D):R.map (fun h=>Gn lZ h t)++[false]=tl (R.length+1) (ev R lZ (.tup [.str "now",t])):=by
 apply List.ext_getElem?
 intro i
 by_cases c:i < R.length
 ·rw[o7 _ (by omega),qQ,List.getElem?_append_left (by rw[List.length_map];exact c),List.getElem?_map,List.getElem?_eq_getElem c];rfl
 ·by_cases c2:i=R.length
  ·subst c2
   rw[o7 _ (by omega),qQ,List.getElem?_append_right (by rw[List.length_map];omega),List.length_map,List.getElem?_eq_none (l:=R) (by omega)]
   simp
  ·rw[List.getElem?_eq_none (by rw[List.length_append,List.length_map];simp;omega),List.getElem?_eq_none (by rw[jq];omega)]
theorem iT {n:Nat}{f g:Nat->Bool}(h:∀i,i < n->f i=g i):tl n f=tl n g:=List.map_congr_left fun i hi=>h i (List.mem_range.mp hi)
theorem se (n:Nat) (f:Nat->Bool):(bl (tl (n+1) f)).take ((bl (tl (n+1) f)).length - 1)=bl (tl n f):=Mb n f
theorem yN (R:Row) (z:Str):List.replicate (R.length+1) (D.bl (decide (z="yes")))=Gp R (.tup [.str z]):=by
 unfold Gp bl tl
 rw[List.map_map]
 apply List.ext_getElem?
 intro i
 by_cases c:i < R.length+1
 ·rw[List.getElem?_replicate,if_pos c,List.getElem?_map,List.getElem?_range c];simp[rT]
 ·rw[List.getElem?_eq_none (by rw[List.length_replicate];omega),List.getElem?_eq_none (by rw[List.length_map,List.length_range];omega)]
section
variable {R:Row}{r:D}
theorem Ue {n:Nat}{f fh:FM}{d:D}{kvs:List (D×D)}(hr:Rw R r) (hl:R.length < 80000) (hR:∀h∈R,0<=h.2/\h.2<=9) (h9:n<=9) (ih:Mm R f r n) (eh:fh=aW 7 (cQ (mT 9) f)\/∃f2,Mm R f2 r n/\fh=aW 7 (cQ (mT 9) f2))
  (hd:Sy (n+1) [] d) (hk:Kn R kvs) (hc:kvs.length+cost R.length d < 10000000):
  ∃kvs',aW 6 (bh nH Ft fh qA f turnF yK oZ) [.t d,.t r,.b (.cU kvs)]=some (.m (.lst (Gp R d)),[.cU kvs'])/\Kn R kvs'/\kvs'.length+1<=kvs.length+cost R.length d:=by
 have P4:∀g:Nat->Bool,(tl (R.length+1) g).length < 90000:=fun g=>by rw[jq];omega
 have yO:∀g:Nat->Bool,(tl R.length g).length < 90000:=fun g=>by rw[jq];omega
 cases hd with
 | @leaf _ _ z h=>
  rw[yJ]
  refine⟨kvs,?_,hk,by omega⟩
  rcases hr with rfl | rfl
  ·rw[D6 h (n:=R.length) (rs:=R.map jE) (by omega) (.inl rfl) (List.length_map ..),yN]
  ·rw[D6 h (n:=R.length) (rs:=R.map jE) (by omega) (.inr rfl) (List.length_map ..),yN]
 | @now _ _ t h=>
  rw[rW]
  refine⟨kvs,?_,hk,by omega⟩
  rw[PR (fun h=>Gn lZ h t) (fun x _=>Jq h x) hr (by omega),Jz]
  rfl
 | @one _ _ z p hz hp=>
  rw[rX _ hz] at hc ⊢
  obtain⟨ks,e1,e2,e3⟩:=ih p kvs hp hk (by omega)
  rcases fH hz with rfl | rfl | rfl | rfl
  ·refine⟨ks,?_,e2,by omega⟩
   have:=wF (l:=tl (R.length+1) (ev R lZ p)) (by have:=P4 (ev R lZ p);omega)
   rw[PM e1 this,CL]
   congr 4
   exact congrArg bl (iT fun i _=>(s8 R lZ i p).symm)
  ·refine⟨ks,?_,e2,by omega⟩
   rw[Mh e1 (by unfold Gp;rw[List.length_drop,nB,jq];omega)]
   unfold Gp
   rw[Mc]
   congr 4
   exact congrArg bl (iT fun i _=>(nv R lZ i p).symm)
  ·refine⟨ks,?_,e2,by omega⟩
   rw[Fx e1 (se _ _) (D3 (c:=tl R.length (ev R lZ p)) (by have:=yO (ev R lZ p);omega)),Jo]
   congr 4
   exact congrArg bl (iT fun i _=>(i9 R lZ i p).symm)
  ·refine⟨ks,?_,e2,by omega⟩
   rw[Mi e1 (se _ _) (wG (c:=tl R.length (ev R lZ p)) (by have:=yO (ev R lZ p);omega)),z5]
   congr 4
   exact congrArg bl (iT fun i _=>(mh R lZ i p).symm)
 | @two _ _ z p q hz hp hq=>
  rw[rY _ hz] at hc ⊢
  obtain⟨ks,e1,e2,e3⟩:=ih q kvs hq hk (by omega)
  obtain⟨YR,g1,g2,g3⟩:=ih p ks hp e2 (by omega)
  rcases fJ hz with rfl | rfl | rfl
  ·refine⟨YR,?_,g2,by omega⟩
   rw[Jr (.inl ⟨rfl,rfl⟩) (P4 _) e1 g1,CK,List.map_map]
   congr 4
   exact congrArg bl (iT (n:=R.length+1) fun i _=>(p8 R lZ i p q).symm)
  ·refine⟨YR,?_,g2,by omega⟩
   rw[Jr (.inr ⟨rfl,rfl⟩) (P4 _) e1 g1,CK,List.map_map]
   congr 4
   exact congrArg bl (iT (n:=R.length+1) fun i _=>(kJ R lZ i p q).symm)
  ·refine⟨YR,?_,g2,by omega⟩
   rw[Mk e1 g1 (se _ _) (se _ _) (Bw (tl R.length (ev R lZ p)) (tl R.length (ev R lZ q)) (by have:=yO (ev R lZ q);omega)),D4]
   congr 4
   exact congrArg bl (iT fun i _=>(mj R lZ i p q).symm)
 | @zY _ _ k p k0 k5 hp=>
  rw[rZ] at hc ⊢
  obtain⟨ks,e1,e2,e3⟩:=ih p kvs hp hk (by omega)
  refine⟨ks,?_,e2,by omega⟩
  have ek:(k.toNat:Int)=k:=by omega
  have es:=Jl (c:=tl R.length (ev R lZ p)) (n:=k.toNat) (yO _)
  rw[ek] at es
  rw[Fy e1 (se _ _) es,Ma]
  exact congrArg (fun l=>some (U.m (MO.lst (bl l)),[MO.cU ks])) (iT fun i _=>(iJ R lZ i k p).symm)
 | @bnd _ _ z a y p hz ha hb hp=>
  rw[r9] at hc ⊢
  have hp:Sy n [y] p:=hp
  have core:∀f2:FM,Mm R f2 r n->∃ks,aW 7 (cQ (mT 9) f2) [.t (.tup [.str z,.str a,.str y,p]),.t r,.b (.cU kvs)]=some (.m (.lst (bl (tl R.length fun i=>match R[i]? with | some h=>if h.1=a then ev R (q8 lZ y h.2) p i else decide (z="each") | none=>decide (z="each")))),[.cU ks])/\Kn R ks/\ks.length<=kvs.length+R.length * cost R.length p:=fun f2 ih2=>by
   refine PV (Kn:=Kn R) hr (by omega) _ hk (fun i h ks hi k1 k2 c=>?_) (fun i h hi c=>?_)
   ·have hm:=hR h (List.mem_of_getElem? hi)
    have il:i < R.length:=(List.getElem?_eq_some_iff.mp hi).1
    have sp:Sy n [] (iX n [y] (.int h.2) p):=by
     have:=IX hp hm.1 hm.2 [y]
     simpa using this
    have cp:=Je R.length hp [y] (.int h.2)
    have hi2:i * cost R.length p+cost R.length p<=R.length * cost R.length p:=by
     rw[<-Nat.succ_mul];exact Nat.mul_le_mul_right _ il
    obtain⟨ks',e1,e2,e3⟩:=ih2 (iX n [y] (.int h.2) p) ks sp k1 (by rw[cp];omega)
    refine⟨_,_,ks',DY hp y (.int h.2) h9,e1,?_,e2,by rw[cp] at e3;exact e3⟩
    unfold Gp
    refine Sq.sZ (by omega) ?_
    unfold bl
    rw[List.getElem?_map]
    have:(i:Int).toNat=i:=by omega
    rw[this,o7 _ (by omega),Jd R hp,hi]
    simp[c]
   ·rw[hi];simp[c]
  obtain⟨ks,e1,e2,e3⟩:∃ks,fh [.t (.tup [.str z,.str a,.str y,p]),.t r,.b (.cU kvs)]=some (.m (.lst (bl (tl R.length fun i=>match R[i]? with | some h=>if h.1=a then ev R (q8 lZ y h.2) p i else decide (z="each") | none=>decide (z="each")))),[.cU ks])/\Kn R ks/\ks.length<=kvs.length+R.length * cost R.length p:=by
   rcases eh with rfl | ⟨f2,ih2,rfl⟩
   ·exact core f ih
   ·exact core f2 ih2
  refine⟨ks,?_,e2,by omega⟩
  rcases hz with rfl | rfl
  ·rw[Mj e1 (D3 (by have:=yO (fun i=>match R[i]? with | some h=>if h.1=a then ev R (q8 lZ y h.2) p i else decide (("each":Str)="each") | none=>decide (("each":Str)="each"));omega)),Jo]
   congr 4
   refine congrArg bl (iT fun i _=>?_)
   rw[mq]
   try congr 1
  ·rw[PN e1 (wG (by have:=yO (fun i=>match R[i]? with | some h=>if h.1=a then ev R (q8 lZ y h.2) p i else decide (("one":Str)="each") | none=>decide (("one":Str)="each"));omega)),z5]
   congr 4
   refine congrArg bl (iT fun i _=>?_)
   rw[oX]
   have lit:decide (("one":Str)="each")=false:=by decide
   simp only[lit]
   try congr 1
theorem JC (hr:Rw R r) (hl:R.length < 80000) (hR:∀h∈R,0<=h.2/\h.2<=9):∀(n:Nat),n<=7->∀j,3 * n<=j->Mm R (Kq j) r n
  | 0,_,_,_=>fun d kvs h=>by cases h
  | n + 1, hn, j, hj => fun d kvs hd hk hc => by
    obtain⟨i,rfl⟩:∃i,j=i+3:=⟨j - 3,by omega⟩
    show ∃kvs',aW 3 (fV (Uc (i+2))) _=_/\_
    have kd:=L1 hd hn
    cases e:cz kvs d with
    | some v=>
      have:=hk d v e
      subst this
      exact⟨kvs,Jv kd e,hk,by omega⟩
    | none=>
      obtain⟨ks,e1,e2,e3⟩:=Ue (f:=Kq (i+1)) (fh:=Ud (i+1)) hr hl hR (by omega) (JC hr hl hR n (by omega) (i+1) (by omega)) (.inr ⟨Kq i,JC hr hl hR n (by omega) i (by omega),rfl⟩) hd hk hc
      have:=CN ks d (.lst (Gp R d))
      exact⟨_,PX kd e e1 (by omega) (qD ..),e2.put,by omega⟩
end
noncomputable def qb (aN:FM):GS:=
 (cj (eP xA (aa (eF (aO aN (aC (eF (aj 0)) (aC (eF (aj 1)) (cC Ib bq))))) (aa (eF (aj 2)) aA))))
noncomputable def tK (aG:FM):GS:=
 (cj (aO aG (aC (eF (aj 0)) (aC (eF (aj 1)) (aC (eC (.int 0)) bq)))))
noncomputable def dZ:FM:=aW 3 (qb (Kq 24))
noncomputable def jr:FM:=aW 2 (tK dZ)
theorem JF:∀us r,dZ us=some r->aW 3 (qb (Kq 24)) us=some r:=fun _ _ h=>h
theorem JH:∀us r,jr us=some r->aW 2 (tK dZ) us=some r:=fun _ _ h=>h
theorem Kn.nil (R:Row):Kn R []:=fun k v h=>by cases h
theorem Fz {f:FM}{d r:D}{l:List D}{kvs':List (D×D)}{i:Int}{b:Bool}(e:f [.t d,.t r,.b (.cU [])]=some (.t (.lst l),[.cU kvs'])) (ei:gD l i=some (.bl b)):aW 3 (qb f) [.t d,.t r,.t (.int i)]=some (.t (.bl b),[]):=by
 simp[aW,qb,aT,e,ei]
theorem FA {f:FM}{d r:D}{b:Bool}(e:f [.t d,.t r,.t (.int 0)]=some (.t (.bl b),[])):aW 2 (tK f) [.t d,.t r]=some (.t (.bl b),[]):=by
 simp[aW,tK,aT,e]
theorem P5 (R:Row) (d:D){i:Nat}(h:i<=R.length):gD (Gp R d) (i:Int)=some (.bl (ev R lZ d i)):=by
 refine Sq.sZ (by omega) ?_
 unfold Gp bl
 have:(i:Int).toNat=i:=by omega
 rw[List.getElem?_map,this,o7 _ (by omega)]
 rfl
theorem BA {R:Row}{r d:D}{n i:Nat}(hr:Rw R r) (hl:R.length < 80000) (hR:∀h∈R,0<=h.2/\h.2<=9) (hn:n<=7) (hd:Sy n [] d) (hc:cost R.length d < 10000000) (hi:i<=R.length):dZ [.t d,.t r,.t (.int i)]=some (.t (.bl (ev R lZ d i)),[]):=by
 obtain⟨ks,e1,_,_⟩:=JC hr hl hR n hn 24 (by omega) d [] hd (Kn.nil R) (by simpa using hc)
 exact Fz e1 (P5 R d hi)
theorem JJ {R:Row}{r d:D}{n:Nat}(hr:Rw R r) (hl:R.length < 80000) (hR:∀h∈R,0<=h.2/\h.2<=9) (hn:n<=7) (hd:Sy n [] d) (hc:cost R.length d < 10000000):jr [.t d,.t r]=some (.t (.bl (ev R lZ d 0)),[]):=
 FA (BA (i:=0) hr hl hR hn hd hc (Nat.zero_le _))
section
variable {fp fh fw:FM}{p q:D}{kvs:List (Key×D)}{i n:Nat}{rs ds L:List D}{z:Str}
end
section
variable {fp fh fw:FM}{p q:D}{kvs:List (Key×D)}{i n:Nat}{rs ds L:List D}{z:Str}
end
section
variable {fp fh fw:FM}{p:D}{kvs:List (Key×D)}{R:Row}{z a y:Str}
end
theorem JK {ns:List Int}{k:Int}(h:0<=k) (h1:k < 1000000) (h2:ns.length < 1000000):jD [.s ns,.t (.int k)]=some (.m (.dct (cH (Bd ns k))),[]):=by simp[jD,h,h1,h2]
theorem FD {t:dG}(h:0<=t.n) (h1:t.n < 800000):gX [.b (.dct (cH t))]=some (.t (jK (iB t).tab),[.dct (cH (iB t).t)]):=by simp[gX,h,h1]
theorem Mn {t:dG}{T:List (Str×Int)}{most:Int}(ok:qy T) (h0:0<=most) (h1:most<=100) (h:0<=t.n) (h2:t.n < 700000):nN [.b (.dct (cH t)),.t (jK T),.t (.int most)]=some (.t (jK (sW t T most).1),[.dct (cH (sW t T most).2)]):=by
 simp[nN,wj.mpr ok,h0,h1,h,h2]
structure V0 (s:CD):Prop where
 nm:∀p∈s.tab,p.1∈gg
theorem JL {k:Int}{s:CD}(h:uA k s) (h2:V0 s) (hn:0 < s.names.length):V0 (cO s k):=by
 have p1:=bB (t:=s.t) (m:=s.names.length) (by omega)
 have hi:(bz s.t s.names.length).toNat < s.names.length:=by omega
 refine⟨fun p hp=>?_⟩
 rcases List.mem_append.mp (show p∈s.tab++[_] from hp) with hp | hp
 ·exact h2.nm p hp
 ·have hp:=List.mem_singleton.mp hp
  subst hp
  exact h.sub _ (getD_mem hi)
theorem BB:∀(n:Nat) (s:CD),n<=4->uA 0 s->n<=s.names.length->V0 s->V0 ((Sw.upTo n).foldl cO s)
  | 0,s,_,_,_,h=>h
  | n + 1, s, hn, h, hl, h2 => by
    obtain⟨i1,i2,i3,i4⟩:=vg n s (by omega) h (by omega)
    have e:(Sw.upTo (n+1)).foldl cO s=cO ((Sw.upTo n).foldl cO s) n:=by
      unfold Sw.upTo
      rw[List.range_succ,List.map_append,List.foldl_append]
      rfl
    rw[e]
    exact JL i1 (BB n s (by omega) h (by omega) h2) (by omega)
structure Rh (p:Str×Int):Prop where
 nm:p.1∈gg
 lo:0<=p.2
 hi:p.2<=5
theorem Mp (t:dG):∀p∈(iB t).tab,Rh p:=by
 have b:=zP t
 have h0:uA 0 ⟨gg,[],12,bg t 5⟩:=⟨by show([]++gg).Nodup;decide,fun z hz=>hz,(fun p hp=>by cases hp),by show(4:Int) - 0<=12;omega⟩
 obtain⟨i1,i2,i3,i4⟩:=vg (oU t) ⟨gg,[],12,bg t 5⟩ b.2 h0 (by show oU t<=8;omega)
 have j:=BB (oU t) ⟨gg,[],12,bg t 5⟩ b.2 h0 (by show oU t<=8;omega) ⟨(fun p hp=>by cases hp)⟩
 have e:(Sw.upTo (oU t)).foldl cO ⟨gg,[],12,bg t 5⟩=iB t:=rfl
 rw[e] at i1 j
 exact fun p hp=>⟨j.nm p hp,(i1.ok p hp).1.lo,(i1.ok p hp).2⟩
structure In (T:List (Str×Int)) (p:Str×Int):Prop where
 ex:∃q∈T,p.1=q.1/\0<=p.2/\p.2<=q.2
theorem JM {T:List (Str×Int)}(ok:qy T):∀(ks:List Int) (s:List (Str×Int)×dG),(∀p∈s.1,In T p)->∀p∈(ks.foldl (dU T) s).1,In T p
  | [],s,h=>h
  | k :: ks, s, h => JM ok ks (dU T s k) fun p hp => by
    have p0:=ok.pos
    have p1:=bB (t:=s.2) (m:=T.length) (by omega)
    have hi:(bz s.2 T.length).toNat < T.length:=by omega
    have hm:=getD_mem (x:=(("":Str),(0:Int))) hi
    rcases List.mem_append.mp (show p∈s.1++[_] from hp) with h1 | h1
    . exact h p h1
    . have h1:=List.mem_singleton.mp h1
      subst h1
      have a:=(ok.mst _ hm).1
      have r:=bB (t:=bg s.2 T.length) (m:=(T.getD (bz s.2 T.length).toNat ("",0)).2+1) (by omega)
      exact⟨_,hm,rfl,r.1,by show bz _ _<=_;omega⟩
theorem Mq {T:List (Str×Int)}(ok:qy T) (t:dG) (most:Int):∀p∈(sW t T most).1,In T p:=JM ok _ _ fun p hp=>by cases hp
theorem YS {T:List (Str×Int)}{p:Str×Int}(hT:∀q∈T,Rh q) (h:In T p):Rh p:=by
 obtain⟨q,hq,e,a,b⟩:=h.ex
 have w:=hT q hq
 have:=w.hi
 exact⟨e▸w.nm,a,by omega⟩
noncomputable def mw (T:List (Str×Int)):List Str:=(List.replicate 3 (T.map (·.1))).flatten++(["strange"]:List Str)
theorem uF:∀z∈gg,nameB (.str z)=true/\z.length<=8:=by decide +kernel
theorem CO {T:List (Str×Int)}(hT:∀q∈T,Rh q) (hl:T.length<=10):CJ (mw T) where
 ok:=fun z hz=>by
  rcases List.mem_append.mp hz with h | h
  ·obtain⟨l,hl,hz⟩:=List.mem_flatten.mp h
   rw[List.eq_of_mem_replicate hl] at hz
   obtain⟨p,hp,rfl⟩:=List.mem_map.mp hz
   exact uF _ (hT p hp).nm
  ·rw[List.mem_singleton.mp h];decide +kernel
 pos:=by unfold mw;rw[List.length_append];simp
 few:=by unfold mw;rw[List.length_append];simp[List.length_flatten];omega
theorem JN (T:List (Str×Int)) (S:SS):iy [] eZ (eF (aj 0)) (T.map jE) S []=some ((T.map (·.1)).map D.str,S):=by
 have:∀(T':List (Str×Int)) (acc:List D),iy [] eZ (eF (aj 0)) (T'.map jE) S acc=some (acc++(T'.map (·.1)).map D.str,S):=by
  intro T'
  induction T' with
  | nil=>intro acc;simp[iy]
  | cons p T' ih=>
   intro acc
   show iy [] eZ (eF (aj 0)) (.tup [.str p.1,.int p.2] :: T'.map jE) S acc=_
   simp[iy,g8,slotsOf,dz,cM,eZ,aT,wb,ih]
 simpa using this T []
theorem JP (T:List (Str×Int)):(List.replicate 3 ((T.map (·.1)).map D.str)).flatten++[.str "strange"]=qZ (mw T):=by
 unfold qZ mw
 rw[List.map_append,List.map_flatten,List.map_replicate]
 rfl
end Sh
end
section
namespace Sj
open PySem PySem.Spec PyProof.Rows L2 Sw Ss Sn Sp Sh
theorem JQ {n:Nat}{bs:List Str}{i:Int}{d:D}(h:Sy n bs d):∀(xs:List Str),(cF n (iX n xs (.int i) d)).length=(cF n d).length/\((cF n (iX n xs (.int i) d)).filter kE).length=((cF n d).filter kE).length:=by
 induction h with
 | leaf h=>intro xs;rw[mR];exact⟨rfl,rfl⟩
 | now h=>intro xs;rw[pY];exact⟨rfl,rfl⟩
 | @one n bs z p hz _ ih=>
  intro xs
  rw[pZ hz]
  obtain⟨i1,i2⟩:=ih xs
  have e:∀q:D,cF (n+1) (.tup [.str z,q])= .tup [.str z,q] :: cF n q:=fun q=>by rcases fH hz with rfl | rfl | rfl | rfl <;> exact congrArg _ (List.append_nil _)
  have b:∀q:D,kE (.tup [.str z,q])=false:=fun q=>by rcases fH hz with rfl | rfl | rfl | rfl <;> rfl
  rw[e,e,List.length_cons,List.length_cons,i1,List.filter_cons_of_neg (by rw[b];decide),List.filter_cons_of_neg (by rw[b];decide)]
  exact⟨rfl,i2⟩
 | @two n bs z p q hz _ _ ip iq=>
  intro xs
  rw[p5 hz]
  obtain⟨i1,i2⟩:=ip xs
  obtain⟨j1,j2⟩:=iq xs
  have e:∀a b:D,cF (n+1) (.tup [.str z,a,b])= .tup [.str z,a,b] :: (cF n a++cF n b):=fun a b=>by rcases fJ hz with rfl | rfl | rfl <;> exact congrArg (fun l=>D.tup _ :: (cF n a++l)) (List.append_nil _)
  have b:∀a b:D,kE (.tup [.str z,a,b])=false:=fun a b=>by rcases fJ hz with rfl | rfl | rfl <;> rfl
  rw[e,e,List.length_cons,List.length_cons,List.length_append,List.length_append,i1,j1,List.filter_cons_of_neg (by rw[b];decide),List.filter_cons_of_neg (by rw[b];decide),List.filter_append,List.filter_append,List.length_append,List.length_append,i2,j2]
  exact⟨rfl,rfl⟩
 | @zY n bs k p _ _ _ ih=>
  intro xs
  rw[p6]
  obtain⟨i1,i2⟩:=ih xs
  have e:∀q:D,cF (n+1) (.tup [.str "within",.int k,q])= .tup [.str "within",.int k,q] :: cF n q:=fun q=>congrArg _ (List.append_nil _)
  rw[e,e,List.length_cons,List.length_cons,i1,List.filter_cons_of_neg (fun h=>Bool.noConfusion (show false=true from h)),List.filter_cons_of_neg (fun h=>Bool.noConfusion (show false=true from h))]
  exact⟨rfl,i2⟩
 | @bnd n bs z a y p hz ha hb hp ih=>
  intro xs
  rw[p7]
  obtain⟨i1,i2⟩:=ih (xs.filter fun x=>decide (x≠y))
  have e:∀q:D,cF (n+1) (.tup [.str z,.str a,.str y,q])= .tup [.str z,.str a,.str y,q] :: cF n q:=fun q=>by rcases hz with rfl | rfl <;> exact congrArg _ (List.append_nil _)
  have b:∀q:D,kE (.tup [.str z,.str a,.str y,q])=true:=fun q=>by rcases hz with rfl | rfl <;> rfl
  rw[e,e,List.length_cons,List.length_cons,i1,List.filter_cons_of_pos (b _),List.filter_cons_of_pos (b _),List.length_cons,List.length_cons,i2]
  exact⟨rfl,rfl⟩
structure Sz (n:Nat) (bs:List Str) (s b:Nat) (d:D):Prop where
 sy:Sy n bs d
 sz:(cF n d).length<=s
 bn:((cF n d).filter kE).length<=b
section
variable {n m s b s' b':Nat}{bs:List Str}{d p q:D}
theorem Sz.up (h:Sz n bs s b d) (hm:n<=m):Sz m bs s b d:=by
 obtain⟨a,e⟩:=Fj hm h.sy.iC
 exact⟨Sy.of a,by rw[e];exact h.sz,by rw[e];exact h.bn⟩
theorem Sz.mono {cs:List Str}(h:Sz n bs s b d) (hc:∀y∈bs,y∈cs):Sz n cs s b d:=⟨h.sy.mono hc,h.sz,h.bn⟩
theorem Sz.one {z:Str}(hz:z∈Nr) (h:Sz n bs s b p):Sz (n+1) bs (s+1) b (.tup [.str z,p]):=by
 have e:cF (n+1) (.tup [.str z,p])= .tup [.str z,p] :: cF n p:=by rcases fH hz with rfl | rfl | rfl | rfl <;> exact congrArg _ (List.append_nil _)
 have k:kE (.tup [.str z,p])=false:=by rcases fH hz with rfl | rfl | rfl | rfl <;> rfl
 exact⟨.one hz h.sy,by rw[e,List.length_cons];have:=h.sz;omega,by rw[e,List.filter_cons_of_neg (by rw[k];decide)];exact h.bn⟩
theorem Sz.two {z:Str}(hz:z∈Nt) (h:Sz n bs s b p) (g:Sz n bs s' b' q):Sz (n+1) bs (s+s'+1) (b+b') (.tup [.str z,p,q]):=by
 have e:cF (n+1) (.tup [.str z,p,q])= .tup [.str z,p,q] :: (cF n p++cF n q):=by rcases fJ hz with rfl | rfl | rfl <;> exact congrArg (fun l=>D.tup _ :: (cF n p++l)) (List.append_nil _)
 have k:kE (.tup [.str z,p,q])=false:=by rcases fJ hz with rfl | rfl | rfl <;> rfl
 have h1:=h.sz
 have h2:=h.bn
 have h3:=g.sz
 have h4:=g.bn
 exact⟨.two hz h.sy g.sy,by rw[e,List.length_cons,List.length_append];omega,by rw[e,List.filter_cons_of_neg (by rw[k];decide),List.filter_append,List.length_append];omega⟩
theorem Sz.zY {k:Int}(h0:0<=k) (h5:k<=5) (h:Sz n bs s b p):Sz (n+1) bs (s+1) b (.tup [.str "within",.int k,p]):=by
 have e:cF (n+1) (.tup [.str "within",.int k,p])= .tup [.str "within",.int k,p] :: cF n p:=congrArg _ (List.append_nil _)
 exact⟨.zY h0 h5 h.sy,by rw[e,List.length_cons];have:=h.sz;omega,by rw[e,List.filter_cons_of_neg (fun h=>Bool.noConfusion (show false=true from h))];exact h.bn⟩
theorem Sz.bnd {z a y:Str}(hz:z="each"\/z="one") (ha:nameB (.str a)=true) (hy:nameB (.str y)=true) (h:Sz n (bs++[y]) s b p):Sz (n+1) bs (s+1) (b+1) (.tup [.str z,.str a,.str y,p]):=by
 have e:cF (n+1) (.tup [.str z,.str a,.str y,p])= .tup [.str z,.str a,.str y,p] :: cF n p:=by rcases hz with rfl | rfl <;> exact congrArg _ (List.append_nil _)
 have k:kE (.tup [.str z,.str a,.str y,p])=true:=by rcases hz with rfl | rfl <;> rfl
 exact⟨.bnd hz ha hy h.sy,by rw[e,List.length_cons];have:=h.sz;omega,by rw[e,List.filter_cons_of_pos k,List.length_cons];have:=h.bn;omega⟩
theorem Sz.any:Sz (n+1) bs 1 0 (.tup [.str "now",.tup [.str "any"]]):=by
 have e:cF (n+1) (.tup [.str "now",.tup [.str "any"]])=[.tup [.str "now",.tup [.str "any"]]]:=rfl
 exact⟨.now .any,by rw[e];exact Nat.le_refl _,by rw[e];exact Nat.zero_le _⟩
theorem Sz.put {x:Str}{i:Int}(h:Sz n [x] s b d) (h0:0<=i) (h9:i<=9):Sz n [] s b (iX n [x] (.int i) d):=by
 obtain⟨e1,e2⟩:=JQ (i:=i) h.sy [x]
 refine⟨?_,by rw[e1];exact h.sz,by rw[e2];exact h.bn⟩
 have:=IX h.sy h0 h9 [x]
 simpa using this
end
theorem D7 {n i:Nat}(h:i < n) (f:Nat->Bool):(j8 (n - i) fun k=>f (i+k))=(f i || j8 (n - (i+1)) fun k=>f (i+1+k)):=by
 have e:n - i=(n - (i+1))+1:=by omega
 rw[e,p9]
 congr 1
 refine iY fun k _=>?_
 have:i+(k+1)=i+1+k:=by omega
 rw[this]
theorem D8 {n i:Nat}(h:i < n) (f:Nat->Bool):(lB (n - i) fun k=>f (i+k))=(f i && lB (n - (i+1)) fun k=>f (i+1+k)):=by
 have e:n - i=(n - (i+1))+1:=by omega
 rw[e,tG]
 congr 1
 refine lC fun k _=>?_
 have:i+(k+1)=i+1+k:=by omega
 rw[this]
section
variable {R:Sh.Row}{e:Ev}{i:Nat}{p q:D}
theorem FE (h:i < R.length):ev R e (.tup [.str "always",p]) i=(ev R e p i && ev R e (.tup [.str "always",p]) (i+1)):=by rw[i9,i9,D8 h fun k=>ev R e p k]
theorem Mr (h:i < R.length):ev R e (.tup [.str "some",p]) i=(ev R e p i || ev R e (.tup [.str "some",p]) (i+1)):=by rw[mh,mh,D7 h fun k=>ev R e p k]
theorem Ms (h:i < R.length):ev R e (.tup [.str "next",p]) i=ev R e p (i+1):=by rw[nv,decide_eq_true h,Bool.true_and]
theorem Mt (h:i < R.length):ev R e (.tup [.str "till",p,q]) i=(ev R e q i || (ev R e p i && ev R e (.tup [.str "till",p,q]) (i+1))):=by
 rw[mj,mj]
 have en:R.length - i=(R.length - (i+1))+1:=by omega
 rw[en,p9]
 simp only[Nat.add_zero,yM,Bool.and_true]
 congr 1
 rw[<-Bx]
 refine iY fun k _=>?_
 have e1:i+(k+1)=i+1+k:=by omega
 rw[e1,tG]
 have e2:(lB k fun j=>ev R e p (i+(j+1)))=lB k fun j=>ev R e p (i+1+j):=lC fun j _=>by
  have:i+(j+1)=i+1+j:=by omega
  rw[this]
 rw[e2]
 simp only[Nat.add_zero]
 cases ev R e p i <;> simp
theorem FF {k:Int}(h:i < R.length) (h1:1<=k):ev R e (.tup [.str "within",.int k,p]) i=(ev R e p i || ev R e (.tup [.str "within",.int (k - 1),p]) (i+1)):=by
 rw[iJ,iJ]
 have en:min (R.length - i) k.toNat=min (R.length - (i+1)) (k - 1).toNat+1:=by omega
 rw[en,p9]
 congr 1
 refine iY fun j _=>?_
 have:i+(j+1)=i+1+j:=by omega
 rw[this]
theorem CP:ev R e (.tup [.str "within",.int 0,p]) i=false:=by
 rw[iJ]
 have:min (R.length - i) (0:Int).toNat=0:=by simp
 rw[this]
 rfl
theorem Mu {a y:Str}{x:Str×Int}(hx:R[i]? =some x):ev R e (.tup [.str "each",.str a,.str y,p]) i=((if x.1=a then ev R (q8 e y x.2) p i else true) && ev R e (.tup [.str "each",.str a,.str y,p]) (i+1)):=by
 have h:i < R.length:=(List.getElem?_eq_some_iff.mp hx).1
 have z:=D8 h (fun k=>match R[k]? with | some h=>if h.1=a then ev R (q8 e y h.2) p k else true | none=>true)
 simp only[hx] at z
 rw[mq,mq]
 exact z
theorem P6 {a y:Str}{x:Str×Int}(hx:R[i]? =some x):ev R e (.tup [.str "one",.str a,.str y,p]) i=((if x.1=a then ev R (q8 e y x.2) p i else false) || ev R e (.tup [.str "one",.str a,.str y,p]) (i+1)):=by
 have h:i < R.length:=(List.getElem?_eq_some_iff.mp hx).1
 have z:=D7 h (fun k=>match R[k]? with | some h=>if h.1=a then ev R (q8 e y h.2) p k else false | none=>false)
 simp only[hx] at z
 rw[oX,oX]
 exact z
theorem Mv:ev R e (.tup [.str "next",p]) R.length=false:=by rw[nv];simp
theorem Mw:ev R e (.tup [.str "till",p,q]) R.length=false:=by rw[mj,Nat.sub_self];rfl
theorem FG {k:Int}:ev R e (.tup [.str "within",.int k,p]) R.length=false:=by rw[iJ,Nat.sub_self,Nat.zero_min];rfl
theorem Mx:ev R e (.tup [.str "some",p]) R.length=false:=by rw[mh,Nat.sub_self];rfl
theorem P7:ev R e (.tup [.str "now",p]) R.length=false:=by rw[qQ,List.getElem?_eq_none (Nat.le_refl _)]
theorem P8 {a y:Str}:ev R e (.tup [.str "one",.str a,.str y,p]) R.length=false:=by rw[oX,Nat.sub_self];rfl
theorem FH:ev R e (.tup [.str "always",p]) R.length=true:=by rw[i9,Nat.sub_self];rfl
theorem My {a y:Str}:ev R e (.tup [.str "each",.str a,.str y,p]) R.length=true:=by rw[mq,Nat.sub_self];rfl
end
theorem Mz (R:Sh.Row) (a:Nat) (ha:a<=R.length){n:Nat}{bs:List Str}{d:D}(h:Sy n bs d):∀(e:Ev) (i:Nat),ev (R.drop a) e d i=ev R e d (a+i):=by
 have hg:∀i,(R.drop a)[i]? =R[a+i]?:=fun i=>List.getElem?_drop
 have hl:(R.drop a).length=R.length - a:=List.length_drop
 have hs:∀i,R.length - a - i=R.length - (a+i):=fun i=>by omega
 induction h with
 | leaf h=>intro e i;rw[rT,rT]
 | now h=>intro e i;rw[qQ,qQ,hg]
 | @one n bs z p hz _ ih=>
  intro e i
  rcases fH hz with rfl | rfl | rfl | rfl
  ·rw[s8,s8,ih]
  ·rw[nv,nv,ih,hl]
   have:decide (i < R.length - a)=decide (a+i < R.length):=decide_eq_decide.mpr (by omega)
   rw[this,Nat.add_assoc]
  ·rw[i9,i9,hl,hs];refine lC fun k _=>?_;rw[ih,Nat.add_assoc]
  ·rw[mh,mh,hl,hs];refine iY fun k _=>?_;rw[ih,Nat.add_assoc]
 | @two n bs z p q hz _ _ i1 i2=>
  intro e i
  rcases fJ hz with rfl | rfl | rfl
  ·rw[p8,p8,i1,i2]
  ·rw[kJ,kJ,i1,i2]
  ·rw[mj,mj,hl,hs]
   refine iY fun k _=>?_
   rw[i2,Nat.add_assoc]
   congr 1
   refine lC fun j _=>?_
   rw[i1,Nat.add_assoc]
 | @zY n bs k p _ _ _ ih=>intro e i;rw[iJ,iJ,hl,hs];refine iY fun j _=>?_;rw[ih,Nat.add_assoc]
 | @bnd n bs z x y p hz _ _ _ ih=>
  intro e i
  rcases hz with rfl | rfl
  ·rw[mq,mq,hl,hs]
   refine lC fun k _=>?_
   rw[hg,Nat.add_assoc]
   cases R[a+(i+k)]? with
   | none=>rfl
   | some h=>simp only[ih,Nat.add_assoc]
  ·rw[oX,oX,hl,hs]
   refine iY fun k _=>?_
   rw[hg,Nat.add_assoc]
   cases R[a+(i+k)]? with
   | none=>rfl
   | some h=>simp only[ih,Nat.add_assoc]
theorem D9 {R:Sh.Row}{n:Nat}{d:D}{s b:Nat}(h:Sz n [] s b d) (hs:s<=16) (hb:b<=3) (hl:R.length<=80):cost R.length d < 10000000:=by
 have c:=L0 R.length h.sy
 have h1:=h.sz
 have h2:=h.bn
 have p:(R.length+1) ^ ((cF n d).filter kE).length<=81 ^ 3:=Nat.le_trans (Nat.pow_le_pow_right (by omega) (by omega:_<=3)) (Nat.pow_le_pow_left (by omega) 3)
 have m:=Nat.mul_le_mul (by omega:(cF n d).length<=16) p
 have:16 * 81 ^ 3 < 10000000:=by decide
 omega
theorem P9 {R:Sh.Row}{n s b:Nat}{d:D}(h:Sz n [] s b d) (hn:n<=7) (hs:s<=16) (hb:b<=3) (hl:R.length<=80) (hR:∀h∈R,0<=h.2/\h.2<=9){i:Nat}(hi:i<=R.length):dZ [.t d,.t (.tup (R.map jE)),.t (.int i)]=some (.t (.bl (ev R lZ d i)),[]):=
 BA (.inl rfl) (by omega) hR hn h.sy (D9 h hs hb hl) hi
theorem JR {R:Sh.Row}{n s b:Nat}{d:D}(h:Sz n [] s b d) (hn:n<=7) (hs:s<=16) (hb:b<=3) (hl:R.length<=80) (hR:∀h∈R,0<=h.2/\h.2<=9):jr [.t d,.t (.tup (R.map jE))]=some (.t (.bl (ev R lZ d 0)),[]):=
 JJ (.inl rfl) (by omega) hR hn h.sy (D9 h hs hb hl)
noncomputable def fW (aG:FM):GS:=
 (i8 (qB (eF (eP lg (aa (eF (aO aG (aC (eF (aj 5)) (aC (eF (aj 2)) (aC (eF (aj 3)) bq))))) (aa (eC (.bl false)) aA))))) (cj (eT (eC (.bl false)))) dc)
noncomputable def eU (aG:FM):GS:=
 (aZ (cK 3 (eT (jH 2)))
 (aZ (cK 4 (eP ji (aa (eF (eP cy (aa (eC (.str "next")) (aa (eF (aj 0)) aA)))) (aa (eF (eP cy (aa (eC (.str "till")) (aa (eF (aj 0)) (aa (eF (aj 1)) aA))))) (aa (eF (eP cy (aa (eC (.str "within")) (aa (eC (.int 5)) (aa (eF (aj 0)) aA))))) (aa (eF (eP cy (aa (eC (.str "some")) (aa (eF (aj 0)) aA)))) (aa (eF (eP cy (aa (eC (.str "now")) (aa (eF (eP cy (aa (eC (.str "any")) aA))) aA)))) (aa (eF (eP cy (aa (eC (.str "one")) (aa (eC (.str "a")) (aa (eC (.str "x")) (aa (eF (aj 0)) aA)))))) aA))))))))
 (aZ (nM (bName 5) (xB (eF (aj 4))) (fW aG))
 (cj (eT (eQ (kO (qB (eF (eP kZ (aa (eF (aO aG (aC (eF (eP cy (aa (eC (.str "always")) (aa (eF (aj 0)) aA)))) (aC (eF (aj 2)) (aC (eF (aj 3)) bq))))) (aa (eC (.bl true)) aA))))) (qB (eF (eP kZ (aa (eF (aO aG (aC (eF (eP cy (aa (eC (.str "each")) (aa (eC (.str "a")) (aa (eC (.str "x")) (aa (eF (aj 0)) aA)))))) (aC (eF (aj 2)) (aC (eF (aj 3)) bq))))) (aa (eC (.bl true)) aA))))))))))))
noncomputable def YT (aG:FM):GS:=
 (cK 3 (eT (jH 2)))
noncomputable def YU (aG:FM):GS:=
 (cK 4 (eP ji (aa (eF (eP cy (aa (eC (.str "next")) (aa (eF (aj 0)) aA)))) (aa (eF (eP cy (aa (eC (.str "till")) (aa (eF (aj 0)) (aa (eF (aj 1)) aA))))) (aa (eF (eP cy (aa (eC (.str "within")) (aa (eC (.int 5)) (aa (eF (aj 0)) aA))))) (aa (eF (eP cy (aa (eC (.str "some")) (aa (eF (aj 0)) aA)))) (aa (eF (eP cy (aa (eC (.str "now")) (aa (eF (eP cy (aa (eC (.str "any")) aA))) aA)))) (aa (eF (eP cy (aa (eC (.str "one")) (aa (eC (.str "a")) (aa (eC (.str "x")) (aa (eF (aj 0)) aA)))))) aA))))))))
noncomputable def YV (aG:FM):GS:=
 (nM (bName 5) (xB (eF (aj 4))) (fW aG))
noncomputable def er3 (aG:FM):GS:=
 (cj (eT (eQ (kO (qB (eF (eP kZ (aa (eF (aO aG (aC (eF (eP cy (aa (eC (.str "always")) (aa (eF (aj 0)) aA)))) (aC (eF (aj 2)) (aC (eF (aj 3)) bq))))) (aa (eC (.bl true)) aA))))) (qB (eF (eP kZ (aa (eF (aO aG (aC (eF (eP cy (aa (eC (.str "each")) (aa (eC (.str "a")) (aa (eC (.str "x")) (aa (eF (aj 0)) aA)))))) (aC (eF (aj 2)) (aC (eF (aj 3)) bq))))) (aa (eC (.bl true)) aA)))))))))
theorem Ug (aG:FM):eU aG=aZ (YT aG) (aZ (YU aG) (aZ (YV aG) (er3 aG))):=rfl
noncomputable def i6 (aG:FM):GS:=
 (i8 (qB (eF (eP zD (aa (eF (aO aG (aC (eF (eP cy (aa (eF (aj 6)) (aa (eF (aj 0)) (aa (eF (aj 1)) aA))))) (aC (eF (aj 2)) (aC (eF (aj 3)) bq))))) (aa (eF (aj 7)) aA))))) (cj (eT (eC (.bl false)))) dc)
noncomputable def fj (aG:FM):GS:=
 (i8 (qB (eF (eP zD (aa (eF (aO aG (aC (eF (eP cy (aa (eC (.str "within")) (aa (eF (aj 8)) (aa (eF (aj 0)) aA))))) (aC (eF (aj 2)) (aC (eF (aj 3)) bq))))) (aa (eQ (uq (qB (eF (aj 4))) (qB (eF (aO aG (aC (eF (eP cy (aa (eC (.str "within")) (aa (eF (eP ou (aa (eF (aj 8)) (aa (eC (.int 1)) aA)))) (aa (eF (aj 0)) aA))))) (aC (eF (aj 2)) (aC (eF (eP cN (aa (eF (aj 3)) (aa (eC (.int 1)) aA)))) bq)))))))) aA))))) (cj (eT (eC (.bl false)))) dc)
noncomputable def dW (aG:FM):GS:=
 (aZ (cK 4 (aO aG (aC (eF (aj 0)) (aC (eF (aj 2)) (aC (eF (aj 3)) bq)))))
 (aZ (cK 5 (aO aG (aC (eF (aj 1)) (aC (eF (aj 2)) (aC (eF (aj 3)) bq)))))
 (aZ (nM (qJ 2 (g7 (bName 6) (g7 (bName 7) rF))) (zy (eF (eP ji (aa (eF (eP cy (aa (eC (.str "both")) (aa (eQ (kO (qB (eF (aj 4))) (qB (eF (aj 5))))) aA)))) (aa (eF (eP cy (aa (eC (.str "either")) (aa (eQ (uq (qB (eF (aj 4))) (qB (eF (aj 5))))) aA)))) aA))))) (i6 aG))
 (aZ (i8 (uq (qB (eF (eP jB (aa (eF (aO aG (aC (eF (eP cy (aa (eC (.str "not")) (aa (eF (aj 0)) aA)))) (aC (eF (aj 2)) (aC (eF (aj 3)) bq))))) (aa (eF (aj 4)) aA))))) (qB (eF (eP zD (aa (eF (aO aG (aC (eF (eP cy (aa (eC (.str "next")) (aa (eF (aj 0)) aA)))) (aC (eF (aj 2)) (aC (eF (aj 3)) bq))))) (aa (eF (aO aG (aC (eF (aj 0)) (aC (eF (aj 2)) (aC (eF (eP cN (aa (eF (aj 3)) (aa (eC (.int 1)) aA)))) bq))))) aA)))))) (cj (eT (eC (.bl false)))) dc)
 (aZ (i8 (qB (eF (eP zD (aa (eF (aO aG (aC (eF (eP cy (aa (eC (.str "till")) (aa (eF (aj 0)) (aa (eF (aj 1)) aA))))) (aC (eF (aj 2)) (aC (eF (aj 3)) bq))))) (aa (eQ (uq (qB (eF (aj 5))) (qB (eQ (kO (qB (eF (aj 4))) (qB (eF (aO aG (aC (eF (eP cy (aa (eC (.str "till")) (aa (eF (aj 0)) (aa (eF (aj 1)) aA))))) (aC (eF (aj 2)) (aC (eF (eP cN (aa (eF (aj 3)) (aa (eC (.int 1)) aA)))) bq))))))))))) aA))))) (cj (eT (eC (.bl false)))) dc)
 (aZ (i8 (qB (eF (eP zD (aa (eF (aO aG (aC (eF (eP cy (aa (eC (.str "always")) (aa (eF (aj 0)) aA)))) (aC (eF (aj 2)) (aC (eF (aj 3)) bq))))) (aa (eQ (kO (qB (eF (aj 4))) (qB (eF (aO aG (aC (eF (eP cy (aa (eC (.str "always")) (aa (eF (aj 0)) aA)))) (aC (eF (aj 2)) (aC (eF (eP cN (aa (eF (aj 3)) (aa (eC (.int 1)) aA)))) bq)))))))) aA))))) (cj (eT (eC (.bl false)))) dc)
 (aZ (i8 (qB (eF (eP zD (aa (eF (aO aG (aC (eF (eP cy (aa (eC (.str "some")) (aa (eF (aj 0)) aA)))) (aC (eF (aj 2)) (aC (eF (aj 3)) bq))))) (aa (eQ (uq (qB (eF (aj 4))) (qB (eF (aO aG (aC (eF (eP cy (aa (eC (.str "some")) (aa (eF (aj 0)) aA)))) (aC (eF (aj 2)) (aC (eF (eP cN (aa (eF (aj 3)) (aa (eC (.int 1)) aA)))) bq)))))))) aA))))) (cj (eT (eC (.bl false)))) dc)
 (aZ (nM (bName 8) (AK (aa (eC (.int 1)) (aa (eC (.int 6)) aA))) (fj aG))
 (cj (eP kZ (aa (eF (aO aG (aC (eF (eP cy (aa (eC (.str "within")) (aa (eC (.int 0)) (aa (eF (aj 0)) aA))))) (aC (eF (aj 2)) (aC (eF (aj 3)) bq))))) (aa (eC (.bl false)) aA))))))))))))
noncomputable def YW (aG:FM):GS:=
 (cK 4 (aO aG (aC (eF (aj 0)) (aC (eF (aj 2)) (aC (eF (aj 3)) bq)))))
noncomputable def YX (aG:FM):GS:=
 (cK 5 (aO aG (aC (eF (aj 1)) (aC (eF (aj 2)) (aC (eF (aj 3)) bq)))))
noncomputable def YY (aG:FM):GS:=
 (nM (qJ 2 (g7 (bName 6) (g7 (bName 7) rF))) (zy (eF (eP ji (aa (eF (eP cy (aa (eC (.str "both")) (aa (eQ (kO (qB (eF (aj 4))) (qB (eF (aj 5))))) aA)))) (aa (eF (eP cy (aa (eC (.str "either")) (aa (eQ (uq (qB (eF (aj 4))) (qB (eF (aj 5))))) aA)))) aA))))) (i6 aG))
noncomputable def YZ (aG:FM):GS:=
 (i8 (uq (qB (eF (eP jB (aa (eF (aO aG (aC (eF (eP cy (aa (eC (.str "not")) (aa (eF (aj 0)) aA)))) (aC (eF (aj 2)) (aC (eF (aj 3)) bq))))) (aa (eF (aj 4)) aA))))) (qB (eF (eP zD (aa (eF (aO aG (aC (eF (eP cy (aa (eC (.str "next")) (aa (eF (aj 0)) aA)))) (aC (eF (aj 2)) (aC (eF (aj 3)) bq))))) (aa (eF (aO aG (aC (eF (aj 0)) (aC (eF (aj 2)) (aC (eF (eP cN (aa (eF (aj 3)) (aa (eC (.int 1)) aA)))) bq))))) aA)))))) (cj (eT (eC (.bl false)))) dc)
noncomputable def Y0 (aG:FM):GS:=
 (i8 (qB (eF (eP zD (aa (eF (aO aG (aC (eF (eP cy (aa (eC (.str "till")) (aa (eF (aj 0)) (aa (eF (aj 1)) aA))))) (aC (eF (aj 2)) (aC (eF (aj 3)) bq))))) (aa (eQ (uq (qB (eF (aj 5))) (qB (eQ (kO (qB (eF (aj 4))) (qB (eF (aO aG (aC (eF (eP cy (aa (eC (.str "till")) (aa (eF (aj 0)) (aa (eF (aj 1)) aA))))) (aC (eF (aj 2)) (aC (eF (eP cN (aa (eF (aj 3)) (aa (eC (.int 1)) aA)))) bq))))))))))) aA))))) (cj (eT (eC (.bl false)))) dc)
noncomputable def Y3 (aG:FM):GS:=
 (i8 (qB (eF (eP zD (aa (eF (aO aG (aC (eF (eP cy (aa (eC (.str "always")) (aa (eF (aj 0)) aA)))) (aC (eF (aj 2)) (aC (eF (aj 3)) bq))))) (aa (eQ (kO (qB (eF (aj 4))) (qB (eF (aO aG (aC (eF (eP cy (aa (eC (.str "always")) (aa (eF (aj 0)) aA)))) (aC (eF (aj 2)) (aC (eF (eP cN (aa (eF (aj 3)) (aa (eC (.int 1)) aA)))) bq)))))))) aA))))) (cj (eT (eC (.bl false)))) dc)
noncomputable def Y4 (aG:FM):GS:=
 (i8 (qB (eF (eP zD (aa (eF (aO aG (aC (eF (eP cy (aa (eC (.str "some")) (aa (eF (aj 0)) aA)))) (aC (eF (aj 2)) (aC (eF (aj 3)) bq))))) (aa (eQ (uq (qB (eF (aj 4))) (qB (eF (aO aG (aC (eF (eP cy (aa (eC (.str "some")) (aa (eF (aj 0)) aA)))) (aC (eF (aj 2)) (aC (eF (eP cN (aa (eF (aj 3)) (aa (eC (.int 1)) aA)))) bq)))))))) aA))))) (cj (eT (eC (.bl false)))) dc)
noncomputable def sr7 (aG:FM):GS:=
 (nM (bName 8) (AK (aa (eC (.int 1)) (aa (eC (.int 6)) aA))) (fj aG))
noncomputable def sr8 (aG:FM):GS:=
 (cj (eP kZ (aa (eF (aO aG (aC (eF (eP cy (aa (eC (.str "within")) (aa (eC (.int 0)) (aa (eF (aj 0)) aA))))) (aC (eF (aj 2)) (aC (eF (aj 3)) bq))))) (aa (eC (.bl false)) aA))))
theorem Uh (aG:FM):dW aG=aZ (YW aG) (aZ (YX aG) (aZ (YY aG) (aZ (YZ aG) (aZ (Y0 aG) (aZ (Y3 aG) (aZ (Y4 aG) (aZ (sr7 aG) (sr8 aG)))))))):=rfl
noncomputable def cB (aG:FM) (dB:FM):GS:=
 (aZ (cK 4 (Xh (qB (eF (eP jB (aa (eF (eP xA (aa (dg 1 (eF (aj 2))) (aa (eC (.int 0)) aA)))) (aa (eF (aj 3)) aA))))) (aO aG (aC (eF (aO dB (aC (eF (aj 0)) (aC (eC (.str "x")) (aC (eF (eP xA (aa (dg 1 (eF (aj 2))) (aa (eC (.int 1)) aA)))) bq))))) (aC (eF (aj 1)) (aC (eF (aj 2)) bq)))) (eT (eC .dR))))
 (aZ (cK 5 (aO aG (aC (eF (eP cy (aa (eC (.str "each")) (aa (eF (aj 3)) (aa (eC (.str "x")) (aa (eF (aj 0)) aA)))))) (aC (eF (aj 1)) (aC (eF (eP cN (aa (eF (aj 2)) (aa (eC (.int 1)) aA)))) bq)))))
 (aZ (i8 (qB (eF (eP zD (aa (eF (aO aG (aC (eF (eP cy (aa (eC (.str "each")) (aa (eF (aj 3)) (aa (eC (.str "x")) (aa (eF (aj 0)) aA)))))) (aC (eF (aj 1)) (aC (eF (aj 2)) bq))))) (aa (eQ (kO (qB (eF (aj 5))) (qB (eF (eP lg (aa (eF (aj 4)) (aa (eC (.bl false)) aA))))))) aA))))) (cj (eT (eC (.bl false)))) dc)
 (aZ (cK 5 (aO aG (aC (eF (eP cy (aa (eC (.str "one")) (aa (eF (aj 3)) (aa (eC (.str "x")) (aa (eF (aj 0)) aA)))))) (aC (eF (aj 1)) (aC (eF (eP cN (aa (eF (aj 2)) (aa (eC (.int 1)) aA)))) bq)))))
 (cj (eP jB (aa (eF (aO aG (aC (eF (eP cy (aa (eC (.str "one")) (aa (eF (aj 3)) (aa (eC (.str "x")) (aa (eF (aj 0)) aA)))))) (aC (eF (aj 1)) (aC (eF (aj 2)) bq))))) (aa (eQ (uq (qB (eF (aj 5))) (qB (eF (eP kZ (aa (eF (aj 4)) (aa (eC (.bl true)) aA))))))) aA))))))))
theorem gj {a b:GS}{S S1:SS}(h:a S=some (.nx S1)):aZ a b S=b S1:=by unfold aZ;rw[h];rfl
theorem JV {n:Nat}{g:GS}{us:List U}{d:D}{S':SS}{os:List MO}(h:g (us.map some++List.replicate (n - us.length) none)=some (.rt (.t d) S')) (ho:aT us S'=some os):aW n g us=some (.t d,os):=by
 unfold aW;rw[h];simp[ho]
theorem wJ (b:Bool):zD [.bl b,.bl b]=some (.t (.bl false)):=by cases b <;> rfl
theorem Qa (b:Bool):jB [.bl (!b),.bl b]=some (.t (.bl false)):=by cases b <;> rfl
section
variable {f:FM}{s r:D}{rs:List D}{n:Nat}
theorem MA {L:List D}{k:Int}{x4:Option U}(h:∀d∈L,f [.t d,.t (.tup rs),.t (.int k)]=some (.t (.bl false),[])):
  ∃y,loop (bName 5) (fW f) L [some (.t s),some (.t r),some (.t (.tup rs)),some (.t (.int k)),x4,none]=some (.nx [some (.t s),some (.t r),some (.t (.tup rs)),some (.t (.int k)),x4,y]):=by
 obtain⟨S',e,y,hy,rfl⟩:=oV (bd:=bName 5) (body:=fW f) L (fun _ S=>∃y,qj y=false/\S=[some (.t s),some (.t r),some (.t (.tup rs)),some (.t (.int k)),x4,y]) _ ⟨none,rfl,rfl⟩ (by
  rintro j d S hd ⟨y,hy,rfl⟩
  have e:=h d (List.mem_of_getElem? hd)
  have e2:lg [.bl false,.bl false]=some (.t (.bl false)):=rfl
  exact⟨[some (.t s),some (.t r),some (.t (.tup rs)),some (.t (.int k)),x4,some (.t d)],_,by simp[-iz,fQ,hy],by simp[fW,e],some (.t d),rfl,rfl⟩)
 exact⟨y,e⟩
theorem Qc (hl:rs.length=n) (h:∀d∈[D.tup [.str "next",s],.tup [.str "till",s,r],.tup [.str "within",.int 5,s],.tup [.str "some",s],.tup [.str "now",.tup [.str "any"]],.tup [.str "one",.str "a",.str "x",s]],f [.t d,.t (.tup rs),.t (.int n)]=some (.t (.bl false),[]))
  (h1:f [.t (.tup [.str "always",s]),.t (.tup rs),.t (.int n)]=some (.t (.bl true),[])) (h2:f [.t (.tup [.str "each",.str "a",.str "x",s]),.t (.tup rs),.t (.int n)]=some (.t (.bl true),[])):
  aW 6 (eU f) [.t s,.t r,.t (.tup rs)]=some (.t (.bl true),[]):=by
 obtain⟨y,e⟩:=MA (s:=s) (r:=r) (k:=(n:Int)) (x4:=some (.t (.lst [D.tup [.str "next",s],.tup [.str "till",s,r],.tup [.str "within",.int 5,s],.tup [.str "some",s],.tup [.str "now",.tup [.str "any"]],.tup [.str "one",.str "a",.str "x",s]]))) h
 refine JV (S':=[some (.t s),some (.t r),some (.t (.tup rs)),some (.t (.int n)),some (.t (.lst [D.tup [.str "next",s],.tup [.str "till",s,r],.tup [.str "within",.int 5,s],.tup [.str "some",s],.tup [.str "now",.tup [.str "any"]],.tup [.str "one",.str "a",.str "x",s]])),y]) ?_ rfl
 rw[Ug]
 show aZ _ _ [some (.t s),some (.t r),some (.t (.tup rs)),none,none,none]=_
 have e0:YT f [some (.t s),some (.t r),some (.t (.tup rs)),none,none,none]=some (.nx [some (.t s),some (.t r),some (.t (.tup rs)),some (.t (.int n)),none,none]):=by simp[YT,hl]
 have e1:YU f [some (.t s),some (.t r),some (.t (.tup rs)),some (.t (.int n)),none,none]=some (.nx [some (.t s),some (.t r),some (.t (.tup rs)),some (.t (.int n)),some (.m (.lst [D.tup [.str "next",s],.tup [.str "till",s,r],.tup [.str "within",.int 5,s],.tup [.str "some",s],.tup [.str "now",.tup [.str "any"]],.tup [.str "one",.str "a",.str "x",s]])),none]):=by simp[YU]
 refine(gj e0).trans ((gj e1).trans ?_)
 generalize [D.tup [.str "next",s],.tup [.str "till",s,r],.tup [.str "within",.int 5,s],.tup [.str "some",s],.tup [.str "now",.tup [.str "any"]],.tup [.str "one",.str "a",.str "x",s]]=L at *
 have e2:YV f [some (.t s),some (.t r),some (.t (.tup rs)),some (.t (.int n)),some (.m (.lst L)),none]=some (.nx [some (.t s),some (.t r),some (.t (.tup rs)),some (.t (.int n)),some (.t (.lst L)),y]):=by simp[YV,qN,e]
 refine(gj e2).trans ?_
 simp[er3,h1,h2]
theorem Qd {kk:Int}{h o:Bool}(e1:f [.t (.tup [.str "both",s,r]),.t (.tup rs),.t (.int kk)]=some (.t (.bl (h && o)),[])) (e2:f [.t (.tup [.str "either",s,r]),.t (.tup rs),.t (.int kk)]=some (.t (.bl (h || o)),[])):
  ∃y6 y7,YY f [some (.t s),some (.t r),some (.t (.tup rs)),some (.t (.int kk)),some (.t (.bl h)),some (.t (.bl o)),none,none,none]=some (.nx [some (.t s),some (.t r),some (.t (.tup rs)),some (.t (.int kk)),some (.t (.bl h)),some (.t (.bl o)),y6,y7,none]):=by
 refine⟨some (.t (.str "either")),some (.t (.bl (h || o))),?_⟩
 cases h <;> cases o <;> simp at e1 e2 <;> simp[YY,zy,loop,i6,e1,e2]
theorem FI {kk : Int} {h : Bool} {x5 x6 x7 : Option U} (w : Int -> Bool) (e : ∀ k : Int, 1 <= k -> k <= 5 -> f [.t (.tup [.str "within", .int k, s]), .t (.tup rs), .t (.int kk)] = some (.t (.bl (h || w (k - 1))), []) /\ f [.t (.tup [.str "within", .int (k - 1), s]), .t (.tup rs), .t (.int (kk + 1))] = some (.t (.bl (w (k - 1))), [])) :
    ∃y8,sr7 f [some (.t s),some (.t r),some (.t (.tup rs)),some (.t (.int kk)),some (.t (.bl h)),x5,x6,x7,none]=some (.nx [some (.t s),some (.t r),some (.t (.tup rs)),some (.t (.int kk)),some (.t (.bl h)),x5,x6,x7,y8]):=by
  obtain⟨S',el,y,hy,rfl⟩:=oV (bd:=bName 8) (body:=fj f) (nK 1 5) (fun _ S=>∃y,qj y=false/\S=[some (.t s),some (.t r),some (.t (.tup rs)),some (.t (.int kk)),some (.t (.bl h)),x5,x6,x7,y]) [some (.t s),some (.t r),some (.t (.tup rs)),some (.t (.int kk)),some (.t (.bl h)),x5,x6,x7,none] ⟨none,rfl,rfl⟩ (by
    rintro j d S hd ⟨y,hy,rfl⟩
    have hj:∃k:Int,d= .int k/\1<=k/\k<=5:=by
      unfold nK at hd
      rw[List.getElem?_map] at hd
      cases e:(List.range 5)[j]? with
      | none=>rw[e] at hd;cases hd
      | some v=>
        rw[e] at hd
        have hv:v < 5:=List.mem_range.mp (List.mem_of_getElem? e)
        exact⟨1+(v:Int),(Option.some.inj hd).symm,by omega,by omega⟩
    obtain⟨k,rfl,k1,k5⟩:=hj
    obtain⟨a,b⟩:=e k k1 k5
    refine⟨[some (.t s),some (.t r),some (.t (.tup rs)),some (.t (.int kk)),some (.t (.bl h)),x5,x6,x7,some (.t (.int k))],_,by simp[-iz,fQ,hy],?_,some (.t (.int k)),rfl,rfl⟩
    have z1:=wJ true
    have z:=wJ (w (k - 1))
    cases h with
    | true=>simp at a;simp[-Bb,fj,a,z1]
    | false=>simp at a;simp[-Bb,fj,a,b,z])
  refine⟨y,?_⟩
  have eg:AK (aa (eC (.int 1)) (aa (eC (.int 6)) aA)) [some (.t s),some (.t r),some (.t (.tup rs)),some (.t (.int kk)),some (.t (.bl h)),x5,x6,x7,none]=some (nK 1 5,[some (.t s),some (.t r),some (.t (.tup rs)),some (.t (.int kk)),some (.t (.bl h)),x5,x6,x7,none]):=rfl
  show nM _ _ _ _=_
  rw[Ir,eg,Option.bind_some]
  exact el
theorem MB {kk:Int}{h o tn an sn h1:Bool}(w:Int->Bool)
  (e0:f [.t s,.t (.tup rs),.t (.int kk)]=some (.t (.bl h),[])) (e1:f [.t r,.t (.tup rs),.t (.int kk)]=some (.t (.bl o),[]))
  (e2:f [.t (.tup [.str "both",s,r]),.t (.tup rs),.t (.int kk)]=some (.t (.bl (h && o)),[])) (e3:f [.t (.tup [.str "either",s,r]),.t (.tup rs),.t (.int kk)]=some (.t (.bl (h || o)),[]))
  (e4:f [.t (.tup [.str "not",s]),.t (.tup rs),.t (.int kk)]=some (.t (.bl (!h)),[])) (e5:f [.t (.tup [.str "next",s]),.t (.tup rs),.t (.int kk)]=some (.t (.bl h1),[])) (e6:f [.t s,.t (.tup rs),.t (.int (kk+1))]=some (.t (.bl h1),[]))
  (e7:f [.t (.tup [.str "till",s,r]),.t (.tup rs),.t (.int kk)]=some (.t (.bl (o || (h && tn))),[])) (e8:f [.t (.tup [.str "till",s,r]),.t (.tup rs),.t (.int (kk+1))]=some (.t (.bl tn),[]))
  (e9:f [.t (.tup [.str "always",s]),.t (.tup rs),.t (.int kk)]=some (.t (.bl (h && an)),[])) (e10:f [.t (.tup [.str "always",s]),.t (.tup rs),.t (.int (kk+1))]=some (.t (.bl an),[]))
  (e11:f [.t (.tup [.str "some",s]),.t (.tup rs),.t (.int kk)]=some (.t (.bl (h || sn)),[])) (e12:f [.t (.tup [.str "some",s]),.t (.tup rs),.t (.int (kk+1))]=some (.t (.bl sn),[]))
  (e13:∀k:Int,1<=k->k<=5->f [.t (.tup [.str "within",.int k,s]),.t (.tup rs),.t (.int kk)]=some (.t (.bl (h || w (k - 1))),[])/\f [.t (.tup [.str "within",.int (k - 1),s]),.t (.tup rs),.t (.int (kk+1))]=some (.t (.bl (w (k - 1))),[]))
  (e14:f [.t (.tup [.str "within",.int 0,s]),.t (.tup rs),.t (.int kk)]=some (.t (.bl false),[])):
  aW 9 (dW f) [.t s,.t r,.t (.tup rs),.t (.int kk)]=some (.t (.bl true),[]):=by
 obtain⟨y6,y7,a2⟩:=Qd (s:=s) (r:=r) e2 e3
 obtain⟨y8,a7⟩:=FI (r:=r) (x5:=some (.t (.bl o))) (x6:=y6) (x7:=y7) w e13
 refine JV (S':=[some (.t s),some (.t r),some (.t (.tup rs)),some (.t (.int kk)),some (.t (.bl h)),some (.t (.bl o)),y6,y7,y8]) ?_ rfl
 rw[Uh]
 show aZ _ _ [some (.t s),some (.t r),some (.t (.tup rs)),some (.t (.int kk)),none,none,none,none,none]=_
 have a0:YW f [some (.t s),some (.t r),some (.t (.tup rs)),some (.t (.int kk)),none,none,none,none,none]=some (.nx [some (.t s),some (.t r),some (.t (.tup rs)),some (.t (.int kk)),some (.t (.bl h)),none,none,none,none]):=by simp[YW,e0]
 have a1:YX f [some (.t s),some (.t r),some (.t (.tup rs)),some (.t (.int kk)),some (.t (.bl h)),none,none,none,none]=some (.nx [some (.t s),some (.t r),some (.t (.tup rs)),some (.t (.int kk)),some (.t (.bl h)),some (.t (.bl o)),none,none,none]):=by simp[YX,e1]
 have b1:=Qa h
 have b2:=wJ h1
 have a3:YZ f [some (.t s),some (.t r),some (.t (.tup rs)),some (.t (.int kk)),some (.t (.bl h)),some (.t (.bl o)),y6,y7,none]=some (.nx [some (.t s),some (.t r),some (.t (.tup rs)),some (.t (.int kk)),some (.t (.bl h)),some (.t (.bl o)),y6,y7,none]):=by simp[-Bb,-Tw,YZ,e4,e5,e6,b1,b2]
 have a4:Y0 f [some (.t s),some (.t r),some (.t (.tup rs)),some (.t (.int kk)),some (.t (.bl h)),some (.t (.bl o)),y6,y7,none]=some (.nx [some (.t s),some (.t r),some (.t (.tup rs)),some (.t (.int kk)),some (.t (.bl h)),some (.t (.bl o)),y6,y7,none]):=by
  cases o <;> cases h <;> simp at e7 <;> cases tn <;> simp[Y0,e7,e8]
 have a5:Y3 f [some (.t s),some (.t r),some (.t (.tup rs)),some (.t (.int kk)),some (.t (.bl h)),some (.t (.bl o)),y6,y7,none]=some (.nx [some (.t s),some (.t r),some (.t (.tup rs)),some (.t (.int kk)),some (.t (.bl h)),some (.t (.bl o)),y6,y7,none]):=by
  cases h <;> simp at e9 <;> cases an <;> simp[Y3,e9,e10]
 have a6:Y4 f [some (.t s),some (.t r),some (.t (.tup rs)),some (.t (.int kk)),some (.t (.bl h)),some (.t (.bl o)),y6,y7,none]=some (.nx [some (.t s),some (.t r),some (.t (.tup rs)),some (.t (.int kk)),some (.t (.bl h)),some (.t (.bl o)),y6,y7,none]):=by
  cases h <;> simp at e11 <;> cases sn <;> simp[Y4,e11,e12]
 refine(gj a0).trans ((gj a1).trans ((gj a2).trans ((gj a3).trans ((gj a4).trans ((gj a5).trans ((gj a6).trans ((gj a7).trans ?_)))))))
 simp[sr8,e14]
theorem MC {kk m:Int}{x a:Str}{pt:D}{fp:FM}{b l1 l2:Bool}(hx:x=a) (ha:gD rs kk=some (.tup [.str x,.int m])) (ep:fp [.t s,.t (.str "x"),.t (.int m)]=some (.t pt,[])) (e0:f [.t pt,.t (.tup rs),.t (.int kk)]=some (.t (.bl b),[]))
  (e1:f [.t (.tup [.str "each",.str a,.str "x",s]),.t (.tup rs),.t (.int (kk+1))]=some (.t (.bl l1),[])) (e2:f [.t (.tup [.str "each",.str a,.str "x",s]),.t (.tup rs),.t (.int kk)]=some (.t (.bl (b && l1)),[]))
  (e3:f [.t (.tup [.str "one",.str a,.str "x",s]),.t (.tup rs),.t (.int (kk+1))]=some (.t (.bl l2),[])) (e4:f [.t (.tup [.str "one",.str a,.str "x",s]),.t (.tup rs),.t (.int kk)]=some (.t (.bl (b || l2)),[])):
  aW 6 (cB f fp) [.t s,.t (.tup rs),.t (.int kk),.t (.str a)]=some (.t (.bl true),[]):=by
 subst hx
 cases b <;> cases l1 <;> cases l2 <;> simp at e2 e4 <;> simp[aW,cB,aT,ha,d7,fR,ep,e0,e1,e2,e3,e4]
theorem JX {kk m:Int}{x a:Str}{fp:FM}{l1 l2:Bool}(hx:¬x=a) (ha:gD rs kk=some (.tup [.str x,.int m]))
  (e1:f [.t (.tup [.str "each",.str a,.str "x",s]),.t (.tup rs),.t (.int (kk+1))]=some (.t (.bl l1),[])) (e2:f [.t (.tup [.str "each",.str a,.str "x",s]),.t (.tup rs),.t (.int kk)]=some (.t (.bl l1),[]))
  (e3:f [.t (.tup [.str "one",.str a,.str "x",s]),.t (.tup rs),.t (.int (kk+1))]=some (.t (.bl l2),[])) (e4:f [.t (.tup [.str "one",.str a,.str "x",s]),.t (.tup rs),.t (.int kk)]=some (.t (.bl l2),[])):
  aW 6 (cB f fp) [.t s,.t (.tup rs),.t (.int kk),.t (.str a)]=some (.t (.bl true),[]):=by
 cases l1 <;> cases l2 <;> simp[aW,cB,aT,ha,d7,fR,hx,e1,e2,e3,e4]
end
noncomputable def qm:FM:=aW 6 (eU dZ)
theorem MD:∀us r,qm us=some r->aW 6 (eU dZ) us=some r:=fun _ _ h=>h
noncomputable def ki:FM:=aW 9 (dW dZ)
theorem JY:∀us r,ki us=some r->aW 9 (dW dZ) us=some r:=fun _ _ h=>h
noncomputable def kj:FM:=aW 6 (cB dZ (mT 9))
theorem JZ:∀us r,kj us=some r->aW 6 (cB dZ (mT 9)) us=some r:=fun _ _ h=>h
structure z8 (R:Sh.Row):Prop where
 len:R.length<=80
 wk:∀p∈R,Rh p
theorem z8.V1 {R:Sh.Row}(h:z8 R):∀p∈R,0<=p.2/\p.2<=9:=fun p hp=>by
 have w:=h.wk p hp
 have:=w.lo
 have:=w.hi
 omega
theorem ju {R:Sh.Row}(hR:z8 R){n s b:Nat}{d:D}(h:Sz n [] s b d) (hn:n<=7) (hs:s<=16) (hb:b<=3){i:Nat}(hi:i<=R.length):dZ [.t d,.t (.tup (R.map jE)),.t (.int i)]=some (.t (.bl (ev R lZ d i)),[]):=P9 h hn hs hb hR.len hR.V1 hi
section
variable {R:Sh.Row}{b b':Nat}{s r t:D}{i:Nat}
theorem ME (hR:z8 R) (hs:Sz 4 [] 7 b s) (hr:Sz 4 [] 7 b' r) (hb:b+b'<=2):qm [.t s,.t r,.t (.tup (R.map jE))]=some (.t (.bl true),[]):=by
 refine Qc (n:=R.length) (List.length_map ..) ?_ ?_ ?_
 ·intro d hd
  rcases List.mem_cons.mp hd with rfl | hd
  ·rw[ju hR (Sz.one (by decide) hs) (by omega) (by omega) (by omega) (Nat.le_refl _),Mv]
  rcases List.mem_cons.mp hd with rfl | hd
  ·rw[ju hR (Sz.two (by decide) hs hr) (by omega) (by omega) (by omega) (Nat.le_refl _),Mw]
  rcases List.mem_cons.mp hd with rfl | hd
  ·rw[ju hR (Sz.zY (by decide) (by decide) hs) (by omega) (by omega) (by omega) (Nat.le_refl _),FG]
  rcases List.mem_cons.mp hd with rfl | hd
  ·rw[ju hR (Sz.one (by decide) hs) (by omega) (by omega) (by omega) (Nat.le_refl _),Mx]
  rcases List.mem_cons.mp hd with rfl | hd
  ·rw[ju hR (Sz.any (n:=0)) (by omega) (by omega) (by omega) (Nat.le_refl _),P7]
  ·rw[List.mem_singleton.mp hd,ju hR (Sz.bnd (.inr rfl) (by decide +kernel) (by decide +kernel) (hs.mono (fun y hy=>by cases hy))) (by omega) (by omega) (by omega) (Nat.le_refl _),P8]
 ·rw[ju hR (Sz.one (by decide) hs) (by omega) (by omega) (by omega) (Nat.le_refl _),FH]
 ·rw[ju hR (Sz.bnd (.inl rfl) (by decide +kernel) (by decide +kernel) (hs.mono (fun y hy=>by cases hy))) (by omega) (by omega) (by omega) (Nat.le_refl _),My]
theorem J0 (hR:z8 R) (hs:Sz 4 [] 7 b s) (hr:Sz 4 [] 7 b' r) (hb:b+b'<=2) (hi:i < R.length):ki [.t s,.t r,.t (.tup (R.map jE)),.t (.int i)]=some (.t (.bl true),[]):=by
 have e1:((i:Int)+1)=((i+1:Nat):Int):=by omega
 have H:∀{m z c:Nat}{d:D},Sz m [] z c d->m<=5->z<=15->c<=2->dZ [.t d,.t (.tup (R.map jE)),.t (.int i)]=some (.t (.bl (ev R lZ d i)),[])/\dZ [.t d,.t (.tup (R.map jE)),.t (.int ((i:Int)+1))]=some (.t (.bl (ev R lZ d (i+1))),[]):=fun h h1 h2 h3=>
  ⟨ju hR h (by omega) (by omega) (by omega) (by omega),by rw[e1];exact ju hR h (by omega) (by omega) (by omega) (by omega)⟩
 have a0:=H hs (by omega) (by omega) (by omega)
 have a1:=H hr (by omega) (by omega) (by omega)
 have a2:=H (Sz.two (z:="both") (by decide) hs hr) (by omega) (by omega) (by omega)
 have a3:=H (Sz.two (z:="either") (by decide) hs hr) (by omega) (by omega) (by omega)
 have a4:=H (Sz.one (z:="not") (by decide) hs) (by omega) (by omega) (by omega)
 have a5:=H (Sz.one (z:="next") (by decide) hs) (by omega) (by omega) (by omega)
 have a6:=H (Sz.two (z:="till") (by decide) hs hr) (by omega) (by omega) (by omega)
 have a7:=H (Sz.one (z:="always") (by decide) hs) (by omega) (by omega) (by omega)
 have a8:=H (Sz.one (z:="some") (by decide) hs) (by omega) (by omega) (by omega)
 have a9:∀k:Int,0<=k->k<=5->_:=fun k k0 k5=>H (Sz.zY (k:=k) k0 k5 hs) (by omega) (by omega) (by omega)
 refine MB (f:=dZ) (w:=fun k=>ev R lZ (.tup [.str "within",.int k,s]) (i+1)) a0.1 a1.1 ?_ ?_ ?_ ?_ a0.2 ?_ a6.2 ?_ a7.2 ?_ a8.2 ?_ ?_
 ·rw[a2.1,p8]
 ·rw[a3.1,kJ]
 ·rw[a4.1,s8]
 ·rw[a5.1,Ms hi]
 ·rw[a6.1,Mt hi]
 ·rw[a7.1,FE hi]
 ·rw[a8.1,Mr hi]
 ·intro k k1 k5
  exact⟨by rw[(a9 k (by omega) k5).1,FF hi k1],(a9 (k - 1) (by omega) (by omega)).2⟩
 ·rw[(a9 0 (by decide) (by decide)).1,CP]
theorem BC (hR:z8 R){a x:Str}{m:Int}(ht:Sz 4 ["x"] 7 b t) (hb:b<=2) (ha:nameB (.str a)=true) (hx:R[i]? =some (x,m)):kj [.t t,.t (.tup (R.map jE)),.t (.int i),.t (.str a)]=some (.t (.bl true),[]):=by
 have hi:i < R.length:=(List.getElem?_eq_some_iff.mp hx).1
 have e1:((i:Int)+1)=((i+1:Nat):Int):=by omega
 have mk:=hR.V1 _ (List.mem_of_getElem? hx)
 have H:∀{m z c:Nat}{d:D},Sz m [] z c d->m<=5->z<=15->c<=3->dZ [.t d,.t (.tup (R.map jE)),.t (.int i)]=some (.t (.bl (ev R lZ d i)),[])/\dZ [.t d,.t (.tup (R.map jE)),.t (.int ((i:Int)+1))]=some (.t (.bl (ev R lZ d (i+1))),[]):=fun h h1 h2 h3=>
  ⟨ju hR h (by omega) (by omega) (by omega) (by omega),by rw[e1];exact ju hR h (by omega) (by omega) (by omega) (by omega)⟩
 have a0:=H (Sz.bnd (z:="each") (a:=a) (y:="x") (bs:=[]) (.inl rfl) ha (by decide +kernel) ht) (by omega) (by omega) (by omega)
 have a1:=H (Sz.bnd (z:="one") (a:=a) (y:="x") (bs:=[]) (.inr rfl) ha (by decide +kernel) ht) (by omega) (by omega) (by omega)
 have at':gD (R.map jE) (i:Int)=some (.tup [.str x,.int m]):=Sq.sZ (by omega) (by rw[Int.toNat_natCast,List.getElem?_map,hx];rfl)
 have s1:=Mu (R:=R) (e:=lZ) (a:=a) (y:="x") (p:=t) hx
 have s2:=P6 (R:=R) (e:=lZ) (a:=a) (y:="x") (p:=t) hx
 by_cases c:x=a
 ·rw[if_pos c] at s1 s2
  have ap:=H (ht.put (i:=m) mk.1 mk.2) (by omega) (by omega) (by omega)
  have pf:=DY ht.sy "x" (.int m) (j:=9) (by omega)
  have b0:=ap.1
  rw[Jd R ht.sy] at b0
  exact MC (f:=dZ) (fp:=mT 9) c at' pf b0 a0.2 (by rw[a0.1,s1]) a1.2 (by rw[a1.1,s2])
 ·rw[if_neg c] at s1 s2
  exact JX (f:=dZ) (fp:=mT 9) c at' a0.2 (by rw[a0.1,s1,Bool.true_and]) a1.2 (by rw[a1.1,s2,Bool.false_or])
theorem MF (hR:z8 R) (hs:Sz 4 [] 7 b s) (hb:b<=2) (hi:i<=R.length):jr [.t s,.t (.tup ((R.map jE).drop i))]=some (.t (.bl (ev R lZ s i)),[]):=by
 have l:=hR.len
 have e:=JR (R:=R.drop i) hs (by omega) (by omega) (by omega) (by rw[List.length_drop];omega) (fun p hp=>hR.V1 p (List.mem_of_mem_drop hp))
 rw[Mz R i hi hs.sy,Nat.add_zero,List.map_drop] at e
 exact e
theorem Qe (hR:z8 R) (hs:Sz 4 [] 7 b s) (hb:b<=2):jr [.t s,.t (.tup (R.map jE))]=some (.t (.bl (ev R lZ s 0)),[]):=JR hs (by omega) (by omega) (by omega) hR.len hR.V1
end
noncomputable def tL (br:FM) (aX:FM) (bC:FM) (az:FM) (aF:FM) (aM:FM) (dJ:FM) (aG:FM) (aJ:FM) (aD:FM):GS:=
 (aZ (i8 (uq (vF (qB (eF (aO aJ (aC (eF (aj 7)) (aC (eF (aj 8)) (aC (eF (aj 5)) (aC (eF (aj 10)) bq)))))))) (vF (qB (eF (aO aD (aC (eF (aj 9)) (aC (eF (aj 5)) (aC (eF (aj 10)) (aC (eF (eP xA (aa (dg 5 (eF (aj 10))) (aa (eC (.int 0)) aA)))) bq))))))))) (cj (eT (eC (.bl false)))) dc)
 (i8 (uq (vF (qB (eF (aO aD (aC (eF (aj 9)) (aC (eF (aj 5)) (aC (eF (aj 10)) (aC (dg 4 (eC (.int 0))) bq)))))))) (qB (eF (eP zD (aa (eF (aO aG (aC (eF (aj 7)) (aC (eF (aj 5)) (aC (eF (aj 10)) bq))))) (aa (eF (aO dJ (aC (eF (aj 7)) (aC (eF (sS (eF (aj 5)) (some (eF (aj 10))) none)) bq)))) aA)))))) (cj (eT (eC (.bl false)))) dc))
noncomputable def tM (br:FM) (aX:FM) (bC:FM) (az:FM) (aF:FM) (aM:FM) (dJ:FM) (aG:FM) (aJ:FM) (aD:FM):GS:=
 (aZ (cK 2 (aO br (cC (aj 0) (aC (eF (aj 1)) bq))))
 (aZ (cK 3 (aO aX (cC (aj 2) bq)))
 (aZ (cK 4 (eP cN (aa (eF (eP zF (aa (eF (kY [] (zy (eF (aj 3))) eZ (eF (aj 0)))) (aa (eC (.int 3)) aA)))) (aa (eF (eP ji (aa (eC (.str "strange")) aA))) aA))))
 (aZ (cK 5 (aO bC (cC (aj 2) (aC (eF (aj 3)) (aC (eF (eP xA (aa (eF (eP ji (aa (eC (.int 12)) (aa (eC (.int 60)) aA)))) (aa (eF (eP Cs (aa (eF (eP jB (aa (eF (aO az (cC (aj 2) (aC (eC (.int 16)) bq)))) (aa (eC (.int 1)) aA)))) aA))) aA)))) bq)))))
 (aZ (cK 6 (uy [("names",(eF (aj 4))),("binders",(eC (.int 1)))]))
 (aZ (cK 7 (aO aF (cC (aj 2) (cC (aj 6) (aC (eF (eP cy aA)) (aC (eF (eP cN (aa (eC (.int 1)) (aa (eF (aO az (cC (aj 2) (aC (eC (.int 7)) bq)))) aA)))) (aC (eF (eP cN (aa (eC (.int 1)) (aa (eF (aO az (cC (aj 2) (aC (eC (.int 4)) bq)))) aA)))) bq)))))))
 (aZ (cK 8 (aO aF (cC (aj 2) (cC (aj 6) (aC (eF (eP cy aA)) (aC (eF (eP cN (aa (eC (.int 1)) (aa (eF (aO az (cC (aj 2) (aC (eC (.int 7)) bq)))) aA)))) (aC (eF (eP cN (aa (eC (.int 1)) (aa (eF (aO az (cC (aj 2) (aC (eC (.int 4)) bq)))) aA)))) bq)))))))
 (aZ (AZ 6 (eC (.str "binders")) (eC (.int 1)))
 (aZ (cK 9 (aO aF (cC (aj 2) (cC (aj 6) (aC (eF (eP cy (aa (eC (.str "x")) aA))) (aC (eF (eP cN (aa (eC (.int 1)) (aa (eF (aO az (cC (aj 2) (aC (eC (.int 7)) bq)))) aA)))) (aC (eF (eP cN (aa (eC (.int 1)) (aa (eF (aO az (cC (aj 2) (aC (eC (.int 4)) bq)))) aA)))) bq)))))))
 (aZ (i8 (uq (vF (qB (eF (aO aM (aC (eF (aj 7)) (aC (eF (aj 8)) (aC (eF (aj 5)) bq))))))) (qB (eF (eP zD (aa (eF (aO dJ (aC (eF (aj 7)) (aC (eF (aj 5)) bq)))) (aa (eF (aO aG (aC (eF (aj 7)) (aC (eF (aj 5)) (aC (eC (.int 0)) bq))))) aA)))))) (cj (eT (eC (.bl false)))) dc)
 (nM (bName 10) (xB (eF (sS (eF (eP oN (aa (jH 5) aA))) (some (eF (eP nL (aa (eC (.int 3)) aA)))) none))) (tL br aX bC az aF aM dJ aG aJ aD))))))))))))
noncomputable def BD (br:FM) (aX:FM) (bC:FM) (az:FM) (aF:FM) (aM:FM) (dJ:FM) (aG:FM) (aJ:FM) (aD:FM):GS:=
 (aZ (nM (bName 1) (qu (aa (eF (eP cN (aa (eC (.int 1)) (aa (eF (eP AI (aa (eF (HP 0 none (some (eC (.int 2))))) aA))) aA)))) aA)) (tM br aX bC az aF aM dJ aG aJ aD))
 (cj (eT (eC (.bl true)))))
noncomputable def Y5 (br:FM) (aX:FM) (bC:FM) (az:FM) (aF:FM) (aM:FM) (dJ:FM) (aG:FM) (aJ:FM) (aD:FM):GS:=
 (cK 2 (aO br (cC (aj 0) (aC (eF (aj 1)) bq))))
noncomputable def Y6 (br:FM) (aX:FM) (bC:FM) (az:FM) (aF:FM) (aM:FM) (dJ:FM) (aG:FM) (aJ:FM) (aD:FM):GS:=
 (cK 3 (aO aX (cC (aj 2) bq)))
noncomputable def Y7 (br:FM) (aX:FM) (bC:FM) (az:FM) (aF:FM) (aM:FM) (dJ:FM) (aG:FM) (aJ:FM) (aD:FM):GS:=
 (cK 4 (eP cN (aa (eF (eP zF (aa (eF (kY [] (zy (eF (aj 3))) eZ (eF (aj 0)))) (aa (eC (.int 3)) aA)))) (aa (eF (eP ji (aa (eC (.str "strange")) aA))) aA))))
noncomputable def V2 (br:FM) (aX:FM) (bC:FM) (az:FM) (aF:FM) (aM:FM) (dJ:FM) (aG:FM) (aJ:FM) (aD:FM):GS:=
 (cK 5 (aO bC (cC (aj 2) (aC (eF (aj 3)) (aC (eF (eP xA (aa (eF (eP ji (aa (eC (.int 12)) (aa (eC (.int 60)) aA)))) (aa (eF (eP Cs (aa (eF (eP jB (aa (eF (aO az (cC (aj 2) (aC (eC (.int 16)) bq)))) (aa (eC (.int 1)) aA)))) aA))) aA)))) bq)))))
noncomputable def Y8 (br:FM) (aX:FM) (bC:FM) (az:FM) (aF:FM) (aM:FM) (dJ:FM) (aG:FM) (aJ:FM) (aD:FM):GS:=
 (cK 6 (uy [("names",(eF (aj 4))),("binders",(eC (.int 1)))]))
noncomputable def Y9 (br:FM) (aX:FM) (bC:FM) (az:FM) (aF:FM) (aM:FM) (dJ:FM) (aG:FM) (aJ:FM) (aD:FM):GS:=
 (cK 7 (aO aF (cC (aj 2) (cC (aj 6) (aC (eF (eP cy aA)) (aC (eF (eP cN (aa (eC (.int 1)) (aa (eF (aO az (cC (aj 2) (aC (eC (.int 7)) bq)))) aA)))) (aC (eF (eP cN (aa (eC (.int 1)) (aa (eF (aO az (cC (aj 2) (aC (eC (.int 4)) bq)))) aA)))) bq)))))))
noncomputable def Za (br:FM) (aX:FM) (bC:FM) (az:FM) (aF:FM) (aM:FM) (dJ:FM) (aG:FM) (aJ:FM) (aD:FM):GS:=
 (cK 8 (aO aF (cC (aj 2) (cC (aj 6) (aC (eF (eP cy aA)) (aC (eF (eP cN (aa (eC (.int 1)) (aa (eF (aO az (cC (aj 2) (aC (eC (.int 7)) bq)))) aA)))) (aC (eF (eP cN (aa (eC (.int 1)) (aa (eF (aO az (cC (aj 2) (aC (eC (.int 4)) bq)))) aA)))) bq)))))))
noncomputable def Zb (br:FM) (aX:FM) (bC:FM) (az:FM) (aF:FM) (aM:FM) (dJ:FM) (aG:FM) (aJ:FM) (aD:FM):GS:=
 (AZ 6 (eC (.str "binders")) (eC (.int 1)))
noncomputable def Zc (br:FM) (aX:FM) (bC:FM) (az:FM) (aF:FM) (aM:FM) (dJ:FM) (aG:FM) (aJ:FM) (aD:FM):GS:=
 (cK 9 (aO aF (cC (aj 2) (cC (aj 6) (aC (eF (eP cy (aa (eC (.str "x")) aA))) (aC (eF (eP cN (aa (eC (.int 1)) (aa (eF (aO az (cC (aj 2) (aC (eC (.int 7)) bq)))) aA)))) (aC (eF (eP cN (aa (eC (.int 1)) (aa (eF (aO az (cC (aj 2) (aC (eC (.int 4)) bq)))) aA)))) bq)))))))
noncomputable def Zd (br:FM) (aX:FM) (bC:FM) (az:FM) (aF:FM) (aM:FM) (dJ:FM) (aG:FM) (aJ:FM) (aD:FM):GS:=
 (i8 (uq (vF (qB (eF (aO aM (aC (eF (aj 7)) (aC (eF (aj 8)) (aC (eF (aj 5)) bq))))))) (qB (eF (eP zD (aa (eF (aO dJ (aC (eF (aj 7)) (aC (eF (aj 5)) bq)))) (aa (eF (aO aG (aC (eF (aj 7)) (aC (eF (aj 5)) (aC (eC (.int 0)) bq))))) aA)))))) (cj (eT (eC (.bl false)))) dc)
noncomputable def Ui (br:FM) (aX:FM) (bC:FM) (az:FM) (aF:FM) (aM:FM) (dJ:FM) (aG:FM) (aJ:FM) (aD:FM):GS:=
 (nM (bName 10) (xB (eF (sS (eF (eP oN (aa (jH 5) aA))) (some (eF (eP nL (aa (eC (.int 3)) aA)))) none))) (tL br aX bC az aF aM dJ aG aJ aD))
theorem Uj (br:FM) (aX:FM) (bC:FM) (az:FM) (aF:FM) (aM:FM) (dJ:FM) (aG:FM) (aJ:FM) (aD:FM):tM br aX bC az aF aM dJ aG aJ aD=aZ (Y5 br aX bC az aF aM dJ aG aJ aD) (aZ (Y6 br aX bC az aF aM dJ aG aJ aD) (aZ (Y7 br aX bC az aF aM dJ aG aJ aD) (aZ (V2 br aX bC az aF aM dJ aG aJ aD) (aZ (Y8 br aX bC az aF aM dJ aG aJ aD) (aZ (Y9 br aX bC az aF aM dJ aG aJ aD) (aZ (Za br aX bC az aF aM dJ aG aJ aD) (aZ (Zb br aX bC az aF aM dJ aG aJ aD) (aZ (Zc br aX bC az aF aM dJ aG aJ aD) (aZ (Zd br aX bC az aF aM dJ aG aJ aD) (Ui br aX bC az aF aM dJ aG aJ aD)))))))))):=rfl
theorem Ea (T:List (Str×Int)):jK T= .tup (T.map jE):=rfl
theorem J1 {ds:List D}{p:Nat}(h:p<=ds.length):L2.cutD ds (some (p:Int)) none=ds.drop p:=by
 unfold L2.cutD
 rw[HT.zc,HT.vB,Nat.min_eq_left h,List.take_of_length_le (by rw[List.length_drop];exact Nat.le_refl _)]
theorem J2 {n:Nat}{lo:Option Int}{d:D}(h:d∈L2.cutD (nK 0 n) lo none):∃i:Nat,i < n/\d= .int i:=by
 have h:=List.mem_of_mem_drop (List.mem_of_mem_take h)
 obtain⟨j,hj⟩:=List.getElem?_of_mem h
 exact⟨j,DU hj⟩
theorem Ze {j:Int}(h:j < 1000000/\-1000000 < j):oN [.int j]=some (.m (.lst (nK 0 j.toNat))):=if_pos h
theorem fLR {j:Int}{n:Nat}(e:(n:Int)=j) (h:n < 1000):oN [.int j]=some (.m (.lst (nK 0 n))):=by
 have:j.toNat=n:=by omega
 rw[Ze ⟨by omega,by omega⟩,this]
section
variable {fa ft fr fp fs fe ff fh fst fb:FM}{s0 s1 x2 x3 x4 x5 x6 x7 x8 x9 jM:Option U}{ns:List Int}
theorem Qg {k:Int}{T0:MO}(h2:qj x2=false) (e:fa [.s ns,.t (.int k)]=some (.m T0,[])):Y5 fa ft fr fp fs fe ff fh fst fb [some (.s ns),some (.t (.int k)),x2,x3,x4,x5,x6,x7,x8,x9,jM]=some (.nx [some (.s ns),some (.t (.int k)),some (.m T0),x3,x4,x5,x6,x7,x8,x9,jM]):=by
 simp[-iz,fQ,Y5,h2,e]
theorem Qh {T0 T1:MO}{td:D}(h3:qj x3=false) (e:ft [.b T0]=some (.t td,[T1])):Y6 fa ft fr fp fs fe ff fh fst fb [s0,s1,some (.m T0),x3,x4,x5,x6,x7,x8,x9,jM]=some (.nx [s0,s1,some (.m T1),some (.t td),x4,x5,x6,x7,x8,x9,jM]):=by
 simp[-iz,fQ,Y6,h3,e]
theorem Qi {T0:MO}{T:List (Str×Int)}(h4:qj x4=false) (hl:T.length<=10):Y7 fa ft fr fp fs fe ff fh fst fb [s0,s1,some (.m T0),some (.t (jK T)),x4,x5,x6,x7,x8,x9,jM]=some (.nx [s0,s1,some (.m T0),some (.t (jK T)),some (.m (.lst (qZ (mw T)))),x5,x6,x7,x8,x9,jM]):=by
 have ec:=fun S=>JN T S
 have h1:(T.map jE).length<=100000:=by rw[List.length_map];omega
 have e0:∀S:SS,S[3]? =some (some (.t (.tup (T.map jE))))->zy (eF (aj 3)) S=some (T.map jE,S):=fun S h=>by simp[zy,h]
 have fl:=JP T
 have h2:((T.map (·.1)).map D.str).length=T.length:=by rw[List.length_map,List.length_map]
 generalize (T.map (·.1)).map D.str=L at *
 have h3:L.length * 3<=100000:=by omega
 have h4':(List.replicate 3 L).flatten.length+1<=100000:=by simp[List.length_flatten];omega
 have hrep:zF [.lst L,.int 3]=some (.m (.lst (List.replicate 3 L).flatten)):=by rw[IG,if_pos ⟨by decide,by decide,h3⟩];rfl
 generalize (List.replicate 3 L).flatten=L3 at *
 rw[Ea]
 generalize qZ (mw T)=N at *
 simp[-iz,fQ,-IG,-List.length_map,Y7,h4,e0,h1,ec,hrep,h4',fl]
theorem Qj {T0 T1 T2:MO}{td rd:D}{v mo:Int}(h5:qj x5=false) (hm:mo=if v=1 then 60 else 12) (e1:fp [.b T0,.t (.int 16)]=some (.t (.int v),[T1])) (e2:fr [.b T1,.t td,.t (.int mo)]=some (.t rd,[T2])):V2 fa ft fr fp fs fe ff fh fst fb [s0,s1,some (.m T0),some (.t td),x4,x5,x6,x7,x8,x9,jM]=some (.nx [s0,s1,some (.m T2),some (.t td),x4,some (.t rd),x6,x7,x8,x9,jM]):=by
 have i0:∀x y:D,gD [x,y] 0=some x:=fun _ _=>rfl
 have i1:∀x y:D,gD [x,y] 1=some y:=fun _ _=>rfl
 subst hm
 by_cases c:v=1
 ·subst c
  simp at e2
  simp[-iz,fQ,V2,h5,e1,i1,Cs,e2]
 ·simp only[if_neg c] at e2
  simp[-iz,fQ,V2,h5,e1,i0,Cs,c,e2]
theorem w_1 (N:List D):oH [] [((.inr "names":Key),D.lst N),(.inr "binders",.int 1)]=[(.inr "names",.lst N),(.inr "binders",.int 1)]:=rfl
theorem Qk {N:List D}(h6:qj x6=false):Y8 fa ft fr fp fs fe ff fh fst fb [s0,s1,x2,x3,some (.m (.lst N)),x5,x6,x7,x8,x9,jM]=some (.nx [s0,s1,x2,x3,some (.t (.lst N)),x5,some (.m (.dct [(.inr "names",.lst N),(.inr "binders",.int 1)])),x7,x8,x9,jM]):=by
 have w:=w_1 N
 simp[-iz,fQ,Y8,h6,w]
theorem Ql {T0 T1 T2 T3 W0 W1:MO}{d:D}{v w:Int}(h7:qj x7=false) (e1:fp [.b T0,.t (.int 7)]=some (.t (.int v),[T1])) (e2:fp [.b T1,.t (.int 4)]=some (.t (.int w),[T2])) (e3:fs [.b T2,.b W0,.t (.tup []),.t (.int (1+v)),.t (.int (1+w))]=some (.t d,[T3,W1])):
  Y9 fa ft fr fp fs fe ff fh fst fb [s0,s1,some (.m T0),x3,x4,x5,some (.m W0),x7,x8,x9,jM]=some (.nx [s0,s1,some (.m T3),x3,x4,x5,some (.m W1),some (.t d),x8,x9,jM]):=by
 simp[-iz,fQ,Y9,h7,e1,e2,e3]
theorem Qm {T0 T1 T2 T3 W0 W1:MO}{d:D}{v w:Int}(h8:qj x8=false) (e1:fp [.b T0,.t (.int 7)]=some (.t (.int v),[T1])) (e2:fp [.b T1,.t (.int 4)]=some (.t (.int w),[T2])) (e3:fs [.b T2,.b W0,.t (.tup []),.t (.int (1+v)),.t (.int (1+w))]=some (.t d,[T3,W1])):
  Za fa ft fr fp fs fe ff fh fst fb [s0,s1,some (.m T0),x3,x4,x5,some (.m W0),x7,x8,x9,jM]=some (.nx [s0,s1,some (.m T3),x3,x4,x5,some (.m W1),x7,some (.t d),x9,jM]):=by
 simp[-iz,fQ,Za,h8,e1,e2,e3]
theorem Qn {kvs:List (Key×D)}(hl:kvs.length < 100000):Zb fa ft fr fp fs fe ff fh fst fb [s0,s1,x2,x3,x4,x5,some (.m (.dct kvs)),x7,x8,x9,jM]=some (.nx [s0,s1,x2,x3,x4,x5,some (.m (.dct (putD kvs (.inr "binders") (.int 1)))),x7,x8,x9,jM]):=by
 simp[-iz,fQ,Zb,hl]
theorem Qo {T0 T1 T2 T3 W0 W1:MO}{d:D}{v w:Int}(h9:qj x9=false) (e1:fp [.b T0,.t (.int 7)]=some (.t (.int v),[T1])) (e2:fp [.b T1,.t (.int 4)]=some (.t (.int w),[T2])) (e3:fs [.b T2,.b W0,.t (.tup [.str "x"]),.t (.int (1+v)),.t (.int (1+w))]=some (.t d,[T3,W1])):
  Zc fa ft fr fp fs fe ff fh fst fb [s0,s1,some (.m T0),x3,x4,x5,some (.m W0),x7,x8,x9,jM]=some (.nx [s0,s1,some (.m T3),x3,x4,x5,some (.m W1),x7,x8,some (.t d),jM]):=by
 simp[-iz,fQ,Zc,h9,e1,e2,e3]
theorem Qp {s r rd:D}{b:Bool}(e1:fe [.t s,.t r,.t rd]=some (.t (.bl true),[])) (e2:ff [.t s,.t rd]=some (.t (.bl b),[])) (e3:fh [.t s,.t rd,.t (.int 0)]=some (.t (.bl b),[])):
  Zd fa ft fr fp fs fe ff fh fst fb [s0,s1,x2,x3,x4,some (.t rd),x6,some (.t s),some (.t r),x9,jM]=some (.nx [s0,s1,x2,x3,x4,some (.t rd),x6,some (.t s),some (.t r),x9,jM]):=by
 have z:=wJ b
 simp[-Bb,Zd,e1,e2,e3,z]
theorem MG {s r t:D}{rs N:List D}{k m:Int}{x a:Str}{b:Bool}{L':List D}(hk:gD rs k=some (.tup [.str x,.int m])) (hN:gD N 0=some (.str a))
  (e1:fst [.t s,.t r,.t (.tup rs),.t (.int k)]=some (.t (.bl true),[])) (e2:fb [.t t,.t (.tup rs),.t (.int k),.t (.str x)]=some (.t (.bl true),[])) (e3:fb [.t t,.t (.tup rs),.t (.int k),.t (.str a)]=some (.t (.bl true),[]))
  (e4:fh [.t s,.t (.tup rs),.t (.int k)]=some (.t (.bl b),[])) (ec:L2.cutD rs (some k) none=L') (e5:ff [.t s,.t (.tup L')]=some (.t (.bl b),[])):
  tL fa ft fr fp fs fe ff fh fst fb [s0,s1,x2,x3,some (.t (.lst N)),some (.t (.tup rs)),x6,some (.t s),some (.t r),some (.t t),some (.t (.int k))]=some (.nx [s0,s1,x2,x3,some (.t (.lst N)),some (.t (.tup rs)),x6,some (.t s),some (.t r),some (.t t),some (.t (.int k))]):=by
 have z:=wJ b
 simp[-Bb,tL,hk,hN,d7,fR,e1,e2,e3,e4,sS,g9,ec,e5,z]
theorem MH {s r t:D}{R:Sh.Row}{N:List D}{a:Str}{b:Nat->Bool}(hl:R.length < 1000) (h10:qj jM=false) (hN:gD N 0=some (.str a)) (H:∀(i:Nat) (x:Str) (m:Int),R[i]? =some (x,m)->
   fst [.t s,.t r,.t (.tup (R.map jE)),.t (.int i)]=some (.t (.bl true),[])/\fb [.t t,.t (.tup (R.map jE)),.t (.int i),.t (.str x)]=some (.t (.bl true),[])/\fb [.t t,.t (.tup (R.map jE)),.t (.int i),.t (.str a)]=some (.t (.bl true),[])/\
   fh [.t s,.t (.tup (R.map jE)),.t (.int i)]=some (.t (.bl (b i)),[])/\ff [.t s,.t (.tup ((R.map jE).drop i))]=some (.t (.bl (b i)),[])):
  ∃y,qj y=false/\Ui fa ft fr fp fs fe ff fh fst fb [s0,s1,x2,x3,some (.t (.lst N)),some (.t (.tup (R.map jE))),x6,some (.t s),some (.t r),some (.t t),jM]=some (.nx [s0,s1,x2,x3,some (.t (.lst N)),some (.t (.tup (R.map jE))),x6,some (.t s),some (.t r),some (.t t),y]):=by
 obtain⟨S',e,y,hy,rfl⟩:=oV (bd:=bName 10) (body:=tL fa ft fr fp fs fe ff fh fst fb) (L2.cutD (nK 0 R.length) (some (-3)) none)
  (fun _ S=>∃y,qj y=false/\S=[s0,s1,x2,x3,some (.t (.lst N)),some (.t (.tup (R.map jE))),x6,some (.t s),some (.t r),some (.t t),y]) _ ⟨jM,h10,rfl⟩ (by
   rintro j d S hd ⟨y,hy,rfl⟩
   obtain⟨i,hi,rfl⟩:=J2 (List.mem_of_getElem? hd)
   obtain⟨⟨x,m⟩,hx⟩:∃p,R[i]? =some p:=⟨_,List.getElem?_eq_getElem hi⟩
   obtain⟨e1,e2,e3,e4,e5⟩:=H i x m hx
   have ak:gD (R.map jE) (i:Int)=some (.tup [.str x,.int m]):=Sq.sZ (by omega) (by rw[Int.toNat_natCast,List.getElem?_map,hx];rfl)
   refine⟨_,_,?_,MG ak hN e1 e2 e3 e4 (J1 (by rw[List.length_map];omega)) e5,some (.t (.int i)),rfl,rfl⟩
   generalize ((i:Nat):Int)=ii
   simp[-iz,fQ,hy])
 refine⟨y,hy,?_⟩
 obtain⟨j,hj⟩:∃j:Int,(R.length:Int)=j:=⟨_,rfl⟩
 have lr:=fLR hj hl
 have ln:((R.map jE).length:Int)=j:=by rw[List.length_map];exact hj
 generalize R.map jE=rs at *
 generalize nK 0 R.length=L at *
 have a1:(aa (jH 5) aA) [s0,s1,x2,x3,some (.t (.lst N)),some (.t (.tup rs)),x6,some (.t s),some (.t r),some (.t t),jM]=some ([.int j],[s0,s1,x2,x3,some (.t (.lst N)),some (.t (.tup rs)),x6,some (.t s),some (.t r),some (.t t),jM]):=by simp[ln]
 have a2:eF (eP oN (aa (jH 5) aA)) [s0,s1,x2,x3,some (.t (.lst N)),some (.t (.tup rs)),x6,some (.t s),some (.t r),some (.t t),jM]=some (.lst L,[s0,s1,x2,x3,some (.t (.lst N)),some (.t (.tup rs)),x6,some (.t s),some (.t r),some (.t t),jM]):=by
  generalize aa (jH 5) aA=g at *
  simp[a1,lr]
 show nM _ _ _ _=_
 generalize eF (eP oN (aa (jH 5) aA))=g at *
 generalize tL fa ft fr fp fs fe ff fh fst fb=W at *
 simp[qN,sS,g9,a2,e]
end
theorem Uk {deep room bin:Nat}{bs:List Str}{d:D}(h:Dr deep bs room bin d) (h1:deep<=4) (h2:room<=7):Sz 4 bs 7 bin d:=by
 have a:=h.sz
 have b:=h.bn
 unfold rQ at a
 unfold zV at b
 exact Sz.up ⟨Sy.of h.fm,by omega,by omega⟩ h1
theorem z9 {nms:List Str} [hn:CJ nms] {t:dG}{bs:List Str}{b:Nat}(h0:0<=t.n) (h1:t.n < 600000) (hb:b<=3) (hs:∀z∈bs,z.length<=8) (hl:bs.length<=5):
  ∃(v w:Int) (ta tb tc:dG) (d:D) (bin:Nat),cS [.b (tp t),.t (.int 7)]=some (.t (.int v),[tp ta])/\cS [.b (tp ta),.t (.int 4)]=some (.t (.int w),[tp tb])/\lT 17 [.b (tp tb),.b (.dct (Bs nms b)),.t (.tup (bs.map D.str)),.t (.int (1+v)),.t (.int (1+w))]=some (.t d,[tp tc,.dct (Bs nms ((b+bin:Nat):Int))])/\
   Sz 4 bs 7 bin d/\b+bin<=3/\0<=tc.n/\tc.n<=t.n+100:=by
 have p1:=gJ (t:=t) (m:=7) (by omega) (by omega) (by omega) (by omega)
 obtain⟨v0,v1⟩:=bB (t:=t) (m:=7) (by omega)
 have VW:(bg t 7).n=t.n+1:=fP t 7
 generalize bz t 7=v at *
 generalize bg t 7=ta at *
 have p2:=gJ (t:=ta) (m:=4) (by omega) (by omega) (by omega) (by omega)
 obtain⟨w0,w1⟩:=bB (t:=ta) (m:=4) (by omega)
 have Rg:(bg ta 4).n=ta.n+1:=fP ta 4
 generalize bz ta 4=w at *
 generalize bg ta 4=tb at *
 obtain⟨d,tc,bin,g1,g2,g3,g4,g5⟩:=PB (nms:=nms) (1+w).toNat (by omega) 17 (1+v).toNat (by omega) (by omega) (by omega) tb bs b (by omega) (by omega) (by omega) hs hb
 have er:(((1+v).toNat:Nat):Int)=1+v:=by omega
 have ed:(((1+w).toNat:Nat):Int)=1+w:=by omega
 rw[er,ed] at g1
 exact⟨v,w,ta,tb,tc,d,bin,p1,p2,g1,Uk g2 (by omega) (by omega),g3,by omega,by omega⟩
noncomputable abbrev Ul (g:FM->FM->FM->FM->FM->FM->FM->FM->FM->FM->GS):GS:=g jD gX nN cS (lT 17) qm jr dZ ki kj
noncomputable def Zf (ns:List Int) (S:SS):Prop:=∃x1 x2 x3 x4 x5 x6 x7 x8 x9 jM,qj x1=false/\qj x2=false/\qj x3=false/\qj x4=false/\qj x5=false/\qj x6=false/\qj x7=false/\qj x8=false/\qj x9=false/\qj jM=false/\S=[some (.s ns),x1,x2,x3,x4,x5,x6,x7,x8,x9,jM]
theorem J3 {T:List (Str×Int)}(h:qy T) (hT:∀q∈T,Rh q):∃a,gD (qZ (mw T)) 0=some (.str a)/\nameB (.str a)=true:=by
 haveI:=CO hT h.len
 obtain⟨z,e,n,_⟩:=IL (nms:=mw T) (i:=0) (by omega) (by have:=(CO hT h.len).pos;omega)
 exact⟨z,e,n⟩
theorem Qq {ns:List Int}{k:Int}{S:SS}(hk:0<=k) (hk2:k < 1000) (hns:ns.length < 1000) (h:Zf ns S):∃S1 S2,bName 1 (.int k) S=some S1/\Ul tM S1=some (.nx S2)/\Zf ns S2:=by
 obtain⟨x1,x2,x3,x4,x5,x6,x7,x8,x9,jM,h1,h2,h3,h4,h5,h6,h7,h8,h9,h10,rfl⟩:=h
 have e0:=JK (ns:=ns) (k:=k) hk (by omega) (by omega)
 generalize ht0:Bd ns k=t0 at e0
 have n0:t0.n=0:=by rw[<-ht0];rfl
 have e1:=FD (t:=t0) (by omega) (by omega)
 have F:=Bl t0
 have W:=Mp t0
 obtain⟨st,hst⟩:∃s,iB t0=s:=⟨_,rfl⟩
 rw[hst] at e1 F W
 obtain⟨f1,f2,f3,f4,f5,f6⟩:=F
 have hn:CJ (mw st.tab):=CO W (by omega)
 have p1:=gJ (t:=st.t) (m:=16) (by omega) (by omega) (by omega) (by omega)
 have VW:(bg st.t 16).n=st.t.n+1:=fP st.t 16
 generalize bz st.t 16=v at *
 generalize bg st.t 16=ta at *
 obtain⟨mo,hmo⟩:∃mo:Int,mo=if v=1 then 60 else 12:=⟨_,rfl⟩
 have m0:0<=mo/\mo<=60:=by rw[hmo];split <;> omega
 have e2:=Mn (t:=ta) (T:=st.tab) (most:=mo) f2 m0.1 (by omega) (by omega) (by omega)
 have G:=E9 f2 f3 ta (most:=mo) m0.1
 have Zg:=Mq f2 ta mo
 generalize sW ta st.tab mo=rr at e2 G Zg
 obtain⟨R,tb⟩:=rr
 dsimp only at e2 G Zg
 obtain⟨_,g2,g3,g4⟩:=G
 have hR:z8 R:=⟨by omega,fun p hp=>YS W (Zg p hp)⟩
 rw[Ea R] at e2
 obtain⟨v5,w5,ta5,tb5,t5,s,b5,q51,q52,q53,zs,c5,k5,l5⟩:=z9 (nms:=mw st.tab) (t:=tb) (bs:=[]) (b:=1) (by omega) (by omega) (by omega) (fun z hz=>by cases hz) (by simp)
 obtain⟨v6,w6,ta6,tb6,t6,r,b6,q61,q62,q63,zr,c6,k6,l6⟩:=z9 (nms:=mw st.tab) (t:=t5) (bs:=[]) (b:=1+b5) k5 (by omega) c5 (fun z hz=>by cases hz) (by simp)
 obtain⟨v8,w8,ta8,tb8,t8,t,b8,q81,q82,q83,zt,c8,k8,l8⟩:=z9 (nms:=mw st.tab) (t:=t6) (bs:=["x"]) (b:=1) k6 (by omega) (by omega) (fun z hz=>by rw[List.mem_singleton.mp hz];decide) (by simp)
 obtain⟨a,ha,na⟩:=J3 f2 W
 have a0:=Qg (fa:=jD) (ft:=gX) (fr:=nN) (fp:=cS) (fs:=lT 17) (fe:=qm) (ff:=jr) (fh:=dZ) (fst:=ki) (fb:=kj) (x3:=x3) (x4:=x4) (x5:=x5) (x6:=x6) (x7:=x7) (x8:=x8) (x9:=x9) (jM:=jM) h2 e0
 have a1:=Qh (fa:=jD) (ft:=gX) (fr:=nN) (fp:=cS) (fs:=lT 17) (fe:=qm) (ff:=jr) (fh:=dZ) (fst:=ki) (fb:=kj) (s0:=some (.s ns)) (s1:=some (.t (.int k))) (x4:=x4) (x5:=x5) (x6:=x6) (x7:=x7) (x8:=x8) (x9:=x9) (jM:=jM) h3 e1
 have a2:=Qi (fa:=jD) (ft:=gX) (fr:=nN) (fp:=cS) (fs:=lT 17) (fe:=qm) (ff:=jr) (fh:=dZ) (fst:=ki) (fb:=kj) (s0:=some (.s ns)) (s1:=some (.t (.int k))) (T0:=tp st.t) (x5:=x5) (x6:=x6) (x7:=x7) (x8:=x8) (x9:=x9) (jM:=jM) (T:=st.tab) h4 (by omega)
 generalize mw st.tab=N at *
 have a3:=Qj (fa:=jD) (ft:=gX) (fr:=nN) (fp:=cS) (fs:=lT 17) (fe:=qm) (ff:=jr) (fh:=dZ) (fst:=ki) (fb:=kj) (s0:=some (.s ns)) (s1:=some (.t (.int k))) (x4:=some (.m (.lst (qZ N)))) (x6:=x6) (x7:=x7) (x8:=x8) (x9:=x9) (jM:=jM) h5 hmo p1 e2
 have a4:=Qk (fa:=jD) (ft:=gX) (fr:=nN) (fp:=cS) (fs:=lT 17) (fe:=qm) (ff:=jr) (fh:=dZ) (fst:=ki) (fb:=kj) (s0:=some (.s ns)) (s1:=some (.t (.int k))) (x2:=some (.m (tp tb))) (x3:=some (.t (jK st.tab))) (N:=qZ N) (x5:=some (.t (.tup (R.map jE)))) (x7:=x7) (x8:=x8) (x9:=x9) (jM:=jM) h6
 have a5:=Ql (fa:=jD) (ft:=gX) (fr:=nN) (fp:=cS) (fs:=lT 17) (fe:=qm) (ff:=jr) (fh:=dZ) (fst:=ki) (fb:=kj) (s0:=some (.s ns)) (s1:=some (.t (.int k))) (x3:=some (.t (jK st.tab))) (x4:=some (.t (.lst (qZ N)))) (x5:=some (.t (.tup (R.map jE)))) (x8:=x8) (x9:=x9) (jM:=jM) h7 q51 q52 q53
 have a6:=Qm (fa:=jD) (ft:=gX) (fr:=nN) (fp:=cS) (fs:=lT 17) (fe:=qm) (ff:=jr) (fh:=dZ) (fst:=ki) (fb:=kj) (s0:=some (.s ns)) (s1:=some (.t (.int k))) (x3:=some (.t (jK st.tab))) (x4:=some (.t (.lst (qZ N)))) (x5:=some (.t (.tup (R.map jE)))) (x7:=some (.t s)) (x9:=x9) (jM:=jM) h8 q61 q62 q63
 have a7:=Qn (fa:=jD) (ft:=gX) (fr:=nN) (fp:=cS) (fs:=lT 17) (fe:=qm) (ff:=jr) (fh:=dZ) (fst:=ki) (fb:=kj) (s0:=some (.s ns)) (s1:=some (.t (.int k))) (x2:=some (.m (tp t6))) (x3:=some (.t (jK st.tab))) (x4:=some (.t (.lst (qZ N)))) (x5:=some (.t (.tup (R.map jE)))) (x7:=some (.t s)) (x8:=some (.t r)) (x9:=x9) (jM:=jM) (kvs:=Bs N ((1+b5+b6:Nat):Int)) (by show 2 < 100000;omega)
 rw[Np] at a7
 have a8:=Qo (fa:=jD) (ft:=gX) (fr:=nN) (fp:=cS) (fs:=lT 17) (fe:=qm) (ff:=jr) (fh:=dZ) (fst:=ki) (fb:=kj) (s0:=some (.s ns)) (s1:=some (.t (.int k))) (x3:=some (.t (jK st.tab))) (x4:=some (.t (.lst (qZ N)))) (x5:=some (.t (.tup (R.map jE)))) (x7:=some (.t s)) (x8:=some (.t r)) (jM:=jM) h9 q81 q82 q83
 have a9:=Qp (fa:=jD) (ft:=gX) (fr:=nN) (fp:=cS) (fs:=lT 17) (fe:=qm) (ff:=jr) (fh:=dZ) (fst:=ki) (fb:=kj) (s0:=some (.s ns)) (s1:=some (.t (.int k))) (x2:=some (.m (tp t8))) (x3:=some (.t (jK st.tab))) (x4:=some (.t (.lst (qZ N)))) (x6:=some (.m (.dct (Bs N ((1+b8:Nat):Int))))) (x9:=some (.t t)) (jM:=jM) (ME hR zs zr (by omega)) (Qe hR zs (by omega)) (ju hR zs (by omega) (by omega) (by omega) (Nat.zero_le _))
 obtain⟨y,hy,a10⟩:=MH (fa:=jD) (ft:=gX) (fr:=nN) (fp:=cS) (fs:=lT 17) (fe:=qm) (ff:=jr) (fh:=dZ) (fst:=ki) (fb:=kj) (s0:=some (.s ns)) (s1:=some (.t (.int k))) (x2:=some (.m (tp t8))) (x3:=some (.t (jK st.tab))) (x6:=some (.m (.dct (Bs N ((1+b8:Nat):Int))))) (jM:=jM) (s:=s) (r:=r) (t:=t) (R:=R) (b:=fun i=>ev R lZ s i) (by have:=hR.len;omega) h10 ha (fun i x m hx=>by
  have hi:i < R.length:=(List.getElem?_eq_some_iff.mp hx).1
  exact⟨J0 hR zs zr (by omega) hi,BC hR zt (by omega) (uF _ (hR.wk _ (List.mem_of_getElem? hx)).nm).1 hx,BC hR zt (by omega) na hx,ju hR zs (by omega) (by omega) (by omega) (by omega),MF hR zs (by omega) (by omega)⟩)
 refine⟨[some (.s ns),some (.t (.int k)),x2,x3,x4,x5,x6,x7,x8,x9,jM],_,by simp[-iz,fQ,h1],?_,some (.t (.int k)),some (.m (tp t8)),some (.t (jK st.tab)),some (.t (.lst (qZ N))),some (.t (.tup (R.map jE))),some (.m (.dct (Bs N ((1+b8:Nat):Int)))),some (.t s),some (.t r),some (.t t),y,rfl,rfl,rfl,rfl,rfl,rfl,rfl,rfl,rfl,hy,rfl⟩
 show tM _ _ _ _ _ _ _ _ _ _ _=_
 rw[Uj]
 exact(gj a0).trans ((gj a1).trans ((gj a2).trans ((gj a3).trans ((gj a4).trans ((gj a5).trans ((gj a6).trans ((gj a7).trans ((gj a8).trans ((gj a9).trans a10)))))))))
theorem J4 (ns:List Int) (lo hi:Option Int):(vX ns lo hi).length<=ns.length:=by
 unfold vX
 rw[List.length_take,List.length_drop]
 omega
theorem Qs (i:Nat) (lo hi:Option GD) (S:SS):HP i lo hi S=match S[i]? with | some (some (.s ns))=>(g9 lo S).bind fun l=>(g9 hi l.2).map fun h=>(.m (.lst ((vX ns l.1 h.1).map D.int)),h.2) | _=>none:=rfl
theorem J5 {ns:List Int}{c:Int}{r:SS}:(aa (eF (eP cN (aa (eC (.int 1)) (aa (eF (eP AI (aa (eF (HP 0 none (some (eC (.int c))))) aA))) aA)))) aA) (some (.s ns) :: r)=some ([.int ((1+(vX ns none (some c)).length:Nat):Int)],some (.s ns) :: r):=by
 simp[Qs,g9]
theorem FJ:∀us r,CH 63 us=some r->aW 11 (Ul BD) us=some r:=by
 intro us r h
 unfold CH at h
 split at h
 ·rename_i ns
  obtain⟨hl,rfl⟩:=cV h
  have cl:=J4 ns none (some 2)
  have eg:=Sq.yG (J5 (ns:=ns) (c:=2) (r:=[none,none,none,none,none,none,none,none,none,none])) (by omega) (by omega)
  rw[Int.toNat_natCast] at eg
  obtain⟨S',e,jS⟩:=oV (bd:=bName 1) (body:=Ul tM) (nK 0 (1+(vX ns none (some 2)).length)) (fun _ S=>Zf ns S) [some (.s ns),none,none,none,none,none,none,none,none,none,none] ⟨none,none,none,none,none,none,none,none,none,none,rfl,rfl,rfl,rfl,rfl,rfl,rfl,rfl,rfl,rfl,rfl⟩ (fun j d S hd hJ=>by
   obtain⟨hj,rfl⟩:=DU hd
   exact Qq (by omega) (by omega) (by omega) hJ)
  show((Ul BD) [some (.s ns),none,none,none,none,none,none,none,none,none,none]).bind _=_
  unfold Ul BD
  rw[O7,Ir,eg]
  simp only[Option.bind_some]
  have e:loop (bName 1) (tM jD gX nN cS (lT 17) qm jr dZ ki kj) (nK 0 (1+(vX ns none (some 2)).length)) [some (.s ns),none,none,none,none,none,none,none,none,none,none]=some (.nx S'):=e
  rw[e]
  obtain⟨x1,x2,x3,x4,x5,x6,x7,x8,x9,jM,_,_,_,_,_,_,_,_,_,_,rfl⟩:=jS
  simp[aT]
 ·cases h
end Sj
end
section
namespace K09
open PySem PySem.Spec PyProof.Rows L2
def top (i:Nat):Stmt:=PySem.Challenge.pw_surewatch_k09_whole_meaning_of_heads.main.body.getD i (.Pass ⟨0,0,0,0⟩)
open L2 Sw Ss Sn Sp Sh Sj
noncomputable abbrev mX:Stmt:=top 1
theorem yP:cA ["test","happening","head"] ["test","happening"] (aP mX):=⟨rfl,rfl,rfl,by decide +kernel,rfl,by decide +kernel,by decide +kernel⟩
theorem FL {P:Program}{w:World}{K:PySem.W.Frag}{mg:Str->Option Value}{base:Heap}{f:Addr}{fd:FuncData}{n:Nat}{fm:FM}(F:qq K "passes" "passes" mX f fd)
  (hf:∀us r,fm us=some r->aW 3 (iS) us=some r):bZ P w K mg base gn (n+1) f fd ["test","happening"] (spT K 2 fm):=
 uu (g:=iS) F yP (fun cdv A outer s H E hr=>(aK (bQ (i:=2) yP.nd rfl (by first | exact Or.inl rfl | exact Or.inr rfl) (JD.e (bR (i:=0) (cg hr) aB (fun _ _=>rfl))))
  (aK (cW (bV (cG hr.units) (JE.d (ah 2)) aQ) (bf (bA (JD.e iu))) cu)
  (aK (cW (bV (cG hr.units) (JE.d (ah 2)) aQ) (bf (bA (iV (cG hr.units) (bR (i:=1) (cg hr) aB (fun _ _=>rfl)) (bR (i:=0) (cg hr) aB (fun _ _=>rfl))))) cu)
  (aK (cW (bV (cG hr.units) (JE.d (ah 2)) aQ) (bf (bA (iV sO (bR (i:=1) (cg hr) aB (fun _ _=>rfl)) (bR (i:=0) (cg hr) aB (fun _ _=>rfl))))) cu)
  (aK (cW (bV (cG hr.units) (JE.d (ah 2)) aQ) (bf (bA (iV (cG hr.units) (bR (i:=1) (cg hr) aB (fun _ _=>rfl)) (bR (i:=0) (cg hr) aB (fun _ _=>rfl))))) cu)
  (bf (bA (iV vL (bR (i:=1) (cg hr) aB (fun _ _=>rfl)) (bR (i:=0) (cg hr) aB (fun _ _=>rfl))))))))))) hf
noncomputable abbrev jN:Stmt:=top 5
theorem BE:cA ["saying"] ["saying"] (aP jN):=⟨rfl,rfl,rfl,by decide +kernel,rfl,by decide +kernel,by decide +kernel⟩
theorem BF {P:Program}{w:World}{K:PySem.W.Frag}{mg:Str->Option Value}{base:Heap}{f:Addr}{fd:FuncData}{n:Nat}{fm:FM}(F:qq K "parts_of" "parts_of" jN f fd){kG:Addr}(qc:mg "STARTS" =some (.ref kG)) (qd:KTab P w K kG [("yes",1),("no",1),("now",2),("not",1),("both",1),("either",1),("next",1),("till",1),("within",2),("always",1),("some",1),("each",3),("one",3)])
  (hf:∀us r,fm us=some r->aW 1 (lu) us=some r):bZ P w K mg base gn (n+1) f fd ["saying"] (spT K 1 fm):=
 uu (g:=lu) F BE (fun cdv A outer s H E hr=>(bf (bA (iw (JE.d (ah 0)) (iH (Ie rfl qc qd (bR (i:=0) (cg hr) aB (fun _ _=>rfl)))) jm)))) hf
noncomputable abbrev gB:Stmt:=top 6
theorem uO:cA ["test"] ["test"] (aP gB):=⟨rfl,rfl,rfl,by decide +kernel,rfl,by decide +kernel,by decide +kernel⟩
theorem uP {P:Program}{w:World}{K:PySem.W.Frag}{mg:Str->Option Value}{base:Heap}{f:Addr}{fd:FuncData}{n:Nat}{fm:FM}(F:qq K "has_variable" "has_variable" gB f fd) (gY:mg "len" =none) (o8:mg "isinstance" =none) (Qt:mg "str" =none)
  (hf:∀us r,fm us=some r->aW 1 (dP) us=some r):bZ P w K mg base gn (n+1) f fd ["test"] (spT K 1 fm):=
 uu (g:=dP) F uO (fun cdv A outer s H E hr=>(bf (bA (JD.e (m9 (JE.d (iV (cG hr.units) (jk (i:=0) rfl gY) aB)) (m9 (JE.d (iV (kW hr.units) (bR (i:=0) (cg hr) aB (fun _ _=>rfl)) aQ)) (iW (EL rfl o8 rfl Qt PyProof.Rows.Boot.str (bR (i:=0) (cg hr) aB (fun _ _=>rfl)))))))))) hf
noncomputable abbrev iK:Stmt:=top 7
theorem CQ:cA ["saying","x","k"] ["saying","x","k"] (aP iK):=⟨rfl,rfl,rfl,by decide +kernel,rfl,by decide +kernel,by decide +kernel⟩
theorem CS {P:Program}{w:World}{K:PySem.W.Frag}{mg:Str->Option Value}{base:Heap}{f:Addr}{fd:FuncData}{n:Nat}{fm:FM}(F:qq K "put_for" "put_for" iK f fd) (CT:mg "tuple" =none){o9:Addr}(wK:mg "BINDERS" =some (.ref o9)) (wL:Ig K o9 ["each","one"]){kG:Addr}(qc:mg "STARTS" =some (.ref kG)) (qd:KTab P w K kG [("yes",1),("no",1),("now",2),("not",1),("both",1),("either",1),("next",1),("till",1),("within",2),("always",1),("some",1),("each",3),("one",3)])
  {mH:Addr}{qE:FuncData}{iR:FM}(xG:bZ P w K mg base gn n mH qE ["test"] (spT K 1 iR)) (xH:Binds K qE ["test"] []) (xJ:PySem.W.keepIn K (.ref mH)=true) (xK:mg "has_variable" =some (.ref mH))
  {tN:Addr}{yQ:FuncData}{mS:FM}(FO:bZ P w K mg base gn n tN yQ ["saying"] (spT K 1 mS)) (FP:Binds K yQ ["saying"] []) (FQ:PySem.W.keepIn K (.ref tN)=true) (FT:mg "parts_of" =some (.ref tN))
  {iD:Addr}{j6:FuncData}{dB:FM}(pe:bZ P w K mg base gn n iD j6 ["saying","x","k"] (spT K 3 dB)) (pg:Binds K j6 ["saying","x","k"] []) (pq:PySem.W.keepIn K (.ref iD)=true) (pA:mg "put_for" =some (.ref iD))
  (hf:∀us r,fm us=some r->aW 3 (dH iR mS dB) us=some r):bZ P w K mg base gn (n+1) f fd ["saying","x","k"] (spT K 3 fm):=
 uu (g:=dH iR mS dB) F CQ (fun cdv A outer s H E hr=>(aK (cW (bV (cG hr.units) (bR (i:=0) (cg hr) aB (fun _ _=>rfl)) aQ) (aK (cW (JW.t (vH (vG (JE.d (aL xG hr rfl xK xJ xH (au (bR (i:=0) (cg hr) aB (fun _ _=>rfl)) aU)))) (kP (bV (cG hr.units) (JE.d (kh qh (bR (i:=0) (cg hr) aB (fun _ _=>rfl)) aB (fun _ _=>rfl))) (JE.d (ah 1)))))) (bf (bA (bM (ao aQ (ao (JE.d (bM (ao (JE.d (kh qh (bR (i:=0) (cg hr) aB (fun _ _=>rfl)) aB (fun _ _=>rfl))) (ao (JE.d (ah 2)) aV)))) aV))))) cu)
  (bf (bA (ah 0)))) cu)
  (aK (cW (JW.t (vH (O2 hr.units rfl wK wL (bR (i:=0) (cg hr) aB (fun _ _=>rfl))) (kP (bV (cG hr.units) (bR (i:=0) (cg hr) aB (fun _ _=>rfl)) (JE.d (ah 1)))))) (bf (bA (ah 0))) cu)
  (bf (bA (bJ bY (JE.d (iw (JE.d (ah 0)) jm (iH (Ie rfl qc qd (bR (i:=0) (cg hr) aB (fun _ _=>rfl)))))) (JE.d (yg AV rfl CT PyProof.Rows.Boot.tuple (ao (JE.d (vd (vY (cJ:=["k","x"]) (cap:=[2,1]) rfl (by decide) rfl (by decide) rfl rfl (by decide) (by first | exact Or.inl rfl | exact Or.inr rfl) (by decide) rfl rfl rfl) rfl (vM (JE.d (aL FO hr rfl FT FQ FP (au (JE.d (ah 0)) aU)))) (fun _ _ _ _=>nh) (fun _ _ _ _=>(JE.d (aL pe hr rfl pA pq pg (au (JE.d (ah 0)) (au (JE.d (ah 2)) (au (JE.d (ah 1)) aU)))))))) aV))))))))) hf
noncomputable abbrev qg:Stmt:=top 9
theorem J6:cA ["saying","row","place"] ["saying","row","place"] (aP qg):=⟨rfl,rfl,rfl,by decide +kernel,rfl,by decide +kernel,by decide +kernel⟩
theorem J7 {P:Program}{w:World}{K:PySem.W.Frag}{mg:Str->Option Value}{base:Heap}{f:Addr}{fd:FuncData}{n:Nat}{fm:FM}(F:qq K "holds" "holds" qg f fd)
  {fu:Addr}{iE:FuncData}{aN:FM}(jO:bZ P w K mg base gn n fu iE ["saying","row","known"] (spT K 3 aN)) (jP:Binds K iE ["saying","row","known"] []) (jQ:PySem.W.keepIn K (.ref fu)=true) (jR:mg "truths_of" =some (.ref fu))
  (hf:∀us r,fm us=some r->aW 3 (qb aN) us=some r):bZ P w K mg base gn (n+1) f fd ["saying","row","place"] (spT K 3 fm):=
 uu (g:=qb aN) F J6 (fun cdv A outer s H E hr=>(bf (bA (kh qh (JE.d (aL jO hr rfl jR jQ jP (au (JE.d (ah 0)) (au (JE.d (ah 1)) (bL Lv aU))))) (JE.d (ah 2)) (fun _ _=>rfl))))) hf
noncomputable abbrev tR:Stmt:=top 10
theorem MI:cA ["saying","row"] ["saying","row"] (aP tR):=⟨rfl,rfl,rfl,by decide +kernel,rfl,by decide +kernel,by decide +kernel⟩
theorem MJ {P:Program}{w:World}{K:PySem.W.Frag}{mg:Str->Option Value}{base:Heap}{f:Addr}{fd:FuncData}{n:Nat}{fm:FM}(F:qq K "fits" "fits" tR f fd)
  {gK:Addr}{jv:FuncData}{aG:FM}(dh:bZ P w K mg base gn n gK jv ["saying","row","place"] (spT K 3 aG)) (dj:Binds K jv ["saying","row","place"] []) (dm:PySem.W.keepIn K (.ref gK)=true) (dw:mg "holds" =some (.ref gK))
  (hf:∀us r,fm us=some r->aW 2 (tK aG) us=some r):bZ P w K mg base gn (n+1) f fd ["saying","row"] (spT K 2 fm):=
 uu (g:=tK aG) F MI (fun cdv A outer s H E hr=>(bf (bA (aL dh hr rfl dw dm dj (au (JE.d (ah 0)) (au (JE.d (ah 1)) (au aB aU))))))) hf
noncomputable abbrev fX:Stmt:=top 11
theorem Aa:cA ["saying","row","known"] ["saying","row","known"] (aP fX):=⟨rfl,rfl,rfl,by decide +kernel,rfl,by decide +kernel,by decide +kernel⟩
theorem Ab {P:Program}{w:World}{K:PySem.W.Frag}{mg:Str->Option Value}{base:Heap}{f:Addr}{fd:FuncData}{n:Nat}{fm:FM}(F:qq K "truths_of" "truths_of" fX f fd)
  {j9:Addr}{nI:FuncData}{gR:FM}(uQ:bZ P w K mg base gn n j9 nI ["saying","row","known"] (spT K 3 gR)) (uR:Binds K nI ["saying","row","known"] []) (uS:PySem.W.keepIn K (.ref j9)=true) (uT:mg "truths_by_head" =some (.ref j9))
  (hf:∀us r,fm us=some r->aW 3 (fV gR) us=some r):bZ P w K mg base gn (n+1) f fd ["saying","row","known"] (spT K 3 fm):=
 uu (g:=fV gR) F Aa (fun cdv A outer s H E hr=>(aK (cW (EX (i:=2) (cg hr) (JE.d (ah 0))) (bf (vV (i:=2) (cg hr) (JE.d (ah 0)) (JE.d (aL uQ hr rfl uT uS uR (au (JE.d (ah 0)) (au (JE.d (ah 1)) (bL (ah 2) aU))))))) cu)
  (bf (bA (JD.e (bR (i:=2) (cg hr) (JE.d (ah 0)) (fun _ _=>rfl))))))) hf
noncomputable abbrev cI:Stmt:=top 12
theorem ia:cA ["saying","row","known","head","truths","ahead"] ["saying","row","known"] (aP cI):=⟨rfl,rfl,rfl,by decide +kernel,rfl,by decide +kernel,by decide +kernel⟩
theorem sf {P:Program}{w:World}{K:PySem.W.Frag}{mg:Str->Option Value}{base:Heap}{f:Addr}{fd:FuncData}{n:Nat}{fm:FM}(F:qq K "truths_by_head" "truths_by_head" cI f fd) (gY:mg "len" =none) (CU:mg "zip" =none)
  {Ac:Addr}{Eb:FuncData}{bU:FM}(MK:bZ P w K mg base gn n Ac Eb ["test","happening"] (spT K 2 bU)) (ML:Binds K Eb ["test","happening"] []) (MM:PySem.W.keepIn K (.ref Ac)=true) (MN:mg "passes" =some (.ref Ac))
  {Ad:Addr}{Ec:FuncData}{bO:FM}(Ed:bZ P w K mg base gn n Ad Ec ["truths"] (spT K 1 bO)) (Ef:Binds K Ec ["truths"] []) (Eg:PySem.W.keepIn K (.ref Ad)=true) (Eh:mg "at_all" =some (.ref Ad))
  {lD:Addr}{pB:FuncData}{aI:FM}(pC:bZ P w K mg base gn n lD pB ["saying","row","known"] (spT K 3 aI)) (pD:Binds K pB ["saying","row","known"] []) (pF:PySem.W.keepIn K (.ref lD)=true) (pG:mg "at_happenings" =some (.ref lD))
  {lE:Addr}{pH:FuncData}{bu:FM}(sr:bZ P w K mg base gn n lE pH ["truths"] (spT K 1 bu)) (su:Binds K pH ["truths"] []) (sA:PySem.W.keepIn K (.ref lE)=true) (sC:mg "at_some" =some (.ref lE))
  {fu:Addr}{iE:FuncData}{aN:FM}(jO:bZ P w K mg base gn n fu iE ["saying","row","known"] (spT K 3 aN)) (jP:Binds K iE ["saying","row","known"] []) (jQ:PySem.W.keepIn K (.ref fu)=true) (jR:mg "truths_of" =some (.ref fu))
  {fy:Addr}{iF:FuncData}{aE:FM}(jw:bZ P w K mg base gn n fy iF ["truths"] (spT K 1 aE)) (jx:Binds K iF ["truths"] []) (jy:PySem.W.keepIn K (.ref fy)=true) (jz:mg "turned_truths" =some (.ref fy))
  {J8:Addr}{Ny:FuncData}{bH:FM}(Um:bZ P w K mg base gn n J8 Ny ["n","truths"] (spT K 2 bH)) (Uo:Binds K Ny ["n","truths"] []) (Up:PySem.W.keepIn K (.ref J8)=true) (Uq:mg "soon" =some (.ref J8))
  {lF:Addr}{pI:FuncData}{bw:FM}(wM:bZ P w K mg base gn n lF pI ["stays","comes"] (spT K 2 bw)) (wN:Binds K pI ["stays","comes"] []) (wO:PySem.W.keepIn K (.ref lF)=true) (wQ:mg "come_to" =some (.ref lF))
  (hf:∀us r,fm us=some r->aW 6 (bh bU bO aI bu aN aE bH bw) us=some r):bZ P w K mg base gn (n+1) f fd ["saying","row","known"] (spT K 3 fm):=
 uu (g:=bh bU bO aI bu aN aE bH bw) F ia (fun cdv A outer s H E hr=>(aK (bQ (i:=3) ia.nd rfl (by first | exact Or.inl rfl | exact Or.inr rfl) (JD.e (bR (i:=0) (cg hr) aB (fun _ _=>rfl))))
  (aK (cW (JW.t (vI (bV (cG hr.units) (JE.d (ah 3)) aQ) (kI (bV (cG hr.units) (JE.d (ah 3)) aQ)))) (bf (bA (bJ zG (JE.d (gG (ao (JE.d (iV (cG hr.units) (JE.d (ah 3)) aQ)) aV))) (JE.d (bJ bY (jk (i:=1) rfl gY) aB))))) cu)
  (aK (cW (bV (cG hr.units) (JE.d (ah 3)) aQ) (bf (bA (bJ bY (JE.d (vd (HQ (i:=0) rfl (by decide) rfl (by decide) rfl rfl (by decide) (by decide) rfl rfl rfl) rfl (vM (JE.d (ah 1))) (fun _ _ _ _=>nh) (fun _ _ _ _=>(JE.d (aL MK hr rfl MN MM ML (au (bR (i:=1) (cg hr) aB (fun _ _=>rfl)) (au (JE.d (ah 0)) aU))))))) (JE.d (gG (ao iu aV)))))) cu)
  (aK (cW (bV (cG hr.units) (JE.d (ah 3)) aQ) (bf (bA (aL Ed hr rfl Eh Eg Ef (au (JE.d (aL pC hr rfl pG pF pD (au (JE.d (ah 0)) (au (JE.d (ah 1)) (bL (ah 2) aU))))) aU)))) cu)
  (aK (cW (bV (cG hr.units) (JE.d (ah 3)) aQ) (bf (bA (aL sr hr rfl sC sA su (au (JE.d (aL pC hr rfl pG pF pD (au (JE.d (ah 0)) (au (JE.d (ah 1)) (bL (ah 2) aU))))) aU)))) cu)
  (aK (bQ (i:=4) ia.nd rfl (by first | exact Or.inl rfl | exact Or.inr rfl) (aL jO hr rfl jR jQ jP (au (bR (i:=0) (cg hr) (JE.d (uo lY aB)) (fun _ _=>rfl)) (au (JE.d (ah 1)) (bL (ah 2) aU)))))
  (aK (cW (bV (cG hr.units) (JE.d (ah 3)) aQ) (bf (bA (aL jw hr rfl jz jy jx (au (JE.d (ah 4)) aU)))) cu)
  (aK (cW (bV (cG hr.units) (JE.d (ah 3)) aQ) (bf (bA (bJ bY (JE.d (iw (JE.d (ah 4)) (iH aB) jm)) (JE.d (gG (ao iu aV)))))) cu)
  (aK (cW (bV (cG hr.units) (JE.d (ah 3)) aQ) (bf (bA (aL Ed hr rfl Eh Eg Ef (au (JE.d (iw (JE.d (ah 4)) jm (iH (JE.d (uo lY aB))))) aU)))) cu)
  (aK (cW (bV (cG hr.units) (JE.d (ah 3)) aQ) (bf (bA (aL sr hr rfl sC sA su (au (JE.d (iw (JE.d (ah 4)) jm (iH (JE.d (uo lY aB))))) aU)))) cu)
  (aK (cW (bV (cG hr.units) (JE.d (ah 3)) aQ) (bf (bA (aL Um hr rfl Uq Up Uo (au (bR (i:=0) (cg hr) aB (fun _ _=>rfl)) (au (JE.d (iw (JE.d (ah 4)) jm (iH (JE.d (uo lY aB))))) aU))))) cu)
  (aK (bQ (i:=5) ia.nd rfl (by first | exact Or.inl rfl | exact Or.inr rfl) (aL jO hr rfl jR jQ jP (au (bR (i:=0) (cg hr) aB (fun _ _=>rfl)) (au (JE.d (ah 1)) (bL (ah 2) aU)))))
  (aK (cW (bV (cG hr.units) (JE.d (ah 3)) aQ) (bf (bA (yF ⟨(m8 (by decide) (by decide) rfl (by decide) rfl),rfl,by decide⟩ rfl (DP rfl CU (ao (JE.d (ah 5)) (ao (JE.d (ah 4)) aV))) (fun _ _ _ _=>nh) (fun _ _ _ _=>(m9 (JE.d (ah 0)) (iW (JE.d (ah 1)))))))) cu)
  (aK (cW (bV (cG hr.units) (JE.d (ah 3)) aQ) (bf (bA (yF ⟨(m8 (by decide) (by decide) rfl (by decide) rfl),rfl,by decide⟩ rfl (DP rfl CU (ao (JE.d (ah 5)) (ao (JE.d (ah 4)) aV))) (fun _ _ _ _=>nh) (fun _ _ _ _=>(vJ (JE.d (ah 0)) (iW (JE.d (ah 1)))))))) cu)
  (bf (bA (aL wM hr rfl wQ wO wN (au (JE.d (iw (JE.d (ah 5)) jm (iH (JE.d (uo lY aB))))) (au (JE.d (iw (JE.d (ah 4)) jm (iH (JE.d (uo lY aB))))) aU)))))))))))))))))))) hf
noncomputable abbrev cR:Stmt:=top 13
theorem gC:cA ["saying","row","known","truths","place","happening","part"] ["saying","row","known"] (aP cR):=⟨rfl,rfl,rfl,by decide +kernel,rfl,by decide +kernel,by decide +kernel⟩
theorem tT {P:Program}{w:World}{K:PySem.W.Frag}{mg:Str->Option Value}{base:Heap}{f:Addr}{fd:FuncData}{n:Nat}{fm:FM}(F:qq K "at_happenings" "at_happenings" cR f fd) (qR:mg "enumerate" =none)
  {iD:Addr}{j6:FuncData}{dB:FM}(pe:bZ P w K mg base gn n iD j6 ["saying","x","k"] (spT K 3 dB)) (pg:Binds K j6 ["saying","x","k"] []) (pq:PySem.W.keepIn K (.ref iD)=true) (pA:mg "put_for" =some (.ref iD))
  {fu:Addr}{iE:FuncData}{aN:FM}(jO:bZ P w K mg base gn n fu iE ["saying","row","known"] (spT K 3 aN)) (jP:Binds K iE ["saying","row","known"] []) (jQ:PySem.W.keepIn K (.ref fu)=true) (jR:mg "truths_of" =some (.ref fu))
  (hf:∀us r,fm us=some r->aW 7 (cQ dB aN) us=some r):bZ P w K mg base gn (n+1) f fd ["saying","row","known"] (spT K 3 fm):=
 uu (g:=cQ dB aN) F gC (fun cdv A outer s H E hr=>(aK (bQ (i:=3) gC.nd rfl (by first | exact Or.inl rfl | exact Or.inr rfl) (gG aV))
  (aK (Lu PassesOwn.never rfl (Ls rfl qR (ao (JE.d (ah 1)) aV)) (zx rfl (jX (gZ (i:=4) gC.nd rfl (by first | exact Or.inl rfl | exact Or.inr rfl)) (jX (gZ (i:=5) gC.nd rfl (by first | exact Or.inl rfl | exact Or.inr rfl)) u9))) (bf (cW (bV (cG hr.units) (bR (i:=5) (cg hr) aB (fun _ _=>rfl)) (bR (i:=0) (cg hr) aB (fun _ _=>rfl))) (aK (bQ (i:=6) gC.nd rfl (by first | exact Or.inl rfl | exact Or.inr rfl) (aL pe hr rfl pA pq pg (au (bR (i:=0) (cg hr) aB (fun _ _=>rfl)) (au (bR (i:=0) (cg hr) aB (fun _ _=>rfl)) (au (bR (i:=5) (cg hr) aB (fun _ _=>rfl)) aU)))))
  (bf (u6 (JD.e (vc (i:=3) PySem.F.slot_list_append PySem.F.type_list_append sM sQ sU (ao (JE.d (kh qh (JE.d (aL jO hr rfl jR jQ jP (au (JE.d (ah 6)) (au (JE.d (ah 1)) (bL (ah 2) aU))))) (JE.d (ah 4)) (fun _ _=>rfl))) aV)))))) (bf (u6 (JD.e (vc (i:=3) PySem.F.slot_list_append PySem.F.type_list_append sM sQ sU (ao (JE.d (iV (cG hr.units) (bR (i:=0) (cg hr) aB (fun _ _=>rfl)) aQ)) aV))))))))
  (bf (bA (ah 3)))))) hf
noncomputable abbrev fK:Stmt:=top 14
theorem tU:cA ["truths"] ["truths"] (aP fK):=⟨rfl,rfl,rfl,by decide +kernel,rfl,by decide +kernel,by decide +kernel⟩
theorem tV {P:Program}{w:World}{K:PySem.W.Frag}{mg:Str->Option Value}{base:Heap}{f:Addr}{fd:FuncData}{n:Nat}{fm:FM}(F:qq K "turned_truths" "turned_truths" fK f fd)
  (hf:∀us r,fm us=some r->aW 1 (gQ) us=some r):bZ P w K mg base gn (n+1) f fd ["truths"] (spT K 1 fm):=
 uu (g:=gQ) F tU (fun cdv A outer s H E hr=>(bf (bA (vd (m8 (by decide) (by decide) rfl (by decide) rfl) rfl (vM (JE.d (ah 0))) (fun _ _ _ _=>nh) (fun _ _ _ _=>(OH (JE.d (ah 0)))))))) hf
noncomputable abbrev kL:Stmt:=top 15
theorem nC:cA ["stays","comes","truths","stay","come"] ["stays","comes"] (aP kL):=⟨rfl,rfl,rfl,by decide +kernel,rfl,by decide +kernel,by decide +kernel⟩
theorem CV {P:Program}{w:World}{K:PySem.W.Frag}{mg:Str->Option Value}{base:Heap}{f:Addr}{fd:FuncData}{n:Nat}{fm:FM}(F:qq K "come_to" "come_to" kL f fd) (yR:mg "list" =none) (CU:mg "zip" =none) (tW:mg "reversed" =none)
  (hf:∀us r,fm us=some r->aW 5 (mU) us=some r):bZ P w K mg base gn (n+1) f fd ["stays","comes"] (spT K 2 fm):=
 uu (g:=mU) F nC (fun cdv A outer s H E hr=>(aK (bQ (i:=2) nC.nd rfl (by first | exact Or.inl rfl | exact Or.inr rfl) (gG (ao iu aV)))
  (aK (ow PassesOwn.never rfl (O5 rfl tW (ao (JE.d (CB rfl rfl yR rfl CU (ao (JE.d (ah 0)) (ao (JE.d (ah 1)) aV)))) aV)) (zx rfl (jX (gZ (i:=3) nC.nd rfl (by first | exact Or.inl rfl | exact Or.inr rfl)) (jX (gZ (i:=4) nC.nd rfl (by first | exact Or.inl rfl | exact Or.inr rfl)) u9))) (bf (u6 (JD.e (vc (i:=2) PySem.F.slot_list_append PySem.F.type_list_append sM sQ sU (ao (vJ (JE.d (ah 4)) (iW (m9 (JE.d (ah 3)) (iW (bR (i:=2) (cg hr) (JE.d (uo lY aB)) (fun _ _=>rfl)))))) aV))))))
  (aK (u6 (JD.e (HH (i:=2) PySem.F.slot_list_reverse PySem.F.type_list_reverse Cf Co Cr)))
  (bf (bA (ah 2))))))) hf
noncomputable abbrev kM:Stmt:=top 16
theorem CW:cA ["truths"] ["truths"] (aP kM):=⟨rfl,rfl,rfl,by decide +kernel,rfl,by decide +kernel,by decide +kernel⟩
theorem CY {P:Program}{w:World}{K:PySem.W.Frag}{mg:Str->Option Value}{base:Heap}{f:Addr}{fd:FuncData}{n:Nat}{fm:FM}(F:qq K "at_some" "at_some" kM f fd) (gY:mg "len" =none)
  {lF:Addr}{pI:FuncData}{bw:FM}(wM:bZ P w K mg base gn n lF pI ["stays","comes"] (spT K 2 bw)) (wN:Binds K pI ["stays","comes"] []) (wO:PySem.W.keepIn K (.ref lF)=true) (wQ:mg "come_to" =some (.ref lF))
  (hf:∀us r,fm us=some r->aW 1 (kK bw) us=some r):bZ P w K mg base gn (n+1) f fd ["truths"] (spT K 1 fm):=
 uu (g:=kK bw) F CW (fun cdv A outer s H E hr=>(bf (bA (aL wM hr rfl wQ wO wN (au (JE.d (bJ zG (JE.d (gG (ao iu aV))) (jk (i:=0) rfl gY))) (au (JE.d (ah 0)) aU)))))) hf
noncomputable abbrev mY:Stmt:=top 17
theorem FU:cA ["truths"] ["truths"] (aP mY):=⟨rfl,rfl,rfl,by decide +kernel,rfl,by decide +kernel,by decide +kernel⟩
theorem FW {P:Program}{w:World}{K:PySem.W.Frag}{mg:Str->Option Value}{base:Heap}{f:Addr}{fd:FuncData}{n:Nat}{fm:FM}(F:qq K "at_all" "at_all" mY f fd)
  {fy:Addr}{iF:FuncData}{aE:FM}(jw:bZ P w K mg base gn n fy iF ["truths"] (spT K 1 aE)) (jx:Binds K iF ["truths"] []) (jy:PySem.W.keepIn K (.ref fy)=true) (jz:mg "turned_truths" =some (.ref fy))
  {lE:Addr}{pH:FuncData}{bu:FM}(sr:bZ P w K mg base gn n lE pH ["truths"] (spT K 1 bu)) (su:Binds K pH ["truths"] []) (sA:PySem.W.keepIn K (.ref lE)=true) (sC:mg "at_some" =some (.ref lE))
  (hf:∀us r,fm us=some r->aW 1 (mV aE bu) us=some r):bZ P w K mg base gn (n+1) f fd ["truths"] (spT K 1 fm):=
 uu (g:=mV aE bu) F FU (fun cdv A outer s H E hr=>(bf (bA (aL jw hr rfl jz jy jx (au (JE.d (aL sr hr rfl sC sA su (au (JE.d (aL jw hr rfl jz jy jx (au (JE.d (ah 0)) aU))) aU))) aU))))) hf
noncomputable abbrev tX:Stmt:=top 18
theorem MP:cA ["n","truths"] ["n","truths"] (aP tX):=⟨rfl,rfl,rfl,by decide +kernel,rfl,by decide +kernel,by decide +kernel⟩
theorem MQ {P:Program}{w:World}{K:PySem.W.Frag}{mg:Str->Option Value}{base:Heap}{f:Addr}{fd:FuncData}{n:Nat}{fm:FM}(F:qq K "soon" "soon" tX f fd) (gY:mg "len" =none) (iP:mg "range" =none) (many:mg "any" =none)
  (hf:∀us r,fm us=some r->aW 2 (z4) us=some r):bZ P w K mg base gn (n+1) f fd ["n","truths"] (spT K 2 fm):=
 uu (g:=z4) F MP (fun cdv A outer s H E hr=>(bf (bA (vd (vY (cJ:=["n","truths"]) (cap:=[0,1]) rfl (by decide) rfl (by decide) rfl rfl (by decide) (by first | exact Or.inl rfl | exact Or.inr rfl) (by decide) rfl rfl rfl) rfl (pQ rfl iP (ao (JE.d (bJ bY (jk (i:=1) rfl gY) aB)) aV)) (fun _ _ _ _=>nh) (fun _ _ _ _=>(JE.d (rB (EM rfl) rfl many PyProof.Rows.Boot.any (ao (JE.d (iw (JE.d (ah 2)) (iH (JE.d (ah 0))) (iH (JE.d (bJ bY (JE.d (ah 0)) (JE.d (ah 1))))))) aV)))))))) hf
noncomputable abbrev jc:Stmt:=top 20
theorem nD:cA ["_law_script","_law_at","_law_cell"] ["_law_script","_law_at"] (aP jc):=⟨rfl,rfl,rfl,by decide +kernel,rfl,by decide +kernel,by decide +kernel⟩
theorem Ae {P:Program}{w:World}{K:PySem.W.Frag}{mg:Str->Option Value}{base:Heap}{f:Addr}{fd:FuncData}{n:Nat}{fm:FM}(F:qq K "_law_tape" "_law_tape" jc f fd) (gY:mg "len" =none) (Qu:mg "max" =none)
  (hf:∀us r,fm us=some r->aW 3 (jZ) us=some r):bZ P w K mg base gn (n+1) f fd ["_law_script","_law_at"] (spT K 2 fm):=
 uu (g:=jZ) F nD (fun cdv A outer s H E hr=>(aK (bQ (i:=2) nD.nd rfl (by first | exact Or.inl rfl | exact Or.inr rfl) (ah 1))
  (aK (cW (bV vL (jk (i:=0) rfl gY) aB) (bf (bQ (i:=2) nD.nd rfl (by first | exact Or.inl rfl | exact Or.inr rfl) (bJ bY (bR (i:=0) (cg hr) (JE.d (bJ kB (JE.d (ah 1)) (jk (i:=0) rfl gY))) (fun _ _=>rfl)) (JE.d (bJ zu (JE.d (ah 1)) (jk (i:=0) rfl gY)))))) cu)
  (bf (bA (DK (hk:=Nat.le_of_ble_eq_true rfl) (oJ (JE.d (ah 2)) (oJ (JE.d (rB (Cq rfl) rfl Qu PyProof.Rows.Boot.max (ao aB (ao (JE.d (bJ gw (JE.d (ah 2)) (JE.d (bJ La aB aB)))) aV)))) (oJ aB DJ))))))))) hf
noncomputable abbrev jd:Stmt:=top 21
theorem jA:cA ["_law_tape_here","_law_many","_law_turn","_law_found","_law_mixed"] ["_law_tape_here","_law_many"] (aP jd):=⟨rfl,rfl,rfl,by decide +kernel,rfl,by decide +kernel,by decide +kernel⟩
theorem Af {P:Program}{w:World}{K:PySem.W.Frag}{mg:Str->Option Value}{base:Heap}{f:Addr}{fd:FuncData}{n:Nat}{fm:FM}(F:qq K "_law_pick" "_law_pick" jd f fd)
  (hf:∀us r,fm us=some r->aW 5 (jY) us=some r):bZ P w K mg base gn (n+1) f fd ["_law_tape_here","_law_many"] (spT K 2 fm):=
 uu (g:=jY) F jA (fun cdv A outer s H E hr=>(aK (bQ (i:=2) jA.nd rfl (by first | exact Or.inl rfl | exact Or.inr rfl) (bJ bY (bR (i:=0) (cg hr) aQ (fun _ _=>rfl)) aB))
  (aK (vV (i:=0) (cg hr) aQ (JE.d (ah 2)))
  (aK (cW (bV vL (bR (i:=0) (cg hr) aQ (fun _ _=>rfl)) aB) (aK (bQ (i:=3) jA.nd rfl (by first | exact Or.inl rfl | exact Or.inr rfl) (bJ kB (bR (i:=0) (cg hr) aQ (fun _ _=>rfl)) (JE.d (ah 1))))
  (aK (vV (i:=0) (cg hr) aQ (JE.d (bJ zu (bR (i:=0) (cg hr) aQ (fun _ _=>rfl)) (JE.d (ah 1)))))
  (bf (bA (ah 3))))) cu)
  (aK (bQ (i:=4) jA.nd rfl (by first | exact Or.inl rfl | exact Or.inr rfl) (bJ rD (JE.d (bJ bY (JE.d (bJ bY (JE.d (bJ kB (bR (i:=0) (cg hr) aQ (fun _ _=>rfl)) aB)) (JE.d (bJ rD (JE.d (bJ rD aB (JE.d (ah 2)))) (JE.d (ah 2)))))) aB)) aB))
  (aK (bQ (i:=4) jA.nd rfl (by first | exact Or.inl rfl | exact Or.inr rfl) (bJ rD (JE.d (bJ bY (JE.d (bJ kB (JE.d (ah 4)) aB)) (JE.d (bJ rD aB (JE.d (ah 2)))))) aB))
  (bf (bA (bJ kB (JE.d (bJ zu (JE.d (bJ kB (JE.d (ah 4)) aB)) aB)) (JE.d (ah 1))))))))))) hf
noncomputable abbrev iL:Stmt:=top 22
theorem xM:cA [] [] (aP iL):=⟨rfl,rfl,rfl,by decide +kernel,rfl,by decide +kernel,by decide +kernel⟩
theorem xN {P:Program}{w:World}{K:PySem.W.Frag}{mg:Str->Option Value}{base:Heap}{f:Addr}{fd:FuncData}{n:Nat}{fm:FM}(F:qq K "_law_names" "_law_names" iL f fd)
  (hf:∀us r,fm us=some r->aW 0 (kC) us=some r):bZ P w K mg base gn (n+1) f fd [] (spT K 0 fm):=
 uu (g:=kC) F xM (fun cdv A outer s H E hr=>(bf (bA (gG (ao aQ (ao aQ (ao aQ (ao aQ (ao aQ (ao aQ (ao aQ (ao aQ aV)))))))))))) hf
noncomputable abbrev iM:Stmt:=top 23
theorem dM:cA ["_law_tape_here","_law_names_here","_law_table_here","_law_left","_law_k","_law_name","_law_most"] ["_law_tape_here"] (aP iM):=⟨rfl,rfl,rfl,by decide +kernel,rfl,by decide +kernel,by decide +kernel⟩
theorem xO {P:Program}{w:World}{K:PySem.W.Frag}{mg:Str->Option Value}{base:Heap}{f:Addr}{fd:FuncData}{n:Nat}{fm:FM}(F:qq K "_law_table" "_law_table" iM f fd) (iP:mg "range" =none) (gY:mg "len" =none) (Qv:mg "min" =none)
  {pJ:Addr}{uG:FuncData}{iA:FM}(BG:bZ P w K mg base gn n pJ uG [] (spT K 0 iA)) (BH:Binds K uG [] []) (BI:PySem.W.keepIn K (.ref pJ)=true) (BJ:mg "_law_names" =some (.ref pJ))
  {bW:Addr}{cD:FuncData}{az:FM}(bD:bZ P w K mg base gn n bW cD ["_law_tape_here","_law_many"] (spT K 2 az)) (bE:Binds K cD ["_law_tape_here","_law_many"] []) (bF:PySem.W.keepIn K (.ref bW)=true) (bG:mg "_law_pick" =some (.ref bW))
  (hf:∀us r,fm us=some r->aW 7 (kD iA az) us=some r):bZ P w K mg base gn (n+1) f fd ["_law_tape_here"] (spT K 1 fm):=
 uu (g:=kD iA az) F dM (fun cdv A outer s H E hr=>(aK (bQ (i:=1) dM.nd rfl (by first | exact Or.inl rfl | exact Or.inr rfl) (HR BG hr rfl BJ BI BH))
  (aK (bQ (i:=2) dM.nd rfl (by first | exact Or.inl rfl | exact Or.inr rfl) (bM aV))
  (aK (bQ (i:=3) dM.nd rfl (by first | exact Or.inl rfl | exact Or.inr rfl) (JD.e aB))
  (aK (ow PassesOwn.never rfl (pQ rfl iP (ao (JE.d (kh qh (JE.d (gG (ao aB (ao aB (ao aB (ao aB (ao aB aV))))))) (JE.d (aL bD hr rfl bG bF bE (bL (ah 0) (au aB aU)))) (fun _ _=>rfl))) aV)) (gZ (i:=4) dM.nd rfl (by first | exact Or.inl rfl | exact Or.inr rfl)) (aK (bQ (i:=5) dM.nd rfl (by first | exact Or.inl rfl | exact Or.inr rfl) (JD.e (vc (i:=1) PySem.F.slot_list_pop PySem.F.type_list_pop G9 HJ HS (ao (JE.d (aL bD hr rfl bG bF bE (bL (ah 0) (au (jk (i:=1) rfl gY) aU)))) aV))))
  (aK (bQ (i:=6) dM.nd rfl (by first | exact Or.inl rfl | exact Or.inr rfl) (rB (Cp rfl) rfl Qv PyProof.Rows.Boot.min (ao aB (ao (JE.d (bJ bY (JE.d (bJ gw (JE.d (ah 3)) aB)) (JE.d (ah 4)))) (ao (JE.d (aL bD hr rfl bG bF bE (bL (ah 0) (au aB aU)))) aV)))))
  (aK (bQ (i:=2) dM.nd rfl (by first | exact Or.inl rfl | exact Or.inr rfl) (bJ bY (JE.d (ah 2)) (JE.d (bM (ao (JE.d (bM (ao (JE.d (ah 5)) (ao (JE.d (ah 6)) aV)))) aV)))))
  (bf (bQ (i:=3) dM.nd rfl (by first | exact Or.inl rfl | exact Or.inr rfl) (bJ gw (JE.d (bJ gw (JE.d (ah 3)) (JE.d (ah 6)))) aB)))))))
  (bf (bA (ah 2)))))))) hf
noncomputable abbrev jT:Stmt:=top 24
theorem je:cA ["_law_tape_here","_law_table_here","_law_most","_law_row_here","_law_k","_law_name","_law_highest"] ["_law_tape_here","_law_table_here","_law_most"] (aP jT):=⟨rfl,rfl,rfl,by decide +kernel,rfl,by decide +kernel,by decide +kernel⟩
theorem BK {P:Program}{w:World}{K:PySem.W.Frag}{mg:Str->Option Value}{base:Heap}{f:Addr}{fd:FuncData}{n:Nat}{fm:FM}(F:qq K "_law_row" "_law_row" jT f fd) (iP:mg "range" =none) (gY:mg "len" =none)
  {bW:Addr}{cD:FuncData}{az:FM}(bD:bZ P w K mg base gn n bW cD ["_law_tape_here","_law_many"] (spT K 2 az)) (bE:Binds K cD ["_law_tape_here","_law_many"] []) (bF:PySem.W.keepIn K (.ref bW)=true) (bG:mg "_law_pick" =some (.ref bW))
  (hf:∀us r,fm us=some r->aW 7 (nj az) us=some r):bZ P w K mg base gn (n+1) f fd ["_law_tape_here","_law_table_here","_law_most"] (spT K 3 fm):=
 uu (g:=nj az) F je (fun cdv A outer s H E hr=>(aK (bQ (i:=3) je.nd rfl (by first | exact Or.inl rfl | exact Or.inr rfl) (bM aV))
  (aK (ow PassesOwn.never rfl (pQ rfl iP (ao (JE.d (aL bD hr rfl bG bF bE (bL (ah 0) (au (JE.d (bJ bY (JE.d (ah 2)) aB)) aU)))) aV)) (gZ (i:=4) je.nd rfl (by first | exact Or.inl rfl | exact Or.inr rfl)) (aK (OL (bR (i:=1) (cg hr) (JE.d (aL bD hr rfl bG bF bE (bL (ah 0) (au (jk (i:=1) rfl gY) aU)))) (fun _ _=>rfl)) (zx rfl (jX (gZ (i:=5) je.nd rfl (by first | exact Or.inl rfl | exact Or.inr rfl)) (jX (gZ (i:=6) je.nd rfl (by first | exact Or.inl rfl | exact Or.inr rfl)) u9))))
  (bf (bQ (i:=3) je.nd rfl (by first | exact Or.inl rfl | exact Or.inr rfl) (bJ bY (JE.d (ah 3)) (JE.d (bM (ao (JE.d (bM (ao (JE.d (ah 5)) (ao (JE.d (aL bD hr rfl bG bF bE (bL (ah 0) (au (JE.d (bJ bY (JE.d (ah 6)) aB)) aU)))) aV)))) aV))))))))
  (bf (bA (ah 3)))))) hf
noncomputable abbrev jf:Stmt:=top 25
theorem kH:cA ["_law_tape_here","_law_names_here","_law_variables","_law_way","_law_number"] ["_law_tape_here","_law_names_here","_law_variables"] (aP jf):=⟨rfl,rfl,rfl,by decide +kernel,rfl,by decide +kernel,by decide +kernel⟩
theorem Ag {P:Program}{w:World}{K:PySem.W.Frag}{mg:Str->Option Value}{base:Heap}{f:Addr}{fd:FuncData}{n:Nat}{fm:FM}(F:qq K "_law_test" "_law_test" jf f fd) (gY:mg "len" =none)
  {bW:Addr}{cD:FuncData}{az:FM}(bD:bZ P w K mg base gn n bW cD ["_law_tape_here","_law_many"] (spT K 2 az)) (bE:Binds K cD ["_law_tape_here","_law_many"] []) (bF:PySem.W.keepIn K (.ref bW)=true) (bG:mg "_law_pick" =some (.ref bW))
  (hf:∀us r,fm us=some r->aW 5 (fU az) us=some r):bZ P w K mg base gn (n+1) f fd ["_law_tape_here","_law_names_here","_law_variables"] (spT K 3 fm):=
 uu (g:=fU az) F kH (fun cdv A outer s H E hr=>(aK (bQ (i:=3) kH.nd rfl (by first | exact Or.inl rfl | exact Or.inr rfl) (aL bD hr rfl bG bF bE (bL (ah 0) (au aB aU))))
  (aK (cW (bV (cG hr.units) (JE.d (ah 3)) aB) (bf (bA (bM (ao aQ aV)))) cu)
  (aK (cW (bV (cG hr.units) (JE.d (ah 3)) aB) (bf (bA (bM (ao aQ (ao (bR (i:=1) (cg hr) (JE.d (aL bD hr rfl bG bF bE (bL (ah 0) (au (jk (i:=1) rfl gY) aU)))) (fun _ _=>rfl)) aV))))) cu)
  (aK (bQ (i:=4) kH.nd rfl (by first | exact Or.inl rfl | exact Or.inr rfl) (kh qh (JE.d (gG (ao aB (ao aB (ao aB (ao aB (ao aB (ao aB aV)))))))) (JE.d (aL bD hr rfl bG bF bE (bL (ah 0) (au aB aU)))) (fun _ _=>rfl)))
  (aK (cW (JW.t (vH (bV (kW hr.units) (JE.d (ah 2)) (JE.d (bM aV))) (kP (bV vL (JE.d (aL bD hr rfl bG bF bE (bL (ah 0) (au aB aU)))) aB)))) (bf (bQ (i:=4) kH.nd rfl (by first | exact Or.inl rfl | exact Or.inr rfl) (JD.e (bR (i:=2) (cg hr) (JE.d (aL bD hr rfl bG bF bE (bL (ah 0) (au (jk (i:=2) rfl gY) aU)))) (fun _ _=>rfl))))) cu)
  (bf (bA (bM (ao (JE.d (kh qh (JE.d (gG (ao aQ (ao aQ (ao aQ aV))))) (JE.d (bJ gw (JE.d (ah 3)) aB)) (fun _ _=>rfl))) (ao (JE.d (ah 4)) aV))))))))))) hf
noncomputable abbrev d9:Stmt:=top 26
theorem gm:cA ["_law_tape_here","_law_world","_law_variables","_law_room","_law_deep","_law_way","_law_names_here","_law_x","_law_head"] ["_law_tape_here","_law_world","_law_variables","_law_room","_law_deep"] (aP d9):=⟨rfl,rfl,rfl,by decide +kernel,rfl,by decide +kernel,by decide +kernel⟩
theorem xP {P:Program}{w:World}{K:PySem.W.Frag}{mg:Str->Option Value}{base:Heap}{f:Addr}{fd:FuncData}{n:Nat}{fm:FM}(F:qq K "_law_inner" "_law_inner" d9 f fd) (gY:mg "len" =none)
  {bW:Addr}{cD:FuncData}{az:FM}(bD:bZ P w K mg base gn n bW cD ["_law_tape_here","_law_many"] (spT K 2 az)) (bE:Binds K cD ["_law_tape_here","_law_many"] []) (bF:PySem.W.keepIn K (.ref bW)=true) (bG:mg "_law_pick" =some (.ref bW))
  {dD:Addr}{fY:FuncData}{aF:FM}(eu:bZ P w K mg base gn n dD fY ["_law_tape_here","_law_world","_law_variables","_law_room","_law_deep"] (spT K 5 aF)) (eB:Binds K fY ["_law_tape_here","_law_world","_law_variables","_law_room","_law_deep"] []) (eG:PySem.W.keepIn K (.ref dD)=true) (eL:mg "_law_saying" =some (.ref dD))
  (hf:∀us r,fm us=some r->aW 9 (cP az aF) us=some r):bZ P w K mg base gn (n+1) f fd ["_law_tape_here","_law_world","_law_variables","_law_room","_law_deep"] (spT K 5 fm):=
 uu (g:=cP az aF) F gm (fun cdv A outer s H E hr=>(aK (bQ (i:=5) gm.nd rfl (by first | exact Or.inl rfl | exact Or.inr rfl) (aL bD hr rfl bG bF bE (bL (ah 0) (au aB aU))))
  (aK (cW (JW.t (vH (bV sO (JE.d (ah 5)) aB) (kP (bV sO (bR (i:=1) (cg hr) aQ (fun _ _=>rfl)) aB)))) (aK (vV (i:=1) (cg hr) aQ (JE.d (bJ bY (bR (i:=1) (cg hr) aQ (fun _ _=>rfl)) aB)))
  (aK (bQ (i:=6) gm.nd rfl (by first | exact Or.inl rfl | exact Or.inr rfl) (JD.e (bR (i:=1) (cg hr) aQ (fun _ _=>rfl))))
  (aK (bQ (i:=7) gm.nd rfl (by first | exact Or.inl rfl | exact Or.inr rfl) (kh qh (JE.d (gG (ao aQ (ao aQ (ao aQ (ao aQ aV)))))) (JE.d (aL bD hr rfl bG bF bE (bL (ah 0) (au aB aU)))) (fun _ _=>rfl)))
  (aK (bQ (i:=8) gm.nd rfl (by first | exact Or.inl rfl | exact Or.inr rfl) (bM (ao (JE.d (kh qh (JE.d (gG (ao aQ (ao aQ aV)))) (JE.d (bJ kB (JE.d (ah 5)) aB)) (fun _ _=>rfl))) (ao (bR (i:=6) (cg hr) (JE.d (aL bD hr rfl bG bF bE (bL (ah 0) (au (jk (i:=6) rfl gY) aU)))) (fun _ _=>rfl)) (ao (JE.d (ah 7)) aV)))))
  (bf (bA (bJ bY (JE.d (ah 8)) (JE.d (bM (ao (JE.d (aL eu hr rfl eL eG eB (bL (ah 0) (bL (ah 1) (au (JE.d (bJ bY (JE.d (ah 2)) (JE.d (bM (ao (JE.d (ah 7)) aV))))) (au (JE.d (bJ gw (JE.d (ah 3)) aB)) (au (JE.d (bJ gw (JE.d (ah 4)) aB)) aU))))))) aV)))))))))) cu)
  (aK (bQ (i:=8) gm.nd rfl (by first | exact Or.inl rfl | exact Or.inr rfl) (bM (ao (JE.d (kh qh (JE.d (gG (ao aQ (ao aQ (ao aQ (ao aQ aV)))))) (JE.d (bJ kB (JE.d (ah 5)) aB)) (fun _ _=>rfl))) aV)))
  (aK (cW (bV (cG hr.units) (JE.d (ah 5)) aB) (bf (bQ (i:=8) gm.nd rfl (by first | exact Or.inl rfl | exact Or.inr rfl) (bM (ao aQ (ao (JE.d (aL bD hr rfl bG bF bE (bL (ah 0) (au aB aU)))) aV))))) cu)
  (bf (bA (bJ bY (JE.d (ah 8)) (JE.d (bM (ao (JE.d (aL eu hr rfl eL eG eB (bL (ah 0) (bL (ah 1) (au (JE.d (ah 2)) (au (JE.d (bJ gw (JE.d (ah 3)) aB)) (au (JE.d (bJ gw (JE.d (ah 4)) aB)) aU))))))) aV))))))))))) hf
noncomputable abbrev dN:Stmt:=top 27
theorem iG:cA ["_law_tape_here","_law_world","_law_variables","_law_room","_law_deep","_law_way","_law_first","_law_one","_law_other"] ["_law_tape_here","_law_world","_law_variables","_law_room","_law_deep"] (aP dN):=⟨rfl,rfl,rfl,by decide +kernel,rfl,by decide +kernel,by decide +kernel⟩
theorem wR {P:Program}{w:World}{K:PySem.W.Frag}{mg:Str->Option Value}{base:Heap}{f:Addr}{fd:FuncData}{n:Nat}{fm:FM}(F:qq K "_law_saying" "_law_saying" dN f fd)
  {bW:Addr}{cD:FuncData}{az:FM}(bD:bZ P w K mg base gn n bW cD ["_law_tape_here","_law_many"] (spT K 2 az)) (bE:Binds K cD ["_law_tape_here","_law_many"] []) (bF:PySem.W.keepIn K (.ref bW)=true) (bG:mg "_law_pick" =some (.ref bW))
  {qT:Addr}{wU:FuncData}{lA:FM}(CZ:bZ P w K mg base gn n qT wU ["_law_tape_here","_law_names_here","_law_variables"] (spT K 3 lA)) (C0:Binds K wU ["_law_tape_here","_law_names_here","_law_variables"] []) (C1:PySem.W.keepIn K (.ref qT)=true) (C2:mg "_law_test" =some (.ref qT))
  {dD:Addr}{fY:FuncData}{aF:FM}(eu:bZ P w K mg base gn n dD fY ["_law_tape_here","_law_world","_law_variables","_law_room","_law_deep"] (spT K 5 aF)) (eB:Binds K fY ["_law_tape_here","_law_world","_law_variables","_law_room","_law_deep"] []) (eG:PySem.W.keepIn K (.ref dD)=true) (eL:mg "_law_saying" =some (.ref dD))
  {pK:Addr}{uH:FuncData}{j5:FM}(BL:bZ P w K mg base gn n pK uH ["_law_tape_here","_law_world","_law_variables","_law_room","_law_deep"] (spT K 5 j5)) (BN:Binds K uH ["_law_tape_here","_law_world","_law_variables","_law_room","_law_deep"] []) (BO:PySem.W.keepIn K (.ref pK)=true) (BP:mg "_law_inner" =some (.ref pK))
  (hf:∀us r,fm us=some r->aW 9 (bT az lA aF j5) us=some r):bZ P w K mg base gn (n+1) f fd ["_law_tape_here","_law_world","_law_variables","_law_room","_law_deep"] (spT K 5 fm):=
 uu (g:=bT az lA aF j5) F iG (fun cdv A outer s H E hr=>(aK (bQ (i:=5) iG.nd rfl (by first | exact Or.inl rfl | exact Or.inr rfl) (aL bD hr rfl bG bF bE (bL (ah 0) (au aB aU))))
  (aK (cW (JW.t (vI (bV sO (JE.d (ah 3)) aB) (vI (bV sO (JE.d (ah 4)) aB) (kI (bV (cG hr.units) (JE.d (ah 5)) aB))))) (aK (cW (bV (cG hr.units) (JE.d (bJ kB (JE.d (ah 5)) aB)) aB) (bf (bA (bM (ao (JE.d (kh qh (JE.d (gG (ao aQ (ao aQ aV)))) (JE.d (aL bD hr rfl bG bF bE (bL (ah 0) (au aB aU)))) (fun _ _=>rfl))) aV)))) cu)
  (bf (bA (bM (ao aQ (ao (JE.d (aL CZ hr rfl C2 C1 C0 (bL (ah 0) (au (bR (i:=1) (cg hr) aQ (fun _ _=>rfl)) (au (JE.d (ah 2)) aU))))) aV)))))) cu)
  (aK (cW (JW.t (vH (bV sO (JE.d (ah 5)) aB) (kP (bV vL (JE.d (ah 3)) aB)))) (aK (bQ (i:=6) iG.nd rfl (by first | exact Or.inl rfl | exact Or.inr rfl) (bJ bY aB (JE.d (aL bD hr rfl bG bF bE (bL (ah 0) (au (JE.d (bJ gw (JE.d (ah 3)) aB)) aU))))))
  (aK (bQ (i:=7) iG.nd rfl (by first | exact Or.inl rfl | exact Or.inr rfl) (aL eu hr rfl eL eG eB (bL (ah 0) (bL (ah 1) (au (JE.d (ah 2)) (au (JE.d (ah 6)) (au (JE.d (bJ gw (JE.d (ah 4)) aB)) aU)))))))
  (aK (bQ (i:=8) iG.nd rfl (by first | exact Or.inl rfl | exact Or.inr rfl) (aL eu hr rfl eL eG eB (bL (ah 0) (bL (ah 1) (au (JE.d (ah 2)) (au (JE.d (bJ gw (JE.d (bJ gw (JE.d (ah 3)) aB)) (JE.d (ah 6)))) (au (JE.d (bJ gw (JE.d (ah 4)) aB)) aU)))))))
  (bf (bA (bM (ao (JE.d (kh qh (JE.d (gG (ao aQ (ao aQ (ao aQ (ao aQ aV)))))) (JE.d (bJ gw (JE.d (ah 5)) aB)) (fun _ _=>rfl))) (ao (JE.d (ah 7)) (ao (JE.d (ah 8)) aV))))))))) cu)
  (bf (bA (aL BL hr rfl BP BO BN (bL (ah 0) (bL (ah 1) (au (JE.d (ah 2)) (au (JE.d (ah 3)) (au (JE.d (ah 4)) aU)))))))))))) hf
noncomputable abbrev dX:Stmt:=top 28
theorem dI:cA ["_law_s","_law_r","_law_row_here","_law_at","_law_here","_law_other","_law_head","_law_due","_law_n"] ["_law_s","_law_r","_law_row_here","_law_at"] (aP dX):=⟨rfl,rfl,rfl,by decide +kernel,rfl,by decide +kernel,by decide +kernel⟩
theorem qU {P:Program}{w:World}{K:PySem.W.Frag}{mg:Str->Option Value}{base:Heap}{f:Addr}{fd:FuncData}{n:Nat}{fm:FM}(F:qq K "_law_step_right" "_law_step_right" dX f fd) (iP:mg "range" =none)
  {gK:Addr}{jv:FuncData}{aG:FM}(dh:bZ P w K mg base gn n gK jv ["saying","row","place"] (spT K 3 aG)) (dj:Binds K jv ["saying","row","place"] []) (dm:PySem.W.keepIn K (.ref gK)=true) (dw:mg "holds" =some (.ref gK))
  (hf:∀us r,fm us=some r->aW 9 (dW aG) us=some r):bZ P w K mg base gn (n+1) f fd ["_law_s","_law_r","_law_row_here","_law_at"] (spT K 4 fm):=
 uu (g:=dW aG) F dI (fun cdv A outer s H E hr=>(aK (bQ (i:=4) dI.nd rfl (by first | exact Or.inl rfl | exact Or.inr rfl) (aL dh hr rfl dw dm dj (au (JE.d (ah 0)) (au (JE.d (ah 2)) (au (JE.d (ah 3)) aU)))))
  (aK (bQ (i:=5) dI.nd rfl (by first | exact Or.inl rfl | exact Or.inr rfl) (aL dh hr rfl dw dm dj (au (JE.d (ah 1)) (au (JE.d (ah 2)) (au (JE.d (ah 3)) aU)))))
  (aK (ow PassesOwn.never rfl (HE (JE.d (gG (ao (JE.d (bM (ao aQ (ao (m9 (JE.d (ah 4)) (iW (JE.d (ah 5)))) aV)))) (ao (JE.d (bM (ao aQ (ao (vJ (JE.d (ah 4)) (iW (JE.d (ah 5)))) aV)))) aV))))) (zx rfl (jX (gZ (i:=6) dI.nd rfl (by first | exact Or.inl rfl | exact Or.inr rfl)) (jX (gZ (i:=7) dI.nd rfl (by first | exact Or.inl rfl | exact Or.inr rfl)) u9))) (bf (cW (bV (kW hr.units) (JE.d (aL dh hr rfl dw dm dj (au (JE.d (bM (ao (JE.d (ah 6)) (ao (JE.d (ah 0)) (ao (JE.d (ah 1)) aV))))) (au (JE.d (ah 2)) (au (JE.d (ah 3)) aU))))) (JE.d (ah 7))) (bf (bA (JD.e iu))) cu)))
  (aK (cW (JW.t (vI (bV (cG hr.units) (JE.d (aL dh hr rfl dw dm dj (au (JE.d (bM (ao aQ (ao (JE.d (ah 0)) aV)))) (au (JE.d (ah 2)) (au (JE.d (ah 3)) aU))))) (JE.d (ah 4))) (kI (bV (kW hr.units) (JE.d (aL dh hr rfl dw dm dj (au (JE.d (bM (ao aQ (ao (JE.d (ah 0)) aV)))) (au (JE.d (ah 2)) (au (JE.d (ah 3)) aU))))) (JE.d (aL dh hr rfl dw dm dj (au (JE.d (ah 0)) (au (JE.d (ah 2)) (au (JE.d (bJ bY (JE.d (ah 3)) aB)) aU))))))))) (bf (bA (JD.e iu))) cu)
  (aK (cW (bV (kW hr.units) (JE.d (aL dh hr rfl dw dm dj (au (JE.d (bM (ao aQ (ao (JE.d (ah 0)) (ao (JE.d (ah 1)) aV))))) (au (JE.d (ah 2)) (au (JE.d (ah 3)) aU))))) (vJ (JE.d (ah 5)) (iW (m9 (JE.d (ah 4)) (iW (JE.d (aL dh hr rfl dw dm dj (au (JE.d (bM (ao aQ (ao (JE.d (ah 0)) (ao (JE.d (ah 1)) aV))))) (au (JE.d (ah 2)) (au (JE.d (bJ bY (JE.d (ah 3)) aB)) aU)))))))))) (bf (bA (JD.e iu))) cu)
  (aK (cW (bV (kW hr.units) (JE.d (aL dh hr rfl dw dm dj (au (JE.d (bM (ao aQ (ao (JE.d (ah 0)) aV)))) (au (JE.d (ah 2)) (au (JE.d (ah 3)) aU))))) (m9 (JE.d (ah 4)) (iW (JE.d (aL dh hr rfl dw dm dj (au (JE.d (bM (ao aQ (ao (JE.d (ah 0)) aV)))) (au (JE.d (ah 2)) (au (JE.d (bJ bY (JE.d (ah 3)) aB)) aU)))))))) (bf (bA (JD.e iu))) cu)
  (aK (cW (bV (kW hr.units) (JE.d (aL dh hr rfl dw dm dj (au (JE.d (bM (ao aQ (ao (JE.d (ah 0)) aV)))) (au (JE.d (ah 2)) (au (JE.d (ah 3)) aU))))) (vJ (JE.d (ah 4)) (iW (JE.d (aL dh hr rfl dw dm dj (au (JE.d (bM (ao aQ (ao (JE.d (ah 0)) aV)))) (au (JE.d (ah 2)) (au (JE.d (bJ bY (JE.d (ah 3)) aB)) aU)))))))) (bf (bA (JD.e iu))) cu)
  (aK (ow PassesOwn.never rfl (EJ rfl iP (ao aB (ao aB aV))) (gZ (i:=8) dI.nd rfl (by first | exact Or.inl rfl | exact Or.inr rfl)) (bf (cW (bV (kW hr.units) (JE.d (aL dh hr rfl dw dm dj (au (JE.d (bM (ao aQ (ao (JE.d (ah 8)) (ao (JE.d (ah 0)) aV))))) (au (JE.d (ah 2)) (au (JE.d (ah 3)) aU))))) (vJ (JE.d (ah 4)) (iW (JE.d (aL dh hr rfl dw dm dj (au (JE.d (bM (ao aQ (ao (JE.d (bJ gw (JE.d (ah 8)) aB)) (ao (JE.d (ah 0)) aV))))) (au (JE.d (ah 2)) (au (JE.d (bJ bY (JE.d (ah 3)) aB)) aU)))))))) (bf (bA (JD.e iu))) cu)))
  (bf (bA (iV pX (JE.d (aL dh hr rfl dw dm dj (au (JE.d (bM (ao aQ (ao aB (ao (JE.d (ah 0)) aV))))) (au (JE.d (ah 2)) (au (JE.d (ah 3)) aU))))) iu)))))))))))) hf
noncomputable abbrev eV:Stmt:=top 29
theorem ie:cA ["_law_s","_law_r","_law_row_here","_law_at","_law_none","_law_saying_here"] ["_law_s","_law_r","_law_row_here"] (aP eV):=⟨rfl,rfl,rfl,by decide +kernel,rfl,by decide +kernel,by decide +kernel⟩
theorem sD {P:Program}{w:World}{K:PySem.W.Frag}{mg:Str->Option Value}{base:Heap}{f:Addr}{fd:FuncData}{n:Nat}{fm:FM}(F:qq K "_law_end_right" "_law_end_right" eV f fd) (gY:mg "len" =none)
  {gK:Addr}{jv:FuncData}{aG:FM}(dh:bZ P w K mg base gn n gK jv ["saying","row","place"] (spT K 3 aG)) (dj:Binds K jv ["saying","row","place"] []) (dm:PySem.W.keepIn K (.ref gK)=true) (dw:mg "holds" =some (.ref gK))
  (hf:∀us r,fm us=some r->aW 6 (eU aG) us=some r):bZ P w K mg base gn (n+1) f fd ["_law_s","_law_r","_law_row_here"] (spT K 3 fm):=
 uu (g:=eU aG) F ie (fun cdv A outer s H E hr=>(aK (bQ (i:=3) ie.nd rfl (by first | exact Or.inl rfl | exact Or.inr rfl) (JD.e (jk (i:=2) rfl gY)))
  (aK (bQ (i:=4) ie.nd rfl (by first | exact Or.inl rfl | exact Or.inr rfl) (gG (ao (JE.d (bM (ao aQ (ao (JE.d (ah 0)) aV)))) (ao (JE.d (bM (ao aQ (ao (JE.d (ah 0)) (ao (JE.d (ah 1)) aV))))) (ao (JE.d (bM (ao aQ (ao aB (ao (JE.d (ah 0)) aV))))) (ao (JE.d (bM (ao aQ (ao (JE.d (ah 0)) aV)))) (ao (JE.d (bM (ao aQ (ao (JE.d (bM (ao aQ aV))) aV)))) (ao (JE.d (bM (ao aQ (ao aQ (ao aQ (ao (JE.d (ah 0)) aV)))))) aV))))))))
  (aK (ow PassesOwn.never rfl (vM (JE.d (ah 4))) (gZ (i:=5) ie.nd rfl (by first | exact Or.inl rfl | exact Or.inr rfl)) (bf (cW (bV uz (JE.d (aL dh hr rfl dw dm dj (au (JE.d (ah 5)) (au (JE.d (ah 2)) (au (JE.d (ah 3)) aU))))) iu) (bf (bA (JD.e iu))) cu)))
  (bf (bA (JD.e (m9 (JE.d (iV pX (JE.d (aL dh hr rfl dw dm dj (au (JE.d (bM (ao aQ (ao (JE.d (ah 0)) aV)))) (au (JE.d (ah 2)) (au (JE.d (ah 3)) aU))))) iu)) (iW (JE.d (iV pX (JE.d (aL dh hr rfl dw dm dj (au (JE.d (bM (ao aQ (ao aQ (ao aQ (ao (JE.d (ah 0)) aV)))))) (au (JE.d (ah 2)) (au (JE.d (ah 3)) aU))))) iu))))))))))) hf
noncomputable abbrev dF:Stmt:=top 30
theorem fZ:cA ["_law_s","_law_row_here","_law_at","_law_name","_law_here","_law_later"] ["_law_s","_law_row_here","_law_at","_law_name"] (aP dF):=⟨rfl,rfl,rfl,by decide +kernel,rfl,by decide +kernel,by decide +kernel⟩
theorem pL {P:Program}{w:World}{K:PySem.W.Frag}{mg:Str->Option Value}{base:Heap}{f:Addr}{fd:FuncData}{n:Nat}{fm:FM}(F:qq K "_law_binder_right" "_law_binder_right" dF f fd)
  {gK:Addr}{jv:FuncData}{aG:FM}(dh:bZ P w K mg base gn n gK jv ["saying","row","place"] (spT K 3 aG)) (dj:Binds K jv ["saying","row","place"] []) (dm:PySem.W.keepIn K (.ref gK)=true) (dw:mg "holds" =some (.ref gK))
  {iD:Addr}{j6:FuncData}{dB:FM}(pe:bZ P w K mg base gn n iD j6 ["saying","x","k"] (spT K 3 dB)) (pg:Binds K j6 ["saying","x","k"] []) (pq:PySem.W.keepIn K (.ref iD)=true) (pA:mg "put_for" =some (.ref iD))
  (hf:∀us r,fm us=some r->aW 6 (cB aG dB) us=some r):bZ P w K mg base gn (n+1) f fd ["_law_s","_law_row_here","_law_at","_law_name"] (spT K 4 fm):=
 uu (g:=cB aG dB) F fZ (fun cdv A outer s H E hr=>(aK (bQ (i:=4) fZ.nd rfl (by first | exact Or.inl rfl | exact Or.inr rfl) (SH (bV (cG hr.units) (JE.d (kh qh (bR (i:=1) (cg hr) (JE.d (ah 2)) (fun _ _=>rfl)) aB (fun _ _=>rfl))) (JE.d (ah 3))) (aL dh hr rfl dw dm dj (au (JE.d (aL pe hr rfl pA pq pg (au (JE.d (ah 0)) (au aQ (au (JE.d (kh qh (bR (i:=1) (cg hr) (JE.d (ah 2)) (fun _ _=>rfl)) aB (fun _ _=>rfl))) aU))))) (au (JE.d (ah 1)) (au (JE.d (ah 2)) aU)))) (JD.e OG)))
  (aK (bQ (i:=5) fZ.nd rfl (by first | exact Or.inl rfl | exact Or.inr rfl) (aL dh hr rfl dw dm dj (au (JE.d (bM (ao aQ (ao (JE.d (ah 3)) (ao aQ (ao (JE.d (ah 0)) aV)))))) (au (JE.d (ah 1)) (au (JE.d (bJ bY (JE.d (ah 2)) aB)) aU)))))
  (aK (cW (bV (kW hr.units) (JE.d (aL dh hr rfl dw dm dj (au (JE.d (bM (ao aQ (ao (JE.d (ah 3)) (ao aQ (ao (JE.d (ah 0)) aV)))))) (au (JE.d (ah 1)) (au (JE.d (ah 2)) aU))))) (m9 (JE.d (ah 5)) (iW (JE.d (iV uz (JE.d (ah 4)) iu))))) (bf (bA (JD.e iu))) cu)
  (aK (bQ (i:=5) fZ.nd rfl (by first | exact Or.inl rfl | exact Or.inr rfl) (aL dh hr rfl dw dm dj (au (JE.d (bM (ao aQ (ao (JE.d (ah 3)) (ao aQ (ao (JE.d (ah 0)) aV)))))) (au (JE.d (ah 1)) (au (JE.d (bJ bY (JE.d (ah 2)) aB)) aU)))))
  (bf (bA (iV (cG hr.units) (JE.d (aL dh hr rfl dw dm dj (au (JE.d (bM (ao aQ (ao (JE.d (ah 3)) (ao aQ (ao (JE.d (ah 0)) aV)))))) (au (JE.d (ah 1)) (au (JE.d (ah 2)) aU))))) (vJ (JE.d (ah 5)) (iW (JE.d (iV pX (JE.d (ah 4)) iu)))))))))))) hf
noncomputable abbrev sE:Stmt:=top 31
theorem lG:cA ["_law_script","_law_k","_law_tape_here","_law_table_here","_law_names_here","_law_row_here","_law_world","_law_s","_law_r","_law_t","_law_at"] ["_law_script"] (aP sE):=⟨rfl,rfl,rfl,by decide +kernel,rfl,by decide +kernel,by decide +kernel⟩
theorem Qw {P:Program}{w:World}{K:PySem.W.Frag}{mg:Str->Option Value}{base:Heap}{f:Addr}{fd:FuncData}{n:Nat}{fm:FM}(F:qq K "law" "law" sE f fd) (gY:mg "len" =none) (iP:mg "range" =none) (Qx:mg "int" =none) (yR:mg "list" =none)
  {qV:Addr}{wV:FuncData}{br:FM}(C3:bZ P w K mg base gn n qV wV ["_law_script","_law_at"] (spT K 2 br)) (C4:Binds K wV ["_law_script","_law_at"] []) (C5:PySem.W.keepIn K (.ref qV)=true) (C6:mg "_law_tape" =some (.ref qV))
  {pM:Addr}{uI:FuncData}{aX:FM}(BQ:bZ P w K mg base gn n pM uI ["_law_tape_here"] (spT K 1 aX)) (BR:Binds K uI ["_law_tape_here"] []) (BS:PySem.W.keepIn K (.ref pM)=true) (BU:mg "_law_table" =some (.ref pM))
  {tY:Addr}{yS:FuncData}{bC:FM}(FY:bZ P w K mg base gn n tY yS ["_law_tape_here","_law_table_here","_law_most"] (spT K 3 bC)) (FZ:Binds K yS ["_law_tape_here","_law_table_here","_law_most"] []) (Ga:PySem.W.keepIn K (.ref tY)=true) (Gb:mg "_law_row" =some (.ref tY))
  {bW:Addr}{cD:FuncData}{az:FM}(bD:bZ P w K mg base gn n bW cD ["_law_tape_here","_law_many"] (spT K 2 az)) (bE:Binds K cD ["_law_tape_here","_law_many"] []) (bF:PySem.W.keepIn K (.ref bW)=true) (bG:mg "_law_pick" =some (.ref bW))
  {dD:Addr}{fY:FuncData}{aF:FM}(eu:bZ P w K mg base gn n dD fY ["_law_tape_here","_law_world","_law_variables","_law_room","_law_deep"] (spT K 5 aF)) (eB:Binds K fY ["_law_tape_here","_law_world","_law_variables","_law_room","_law_deep"] []) (eG:PySem.W.keepIn K (.ref dD)=true) (eL:mg "_law_saying" =some (.ref dD))
  {kg:Addr}{nJ:FuncData}{aM:FM}(uU:bZ P w K mg base gn n kg nJ ["_law_s","_law_r","_law_row_here"] (spT K 3 aM)) (uV:Binds K nJ ["_law_s","_law_r","_law_row_here"] []) (uW:PySem.W.keepIn K (.ref kg)=true) (uX:mg "_law_end_right" =some (.ref kg))
  {J9:Addr}{Nz:FuncData}{dJ:FM}(NB:bZ P w K mg base gn n J9 Nz ["saying","row"] (spT K 2 dJ)) (NC:Binds K Nz ["saying","row"] []) (ND:PySem.W.keepIn K (.ref J9)=true) (NF:mg "fits" =some (.ref J9))
  {gK:Addr}{jv:FuncData}{aG:FM}(dh:bZ P w K mg base gn n gK jv ["saying","row","place"] (spT K 3 aG)) (dj:Binds K jv ["saying","row","place"] []) (dm:PySem.W.keepIn K (.ref gK)=true) (dw:mg "holds" =some (.ref gK))
  {jU:Addr}{mZ:FuncData}{aJ:FM}(tZ:bZ P w K mg base gn n jU mZ ["_law_s","_law_r","_law_row_here","_law_at"] (spT K 4 aJ)) (uc:Binds K mZ ["_law_s","_law_r","_law_row_here","_law_at"] []) (ud:PySem.W.keepIn K (.ref jU)=true) (ue:mg "_law_step_right" =some (.ref jU))
  {i7:Addr}{lH:FuncData}{aD:FM}(lI:bZ P w K mg base gn n i7 lH ["_law_s","_law_row_here","_law_at","_law_name"] (spT K 4 aD)) (lJ:Binds K lH ["_law_s","_law_row_here","_law_at","_law_name"] []) (lK:PySem.W.keepIn K (.ref i7)=true) (lM:mg "_law_binder_right" =some (.ref i7))
  (hf:∀us r,fm us=some r->aW 11 (Sj.BD br aX bC az aF aM dJ aG aJ aD) us=some r):bZ P w K mg base gn (n+1) f fd ["_law_script"] (spT K 1 fm):=
 uu (g:=Sj.BD br aX bC az aF aM dJ aG aJ aD) F lG (fun cdv A outer s H E hr=>(aK (ow PassesOwn.never rfl (pQ rfl iP (ao (JE.d (bJ bY aB (JE.d (rB EG rfl gY PySem.boot_len (ao (JE.d (EO (i:=0) jm (iH aB))) aV))))) aV)) (gZ (i:=1) lG.nd rfl (by first | exact Or.inl rfl | exact Or.inr rfl)) (aK (bQ (i:=2) lG.nd rfl (by first | exact Or.inl rfl | exact Or.inr rfl) (aL C3 hr rfl C6 C5 C4 (bL (ah 0) (au (JE.d (ah 1)) aU))))
  (aK (bQ (i:=3) lG.nd rfl (by first | exact Or.inl rfl | exact Or.inr rfl) (aL BQ hr rfl BU BS BR (bL (ah 2) aU)))
  (aK (bQ (i:=4) lG.nd rfl (by first | exact Or.inl rfl | exact Or.inr rfl) (bJ bY (JE.d (bJ zG (JE.d (Ih ⟨(m8 (by decide) (by decide) rfl (by decide) rfl),rfl,by decide⟩ rfl (HE (JE.d (ah 3))) (fun _ _ _ _=>nh) (fun _ _ _ _=>(JE.d (ah 0))))) aB)) (JE.d (gG (ao aQ aV)))))
  (aK (bQ (i:=5) lG.nd rfl (by first | exact Or.inl rfl | exact Or.inr rfl) (aL FY hr rfl Gb Ga FZ (bL (ah 2) (au (JE.d (ah 3)) (au (JE.d (kh qh (JE.d (gG (ao aB (ao aB aV)))) (JE.d (yg ER rfl Qx PyProof.Rows.Boot.int (ao (JE.d (iV (cG hr.units) (JE.d (aL bD hr rfl bG bF bE (bL (ah 2) (au aB aU)))) aB)) aV))) (fun _ _=>rfl))) aU)))))
  (aK (bQ (i:=6) lG.nd rfl (by first | exact Or.inl rfl | exact Or.inr rfl) (DK (hk:=Nat.le_of_ble_eq_true rfl) (oJ (JE.d (ah 4)) (oJ aB DJ))))
  (aK (bQ (i:=7) lG.nd rfl (by first | exact Or.inl rfl | exact Or.inr rfl) (aL eu hr rfl eL eG eB (bL (ah 2) (bL (ah 6) (au (JE.d (bM aV)) (au (JE.d (bJ bY aB (JE.d (aL bD hr rfl bG bF bE (bL (ah 2) (au aB aU)))))) (au (JE.d (bJ bY aB (JE.d (aL bD hr rfl bG bF bE (bL (ah 2) (au aB aU)))))) aU)))))))
  (aK (bQ (i:=8) lG.nd rfl (by first | exact Or.inl rfl | exact Or.inr rfl) (aL eu hr rfl eL eG eB (bL (ah 2) (bL (ah 6) (au (JE.d (bM aV)) (au (JE.d (bJ bY aB (JE.d (aL bD hr rfl bG bF bE (bL (ah 2) (au aB aU)))))) (au (JE.d (bJ bY aB (JE.d (aL bD hr rfl bG bF bE (bL (ah 2) (au aB aU)))))) aU)))))))
  (aK (vV (i:=6) (cg hr) aQ aB)
  (aK (bQ (i:=9) lG.nd rfl (by first | exact Or.inl rfl | exact Or.inr rfl) (aL eu hr rfl eL eG eB (bL (ah 2) (bL (ah 6) (au (JE.d (bM (ao aQ aV))) (au (JE.d (bJ bY aB (JE.d (aL bD hr rfl bG bF bE (bL (ah 2) (au aB aU)))))) (au (JE.d (bJ bY aB (JE.d (aL bD hr rfl bG bF bE (bL (ah 2) (au aB aU)))))) aU)))))))
  (aK (cW (JW.t (vI (zq (vG (JE.d (aL uU hr rfl uX uW uV (au (JE.d (ah 7)) (au (JE.d (ah 8)) (au (JE.d (ah 5)) aU))))))) (kI (bV (kW hr.units) (JE.d (aL NB hr rfl NF ND NC (au (JE.d (ah 7)) (au (JE.d (ah 5)) aU)))) (JE.d (aL dh hr rfl dw dm dj (au (JE.d (ah 7)) (au (JE.d (ah 5)) (au aB aU))))))))) (bf (bA (JD.e iu))) cu)
  (bf (ow PassesOwn.never rfl (vM (JE.d (iw (JE.d (A9 rfl rfl yR rfl iP (ao (jk (i:=5) rfl gY) aV))) (iH (JE.d (uo lY aB))) jm))) (gZ (i:=10) lG.nd rfl (by first | exact Or.inl rfl | exact Or.inr rfl)) (aK (cW (JW.t (vI (zq (vG (JE.d (aL tZ hr rfl ue ud uc (au (JE.d (ah 7)) (au (JE.d (ah 8)) (au (JE.d (ah 5)) (au (JE.d (ah 10)) aU)))))))) (kI (zq (vG (JE.d (aL lI hr rfl lM lK lJ (au (JE.d (ah 9)) (au (JE.d (ah 5)) (au (JE.d (ah 10)) (au (JE.d (kh qh (bR (i:=5) (cg hr) (JE.d (ah 10)) (fun _ _=>rfl)) aB (fun _ _=>rfl))) aU))))))))))) (bf (bA (JD.e iu))) cu)
  (bf (cW (JW.t (vI (zq (vG (JE.d (aL lI hr rfl lM lK lJ (au (JE.d (ah 9)) (au (JE.d (ah 5)) (au (JE.d (ah 10)) (au (bR (i:=4) (cg hr) aB (fun _ _=>rfl)) aU)))))))) (kI (bV (kW hr.units) (JE.d (aL dh hr rfl dw dm dj (au (JE.d (ah 7)) (au (JE.d (ah 5)) (au (JE.d (ah 10)) aU))))) (JE.d (aL NB hr rfl NF ND NC (au (JE.d (ah 7)) (au (JE.d (iw (JE.d (ah 5)) (iH (JE.d (ah 10))) jm)) aU)))))))) (bf (bA (JD.e iu))) cu))))))))))))))))
  (bf (bA (JD.e iu))))) hf
end K09
end
namespace K09
open PySem L2 Sw Ss Sn Sp Sh Sj
set_option maxHeartbeats 0 in
theorem all_mk {l:PySem.W.OpenLaw}{w:World}{K:PySem.W.Frag}{h:Heap}{mg:Str->Option Value}{fa f1 f2 f3 f4 f5 f6 f7 f8 f9 Zh f11 Zi Zj Zk Zl Zm Zn Zo Zp Zq V3 V4 Zr Zs Zt Zu:Addr}(X:K.In h) (G:h.Ns mainGlobals mg) (SN:mg "law" =some (.ref fa))
  {od1 an1 od2 an2 od3 an3 od4 an4 od5 an5 od6 an6 od7 an7 od8 an8 od9 an9 Zv Zw Zx Zy Zz ZA ZC ZD ZE ZF ZG ZI ZJ ZK ZL ZM ZN ZO ZP ZQ ZR ZS ZT Ur ZU Us ZV ZX ZY ZZ Z0 Z1 Z2 Ut:Option Addr}{sl1 sl2 sl3 sl4 sl5 sl6 sl7 sl8 sl9 Z3 Z4 Z5 Z6 Z7 Z8 Z9 aaa aab aac aad aae aaf aag aah aai aaj:Array (Option Value)} {oc1 kV1 dc1 pm1 cd1 ct1 oc2 kV2 dc2 pm2 cd2 ct2 oc3 kV3 dc3 pm3 cd3 ct3 oc4 kV4 dc4 pm4 cd4 ct4 oc5 kV5 dc5 pm5 cd5 ct5 oc6 kV6 dc6 pm6 cd6 ct6 oc7 kV7 dc7 pm7 cd7 ct7 oc8 kV8 dc8 pm8 cd8 ct8 oc9 kV9 dc9 pm9 cd9 ct9 aao aap aaq aar Uu aas aat aau aav aaw Uv aax aay aaz aaA aaB Uw aaC aaD aaE aaF aaG Ux aaH aaI aaJ aaK aaL Uy aaM aaN aaO aaP aaQ Uz aaR aaS aaT aaU aaV UA aaW aaX aaY aaZ aa0 UB aa1 aa2 aa3 aa4 aa5 UC aa6 aa7 aa8 aa9 aba UD abb abd abe abf abg UE abh abi UG UH UI Qy UJ abj UK UL UM Qz UO abk abl abm abn UP abo abp abq abr abt UQ abu abv abw abx aby UR abz abA US UT UU QA UW:Value}{kG:Addr}{BV:List DictEntry}{Ka:Nat}{o9:Addr}{uf:List Value}{Gd:Nat}{Ge:Option Addr}{Gf:Array (Option Value)}
  (a1:PySem.W.nsIn K mainGlobals "passes" =some (some (.ref f1))) (l1:K.lookup f1=some ⟨oc1,od1,.func (PySem.W.fnOf "passes" "passes" (bX mX) (bS mX) (aP mX) .none kV1 dc1 pm1 an1 cd1 ct1),sl1⟩) (c1:PySem.W.codeIn K cd1 "passes" =true) (k1:PySem.W.keepIn K (.ref f1)=true)
  (a2:PySem.W.nsIn K mainGlobals "parts_of" =some (some (.ref f2))) (l2:K.lookup f2=some ⟨oc2,od2,.func (PySem.W.fnOf "parts_of" "parts_of" (bX jN) (bS jN) (aP jN) .none kV2 dc2 pm2 an2 cd2 ct2),sl2⟩) (c2:PySem.W.codeIn K cd2 "parts_of" =true) (k2:PySem.W.keepIn K (.ref f2)=true)
  (a3:PySem.W.nsIn K mainGlobals "has_variable" =some (some (.ref f3))) (l3:K.lookup f3=some ⟨oc3,od3,.func (PySem.W.fnOf "has_variable" "has_variable" (bX gB) (bS gB) (aP gB) .none kV3 dc3 pm3 an3 cd3 ct3),sl3⟩) (c3:PySem.W.codeIn K cd3 "has_variable" =true) (k3:PySem.W.keepIn K (.ref f3)=true)
  (a4:PySem.W.nsIn K mainGlobals "put_for" =some (some (.ref f4))) (l4:K.lookup f4=some ⟨oc4,od4,.func (PySem.W.fnOf "put_for" "put_for" (bX iK) (bS iK) (aP iK) .none kV4 dc4 pm4 an4 cd4 ct4),sl4⟩) (c4:PySem.W.codeIn K cd4 "put_for" =true) (k4:PySem.W.keepIn K (.ref f4)=true)
  (a5:PySem.W.nsIn K mainGlobals "holds" =some (some (.ref f5))) (l5:K.lookup f5=some ⟨oc5,od5,.func (PySem.W.fnOf "holds" "holds" (bX qg) (bS qg) (aP qg) .none kV5 dc5 pm5 an5 cd5 ct5),sl5⟩) (c5:PySem.W.codeIn K cd5 "holds" =true) (k5:PySem.W.keepIn K (.ref f5)=true)
  (a6:PySem.W.nsIn K mainGlobals "fits" =some (some (.ref f6))) (l6:K.lookup f6=some ⟨oc6,od6,.func (PySem.W.fnOf "fits" "fits" (bX tR) (bS tR) (aP tR) .none kV6 dc6 pm6 an6 cd6 ct6),sl6⟩) (c6:PySem.W.codeIn K cd6 "fits" =true) (k6:PySem.W.keepIn K (.ref f6)=true)
  (a7:PySem.W.nsIn K mainGlobals "truths_of" =some (some (.ref f7))) (l7:K.lookup f7=some ⟨oc7,od7,.func (PySem.W.fnOf "truths_of" "truths_of" (bX fX) (bS fX) (aP fX) .none kV7 dc7 pm7 an7 cd7 ct7),sl7⟩) (c7:PySem.W.codeIn K cd7 "truths_of" =true) (k7:PySem.W.keepIn K (.ref f7)=true)
  (a8:PySem.W.nsIn K mainGlobals "truths_by_head" =some (some (.ref f8))) (l8:K.lookup f8=some ⟨oc8,od8,.func (PySem.W.fnOf "truths_by_head" "truths_by_head" (bX cI) (bS cI) (aP cI) .none kV8 dc8 pm8 an8 cd8 ct8),sl8⟩) (c8:PySem.W.codeIn K cd8 "truths_by_head" =true) (k8:PySem.W.keepIn K (.ref f8)=true)
  (a9:PySem.W.nsIn K mainGlobals "at_happenings" =some (some (.ref f9))) (l9:K.lookup f9=some ⟨oc9,od9,.func (PySem.W.fnOf "at_happenings" "at_happenings" (bX cR) (bS cR) (aP cR) .none kV9 dc9 pm9 an9 cd9 ct9),sl9⟩) (c9:PySem.W.codeIn K cd9 "at_happenings" =true) (k9:PySem.W.keepIn K (.ref f9)=true)
  (a10:PySem.W.nsIn K mainGlobals "turned_truths" =some (some (.ref Zh))) (l10:K.lookup Zh=some ⟨aao,Zv,.func (PySem.W.fnOf "turned_truths" "turned_truths" (bX fK) (bS fK) (aP fK) .none aap aaq aar Zw Uu aas),Z3⟩) (c10:PySem.W.codeIn K Uu "turned_truths" =true) (UX:PySem.W.keepIn K (.ref Zh)=true)
  (a11:PySem.W.nsIn K mainGlobals "come_to" =some (some (.ref f11))) (l11:K.lookup f11=some ⟨aat,Zx,.func (PySem.W.fnOf "come_to" "come_to" (bX kL) (bS kL) (aP kL) .none aau aav aaw Zy Uv aax),Z4⟩) (c11:PySem.W.codeIn K Uv "come_to" =true) (UY:PySem.W.keepIn K (.ref f11)=true)
  (a12:PySem.W.nsIn K mainGlobals "at_some" =some (some (.ref Zi))) (l12:K.lookup Zi=some ⟨aay,Zz,.func (PySem.W.fnOf "at_some" "at_some" (bX kM) (bS kM) (aP kM) .none aaz aaA aaB ZA Uw aaC),Z5⟩) (c12:PySem.W.codeIn K Uw "at_some" =true) (Hq:PySem.W.keepIn K (.ref Zi)=true)
  (a13:PySem.W.nsIn K mainGlobals "at_all" =some (some (.ref Zj))) (l13:K.lookup Zj=some ⟨aaD,ZC,.func (PySem.W.fnOf "at_all" "at_all" (bX mY) (bS mY) (aP mY) .none aaE aaF aaG ZD Ux aaH),Z6⟩) (c13:PySem.W.codeIn K Ux "at_all" =true) (V5:PySem.W.keepIn K (.ref Zj)=true)
  (a14:PySem.W.nsIn K mainGlobals "soon" =some (some (.ref Zk))) (l14:K.lookup Zk=some ⟨aaI,ZE,.func (PySem.W.fnOf "soon" "soon" (bX tX) (bS tX) (aP tX) .none aaJ aaK aaL ZF Uy aaM),Z7⟩) (c14:PySem.W.codeIn K Uy "soon" =true) (V6:PySem.W.keepIn K (.ref Zk)=true)
  (a15:PySem.W.nsIn K mainGlobals "_law_tape" =some (some (.ref Zl))) (l15:K.lookup Zl=some ⟨aaN,ZG,.func (PySem.W.fnOf "_law_tape" "_law_tape" (bX jc) (bS jc) (aP jc) .none aaO aaP aaQ ZI Uz aaR),Z8⟩) (c15:PySem.W.codeIn K Uz "_law_tape" =true) (V7:PySem.W.keepIn K (.ref Zl)=true)
  (a16:PySem.W.nsIn K mainGlobals "_law_pick" =some (some (.ref Zm))) (l16:K.lookup Zm=some ⟨aaS,ZJ,.func (PySem.W.fnOf "_law_pick" "_law_pick" (bX jd) (bS jd) (aP jd) .none aaT aaU aaV ZK UA aaW),Z9⟩) (c16:PySem.W.codeIn K UA "_law_pick" =true) (MR:PySem.W.keepIn K (.ref Zm)=true)
  (a17:PySem.W.nsIn K mainGlobals "_law_names" =some (some (.ref Zn))) (l17:K.lookup Zn=some ⟨aaX,ZL,.func (PySem.W.fnOf "_law_names" "_law_names" (bX iL) (bS iL) (aP iL) .none aaY aaZ aa0 ZM UB aa1),aaa⟩) (c17:PySem.W.codeIn K UB "_law_names" =true) (V8:PySem.W.keepIn K (.ref Zn)=true)
  (a18:PySem.W.nsIn K mainGlobals "_law_table" =some (some (.ref Zo))) (l18:K.lookup Zo=some ⟨aa2,ZN,.func (PySem.W.fnOf "_law_table" "_law_table" (bX iM) (bS iM) (aP iM) .none aa3 aa4 aa5 ZO UC aa6),aab⟩) (c18:PySem.W.codeIn K UC "_law_table" =true) (V9:PySem.W.keepIn K (.ref Zo)=true)
  (a19:PySem.W.nsIn K mainGlobals "_law_row" =some (some (.ref Zp))) (l19:K.lookup Zp=some ⟨aa7,ZP,.func (PySem.W.fnOf "_law_row" "_law_row" (bX jT) (bS jT) (aP jT) .none aa8 aa9 aba ZQ UD abb),aac⟩) (c19:PySem.W.codeIn K UD "_law_row" =true) (Wa:PySem.W.keepIn K (.ref Zp)=true)
  (a20:PySem.W.nsIn K mainGlobals "_law_test" =some (some (.ref Zq))) (l20:K.lookup Zq=some ⟨abd,ZR,.func (PySem.W.fnOf "_law_test" "_law_test" (bX jf) (bS jf) (aP jf) .none abe abf abg ZS UE abh),aad⟩) (c20:PySem.W.codeIn K UE "_law_test" =true) (Wb:PySem.W.keepIn K (.ref Zq)=true)
  (a21:PySem.W.nsIn K mainGlobals "_law_inner" =some (some (.ref V3))) (l21:K.lookup V3=some ⟨abi,ZT,.func (PySem.W.fnOf "_law_inner" "_law_inner" (bX d9) (bS d9) (aP d9) .none UG UH UI Ur Qy UJ),aae⟩) (c21:PySem.W.codeIn K Qy "_law_inner" =true) (Wc:PySem.W.keepIn K (.ref V3)=true)
  (a22:PySem.W.nsIn K mainGlobals "_law_saying" =some (some (.ref V4))) (l22:K.lookup V4=some ⟨abj,ZU,.func (PySem.W.fnOf "_law_saying" "_law_saying" (bX dN) (bS dN) (aP dN) .none UK UL UM Us Qz UO),aaf⟩) (c22:PySem.W.codeIn K Qz "_law_saying" =true) (Ri:PySem.W.keepIn K (.ref V4)=true)
  (a23:PySem.W.nsIn K mainGlobals "_law_step_right" =some (some (.ref Zr))) (l23:K.lookup Zr=some ⟨abk,ZV,.func (PySem.W.fnOf "_law_step_right" "_law_step_right" (bX dX) (bS dX) (aP dX) .none abl abm abn ZX UP abo),aag⟩) (c23:PySem.W.codeIn K UP "_law_step_right" =true) (Wd:PySem.W.keepIn K (.ref Zr)=true)
  (a24:PySem.W.nsIn K mainGlobals "_law_end_right" =some (some (.ref Zs))) (l24:K.lookup Zs=some ⟨abp,ZY,.func (PySem.W.fnOf "_law_end_right" "_law_end_right" (bX eV) (bS eV) (aP eV) .none abq abr abt ZZ UQ abu),aah⟩) (c24:PySem.W.codeIn K UQ "_law_end_right" =true) (We:PySem.W.keepIn K (.ref Zs)=true)
  (a25:PySem.W.nsIn K mainGlobals "_law_binder_right" =some (some (.ref Zt))) (l25:K.lookup Zt=some ⟨abv,Z0,.func (PySem.W.fnOf "_law_binder_right" "_law_binder_right" (bX dF) (bS dF) (aP dF) .none abw abx aby Z1 UR abz),aai⟩) (c25:PySem.W.codeIn K UR "_law_binder_right" =true) (Wf:PySem.W.keepIn K (.ref Zt)=true)
  (a26:PySem.W.nsIn K mainGlobals "law" =some (some (.ref Zu))) (l26:K.lookup Zu=some ⟨abA,Z2,.func (PySem.W.fnOf "law" "law" (bX sE) (bS sE) (aP sE) .none US UT UU Ut QA UW),aaj⟩) (c26:PySem.W.codeIn K QA "law" =true) (k26:PySem.W.keepIn K (.ref Zu)=true)
  (Ah:PySem.W.nsIn K mainGlobals "STARTS" =some (some (.ref kG))) (Ai:K.lookup kG=some ⟨.type "dict",none,.dict BV.toArray Ka,#[]⟩) (Aj:(kG == sysModules)=false) (Ak:vZ w [("yes",1),("no",1),("now",2),("not",1),("both",1),("either",1),("next",1),("till",1),("within",2),("always",1),("some",1),("each",3),("one",3)] BV)
  (wW:PySem.W.nsIn K mainGlobals "BINDERS" =some (some (.ref o9))) (wX:K.lookup o9=some ⟨.type "tuple",Ge,.seq uf.toArray Gd,Gf⟩) (wY:uf.length<=1000) (wZ:zM ["each","one"] uf)
  (QB:PySem.W.nsIn K mainGlobals "len" =some none) (pN:PySem.W.nsIn K mainGlobals "isinstance" =some none) (QC:PySem.W.nsIn K mainGlobals "str" =some none) (C7:PySem.W.nsIn K mainGlobals "tuple" =some none) (QD:PySem.W.nsIn K mainGlobals "zip" =some none) (qW:PySem.W.nsIn K mainGlobals "enumerate" =some none) (Kc:PySem.W.nsIn K mainGlobals "list" =some none) (ug:PySem.W.nsIn K mainGlobals "reversed" =some none) (C8:PySem.W.nsIn K mainGlobals "range" =some none) (QE:PySem.W.nsIn K mainGlobals "any" =some none) (QF:PySem.W.nsIn K mainGlobals "max" =some none) (QG:PySem.W.nsIn K mainGlobals "min" =some none) (QH:PySem.W.nsIn K mainGlobals "int" =some none):
  ∃fd:FuncData,(∀(s:Shared) (v:Value),BindsTo s fd ⟨[v],[]⟩ [("_law_script",v)])/\∀base:Heap,K.In base->base.Ns mainGlobals mg->bZ l.prog w K mg base gn 37 fa fd ["_law_script"] (spT K 1 (CH 63)):=by
 have e:=SN.symm.trans (PySem.W.mg_of X G a26)
 cases e
 have F1:=dO (st:=mX) l1 c1 k1
 have b1:=F1.binds (ps:=["test","happening"]) fun _ _ _ _ _ _ us hl=>match us,hl with | [_,_],_=>rfl
 have n1:=PySem.W.mg_of X G a1
 have F2:=dO (st:=jN) l2 c2 k2
 have b2:=F2.binds (ps:=["saying"]) fun _ _ _ _ _ _ us hl=>match us,hl with | [_],_=>rfl
 have n2:=PySem.W.mg_of X G a2
 have F3:=dO (st:=gB) l3 c3 k3
 have b3:=F3.binds (ps:=["test"]) fun _ _ _ _ _ _ us hl=>match us,hl with | [_],_=>rfl
 have n3:=PySem.W.mg_of X G a3
 have F4:=dO (st:=iK) l4 c4 k4
 have b4:=F4.binds (ps:=["saying","x","k"]) fun _ _ _ _ _ _ us hl=>match us,hl with | [_,_,_],_=>rfl
 have n4:=PySem.W.mg_of X G a4
 have F5:=dO (st:=qg) l5 c5 k5
 have b5:=F5.binds (ps:=["saying","row","place"]) fun _ _ _ _ _ _ us hl=>match us,hl with | [_,_,_],_=>rfl
 have n5:=PySem.W.mg_of X G a5
 have F6:=dO (st:=tR) l6 c6 k6
 have b6:=F6.binds (ps:=["saying","row"]) fun _ _ _ _ _ _ us hl=>match us,hl with | [_,_],_=>rfl
 have n6:=PySem.W.mg_of X G a6
 have F7:=dO (st:=fX) l7 c7 k7
 have b7:=F7.binds (ps:=["saying","row","known"]) fun _ _ _ _ _ _ us hl=>match us,hl with | [_,_,_],_=>rfl
 have n7:=PySem.W.mg_of X G a7
 have F8:=dO (st:=cI) l8 c8 k8
 have b8:=F8.binds (ps:=["saying","row","known"]) fun _ _ _ _ _ _ us hl=>match us,hl with | [_,_,_],_=>rfl
 have n8:=PySem.W.mg_of X G a8
 have F9:=dO (st:=cR) l9 c9 k9
 have b9:=F9.binds (ps:=["saying","row","known"]) fun _ _ _ _ _ _ us hl=>match us,hl with | [_,_,_],_=>rfl
 have n9:=PySem.W.mg_of X G a9
 have F10:=dO (st:=fK) l10 c10 UX
 have b10:=F10.binds (ps:=["truths"]) fun _ _ _ _ _ _ us hl=>match us,hl with | [_],_=>rfl
 have n10:=PySem.W.mg_of X G a10
 have F11:=dO (st:=kL) l11 c11 UY
 have b11:=F11.binds (ps:=["stays","comes"]) fun _ _ _ _ _ _ us hl=>match us,hl with | [_,_],_=>rfl
 have n11:=PySem.W.mg_of X G a11
 have F12:=dO (st:=kM) l12 c12 Hq
 have b12:=F12.binds (ps:=["truths"]) fun _ _ _ _ _ _ us hl=>match us,hl with | [_],_=>rfl
 have n12:=PySem.W.mg_of X G a12
 have F13:=dO (st:=mY) l13 c13 V5
 have b13:=F13.binds (ps:=["truths"]) fun _ _ _ _ _ _ us hl=>match us,hl with | [_],_=>rfl
 have n13:=PySem.W.mg_of X G a13
 have F14:=dO (st:=tX) l14 c14 V6
 have b14:=F14.binds (ps:=["n","truths"]) fun _ _ _ _ _ _ us hl=>match us,hl with | [_,_],_=>rfl
 have n14:=PySem.W.mg_of X G a14
 have F15:=dO (st:=jc) l15 c15 V7
 have b15:=F15.binds (ps:=["_law_script","_law_at"]) fun _ _ _ _ _ _ us hl=>match us,hl with | [_,_],_=>rfl
 have n15:=PySem.W.mg_of X G a15
 have F16:=dO (st:=jd) l16 c16 MR
 have Rj:=F16.binds (ps:=["_law_tape_here","_law_many"]) fun _ _ _ _ _ _ us hl=>match us,hl with | [_,_],_=>rfl
 have Rk:=PySem.W.mg_of X G a16
 have F17:=dO (st:=iL) l17 c17 V8
 have b17:=F17.binds (ps:=[]) fun _ _ _ _ _ _ us hl=>match us,hl with | [],_=>rfl
 have n17:=PySem.W.mg_of X G a17
 have F18:=dO (st:=iM) l18 c18 V9
 have b18:=F18.binds (ps:=["_law_tape_here"]) fun _ _ _ _ _ _ us hl=>match us,hl with | [_],_=>rfl
 have n18:=PySem.W.mg_of X G a18
 have F19:=dO (st:=jT) l19 c19 Wa
 have b19:=F19.binds (ps:=["_law_tape_here","_law_table_here","_law_most"]) fun _ _ _ _ _ _ us hl=>match us,hl with | [_,_,_],_=>rfl
 have n19:=PySem.W.mg_of X G a19
 have F20:=dO (st:=jf) l20 c20 Wb
 have b20:=F20.binds (ps:=["_law_tape_here","_law_names_here","_law_variables"]) fun _ _ _ _ _ _ us hl=>match us,hl with | [_,_,_],_=>rfl
 have n20:=PySem.W.mg_of X G a20
 have F21:=dO (st:=d9) l21 c21 Wc
 have b21:=F21.binds (ps:=["_law_tape_here","_law_world","_law_variables","_law_room","_law_deep"]) fun _ _ _ _ _ _ us hl=>match us,hl with | [_,_,_,_,_],_=>rfl
 have n21:=PySem.W.mg_of X G a21
 have F22:=dO (st:=dN) l22 c22 Ri
 have b22:=F22.binds (ps:=["_law_tape_here","_law_world","_law_variables","_law_room","_law_deep"]) fun _ _ _ _ _ _ us hl=>match us,hl with | [_,_,_,_,_],_=>rfl
 have n22:=PySem.W.mg_of X G a22
 have F23:=dO (st:=dX) l23 c23 Wd
 have b23:=F23.binds (ps:=["_law_s","_law_r","_law_row_here","_law_at"]) fun _ _ _ _ _ _ us hl=>match us,hl with | [_,_,_,_],_=>rfl
 have n23:=PySem.W.mg_of X G a23
 have F24:=dO (st:=eV) l24 c24 We
 have b24:=F24.binds (ps:=["_law_s","_law_r","_law_row_here"]) fun _ _ _ _ _ _ us hl=>match us,hl with | [_,_,_],_=>rfl
 have n24:=PySem.W.mg_of X G a24
 have F25:=dO (st:=dF) l25 c25 Wf
 have b25:=F25.binds (ps:=["_law_s","_law_row_here","_law_at","_law_name"]) fun _ _ _ _ _ _ us hl=>match us,hl with | [_,_,_,_],_=>rfl
 have n25:=PySem.W.mg_of X G a25
 have F26:=dO (st:=sE) l26 c26 k26
 have gY:=PySem.W.mg_none_of X G QB
 have o8:=PySem.W.mg_none_of X G pN
 have Qt:=PySem.W.mg_none_of X G QC
 have CT:=PySem.W.mg_none_of X G C7
 have CU:=PySem.W.mg_none_of X G QD
 have qR:=PySem.W.mg_none_of X G qW
 have yR:=PySem.W.mg_none_of X G Kc
 have tW:=PySem.W.mg_none_of X G ug
 have iP:=PySem.W.mg_none_of X G C8
 have many:=PySem.W.mg_none_of X G QE
 have Qu:=PySem.W.mg_none_of X G QF
 have Qv:=PySem.W.mg_none_of X G QG
 have Qx:=PySem.W.mg_none_of X G QH
 have qc:=PySem.W.mg_of X G Ah
 have qd:=Ly (P:=l.prog) Ai Aj Ak
 have wK:=PySem.W.mg_of X G wW
 have wL:=LA wX wY wZ
 refine⟨PySem.W.fnOf "law" "law" (bX sE) (bS sE) (aP sE) .none US UT UU Ut QA UW,fun s v=>.of_eq rfl,fun base _ _=>?_⟩
 have MS:=FL (P:=l.prog) (w:=w) (K:=K) (mg:=mg) (base:=base) (n:=0) F1 (fm:=nH) Jp
 have Gg:=BF (P:=l.prog) (w:=w) (K:=K) (mg:=mg) (base:=base) (n:=0) F2 qc qd (fm:=qP) Fc
 have xQ:=uP (P:=l.prog) (w:=w) (K:=K) (mg:=mg) (base:=base) (n:=0) F3 gY o8 Qt (fm:=DX) PD
 have pO:=tV (P:=l.prog) (w:=w) (K:=K) (mg:=mg) (base:=base) (n:=0) F10 (fm:=turnF) Jg
 have BW:=CV (P:=l.prog) (w:=w) (K:=K) (mg:=mg) (base:=base) (n:=0) F11 yR CU tW (fm:=oZ) Jh
 have UZ:=MQ (P:=l.prog) (w:=w) (K:=K) (mg:=mg) (base:=base) (n:=0) F14 gY iP many (fm:=yK) Jk
 have C9:=Ae (P:=l.prog) (w:=w) (K:=K) (mg:=mg) (base:=base) (n:=0) F15 gY Qu (fm:=jD) Iv
 have jV:=Af (P:=l.prog) (w:=w) (K:=K) (mg:=mg) (base:=base) (n:=0) F16 (fm:=cS) pick_run
 have BX:=xN (P:=l.prog) (w:=w) (K:=K) (mg:=mg) (base:=base) (n:=0) F17 (fm:=mF) E3
 have BY:=CY (P:=l.prog) (w:=w) (K:=K) (mg:=mg) (base:=base) (n:=1) F12 gY (BW.mono (by omega)) b11 UY n11 (fm:=Sh.qA) Sh.Jj
 have BZ:=xO (P:=l.prog) (w:=w) (K:=K) (mg:=mg) (base:=base) (n:=1) F18 iP gY Qv (BX.mono (by omega)) b17 V8 n17 (jV.mono (by omega)) Rj MR Rk (fm:=gX) E5
 have Gh:=BK (P:=l.prog) (w:=w) (K:=K) (mg:=mg) (base:=base) (n:=1) F19 iP gY (jV.mono (by omega)) Rj MR Rk (fm:=nN) LH
 have Dc:=Ag (P:=l.prog) (w:=w) (K:=K) (mg:=mg) (base:=base) (n:=1) F20 gY (jV.mono (by omega)) Rj MR Rk (fm:=lz) Fd
 have MT:=FW (P:=l.prog) (w:=w) (K:=K) (mg:=mg) (base:=base) (n:=2) F13 (pO.mono (by omega)) b10 UX n10 (BY.mono (by omega)) b12 Hq n12 (fm:=Sh.Ft) Sh.L5
 have Ke:∀j:Nat,bZ l.prog w K mg base gn (j+1) f4 (PySem.W.fnOf "put_for" "put_for" (bX iK) (bS iK) (aP iK) .none kV4 dc4 pm4 an4 cd4 ct4) ["saying","x","k"] (spT K 3 (mT j)):=by
  intro j
  induction j with
  | zero=>exact sY (Fo)
  | succ j ih=>exact(CS (P:=l.prog) (w:=w) (K:=K) (mg:=mg) (base:=base) (n:=j+1) F4 CT wK wL qc qd (xQ.mono (by omega)) b3 k3 n3 (Gg.mono (by omega)) b2 k2 n2 ih b4 k4 n4 (LY j)).mono (by omega)
 have B0:=Ke 9
 have sF:∀j:Nat,bZ l.prog w K mg base gn (j+2) V4 (PySem.W.fnOf "_law_saying" "_law_saying" (bX dN) (bS dN) (aP dN) .none UK UL UM Us Qz UO) ["_law_tape_here","_law_world","_law_variables","_law_room","_law_deep"] (spT K 5 (lT j))/\bZ l.prog w K mg base gn (j+2) V3 (PySem.W.fnOf "_law_inner" "_law_inner" (bX d9) (bS d9) (aP d9) .none UG UH UI Ur Qy UJ) ["_law_tape_here","_law_world","_law_variables","_law_room","_law_deep"] (spT K 5 (IP j)):=by
  intro j
  induction j with
  | zero=>exact⟨sY Ff,sY Fg⟩
  | succ j ih=>exact⟨(wR (P:=l.prog) (w:=w) (K:=K) (mg:=mg) (base:=base) (n:=j+2) F22 (jV.mono (by omega)) Rj MR Rk (Dc.mono (by omega)) b20 Wb n20 ih.1 b22 Ri n22 ih.2 b21 Wc n21 (LR j)).mono (by omega),(xP (P:=l.prog) (w:=w) (K:=K) (mg:=mg) (base:=base) (n:=j+2) F21 gY (jV.mono (by omega)) Rj MR Rk ih.1 b22 Ri n22 (LS j)).mono (by omega)⟩
 have Al:=(sF 17).1
 have NG:=(sF 17).2
 have qX:∀j:Nat,bZ l.prog w K mg base gn (j+10) f7 (PySem.W.fnOf "truths_of" "truths_of" (bX fX) (bS fX) (aP fX) .none kV7 dc7 pm7 an7 cd7 ct7) ["saying","row","known"] (spT K 3 (Kq j))/\bZ l.prog w K mg base gn (j+10) f8 (PySem.W.fnOf "truths_by_head" "truths_by_head" (bX cI) (bS cI) (aP cI) .none kV8 dc8 pm8 an8 cd8 ct8) ["saying","row","known"] (spT K 3 (Uc j))/\bZ l.prog w K mg base gn (j+10) f9 (PySem.W.fnOf "at_happenings" "at_happenings" (bX cR) (bS cR) (aP cR) .none kV9 dc9 pm9 an9 cd9 ct9) ["saying","row","known"] (spT K 3 (Ud j)):=by
  intro j
  induction j with
  | zero=>exact⟨sY Jw,sY Jx,sY Jy⟩
  | succ j ih=>exact⟨(Ab (P:=l.prog) (w:=w) (K:=K) (mg:=mg) (base:=base) (n:=j+10) F7 ih.2.1 b8 k8 n8 (PZ j)).mono (by omega),(sf (P:=l.prog) (w:=w) (K:=K) (mg:=mg) (base:=base) (n:=j+10) F8 gY CU (MS.mono (by omega)) b1 k1 n1 (MT.mono (by omega)) b13 V5 n13 ih.2.2 b9 k9 n9 (BY.mono (by omega)) b12 Hq n12 ih.1 b7 k7 n7 (pO.mono (by omega)) b10 UX n10 (UZ.mono (by omega)) b14 V6 n14 (BW.mono (by omega)) b11 UY n11 (P0 j)).mono (by omega),(tT (P:=l.prog) (w:=w) (K:=K) (mg:=mg) (base:=base) (n:=j+10) F9 qR (B0.mono (by omega)) b4 k4 n4 ih.1 b7 k7 n7 (P1 j)).mono (by omega)⟩
 have Dd:=(qX 24).1
 have Gq:=(qX 24).2.1
 have Kf:=(qX 24).2.2
 have w4:=J7 (P:=l.prog) (w:=w) (K:=K) (mg:=mg) (base:=base) (n:=34) F5 (Dd.mono (by omega)) b7 k7 n7 (fm:=dZ) JF
 have U0:=MJ (P:=l.prog) (w:=w) (K:=K) (mg:=mg) (base:=base) (n:=35) F6 (w4.mono (by omega)) b5 k5 n5 (fm:=jr) JH
 have uh:=qU (P:=l.prog) (w:=w) (K:=K) (mg:=mg) (base:=base) (n:=35) F23 iP (w4.mono (by omega)) b5 k5 n5 (fm:=Sj.ki) Sj.JY
 have uY:=sD (P:=l.prog) (w:=w) (K:=K) (mg:=mg) (base:=base) (n:=35) F24 gY (w4.mono (by omega)) b5 k5 n5 (fm:=Sj.qm) Sj.MD
 have qY:=pL (P:=l.prog) (w:=w) (K:=K) (mg:=mg) (base:=base) (n:=35) F25 (w4.mono (by omega)) b5 k5 n5 (B0.mono (by omega)) b4 k4 n4 (fm:=Sj.kj) Sj.JZ
 exact Qw (P:=l.prog) (w:=w) (K:=K) (mg:=mg) (base:=base) (n:=36) F26 gY iP Qx yR (C9.mono (by omega)) b15 V7 n15 (BZ.mono (by omega)) b18 V9 n18 (Gh.mono (by omega)) b19 Wa n19 (jV.mono (by omega)) Rj MR Rk (Al.mono (by omega)) b22 Ri n22 (uY.mono (by omega)) b24 We n24 (U0.mono (by omega)) b6 k6 n6 (w4.mono (by omega)) b5 k5 n5 (uh.mono (by omega)) b23 Wd n23 (qY.mono (by omega)) b25 Wf n25 Sj.FJ
theorem walk {l:PySem.W.OpenLaw}{q:Program}{loose:List Str}{XP:(Str->Option Value)->Heap->Prop}{YP:World->Heap->Prop}{d:DefRec}{K:Params->PySem.W.Frag}(hn:l.most=some 63) (hdf:d.params.defaults=[])
  (hY:∀(w:World) (h:Heap),YP w h->(K w.params).In h)
  (F:∀(w:World) (mg:Str->Option Value) (fa:Addr) (h:Heap),(K w.params).In h->h.Ns mainGlobals mg->mg d.name=some (.ref fa)->
   ∃fd:FuncData,(∀(s:Shared) (u:Value),BindsTo s fd ⟨[u],[]⟩ [("_law_script",u)])/\∀base:Heap,(K w.params).In base->base.Ns mainGlobals mg->bZ l.prog w (K w.params) mg base gn 37 fa fd ["_law_script"] (spT (K w.params) 1 (CH 63))):
  PySem.W.WalkO q loose XP YP l.row.toRowW d [] (fun f vs=>PySem.call f vs):=
 L2.K0 (n:=63) (k:=37) (x:="_law_script") (CX:=fun _=>gn) (sp:=fun w=>spT (K w.params) 1 (CH 63)) hn (by decide) hdf ⟨rfl,by decide,by decide,rfl⟩ hY F (fun w H a ns hl hO hS=>Po hl hO hS) fun _ _ _ _ _ z=>z
end K09
open PySem PySem.W PyProof.Rows
noncomputable def PySem.W.Fast.tw15903034191826484691:Nat->Stmt:=K09.top
theorem PySem.W.Fast.te15903034191826484691:K09.top=PySem.W.Fast.tw15903034191826484691:=rfl
def K09.sc:Scope:=PySem.Challenge.pw_surewatch_k09_whole_meaning_of_heads.main.scope
noncomputable def PySem.W.Fast.tw11322035402245952159:Scope:=K09.sc
theorem PySem.W.Fast.te11322035402245952159:K09.sc=PySem.W.Fast.tw11322035402245952159:=rfl
def K09.pw:Program:={main:={body:=[K09.top 0,K09.top 1,K09.top 2,K09.top 3,K09.top 4,K09.top 5,K09.top 6,K09.top 7,K09.top 8,K09.top 9,K09.top 10,K09.top 11,K09.top 12,K09.top 13,K09.top 14,K09.top 15,K09.top 16,K09.top 17,K09.top 18,K09.top 19,K09.top 20,K09.top 21,K09.top 22,K09.top 23,K09.top 24,K09.top 25,K09.top 26,K09.top 27,K09.top 28,K09.top 29,K09.top 30,K09.top 31],scope:=K09.sc,futureAnnotations:=false,file:="/claim/cut.py",more:=[]},modules:=[],parses:=[],absent:=[],harvested:=[],given:={argv:=[],stdin:=[],environ:=some [([76,67,95,65,76,76],[67,46,85,84,70,45,56])]}}
def K09.rw:OpenLaw:={prog:=K09.pw,name:=(PySem.Str.ofString "law"),about:=[(PySem.Str.ofString "holds")],foot:=12,most:=some 63,bound:=none,writes:=false}
noncomputable def PySem.W.Fast.tw374566467250499952:=0
noncomputable def PySem.W.Fast.tw5199186804397430552:=0
noncomputable def PySem.W.Fast.tw2733029559682727886:=0
noncomputable def PySem.W.Fast.tw16370074177668705088:=0
noncomputable def PySem.W.Fast.tw2366397586973584868:=0
noncomputable def PySem.W.Fast.tw628643577064399916:=0
noncomputable def PySem.W.Fast.tw18091098090550059846:=0
noncomputable def PySem.W.Fast.tw3966540625716930644:=0
noncomputable def PySem.W.Fast.tw2708917559657530353:=0
noncomputable def PySem.W.Fast.tw3105382273732243380:=0
noncomputable def PySem.W.Fast.tw15230673412928755305:=0
noncomputable def PySem.W.Fast.tw3952735587348968800:=0
noncomputable def PySem.W.Fast.tw12211603389634203940:=0
noncomputable def PySem.W.Fast.tw6913885138146893404:=0
noncomputable def PySem.W.Fast.tw9370501977650866864:=0
noncomputable def PySem.W.Fast.tw279388226603825327:=0
noncomputable def PySem.W.Fast.tw1710860077136703165:=0
noncomputable def PySem.W.Fast.tw12871764771240678713:=0
noncomputable def PySem.W.Fast.tw3187898948678196441:=0
noncomputable def PySem.W.Fast.tw1077956683832314169:=0
noncomputable def PySem.W.Fast.tw12458348765728031457:=0
noncomputable def PySem.W.Fast.tw18266577679333541129:=0
noncomputable def PySem.W.Fast.tw15648245039348498307:=0
noncomputable def PySem.W.Fast.tw6466500836901175215:=0
noncomputable def PySem.W.Fast.tw9088135713897673909:=0
noncomputable def PySem.W.Fast.tw9725186767450425221:=0
noncomputable def PySem.W.Fast.tw11297215903939581065:=0
noncomputable def PySem.W.Fast.tw2726099352765406684:=0
noncomputable def PySem.W.Fast.tw11760732948704806533:=0
noncomputable def PySem.W.Fast.tw15757041699325455121:=0
noncomputable def PySem.W.Fast.tw9076724739815799094:=0
noncomputable def PySem.W.Fast.tw9265895931326972103:=0
noncomputable def PySem.W.Fast.tw5704529927868862928:=0
noncomputable def PySem.W.Fast.tw10413451658991282491:=0
noncomputable def PySem.W.Fast.tw4416350550646662062:=0
noncomputable def PySem.W.Fast.tw7592900854738977425:=0
noncomputable def PySem.W.Fast.tw3261336861784065811:=0
noncomputable def PySem.W.Fast.tw7611062622344164054:=0
noncomputable def PySem.W.Fast.tw4697680602625231091:=0
noncomputable def PySem.W.Fast.tw7313150463729358494:=0
noncomputable def PySem.W.Fast.tw13134954548128129114:=0
noncomputable def PySem.W.Fast.tw4958866029725566337:=0
set_option maxRecDepth 100000 in
set_option maxHeartbeats 0 in
theorem K09.holds:K09.rw.Holds:=by
 w_on;o_law;k_head;(case hw=>w_witness2)
 k_fill
 refine K09.walk (l:=K09.rw) rfl rfl (fun w h Y=>PySem.W.kIn_of Y) ?F
 case F=>
  intro w mg fa h KX G hmg
  refine' K09.all_mk KX G hmg ?a1 ?l1 ?c1 ?k1 ?a2 ?l2 ?c2 ?k2 ?a3 ?l3 ?c3 ?k3 ?a4 ?l4 ?c4 ?k4 ?a5 ?l5 ?c5 ?k5 ?a6 ?l6 ?c6 ?k6 ?a7 ?l7 ?c7 ?k7 ?a8 ?l8 ?c8 ?k8 ?a9 ?l9 ?c9 ?k9 ?a10 ?l10 ?c10 ?UX ?a11 ?l11 ?c11 ?UY ?a12 ?l12 ?c12 ?Hq ?a13 ?l13 ?c13 ?V5 ?a14 ?l14 ?c14 ?V6 ?a15 ?l15 ?c15 ?V7 ?a16 ?l16 ?c16 ?MR ?a17 ?l17 ?c17 ?V8 ?a18 ?l18 ?c18 ?V9 ?a19 ?l19 ?c19 ?Wa ?a20 ?l20 ?c20 ?Wb ?a21 ?l21 ?c21 ?Wc ?a22 ?l22 ?c22 ?Ri ?a23 ?l23 ?c23 ?Wd ?a24 ?l24 ?c24 ?We ?a25 ?l25 ?c25 ?Wf ?a26 ?l26 ?c26 ?k26 ?Ah ?Ai ?Aj ?Ak ?wW ?wX ?wY ?wZ ?QB ?pN ?QC ?C7 ?QD ?qW ?Kc ?ug ?C8 ?QE ?QF ?QG ?QH
  (case a1=>k_is);(case l1=>k_is);(case c1=>k_is);(case k1=>k_is)
  (case a2=>k_is);(case l2=>k_is);(case c2=>k_is);(case k2=>k_is)
  (case a3=>k_is);(case l3=>k_is);(case c3=>k_is);(case k3=>k_is)
  (case a4=>k_is);(case l4=>k_is);(case c4=>k_is);(case k4=>k_is)
  (case a5=>k_is);(case l5=>k_is);(case c5=>k_is);(case k5=>k_is)
  (case a6=>k_is);(case l6=>k_is);(case c6=>k_is);(case k6=>k_is)
  (case a7=>k_is);(case l7=>k_is);(case c7=>k_is);(case k7=>k_is)
  (case a8=>k_is);(case l8=>k_is);(case c8=>k_is);(case k8=>k_is)
  (case a9=>k_is);(case l9=>k_is);(case c9=>k_is);(case k9=>k_is)
  (case a10=>k_is);(case l10=>k_is);(case c10=>k_is);(case UX=>k_is)
  (case a11=>k_is);(case l11=>k_is);(case c11=>k_is);(case UY=>k_is)
  (case a12=>k_is);(case l12=>k_is);(case c12=>k_is);(case Hq=>k_is)
  (case a13=>k_is);(case l13=>k_is);(case c13=>k_is);(case V5=>k_is)
  (case a14=>k_is);(case l14=>k_is);(case c14=>k_is);(case V6=>k_is)
  (case a15=>k_is);(case l15=>k_is);(case c15=>k_is);(case V7=>k_is)
  (case a16=>k_is);(case l16=>k_is);(case c16=>k_is);(case MR=>k_is)
  (case a17=>k_is);(case l17=>k_is);(case c17=>k_is);(case V8=>k_is)
  (case a18=>k_is);(case l18=>k_is);(case c18=>k_is);(case V9=>k_is)
  (case a19=>k_is);(case l19=>k_is);(case c19=>k_is);(case Wa=>k_is)
  (case a20=>k_is);(case l20=>k_is);(case c20=>k_is);(case Wb=>k_is)
  (case a21=>k_is);(case l21=>k_is);(case c21=>k_is);(case Wc=>k_is)
  (case a22=>k_is);(case l22=>k_is);(case c22=>k_is);(case Ri=>k_is)
  (case a23=>k_is);(case l23=>k_is);(case c23=>k_is);(case Wd=>k_is)
  (case a24=>k_is);(case l24=>k_is);(case c24=>k_is);(case We=>k_is)
  (case a25=>k_is);(case l25=>k_is);(case c25=>k_is);(case Wf=>k_is)
  (case a26=>k_is);(case l26=>k_is);(case c26=>k_is);(case k26=>k_is)
  (case Ah=>k_is)
  (case Ai=>k_is);(case Aj=>decide);(case Ak=>exact⟨⟨rfl,⟨_,rfl⟩,_,rfl⟩,⟨⟨rfl,⟨_,rfl⟩,_,rfl⟩,⟨⟨rfl,⟨_,rfl⟩,_,rfl⟩,⟨⟨rfl,⟨_,rfl⟩,_,rfl⟩,⟨⟨rfl,⟨_,rfl⟩,_,rfl⟩,⟨⟨rfl,⟨_,rfl⟩,_,rfl⟩,⟨⟨rfl,⟨_,rfl⟩,_,rfl⟩,⟨⟨rfl,⟨_,rfl⟩,_,rfl⟩,⟨⟨rfl,⟨_,rfl⟩,_,rfl⟩,⟨⟨rfl,⟨_,rfl⟩,_,rfl⟩,⟨⟨rfl,⟨_,rfl⟩,_,rfl⟩,⟨⟨rfl,⟨_,rfl⟩,_,rfl⟩,⟨⟨rfl,⟨_,rfl⟩,_,rfl⟩,True.intro⟩⟩⟩⟩⟩⟩⟩⟩⟩⟩⟩⟩⟩)
  (case wW=>k_is)
  (case wX=>k_is);(case wY=>decide);(case wZ=>exact⟨⟨_,rfl⟩,⟨⟨_,rfl⟩,True.intro⟩⟩)
  (case QB=>k_is);(case pN=>k_is);(case QC=>k_is);(case C7=>k_is);(case QD=>k_is);(case qW=>k_is);(case Kc=>k_is);(case ug=>k_is);(case C8=>k_is);(case QE=>k_is);(case QF=>k_is);(case QG=>k_is);(case QH=>k_is)
theorem PySem.Challenge.cw_surewatch_k09_whole_meaning_of_heads_holds : PySem.Challenge.rw_surewatch_k09_whole_meaning_of_heads.Holds :=
 K09.holds
