import PyProof.Rows.All
import Wide.All
import OpenK.AllK
import Wide.FinOn
import PyProof.EqAt
import PyProof.EqKinds
import PyProof.TupleCall
import Lean
import PySem.Challenge.RW_surewatch_k08_what_holds
set_option Elab.async false
set_option linter.all false
set_option maxRecDepth 100000
section
section
namespace L2
open PySem PySem.Spec PyProof.Rows
inductive D where
 | dW | bl (b:Bool) | int (i:Int) | str (z:Str) | tup (ds:List D) | lst (ds:List D)
mutual
noncomputable def D.same:D->D->Bool
 | .dW,.dW=>true
 | .bl a,.bl b=>a == b
 | .int a,.int b=>a == b
 | .str a,.str b=>decide (a=b)
 | .tup a,.tup b=>D.qY a b
 | .lst a,.lst b=>D.qY a b
 | _,_=>false
noncomputable def D.qY:List D->List D->Bool
 | [],[]=>true
 | a :: as,b :: bs=>D.same a b && D.qY as bs
 | _,_=>false
end
mutual
theorem D.same_refl:∀a:D,D.same a a=true
 | .dW=>rfl
 | .bl _=>by simp[D.same]
 | .int _=>by simp[D.same]
 | .str _=>by simp[D.same]
 | .tup a=>by unfold D.same;exact D.qA a
 | .lst a=>by unfold D.same;exact D.qA a
theorem D.qA:∀a:List D,D.qY a a=true
 | []=>rfl
 | a :: as=>by unfold D.qY;rw[D.same_refl a,D.qA as];rfl
end
mutual
theorem D.same_eq:∀{a b:D},D.same a b=true->a=b
 | .dW,b,h=>by cases b <;> simp[D.same] at h ⊢
 | .bl _,b,h=>by cases b <;> simp[D.same] at h ⊢;exact h
 | .int _,b,h=>by cases b <;> simp[D.same] at h ⊢;exact h
 | .str _,b,h=>by cases b <;> simp[D.same] at h ⊢;exact h
 | .tup a,b,h=>by
  cases b with
  | tup b=>unfold D.same at h;rw[D.vL h]
  | _=>simp[D.same] at h
 | .lst a,b,h=>by
  cases b with
  | lst b=>unfold D.same at h;rw[D.vL h]
  | _=>simp[D.same] at h
theorem D.vL:∀{a b:List D},D.qY a b=true->a=b
  | [],b,h=>by cases b <;> simp[D.qY] at h ⊢
  | a :: as, b, h => by
    cases b with
    | nil=>simp[D.qY] at h
    | cons b bs=>
      unfold D.qY at h
      rw[Bool.and_eq_true] at h
      rw[D.same_eq h.1,D.vL h.2]
end
noncomputable instance:DecidableEq D:=fun a b=>if h:D.same a b=true then isTrue (D.same_eq h) else isFalse fun e=>h (e▸D.same_refl a)
noncomputable def gW:Nat->D->Bool
 | _,.int _=>true
 | _,.str _=>true
 | n+1,.tup ds=>ds.all (gW n)
 | _,_=>false
mutual
inductive xV (h:Heap):Value->D->Prop
 | int (i:Int) (t:Tok):xV h (.int i t) (.int i)
 | str (x:Str) (t:Tok):xV h (.str x t) (.str x)
 | tup {a:Addr}{its:List Value}{ds:List D}(p:h.IsTuple a its.toArray) (r:lQ h its ds):xV h (.ref a) (.tup ds)
inductive lQ (h:Heap):List Value->List D->Prop
 | nil:lQ h [] []
 | cons {u:Value}{d:D}{us:List Value}{ds:List D}(r:xV h u d) (rs:lQ h us ds):lQ h (u :: us) (d :: ds)
end
mutual
noncomputable def Hx (w:World):D->Int
 | .int i=>hashInt i
 | .str x=>hashStr w x
 | .tup ds=>reduceHash (Builtin.Tuple.tupleHashOf (qC w ds))
 | _=>0
noncomputable def qC (w:World):List D->List Int
 | []=>[]
 | d :: ds=>Hx w d :: qC w ds
end
mutual
noncomputable def zK:D->Nat
 | .tup ds=>vq ds+1
 | _=>1
noncomputable def vq:List D->Nat
 | []=>0
 | d :: ds=>zK d+vq ds
end
theorem lQ.length {h:Heap}:∀{us:List Value}{ds:List D},lQ h us ds->us.length=ds.length
 | _,_,.nil=>rfl
 | _,_,.cons _ rs=>congrArg Nat.succ (lQ.length rs)
mutual
theorem xV.inj {h:Heap}:∀{v:Value}{d e:D},xV h v d->xV h v e->d=e
 | _,_,_,.int i t,r=>by cases r;rfl
 | _,_,_,.str x t,r=>by cases r;rfl
 | _,_,_,@xV.tup _ a its ds p r,q=>by
  cases q with
  | @tup _ its' ds' p' r'=>
   obtain⟨o,h1,_,n,h2⟩:=p
   obtain⟨o',h1',_,n',h2'⟩:=p'
   rw[h1] at h1'
   cases h1'
   rw[h2] at h2'
   injection h2' with e1 _
   have e:its=its':=by simpa using congrArg Array.toList e1
   subst e
   rw[lQ.inj r r']
theorem lQ.inj {h:Heap}:∀{vs:List Value}{ds es:List D},lQ h vs ds->lQ h vs es->ds=es
 | _,_,_,.nil,r=>by cases r;rfl
 | _,_,_,.cons r1 s1,r=>by
  cases r with
  | cons r2 s2=>rw[xV.inj r1 r2,lQ.inj s1 s2]
end
mutual
theorem xV.keeps {h h':Heap}{d:Addr}{o:Obj}{es:Array DictEntry}{ep:Nat}(ho:h.get? d=some o) (hd:o.data= .dict es ep) (hs:Heap.SameBut d h h'):∀{v:Value}{k:D},xV h v k->xV h' v k
 | _,_,.int i t=>.int i t
 | _,_,.str x t=>.str x t
 | _,_,@xV.tup _ a its ds p r=>by
  obtain⟨o',h1,h2,n,h3⟩:=p
  have hne:a≠d:=by
   intro z
   subst z
   rw[ho] at h1
   cases h1
   rw[hd] at h3
   cases h3
  exact .tup ⟨o',(hs.2 a hne).trans h1,h2,n,h3⟩ (lQ.keeps ho hd hs r)
theorem lQ.keeps {h h':Heap}{d:Addr}{o:Obj}{es:Array DictEntry}{ep:Nat}(ho:h.get? d=some o) (hd:o.data= .dict es ep) (hs:Heap.SameBut d h h'):∀{v:List Value}{k:List D},lQ h v k->lQ h' v k
 | _,_,.nil=>.nil
 | _,_,.cons r1 s1=>.cons (xV.keeps ho hd hs r1) (lQ.keeps ho hd hs s1)
end
section
variable {prog:Program}{w:World}{E:Value->Shared->Prop}
mutual
theorem A6 : ∀ (d : D) {n : Nat} {v : Value} {A : Around} {s : Shared} {Q : Int -> Shared -> Prop}, xV s.heap v d -> gW n d = true -> A.units + n < cLine -> Q (Hx w d) { s with toks := s.toks + zK d } -> wpAny (model prog w) A (pyHash v) Q E s
  | .int i,n,v,A,s,Q,x,_,_,h=>by cases x;exact wpAny_pyHash_int h
  | .str y,n,v,A,s,Q,x,_,_,h=>by cases x;exact wpAny_pyHash_str h
  | .dW,n,v,A,s,Q,x,_,_,h=>by cases x
  | .bl _,n,v,A,s,Q,x,_,_,h=>by cases x
  | .lst _,n,v,A,s,Q,x,_,_,h=>by cases x
  | .tup ds,n,v,A,s,Q,x,hk,hu,h=>by
    cases n with
    | zero=>simp[gW] at hk
    | succ n=>
      cases x with
      | @tup a its _ p r=>
        obtain⟨o,hg,hc,m,hd⟩:=p
        refine PySem.W.pyHash_slot (T:="tuple") ⟨_,hg,hc⟩ F.slot_tuple_hash F.entry_tuple_hash (F.args_tuple_hash_1 _) (beq_builtin_none _) (.inr (by omega)) ?_
        show wpAny _ _ (Builtin.Tuple.tupleItemsOf (.ref a) >>= _) _ _ s
        refine wpAny_bind (wpAny_tupleItemsOf hg hd ?_)
        refine wpAny_bind ?_
        rw[<-Array.forIn_toList]
        refine yL ds (n:=n) (A:=A.in1) (b:=#[]) r hk (by rw[Around.in1_units];omega) fun b hb=>?_
        show wpAny _ _ (retInt (Builtin.Tuple.tupleHashOf b.toList)) _ _ _
        rw[hb]
        refine wpAny_bind (wpAny_mkInt (wpAny_pure ⟨_,_,rfl,?_⟩))
        have e:(#[]:Array Int).toList++qC w ds=qC w ds:=by simp
        rw[e]
        exact h
theorem yL:∀(ds:List D){n:Nat}{vs:List Value}{A:Around}{s:Shared}{b:Array Int}{Q:Array Int->Shared->Prop},lQ s.heap vs ds->ds.all (gW n)=true->A.units+n < cLine->
    (∀b',b'.toList=b.toList++qC w ds->Q b' {s with toks:=s.toks+vq ds})->
    wpAny (model prog w) A (forIn vs b fun x r=>do let h <-pyHash x;pure PUnit.unit;pure (ForInStep.yield (r.push h))) Q E s
  | [],n,_,A,s,b,Q,x,_,_,h=>by cases x;exact wpAny_pure (h b (by simp[qC]))
  | d :: ds, n, _, A, s, b, Q, x, hk, hu, h => by
    cases x with
    | cons x1 x2=>
      rw[List.all_cons,Bool.and_eq_true] at hk
      rw[List.forIn_cons]
      refine wpAny_bind (wpAny_bind (A6 d (n:=n) x1 hk.1 hu ?_))
      refine wpAny_bind (wpAny_pure (wpAny_pure ?_))
      refine yL ds (n:=n) x2 hk.2 hu fun b' hb=>?_
      have q:=h b' (by simp[hb,qC])
      show Q b' {s with toks:=s.toks+zK d+vq ds}
      rw[Nat.add_assoc]
      exact q
end
end
theorem zL (n:Nat) (f:Nat->Bool):(List.range (n+1)).all f=(f 0 && (List.range n).all fun j=>f (j+1)):=by
 rw[List.range_succ_eq_map,List.all_cons,List.all_map];rfl
theorem A7:∀ds es:List D,((List.range (min ds.length es.length)).all (fun j=>decide (ds[j]? =es[j]?)) && ds.length == es.length)=decide (ds=es)
  | [],[]=>by simp
  | [],e :: es=>by simp
  | d :: ds,[]=>by simp
  | d :: ds, e :: es => by
    have ih:=A7 ds es
    have e1:min (d :: ds).length (e :: es).length=min ds.length es.length+1:=by simp only[List.length_cons];omega
    rw[e1,zL]
    have e2:(fun j=>decide ((d :: ds)[j+1]? =(e :: es)[j+1]?))=fun j=>decide (ds[j]? =es[j]?):=by funext j;simp
    have e3:((d :: ds).length == (e :: es).length)=(ds.length == es.length):=by simp
    have e4:decide ((d :: ds)[0]? =(e :: es)[0]?)=decide (d=e):=by simp
    have e5:decide (d :: ds=e :: es)=(decide (d=e) && decide (ds=es)):=by
      by_cases a:d=e
      . subst a;by_cases b:ds=es <;> simp[b]
      . simp[a]
    rw[e2,e3,e4,Bool.and_assoc,ih,e5]
theorem Hy {α:Type}(l:List α) (j:Nat) (h:j < l.toArray.size):l[j]? =some l.toArray[j]:=by
 have z:j < l.length:=by simpa using h
 simp[z]
mutual
theorem eqK : ∀ (d : D) {e : D} {n : Nat} {A : Around} {s : Shared} {u v : Value}, xV s.heap u d -> xV s.heap v e -> gW n d = true -> A.units + n < cLine -> SeqAt.EqAt A s u v (decide (d = e))
  | .int i, e, n, A, s, u, v, r1, r2, _, hu => by
    cases r1 with
    | int _ t=>
    cases r2 with
    | int j t' => have : decide (D.int i = D.int j) = (i == j) := by by_cases z : i = j <;> simp [z]
                  rw[this];exact SeqAt.EqAt.int_int i t j t'
    | str x t'=>exact SeqAt.EqAt.int_str i t x t'
    | tup p r=>exact SeqAt.EqAt.int_tuple i t p (by omega)
  | .str i, e, n, A, s, u, v, r1, r2, _, hu => by
    cases r1 with
    | str _ t=>
    cases r2 with
    | int j t'=>exact SeqAt.EqAt.str_int i t j t'
    | str x t' => have : decide (D.str i = D.str x) = (i == x) := by by_cases z : i = x <;> simp [z]
                  rw[this];exact SeqAt.EqAt.str_str i t x t'
    | tup p r=>exact SeqAt.EqAt.str_tuple i t p (by omega)
  | .dW,e,n,A,s,u,v,r1,r2,hk,hu=>by cases r1
  | .bl _,e,n,A,s,u,v,r1,r2,hk,hu=>by cases r1
  | .lst _,e,n,A,s,u,v,r1,r2,hk,hu=>by cases r1
  | .tup ds,e,n,A,s,u,v,r1,r2,hk,hu=>by
    cases n with
    | zero=>simp[gW] at hk
    | succ n=>
    cases r1 with
    | @tup ca g9 _ pa ra=>
    cases r2 with
    | int j t'=>exact SeqAt.EqAt.tuple_int j t' pa (by omega)
    | str x t'=>exact SeqAt.EqAt.tuple_str x t' pa (by omega)
    | @tup cb cM es pb rb=>
      have items:∀j (h1:j < g9.toArray.size) (h2:j < cM.toArray.size),SeqAt.EqAt A.in1 s g9.toArray[j] cM.toArray[j] (decide (ds[j]? =es[j]?)):=fun j h1 h2=>
        TH ds (n:=n) (A:=A.in1) ra rb hk (by rw[Around.in1_units];omega) (Hy g9 j h1) (Hy cM j h2)
      by_cases hc:ca=cb
      . subst hc
        have z:=xV.inj (.tup pa ra) (.tup pb rb)
        rw[z,decide_eq_true rfl]
        exact SeqAt.EqAt.same _
      . have q:=SeqAt.RcAt.tuples (e:=fun j=>decide (ds[j]? =es[j]?)) pa pb (by omega) items
        rw[List.size_toArray,List.size_toArray,ra.length,rb.length,A7] at q
        have z:decide (D.tup ds=D.tup es)=decide (ds=es):=by by_cases a:ds=es <;> simp[a]
        rw[z]
        exact SeqAt.EqAt.of_refs hc q
theorem TH : ∀ (ds : List D) {es : List D} {n : Nat} {A : Around} {s : Shared} {us vs : List Value} {j : Nat} {u v : Value}, lQ s.heap us ds -> lQ s.heap vs es -> ds.all (gW n) = true -> A.units + n < cLine -> us[j]? = some u -> vs[j]? = some v ->
    SeqAt.EqAt A s u v (decide (ds[j]? =es[j]?))
  | [],es,n,A,s,us,vs,j,u,v,r1,r2,hk,hu,h1,h2=>by cases r1;simp at h1
  | d :: ds, es, n, A, s, us, vs, j, u, v, r1, r2, hk, hu, h1, h2 => by
    rw[List.all_cons,Bool.and_eq_true] at hk
    cases r1 with
    | cons a as=>
    cases r2 with
    | nil=>simp at h2
    | @cons v' e' vs' es' b bs=>
      cases j with
      | zero=>
        simp only[List.getElem?_cons_zero,Option.some.injEq] at h1 h2
        subst h1
        subst h2
        have z:decide ((d :: ds)[0]? =(e' :: es')[0]?)=decide (d=e'):=by simp
        rw[z]
        exact eqK d a b hk.1 hu
      | succ j=>
        have z:decide ((d :: ds)[j+1]? =(e' :: es')[j+1]?)=decide (ds[j]? =es'[j]?):=by simp
        rw[z]
        exact TH ds as bs hk.2 hu (by simpa using h1) (by simpa using h2)
end
section
variable {prog:Program}{w:World}{A:Around}{E:Value->Shared->Prop}{s:Shared}
mutual
theorem Hz : ∀ (d : D) {n : Nat} {v : Value} {Q : Bool -> Shared -> Prop}, xV s.heap v d -> gW n d = true -> Q true s -> wpAny (model prog w) A (eqIsQuiet n v) Q E s
  | .int i,n,v,Q,x,_,h=>by cases x;rw[eqIsQuiet_byValue n rfl];exact wpAny_pure h
  | .str y,n,v,Q,x,_,h=>by cases x;rw[eqIsQuiet_byValue n rfl];exact wpAny_pure h
  | .dW,n,v,Q,x,_,h=>by cases x
  | .bl _,n,v,Q,x,_,h=>by cases x
  | .lst _,n,v,Q,x,_,h=>by cases x
  | .tup ds,n,v,Q,x,hk,h=>by
    cases n with
    | zero=>simp[gW] at hk
    | succ n=>
      cases x with
      | @tup a its _ p r=>
        obtain⟨o,hg,hc,m,hd⟩:=p
        have hT:s.TypeIs (.ref a) "tuple":=⟨o,hg,hc⟩
        unfold eqIsQuiet
        refine wpAny_bind (wpAny_specialOf hT F.slot_tuple_eq.lookup ?_)
        show wpAny _ _ (isInstance (.ref a) (.type "tuple") >>= _) _ _ s
        refine wpAny_bind (wpAny_isInstance hT isSubtype_tuple_tuple ?_)
        simp only[Bool.not_true,Bool.false_eq_true,if_false]
        refine wpAny_bind (wpAny_seqItems hg hd ?_)
        refine wpAny_bind ?_
        show wpAny _ _ (forIn its.toArray _ _) _ _ s
        rw[<-Array.forIn_toList]
        exact yM ds r hk (wpAny_pure h)
theorem yM:∀(ds:List D){n:Nat}{vs:List Value}{Q:Option Bool×Unit->Shared->Prop},lQ s.heap vs ds->ds.all (gW n)=true->Q (none,()) s->
    wpAny (model prog w) A (forIn vs ((none,()):Option Bool×Unit) fun y __s=>do
      let __do_lift <-eqIsQuiet n y
      if(!__do_lift)=true then pure (ForInStep.done (some false,())) else pure (ForInStep.yield (none,()))) Q E s
  | [],n,_,Q,x,_,h=>by cases x;exact wpAny_pure h
  | d :: ds, n, _, Q, x, hk, h => by
    cases x with
    | cons x1 x2=>
      rw[List.all_cons,Bool.and_eq_true] at hk
      rw[List.forIn_cons]
      refine wpAny_bind (wpAny_bind (Hz d x1 hk.1 ?_))
      simp only[Bool.not_true,Bool.false_eq_true,if_false]
      refine wpAny_pure ?_
      exact yM ds x2 hk.2 h
end
end
noncomputable def kT (prog:Program) (w:World):HeapKind prog w D where
 is:=fun h k a=>xV h (.ref a) k/\gW 8 k=true
 hash:=Hx w
 draws:=zK
 room:=fun A=>A.units+8 < cLine
 inj:=fun hx hy=>hx.1.inj hy.1
 keeps:=fun x ho hd hs=>⟨x.1.keeps ho hd hs,x.2⟩
 pyHash:=fun hu hk h=>A6 _ hk.1 hk.2 hu h
 eqBool:=fun hu hx hy h=>eqK _ hx.1 hy.1 hx.2 hu _ _ _ _ h
 quiet:=fun hk h=>Hz _ hk.1 hk.2 h
theorem jT {prog:Program}{w:World}{A:Around}(hu:A.units+20 < cLine):(kT prog w).room A.in1:=by
 show A.in1.units+8 < cLine
 rw[Around.in1_units]
 omega
end L2
end
namespace L2
open PySem PySem.Spec PyProof.Rows
noncomputable abbrev Key:=Sum Int Str
noncomputable def yN:Key->Value->Bool
 | .inl k,v=>Value.isInt k v
 | .inr x,v=>Value.isStrOf x v
noncomputable def Yq (w:World):Key->Int
 | .inl k=>hashInt k
 | .inr x=>hashStr w x
theorem fH:∀{k:Key}{v:Value},yN k v=true->(∃i t,k=Sum.inl i/\v=Value.int i t)\/(∃x t,k=Sum.inr x/\v=Value.str x t)
 | .inl i,v,h=>by
  obtain⟨t,e⟩:=Value.isInt_shape (k:=i) (v:=v) h
  exact .inl ⟨i,t,rfl,e⟩
 | .inr x,v,h=>by
  obtain⟨t,e⟩:=Value.isStrOf_shape (x:=x) (v:=v) h
  exact .inr ⟨x,t,rfl,e⟩
theorem E8 (i:Int) (t:Tok):yN (.inl i) (.int i t)=true:=by simp[yN,Value.isInt]
theorem E9 (x:Str) (t:Tok):yN (.inr x) (.str x t)=true:=by simp[yN,Value.isStrOf]
theorem O3 (a b:Int):decide ((Sum.inl a:Key)=Sum.inl b)=(a == b):=by
 by_cases e:a=b
 ·subst e;simp
 ·have h:¬(Sum.inl a:Key)=Sum.inl b:=fun q=>e (Sum.inl.inj q)
  rw[decide_eq_false h]
  exact(beq_eq_false_iff_ne.mpr e).symm
theorem O4 (a b:Str):decide ((Sum.inr a:Key)=Sum.inr b)=decide (a=b):=by
 by_cases e:a=b
 ·subst e;simp
 ·have h:¬(Sum.inr a:Key)=Sum.inr b:=fun q=>e (Sum.inr.inj q)
  rw[decide_eq_false h,decide_eq_false e]
theorem O5 (a:Int) (b:Str):decide ((Sum.inl a:Key)=Sum.inr b)=false:=decide_eq_false (fun q=>nomatch q)
theorem O6 (a:Str) (b:Int):decide ((Sum.inr a:Key)=Sum.inl b)=false:=decide_eq_false (fun q=>nomatch q)
noncomputable def eY (prog:Program) (w:World):PySem.KeyKind prog w Key where
  is:=yN
  hash:=Yq w
  inj := fun v a b ha hb => by
    rcases fH ha with⟨i,t,rfl,rfl⟩ | ⟨x,t,rfl,rfl⟩
    . rcases fH hb with⟨j,u,rfl,e⟩ | ⟨y,u,rfl,e⟩
      . injection e with e1 _;rw[e1]
      . exact nomatch e
    . rcases fH hb with⟨j,u,rfl,e⟩ | ⟨y,u,rfl,e⟩
      . exact nomatch e
      . injection e with e1 _;rw[e1]
  byValue:=fun k v h=>by
    rcases fH h with⟨i,t,rfl,rfl⟩ | ⟨x,t,rfl,rfl⟩ <;> rfl
  pyHash:=fun hv h=>by
    rcases fH hv with⟨i,t,rfl,rfl⟩ | ⟨x,t,rfl,rfl⟩
    . exact wpAny_pyHash_int h
    . exact wpAny_pyHash_str h
  eqBool:=fun hu hv h=>by
    rcases fH hu with⟨i,t,rfl,rfl⟩ | ⟨x,t,rfl,rfl⟩
    . rcases fH hv with⟨j,u,rfl,rfl⟩ | ⟨y,u,rfl,rfl⟩
      . rw[O3] at h;exact wpAny_eqBool_int h
      . rw[O5] at h;exact SeqAt.EqAt.int_str i t y u _ _ _ _ h
    . rcases fH hv with⟨j,u,rfl,rfl⟩ | ⟨y,u,rfl,rfl⟩
      . rw[O6] at h;exact SeqAt.EqAt.str_int x t j u _ _ _ _ h
      . rw[O4] at h;exact wpAny_eqBool_str h
  «strs»:=fun k x t v h=>by
    rcases fH h with⟨i,u,rfl,e⟩ | ⟨y,u,rfl,e⟩
    . exact nomatch e
    . injection e with e1 _
      subst e1
      cases v <;> rfl
theorem A8 (prog:Program) (w:World) (i:Int) (t:Tok):(eY prog w).is (.inl i) (.int i t)=true:=E8 i t
theorem nR (prog:Program) (w:World) (x:Str) (t:Tok):(eY prog w).is (.inr x) (.str x t)=true:=E9 x t
inductive V where
 | dW | bl (b:Bool) | int (i:Int) | str (x:Str) | Yr (b:Array UInt8) | flt (b:UInt64) | ref (a:Addr) | ty (n:String)
 deriving DecidableEq
noncomputable def RelV:V->Value->Prop
 | .dW,u=>u=Value.none
 | .bl b,u=>u=Value.bool b
 | .int i,u=>∃t,u=Value.int i t
 | .str x,u=>∃t,u=Value.str x t
 | .Yr b,u=>∃t,u=Value.bytes b t
 | .flt b,u=>∃t,u=Value.float b t
 | .ref a,u=>u=Value.ref a
 | .ty n,u=>u=Value.type n
noncomputable abbrev Vals:List V->List Value->Prop:=Paired RelV
theorem Vals.length {xs:List V}{us:List Value}(r:Vals xs us):xs.length=us.length:=Paired.length r
theorem Vals.get:∀{xs:List V}{us:List Value}{i:Nat}{x:V},Vals xs us->xs[i]? =some x->∃u,us[i]? =some u/\RelV x u
 | _,_,_,_,.nil,e=>by simp at e
 | _,_,0,_,.cons r _,e=>by simp at e;subst e;exact⟨_,rfl,r⟩
 | _,_,i+1,x,.cons _ t,e=>by
  obtain⟨u,h1,h2⟩:=Vals.get (i:=i) (x:=x) t (by simpa using e)
  exact⟨u,by simpa using h1,h2⟩
theorem Vals.set {x:V}{u:Value}(r:RelV x u):∀{xs:List V}{us:List Value}(i:Nat),Vals xs us->Vals (xs.set i x) (us.set i u)
 | _,_,_,.nil=>.nil
 | _,_,0,.cons _ t=>.cons r t
 | _,_,i+1,.cons q t=>.cons q (Vals.set r i t)
theorem Vals.append:∀{xs ys:List V}{us ws:List Value},Vals xs us->Vals ys ws->Vals (xs++ys) (us++ws)
 | _,_,_,_,.nil,s=>s
 | _,_,_,_,.cons r t,s=>.cons r (Vals.append t s)
theorem Vals.take:∀{xs:List V}{us:List Value}(n:Nat),Vals xs us->Vals (xs.take n) (us.take n)
 | _,_,0,_=>.nil
 | _,_,_+1,.nil=>.nil
 | _,_,n+1,.cons r t=>.cons r (Vals.take n t)
theorem Vals.drop:∀{xs:List V}{us:List Value}(n:Nat),Vals xs us->Vals (xs.drop n) (us.drop n)
 | _,_,0,r=>r
 | _,_,_+1,.nil=>.nil
 | _,_,n+1,.cons _ t=>Vals.drop n t
noncomputable def u9:Option V->Option Value->Prop
 | some v,some u=>RelV v u
 | none,none=>True
 | _,_=>False
noncomputable def KV {κ:Type}:List (κ×V)->List (κ×Value)->Prop:=Paired fun(p:κ×V) (q:κ×Value)=>p.1=q.1/\RelV p.2 q.2
noncomputable def kV:Key->V
 | .inl i=>.int i
 | .inr x=>.str x
inductive HO where
 | lst (xs:List V)
 | tup (xs:List V)
 | dK (kvs:List (Key×V)) | dT (kvs:List (D×V))
 | set (S:Int->Bool) (n:Nat)
 | ins (C dx:Addr) (fs:List (Str×V))
 | own (x:Addr)
 | xd (fs:List (Str×V))
 | met (f x:Addr)
 | nN (lo hi:Int)
 | lP (o:Obj) (u:HO)
 | O7 (ps:Array Value)
 | ext (φ:Heap->Prop)
noncomputable abbrev Hp:=Addr->Option HO
mutual
inductive Rep (H:Hp):V->D->Prop
 | dW:Rep H .dW .dW
 | bl (b:Bool):Rep H (.bl b) (.bl b)
 | int (i:Int):Rep H (.int i) (.int i)
 | str (z:Str):Rep H (.str z) (.str z)
 | tup {a:Addr}{vs:List V}{ds:List D}(e:H a=some (.tup vs)) (r:bS H vs ds):Rep H (.ref a) (.tup ds)
 | lst {a:Addr}{vs:List V}{ds:List D}(e:H a=some (.lst vs)) (r:bS H vs ds):Rep H (.ref a) (.lst ds)
inductive bS (H:Hp):List V->List D->Prop
 | nil:bS H [] []
 | cons {v:V}{d:D}{vs:List V}{ds:List D}(r:Rep H v d) (rs:bS H vs ds):bS H (v :: vs) (d :: ds)
end
mutual
theorem Rep.tups {H H':Hp}(ht:∀b xs,H b=some (.tup xs)->H' b=some (.tup xs)):∀(d:D){n:Nat}{v:V},Rep H v d->gW n d=true->Rep H' v d
 | .dW,n,_,_,k=>by simp[gW] at k
 | .bl _,n,_,_,k=>by simp[gW] at k
 | .lst _,n,_,_,k=>by simp[gW] at k
 | .int i,n,_,r,k=>by cases r;exact .int i
 | .str i,n,_,r,k=>by cases r;exact .str i
 | .tup ds,n,_,r,k=>by
  cases n with
  | zero=>simp[gW] at k
  | succ n=>
   cases r with
   | @tup a vs _ e rs=>exact .tup (ht _ _ e) (bS.tups ht ds rs k)
theorem bS.tups {H H':Hp}(ht:∀b xs,H b=some (.tup xs)->H' b=some (.tup xs)):∀(ds:List D){n:Nat}{vs:List V},bS H vs ds->ds.all (gW n)=true->bS H' vs ds
 | [],n,_,r,k=>by cases r;exact .nil
 | d :: ds,n,_,r,k=>by
  rw[List.all_cons,Bool.and_eq_true] at k
  cases r with
  | cons r1 r2=>exact .cons (Rep.tups ht d r1 k.1) (bS.tups ht ds r2 k.2)
end
noncomputable def Kd (H:Hp) (b:Addr) (k:D):Prop:=Rep H (.ref b) k/\gW 8 k=true
theorem Kd.tups {H H':Hp}{b:Addr}{k:D}(x:Kd H b k) (ht:∀b xs,H b=some (.tup xs)->H' b=some (.tup xs)):Kd H' b k:=⟨Rep.tups ht k x.1 x.2,x.2⟩
noncomputable def upd (H:Hp) (a:Addr) (o:HO):Hp:=fun b=>if b=a then some o else H b
theorem bh {H:Hp}{a:Addr}{o:HO}:upd H a o a=some o:=by unfold upd;rw[if_pos rfl]
theorem aX {H:Hp}{a b:Addr}{o:HO}(h:b≠a):upd H a o b=H b:=by unfold upd;rw[if_neg h]
theorem TJ {H:Hp}{a b:Addr}{o u:HO}(h:H a=some o) (h':H b=some u) (d:o≠u):a≠b:=by
 intro e;subst e;rw[h] at h';exact d (Option.some.inj h')
theorem bJ {H:Hp}{a b:Addr}{o:HO}(h:H a=some o) (h':H b=none):a≠b:=by
 intro e;subst e;rw[h] at h';cases h'
section
variable (P:Program) (w:World)
noncomputable def eL (H:Hp) (h:Heap) (a:Addr):HO->Prop
 | .lst xs=>xs.length<=sizeLine/\∃(its:List Value) (n:Nat),Vals xs its/\h.get? a=some {cls:=.type "list",data:=.seq its.toArray n}
 | .tup xs=>xs.length<=sizeLine/\∃its:List Value,Vals xs its/\IsTup h a its.toArray
 | .dK kvs=>kvs.length<=sizeLine/\(a == sysModules)=false/\∃vs,KV kvs vs/\h.DictOf (eY P w) a vs
 | .dT kvs=>kvs.length<=sizeLine/\(a == sysModules)=false/\∃xs:List (D×Addr×Value),
   Paired (fun(p:D×V) (q:D×Addr×Value)=>p.1=q.1/\Kd H q.2.1 p.1/\RelV p.2 q.2.2) kvs xs/\
   ∃o es ep,h.get? a=some o/\o.ExactDict/\o.data= .dict es ep/\es.toList=xs.map (entryOfKey (kT P w))/\(xs.map (·.1)).Nodup
 | .set S n=>h.SetOf (intKind P w) a S n
 | .ins C dx fs=>H dx=some (.own a)/\fs.length<=1000/\dx≠a/\h.get? a=some (PySem.W.instObj C dx)/\
   ∃mA,h.Ns1 dx mA/\(∀f,u9 (fs.lookup f) (mA f))/\PySem.Within mA (fs.map (·.1))
 | .own _=>∃o,h.get? a=some o
 | .xd fs=>∃mA,h.Ns1 a mA/\∀f,u9 (fs.lookup f) (mA f)
 | .nN lo hi=>∃t u v,h.get? a=some {cls:=.type "range",data:=.fields #[.int lo t,.int hi u,.int 1 v]}
 | .lP o u=>h.get? a=some o/\eL H h a u
 | .O7 ps=>h.get? a=some {cls:=.none,data:=.fields ps}
 | .met f x=>h.get? a=some (PySem.W.methodObj (.ref f) (.ref x))
 | .ext φ=>φ h/\(∃o,h.get? a=some o)/\∀h1 h2:Heap,φ h1->(∀o,h1.get? a=some o->h2.get? a=some o)->φ h2
noncomputable def nO (H:Hp) (h:Heap):Prop:=∀a o,H a=some o->eL P w H h a o
end
section
variable {P:Program}{w:World}{H H':Hp}{h h':Heap}{a:Addr}{o:HO}
theorem eL.lt (x:eL P w H h a o):a < h.objs.size:=by
 cases o with
 | lst xs=>obtain⟨_,_,_,_,e⟩:=x;exact Heap.lt_size e
 | tup xs=>obtain⟨_,_,_,p⟩:=x;exact p.lt
 | dK kvs=>obtain⟨_,_,_,_,o,_,_,e,_⟩:=x;exact Heap.lt_size e
 | dT kvs=>obtain⟨_,_,_,_,o,_,_,e,_⟩:=x;exact Heap.lt_size e
 | set S n=>obtain⟨o,_,_,_,e,_⟩:=x;exact Heap.lt_size e
 | ins C dx fs=>obtain⟨_,_,_,e,_⟩:=x;exact Heap.lt_size e
 | own y=>obtain⟨_,e⟩:=x;exact Heap.lt_size e
 | xd fs=>obtain⟨_,⟨_,_,_,e,_⟩,_⟩:=x;exact Heap.lt_size e
 | nN lo hi=>obtain⟨_,_,_,e⟩:=x;exact Heap.lt_size e
 | lP ob u=>obtain⟨e,_⟩:=x;exact Heap.lt_size e
 | O7 ps=>exact Heap.lt_size (show h.get? a=some _ from x)
 | met f y=>exact Heap.lt_size (show h.get? a=some _ from x)
 | ext φ=>obtain⟨_,⟨_,e⟩,_⟩:=x;exact Heap.lt_size e
theorem Paired.Fb {α β:Type}{F G:α->β->Prop}:∀{l₁:List α}{l₂:List β},Paired F l₁ l₂->(∀a b,F a b->G a b)->Paired G l₁ l₂
 | _,_,.nil,_=>.nil
 | _,_,.cons r t,f=>.cons (f _ _ r) (Paired.Fb t f)
theorem eL.stay (x:eL P w H h a o) (k:∀b u,(b=a\/H b=some (.own a))->h.get? b=some u->h'.get? b=some u)
  (ho:∀b,H b=some (.own a)->H' b=some (.own a)) (ht:∀b xs,H b=some (.tup xs)->H' b=some (.tup xs)):eL P w H' h' a o:=by
 induction o with
 | lst xs=>obtain⟨z,its,n,r,e⟩:=x;exact⟨z,its,n,r,k _ _ (.inl rfl) e⟩
 | tup xs=>obtain⟨z,its,r,ob,e,c⟩:=x;exact⟨z,its,r,ob,k _ _ (.inl rfl) e,c⟩
 | dK kvs=>obtain⟨z,y,vs,r,ob,es,ep,e,c⟩:=x;exact⟨z,y,vs,r,ob,es,ep,k _ _ (.inl rfl) e,c⟩
 | dT kvs=>
  obtain⟨z,y,xs,r,ob,es,ep,e,c⟩:=x
  exact⟨z,y,xs,Paired.Fb r fun p q z=>⟨z.1,z.2.1.tups ht,z.2.2⟩,ob,es,ep,k _ _ (.inl rfl) e,c⟩
 | set S n=>obtain⟨ob,es,ep,t,e,c⟩:=x;exact⟨ob,es,ep,t,k _ _ (.inl rfl) e,c⟩
 | ins C dx fs=>
  obtain⟨d,z,ne,e,mA,⟨od,es,ep,e2,c⟩,r⟩:=x
  exact⟨ho _ d,z,ne,k _ _ (.inl rfl) e,mA,⟨od,es,ep,k _ _ (.inr d) e2,c⟩,r⟩
 | own y=>obtain⟨ob,e⟩:=x;exact⟨ob,k _ _ (.inl rfl) e⟩
 | xd fs=>obtain⟨mA,⟨od,es,ep,e,c⟩,r⟩:=x;exact⟨mA,⟨od,es,ep,k _ _ (.inl rfl) e,c⟩,r⟩
 | nN lo hi=>obtain⟨t,u,v,e⟩:=x;exact⟨t,u,v,k _ _ (.inl rfl) e⟩
 | lP ob u ih=>obtain⟨e,q⟩:=x;exact⟨k _ _ (.inl rfl) e,ih q⟩
 | O7 ps=>
  have e:h.get? a=some {cls:=.none,data:=.fields ps}:=x
  show h'.get? a=some {cls:=.none,data:=.fields ps}
  exact k a _ (.inl rfl) e
 | met f y=>
  have e:h.get? a=some (PySem.W.methodObj (.ref f) (.ref y)):=x
  show h'.get? a=some (PySem.W.methodObj (.ref f) (.ref y))
  exact k a _ (.inl rfl) e
 | ext φ=>obtain⟨p,⟨o,e⟩,st⟩:=x;exact⟨st _ _ p fun o q=>k _ _ (.inl rfl) q,⟨o,k _ _ (.inl rfl) e⟩,st⟩
theorem nO.lt (x:nO P w H h) (e:H a=some o):a < h.objs.size:=(x a o e).lt
theorem nO.fresh (x:nO P w H h) (e:h.objs.size<=a):H a=none:=by
 cases q:H a with
 | none=>rfl
 | some u=>exact absurd (Nat.lt_of_lt_of_le (x.lt q) e) (Nat.lt_irrefl _)
theorem nO.kept (x:nO P w H h) (k:∀b u,h.get? b=some u->h'.get? b=some u):nO P w H h':=fun a o e=>
 (x a o e).stay (fun b u _ q=>k b u q) (fun _ q=>q) fun _ _ q=>q
theorem nO.laid (x:nO P w H h) (k:∀b u,h.get? b=some u->h'.get? b=some u) (hp:h.objs.size<=a) (new:eL P w (upd H a o) h' a o):nO P w (upd H a o) h':=fun b u e=>by
 have hn:=x.fresh hp
 by_cases hb:b=a
 ·subst hb;rw[bh] at e;cases e;exact new
 ·rw[aX hb] at e
  exact(x b u e).stay (fun c v _ q=>k c v q) (fun c q=>by rw[aX (bJ q hn)];exact q) fun c xs q=>by rw[aX (bJ q hn)];exact q
end
noncomputable def Rd (H:Hp) (a:Addr) (u:HO):Prop:=H a=some u\/∃o,H a=some (.lP o u)
theorem Rd.of {H:Hp}{a:Addr}{u:HO}(h:H a=some u):Rd H a u:=.inl h
theorem Rd.ok {P:Program}{w:World}{H:Hp}{h:Heap}{a:Addr}{u:HO}(r:Rd H a u) (x:nO P w H h):eL P w H h a u:=by
 rcases r with r | ⟨o,r⟩
 ·exact x a u r
 ·obtain⟨_,q⟩:=x a _ r
  exact q
noncomputable def TL:Option HO->Prop
 | some (.lst _)=>True
 | some (.dK _)=>True
 | some (.dT _)=>True
 | some (.set _ _)=>True
 | some (.ins _ _ _)=>True
 | some (.ext _)=>True
 | _=>False
section
variable {P:Program}{w:World}{H:Hp}{h h':Heap}{x e:Addr}{o':HO}
theorem nO.write (ok : nO P w H h) (mu : TL (H x)) (he : e = x \/ H e = some (.own x)) (k : ∀ b u, b ≠ e -> h.get? b = some u -> h'.get? b = some u) (SM : ∃ u, h'.get? e = some u)
    (new:eL P w (upd H x o') h' x o'):nO P w (upd H x o') h':=fun b u q=>by
  have TM:∀c y,H c=some (.own y)->c≠x:=fun c y r z=>by subst z;rw[r] at mu;exact mu
  have Ys:∀c xs,H c=some (.tup xs)->c≠x:=fun c xs r z=>by subst z;rw[r] at mu;exact mu
  by_cases hb:b=x
  . subst hb;rw[bh] at q;cases q;exact new
  . rw[aX hb] at q
    by_cases O8:b=e
    . have q':H b=some (.own x):=by
        rcases he with z | z
        . exact absurd (O8.trans z) hb
        . rw[O8];exact z
      rw[q] at q';cases q'
      obtain⟨v,hv⟩:=SM
      exact⟨v,by rw[O8];exact hv⟩
    . refine(ok b u q).stay (fun c v hc r=>k c v ?_ r) (fun c r=>by rw[aX (TM c b r)];exact r) fun c xs r=>by rw[aX (Ys c xs r)];exact r
      rcases hc with rfl | hc
      . exact O8
      . rintro rfl
        rcases he with z | z
        . exact TM c b hc z
        . rw[hc] at z;cases z;exact hb rfl
end
structure Un (fs ex:List Addr) (H H':Hp) (h h':Heap):Prop where
 keep:∀b o,h.get? b=some o->H b=none->b∉fs->b∉ex->h'.get? b=some o
 slot:∀b o,h.get? b=some o->H b=none->b∈fs->b∉ex->∃sl,h'.get? b=some {o with slots:=sl}
 free:∀b o,h.get? b=some o->H b=none->b∉ex->H' b=none
 there:∀b o,h.get? b=some o->b∉ex->∃o',h'.get? b=some o'
 tups:∀b xs,H b=some (.tup xs)->H' b=some (.tup xs)
 vM:∀b o u,H b=some (.lP o u)->H' b=some (.lP o u)
 xW:∀b ps,H b=some (.O7 ps)->∃more,H' b=some (.O7 (ps++more))
section
variable {fs fs' ex ex':List Addr}{H H1 H2:Hp}{h h1 h2 h':Heap}{a x e:Addr}{o:HO}
theorem Un.any (u:Un fs ex H H1 h h1){b:Addr}{ob:Obj}(q:h.get? b=some ob) (n:H b=none) (hx:b∉ex):∃sl,h1.get? b=some {ob with slots:=sl}:=by
 by_cases hb:b∈fs
 ·exact u.slot b ob q n hb hx
 ·exact⟨ob.slots,u.keep b ob q n hb hx⟩
theorem Un.kept (k:∀b u,h.get? b=some u->h'.get? b=some u):Un fs ex H H h h':=
 ⟨fun b ob q _ _ _=>k b ob q,fun b ob q _ _ _=>⟨ob.slots,k b ob q⟩,fun _ _ _ n _=>n,fun b ob q _=>⟨ob,k b ob q⟩,fun _ _ q=>q,fun _ _ _ q=>q,fun _ ps q=>⟨#[],by rw[q];simp⟩⟩
theorem Un.refl:Un fs ex H H h h:=Un.kept fun _ _ q=>q
theorem Un.laid (k:∀b u,h.get? b=some u->h'.get? b=some u) (hp:h.objs.size<=a) (hn:H a=none):Un fs ex H (upd H a o) h h' where
 keep:=fun b u q _ _ _=>k b u q
 slot:=fun b u q _ _ _=>⟨u.slots,k b u q⟩
 free:=fun b u q n _=>by rw[aX (Nat.ne_of_lt (Nat.lt_of_lt_of_le (Heap.lt_size q) hp))];exact n
 there:=fun b u q _=>⟨u,k b u q⟩
 tups:=fun b xs q=>by rw[aX (bJ q hn)];exact q
 vM:=fun b u xs q=>by rw[aX (bJ q hn)];exact q
 xW:=fun b ps q=>⟨#[],by rw[aX (bJ q hn),q];simp⟩
theorem Un.write (mu:TL (H x)) (he:e=x\/H e=some (.own x)) (k:∀b u,b≠e->h.get? b=some u->h'.get? b=some u) (SM:∃u,h'.get? e=some u):Un fs ex H (upd H x o) h h':=by
 have hx:∀b,H b=none->b≠x:=fun b n z=>by subst z;rw[n] at mu;exact mu
 have hb:∀b,H b=none->b≠e:=fun b n z=>by
  subst z
  rcases he with r | r
  ·exact hx b n r
  ·rw[n] at r;cases r
 have hm:∀b u,H b=some u->¬TL (some u)->b≠x:=fun b u q nm z=>by subst z;rw[q] at mu;exact nm mu
 refine⟨fun b u q n _ _=>k b u (hb b n) q,fun b u q n _ _=>⟨u.slots,k b u (hb b n) q⟩,fun b u q n _=>by rw[aX (hx b n)];exact n,fun b u q _=>?_,
  fun b xs q=>by rw[aX (hm b _ q fun z=>z)];exact q,fun b u xs q=>by rw[aX (hm b _ q fun z=>z)];exact q,fun b ps q=>⟨#[],by rw[aX (hm b _ q fun z=>z),q];simp⟩⟩
 by_cases O8:b=e
 ·subst O8;exact SM
 ·exact⟨u,k b u O8 q⟩
end
noncomputable def WW (h:Heap) (H:Hp):List Addr:=(List.range h.objs.size).filter fun a=>(H a).isSome
noncomputable def zM (h:Heap) (H:Hp):Heap:=PySem.W.hideAll h (WW h H)
theorem Fc (h:Heap) (H:Hp):(zM h H).objs.size=h.objs.size:=PySem.W.hideAll_size _ _
theorem HA {h:Heap}{H:Hp}{b:Addr}{o:Obj}(e:h.get? b=some o) (n:H b=none):(zM h H).get? b=some o:=
 PySem.W.hideAll_get _ e fun hm=>by
  have q:(H b).isSome=true:=(List.mem_filter.mp hm).2
  rw[n] at q;simp at q
theorem LN {h:Heap}{H:Hp}{b:Addr}{o:Obj}(e:(zM h H).get? b=some o):h.get? b=some o/\H b=none:=by
 have e':h.get? b=some o:=PySem.W.of_hideAll (WW h H) e
 refine⟨e',?_⟩
 cases q:H b with
 | none=>rfl
 | some x=>
  have hm:b∈WW h H:=List.mem_filter.mpr ⟨List.mem_range.mpr (Heap.lt_size e'),by simp[q]⟩
  have z:(zM h H).get? b=none:=PySem.W.hideAll_none (WW h H) hm
  rw[z] at e;cases e
noncomputable def LO (g h:Heap) (L:Addr):List (Addr×Obj):=(List.range h.objs.size).filterMap fun a=>if a=L\/(g.get? a).isSome=true then none else(h.get? a).map fun o=>(a,o)
noncomputable def rest (g h:Heap) (L d:Addr):List (Addr×Obj):=(LO g h L).filter fun p=>decide (p.1≠d)
structure Mod (K:PySem.W.Frag) (mg:Str->Option Value) (base:Heap):Prop where
 Yt:K.In base
 glob:base.Ns mainGlobals mg
 blt:∃mb,base.Ns builtinsNs mb/\∀x:Str,x≠"__name__"->mb x=bootBuiltins x
 nolimit:base.NoLimit
structure Cx where
 prog:Program
 w:World
 K:PySem.W.Frag
 mg:Str->Option Value
 base:Heap
 A:Around
 N:List Str
 s₀:Shared
 H₀:Hp
 env:Env
 outer:List Env
 stack:List Env
 ex:List Addr
 fn:Str->Bool
 calm:Bool
 pn:List (Addr×Obj)
 xe:Value->Shared->Prop
noncomputable def frs (l:List Env):List Addr:=l.filterMap (·.frame)
noncomputable abbrev Cx.fs (X:Cx):List Addr:=frs X.outer
noncomputable def CJ (sc:Scope) (x:Str):Prop:=sc.names.lookup x=some .local\/sc.names.lookup x=some .cell\/sc.names.lookup x=some .free
noncomputable def Loc (sc:Scope) (x:Str):Prop:=sc.names.lookup x=some .local\/sc.names.lookup x=some .cell
noncomputable def Look (env:Env) (h:Heap) (m:Str->Option Value) (x:Str) (u:Value):Prop:=
 (env.kindOf x=some .local/\m x=some u)\/((env.kindOf x=some .cell\/env.kindOf x=some .free)/\∃c,env.cells.lookup x=some c/\h.IsCell c (some u))
structure Cx.Ok (X:Cx):Prop where
 mod:Mod X.K X.mg X.base
 kind:X.env.scope.kind= .function
 glob:X.env.globals=mainGlobals
 blt:X.env.builtins=builtinsNs
 above:X.s₀.heap.objs.size<=X.env.locals
 inj:∀x y c,X.env.cells.lookup x=some c->X.env.cells.lookup y=some c->x=y
 has:∀x,(X.env.kindOf x=some .cell\/X.env.kindOf x=some .free)->∃c,X.env.cells.lookup x=some c
 TN:∀x c,X.fn x=true->X.env.cells.lookup x=some c->X.s₀.heap.objs.size<=c
 hd:X.calm=true->X.A.handled=none
 frames:X.A.frames=some X.stack
 stk:X.stack=X.outer\/(X.stack=X.env :: X.outer/\X.env.frame=some X.env.locals)
 WX:∀b∈X.ex,b≠X.env.locals/\∀x c,X.env.cells.lookup x=some c->c≠b
 bs:∀b o,X.base.get? b=some o->X.s₀.heap.get? b=some o/\X.H₀ b=none
 LD:X.base.objs.size<=X.s₀.heap.objs.size
 Fd:∀b o,X.base.get? b=some o->b∉X.ex
 Fe:∀b∈X.ex,b∉X.fs
 vN:X.s₀.heap.FunFrames X.base X.outer
 SN:∀b∈X.fs,X.H₀ b=none
structure Inv (X:Cx) (pins:List (Addr×Obj)) (σ:List (Option V)) (H:Hp) (s:Shared):Prop where
 ok:X.Ok
 os:s.os=X.s₀.os
 bare:AllBare s.gens
 base:Un X.fs X.ex X.H₀ H X.s₀.heap s.heap
 loc:∃m,s.heap.Ns X.env.locals m/\∀(i:Nat) (x:Str) (v:V),X.N[i]? =some x->σ[i]? =some (some v)->CJ X.env.scope x->∃u,RelV v u/\Look X.env s.heap m x u
 cell:∀x c,X.env.cells.lookup x=some c->∃v,s.heap.IsCell c v
 free:H X.env.locals=none
 nT:∀x c,X.env.cells.lookup x=some c->H c=none
 pin:∀p∈X.pn++pins,s.heap.get? p.1=some p.2/\H p.1=none/\p.1≠X.env.locals/\p.1∉X.fs/\∀v,p.2.data≠.cell v
 hok:nO X.prog X.w H s.heap
 len:σ.length=X.N.length
section
variable {X:Cx}{pins:List (Addr×Obj)}{σ:List (Option V)}{H H':Hp}{s:Shared}{h':Heap}
theorem Cx.Ok.kB (ok:X.Ok){b:Addr}{o:Obj}(e:X.base.get? b=some o):b∉X.fs:=fun hb=>by
 have:=(ok.vN.mem hb).1
 rw[e] at this;cases this
theorem Inv.bs (I:Inv X pins σ H s):∀b o,X.base.get? b=some o->s.heap.get? b=some o/\H b=none:=fun b o e=>
 ⟨I.base.keep b o (I.ok.bs b o e).1 (I.ok.bs b o e).2 (I.ok.kB e) (I.ok.Fd b o e),I.base.free b o (I.ok.bs b o e).1 (I.ok.bs b o e).2 (I.ok.Fd b o e)⟩
theorem Inv.bk (I:Inv X pins σ H s):∀b o,X.base.get? b=some o->s.heap.get? b=some o:=fun b o e=>(I.bs b o e).1
theorem Inv.mod (I:Inv X pins σ H s):Mod X.K X.mg X.base:=I.ok.mod
theorem Inv.CK (I:Inv X pins σ H s):X.K.In s.heap:=I.ok.mod.Yt.keeps I.bk
theorem Inv.lt (I:Inv X pins σ H s):X.env.locals < s.heap.objs.size:=let⟨_,hn,_⟩:=I.loc;hn.lt
theorem Inv.sz (I:Inv X pins σ H s):X.s₀.heap.objs.size<=s.heap.objs.size:=Nat.le_trans I.ok.above (Nat.le_of_lt I.lt)
theorem Inv.O9 (I:Inv X pins σ H s){a:Addr}(h:s.heap.objs.size<=a):a∉X.fs:=fun hb=>by
 obtain⟨_,o,ho,_⟩:=I.ok.vN.mem hb
 exact absurd (Nat.lt_of_lt_of_le (Heap.lt_size ho) (Nat.le_trans I.sz h)) (Nat.lt_irrefl _)
theorem Inv.Pa (I:Inv X pins σ H s):∀x c,X.env.cells.lookup x=some c->c≠X.env.locals:=fun x c e z=>by
 obtain⟨v,o,ho,hd⟩:=I.cell x c e
 obtain⟨m,⟨o',es,ep,ho',hd',_⟩,_⟩:=I.loc
 rw[z,ho'] at ho;cases ho;rw[hd'] at hd;cases hd
theorem Inv.vN (I:Inv X pins σ H s):s.heap.FunFrames X.base X.outer:=by
 have all:∀(l:List Env),(∀b∈frs l,b∈X.fs)->X.s₀.heap.FunFrames X.base l->s.heap.FunFrames X.base l:=by
  intro l
  induction l with
  | nil=>intro _ _;trivial
  | cons env r ih=>
   intro hs hl
   obtain⟨hk,⟨L,o,hf,hn,ho,hd⟩,hr⟩:=hl
   have hL:L∈X.fs:=hs L (by unfold frs;rw[List.filterMap_cons,hf];exact List.mem_cons_self)
   obtain⟨sl,e⟩:=I.base.slot L o ho (I.ok.SN L hL) hL fun z=>I.ok.Fe L z hL
   exact⟨hk,⟨L,_,hf,hn,e,hd⟩,ih (fun b hb=>hs b (by unfold frs;rw[List.filterMap_cons,hf];exact List.mem_cons_of_mem _ hb)) hr⟩
 exact all X.outer (fun _ hb=>hb) I.ok.vN
theorem Inv.stack (I:Inv X pins σ H s):s.heap.FunFrames X.base X.stack:=by
 rcases I.ok.stk with e | ⟨e,hf⟩
 ·rw[e];exact I.vN
 ·rw[e]
  obtain⟨m,hn,_⟩:=I.loc
  refine .cons (by rw[I.ok.kind];decide) hf hn ?_ I.vN
  exact Heap.get?_none_of_le (Nat.le_trans I.ok.LD I.ok.above)
theorem Inv.tF (I:Inv X pins σ H s):∀b∈frs X.stack,b∈X.env.locals :: X.fs:=fun b hb=>by
 rcases I.ok.stk with e | ⟨e,hf⟩
 ·rw[e] at hb;exact List.mem_cons_of_mem _ hb
 ·rw[e] at hb
  unfold frs at hb
  rw[List.filterMap_cons,hf] at hb
  exact hb
theorem Inv.zN (I:Inv X pins σ H s):∀b∈frs X.stack,H b=none:=fun b hb=>by
 rcases List.mem_cons.mp (I.tF b hb) with e | hb
 ·rw[e];exact I.free
 ·obtain⟨_,o,ho,_⟩:=I.ok.vN.mem hb
  exact I.base.free b o ho (I.ok.SN b hb) fun z=>I.ok.Fe b z hb
theorem Inv.step {g':Array GenState}{t':Nat}{d':Drawn}{ch:List Addr}(I:Inv X pins σ H s)
  (hch:∀b∈ch,(b∈X.ex\/X.s₀.heap.objs.size<=b)/\b≠X.env.locals/\(∀x c,X.env.cells.lookup x=some c->c≠b)/\∀p∈X.pn++pins,p.1≠b)
  (keep:∀b o,b≠X.env.locals->b∉X.fs->b∉ch->s.heap.get? b=some o->H b=none->h'.get? b=some o)
  (slot:∀b o,b≠X.env.locals->b∈X.fs->b∉ch->s.heap.get? b=some o->H b=none->∃sl,h'.get? b=some {o with slots:=sl}) (free:∀b o,b∉ch->s.heap.get? b=some o->H b=none->H' b=none)
  (there:∀b o,b∉ch->s.heap.get? b=some o->∃o',h'.get? b=some o')
  (tups:∀b xs,H b=some (.tup xs)->H' b=some (.tup xs)) (vM:∀b o u,H b=some (.lP o u)->H' b=some (.lP o u)) (xW:∀b ps,H b=some (.O7 ps)->∃more,H' b=some (.O7 (ps++more)))
  (ns:∀m,s.heap.Ns X.env.locals m->h'.Ns X.env.locals m) (hok:nO X.prog X.w H' h') (hg:AllBare g'):
  Inv X pins σ H' {s with heap:=h',gens:=g',drawn:=d',toks:=t'}:=by
 have neL:∀b o,X.s₀.heap.get? b=some o->b≠X.env.locals:=fun b o e=>Nat.ne_of_lt (Nat.lt_of_lt_of_le (Heap.lt_size e) I.ok.above)
 have WY:∀b o,X.s₀.heap.get? b=some o->b∉X.ex->b∉ch:=fun b o e hx hb=>by
  rcases(hch b hb).1 with z | z
  ·exact hx z
  ·exact absurd (Nat.lt_of_lt_of_le (Heap.lt_size e) z) (Nat.lt_irrefl _)
 have cellK:∀x c,X.env.cells.lookup x=some c->∀v,s.heap.IsCell c v->h'.IsCell c v:=fun x c e v ⟨o,ho,hd⟩=>by
  have TQ:c∉ch:=fun z=>(hch c z).2.2.1 x c e rfl
  by_cases hc:c∈X.fs
  ·obtain⟨sl,q⟩:=slot c o (I.Pa x c e) hc TQ ho (I.nT x c e)
   exact⟨_,q,hd⟩
  ·exact⟨o,keep c o (I.Pa x c e) hc TQ ho (I.nT x c e),hd⟩
 refine⟨I.ok,I.os,hg,⟨fun b o e n hb hx=>?_,fun b o e n hb hx=>?_,fun b o e n hx=>?_,fun b o e hx=>?_,fun b xs e=>tups b xs (I.base.tups b xs e),fun b o xs e=>vM b o xs (I.base.vM b o xs e),fun b ps e=>?_⟩,?_,fun x c e=>?_,?_,fun x c e=>?_,fun p hp=>?_,hok,I.len⟩
 ·exact keep b o (neL b o e) hb (WY b o e hx) (I.base.keep b o e n hb hx) (I.base.free b o e n hx)
 ·obtain⟨sl,e1⟩:=I.base.slot b o e n hb hx
  obtain⟨sl',e2⟩:=slot b _ (neL b o e) hb (WY b o e hx) e1 (I.base.free b o e n hx)
  exact⟨sl',e2⟩
 ·obtain⟨o',e1⟩:=I.base.there b o e hx
  exact free b o' (WY b o e hx) e1 (I.base.free b o e n hx)
 ·obtain⟨o',e1⟩:=I.base.there b o e hx
  exact there b o' (WY b o e hx) e1
 ·obtain⟨m1,e1⟩:=I.base.xW b ps e
  obtain⟨m2,e2⟩:=xW b _ e1
  exact⟨m1++m2,by rw[e2,Array.append_assoc]⟩
 ·obtain⟨m,hn,hl⟩:=I.loc
  refine⟨m,ns m hn,fun i x v e1 e2 e3=>?_⟩
  obtain⟨u,r,l⟩:=hl i x v e1 e2 e3
  refine⟨u,r,?_⟩
  rcases l with l | ⟨k,c,e,z⟩
  ·exact .inl l
  ·exact .inr ⟨k,c,e,cellK x c e _ z⟩
 ·obtain⟨v,z⟩:=I.cell x c e
  exact⟨v,cellK x c e v z⟩
 ·obtain⟨m,⟨o,_,_,ho,_⟩,_⟩:=I.loc
  exact free _ o (fun z=>(hch _ z).2.1 rfl) ho I.free
 ·obtain⟨v,o,ho,hd⟩:=I.cell x c e
  exact free c o (fun z=>(hch c z).2.2.1 x c e rfl) ho (I.nT x c e)
 ·obtain⟨e,n,ne,nf,d⟩:=I.pin p hp
  have TQ:p.1∉ch:=fun z=>(hch p.1 z).2.2.2 p hp rfl
  exact⟨keep p.1 p.2 ne nf TQ e n,free p.1 p.2 TQ e n,ne,nf,d⟩
theorem Inv.un {t':Nat}(I:Inv X pins σ H s) (u:Un X.fs [] H H' s.heap h') (hok:nO X.prog X.w H' h'):Inv X pins σ H' {s with heap:=h',toks:=t'}:=by
 obtain⟨m,⟨o,es,ep,ho,r⟩,_⟩:=id I.loc
 obtain⟨sl,hL⟩:=u.any ho I.free (by simp)
 exact I.step (g':=s.gens) (d':=s.drawn) (ch:=[]) (fun _ z=>nomatch z) (fun b o _ hb _ e n=>u.keep b o e n hb (by simp)) (fun b o _ hb _ e n=>u.slot b o e n hb (by simp)) (fun b o _ e n=>u.free b o e n (by simp)) (fun b o _ e=>u.there b o e (by simp)) u.tups u.vM u.xW (fun m' hm=>by
  obtain⟨o',es',Yu,ho',r'⟩:=hm
  rw[ho] at ho';cases ho'
  exact⟨_,es',Yu,hL,r'⟩) hok I.bare
theorem Inv.call {g':Array GenState}{t':Nat}{d':Drawn}{ch:List Addr}(I:Inv X pins σ H s) (u:Un (frs X.stack) ch H H' s.heap h') (hok:nO X.prog X.w H' h') (hg:AllBare g')
  (hch:∀b∈ch,(b∈X.ex\/X.s₀.heap.objs.size<=b)/\b≠X.env.locals/\(∀x c,X.env.cells.lookup x=some c->c≠b)/\∀p∈X.pn++pins,p.1≠b):
  Inv X pins σ H' {s with heap:=h',gens:=g',drawn:=d',toks:=t'}:=by
 obtain⟨m,⟨o,es,ep,ho,r⟩,_⟩:=id I.loc
 obtain⟨sl,hL⟩:=u.any ho I.free fun z=>(hch _ z).2.1 rfl
 exact I.step (ch:=ch) hch (fun b o hL hb hc e n=>u.keep b o e n (fun z=>(List.mem_cons.mp (I.tF b z)).elim hL hb) hc) (fun b o _ _ hc e n=>u.any e n hc) (fun b o hc e n=>u.free b o e n hc) (fun b o hc e=>u.there b o e hc) u.tups u.vM u.xW (fun m' hm=>by
  obtain⟨o',es',Yu,ho',r'⟩:=hm
  rw[ho] at ho';cases ho'
  exact⟨_,es',Yu,hL,r'⟩) hok hg
theorem Inv.turned {t':Nat}{it:Addr}(I:Inv X pins σ H s) (k:∀b o,b≠it->s.heap.get? b=some o->h'.get? b=some o) (hn:H it=none) (hL:it≠X.env.locals)
  (h1:it∈X.ex\/X.s₀.heap.objs.size<=it) (h2:∀x c,X.env.cells.lookup x=some c->c≠it) (h3:∀p∈X.pn++pins,p.1≠it):Inv X pins σ H {s with heap:=h',toks:=t'}:=by
 have TR:∀b u,H b=some u->b≠it:=fun b u e z=>by rw[z,hn] at e;cases e
 refine I.step (g':=s.gens) (d':=s.drawn) (ch:=[it]) (fun b hb=>?_) (fun b o _ _ hc e _=>k b o (fun z=>hc (by simp[z])) e) (fun b o _ _ hc e _=>⟨o.slots,k b o (fun z=>hc (by simp[z])) e⟩) (fun _ _ _ _ n=>n)
  (fun b o hc e=>⟨o,k b o (fun z=>hc (by simp[z])) e⟩) (fun _ _ e=>e) (fun _ _ _ e=>e) (fun b ps e=>⟨#[],by rw[e];simp⟩) (fun m hm=>?_) (fun b u e=>?_) I.bare
 ·have e:b=it:=by simpa using hb
  subst e
  exact⟨h1,hL,h2,h3⟩
 ·obtain⟨o,es,ep,ho,r⟩:=hm
  exact⟨o,es,ep,k _ o (Ne.symm hL) ho,r⟩
 ·refine(I.hok b u e).stay (fun c v hc q=>k c v ?_ q) (fun _ q=>q) fun _ _ q=>q
  rcases hc with z | z
  ·rw[z];exact TR b u e
  ·exact TR c _ z
theorem Inv.tok (I:Inv X pins σ H s) (t:Nat):Inv X pins σ H {s with toks:=t}:=I.un (h':=s.heap) (t':=t) Un.refl I.hok
theorem Inv.kept {t':Nat}(I:Inv X pins σ H s) (k:∀b u,s.heap.get? b=some u->h'.get? b=some u):Inv X pins σ H {s with heap:=h',toks:=t'}:=I.un (Un.kept k) (I.hok.kept k)
theorem Inv.laid {a:Addr}{o:HO}{t':Nat}(I:Inv X pins σ H s) (k:∀b u,s.heap.get? b=some u->h'.get? b=some u) (hp:s.heap.objs.size<=a) (new:eL X.prog X.w (upd H a o) h' a o):
  Inv X pins σ (upd H a o) {s with heap:=h',toks:=t'}:=I.un (Un.laid k hp (I.hok.fresh hp)) (I.hok.laid k hp new)
theorem Inv.write {x e:Addr}{o:HO}{t':Nat}(I:Inv X pins σ H s) (mu:TL (H x)) (he:e=x\/H e=some (.own x)) (k:∀b u,b≠e->s.heap.get? b=some u->h'.get? b=some u) (SM:∃u,h'.get? e=some u)
  (new:eL X.prog X.w (upd H x o) h' x o):Inv X pins σ (upd H x o) {s with heap:=h',toks:=t'}:=I.un (Un.write mu he k SM) (I.hok.write mu he k SM new)
theorem Inv.DY {Ov:List (Addr×Obj)}(I:Inv X pins σ H s) (h:∀p∈Ov,s.heap.get? p.1=some p.2/\H p.1=none/\p.1≠X.env.locals/\p.1∉X.fs/\∀v,p.2.data≠.cell v):Inv X Ov σ H s:=
 ⟨I.ok,I.os,I.bare,I.base,I.loc,I.cell,I.free,I.nT,fun p hp=>(List.mem_append.mp hp).elim (fun z=>I.pin p (List.mem_append_left _ z)) (h p),I.hok,I.len⟩
theorem A9 {N:List Str}(hN:N.Nodup){i j:Nat}{x:Str}(a:N[i]? =some x) (b:N[j]? =some x):i=j:=by
 obtain⟨h1,e1⟩:=List.getElem?_eq_some_iff.mp a
 obtain⟨h2,e2⟩:=List.getElem?_eq_some_iff.mp b
 exact(List.getElem_inj hN).mp (e1.trans e2.symm)
theorem yO {M : Model} {A : Around} {E : Value -> Shared -> Prop} {i : Nat} {x : Str} {v : V} {u : Value} {Q : Unit -> Shared -> Prop} (I : Inv X pins σ H s) (hN : X.N.Nodup) (hi : X.N[i]? = some x) (hx : Loc X.env.scope x) (r : RelV v u)
    (h:∀s',Inv X pins (σ.set i (some v)) H s'->(∃a,Heap.SameBut a s.heap s'.heap/\(a=X.env.locals\/X.env.cells.lookup x=some a))->Q () s') (hf:X.fn x=true\/X.env.scope.names.lookup x=some .local:=by first | exact .inl rfl | exact .inr rfl | assumption):wpAny M A (storeName X.env x u) Q E s:=by
  obtain⟨m,hn,hl⟩:=id I.loc
  have hcls:(X.env.scope.kind == .class || (X.env.scope.kind == .module && X.env.locals != X.env.globals))=false:=by rw[I.ok.kind];rfl
  have TU:i < σ.length:=by rw[I.len];exact(List.getElem?_eq_some_iff.mp hi).1
  have Pa:=I.Pa
  have tracked:∀{a:Addr}{h':Heap},(∃o,s.heap.get? a=some o/\H a=none)->Heap.SameBut a s.heap h'->nO X.prog X.w H h':=fun {a h'} ha hs b ob e=>by
    obtain⟨_,_,hfree⟩:=ha
    refine(I.hok b ob e).stay (fun c w' hc q=>(hs.2 c ?_).trans q) (fun _ q=>q) fun _ _ q=>q
    rintro rfl
    rcases hc with rfl | hc
    . rw[hfree] at e;cases e
    . rw[hfree] at hc;cases hc
  rcases hx with hk | hk
  . refine wpAny_storeName_local hk hn (fun h' hn' hs=>?_) hcls
    obtain⟨oL,_,_,hoL,_⟩:=id hn
    refine h _ ⟨I.ok,I.os,I.bare,⟨fun b o e n hb hx=>?_,fun b o e n hb hx=>?_,I.base.free,fun b o e hx=>?_,I.base.tups,I.base.vM,I.base.xW⟩,⟨_,hn',fun j y v' e1 e2 e3=>?_⟩,fun y c e=>?_,I.free,I.nT,fun p hp=>?_,tracked ⟨oL,hoL,I.free⟩ hs,by simpa using I.len⟩ ⟨_,hs,.inl rfl⟩
    . exact(hs.2 b (Nat.ne_of_lt (Nat.lt_of_lt_of_le (Heap.lt_size e) I.ok.above))).trans (I.base.keep b o e n hb hx)
    . obtain⟨sl,e1⟩:=I.base.slot b o e n hb hx
      exact⟨sl,(hs.2 b (Nat.ne_of_lt (Nat.lt_of_lt_of_le (Heap.lt_size e) I.ok.above))).trans e1⟩
    . obtain⟨o',e1⟩:=I.base.there b o e hx
      exact⟨o',(hs.2 b (Nat.ne_of_lt (Nat.lt_of_lt_of_le (Heap.lt_size e) I.ok.above))).trans e1⟩
    . by_cases hj:j=i
      . subst hj
        rw[hi] at e1;cases e1
        rw[List.getElem?_set_self TU] at e2
        cases e2
        exact⟨u,r,.inl ⟨hk,by simp⟩⟩
      . rw[List.getElem?_set_ne (Ne.symm hj)] at e2
        obtain⟨u',r',q⟩:=hl j y v' e1 e2 e3
        refine⟨u',r',?_⟩
        rcases q with⟨k,e⟩ | ⟨k,c,e,z⟩
        . refine .inl ⟨k,?_⟩
          have:y≠x:=fun e=>hj (A9 hN e1 (e▸hi))
          simp[this,e]
        . exact .inr ⟨k,c,e,z.sameBut hs (Pa y c e)⟩
    . obtain⟨w',z⟩:=I.cell y c e
      exact⟨w',z.sameBut hs (Pa y c e)⟩
    . obtain⟨e,n,ne,nf,d⟩:=I.pin p hp
      exact⟨(hs.2 p.1 ne).trans e,n,ne,nf,d⟩
  . have hfn:X.fn x=true:=by
      rcases hf with z | z
      . exact z
      . rw[z] at hk;cases hk
    obtain⟨c,hc⟩:=I.ok.has x (.inl hk)
    obtain⟨w',z⟩:=I.cell x c hc
    refine wpAny_storeName_cell I.ok.kind hk hc z (fun h' hc' hs=>?_)
    obtain⟨oc,hoc,Yv⟩:=id z
    refine h {s with heap:=h'} ⟨I.ok,I.os,I.bare,⟨fun b o e n hb hx=>?_,fun b o e n hb hx=>?_,I.base.free,fun b o e hx=>?_,I.base.tups,I.base.vM,I.base.xW⟩,⟨m,hn.sameBut hs (Ne.symm (Pa x c hc)),fun j y v' e1 e2 e3=>?_⟩,fun y c' e=>?_,I.free,I.nT,fun p hp=>?_,tracked ⟨oc,hoc,I.nT x c hc⟩ hs,by simpa using I.len⟩ ⟨c,hs,.inr hc⟩
    . exact(hs.2 b (Nat.ne_of_lt (Nat.lt_of_lt_of_le (Heap.lt_size e) (I.ok.TN x c hfn hc)))).trans (I.base.keep b o e n hb hx)
    . obtain⟨sl,e1⟩:=I.base.slot b o e n hb hx
      exact⟨sl,(hs.2 b (Nat.ne_of_lt (Nat.lt_of_lt_of_le (Heap.lt_size e) (I.ok.TN x c hfn hc)))).trans e1⟩
    . obtain⟨o',e1⟩:=I.base.there b o e hx
      exact⟨o',(hs.2 b (Nat.ne_of_lt (Nat.lt_of_lt_of_le (Heap.lt_size e) (I.ok.TN x c hfn hc)))).trans e1⟩
    . by_cases hj:j=i
      . subst hj
        rw[hi] at e1;cases e1
        rw[List.getElem?_set_self TU] at e2
        cases e2
        exact⟨u,r,.inr ⟨.inl hk,c,hc,hc'⟩⟩
      . rw[List.getElem?_set_ne (Ne.symm hj)] at e2
        obtain⟨u',r',q⟩:=hl j y v' e1 e2 e3
        refine⟨u',r',?_⟩
        rcases q with q | ⟨k,c',e,z'⟩
        . exact .inl q
        . refine .inr ⟨k,c',e,z'.sameBut hs ?_⟩
          rintro rfl
          exact hj (A9 hN e1 (I.ok.inj _ _ _ e hc▸hi))
    . by_cases hcc:c'=c
      . subst hcc;exact⟨_,hc'⟩
      . obtain⟨w2,z2⟩:=I.cell y c' e
        exact⟨w2,z2.sameBut hs hcc⟩
    . obtain⟨e,n,ne,nf,d⟩:=I.pin p hp
      refine⟨(hs.2 p.1 ?_).trans e,n,ne,nf,d⟩
      intro q
      rw[q,hoc] at e
      have q':oc=p.2:=Option.some.inj e
      exact d w' (by rw[<-q'];exact Yv)
theorem Ba {M:Model}{A:Around}{E:Value->Shared->Prop}{i:Nat}{x:Str}{v:V}{u:Value}{Q:Unit->Shared->Prop}(I:Inv X pins σ H s) (hN:X.N.Nodup) (hi:X.N[i]? =some x) (hx:Loc X.env.scope x) (r:RelV v u)
  (h:∀s',Inv X pins (σ.set i (some v)) H s'->Q () s') (hf:X.fn x=true\/X.env.scope.names.lookup x=some .local:=by first | exact .inl rfl | exact .inr rfl | assumption):wpAny M A (storeName X.env x u) Q E s:=
 yO I hN hi hx r (fun s' I' _=>h s' I') hf
theorem Inv.Ow {s':Shared}{ch:List Addr}(I:Inv X pins σ H s) (ho:s'.os=s.os) (u:Un (frs X.stack) ch H H' s.heap s'.heap) (hok:nO X.prog X.w H' s'.heap) (hg:AllBare s'.gens)
  (hch:∀b∈ch,(b∈X.ex\/X.s₀.heap.objs.size<=b)/\b≠X.env.locals/\(∀x c,X.env.cells.lookup x=some c->c≠b)/\∀p∈X.pn++pins,p.1≠b):Inv X pins σ H' s':=by
 obtain⟨h',g',d',t',o'⟩:=s'
 have e:o'=s.os:=ho
 subst e
 exact I.call (g':=g') (t':=t') (d':=d') u hok hg hch
end
noncomputable abbrev XK:=Value->Option Addr->Hp->Prop
noncomputable abbrev St:=List (Option V)
noncomputable abbrev VK:=V->Hp->Prop
noncomputable abbrev TE:=St->Hp->VK->Prop
noncomputable abbrev TT:=St->Hp->(Bool->Hp->Prop)->Prop
noncomputable abbrev TA:=St->Hp->(List V->Hp->Prop)->Prop
structure Ends where
 nx:St->Hp->Prop
 rt:VK
 bk:St->Hp->Prop:=fun _ _=>False
 ct:St->Hp->Prop:=fun _ _=>False
noncomputable abbrev TS:=Ends->St->Hp->Prop
noncomputable def EP (X:Cx) (pins:List (Addr×Obj)) (σ:St) (Q:VK) (u:Value) (s':Shared):Prop:=∃v H',Inv X pins σ H' s'/\RelV v u/\Q v H'
noncomputable def TP (X:Cx) (pins:List (Addr×Obj)) (σ:St) (Q:Bool->Hp->Prop) (b:Bool) (s':Shared):Prop:=∃H',Inv X pins σ H' s'/\Q b H'
noncomputable def AP (X:Cx) (pins:List (Addr×Obj)) (σ:St) (Q:List V->Hp->Prop) (us:List Value) (s':Shared):Prop:=∃vs H',Inv X pins σ H' s'/\Vals vs us/\Q vs H'
noncomputable def SP (X:Cx) (pins:List (Addr×Obj)) (D:Ends) (f:Flow) (s':Shared):Prop:=
 match f with
 | .next=>∃σ' H',Inv X pins σ' H' s'/\D.nx σ' H'
 | .brk=>∃σ' H',Inv X pins σ' H' s'/\D.bk σ' H'
 | .cont=>∃σ' H',Inv X pins σ' H' s'/\D.ct σ' H'
 | .ret u=>∃v σ' H',Inv X pins σ' H' s'/\RelV v u/\D.rt v H'
noncomputable def PE (X:Cx) (e:Expr) (t:TE):Prop:=
 ∀(pins:List (Addr×Obj)) (s:Shared) (σ:St) (H:Hp) (Q:VK),Inv X pins σ H s->t σ H Q->wpAny (model X.prog X.w) X.A (eval e X.env) (EP X pins σ Q) X.xe s
noncomputable def PT (X:Cx) (e:Expr) (t:TT):Prop:=
 ∀(pins:List (Addr×Obj)) (s:Shared) (σ:St) (H:Hp) (Q:Bool->Hp->Prop),Inv X pins σ H s->t σ H Q->wpAny (model X.prog X.w) X.A (isTrue e X.env (eval e X.env)) (TP X pins σ Q) X.xe s
noncomputable def PW (X:Cx) (e:Expr) (t:TT):Prop:=
 ∀(whole:Sem Value) (pins:List (Addr×Obj)) (s:Shared) (σ:St) (H:Hp) (Q:Bool->Hp->Prop),Inv X pins σ H s->t σ H Q->wpAny (model X.prog X.w) X.A (isTrue e X.env whole) (TP X pins σ Q) X.xe s
theorem PW.pt {X:Cx}{e:Expr}{t:TT}(h:PW X e t):PT X e t:=h _
noncomputable def PA (X:Cx) (es:List Expr) (t:TA):Prop:=
 ∀(pos:Pos) (pins:List (Addr×Obj)) (s:Shared) (σ:St) (H:Hp) (Q:List V->Hp->Prop),Inv X pins σ H s->t σ H Q->wpAny (model X.prog X.w) X.A (spliced (backTo pos (starEach es X.env))) (AP X pins σ Q) X.xe s
noncomputable def PS (X:Cx) (st:Stmt) (t:TS):Prop:=
 ∀(pins:List (Addr×Obj)) (s:Shared) (σ:St) (H:Hp) (D:Ends),Inv X pins σ H s->t D σ H->wpAny (model X.prog X.w) X.A (exec st X.env) (SP X pins D) X.xe s
noncomputable def CG (X:Cx) (st:List Stmt) (t:TS):Prop:=
 ∀(pins:List (Addr×Obj)) (s:Shared) (σ:St) (H:Hp) (D:Ends),Inv X pins σ H s->t D σ H->wpAny (model X.prog X.w) X.A (execs st X.env) (SP X pins D) X.xe s
theorem fJ {α:Type}{t:Sem α}{Q Q':α->Shared->Prop}{M:Model}{A:Around}{E:Value->Shared->Prop}{s:Shared}(h:wpAny M A t Q E s) (hQ:∀a s,Q a s->Q' a s):wpAny M A t Q' E s:=wpAny_mono h hQ fun _ _ x=>x
section
variable {X:Cx}
theorem bin {a b:Expr}{ta tb:TE}(ha:PE X a ta) (hb:PE X b tb){pins:List (Addr×Obj)}{s:Shared}{σ:St}{H:Hp}{R:V->V->Hp->Prop}(I:Inv X pins σ H s) (h:ta σ H fun x H1=>tb σ H1 fun y H2=>R x y H2)
  {α:Type}{Q:α->Shared->Prop}{f:Value->Value->Sem α}
  (hf:∀v u s2 x y H2,Inv X pins σ H2 s2->RelV x v->RelV y u->R x y H2->wpAny (model X.prog X.w) X.A (f v u) Q X.xe s2):
  wpAny (model X.prog X.w) X.A (eval a X.env) (fun v s₁=>wpAny (model X.prog X.w) X.A (eval b X.env) (fun u s₂=>wpAny (model X.prog X.w) X.A (f v u) Q X.xe s₂) X.xe s₁) X.xe s:=by
 refine fJ (ha pins s σ H _ I h) fun v s1 ⟨x,H1,I1,r1,q1⟩=>?_
 refine fJ (hb pins s1 σ H1 _ I1 q1) fun u s2 ⟨y,H2,I2,r2,q2⟩=>?_
 exact hf v u s2 x y H2 I2 r1 r2 q2
noncomputable def Ff (i:Nat):TE:=fun σ H Q=>∃v,σ[i]? =some (some v)/\Q v H
noncomputable def tC (v:V):TE:=fun _ H Q=>Q v H
theorem iy {i:Nat}{x:Str}{pos:Pos}(hN:X.N[i]? =some x) (hv:CJ X.env.scope x) (hd:(x == ("__debug__":Str))=false:=by decide) (hcd:(x == ("__classdict__":Str))=false:=by decide):PE X (.Name x pos) (Ff i):=by
 intro pins s σ H Q I h
 obtain⟨v,e,h⟩:=h
 obtain⟨m,hn,hl⟩:=I.loc
 obtain⟨u,r,l⟩:=hl i x v hN e hv
 have fin:EP X pins σ Q u s:=⟨v,H,I,r,h⟩
 rcases l with⟨hk,hm⟩ | ⟨hk,c,hc,hcell⟩
 ·exact wpAny_Name (wpAny_loadName_local I.ok.kind hk hn hm fin) hd
 ·rcases hk with hk | hk
  ·exact wpAny_Name (wpAny_loadName_cell I.ok.kind hk hc hcell fin) hd
  ·exact wpAny_Name (wpAny_loadName_free I.ok.kind hk hc hcell fin hcd) hd
theorem Pb {i j pos}:PE X (.Constant (.int i) j pos) (tC (.int i)):=fun _ _ _ H _ I h=>wpAny_Constant_int ⟨.int i,H,I.tok _,⟨_,rfl⟩,h⟩
theorem TV {b j pos}:PE X (.Constant (.bool b) j pos) (tC (.bl b)):=fun _ _ _ H _ I h=>Constant_bool ⟨.bl b,H,I,rfl,h⟩
theorem HB {x j pos}:PE X (.Constant (.str x) j pos) (tC (.str x)):=fun _ _ _ H _ I h=>Calls.Constant_str ⟨.str x,H,I.tok _,⟨_,rfl⟩,h⟩
noncomputable def Gl (X:Cx) (x:Str):Prop:=X.env.kindOf x=some .globalImplicit
theorem zO {E:Value->Shared->Prop}{pins:List (Addr×Obj)}{s:Shared}{σ:St}{H:Hp}{x:Str}{u:Value}{pos:Pos}{Q:Value->Shared->Prop}(I:Inv X pins σ H s) (hg:Gl X x) (hm:X.mg x=some u) (h:Q u s)
  (hd:(x == ("__debug__":Str))=false:=by decide):wpAny (model X.prog X.w) X.A (eval (.Name x pos) X.env) Q E s:=
 Calls.Name_function_global I.ok.kind hg (Calls.loadGlobal_global (by rw[I.ok.glob];exact I.mod.glob.keeps I.bk) hm h) hd
theorem kU {E:Value->Shared->Prop}{pins:List (Addr×Obj)}{s:Shared}{σ:St}{H:Hp}{x:Str}{u:Value}{pos:Pos}{Q:Value->Shared->Prop}(I:Inv X pins σ H s) (hg:Gl X x) (hm:X.mg x=none) (hv:bootBuiltins x=some u) (h:Q u s)
  (hn:x≠"__name__":=by decide) (hd:(x == ("__debug__":Str))=false:=by decide):wpAny (model X.prog X.w) X.A (eval (.Name x pos) X.env) Q E s:=by
 obtain⟨mb,h1,h2⟩:=I.mod.blt
 exact Calls.Name_function_global I.ok.kind hg (Calls.loadGlobal_builtin (by rw[I.ok.glob];exact I.mod.glob.keeps I.bk) hm (by rw[I.ok.blt];exact h1.keeps I.bk) ((h2 x hn).trans hv) h) hd
theorem DZ {x:Str}{v:V}{u:Value}{pos:Pos}(hg:Gl X x) (hm:X.mg x=some u) (r:RelV v u) (hd:(x == ("__debug__":Str))=false:=by decide):PE X (.Name x pos) (tC v):=
 fun _ _ _ H _ I h=>zO I hg hm ⟨v,H,I,r,h⟩ hd
theorem LP {x:Str}{v:V}{u:Value}{pos:Pos}(hg:Gl X x) (hm:X.mg x=none) (hv:bootBuiltins x=some u) (r:RelV v u) (hn:x≠"__name__":=by decide) (hd:(x == ("__debug__":Str))=false:=by decide):PE X (.Name x pos) (tC v):=
 fun _ _ _ H _ I h=>kU I hg hm hv ⟨v,H,I,r,h⟩ hn hd
variable {a b:Expr}{ta tb:TE}{pos:Pos}
noncomputable def PC (X:Cx) (op:CmpOp) (a b:Expr) (t:TE):Prop:=
 ∀(pins:List (Addr×Obj)) (s:Shared) (σ:St) (H:Hp) (Q:VK),Inv X pins σ H s->t σ H Q->
  wpAny (model X.prog X.w) X.A (eval a X.env) (fun v s₁=>wpAny (model X.prog X.w) X.A (eval b X.env) (fun u s₂=>wpAny (model X.prog X.w) X.A (compareOp op v u) (EP X pins σ Q) X.xe s₂) X.xe s₁) X.xe s
theorem HC (b:Expr){op:CmpOp}(h:op≠.In) (h2:op≠.NotIn):behindInMarks op b=false:=by
 have e1:(op == CmpOp.In)=false:=by cases op <;> first | rfl | exact absurd rfl h
 have e2:(op == CmpOp.NotIn)=false:=by cases op <;> first | rfl | exact absurd rfl h2
 cases b <;> simp[behindInMarks,e1,e2]
noncomputable def tB (t:TE):TT:=fun σ H Q=>t σ H fun x H1=>∃c,x= .bl c/\Q c H1
theorem HD {op:CmpOp}{t:TE}(h:PC X op a b t) (h1:behindInMarks op b=false:=by first | exact HC _ (by decide) (by decide) | rfl):PT X (.Compare a [op] [b] pos) (tB t):=by
 intro pins s σ H Q I hw
 refine wpAny_isTrue_Compare1 (fJ (h pins s σ H _ I hw) fun v s1 h1=>fJ h1 fun u s2 h2=>fJ h2 fun c s3 ⟨x,H1,I1,r1,q1⟩=>?_) h1
 obtain⟨d,rfl,q⟩:=q1
 cases r1
 exact wpAny_truthy_bool ⟨H1,I1,q⟩
theorem Pc {e:Expr}{t:TE}(h:PE X e t) (he:∀whole,isTrue e X.env whole=(do let v <-whole;standAt e.pos;holding [v] (truthy v)):=by intro _;rfl):PT X e (tB t):=by
 intro pins s σ H Q I hw
 refine isTrue_plain (fJ (h pins s σ H _ I hw) fun v s1 ⟨x,H1,I1,r1,q1⟩=>?_) (he _)
 obtain⟨d,rfl,q⟩:=q1
 cases r1
 exact wpAny_truthy_bool ⟨H1,I1,q⟩
variable {tA WZ:TT}{rest:List Expr}
noncomputable def Yw (t u:TT):TT:=fun σ H Q=>t σ H fun c H1=>if c=true then u σ H1 Q else Q false H1
noncomputable def tOr (t u:TT):TT:=fun σ H Q=>t σ H fun c H1=>if c=true then Q true H1 else u σ H1 Q
noncomputable def Yx (t:TT):TT:=fun σ H Q=>t σ H fun c H1=>Q (!c) H1
theorem pw_and1 (ha:PT X a tA):PW X (.BoolOp .And [a] pos) tA:=by
 intro wh pins s σ H Q I h
 refine isTrue_and (fJ (ha pins s σ H Q I h) fun c s1 e=>?_)
 cases c with
 | true=>exact isTrue_and_nil e
 | false=>exact e
theorem pw_or1 (ha:PT X a tA):PW X (.BoolOp .Or [a] pos) tA:=by
 intro wh pins s σ H Q I h
 refine isTrue_or (fJ (ha pins s σ H Q I h) fun c s1 e=>?_)
 cases c with
 | false=>exact isTrue_or_nil e
 | true=>exact e
theorem pw_and (ha:PT X a tA) (hb:PW X (.BoolOp .And (b :: rest) pos) WZ):PW X (.BoolOp .And (a :: b :: rest) pos) (Yw tA WZ):=by
 intro wh pins s σ H Q I h
 refine isTrue_and (fJ (ha pins s σ H _ I h) fun c s1 ⟨H1,I1,q1⟩=>?_)
 cases c with
 | true=>exact hb wh pins s1 σ H1 Q I1 q1
 | false=>exact⟨H1,I1,q1⟩
theorem pw_or (ha:PT X a tA) (hb:PW X (.BoolOp .Or (b :: rest) pos) WZ):PW X (.BoolOp .Or (a :: b :: rest) pos) (tOr tA WZ):=by
 intro wh pins s σ H Q I h
 refine isTrue_or (fJ (ha pins s σ H _ I h) fun c s1 ⟨H1,I1,q1⟩=>?_)
 cases c with
 | true=>exact⟨H1,I1,q1⟩
 | false=>exact hb wh pins s1 σ H1 Q I1 q1
theorem Pd (ha:PT X a tA):PT X (.UnaryOp .Not a pos) (Yx tA):=by
 intro pins s σ H Q I h
 exact isTrue_not (ha pins s σ H (fun c H1=>Q (!c) H1) I h)
noncomputable def TX (ta tb:TE):TE:=fun σ H Q=>ta σ H fun x H1=>∃c,x= .bl c/\if c=true then tb σ H1 Q else Q (.bl false) H1
noncomputable def Yy (ta tb:TE):TE:=fun σ H Q=>ta σ H fun x H1=>∃c,x= .bl c/\if c=true then Q (.bl true) H1 else tb σ H1 Q
noncomputable def TY (ta:TE):TE:=fun σ H Q=>ta σ H fun x H1=>∃c,x= .bl c/\Q (.bl (!c)) H1
theorem Pe {op}{t:TE}(h:PE X a t):PE X (.BoolOp op [a] pos) t:=fun pins s σ H Q I hw=>BoolOp_one (h pins s σ H Q I hw)
theorem Pf (ha:PE X a ta) (hb:PE X (.BoolOp .And (b :: rest) pos) tb):PE X (.BoolOp .And (a :: b :: rest) pos) (TX ta tb):=by
 intro pins s σ H Q I h
 refine BoolOp_and (fJ (ha pins s σ H _ I h) fun v s1 ⟨x,H1,I1,r1,q1⟩=>?_)
 obtain⟨c,rfl,q1⟩:=q1
 cases r1
 refine wpAny_truthy_bool ?_
 cases c with
 | true=>exact hb pins s1 σ H1 Q I1 q1
 | false=>exact⟨.bl false,H1,I1,rfl,q1⟩
theorem TZ (ha:PE X a ta) (hb:PE X (.BoolOp .Or (b :: rest) pos) tb):PE X (.BoolOp .Or (a :: b :: rest) pos) (Yy ta tb):=by
 intro pins s σ H Q I h
 refine BoolOp_or (fJ (ha pins s σ H _ I h) fun v s1 ⟨x,H1,I1,r1,q1⟩=>?_)
 obtain⟨c,rfl,q1⟩:=q1
 cases r1
 refine wpAny_truthy_bool ?_
 cases c with
 | false=>exact hb pins s1 σ H1 Q I1 q1
 | true=>exact⟨.bl true,H1,I1,rfl,q1⟩
theorem Pg (ha:PE X a ta):PE X (.UnaryOp .Not a pos) (TY ta):=by
 intro pins s σ H Q I h
 refine UnaryOp_ (fJ (ha pins s σ H _ I h) fun v s1 ⟨x,H1,I1,r1,q1⟩=>?_)
 obtain⟨c,rfl,q1⟩:=q1
 cases r1
 exact not_of (wpAny_truthy_bool ⟨.bl (!c),H1,I1,rfl,q1⟩)
noncomputable def tIf (t:TT) (ta tb:TE):TE:=fun σ H Q=>t σ H fun c H1=>if c=true then ta σ H1 Q else tb σ H1 Q
theorem HE {c:Expr}(hc:PT X c tA) (ha:PE X a ta) (hb:PE X b tb):PE X (.IfExp c a b pos) (tIf tA ta tb):=by
 intro pins s σ H Q I h
 refine wpAny_IfExp (fJ (hc pins s σ H _ I h) fun d s1 ⟨H1,I1,q1⟩=>?_)
 cases d with
 | true=>exact ha pins s1 σ H1 Q I1 q1
 | false=>exact hb pins s1 σ H1 Q I1 q1
end
noncomputable def m6 (K:PySem.W.Frag) (H:Hp) (a:Addr) (xs:List V):Prop:=
 Rd H a (.lst xs)\/
  ∃(o:Obj) (its:Array Value) (n:Nat),K.lookup a=some o/\o.cls= .type "list"/\o.dict=none/\o.data= .seq its n/\its.size<=sizeLine/\Vals xs its.toList
noncomputable def yP (K:PySem.W.Frag) (H:Hp) (a:Addr) (xs:List V):Prop:=
 Rd H a (.tup xs)\/
  ∃(o:Obj) (its:Array Value) (n:Nat),K.lookup a=some o/\o.cls= .type "tuple"/\o.data= .seq its n/\its.size<=sizeLine/\Vals xs its.toList
noncomputable def Yz:Value->Option V
 | .none=>some .dW
 | .bool b=>some (.bl b)
 | .int i _=>some (.int i)
 | .str x _=>some (.str x)
 | .bytes b _=>some (.Yr b)
 | .float b _=>some (.flt b)
 | .ref a=>some (.ref a)
 | .type n=>some (.ty n)
 | _=>none
theorem RelV.abs {x:V}{u:Value}(r:RelV x u):Yz u=some x:=by
 cases x with
 | dW=>cases r;rfl
 | bl _=>cases r;rfl
 | int _=>obtain⟨t,rfl⟩:=r;rfl
 | str _=>obtain⟨t,rfl⟩:=r;rfl
 | Yr _=>obtain⟨t,rfl⟩:=r;rfl
 | flt _=>obtain⟨t,rfl⟩:=r;rfl
 | ref _=>cases r;rfl
 | ty _=>cases r;rfl
theorem RelV.inj {x y:V}{u:Value}(r:RelV x u) (q:RelV y u):x=y:=Option.some.inj (r.abs.symm.trans q.abs)
theorem Vals.inj:∀{xs ys:List V}{us:List Value},Vals xs us->Vals ys us->xs=ys
 | _,_,_,.nil,.nil=>rfl
 | _,_,_,.cons r t,.cons r' t'=>by rw[r.inj r',Vals.inj t t']
section
variable {X:Cx}{pins:List (Addr×Obj)}{σ:St}{H:Hp}{s:Shared}{a:Addr}{xs ys:List V}
theorem m6.of {K:PySem.W.Frag}(h:H a=some (.lst xs)):m6 K H a xs:=.inl (.inl h)
theorem Inv.list (I:Inv X pins σ H s) (h:m6 X.K H a xs):∃its:List Value,Vals xs its/\PlainL s.heap a its.toArray/\xs.length<=sizeLine:=by
 rcases h with h | ⟨o,its,n,hk,hc,hd,hs,hz,r⟩
 ·obtain⟨z,its,n,r,e⟩:=h.ok I.hok
  exact⟨its,r,⟨_,n,e,rfl,rfl,rfl⟩,z⟩
 ·refine⟨its.toList,r,⟨o,n,I.CK a o hk,hc,hd,by simpa using hs⟩,?_⟩
  have e:=r.length
  simp only[Array.length_toList] at e
  omega
theorem Inv.tuple (I:Inv X pins σ H s) (h:yP X.K H a xs):∃its:List Value,Vals xs its/\IsTup s.heap a its.toArray/\xs.length<=sizeLine:=by
 rcases h with h | ⟨o,its,n,hk,hc,hs,hz,r⟩
 ·obtain⟨z,its,r,p⟩:=h.ok I.hok
  exact⟨its,r,p,z⟩
 ·refine⟨its.toList,r,⟨o,I.CK a o hk,hc,n,by simpa using hs⟩,?_⟩
  have e:=r.length
  simp only[Array.length_toList] at e
  omega
theorem Inv.vO (I:Inv X pins σ H s) (h:m6 X.K H a xs) (h':m6 X.K H a ys):xs=ys:=by
 obtain⟨its,r,⟨o,n,e,_,_,d⟩,_⟩:=I.list h
 obtain⟨its',r',⟨o',n',e',_,_,d'⟩,_⟩:=I.list h'
 rw[e] at e';cases e'
 rw[d] at d'
 injection d' with d1 _
 have:its=its':=by simpa using congrArg Array.toList d1
 subst this
 exact r.inj r'
theorem Inv.yQ (I:Inv X pins σ H s) (h:yP X.K H a xs) (h':yP X.K H a ys):xs=ys:=by
 obtain⟨its,r,⟨o,e,_,n,d⟩,_⟩:=I.tuple h
 obtain⟨its',r',⟨o',e',_,n',d'⟩,_⟩:=I.tuple h'
 rw[e] at e';cases e'
 rw[d] at d'
 injection d' with d1 _
 have:its=its':=by simpa using congrArg Array.toList d1
 subst this
 exact r.inj r'
end
noncomputable abbrev Cx.xX (X:Cx) (E:Value->Shared->Prop):Cx:={X with xe:=E}
noncomputable abbrev Cx.T5 (X:Cx):Cx:=X.xX fun _ _=>False
theorem Cx.Ok.xX {X:Cx}(ok:X.Ok) (E:Value->Shared->Prop):(X.xX E).Ok:=
 ⟨ok.mod,ok.kind,ok.glob,ok.blt,ok.above,ok.inj,ok.has,ok.TN,ok.hd,ok.frames,ok.stk,ok.WX,ok.bs,ok.LD,ok.Fd,ok.Fe,ok.vN,ok.SN⟩
theorem Cx.Ok.nU {X:Cx}{E:Value->Shared->Prop}(ok:(X.xX E).Ok):X.Ok:=
 ⟨ok.mod,ok.kind,ok.glob,ok.blt,ok.above,ok.inj,ok.has,ok.TN,ok.hd,ok.frames,ok.stk,ok.WX,ok.bs,ok.LD,ok.Fd,ok.Fe,ok.vN,ok.SN⟩
section
variable {X:Cx}{pins:List (Addr×Obj)}{σ:St}{H:Hp}{s:Shared}{E:Value->Shared->Prop}
theorem Inv.xX (I:Inv X pins σ H s) (E:Value->Shared->Prop):Inv (X.xX E) pins σ H s:=⟨I.ok.xX E,I.os,I.bare,I.base,I.loc,I.cell,I.free,I.nT,I.pin,I.hok,I.len⟩
theorem Inv.nU (I:Inv (X.xX E) pins σ H s):Inv X pins σ H s:=⟨I.ok.nU,I.os,I.bare,I.base,I.loc,I.cell,I.free,I.nT,I.pin,I.hok,I.len⟩
theorem SP.nU {D:Ends}{f:Flow}{s':Shared}(h:SP (X.xX E) pins D f s'):SP X pins D f s':=by
 cases f with
 | next=>obtain⟨σ',H',I,q⟩:=h;exact⟨σ',H',I.nU,q⟩
 | brk=>obtain⟨σ',H',I,q⟩:=h;exact⟨σ',H',I.nU,q⟩
 | cont=>obtain⟨σ',H',I,q⟩:=h;exact⟨σ',H',I.nU,q⟩
 | ret u=>obtain⟨v,σ',H',I,r,q⟩:=h;exact⟨v,σ',H',I.nU,r,q⟩
theorem CG.T5 {st:List Stmt}{t:TS}(h:CG X.T5 st t):CG X st t:=fun pins s σ H D I hw=>
 wpAny_mono (h pins s σ H D (I.xX _) hw) (fun _ _ q=>q.nU) fun _ _ z=>False.elim z
end
section
variable {X:Cx}{st:Stmt}{rest:List Stmt}{t u:TS}{e:Expr}{te:TE}{pos:Pos}
noncomputable def T6:TS:=fun D σ H=>D.nx σ H
noncomputable def YA (t u:TS):TS:=fun D σ H=>t {D with nx:=u D} σ H
theorem LQ:CG X [] T6:=fun _ _ σ H _ I h=>wpAny_execs_nil ⟨σ,H,I,h⟩
theorem HF (h1:PS X st t) (h2:CG X rest u):CG X (st :: rest) (YA t u):=by
 intro pins s σ H D I h
 refine wpAny_execs_cons (fJ (h1 pins s σ H {D with nx:=u D} I h) fun f s1 q=>?_)
 cases f with
 | next=>
  obtain⟨σ',H',I',q⟩:=q
  exact h2 pins s1 σ' H' D I' q
 | ret v=>exact q
 | brk=>exact q
 | cont=>exact q
theorem LR (h1:PS X st t):CG X [st] t:=by
 intro pins s σ H D I h
 refine wpAny_execs_cons (fJ (h1 pins s σ H D I h) fun f s1 q=>?_)
 cases f with
 | next=>exact wpAny_execs_nil q
 | ret v=>exact q
 | brk=>exact q
 | cont=>exact q
theorem Inv.quiet {pins:List (Addr×Obj)}{σ:St}{H:Hp}{s:Shared}(I:Inv X pins σ H s):interactive X.env=false:=by simp[interactive,I.ok.kind]
noncomputable def T7 (te:TE):TS:=fun D σ H=>te σ H fun _ H1=>D.nx σ H1
theorem LS (he:PE X e te) (hs:swapsWith e none pos.line X.env=pure false:=by rfl):PS X (.Expr e pos) (T7 te):=by
 intro pins s σ H D I h
 exact wpAny_Expr_any (fJ (he pins s σ H _ I h) fun v s1 ⟨x,H1,I1,r1,q1⟩=>⟨σ,H1,I1,q1⟩) I.quiet hs
noncomputable def YB (te:TE):TS:=fun D σ H=>te σ H D.rt
theorem Ph (he:PE X e te):PS X (.Return (some e) pos) (YB te):=by
 intro pins s σ H D I h
 exact wpAny_Return_some (fJ (he pins s σ H _ I h) fun v s1 ⟨x,H1,I1,r1,q1⟩=>⟨x,σ,H1,I1,r1,q1⟩)
noncomputable def YC (c:TT) (t u:TS):TS:=fun D σ H=>c σ H fun b H1=>if b=true then t D σ H1 else u D σ H1
theorem T8 {c:Expr}{a b:List Stmt}{tc:TT}(hc:PT X c tc) (ha:CG X a t) (hb:CG X b u):PS X (.If c a b pos) (YC tc t u):=by
 intro pins s σ H D I h
 refine wpAny_If (fJ (hc pins s σ H _ I h) fun d s1 ⟨H1,I1,q1⟩=>?_)
 cases d with
 | true=>exact ha pins s1 σ H1 D I1 q1
 | false=>exact hb pins s1 σ H1 D I1 q1
end
noncomputable abbrev TG:=V->St->Hp->(St->Hp->Prop)->Prop
noncomputable abbrev LU:=List V->St->Hp->(St->Hp->Prop)->Prop
noncomputable def PG (X:Cx) (target:Expr) (t:TG):Prop:=
 ∀(pins:List (Addr×Obj)) (s:Shared) (σ:St) (H:Hp) (v:V) (u:Value) (Q:St->Hp->Prop),Inv X pins σ H s->RelV v u->t v σ H Q->
  wpAny (model X.prog X.w) X.A (assign target X.env u) (fun _ s'=>∃σ' H',Inv X pins σ' H' s'/\Q σ' H') X.xe s
noncomputable def Ox (X:Cx) (ts:List Expr) (t:LU):Prop:=
 ∀(pins:List (Addr×Obj)) (s:Shared) (σ:St) (H:Hp) (vs:List V) (us:List Value) (Q:St->Hp->Prop),Inv X pins σ H s->Vals vs us->t vs σ H Q->
  wpAny (model X.prog X.w) X.A (assignInOrder ((assignEach ts X.env).map (·.2)) us) (fun _ s'=>∃σ' H',Inv X pins σ' H' s'/\Q σ' H') X.xe s
noncomputable abbrev Pj:=V->V->V->Hp->(Hp->Prop)->Prop
noncomputable def T9 (X:Cx) (t:Pj):Prop:=
 ∀(pins:List (Addr×Obj)) (s:Shared) (σ:St) (H:Hp) (o i v:V) (ov iv u:Value) (Q:Hp->Prop),Inv X pins σ H s->RelV o ov->RelV i iv->RelV v u->t o i v H Q->
  wpAny (model X.prog X.w) X.A (setItem ov iv u) (fun _ s'=>∃H',Inv X pins σ H' s'/\Q H') X.xe s
section
variable {X:Cx}{pos:Pos}
noncomputable def uJ (i:Nat):TG:=fun v σ H Q=>Q (σ.set i (some v)) H
theorem vt {i:Nat}{x:Str}(hN:X.N.Nodup) (hi:X.N[i]? =some x) (hx:Loc X.env.scope x) (hf:X.fn x=true\/X.env.scope.names.lookup x=some .local:=by first | exact .inl rfl | exact .inr rfl | assumption):PG X (.Name x pos) (uJ i):=by
 intro pins s σ H v u Q I r h
 exact wpAny_assign_Name (Ba I hN hi hx r (fun s' I'=>⟨_,H,I',h⟩) hf)
noncomputable def Ua:LU:=fun vs σ H Q=>vs=[]/\Q σ H
noncomputable def HG (t:TG) (u:LU):LU:=fun vs σ H Q=>∃v r,vs=v :: r/\t v σ H fun σ' H'=>u r σ' H' Q
theorem D0:Ox X [] Ua:=by
 intro pins s σ H vs us Q I r h
 obtain⟨e,h⟩:=h
 subst e
 cases r
 exact assignInOrder_nil ⟨σ,H,I,h⟩
theorem vP {e:Expr}{es:List Expr}{t:TG}{u:LU}(h1:PG X e t) (h2:Ox X es u)
  (hs:(assignEach (e :: es) X.env).map (·.2)=assign e X.env :: (assignEach es X.env).map (·.2):=by rfl):Ox X (e :: es) (HG t u):=by
 intro pins s σ H vs us Q I r h
 obtain⟨v,vr,e1,h⟩:=h
 subst e1
 cases r with
 | cons r rr=>
  rw[hs]
  refine assignInOrder_cons (fJ (h1 pins s σ H _ _ _ I r h) fun _ s1 ⟨σ1,H1,I1,q1⟩=>?_)
  exact h2 pins s1 σ1 H1 _ _ Q I1 rr q1
noncomputable def Ub (K:PySem.W.Frag) (n:Nat) (t:LU):TG:=fun v σ H Q=>∃a xs,v= .ref a/\yP K H a xs/\xs.length=n/\t xs σ H Q
theorem HH {es:List Expr}{k:Nat}{t:LU}{n:Nat}(hc:X.calm=true) (h:Ox X es t)
  (hn:(assignEach es X.env).length=n:=by rfl) (hst:(assignEach es X.env).findIdx? (·.1)=none:=by rfl):PG X (.Tuple es k pos) (Ub X.K n t):=by
 intro pins s σ H v u Q I r hw
 obtain⟨a,xs,e1,hq,hl,hw⟩:=hw
 subst e1
 cases r
 obtain⟨its,rv,ht,hz⟩:=I.tuple hq
 refine assign_Tuple_tuple (I.ok.hd hc) ht (by simp[hn,<-hl,rv.length]) hst fun h' hx=>?_
 have I1:Inv X pins σ H {s with heap:=h'}:=I.kept (t':=s.toks) fun b o e=>hx b o (Nat.ne_of_lt (Heap.lt_size e)) e
 exact h pins _ σ H xs _ Q I1 (by simpa using rv) hw
noncomputable def YD (to ti:TE) (t:Pj):TG:=fun v σ H Q=>to σ H fun o H1=>ti σ H1 fun i H2=>t o i v H2 fun H3=>Q σ H3
theorem Pk {o i:Expr}{to ti:TE}{t:Pj}(ho:PE X o to) (hi:PE X i ti) (hs:T9 X t)
  (ha:∀v,assign (.Subscript o i pos) X.env v=(do
   let ov <-holding [v] (eval o X.env)
   let iv <-holding [v,ov] (eval i X.env)
   standAt pos
   holding [v,ov,iv] (setItem ov iv v)
   release [v,ov,iv] []):=by intro _;rfl):PG X (.Subscript o i pos) (YD to ti t):=by
 intro pins s σ H v u Q I r h
 rw[ha]
 refine wpAny_bind (wpAny_holding (fJ (ho pins s σ H _ I h) fun ov s1 ⟨x,H1,I1,r1,q1⟩=>?_))
 refine wpAny_bind (wpAny_holding (fJ (hi pins s1 σ H1 _ I1 q1) fun iv s2 ⟨y,H2,I2,r2,q2⟩=>?_))
 refine wpAny_bind (wpAny_standAt (wpAny_bind (wpAny_holding (fJ (hs pins s2 σ H2 x y v ov iv u _ I2 r1 r2 r q2) fun _ s3 ⟨H3,I3,q3⟩=>?_))))
 exact wpAny_release ⟨σ,H3,I3,q3⟩
noncomputable def LV (te:TE) (g:TG):TS:=fun D σ H=>te σ H fun x H1=>g x σ H1 D.nx
theorem HJ {tg e:Expr}{te:TE}{g:TG}(he:PE X e te) (hg:PG X tg g) (hs:swapsWithSole [tg] e pos.line X.env=pure false:=by rfl) (hw:swappedStores [tg] e X.env=pure none:=by rfl)
  (h1:(assignEach [tg] X.env).map (·.2)=[assign tg X.env]:=by rfl):PS X (.Assign [tg] e pos) (LV te g):=by
 intro pins s σ H D I h
 refine wpAny_Assign_stores (fJ (he pins s σ H _ I h) fun v s1 ⟨x,H1,I1,r1,q1⟩=>?_) hs hw
 rw[h1]
 exact fJ (hg pins s1 σ H1 x v _ I1 r1 q1) fun _ s2 q=>q
theorem Pn {i:Nat}{x:Str}{e:Expr}{te:TE}{pos':Pos}(hN:X.N.Nodup) (hi:X.N[i]? =some x) (hx:Loc X.env.scope x) (he:PE X e te) (hs:swapsWith e (some (.Name x pos')) pos.line X.env=pure false:=by rfl) (hf:X.fn x=true\/X.env.scope.names.lookup x=some .local:=by first | exact .inl rfl | exact .inr rfl | assumption):
  PS X (.Assign [.Name x pos'] e pos) (LV te (uJ i)):=by
 intro pins s σ H D I h
 refine wpAny_Assign_Name (fJ (he pins s σ H _ I h) fun v s1 ⟨y,H1,I1,r1,q1⟩=>?_) hs
 exact Ba I1 hN hi hx r1 (fun s2 I2=>⟨_,H1,I2,q1⟩) hf
end
section
variable {X:Cx}{pos:Pos}
end
structure It where
 go:Nat->Hp->Prop
 SO:Nat->Hp->V->Hp->Prop
 stop:Nat->Hp->Prop
noncomputable def lR (X:Cx) (pins:List (Addr×Obj)) (H:Hp) (b:Addr):Prop:=
 H b=none/\b≠X.env.locals/\b∉X.fs/\(b∈X.ex\/X.s₀.heap.objs.size<=b)/\(∀x c,X.env.cells.lookup x=some c->c≠b)/\∀p∈X.pn++pins,p.1≠b
theorem Inv.xY {X:Cx}{pins:List (Addr×Obj)}{σ:St}{H H':Hp}{s:Shared}{b:Addr}(I:Inv X pins σ H s) (hb:s.heap.objs.size<=b) (hn:H' b=none):lR X pins H' b:=by
 refine⟨hn,Nat.ne_of_gt (Nat.lt_of_lt_of_le I.lt hb),I.O9 hb,.inr (Nat.le_trans I.sz hb),fun x c e z=>?_,fun p hp z=>?_⟩
 ·obtain⟨v,q⟩:=I.cell x c e
  exact absurd (Nat.lt_of_lt_of_le q.lt (by rw[z];exact hb)) (Nat.lt_irrefl _)
 ·exact absurd (Nat.lt_of_lt_of_le (Heap.lt_size (I.pin p hp).1) (by rw[z];exact hb)) (Nat.lt_irrefl _)
structure Turn (P:Program) (w:World) (K:PySem.W.Frag) (tg:Expr) (J:It) (fp:List Addr) (it:Addr) (tn:Nat->Heap->Prop):Prop where
 mem:it∈fp
 obj:∀i h,tn i h->∀b∈fp,∃o,h.get? b=some o/\∀v,o.data≠.cell v
 keep:∀i h h',tn i h->(∀b∈fp,∀o,h.get? b=some o->h'.get? b=some o)->tn i h'
 item:∀(X:Cx),X.prog=P->X.w=w->X.K=K->X.calm=true->∀(i:Nat) (pins:List (Addr×Obj)) (s:Shared) (σ:St) (H:Hp) (E:Value->Shared->Prop),Inv X pins σ H s->(∀b∈fp,lR X pins H b)->tn i s.heap->J.go i H->
  wpAny (model P w) X.A (pyNext (.ref it)) (fun r s1=>∃u,r=some u/\
   wpAny (model P w) X.A (letOwnedTupleGo tg (.ref it) u) (fun _ s2=>∃x H',Inv X pins σ H' s2/\RelV x u/\J.SO i H x H'/\tn (i+1) s2.heap/\∀b∈fp,H' b=none) E s1) E s
 done:∀(X:Cx),X.prog=P->X.w=w->X.K=K->X.calm=true->∀(i:Nat) (pins:List (Addr×Obj)) (s:Shared) (σ:St) (H:Hp) (E:Value->Shared->Prop),Inv X pins σ H s->(∀b∈fp,lR X pins H b)->tn i s.heap->J.stop i H->
  wpAny (model P w) X.A (pyNext (.ref it)) (fun r s1=>r=none/\Inv X pins σ H s1) E s
 self:∀(A:Around) (i:Nat) (s:Shared) (Q:Value->Shared->Prop) (E:Value->Shared->Prop),tn i s.heap->Q (.ref it) s->wpAny (model P w) A (pyIter (.ref it)) Q E s
noncomputable abbrev TI:=St->Hp->(It->Hp->Prop)->Prop
noncomputable def YE (X:Cx) (pins:List (Addr×Obj)) (σ:St) (tg:Expr) (R:It->Hp->Prop) (itv:Value) (s2:Shared):Prop:=
 ∃(it:Addr) (fp:List Addr) (tn:Nat->Heap->Prop) (J:It) (H':Hp),itv= .ref it/\Inv X pins σ H' s2/\Turn X.prog X.w X.K tg J fp it tn/\tn 0 s2.heap/\(∀b∈fp,lR X pins H' b)/\R J H'
noncomputable def PI (X:Cx) (tg iter:Expr) (wi:TI):Prop:=
 ∀(pins:List (Addr×Obj)) (s:Shared) (σ:St) (H:Hp) (R:It->Hp->Prop),Inv X pins σ H s->wi σ H R->
  wpAny (model X.prog X.w) X.A (eval iter X.env) (fun v s1=>wpAny (model X.prog X.w) X.A (pyIter v) (YE X pins σ tg R) X.xe s1) X.xe s
theorem D3 {M : Model} {A : Around} {E : Value -> Shared -> Prop} {s : Shared} {tg : Expr} {it : Addr} {u : Value} {o : Obj} {n : String} {vs : Array Value} {Q : Unit -> Shared -> Prop} (ho : s.heap.get? it = some o) (hc : o.cls = .type n) (hd : o.data = .fields vs)
    (hn:["enumerate","zip","dict_itemiterator","dict_reverseitemiterator","odict_iterator","itertools.zip_longest","itertools.pairwise"].contains n=false) (hQ:Q () s):wpAny M A (letOwnedTupleGo tg (.ref it) u) Q E s:=by
  unfold letOwnedTupleGo
  cases tg <;> first
    | exact wpAny_pure hQ
    | (cases u <;> first
        | exact wpAny_pure hQ
        | (refine wpAny_bind (wpAny_load ho ?_)
           rw[hc,hd]
           show wpAny M A (if(["enumerate","zip","dict_itemiterator","dict_reverseitemiterator","odict_iterator","itertools.zip_longest","itertools.pairwise"].contains n && vs[0]? == some (rawInt _))=true then _ else _) Q E s
           rw[if_neg (by intro h;rw[hn,Bool.false_and] at h;cases h)]
           exact wpAny_pure hQ))
noncomputable def YF (K:PySem.W.Frag) (a:Addr):It:=
 ⟨fun i H=>∃xs x,m6 K H a xs/\xs[i]? =some x,fun i H x H'=>H'=H/\∀xs,m6 K H a xs->xs[i]? =some x,fun i H=>∃xs,m6 K H a xs/\xs.length<=i⟩
noncomputable def YG (K:PySem.W.Frag) (a:Addr):It:=
 ⟨fun i H=>∃xs x,yP K H a xs/\xs[i]? =some x,fun i H x H'=>H'=H/\∀xs,yP K H a xs->xs[i]? =some x,fun i H=>∃xs,yP K H a xs/\xs.length<=i⟩
noncomputable def W0 (lo:Int) (n:Nat):It:=⟨fun i _=>i < n,fun i H x H'=>H'=H/\x= .int (lo+i),fun i _=>n<=i⟩
theorem Fg {P:Program}{w:World}{K:PySem.W.Frag}{tg:Expr}(a it:Addr):Turn P w K tg (YF K a) [it] it (fun i h=>h.IsListIter it a i) where
 mem:=by simp
 obj:=fun i h st b hb=>by
  have e:b=it:=by simpa using hb
  subst e
  obtain⟨o,e,c,d⟩:=st
  exact⟨o,e,fun v z=>by rw[d] at z;cases z⟩
 keep:=fun i h h' st k=>st.at fun o e=>k it (by simp) o e
 item:=by
  intro X hP hw hK hc i pins s σ H E I hf st hg
  subst hP hw hK
  obtain⟨xs,x,hq,hx⟩:=hg
  obtain⟨its,rv,p,hz⟩:=I.list hq
  obtain⟨u,hu,ru⟩:=rv.get hx
  obtain⟨f0,f1,f2,f3,f4,f5⟩:=hf it (by simp)
  refine wpAny_pyNext_list_item st p.isList (x:=u) (by simpa using hu) fun h' st' sb=>?_
  have I1:Inv X pins σ H {s with heap:=h'}:=I.turned (t':=s.toks) (fun b o hb e=>(sb.2 b hb).trans e) f0 f1 f3 f4 f5
  obtain⟨o,e,c,d⟩:=id st'
  exact⟨u,rfl,D3 (s:={s with heap:=h'}) e c d (by decide) ⟨x,H,I1,ru,⟨rfl,fun ys hy=>by rw[I.vO hy hq];exact hx⟩,st',fun b hb=>(hf b hb).1⟩⟩
 done:=by
  intro X hP hw hK hc i pins s σ H E I hf st hg
  subst hP hw hK
  obtain⟨xs,hq,hx⟩:=hg
  obtain⟨its,rv,p,hz⟩:=I.list hq
  obtain⟨f0,f1,f2,f3,f4,f5⟩:=hf it (by simp)
  have hl:=rv.length
  exact wpAny_pyNext_list_end (I.ok.hd hc) st p.isList (by simp;omega) fun h' eb=>⟨rfl,I.turned (t':=s.toks) (fun b o hb e=>eb b o hb e) f0 f1 f3 f4 f5⟩
 self:=fun _ _ _ _ _ st h=>wpAny_pyIter_listiter st h
theorem CL {P:Program}{w:World}{K:PySem.W.Frag}{tg:Expr}(a it:Addr):Turn P w K tg (YG K a) [it] it (fun i h=>h.IsTupleIter it a i) where
 mem:=by simp
 obj:=fun i h st b hb=>by
  have e:b=it:=by simpa using hb
  subst e
  obtain⟨o,e,c,d⟩:=st
  exact⟨o,e,fun v z=>by rw[d] at z;cases z⟩
 keep:=fun i h h' st k=>st.at fun o e=>k it (by simp) o e
 item:=by
  intro X hP hw hK hc i pins s σ H E I hf st hg
  subst hP hw hK
  obtain⟨xs,x,hq,hx⟩:=hg
  obtain⟨its,rv,p,hz⟩:=I.tuple hq
  obtain⟨u,hu,ru⟩:=rv.get hx
  obtain⟨f0,f1,f2,f3,f4,f5⟩:=hf it (by simp)
  refine wpAny_pyNext_tuple_item st (show s.heap.IsTuple a its.toArray from p) (x:=u) (by simpa using hu) fun h' st' sb=>?_
  have I1:Inv X pins σ H {s with heap:=h'}:=I.turned (t':=s.toks) (fun b o hb e=>(sb.2 b hb).trans e) f0 f1 f3 f4 f5
  obtain⟨o,e,c,d⟩:=id st'
  exact⟨u,rfl,D3 (s:={s with heap:=h'}) e c d (by decide) ⟨x,H,I1,ru,⟨rfl,fun ys hy=>by rw[I.yQ hy hq];exact hx⟩,st',fun b hb=>(hf b hb).1⟩⟩
 done:=by
  intro X hP hw hK hc i pins s σ H E I hf st hg
  subst hP hw hK
  obtain⟨xs,hq,hx⟩:=hg
  obtain⟨its,rv,p,hz⟩:=I.tuple hq
  obtain⟨f0,f1,f2,f3,f4,f5⟩:=hf it (by simp)
  have hl:=rv.length
  exact wpAny_pyNext_tuple_end (I.ok.hd hc) st (show s.heap.IsTuple a its.toArray from p) (by simp;omega) fun h' eb=>⟨rfl,I.turned (t':=s.toks) (fun b o hb e=>eb b o hb e) f0 f1 f3 f4 f5⟩
 self:=fun _ _ _ _ _ st h=>wpAny_pyIter_tupleiter st h
theorem CM {P:Program}{w:World}{K:PySem.W.Frag}{tg:Expr}(it:Addr) (lo:Int) (n:Nat):Turn P w K tg (W0 lo n) [it] it (fun i h=>IsRangeIter h it (lo+(i:Nat) * 1) ((n:Int) - (i:Nat)) 1) where
  mem:=by simp
  obj := fun i h st b hb => by
    have e:b=it:=by simpa using hb
    subst e
    exact⟨_,st,fun v z=>by
      have z':Data.fields _=Data.cell v:=z
      cases z'⟩
  keep:=fun i h h' st k=>k it (by simp) _ st
  item:=by
    intro X hP hw hK hc i pins s σ H E I hf st hg
    subst hP hw hK
    obtain⟨f0,f1,f2,f3,f4,f5⟩:=hf it (by simp)
    have W:=Walks.range (prog:=X.prog) (w:=X.w) (I.ok.hd hc) it lo 1 n
    refine W.item i s _ _ hg st fun v h' tk hv st' kk=>?_
    obtain⟨t,rfl⟩:=hv
    have I1:Inv X pins σ H {s with heap:=h',toks:=tk}:=I.turned (fun b o hb e=>kk b o (by simpa using hb) e) f0 f1 f3 f4 f5
    refine⟨_,rfl,D3 (s:={s with heap:=h',toks:=tk}) (n:="range_iterator") st' rfl rfl (by decide) ⟨.int (lo+i),H,I1,⟨t,?_⟩,⟨rfl,rfl⟩,st',fun b hb=>(hf b hb).1⟩⟩
    rw[Int.mul_one]
  done:=by
    intro X hP hw hK hc i pins s σ H E I hf st hg
    subst hP hw hK
    obtain⟨f0,f1,f2,f3,f4,f5⟩:=hf it (by simp)
    exact wpAny_pyNext_range_end (I.ok.hd hc) st (by have:n<=i:=hg;omega) fun h' eb=>⟨rfl,I.turned (t':=s.toks) (fun b o hb e=>eb b o hb e) f0 f1 f3 f4 f5⟩
  self:=fun _ _ _ _ _ st h=>wpAny_pyIter_rangeiter st h
section
variable {X:Cx}{tg:Expr}
noncomputable def Uc (K:PySem.W.Frag) (tl:TE):TI:=fun σ H R=>tl σ H fun x H1=>∃a,x= .ref a/\(∃xs,m6 K H1 a xs)/\R (YF K a) H1
noncomputable def YH (K:PySem.W.Frag) (tl:TE):TI:=fun σ H R=>tl σ H fun x H1=>∃a,x= .ref a/\(∃xs,yP K H1 a xs)/\R (YG K a) H1
theorem D4 {l:Expr}{tl:TE}(hl:PE X l tl):PI X tg l (Uc X.K tl):=by
 intro pins s σ H R I h
 refine fJ (hl pins s σ H _ I h) fun v s1 ⟨x,H1,I1,r1,q1⟩=>?_
 obtain⟨a,e,⟨xs,hq⟩,q⟩:=q1
 subst e
 cases r1
 obtain⟨its,rv,p,hz⟩:=I1.list hq
 refine wpAny_pyIter_list p.isList ?_
 refine⟨s1.heap.objs.size,[s1.heap.objs.size],_,_,H1,rfl,I1.kept (t':=s1.toks) fun b o e=>Heap.get?_push_of_some _ e,Fg a _,⟨_,Heap.get?_push_size _ rfl,rfl,rfl⟩,fun b hb=>?_,q⟩
 have e:b=s1.heap.objs.size:=by simpa using hb
 subst e
 exact I1.xY (Nat.le_refl _) (I1.hok.fresh (Nat.le_refl _))
theorem HK {l:Expr}{tl:TE}(hl:PE X l tl):PI X tg l (YH X.K tl):=by
 intro pins s σ H R I h
 refine fJ (hl pins s σ H _ I h) fun v s1 ⟨x,H1,I1,r1,q1⟩=>?_
 obtain⟨a,e,⟨xs,hq⟩,q⟩:=q1
 subst e
 cases r1
 obtain⟨its,rv,p,hz⟩:=I1.tuple hq
 refine wpAny_pyIter_tuple (show s1.heap.IsTuple a its.toArray from p) ?_
 refine⟨s1.heap.objs.size,[s1.heap.objs.size],_,_,H1,rfl,I1.kept (t':=s1.toks) fun b o e=>Heap.get?_push_of_some _ e,CL a _,⟨_,Heap.get?_push_size _ rfl,rfl,rfl⟩,fun b hb=>?_,q⟩
 have e:b=s1.heap.objs.size:=by simpa using hb
 subst e
 exact I1.xY (Nat.le_refl _) (I1.hok.fresh (Nat.le_refl _))
theorem HL {pins:List (Addr×Obj)}{σ:St}{H:Hp}{s:Shared}{R:It->Hp->Prop}{E:Value->Shared->Prop}{lo hi:Int}{t u v:Tok}{tk:Nat}(I:Inv X pins σ H s) (h1:-(2 ^ 62)<=lo) (h2:lo < 2 ^ 62) (h3:-(2 ^ 62)<=hi) (h4:hi < 2 ^ 62)
  (q:R (W0 lo (hi - lo).toNat) H):wpAny (model X.prog X.w) X.A (pyIter (.ref s.heap.objs.size)) (YE X pins σ tg R) E {s with heap:=s.heap.push {cls:=.type "range",data:=.fields #[.int lo t,.int hi u,.int 1 v]},toks:=tk}:=by
 refine wpAny_pyIter_range (IsRange.new ..) (small_one h1 h2 h3 h4) ?_
 have I1:Inv X pins σ H {s with heap:=s.heap.push {cls:=.type "range",data:=.fields #[.int lo t,.int hi u,.int 1 v]},toks:=tk}:=I.kept fun b o e=>Heap.get?_push_of_some _ e
 refine⟨(s.heap.push {cls:=.type "range",data:=.fields #[.int lo t,.int hi u,.int 1 v]}).objs.size,[(s.heap.push {cls:=.type "range",data:=.fields #[.int lo t,.int hi u,.int 1 v]}).objs.size],_,_,H,rfl,
  I1.kept (t':=tk) fun b o e=>Heap.get?_push_of_some _ e,CM _ lo (hi - lo).toNat,?_,fun b hb=>?_,q⟩
 ·have e1:lo+((0:Nat):Int) * 1=lo:=by simp
  have e2:(((hi - lo).toNat:Nat):Int) - ((0:Nat):Int)=Builtin.Range.rangeSize lo hi 1:=by rw[rangeSize_one];split <;> omega
  show IsRangeIter _ _ (lo+((0:Nat):Int) * 1) ((((hi - lo).toNat:Nat):Int) - ((0:Nat):Int)) 1
  rw[e1,e2]
  exact Heap.get?_push_size _ rfl
 ·have e:b=(s.heap.push {cls:=.type "range",data:=.fields #[.int lo t,.int hi u,.int 1 v]}).objs.size:=by simpa using hb
  subst e
  exact I1.xY (Nat.le_refl _) (I1.hok.fresh (Nat.le_refl _))
noncomputable def Ud (ta:TA):TI:=fun σ H R=>ta σ H fun vs H1=>∃j:Int,vs=[.int j]/\-(2 ^ 62)<=j/\j < 2 ^ 62/\R (W0 0 j.toNat) H1
theorem Fi {a:Expr}{ta:TA}{p pos:Pos}(hg:Gl X "range") (hm:X.mg "range" =none) (ha:PA X [a] ta) (hs:starEach [a] X.env=[(false,eval a X.env)]:=by rfl):PI X tg (.Call (.Name "range" p) [a] [] pos) (Ud ta):=by
 intro pins s σ H R I h
 refine Call_ (kU I hg hm boot_range (PyProof.Rows.callWith_type1 (fJ (ha pos pins s σ H _ I h) fun us s1 ⟨vs,H1,I1,r1,q1⟩=>?_) hs rfl))
 obtain⟨j,e,q1,q2,q⟩:=q1
 subst e
 cases r1 with
 | cons r rr=>
  cases rr
  obtain⟨t,rfl⟩:=r
  exact call_range_1 (HL I1 (by omega) (by omega) q1 q2 (by simpa using q))
noncomputable def YI (wi:TI) (g:TG) (tb:TS):TS:=fun D σ H=>wi σ H fun J H1=>∃W:Nat->Nat->St->Hp->Prop,(∃m,W 0 m σ H1)/\∀i m σ H,W i m σ H->
 (J.stop i H/\D.nx σ H)\/(J.go i H/\∃N:St->Hp->Prop,(∀σ' H',N σ' H'->∃m',m' < m/\W (i+1) m' σ' H')/\∀x H',J.SO i H x H'->g x σ H' fun σ2 H2=>tb {D with nx:=N,ct:=N,bk:=D.nx} σ2 H2)
noncomputable def lY (fp:List Addr) (h:Heap):List (Addr×Obj):=fp.filterMap fun b=>(h.get? b).map fun o=>(b,o)
theorem dU {fp:List Addr}{h:Heap}{b:Addr}{o:Obj}(hb:b∈fp) (e:h.get? b=some o):(b,o)∈lY fp h:=List.mem_filterMap.mpr ⟨b,hb,by rw[e];rfl⟩
theorem mF {fp:List Addr}{h:Heap}{p:Addr×Obj}(hp:p∈lY fp h):p.1∈fp/\h.get? p.1=some p.2:=by
 obtain⟨b,hb,e⟩:=List.mem_filterMap.mp hp
 cases q:h.get? b with
 | none=>rw[q] at e;cases e
 | some o=>
  rw[q] at e
  have e':(b,o)=p:=Option.some.inj e
  subst e'
  exact⟨hb,q⟩
theorem Inv.pinned {pins:List (Addr×Obj)}{σ:St}{H:Hp}{s:Shared}{fp:List Addr}(I:Inv X pins σ H s) (hf:∀b∈fp,lR X pins H b) (ho:∀b∈fp,∃o,s.heap.get? b=some o/\∀v,o.data≠.cell v):Inv X (pins++lY fp s.heap) σ H s:=
 I.DY fun p hp=>(List.mem_append.mp hp).elim (fun z=>I.pin p (List.mem_append_right _ z)) fun z=>by
  obtain⟨hb,e⟩:=mF z
  obtain⟨f0,f1,f2,_⟩:=hf p.1 hb
  obtain⟨o,e',d⟩:=ho p.1 hb
  rw[e] at e';cases e'
  exact⟨e,f0,f1,f2,d⟩
theorem Inv.kW {pins pl:List (Addr×Obj)}{σ:St}{H:Hp}{s:Shared}(I:Inv X (pins++pl) σ H s):Inv X pins σ H s:=I.DY fun p hp=>I.pin p (List.mem_append_right _ (List.mem_append_left _ hp))
theorem HM {iter:Expr}{body:List Stmt}{wi:TI}{g:TG}{tb:TS}{pos:Pos}(hp:PassesOwn (model X.prog X.w) X.A X.env X.xe) (hc:X.calm=true) (hi:PI X tg iter wi) (hg:PG X tg g) (hb:CG X body tb)
  (hs:∀x,foldedSetIterable iter X.env x=pure x:=by intro _;rfl):PS X (.For tg iter body [] pos) (YI wi g tb):=by
 intro pins s σ H D I h
 refine wpAny_For (fJ (hi pins s σ H _ I h) fun v s1 h1=>fJ h1 fun itv s2 h2=>?_) hs
 obtain⟨it,fp,tn,J,H2,e,I2,T,st2,f2,W,⟨m0,w0⟩,turn⟩:=h2
 subst e
 have Po:∀{H':Hp},(∀b∈fp,H' b=none)->∀b∈fp,lR X pins H' b:=fun hn b hb=>⟨hn b hb,(f2 b hb).2⟩
 refine codeAny_forLoop_any (fun n s'=>∃i σ' H',Inv X pins σ' H' s'/\tn i s'.heap/\(∀b∈fp,H' b=none)/\W i n σ' H') ?_ m0 ⟨0,σ,H2,I2,st2,fun b hb=>(f2 b hb).1,w0⟩
 rintro n s3 ⟨i,σ3,H3,I3,st3,fr3,w3⟩
 rcases turn i n σ3 H3 w3 with⟨stop,qn⟩ | ⟨go,N,hN,step⟩
 ·refine wpAny_passesOwn hp (fJ (T.done X rfl rfl rfl hc i pins s3 σ3 H3 X.xe I3 (Po fr3) st3 stop) fun r s4 ⟨hr,I4⟩=>?_)
  subst hr
  exact wpAny_execs_nil ⟨σ3,H3,I4,qn⟩
 ·refine wpAny_passesOwn hp (fJ (T.item X rfl rfl rfl hc i pins s3 σ3 H3 X.xe I3 (Po fr3) st3 go) fun r s4 ⟨u,hr,h4⟩=>?_)
  subst hr
  refine wpAny_passesOwn hp (fJ h4 fun _ s5 ⟨x,H5,I5,r5,y5,YJ,fr5⟩=>?_)
  have I5':=I5.pinned (Po fr5) (T.obj _ _ YJ)
  refine wpAny_passesOwn hp (fJ (hg _ s5 σ3 H5 x u _ I5' r5 (step x H5 y5)) fun _ s6 ⟨σ6,H6,I6,q6⟩=>?_)
  refine wpAny_passesOwn hp (fJ (hb _ s6 σ6 H6 _ I6 q6) fun f s7 q7=>?_)
  have again:∀{HN:St}{H7:Hp},Inv X (pins++lY fp s5.heap) HN H7 s7->N HN H7->∃m,m < n/\∃i σ' H',Inv X pins σ' H' s7/\tn i s7.heap/\(∀b∈fp,H' b=none)/\W i m σ' H':=fun {HN H7} I7 n7=>by
   obtain⟨m',hm,w7⟩:=hN HN H7 n7
   refine⟨m',hm,i+1,HN,H7,I7.kW,T.keep _ _ _ YJ fun b hb o e=>(I7.pin (b,o) (List.mem_append_right _ (List.mem_append_right _ (dU hb e)))).1,fun b hb=>?_,w7⟩
   obtain⟨o,e,d⟩:=T.obj _ _ YJ b hb
   exact(I7.pin (b,o) (List.mem_append_right _ (List.mem_append_right _ (dU hb e)))).2.1
  cases f with
  | next=>obtain⟨HN,H7,I7,n7⟩:=q7;exact again I7 n7
  | cont=>obtain⟨HN,H7,I7,n7⟩:=q7;exact again I7 n7
  | brk=>obtain⟨HN,H7,I7,q7⟩:=q7;exact⟨HN,H7,I7.kW,q7⟩
  | ret v=>obtain⟨x7,HN,H7,I7,r7,q7⟩:=q7;exact⟨x7,HN,H7,I7.kW,r7,q7⟩
end
noncomputable abbrev R2:=V->V->Hp->VK->Prop
noncomputable def xT (X:Cx) (f:Value->Value->Sem Value) (r:R2):Prop:=
 ∀(pins:List (Addr×Obj)) (s:Shared) (σ:St) (H:Hp) (x y:V) (v u:Value) (Q:VK),Inv X pins σ H s->RelV x v->RelV y u->r x y H Q->
  wpAny (model X.prog X.w) X.A (f v u) (EP X pins σ Q) X.xe s
noncomputable def Ue (X:Cx) (f:Value->Sem Value) (r:V->Hp->VK->Prop):Prop:=
 ∀(pins:List (Addr×Obj)) (s:Shared) (σ:St) (H:Hp) (x:V) (v:Value) (Q:VK),Inv X pins σ H s->RelV x v->r x H Q->
  wpAny (model X.prog X.w) X.A (f v) (EP X pins σ Q) X.xe s
noncomputable def iY (X:Cx) (f:Value) (r:List V->Hp->VK->Prop):Prop:=
 ∀(pins:List (Addr×Obj)) (s:Shared) (σ:St) (H:Hp) (xs:List V) (us:List Value) (Q:VK),Inv X pins σ H s->Vals xs us->r xs H Q->
  wpAny (model X.prog X.w) X.A (call f us) (EP X pins σ Q) X.xe s
noncomputable def Pp (r:R2) (ta tb:TE):TE:=fun σ H Q=>ta σ H fun x H1=>tb σ H1 fun y H2=>r x y H2 Q
noncomputable def tUn (r:V->Hp->VK->Prop) (ta:TE):TE:=fun σ H Q=>ta σ H fun x H1=>r x H1 Q
noncomputable def rI (C:Int->Int->Prop) (g:Int->Int->V):R2:=fun x y H Q=>∃i j,x= .int i/\y= .int j/\C i j/\Q (g i j) H
noncomputable def SQ (g:Int->Int->V):R2:=fun x y H Q=>∃i j,x= .int i/\y= .int j/\Q (g i j) H
noncomputable def rU (g:Int->V):V->Hp->VK->Prop:=fun x H Q=>∃i,x= .int i/\Q (g i) H
section
variable {X:Cx}{a b c:Expr}{ta tb tc:TE}{pos:Pos}
theorem Pq (ha:PE X a ta) (hb:PE X b tb){pins:List (Addr×Obj)}{s:Shared}{σ:St}{H:Hp}{R:V->V->Hp->Prop}(I:Inv X pins σ H s)
  (h:ta σ H fun x H1=>tb σ H1 fun y H2=>R x y H2){Q:Value->Shared->Prop}{f:Value->Value->Sem Value}
  (hf:∀v u s2 x y H2,Inv X pins σ H2 s2->RelV x v->RelV y u->R x y H2->wpAny (model X.prog X.w) X.A (f v u) Q X.xe s2):
  wpAny (model X.prog X.w) X.A (eval a X.env) (fun v s₁=>wpAny (model X.prog X.w) X.A (eval b X.env) (fun u s₂=>wpAny (model X.prog X.w) X.A (f v u) Q X.xe s₂) X.xe s₁) X.xe s:=by
 refine fJ (ha pins s σ H _ I h) fun v s1 ⟨x,H1,I1,r1,q1⟩=>?_
 refine fJ (hb pins s1 σ H1 _ I1 q1) fun u s2 ⟨y,H2,I2,r2,q2⟩=>?_
 exact hf v u s2 x y H2 I2 r1 r2 q2
theorem Ug {op:Operator}{r:R2}(ho:xT X (binaryOp op) r) (ha:PE X a ta) (hb:PE X b tb):PE X (.BinOp a op b pos) (Pp r ta tb):=by
 intro pins s σ H Q I h
 exact wpAny_BinOp (Pq ha hb I h fun v u s2 x y H2 I2 rx ry q=>ho pins s2 σ H2 x y v u Q I2 rx ry q)
theorem Uh {op:UnaryOp}{r:V->Hp->VK->Prop}(ho:Ue X (unaryOp op) r) (ha:PE X a ta):PE X (.UnaryOp op a pos) (tUn r ta):=by
 intro pins s σ H Q I h
 exact UnaryOp_ (fJ (ha pins s σ H _ I h) fun v s1 ⟨x,H1,I1,r1,q1⟩=>ho pins s1 σ H1 x v Q I1 r1 q1)
theorem W2 {f:Value->Value->Sem Value}{C:Int->Int->Prop}{g:Int->Int->Int}
  (rule:∀(i j:Int) (t u:Tok) (s:Shared) (Q:Value->Shared->Prop) (E:Value->Shared->Prop),C i j->Q (.int (g i j) s.toks) {s with toks:=s.toks+1}->wpAny (model X.prog X.w) X.A (f (.int i t) (.int j u)) Q E s):
  xT X f (rI C fun i j=>.int (g i j)):=by
 intro pins s σ H x y v u Q I rx ry h
 obtain⟨i,j,rfl,rfl,hc,q⟩:=h
 obtain⟨t,rfl⟩:=rx
 obtain⟨t',rfl⟩:=ry
 exact rule i j t t' s _ _ hc ⟨.int (g i j),H,I.tok _,⟨_,rfl⟩,q⟩
theorem Ui {f:Value->Value->Sem Value}{g:Int->Int->Int}
  (rule:∀(i j:Int) (t u:Tok) (s:Shared) (Q:Value->Shared->Prop) (E:Value->Shared->Prop),Q (.int (g i j) s.toks) {s with toks:=s.toks+1}->wpAny (model X.prog X.w) X.A (f (.int i t) (.int j u)) Q E s):
  xT X f (SQ fun i j=>.int (g i j)):=by
 intro pins s σ H x y v u Q I rx ry h
 obtain⟨i,j,rfl,rfl,q⟩:=h
 obtain⟨t,rfl⟩:=rx
 obtain⟨t',rfl⟩:=ry
 exact rule i j t t' s _ _ ⟨.int (g i j),H,I.tok _,⟨_,rfl⟩,q⟩
theorem Uj {f:Value->Value->Sem Value}{g:Int->Int->Bool}
  (rule:∀(i j:Int) (t u:Tok) (s:Shared) (Q:Value->Shared->Prop) (E:Value->Shared->Prop),Q (.bool (g i j)) s->wpAny (model X.prog X.w) X.A (f (.int i t) (.int j u)) Q E s):
  xT X f (SQ fun i j=>.bl (g i j)):=by
 intro pins s σ H x y v u Q I rx ry h
 obtain⟨i,j,rfl,rfl,q⟩:=h
 obtain⟨t,rfl⟩:=rx
 obtain⟨t',rfl⟩:=ry
 exact rule i j t t' s _ _ ⟨.bl (g i j),H,I,rfl,q⟩
noncomputable def Uk (i j:Int):Prop:=0 < j/\j < 1073741824
noncomputable def YK (i j:Int):Prop:=0<=j/\j<=1000000/\i.natAbs < 2 ^ 64
noncomputable def Pr (i j:Int):Prop:=(-(2 ^ 64) < i/\i < 2 ^ 64)\/(-(2 ^ 64) < j/\j < 2 ^ 64)
theorem Pr.ok {i j:Int}(h:Pr i j):IntMulOk i j:=by
 rcases h with⟨h1,h2⟩ | ⟨h1,h2⟩
 ·exact .of_left (intBits_le_64 h1 h2)
 ·exact .of_right (intBits_le_64 h1 h2)
theorem Pu:xT X (binaryOp .Add) (SQ fun i j=>.int (i+j)):=Ui fun _ _ _ _ _ _ _ q=>add_int q
theorem Pw:xT X (binaryOp .Sub) (SQ fun i j=>.int (i - j)):=Ui fun _ _ _ _ _ _ _ q=>sub_int q
theorem Px:xT X (binaryOp .Mult) (rI Pr fun i j=>.int (i * j)):=W2 fun _ _ _ _ _ _ _ hc q=>mul_int q hc.ok
theorem LW:xT X (binaryOp .FloorDiv) (rI Uk fun i j=>.int (i / j)):=W2 fun i j _ _ _ _ _ hc q=>by
 have h1:(0:Int) < j:=hc.1
 have h2:j < 1073741824:=hc.2
 exact floordiv_int (by omega) (by rw[Int.fdiv_eq_ediv_of_nonneg i (by omega)];exact q) (.inl (PyProof.noPylong_small (by omega)))
theorem Py:xT X (binaryOp .Mod) (rI (fun _ j=>0 < j) fun i j=>.int (i % j)):=W2 fun i j _ _ _ _ _ hc q=>by
 have h1:(0:Int) < j:=hc
 exact mod_int' (by omega) (by rw[Int.fmod_eq_emod_of_nonneg i (by omega)];exact q)
theorem Pz:xT X (binaryOp .Pow) (rI YK fun i j=>.int (i ^ j.toNat)):=W2 fun _ _ _ _ _ _ _ hc q=>pow_int_small hc.1 hc.2.1 hc.2.2 q
theorem unI {f:Value->Sem Value}{g:Int->Int}
  (rule:∀(i:Int) (t:Tok) (s:Shared) (Q:Value->Shared->Prop) (E:Value->Shared->Prop),Q (.int (g i) s.toks) {s with toks:=s.toks+1}->wpAny (model X.prog X.w) X.A (f (.int i t)) Q E s):
  Ue X f (rU fun i=>.int (g i)):=by
 intro pins s σ H x v Q I rx h
 obtain⟨i,rfl,q⟩:=h
 obtain⟨t,rfl⟩:=rx
 exact rule i t s _ _ ⟨.int (g i),H,I.tok _,⟨_,rfl⟩,q⟩
theorem PB:Ue X (unaryOp .USub) (rU fun i=>.int (-i)):=unI fun _ _ _ _ _ q=>neg_int q
end
section
variable {X:Cx}{a b c:Expr}{ta tb tc:TE}{pos:Pos}
theorem PD {pins:List (Addr×Obj)}{σ:St}{H:Hp}{s:Shared}{Q:VK}{k k':Bool}(I:Inv X pins σ H s) (q:Q (.bl k) H) (e:k=k'):EP X pins σ Q (.bool k') s:=by
 subst e
 exact⟨.bl k,H,I,rfl,q⟩
theorem Ul:xT X (compareOp .Lt) (SQ fun i j=>.bl (decide (i < j))):=Uj fun _ _ _ _ _ _ _ q=>lt_int q
theorem Um:xT X (compareOp .Gt) (SQ fun i j=>.bl (decide (j < i))):=Uj fun _ _ _ _ _ _ _ q=>gt_int q
theorem Fj:xT X (compareOp .In) (fun x y H Q=>∃i j,x= .str i/\y= .str j/\Q (.bl (!(Builtin.Str.occurrences j i 0 j.length 1).isEmpty)) H):=by
 intro pins s σ H x y v u Q I rx ry h
 obtain⟨i,j,rfl,rfl,q⟩:=h
 obtain⟨t,rfl⟩:=rx
 obtain⟨t',rfl⟩:=ry
 exact in_str (PD I q rfl)
theorem HP (b:Expr){op:CmpOp}(h:op≠.In:=by decide) (h2:op≠.NotIn:=by decide):behindInMarks op b=false:=by
 have e1:(op == CmpOp.In)=false:=by cases op <;> first | rfl | exact absurd rfl h
 have e2:(op == CmpOp.NotIn)=false:=by cases op <;> first | rfl | exact absurd rfl h2
 cases b <;> simp[behindInMarks,e1,e2]
theorem zP {op:CmpOp}{r:R2}(ho:xT X (compareOp op) r) (ha:PE X a ta) (hb:PE X b tb) (hm:behindInMarks op b=false):PE X (.Compare a [op] [b] pos) (Pp r ta tb):=by
 intro pins s σ H Q I h
 exact wpAny_Compare1 (Pq ha hb I h fun v u s2 x y H2 I2 rx ry q=>ho pins s2 σ H2 x y v u Q I2 rx ry q) hm
noncomputable def Uo (t:TE):TT:=fun σ H Q=>t σ H fun x H'=>∃k,x= .bl k/\Q k H'
theorem LX {op:CmpOp}{r:R2}(ho:xT X (compareOp op) r) (ha:PE X a ta) (hb:PE X b tb) (hm:behindInMarks op b=false):PT X (.Compare a [op] [b] pos) (Uo (Pp r ta tb)):=by
 intro pins s σ H Q I h
 refine wpAny_isTrue_Compare1 (fJ (ha pins s σ H _ I h) fun v s1 ⟨x,H1,I1,r1,q1⟩=>fJ (hb pins s1 σ H1 _ I1 q1) fun u s2 ⟨y,H2,I2,r2,q2⟩=>
  fJ (ho pins s2 σ H2 x y v u _ I2 r1 r2 q2) fun c s3 ⟨z,H3,I3,r3,k,e,q3⟩=>?_) hm
 subst e
 cases r3
 exact wpAny_truthy_bool ⟨H3,I3,q3⟩
theorem tG:(sizeLine:Nat) < 2 ^ 63:=by rw[sizeLine_eq];decide
theorem CN:xT X (binaryOp .Add) (fun x y H Q=>∃i j,x= .str i/\y= .str j/\i.length+j.length<=sizeLine/\Q (.str (i++j)) H):=by
 intro pins s σ H x y v u Q I rx ry h
 obtain⟨i,j,rfl,rfl,hz,q⟩:=h
 obtain⟨t,rfl⟩:=rx
 obtain⟨t',rfl⟩:=ry
 exact add_str (fun t' tk=>⟨.str (i++j),H,I.tok _,⟨_,rfl⟩,q⟩) hz
theorem vals1 {x:V}{us:List Value}(r:Vals [x] us):∃u,us=[u]/\RelV x u:=by
 cases r with
 | cons r1 r2=>cases r2;exact⟨_,rfl,r1⟩
theorem vals2 {x y:V}{us:List Value}(r:Vals [x,y] us):∃u w',us=[u,w']/\RelV x u/\RelV y w':=by
 cases r with
 | cons r1 r2=>
  cases r2 with
  | cons r3 r4=>cases r4;exact⟨_,_,rfl,r1,r3⟩
theorem Fl (hc:X.calm=true):iY X (.builtin "max") (fun xs H Q=>∃i j,xs=[.int i,.int j]/\Q (.int (if j > i then j else i)) H):=by
 intro pins s σ H xs us Q I r h
 obtain⟨i,j,rfl,q⟩:=h
 obtain⟨u,w',rfl,⟨t,rfl⟩,⟨t',rfl⟩⟩:=vals2 r
 refine max_two_ints (I.ok.hd hc) fun h' tk k=>⟨_,H,I.kept k,?_,q⟩
 by_cases hj:j > i
 ·rw[if_pos hj,if_pos hj];exact⟨_,rfl⟩
 ·rw[if_neg hj,if_neg hj];exact⟨_,rfl⟩
theorem yR:iY X (.type "int") (fun xs H Q=>(∃i,xs=[.int i]/\Q (.int i) H)\/∃k,xs=[.bl k]/\Q (.int (if k then 1 else 0)) H):=by
 intro pins s σ H xs us Q I r h
 rcases h with⟨i,rfl,q⟩ | ⟨k,rfl,q⟩
 ·obtain⟨u,rfl,t,rfl⟩:=vals1 r
  exact call_int_int ⟨.int i,H,I,⟨_,rfl⟩,q⟩
 ·obtain⟨u,rfl,r1⟩:=vals1 r
  cases r1
  exact call_int_bool ⟨.int (if k then 1 else 0),H,I.tok _,⟨_,rfl⟩,q⟩
end
section
variable {prog:Program}{w:World}{A:Around}{E:Value->Shared->Prop}{s:Shared}{K:PySem.W.Frag}{x dx C f:Addr}{mA:Str->Option Value}{name:Str}{v:Value}
end
theorem u9.some_of {v:V}{o:Option Value}(r:u9 (some v) o):∃u,o=some u/\RelV v u:=by
 cases o with
 | none=>exact(show False from r).elim
 | some u=>exact⟨u,rfl,r⟩
section
variable {P:Program}{w:World}{H H':Hp}{h h':Heap}{a C dx:Addr}{fs fs':List (Str×V)}
end
section
variable {X:Cx}{pins:List (Addr×Obj)}{σ:St}{H:Hp}{s:Shared}{a C dx:Addr}{fs:List (Str×V)}{f:Str}{v:V}{A:Around}{E:Value->Shared->Prop}
end
section
variable {X:Cx}{o e value:Expr}{f:Str}{pos pos' tpos:Pos}{ta tv:TE}
end
section
variable {X:Cx}{pins:List (Addr×Obj)}{σ:St}{H:Hp}{s:Shared}{A:Around}{E:Value->Shared->Prop}{Q:Value->Shared->Prop}{c:Value}{b:Bool}
end
structure lT (k:Nat) (A:Around):Prop where
 hd:A.handled=none
 dp:A.depth+3 * k+5 < recursionLimit
 un:A.units+16 * k+200 < cLine
 gd:A.guards=some []
theorem lT.mono {j k:Nat}{A:Around}(r:lT k A) (h:j<=k):lT j A:=⟨r.hd,by have:=r.dp;omega,by have:=r.un;omega,r.gd⟩
theorem lT.deeper {k:Nat}{A:Around}(r:lT (k+1) A) (env:Env):lT k (A.deeper env):=
 ⟨r.hd,by have:=r.dp;show A.depth+1+3 * k+5 < _;omega,by have:=r.un;show A.units+3+16 * k+200 < _;omega,r.gd⟩
theorem lT.depth {k:Nat}{A:Around}(r:lT k A):A.depth < recursionLimit:=by have:=r.dp;omega
theorem lT.units {k:Nat}{A:Around}(r:lT k A):A.units+64 < cLine:=by have:=r.un;omega
noncomputable def PF:TA:=fun _ H Q=>Q [] H
noncomputable def Oz (ta:TE) (tr:TA):TA:=fun σ H Q=>ta σ H fun x H1=>tr σ H1 fun xs H2=>Q (x :: xs) H2
section
variable {X:Cx}{e:Expr}{es:List Expr}{te:TE}{t:TA}{pos:Pos}
theorem vQ:PA X [] PF:=fun _ _ _ _ H Q I h=>Calls.spliced_nil ⟨[],H,I,.nil,h⟩
theorem m8 (ha:PE X e te) (hr:PA X es t) (hs:starEach (e :: es) X.env=(false,eval e X.env) :: starEach es X.env:=by rfl):PA X (e :: es) (Oz te t):=by
 intro pos pins s σ H Q I h
 rw[hs]
 show wpAny _ _ (spliced ((false,eval e X.env) :: backTo pos (starEach es X.env))) _ _ s
 refine Calls.spliced_cons (fJ (ha pins s σ H _ I h) fun u s1 ⟨x,H1,I1,r1,q1⟩=>?_)
 exact fJ (hr pos pins s1 σ H1 _ I1 q1) fun us s2 ⟨xs,H2,I2,r2,q2⟩=>⟨x :: xs,H2,I2,.cons r1 r2,q2⟩
noncomputable def YL (t:TA):TE:=fun σ H Q=>t σ H fun xs H1=>xs.length<=sizeLine/\∀p,H1 p=none->Q (.ref p) (upd H1 p (.tup xs))
noncomputable def YM (t:TA):TE:=fun σ H Q=>t σ H fun xs H1=>xs.length<=sizeLine/\∀p,H1 p=none->Q (.ref p) (upd H1 p (.lst xs))
theorem PJ {x1}(h:PA X es t):PE X (.Tuple es x1 pos) (YL t):=by
 intro pins s σ H Q I hq
 refine wpAny_Tuple_spliced (fJ (h pos pins s σ H _ I hq) fun us s1 ⟨xs,H1,I1,r,z,q⟩=>⟨by rw[<-r.length];exact z,?_⟩)
 have hf:H1 s1.heap.objs.size=none:=I1.hok.fresh (Nat.le_refl _)
 refine⟨.ref s1.heap.objs.size,upd H1 s1.heap.objs.size (.tup xs),I1.laid (t':=s1.toks) (fun b u e=>Heap.get?_push_of_some _ e) (Nat.le_refl _) ?_,rfl,q _ hf⟩
 exact⟨z,us,r,⟨_,Heap.get?_push_size _ rfl,rfl,_,rfl⟩⟩
theorem PK (h:PA X es t):PE X (.List es pos) (YM t):=by
 intro pins s σ H Q I hq
 refine wpAny_List_spliced (fJ (h pos pins s σ H _ I hq) fun us s1 ⟨xs,H1,I1,r,z,q⟩=>⟨by rw[<-r.length];exact z,?_⟩)
 have hf:H1 s1.heap.objs.size=none:=I1.hok.fresh (Nat.le_refl _)
 refine⟨.ref s1.heap.objs.size,upd H1 s1.heap.objs.size (.lst xs),I1.laid (t':=s1.toks) (fun b u e=>Heap.get?_push_of_some _ e) (Nat.le_refl _) ?_,rfl,q _ hf⟩
 exact⟨z,us,0,r,Heap.get?_push_size _ rfl⟩
end
noncomputable abbrev Sp:=List V->Hp->VK->XK->Prop
noncomputable abbrev Ho:=List Env->Hp->Shared->XK->Value->Shared->Prop
structure LY (P:Program) (w:World) (K:PySem.W.Frag) (mg:Str->Option Value) (base:Heap) (A:Around) (outer:List Env) (s:Shared) (H:Hp):Prop where
 frames:A.frames=some outer
 mod:Mod K mg base
 bs:∀b o,base.get? b=some o->s.heap.get? b=some o/\H b=none
 LD:base.objs.size<=s.heap.objs.size
 vN:s.heap.FunFrames base outer
 SN:∀b∈frs outer,H b=none
 hok:nO P w H s.heap
 bare:AllBare s.gens
noncomputable def CE (outer:List Env) (P:Program) (w:World) (H:Hp) (s:Shared) (Q:VK) (u:Value) (s':Shared):Prop:=
 ∃v H',s'.os=s.os/\AllBare s'.gens/\Un (frs outer) [] H H' s.heap s'.heap/\nO P w H' s'.heap/\RelV v u/\Q v H'
noncomputable def CR (CX:Ho) (outer:List Env) (P:Program) (w:World) (H:Hp) (s:Shared) (Q:VK) (E:XK) (r:Result) (s':Shared):Prop:=
 match r with
 | .ok (.ret u)=>CE outer P w H s Q u s'
 | .ok _=>False
 | .error e=>CX outer H s E e s'
structure cy (P:Program) (w:World) (K:PySem.W.Frag) (mg:Str->Option Value) (base:Heap) (CX:Ho) (k:Nat) (f:Addr) (fd:FuncData) (ps:List Str) (sp:Sp):Prop where
 len:∀vs H Q E,sp vs H Q E->vs.length=ps.length
 run:∀(A:Around) (outer:List Env) (s:Shared) (H:Hp) (args:Args) (us:List Value) (vs:List V) (Q:VK) (E:XK),lT k A->LY P w K mg base A outer s H->BindsTo s fd args (ps.zip us)->Vals vs us->sp vs H Q E->
  codeAny (model P w) A (.call (.ref f) args) (CR CX outer P w H s Q E) s
theorem cy.mono {P:Program}{w:World}{K:PySem.W.Frag}{mg:Str->Option Value}{base:Heap}{CX:Ho}{j k:Nat}{f:Addr}{fd:FuncData}{ps:List Str}{sp:Sp}(F:cy P w K mg base CX j f fd ps sp) (h:j<=k):
  cy P w K mg base CX k f fd ps sp:=⟨F.len,fun A outer s H args us vs Q E hr=>F.run A outer s H args us vs Q E (hr.mono h)⟩
section
variable {X:Cx}{pins:List (Addr×Obj)}{σ:St}{H:Hp}{s s':Shared}
theorem Inv.YN (I:Inv X pins σ H s):LY X.prog X.w X.K X.mg X.base X.A X.stack s H:=
 ⟨I.ok.frames,I.ok.mod,I.bs,Nat.le_trans I.ok.LD I.sz,I.stack,I.zN,I.hok,I.bare⟩
theorem Inv.after {Q:VK}{u:Value}(I:Inv X pins σ H s) (h:CE X.stack X.prog X.w H s Q u s'):EP X pins σ Q u s':=by
 obtain⟨v,H',os,bare,un,hok,r,q⟩:=h
 obtain⟨hh,g,d,t,os'⟩:=s'
 obtain rfl:os'=s.os:=os
 exact⟨v,H',I.call (h':=hh) (g':=g) (d':=d) (t':=t) (ch:=[]) un hok bare (fun b z=>absurd z (by simp)),r,q⟩
end
noncomputable def OA (sp:Sp) (LF:List V) (E:XK) (t:TA):TE:=fun σ H Q=>t σ H fun vs H1=>sp (vs++LF) H1 Q E
noncomputable def Binds (K:PySem.W.Frag) (fd:FuncData) (ps:List Str) (ds:List Value):Prop:=
 ∀(s:Shared) (us:List Value),K.In s.heap->(us++ds).length=ps.length->BindsTo s fd ⟨us,[]⟩ (ps.zip (us++ds))
theorem Binds.all {K:PySem.W.Frag}{fd:FuncData}{ps:List Str}(h:∀us:List Value,us.length=ps.length->bindArgs fd ⟨us,[]⟩=pure (ps.zip us)):Binds K fd ps []:=fun s us _ hl=>by
 rw[List.append_nil] at hl ⊢
 exact .of_eq (h us hl)
noncomputable def Passes (CX:Ho) (X:Cx) (E:XK):Prop:=∀(pins:List (Addr×Obj)) (σ:St) (H:Hp) (s:Shared) (e:Value) (s':Shared),Inv X pins σ H s->CX X.stack H s E e s'->X.xe e s'
section
variable {X:Cx}{CX:Ho}{k:Nat}{f C:Addr}{fd:FuncData}{ps:List Str}{sp:Sp}{LF:List V}{ds:List Value}{E:XK}{x m:Str}{p pos apos:Pos}{e o:Expr}{es:List Expr}{ta:TE}{t:TA}
theorem HQ {pins:List (Addr×Obj)}{σ:St}{H:Hp}{s:Shared}{Q:VK}{us:List Value}{vs:List V}(F:cy X.prog X.w X.K X.mg X.base CX k f fd ps sp) (hr:lT k X.A) (hb:Binds X.K fd ps ds) (hd:Vals LF ds) (hx:Passes CX X E)
  (I:Inv X pins σ H s) (r:Vals vs us) (h:sp (vs++LF) H Q E):wpAny (model X.prog X.w) X.A (call (.ref f) us) (EP X pins σ Q) X.xe s:=by
 have r2:Vals (vs++LF) (us++ds):=r.append hd
 have hl:(us++ds).length=ps.length:=by rw[<-r2.length];exact F.len _ _ _ _ h
 refine wpAny_call (codeAny_mono (F.run X.A X.stack s H ⟨us,[]⟩ (us++ds) (vs++LF) Q E hr I.YN (hb s us I.CK hl) r2 h) fun r s' hq=>?_)
 cases r with
 | error e=>exact hx pins σ H s e s' I hq
 | ok fl=>
  cases fl with
  | ret u=>exact I.after hq
  | next=>exact False.elim hq
  | brk=>exact False.elim hq
  | cont=>exact False.elim hq
theorem LZ (F:cy X.prog X.w X.K X.mg X.base CX k f fd ps sp) (hr:lT k X.A) (hg:Gl X x) (hm:X.mg x=some (.ref f)) (hk:PySem.W.keepIn X.K (.ref f)=true) (hb:Binds X.K fd ps ds) (hd:Vals LF ds) (hx:Passes CX X E)
  (ha:PA X (e :: es) t) (hdb:(x == ("__debug__":Str))=false:=by decide) (he:starEach (e :: es) X.env=(false,eval e X.env) :: starEach es X.env:=by rfl) (hpl:(backTo pos (starEach es X.env)).any (·.1)=false:=by rfl):
  PE X (.Call (.Name x p) (e :: es) [] pos) (OA sp LF E t):=by
 intro pins s σ H Q I h
 refine wpAny_Call_Name_kw (zO I hg hm ?_ hdb)
 refine PySem.W.callWith_K (h₀:=X.base) I.ok.mod.Yt hk (fJ (ha pos pins s σ H _ I h) fun us s1 ⟨vs,H1,I1,r,q⟩=>⟨I1.CK,?_⟩) he hpl
 exact HQ F hr hb hd hx I1 r q
theorem HR (F:cy X.prog X.w X.K X.mg X.base CX k f fd ps sp) (hr:lT k X.A) (hg:Gl X x) (hm:X.mg x=some (.ref f)) (hk:PySem.W.keepIn X.K (.ref f)=true) (hb:Binds X.K fd ps ds) (hd:Vals LF ds) (hx:Passes CX X E)
  (hdb:(x == ("__debug__":Str))=false:=by decide):PE X (.Call (.Name x p) [] [] pos) (OA sp LF E PF):=by
 intro pins s σ H Q I h
 refine wpAny_Call_Name_kw (zO I hg hm ?_ hdb)
 exact PySem.W.callWith_K0 I.CK hk (HQ (us:=[]) F hr hb hd hx I .nil h)
end
section
variable {X:Cx}{CX:Ho}{k:Nat}{f C:Addr}{fd:FuncData}{ps ks:List Str}{sp:Sp}{E:XK}{x m:Str}{p pos apos kpos:Pos}{e o:Expr}{es:List Expr}{kws:List Keyword}{te ta:TE}{t tk:TA}{nm:Option Str}
variable {g:List Value->List Value->List Value}{gV:List V->List V->List V}
end
structure cD (N P:List Str) (sc:Scope):Prop where
 kind:sc.kind= .function
 co:sc.isCoroutine=false
 gen:sc.isGenerator=false
 nd:N.Nodup
 pre:N.take P.length=P
 par:∀x∈P,sc.names.lookup x=some .local\/sc.names.lookup x=some .cell
 PL:∀y∈sc.names,y.2≠.free
theorem yS {kindOf:Str->Option NameKind}{x:Str}:∀{binds:List (Str×Value)}{m:Str->Option Value},(∀v,(x,v)∉binds)->bindL kindOf binds m x=m x
 | [],_,_=>rfl
 | (n,v) :: r,m,h=>by
  unfold bindL
  rw[yS fun w hw=>h w (List.mem_cons_of_mem _ hw)]
  split
  ·have:x≠n:=by rintro rfl;exact h v List.mem_cons_self
   simp[this]
  ·rfl
theorem yT {kindOf:Str->Option NameKind}{x:Str}:∀{binds:List (Str×Value)}{m:Str->Option Value},(∀v,(x,v)∉binds)->bindC kindOf binds m x=m x
 | [],_,_=>rfl
 | (n,v) :: r,m,h=>by
  unfold bindC
  rw[yT fun w hw=>h w (List.mem_cons_of_mem _ hw)]
  split
  ·rfl
  ·have:x≠n:=by rintro rfl;exact h v List.mem_cons_self
   simp[this]
theorem yU {kindOf:Str->Option NameKind}{x:Str}{v:Value}:∀{P:List Str}{vs:List Value}{i:Nat}{m:Str->Option Value},P.Nodup->P[i]? =some x->vs[i]? =some v->kindOf x=some .local->
  bindL kindOf (P.zip vs) m x=some v
 | [],_,_,_,_,h,_,_=>by simp at h
 | _ :: _,[],_,_,_,_,h,_=>by simp at h
 | p :: P,w :: vs,0,m,nd,h1,h2,hk=>by
  simp at h1 h2;subst h1;subst h2
  show bindL kindOf ((p,w) :: P.zip vs) m p=_
  unfold bindL
  rw[yS fun v hv=>(List.nodup_cons.mp nd).1 (List.of_mem_zip hv).1,if_pos hk]
  simp
 | p :: P,w :: vs,i+1,m,nd,h1,h2,hk=>by
  show bindL kindOf ((p,w) :: P.zip vs) m x=_
  unfold bindL
  exact yU (i:=i) (List.nodup_cons.mp nd).2 (by simpa using h1) (by simpa using h2) hk
theorem yV {kindOf:Str->Option NameKind}{x:Str}{v:Value}:∀{P:List Str}{vs:List Value}{i:Nat}{m:Str->Option Value},P.Nodup->P[i]? =some x->vs[i]? =some v->kindOf x≠some .local->
  bindC kindOf (P.zip vs) m x=some v
 | [],_,_,_,_,h,_,_=>by simp at h
 | _ :: _,[],_,_,_,_,h,_=>by simp at h
 | p :: P,w :: vs,0,m,nd,h1,h2,hk=>by
  simp at h1 h2;subst h1;subst h2
  show bindC kindOf ((p,w) :: P.zip vs) m p=_
  unfold bindC
  rw[yT fun v hv=>(List.nodup_cons.mp nd).1 (List.of_mem_zip hv).1,if_neg hk]
  simp
 | p :: P,w :: vs,i+1,m,nd,h1,h2,hk=>by
  show bindC kindOf ((p,w) :: P.zip vs) m x=_
  unfold bindC
  exact yV (i:=i) (List.nodup_cons.mp nd).2 (by simpa using h1) (by simpa using h2) hk
noncomputable def start (N:List Str) (vs:List V):St:=vs.map some++List.replicate (N.length - vs.length) none
noncomputable def CO (CX:Ho) (P:Program) (w:World) (K:PySem.W.Frag) (mg:Str->Option Value) (base:Heap) (N:List Str) (qual:Str) (scope:Scope) (f:Addr) (cd:Value) (A:Around) (outer:List Env) (s:Shared) (H:Hp) (E:XK):Cx where
 prog:=P
 w:=w
 K:=K
 mg:=mg
 base:=base
 A:=A.deeper (envOfC qual scope s.heap.objs.size f cd)
 N:=N
 s₀:=s
 H₀:=H
 env:=envOfC qual scope s.heap.objs.size f cd
 outer:=outer
 stack:=envOfC qual scope s.heap.objs.size f cd :: outer
 ex:=[]
 calm:=true
 fn:=fun _=>true
 pn:=[]
 xe:=fun e s'=>wpAny (model P w) (A.deeper (envOfC qual scope s.heap.objs.size f cd)) (leaving (envOfC qual scope s.heap.objs.size f cd) e) (fun _ s''=>CX outer H s E e s'') (fun e' s''=>CX outer H s E e' s'') s'
theorem Bb {sc:Scope}{n:Nat}{x:Str}(h:sc.names.lookup x=some .cell):∃c,(cellsFrom n sc.names []).lookup x=some c:=by
 have q:=PySem.W.cellsFrom_some sc.names n [] (.inl h)
 exact Option.isSome_iff_exists.mp q
theorem Fo {CX : Ho} {P : Program} {w : World} {K : PySem.W.Frag} {mg : Str -> Option Value} {base : Heap} {N ps : List Str} {qual : Str} {scope : Scope} {f : Addr} {cd : Value} {A : Around} {outer : List Env} {s s1 : Shared} {H : Hp} {E : XK} {us : List Value} {vs : List V}
    (S:cD N ps scope) (hd:A.handled=none) (e0:LY P w K mg base A outer s H) (hl:vs.length=ps.length) (r:Vals vs us)
    (x:InCallC s s.heap.objs.size (bindL (envOfC qual scope s.heap.objs.size f cd).kindOf (ps.zip us) fun _=>none) (cellsFrom (s.heap.objs.size+1) scope.names []) (bindC (envOfC qual scope s.heap.objs.size f cd).kindOf (ps.zip us) fun _=>none) s1):
    Inv (CO CX P w K mg base N qual scope f cd A outer s H E) [] (start N vs) H s1:=by
  have hpl:ps.length<=N.length:=by have:=congrArg List.length S.pre;rw[List.length_take] at this;omega
  obtain⟨h1,tk,rfl,hk⟩:=x.done
  have Up:∀b:Addr,b∉(CO CX P w K mg base N qual scope f cd A outer s H E).ex:=fun b z=>absurd (show b∈([]:List Addr) from z) (by simp)
  refine⟨⟨e0.mod,S.kind,rfl,rfl,Nat.le_refl _,fun y z c h1 h2=>?_,fun y hy=>?_,fun y c _ h=>?_,fun _=>hd,Around.frames_deeper e0.frames,.inr ⟨rfl,rfl⟩,fun b z=>absurd z (Up b),e0.bs,e0.LD,fun b _ _=>Up b,fun b z=>absurd z (Up b),e0.vN,e0.SN⟩,
    rfl,e0.bare,Un.kept hk,⟨_,x.toInCall.ns,fun i y v h1 h2 h3=>?_⟩,fun y c h=>⟨_,x.cell y c h⟩,e0.hok.fresh (Nat.le_refl _),fun y c h=>?_,fun p hp=>absurd (show p∈([]:List (Addr×Obj)) from hp) (by simp),e0.hok.kept hk,?_⟩
  . exact name_of_addr x.apart (PySem.mem_of_lookup h1) (PySem.mem_of_lookup h2)
  . have hy:scope.names.lookup y=some .cell\/scope.names.lookup y=some .free:=hy
    rcases hy with hy | hy
    . exact Bb hy
    . exact absurd rfl (S.PL _ (PySem.mem_of_lookup hy))
  . exact Nat.le_of_lt (x.above y c (PySem.mem_of_lookup h))
  . have hi:i < vs.length:=by
      unfold start at h2
      by_cases hi:i < vs.length
      . exact hi
      . rw[List.getElem?_append_right (by simpa using hi)] at h2
        rw[List.getElem?_replicate] at h2
        split at h2 <;> cases h2
    have ha:vs[i]? =some v:=by
      unfold start at h2
      rw[List.getElem?_append_left (by simpa using hi),List.getElem?_map] at h2
      cases e:vs[i]? with
      | none=>rw[e] at h2;cases h2
      | some a=>rw[e] at h2;cases h2;rfl
    obtain⟨u,hu,rv⟩:=r.get ha
    have hp:ps[i]? =some y:=by
      rw[<-S.pre,List.getElem?_take_of_lt (by omega)];exact h1
    have ndP:ps.Nodup:=by rw[<-S.pre];exact S.nd.sublist (List.take_sublist _ _)
    refine⟨u,rv,?_⟩
    rcases S.par y (List.mem_of_getElem? hp) with k | k
    . exact .inl ⟨k,yU ndP hp hu k⟩
    . obtain⟨c,e⟩:=Bb (n:=s.heap.objs.size+1) k
      refine .inr ⟨.inl k,c,e,?_⟩
      have q:=x.cell y c e
      rw[yV ndP hp hu (by show scope.names.lookup y≠_;rw[k];decide)] at q
      exact q
  . exact e0.hok.fresh (Nat.le_of_lt (x.above y c (PySem.mem_of_lookup h)))
  . unfold start
    show _=N.length
    rw[List.length_append,List.length_map,List.length_replicate]
    omega
theorem Uq {CX:Ho}{P:Program}{w:World}{K:PySem.W.Frag}{mg:Str->Option Value}{base:Heap}{k:Nat}{f:Addr}{name qual:Str}{params:Arguments}{body:List Stmt}{scope:Scope}{dV kV doc pm cdv ct oc:Value}{an od:Option Addr}
  {osl:Array (Option Value)}{N ps:List Str}{sp:Sp}(lk:K.lookup f=some ⟨oc,od,.func (PySem.W.fnOf name qual params body scope dV kV doc pm an cdv ct),osl⟩) (hcd:PySem.W.codeIn K cdv qual=true) (S:cD N ps scope)
  (len:∀vs H Q E,sp vs H Q E->vs.length=ps.length)
  (hbody:∀(A:Around) (outer:List Env) (s:Shared) (H:Hp) (vs:List V) (Q:VK) (E:XK),lT k (A.deeper (envOfC qual scope s.heap.objs.size f cdv))->sp vs H Q E->
   ∃t,CG (CO CX P w K mg base N qual scope f cdv A outer s H E) body t/\t {nx:=fun _ H'=>Q .dW H',rt:=Q} (start N vs) H):
  cy P w K mg base CX (k+1) f (PySem.W.fnOf name qual params body scope dV kV doc pm an cdv ct) ps sp:=by
 refine⟨len,fun A outer s H args us vs Q E hr e0 hb r OB=>?_⟩
 have hl:=len _ _ _ _ OB
 have KX:K.In s.heap:=e0.mod.Yt.keeps fun b o e=>(e0.bs b o e).1
 have lim:s.heap.NoLimit:=e0.mod.nolimit.keeps fun b o e=>(e0.bs b o e).1
 have hkind:∀y∈ps.zip us,scope.names.lookup y.1=some .local\/(scope.names.lookup y.1=some .cell/\((cellsFrom (s.heap.objs.size+1) scope.names []).lookup y.1).isSome=true):=fun⟨n,v⟩ hy=>by
  rcases S.par n (List.of_mem_zip hy).1 with q | q
  ·exact .inl q
  ·exact .inr ⟨q,PySem.W.cellsFrom_some _ _ _ (.inl q)⟩
 refine codeAny_call_function hr.depth (KX _ _ lk) rfl S.co S.gen rfl (PySem.W.codeRec_of KX hcd) (hb _ _ _ _ ?_)
 refine wpAny_newFunctionEnv_cells S.kind hkind fun env he s1 x=>?_
 subst he
 refine⟨lim.keeps x.toInCall.keep,codeAny_func ?_⟩
 obtain⟨t,ht,hq⟩:=hbody A outer s H vs Q E (hr.deeper _) OB
 have I:Inv (CO CX P w K mg base N qual scope f cdv A outer s H E) [] (start N vs) H s1:=Fo S hr.hd e0 hl r x
 refine wpAny_mono (ht [] s1 (start N vs) H _ I hq) (fun fl s' hs=>?_) fun e s' hs=>hs
 have fin:∀{σ':St}{H':Hp}{v:V}{u:Value},Inv (CO CX P w K mg base N qual scope f cdv A outer s H E) [] σ' H' s'->RelV v u->Q v H'->CE outer P w H s Q u s':=
  fun {σ' H' v u} J rv q=>⟨v,H',J.os,J.bare,J.base,J.hok,rv,q⟩
 cases fl with
 | ret u=>
  obtain⟨v,σ',H',J,rv,q⟩:=hs
  exact fin J rv q
 | next=>
  obtain⟨σ',H',J,q⟩:=hs
  exact fin (v:=V.dW) (u:=Value.none) J rfl q
 | brk=>
  obtain⟨_,_,_,q⟩:=hs
  exact False.elim q
 | cont=>
  obtain⟨_,_,_,q⟩:=hs
  exact False.elim q
section
variable {X:Cx}{x:Str}{p pos:Pos}{e:Expr}{es:List Expr}{t:TA}{id T:String}{r:List V->Hp->VK->Prop}
noncomputable def tCB (r:List V->Hp->VK->Prop) (t:TA):TE:=fun σ H Q=>t σ H fun vs H1=>r vs H1 Q
theorem nW (hc:iY X (.builtin id) r) (hg:Gl X x) (hm:X.mg x=none) (hv:bootBuiltins x=some (.builtin id)) (ha:PA X (e :: es) t) (hn:x≠"__name__":=by decide) (hdb:(x == ("__debug__":Str))=false:=by decide)
  (he:starEach (e :: es) X.env=(false,eval e X.env) :: starEach es X.env:=by rfl) (hpl:(backTo pos (starEach es X.env)).any (·.1)=false:=by rfl):PE X (.Call (.Name x p) (e :: es) [] pos) (tCB r t):=by
 intro pins s σ H Q I h
 refine wpAny_Call_Name_kw (kU I hg hm hv ?_ hn hdb)
 exact PyProof.Rows.callWith_builtin1 (fJ (ha pos pins s σ H _ I h) fun us s1 ⟨vs,H1,I1,r1,q1⟩=>hc pins s1 σ H1 vs us Q I1 r1 q1) he hpl
theorem yW (hc:iY X (.type T) r) (hg:Gl X x) (hm:X.mg x=none) (hv:bootBuiltins x=some (.type T)) (ha:PA X (e :: es) t) (hn:x≠"__name__":=by decide) (hdb:(x == ("__debug__":Str))=false:=by decide)
  (he:starEach (e :: es) X.env=(false,eval e X.env) :: starEach es X.env:=by rfl) (hpl:(backTo pos (starEach es X.env)).any (·.1)=false:=by rfl):PE X (.Call (.Name x p) (e :: es) [] pos) (tCB r t):=by
 intro pins s σ H Q I h
 refine wpAny_Call_Name_kw (kU I hg hm hv ?_ hn hdb)
 exact PyProof.Rows.callWith_type1 (fJ (ha pos pins s σ H _ I h) fun us s1 ⟨vs,H1,I1,r1,q1⟩=>hc pins s1 σ H1 vs us Q I1 r1 q1) he hpl
end
section
variable {κ:Type} [DecidableEq κ]
noncomputable def p7 (kvs:List (κ×V)) (k:κ):Option V:=(kvs.find? fun kv=>decide (kv.1=k)).map (·.2)
noncomputable def putK (kvs:List (κ×V)) (k:κ) (v:V):List (κ×V):=
 if(kvs.any fun kv=>decide (kv.1=k))=true then kvs.map (fun kv=>if kv.1=k then(kv.1,v) else kv) else kvs++[(k,v)]
theorem qZ {p:κ×V}{r:List (κ×V)}{k:κ}(e:p.1=k):p7 (p :: r) k=some p.2:=by simp[p7,List.find?_cons,e]
theorem nX {p:κ×V}{r:List (κ×V)}{k:κ}(e:¬p.1=k):p7 (p :: r) k=p7 r k:=by simp[p7,List.find?_cons,e]
theorem Bc (k:κ):∀kvs:List (κ×V),(kvs.any fun kv=>decide (kv.1=k))=(p7 kvs k).isSome
 | []=>rfl
 | p :: r=>by
  rw[List.any_cons]
  by_cases e:p.1=k
  ·simp only[qZ e,decide_eq_true e,Bool.true_or,Option.isSome_some]
  ·rw[nX e,decide_eq_false e,Bool.false_or];exact Bc k r
theorem nY (kvs:List (κ×V)) (k:κ) (v:V):(putK kvs k v).length<=kvs.length+1:=by
 unfold putK
 split
 ·rw[List.length_map];omega
 ·rw[List.length_append,List.length_cons,List.length_nil];omega
theorem u9.tH {o:Option V}{u:Option Value}(r:u9 o u):o.isSome=u.isSome:=by
 cases o with
 | none=>cases u with
  | none=>rfl
  | some _=>exact(show False from r).elim
 | some _=>cases u with
  | none=>exact(show False from r).elim
  | some _=>rfl
theorem u9.getD {o:Option V}{u:Option Value}{d:V}{d':Value}(r:u9 o u) (rd:RelV d d'):RelV (o.getD d) (u.getD d'):=by
 cases o with
 | none=>cases u with
  | none=>exact rd
  | some _=>exact(show False from r).elim
 | some _=>cases u with
  | none=>exact(show False from r).elim
  | some _=>exact r
theorem KV.val {kvs:List (κ×V)}{vs:List (κ×Value)}(r:KV kvs vs) (k:κ):u9 (p7 kvs k) (valueAt vs k):=by
 unfold KV at r
 induction r with
 | nil=>exact True.intro
 | @cons p q ps qs h t ih=>
  obtain⟨h1,h2⟩:=h
  by_cases e:p.1=k
  ·have e':q.1=k:=h1.symm.trans e
   have b:valueAt (q :: qs) k=some q.2:=by simp[valueAt,List.find?_cons,e']
   rw[qZ e,b];exact h2
  ·have e':¬q.1=k:=fun z=>e (h1.trans z)
   have b:valueAt (q :: qs) k=valueAt qs k:=by simp[valueAt,List.find?_cons,e']
   rw[nX e,b];exact ih
theorem KV.any {kvs:List (κ×V)}{vs:List (κ×Value)}(r:KV kvs vs) (k:κ):(kvs.any fun kv=>decide (kv.1=k))=vs.any fun kv=>decide (kv.1=k):=by
 unfold KV at r
 induction r with
 | nil=>rfl
 | cons h t ih=>rw[List.any_cons,List.any_cons,ih,h.1]
theorem KV.repl {kvs:List (κ×V)}{vs:List (κ×Value)}(r:KV kvs vs) (k:κ){y:V}{u:Value}(ry:RelV y u):
  KV (kvs.map fun kv=>if kv.1=k then(kv.1,y) else kv) (vs.map fun kv=>if kv.1=k then(kv.1,u) else kv):=by
 unfold KV at r ⊢
 induction r with
 | nil=>exact .nil
 | @cons p q ps qs h t ih=>
  rw[List.map_cons,List.map_cons]
  refine .cons ?_ ih
  obtain⟨h1,h2⟩:=h
  by_cases e:p.1=k
  ·rw[if_pos e,if_pos (h1.symm.trans e)];exact⟨h1,ry⟩
  ·rw[if_neg e,if_neg (fun z=>e (h1.trans z))];exact⟨h1,h2⟩
theorem KV.put {kvs:List (κ×V)}{vs:List (κ×Value)}(r:KV kvs vs) (k:κ){y:V}{u:Value}(ry:RelV y u):KV (putK kvs k y) (stored vs k u):=by
 unfold putK stored
 rw[r.any k]
 by_cases e:(vs.any fun kv=>decide (kv.1=k))=true
 ·rw[if_pos e,if_pos e];exact r.repl k ry
 ·rw[if_neg e,if_neg e];exact Paired.snoc r ⟨rfl,ry⟩
theorem KV.length {kvs:List (κ×V)}{vs:List (κ×Value)}(r:KV kvs vs):kvs.length=vs.length:=Paired.length r
end
theorem yX {P:Program}{w:World}{k:Key}{u:Value}(r:RelV (kV k) u):(eY P w).is k u=true:=by
 cases k with
 | inl i=>obtain⟨t,e⟩:=(show ∃t,u=Value.int i t from r);subst e;exact A8 P w i t
 | inr x=>obtain⟨t,e⟩:=(show ∃t,u=Value.str x t from r);subst e;exact nR P w x t
noncomputable abbrev KT (H:Hp):List (D×V)->List (D×Addr×Value)->Prop:=Paired fun p q=>p.1=q.1/\Kd H q.2.1 p.1/\RelV p.2 q.2.2
theorem KT.val {H:Hp}{kvs:List (D×V)}{xs:List (D×Addr×Value)}(r:KT H kvs xs) (k:D):u9 (p7 kvs k) ((atKey xs k).map (·.2)):=by
 induction r with
 | nil=>exact True.intro
 | @cons p q ps qs h t ih=>
  obtain⟨h1,_,h2⟩:=h
  by_cases e:p.1=k
  ·have e':q.1=k:=h1.symm.trans e
   have b:atKey (q :: qs) k=some q.2:=by simp[atKey,List.find?_cons,e']
   rw[qZ e,b];exact h2
  ·have e':¬q.1=k:=fun z=>e (h1.trans z)
   have b:atKey (q :: qs) k=atKey qs k:=by simp[atKey,List.find?_cons,e']
   rw[nX e,b];exact ih
theorem KT.repl {H:Hp}{kvs:List (D×V)}{xs:List (D×Addr×Value)}(r:KT H kvs xs) (k:D){y:V}{u:Value}(ry:RelV y u):
  KT H (kvs.map fun kv=>if kv.1=k then(kv.1,y) else kv) (xs.map (putAt k u)):=by
 induction r with
 | nil=>exact .nil
 | @cons p q ps qs h t ih=>
  rw[List.map_cons,List.map_cons]
  refine .cons ?_ ih
  obtain⟨h1,h2,h3⟩:=h
  unfold putAt
  by_cases e:p.1=k
  ·rw[if_pos e,if_pos (h1.symm.trans e)];exact⟨h1,h2,ry⟩
  ·rw[if_neg e,if_neg (fun z=>e (h1.trans z))];exact⟨h1,h2,h3⟩
theorem KT.put {H:Hp}{kvs:List (D×V)}{xs:List (D×Addr×Value)}(r:KT H kvs xs) (k:D){b:Addr}{y:V}{u:Value}(hb:Kd H b k) (ry:RelV y u):
  KT H (putK kvs k y) (storedH xs k b u):=by
 have e:(kvs.any fun kv=>decide (kv.1=k))=(atKey xs k).isSome:=by
  rw[Bc,(r.val k).tH,Option.isSome_map]
 unfold putK storedH
 rw[e]
 by_cases q:(atKey xs k).isSome=true
 ·rw[if_pos q,if_pos q];exact r.repl k ry
 ·rw[if_neg q,if_neg q];exact Paired.snoc r ⟨rfl,hb,ry⟩
theorem KT.keeps {H H':Hp}{kvs:List (D×V)}{xs:List (D×Addr×Value)}(r:KT H kvs xs) (ht:∀b ys,H b=some (.tup ys)->H' b=some (.tup ys)):KT H' kvs xs:=
 Paired.Fb r fun _ _ z=>⟨z.1,z.2.1.tups ht,z.2.2⟩
section
variable {P:Program}{w:World}{H:Hp}{h:Heap}{a:Addr}
theorem OC {u:HO}(ok:nO P w H h) (e:Rd H a u):eL P w H h a u:=e.ok ok
theorem vR {kvs:List (Key×V)}(ok:nO P w H h) (e:Rd H a (.dK kvs)):kvs.length<=sizeLine/\(a == sysModules)=false/\∃vs,KV kvs vs/\h.DictOf (eY P w) a vs:=
 show eL P w H h a (.dK kvs) from OC ok e
theorem HS {kvs:List (Key×V)}(ok:nO P w H h) (e:H a=some (.dK kvs)):kvs.length<=sizeLine/\(a == sysModules)=false/\∃vs,KV kvs vs/\h.DictOf (eY P w) a vs:=vR ok (.inl e)
mutual
theorem HU (ok : nO P w H h) : ∀ (d : D) {n : Nat} {v : V} {u : Value}, Rep H v d -> RelV v u -> gW n d = true -> xV h u d
  | .dW,n,_,_,_,_,k=>by simp[gW] at k
  | .bl _,n,_,_,_,_,k=>by simp[gW] at k
  | .lst _,n,_,_,_,_,k=>by simp[gW] at k
  | .int i,n,_,_,r,q,k=>by cases r;obtain⟨t,rfl⟩:=q;exact .int i t
  | .str i,n,_,_,r,q,k=>by cases r;obtain⟨t,rfl⟩:=q;exact .str i t
  | .tup ds,n,_,_,r,q,k=>by
    cases n with
    | zero=>simp[gW] at k
    | succ n=>
      cases r with
      | @tup a vs _ e rs=>
        cases q
        obtain⟨_,its,rv,o,h1,h2,m,h3⟩:=(show eL P w H h a (.tup vs) from ok a _ e)
        exact .tup ⟨o,h1,h2,m,h3⟩ (D5 ok ds rs rv k)
theorem D5 (ok:nO P w H h):∀(ds:List D){n:Nat}{vs:List V}{us:List Value},bS H vs ds->Vals vs us->ds.all (gW n)=true->lQ h us ds
  | [],n,_,_,r,q,k=>by cases r;cases q;exact .nil
  | d :: ds, n, _, _, r, q, k => by
    rw[List.all_cons,Bool.and_eq_true] at k
    cases r with
    | cons r1 r2=>
      cases q with
      | cons q1 q2=>exact .cons (HU ok d r1 q1 k.1) (D5 ok ds r2 q2 k.2)
end
theorem vU {ks:D}(ok:nO P w H h) (e:Kd H a ks):(kT P w).is h ks a:=⟨HU ok ks e.1 rfl e.2,e.2⟩
theorem yY {kvs : List (D × V)} (ok : nO P w H h) (e : Rd H a (.dT kvs)) : kvs.length <= sizeLine /\ (a == sysModules) = false /\
    ∃xs,KT H kvs xs/\h.DictOfH (kT P w) a xs:=by
  obtain⟨z,y,xs,r,o,es,ep,h1,h2,h3,h4,h5⟩:=(show eL P w H h a (.dT kvs) from OC ok e)
  refine⟨z,y,xs,r,o,es,ep,h1,h2,h3,h4,fun x hx=>?_,h5⟩
  have all:∀{l:List (D×V)}{m:List (D×Addr×Value)},KT H l m->∀x∈m,(kT P w).is h x.1 x.2.1:=by
    intro l m q
    induction q with
    | nil=>intro x hx;exact nomatch hx
    | @cons p q ps qs hq t ih=>
      intro x hx
      rcases List.mem_cons.mp hx with e | hx
      . subst e
        exact vU ok (by rw[<-hq.1];exact hq.2.1)
      . exact ih x hx
  exact all r x hx
theorem Ur {kvs:List (D×V)}(ok:nO P w H h) (e:H a=some (.dT kvs)):kvs.length<=sizeLine/\(a == sysModules)=false/\
  ∃xs,KT H kvs xs/\h.DictOfH (kT P w) a xs:=yY ok (.inl e)
end
noncomputable def kC (H:Hp) (a:Addr) (y:V) (r:Option V):Prop:=
 (∃kvs k,Rd H a (.dK kvs)/\y=kV k/\r=p7 kvs k)\/∃kvs k b,Rd H a (.dT kvs)/\y= .ref b/\Kd H b k/\r=p7 kvs k
noncomputable def Bd (H:Hp) (a:Addr) (y v:V) (H':Hp):Prop:=
 (∃kvs k,H a=some (.dK kvs)/\y=kV k/\kvs.length < sizeLine/\H'=upd H a (.dK (putK kvs k v)))\/
 ∃kvs k b,H a=some (.dT kvs)/\y= .ref b/\Kd H b k/\kvs.length < sizeLine/\H'=upd H a (.dT (putK kvs k v))
theorem kC.k {H:Hp}{a:Addr}{kvs:List (Key×V)}{k:Key}(e:H a=some (.dK kvs)):kC H a (kV k) (p7 kvs k):=.inl ⟨kvs,k,.inl e,rfl,rfl⟩
theorem kC.t {H:Hp}{a b:Addr}{kvs:List (D×V)}{k:D}(e:H a=some (.dT kvs)) (eb:Kd H b k):kC H a (.ref b) (p7 kvs k):=.inr ⟨kvs,k,b,.inl e,rfl,eb,rfl⟩
theorem Bd.k {H:Hp}{a:Addr}{kvs:List (Key×V)}{k:Key}{v:V}(e:H a=some (.dK kvs)) (hl:kvs.length < sizeLine):Bd H a (kV k) v (upd H a (.dK (putK kvs k v))):=.inl ⟨kvs,k,e,rfl,hl,rfl⟩
theorem Bd.t {H:Hp}{a b:Addr}{kvs:List (D×V)}{k:D}{v:V}(e:H a=some (.dT kvs)) (eb:Kd H b k) (hl:kvs.length < sizeLine):
  Bd H a (.ref b) v (upd H a (.dT (putK kvs k v))):=.inr ⟨kvs,k,b,e,rfl,eb,hl,rfl⟩
section
variable {X:Cx}{pins:List (Addr×Obj)}{σ:St}{H:Hp}{s:Shared}{a:Addr}{y v:V}{u r:Value}{o:Option V}{A:Around}{E:Value->Shared->Prop}
theorem Inv.big (I:Inv X pins σ H s):sysModules < s.heap.objs.size:=by
 have h:mainGlobals < s.heap.objs.size:=(I.mod.glob.keeps I.bk).lt
 exact Nat.lt_trans (by decide) h
theorem Fp {Q:Value->Shared->Prop}(hu:A.units+20 < cLine) (I:Inv X pins σ H s) (g:kC H a y (some v)) (ry:RelV y u) (h:∀w' s',Inv X pins σ H s'->RelV v w'->Q w' s'):
  wpAny (model X.prog X.w) A (getItem (.ref a) u) Q E s:=by
 rcases g with⟨kvs,k,e,ey,l⟩ | ⟨kvs,k,b,e,ey,eb,l⟩
 ·subst ey
  obtain⟨z,hd,vs,rel,dd⟩:=vR I.hok e
  obtain⟨w',hw,rw'⟩:=u9.some_of (v:=v) (o:=valueAt vs k) (by rw[l];exact rel.val k)
  exact wpAny_getItem_of (yX ry) dd.mapOf hw (h w' _ (I.tok _) rw')
 ·subst ey
  cases(show u=Value.ref b from ry)
  obtain⟨z,hd,xs,rel,dd⟩:=yY I.hok e
  obtain⟨w',hw,rw'⟩:=u9.some_of (v:=v) (o:=(atKey xs k).map (·.2)) (by rw[l];exact rel.val k)
  obtain⟨p,hp,hp2⟩:=Option.map_eq_some_iff.mp hw
  refine wpAny_getItem_heap (jT hu) (vU I.hok eb) dd hp ?_
  rw[hp2]
  exact h w' _ (I.tok _) rw'
theorem L0 {Q:Value->Shared->Prop}(hu:A.units+20 < cLine) (I:Inv X pins σ H s) (g:kC H a y o) (ry:RelV y u) (h:∀s',Inv X pins σ H s'->Q (.bool (!o.isSome)) s'):
  wpAny (model X.prog X.w) A (compareOp .NotIn u (.ref a)) Q E s:=by
 rcases g with⟨kvs,k,e,ey,l⟩ | ⟨kvs,k,b,e,ey,eb,l⟩
 ·subst ey
  obtain⟨z,hd,vs,rel,dd⟩:=vR I.hok e
  refine wpAny_notIn_of (yX ry) hd dd.mapOf ?_
  rw[<-(rel.val k).tH,<-l]
  exact h _ (I.tok _)
 ·subst ey
  cases(show u=Value.ref b from ry)
  obtain⟨z,hd,xs,rel,dd⟩:=yY I.hok e
  refine wpAny_notIn_heap (jT hu) (vU I.hok eb) hd dd ?_
  have q:=(rel.val k).tH
  rw[Option.isSome_map] at q
  rw[<-q,<-l]
  exact h _ (I.tok _)
theorem zQ {h':Heap}{t':Nat}{ob:HO}(I:Inv X pins σ H s) (mu:TL (H a)) (hs:Heap.SameBut a s.heap h') (he:∃q,h'.get? a=some q) (new:eL X.prog X.w (upd H a ob) h' a ob):
  Inv X pins σ (upd H a ob) {s with heap:=h',toks:=t'}:=
 I.write (x:=a) (e:=a) mu (.inl rfl) (fun b q hb z=>(hs.2 b hb).trans z) he new
theorem HV {P:Program}{w:World}{H':Hp}{h':Heap}{kvs:List (Key×V)}{vs:List (Key×Value)}(z:kvs.length<=sizeLine) (hd:(a == sysModules)=false) (rel:KV kvs vs) (dd:h'.DictOf (eY P w) a vs):
  eL P w H' h' a (.dK kvs):=⟨z,hd,vs,rel,dd⟩
theorem Fq {H':Hp}{Q:Unit->Shared->Prop}(hu:A.units+20 < cLine) (I:Inv X pins σ H s) (g:Bd H a y v H') (ry:RelV y u) (rv:RelV v r) (h:∀s',Inv X pins σ H' s'->Q () s'):
  wpAny (model X.prog X.w) A (setItem (.ref a) u r) Q E s:=by
 rcases g with⟨kvs,k,e,ey,l,eH⟩ | ⟨kvs,k,b,e,ey,eb,l,eH⟩
 ·subst ey eH
  obtain⟨z,hd,vs,rel,dd⟩:=HS I.hok e
  have hz:vs.length<=sizeLine:=by rw[<-rel.length];exact z
  have hl:(putK kvs k v).length<=sizeLine:=by have:=nY kvs k v;omega
  refine wpAny_setItem_pairs (hsz:=hz) (yX ry) dd fun h' L4 hs=>h _ ?_
  have he:∃q,h'.get? a=some q:=let⟨q,_,_,hq,_⟩:=L4;⟨q,hq⟩
  exact zQ I (by rw[e];exact True.intro) hs he (HV hl hd (rel.put k rv) L4)
 ·subst ey eH
  cases(show u=Value.ref b from ry)
  obtain⟨z,hd,xs,rel,dd⟩:=Ur I.hok e
  have hz:xs.length<=sizeLine:=by rw[<-Paired.length rel];exact z
  have hl:(putK kvs k v).length<=sizeLine:=by have:=nY kvs k v;omega
  refine wpAny_setItem_heap (hsz:=hz) (jT hu) (vU I.hok eb) dd fun h' L4 hs=>h _ ?_
  obtain⟨q,es,ep,hq,h2,h3,h4,_,h5⟩:=L4
  refine zQ I (by rw[e];exact True.intro) hs ⟨q,hq⟩ ⟨hl,hd,_,(rel.put k eb rv).keeps fun c ys ec=>?_,q,es,ep,hq,h2,h3,h4,h5⟩
  rw[aX (TJ ec e (fun z=>nomatch z))]
  exact ec
end
section
variable {X:Cx}{pins:List (Addr×Obj)}{σ:St}{H:Hp}{s:Shared}{a:Addr}{kvs:List (Key×V)}{k:Key}{u:Value}{A:Around}{E:Value->Shared->Prop}
theorem Us {Q:Value->Shared->Prop}(I:Inv X pins σ H s) (e:Rd H a (.dK kvs)) (h:∀t s',Inv X pins σ H s'->Q (.int kvs.length t) s'):wpAny (model X.prog X.w) A (call (.builtin "len") [.ref a]) Q E s:=by
 obtain⟨z,hd,vs,rel,dd⟩:=vR I.hok e
 refine call_len_dict hd dd (by rw[<-rel.length];rw[sizeLine_eq] at z;omega) ?_
 rw[<-rel.length]
 exact h _ _ (I.tok _)
end
noncomputable def L5 (i:Expr):Prop:=∀ov iv,subscripted i false ov iv=operate [ov,iv] (getItem ov iv)
theorem D6 {prog:Program}{w:World}{A:Around}{E:Value->Shared->Prop}{s:Shared}{env:Env}{value slice:Expr}{pos:Pos}{T id:String}{Q:Value->Shared->Prop}
  (hl:typeLookup (.type T) "__getitem__" =pure (some (.builtin id))) (hs:L5 slice)
  (h:wpAny (model prog w) A (eval value env) (fun o s₁=>wpAny (model prog w) A (eval slice env) (fun i s₂=>s₂.TypeIs o T/\wpAny (model prog w) A (getItem o i) Q E s₂) E s₁) E s):
  wpAny (model prog w) A (eval (.Subscript value slice pos) env) Q E s:=by
 refine Subscript_ (wpAny_mono h (fun o s₁ h₁=>wpAny_mono h₁ (fun i s₂ h₂=>?_) fun _ _ x=>x) fun _ _ x=>x)
 obtain⟨hT,h₂⟩:=h₂
 unfold subscriptTail
 refine wpAny_bind ?_
 rw[getitemInPython_of_ne hT.not_modules]
 refine wpAny_bind (wpAny_specialOf hT hl ?_)
 have fin:wpAny (model prog w) A (subscripted slice false o i) (fun r s₃=>wpAny (model prog w) A (letTemporaryGo value o r >>= fun _=>pure r) Q E s₃) E s₂:=by
  rw[hs o i]
  exact wpAny_operating (wpAny_mono h₂ (fun r s₃ h₃=>wpAny_bind (wpAny_letTemporaryGo (wpAny_pure h₃))) fun _ _ x=>x)
 first
  | exact wpAny_pure (wpAny_bind fin)
  | exact wpAny_bind (wpAny_pure (wpAny_bind fin))
  | exact wpAny_bind fin
theorem Be {X:Cx}{pins:List (Addr×Obj)}{σ:St}{H:Hp}{s:Shared}{a:Addr}{y:V}{o:Option V}(I:Inv X pins σ H s) (g:kC H a y o):s.TypeIs (.ref a) "dict":=by
 rcases g with⟨kvs,k,e,_,_⟩ | ⟨kvs,k,b,e,_,_,_⟩
 ·obtain⟨_,_,vs,_,dd⟩:=vR I.hok e
  exact dd.typeIs
 ·obtain⟨_,_,xs,_,dd⟩:=yY I.hok e
  exact dd.typeIs
noncomputable def Ut (td ty:TE):TE:=fun σ H Q=>td σ H fun x H1=>ty σ H1 fun y H2=>∃a v,x= .ref a/\kC H2 a y (some v)/\Q v H2
noncomputable def D7 (ty td:TE):TE:=fun σ H Q=>ty σ H fun y H1=>td σ H1 fun x H2=>∃a o,x= .ref a/\kC H2 a y o/\Q (.bl (!o.isSome)) H2
noncomputable def Uu (td ty tv:TE):TS:=fun D σ H=>tv σ H fun v H1=>td σ H1 fun x H2=>ty σ H2 fun y H3=>∃a H4,x= .ref a/\Bd H3 a y v H4/\D.nx σ H4
section
variable {X:Cx}{o i e value:Expr}{pos pos' tpos:Pos}{td ty tv:TE}
theorem D8 (hu:X.A.units+20 < cLine) (ho:PE X o td) (hi:PE X i ty) (hs:L5 i):PE X (.Subscript o i pos) (Ut td ty):=by
 intro pins s σ H Q I h
 refine D6 PySem.F.slot_dict_getitem.lookup hs (fJ (ho pins s σ H _ I h) fun u s1 ⟨x,H1,I1,rx,q1⟩=>fJ (hi pins s1 σ H1 _ I1 q1) fun iv s2 ⟨y,H2,I2,ry,a,v,ex,g,q2⟩=>?_)
 subst ex
 obtain rfl:u=Value.ref a:=rx
 exact⟨Be I2 g,Fp hu I2 g ry fun w' s3 I3 rw'=>⟨v,H2,I3,rw',q2⟩⟩
theorem Ft (hu:X.A.units+20 < cLine) (hi:PE X i ty) (ho:PE X o td):PC X .NotIn i o (D7 ty td):=by
 intro pins s σ H Q I h
 refine fJ (hi pins s σ H _ I h) fun iv s1 ⟨y,H1,I1,ry,q1⟩=>fJ (ho pins s1 σ H1 _ I1 q1) fun u s2 ⟨x,H2,I2,rx,a,ov,ex,g,q2⟩=>?_
 subst ex
 obtain rfl:u=Value.ref a:=rx
 exact L0 hu I2 g ry fun s3 I3=>⟨.bl (!ov.isSome),H2,I3,rfl,q2⟩
theorem D9 (hu:X.A.units+20 < cLine) (ho:PE X o td) (hi:PE X i ty) (hv:PE X value tv) (hs:swapsWith value (some (.Subscript o i pos')) pos.line X.env=pure false):
  PS X (.Assign [.Subscript o i pos'] value pos) (Uu td ty tv):=by
 intro pins s σ H D I h
 refine wpAny_Assign_Subscript (fJ (hv pins s σ H _ I h) fun r s1 ⟨v,H1,I1,rv,q1⟩=>fJ (ho pins s1 σ H1 _ I1 q1) fun u s2 ⟨x,H2,I2,rx,q2⟩=>fJ (hi pins s2 σ H2 _ I2 q2) fun iv s3 ⟨y,H3,I3,ry,a,H4,ex,g,q3⟩=>?_) hs
 subst ex
 obtain rfl:u=Value.ref a:=rx
 exact Fq hu I3 g ry rv fun s4 I4=>⟨σ,H4,I4,q3⟩
end
theorem Bf {P:Program}{w:World}{H:Hp}(h:Heap) (hb:sysModules < h.objs.size):eL P w H (h.push {cls:=.type "dict",data:=.dict #[]}) h.objs.size (.dK []):=
 ⟨Nat.zero_le _,beq_eq_false_iff_ne.mpr (Ne.symm (Nat.ne_of_lt hb)),[],.nil,Heap.DictOf.new h⟩
theorem HW {P:Program}{w:World}{H:Hp}(h:Heap) (hb:sysModules < h.objs.size):eL P w H (h.push {cls:=.type "dict",data:=.dict #[]}) h.objs.size (.dT []):=
 ⟨Nat.zero_le _,beq_eq_false_iff_ne.mpr (Ne.symm (Nat.ne_of_lt hb)),[],.nil,_,#[],0,Heap.get?_push_size _ rfl,⟨rfl,rfl,rfl⟩,rfl,rfl,List.nodup_nil⟩
noncomputable def PM:TE:=fun _ H Q=>∀p,H p=none->Q (.ref p) (upd H p (.dK []))
noncomputable def PN:TE:=fun _ H Q=>∀p,H p=none->Q (.ref p) (upd H p (.dT []))
section
variable {X:Cx}{pos:Pos}
theorem HX:PE X (.Dict [] [] pos) PM:=fun pins s σ H Q I h=>
 wpAny_Dict_empty ⟨.ref s.heap.objs.size,_,I.laid (a:=s.heap.objs.size) (o:=.dK []) (t':=s.toks) (fun _ _ q=>Heap.get?_push_of_some _ q) (Nat.le_refl _) (Bf s.heap I.big),rfl,h _ (I.hok.fresh (Nat.le_refl _))⟩
theorem HY:PE X (.Dict [] [] pos) PN:=fun pins s σ H Q I h=>
 wpAny_Dict_empty ⟨.ref s.heap.objs.size,_,I.laid (a:=s.heap.objs.size) (o:=.dT []) (t':=s.toks) (fun _ _ q=>Heap.get?_push_of_some _ q) (Nat.le_refl _) (HW s.heap I.big),rfl,h _ (I.hok.fresh (Nat.le_refl _))⟩
end
noncomputable def vV:List (TE×TE)->St->Hp->(List (V×V)->Hp->Prop)->Prop
 | [],_,H,Q=>Q [] H
 | (tk,tv) :: r,σ,H,Q=>tk σ H fun x H1=>tv σ H1 fun y H2=>vV r σ H2 fun ps H3=>Q ((x,y) :: ps) H3
noncomputable abbrev VV:List (V×V)->List (Value×Value)->Prop:=Paired fun p q=>RelV p.1 q.1/\RelV p.2 q.2
noncomputable def Uv (X:Cx) (pos:Pos) (keys:List (Option Expr)) (values:List Expr) (L6:List (TE×TE)):Prop:=
 ∀(pins:List (Addr×Obj)) (s:Shared) (σ:St) (H:Hp) (Q:List (V×V)->Hp->Prop),Inv X pins σ H s->vV L6 σ H Q->
  wpAny (model X.prog X.w) X.A (evalPairs (pairTrees keys values X.env pos)) (fun vs s'=>∃ps H',Inv X pins σ H' s'/\VV ps vs/\Q ps H') X.xe s
theorem L7 {X:Cx}{pos:Pos}:Uv X pos [] [] []:=fun pins s σ H Q I h=>pairTrees_nil_walk ⟨[],H,I,.nil,h⟩
theorem HZ {X:Cx}{pos:Pos}{k v:Expr}{ks:List (Option Expr)}{vs:List Expr}{tk tv:TE}{L6:List (TE×TE)}(hk:PE X k tk) (hv:PE X v tv) (hr:Uv X pos ks vs L6):
  Uv X pos (some k :: ks) (v :: vs) ((tk,tv) :: L6):=fun pins s σ H Q I h=>
 pairTrees_cons_walk (fJ (hk pins s σ H _ I h) fun u s1 ⟨x,H1,I1,rx,q1⟩=>fJ (hv pins s1 σ H1 _ I1 q1) fun w2 s2 ⟨y,H2,I2,ry,q2⟩=>
  fJ (hr pins s2 σ H2 _ I2 q2) fun ws s3 ⟨ps,H3,I3,rel,q3⟩=>⟨(x,y) :: ps,H3,I3,.cons ⟨rx,ry⟩ rel,q3⟩)
noncomputable def nZ (kvs more:List (Key×V)):List (Key×V):=more.foldl (fun acc kv=>putK acc kv.1 kv.2) kvs
theorem KV.merge:∀{more:List (Key×V)}{rs:List (Key×Value)}{kvs:List (Key×V)}{vs:List (Key×Value)},KV more rs->KV kvs vs->KV (nZ kvs more) (merged vs rs):=by
 intro more rs kvs vs r
 unfold KV at r
 induction r generalizing kvs vs with
 | nil=>intro q;exact q
 | @cons p q ps qs h t ih=>
  intro r0
  have e:KV (putK kvs p.1 p.2) (stored vs q.1 q.2):=by
   have:=r0.put p.1 h.2
   rw[<-h.1];exact this
  exact ih e
theorem qj:∀(more kvs:List (Key×V)),(nZ kvs more).length<=kvs.length+more.length
 | [],kvs=>by show kvs.length<=kvs.length+0;omega
 | p :: r,kvs=>by
  have h1:=qj r (putK kvs p.1 p.2)
  have h2:=nY kvs p.1 p.2
  show(nZ (putK kvs p.1 p.2) r).length<=_
  rw[List.length_cons];omega
theorem vW {P:Program}{w:World}:∀{kvs:List (Key×V)}{ws:List (Value×Value)},VV (kvs.map fun kv=>(kV kv.1,kv.2)) ws->∃rs,Carries (eY P w) ws rs/\KV kvs rs
  | [],_,r=>by rw[List.map_nil] at r;cases r;exact⟨[],True.intro,.nil⟩
  | p :: kvs, _, r => by
    rw[List.map_cons] at r
    cases r with
    | @cons a b as bs h t=>
      obtain⟨rs,c,q⟩:=vW (P:=P) (w:=w) t
      obtain⟨b1,b2⟩:=b
      exact⟨(p.1,b2) :: rs,⟨yX h.1,rfl,c⟩,.cons ⟨rfl,h.2⟩ q⟩
noncomputable def Uw (L6:List (TE×TE)):TE:=fun σ H Q=>∀p,H p=none->vV L6 σ (upd H p (.dK [])) fun ps H2=>H2 p=some (.dK [])/\∃kvs:List (Key×V),ps=kvs.map (fun kv=>(kV kv.1,kv.2))/\kvs.length<=15/\Q (.ref p) (upd H2 p (.dK (nZ [] kvs)))
theorem L8 {X:Cx}{pos:Pos}{keys:List (Option Expr)}{values:List Expr}{L6:List (TE×TE)}(h:Uv X pos keys values L6) (hall:keys.all (·.isSome)=true) (hl:keys.length=values.length) (h0:keys≠[])
  (YO:keys.length<=15):PE X (.Dict keys values pos) (Uw L6):=by
 intro pins s σ H Q I q
 have hn:=I.hok.fresh (Nat.le_refl s.heap.objs.size)
 have I1:=I.laid (a:=s.heap.objs.size) (o:=.dK []) (h':=s.heap.push {cls:=.type "dict",data:=.dict #[]}) (t':=s.toks) (fun _ _ q=>Heap.get?_push_of_some _ q) (Nat.le_refl _) (Bf s.heap I.big)
 refine wpAny_Dict_walk (knd:=eY X.prog X.w) hall hl h0 YO (fJ (h pins _ σ _ _ I1 (q _ hn)) fun ws s2 ⟨ps,H2,I2,rel,e,kvs,ep,lk,q2⟩=>?_)
 subst ep
 obtain⟨rs,c,rk⟩:=vW (P:=X.prog) (w:=X.w) rel
 obtain⟨z,hd,W3,r0,dd⟩:=HS I2.hok e
 cases r0
 refine⟨rs,c,dd,fun h' L4 hs=>⟨.ref s.heap.objs.size,_,?_,rfl,q2⟩⟩
 have hz:(nZ [] kvs).length<=sizeLine:=by
  have h1:=qj kvs []
  rw[List.length_nil] at h1
  rw[sizeLine_eq];omega
 have he:∃q,h'.get? s.heap.objs.size=some q:=let⟨q,_,_,hq,_⟩:=L4;⟨q,hq⟩
 exact zQ I2 (by rw[e];exact True.intro) hs he (HV hz hd (rk.merge .nil) L4)
structure M2 (X:Cx) (o:Expr) (m:Str) (apos:Pos) (e f:Expr) (cpos:Pos):Prop where
 base:attributeBase o m X.env (eval o X.env)=eval o X.env
 few:((backTo cpos (starEach [e,f] X.env)).all (fun x=>!x.1) && (backToKw cpos (keywordEach [] X.env)).all (fun x=>x.1.isSome)
  && decide (([e,f]:List Expr).length+([]:List Keyword).length+(if([]:List Keyword).isEmpty then 0 else 1) < 30))=true
 line:(apos.endLine == cpos.line)=true
 trees:backTo cpos (starEach [e,f] X.env)=[(false,eval e X.env),(false,eval f X.env)]
noncomputable def YQ (H:Hp) (a:Addr):Prop:=(∃kvs,Rd H a (.dK kvs))\/∃kvs,Rd H a (.dT kvs)
theorem PR {X:Cx}{pins:List (Addr×Obj)}{σ:St}{H:Hp}{s:Shared}{a:Addr}(I:Inv X pins σ H s) (d:YQ H a):
  s.TypeIs (.ref a) "dict"/\(∀b,Value.ref a= .ref b->∃ob,s.heap.get? b=some ob/\ob.dict=none)/\(a == sysModules)=false:=by
 rcases d with⟨kvs,e⟩ | ⟨kvs,e⟩
 ·obtain⟨_,hd,vs,_,dd⟩:=vR I.hok e
  refine⟨dd.typeIs,fun b q=>?_,hd⟩
  cases q
  obtain⟨ob,_,_,h1,h2,_⟩:=dd
  exact⟨ob,h1,h2.2.1⟩
 ·obtain⟨_,hd,xs,_,dd⟩:=yY I.hok e
  refine⟨dd.typeIs,fun b q=>?_,hd⟩
  cases q
  obtain⟨ob,_,_,h1,h2,_⟩:=dd
  exact⟨ob,h1,h2.2.1⟩
section
variable {X:Cx}{pins:List (Addr×Obj)}{σ:St}{H:Hp}{s:Shared}{a:Addr}{y d:V}{u r:Value}{o:Option V}{A:Around}{E:Value->Shared->Prop}
theorem PU {Q:Value->Shared->Prop}(hu:A.units+20 < cLine) (I:Inv X pins σ H s) (g:kC H a y o) (ry:RelV y u) (rd:RelV d r) (h:∀w' s',Inv X pins σ H s'->RelV (o.getD d) w'->Q w' s'):
  wpAny (model X.prog X.w) A (call (.builtin "dict.get") [.ref a,u,r]) Q E s:=by
 rcases g with⟨kvs,k,e,ey,l⟩ | ⟨kvs,k,b,e,ey,eb,l⟩
 ·subst ey
  obtain⟨z,hd,vs,rel,dd⟩:=vR I.hok e
  refine call_meetsIn PySem.F.slot_dict_get dd.typeIs PySem.F.entry_dict_get (PySem.F.args_dict_get_3 _ _ _) (meets_dict_get_default (eY X.prog X.w) a (yX ry) hd r) ⟨_,dd.mapOf,h _ _ (I.tok _) ?_⟩
  rw[l]
  exact(rel.val k).getD rd
 ·subst ey
  cases(show u=Value.ref b from ry)
  obtain⟨z,hd,xs,rel,dd⟩:=yY I.hok e
  refine call_meetsIn PySem.F.slot_dict_get dd.typeIs PySem.F.entry_dict_get (PySem.F.args_dict_get_3 _ _ _) (meetsH_dict_get_default (kT X.prog X.w) a b hd r) ⟨jT hu,k,xs,vU I.hok eb,dd,h _ _ (I.tok _) ?_⟩
  rw[l]
  exact(rel.val k).getD rd
end
noncomputable def PV (td ty tx:TE):TE:=fun σ H Q=>td σ H fun x H1=>∃a,x= .ref a/\YQ H1 a/\ty σ H1 fun y H2=>tx σ H2 fun z H3=>∃o,kC H3 a y o/\Q (o.getD z) H3
section
variable {X:Cx}{o e f:Expr}{apos cpos:Pos}{td ty tx:TE}
theorem Ia (hu:X.A.units+20 < cLine) (ho:PE X o td) (he:PE X e ty) (hf:PE X f tx) (m:M2 X o "get" apos e f cpos):PE X (.Call (.Attribute o "get" apos) [e,f] [] cpos) (PV td ty tx):=by
 intro pins s σ H Q I h
 refine wpAny_Call_method m.base m.few m.line PySem.F.plainAttrs_dict PySem.F.slot_dict_get PySem.F.type_dict_get (fJ (ho pins s σ H _ I h) fun u s1 ⟨x,H1,I1,rx,a,ex,d,q1⟩=>?_)
 subst ex
 obtain rfl:u=Value.ref a:=rx
 obtain⟨t1,t2,_⟩:=PR I1 d
 refine⟨t1,t2,?_⟩
 rw[m.trees]
 refine Calls.callWith_builtin rfl (Calls.evalArgs_plain (Calls.spliced_cons (fJ (he pins s1 σ H1 _ I1 q1) fun iv s2 ⟨y,H2,I2,ry,q2⟩=>
  Calls.spliced_cons (fJ (hf pins s2 σ H2 _ I2 q2) fun fv s3 ⟨z,H3,I3,rz,ov,g,q3⟩=>Calls.spliced_nil ?_))))
 exact PU hu I3 g ry rz fun w' s4 I4 rw'=>⟨_,H3,I4,rw',q3⟩
end
section
variable {X:Cx}{pins:List (Addr×Obj)}{σ:St}{H:Hp}{s:Shared}{a:Addr}{kvs:List (Key×V)}{A:Around}{E:Value->Shared->Prop}
end
section
variable {X:Cx}{pins:List (Addr×Obj)}{σ:St}{H:Hp}{s:Shared}{a:Addr}{y:V}{u:Value}{A:Around}{E:Value->Shared->Prop}
end
end L2
namespace HT
open PySem PyProof.Rows
section
open PySem.SeqAt
open PySem.AutoSeq1 (wpAny_loadPart')
open PySem.MeetsSeq PySem.MeetsSeq2 PySem.MeetsSeq3
end
section
variable {prog:Program}{w:World}{A:Around}{E:Value->Shared->Prop}{s:Shared}
theorem Ma {t b:Addr}{vs ws:List Value}{Q:Value->Shared->Prop}(ht:IsTup s.heap t vs.toArray) (hb:IsTup s.heap b ws.toArray) (hv:vs≠[])
  (h1:ws=[]->Q (.ref t) s) (h2:ws≠[]->Q (.ref s.heap.objs.size) {s with heap:=s.heap.push {cls:=.type "tuple",data:=.seq (vs++ws).toArray}})
  (hsz:vs.length+ws.length<=sizeLine):wpAny (model prog w) A (binaryOp .Add (.ref t) (.ref b)) Q E s:=by
 obtain⟨⟨cls,dd,data,sl⟩,ho,hc,n,hd⟩:=id ht
 obtain⟨⟨YR,dd2,data2,sl2⟩,ho2,hc2,n2,hd2⟩:=id hb
 simp only at hc hd hc2 hd2
 subst hc hd hc2 hd2
 have e:vs.toArray++ws.toArray=(vs++ws).toArray:=by simp
 by_cases hw:ws=[]
 ·exact concat_meets ⟨_,ho,rfl⟩ ⟨_,ho2,rfl⟩ noFill_tuple_add seq_tuple_add PySem.F.slot_tuple_add PySem.F.entry_tuple_add (PySem.F.args_tuple_add_2 _ _)
   (tuple_addW1 t b vs.toArray ws.toArray n n2 dd dd2 sl sl2 (by simpa using hv) (by simp[hw])) ⟨ho,ho2,h1 hw⟩
 ·refine concat_meets ⟨_,ho,rfl⟩ ⟨_,ho2,rfl⟩ noFill_tuple_add seq_tuple_add PySem.F.slot_tuple_add PySem.F.entry_tuple_add (PySem.F.args_tuple_add_2 _ _)
   (tuple_addW2 t b vs.toArray ws.toArray n n2 dd dd2 sl sl2 (by simpa using hv) (by simpa using hw) (by rw[List.size_toArray,List.size_toArray];exact hsz)) ⟨ho,ho2,?_⟩
  rw[e]
  exact h2 hw
noncomputable def iz (n d:Nat):Option Int->Nat
 | none=>d
 | some v=>if v < 0 then(v+(n:Int)).toNat else min v.toNat n
theorem vX (n d:Nat):iz n d none=d:=rfl
theorem zR (n d k:Nat):iz n d (some (k:Int))=min k n:=by
 show(if(k:Int) < 0 then((k:Int)+(n:Int)).toNat else min (k:Int).toNat n)=min k n
 rw[if_neg (by omega),Int.toNat_natCast]
theorem PX (n d:Nat) (hd:d<=n) (o:Option Int):iz n d o<=n:=by
 cases o with
 | none=>exact hd
 | some v=>
  show(if v < 0 then(v+(n:Int)).toNat else min v.toNat n)<=n
  by_cases hv:v < 0
  ·rw[if_pos hv];omega
  ·rw[if_neg hv];exact Nat.min_le_right _ _
theorem Ea (v:Int) (n d:Nat):(if v < 0 then max (v+(n:Int)) 0 else min v (n:Int))=((iz n d (some v):Nat):Int):=by
 show(if v < 0 then max (v+(n:Int)) 0 else min v (n:Int))=(((if v < 0 then(v+(n:Int)).toNat else min v.toNat n):Nat):Int)
 by_cases hv:v < 0
 ·simp only[if_pos hv];omega
 ·simp only[if_neg hv];omega
theorem CP (lo hi:Option Int) (n:Nat):Builtin.Slice.sliceAdjust lo hi 1 (n:Int)=(((iz n 0 lo:Nat):Int),((iz n n hi:Nat):Int)):=by
 have h1:¬((1:Int) < 0):=by omega
 unfold Builtin.Slice.sliceAdjust
 simp only[h1,if_false]
 refine Prod.ext ?_ ?_
 ·cases lo with
  | none=>rfl
  | some v=>exact Ea v n 0
 ·cases hi with
  | none=>rfl
  | some v=>exact Ea v n n
theorem CQ (i j:Nat):Builtin.Slice.slicePlaces (i:Int) (j:Int) 1=j - i:=by
 unfold Builtin.Slice.slicePlaces
 have h1:(1:Int) > 0:=by omega
 simp only[h1,if_true,Int.ediv_one]
 split <;> omega
theorem vY {v:Value}{o:Option Int}{Q:Option Int->Shared->Prop}(p:IsPart v o) (h:Q o s):wpAny (model prog w) A (Builtin.Slice.slicePartIndex v) Q E s:=by
 cases p with
 | none=>exact slicePart_none h
 | int i t=>exact slicePart_int h
theorem mG {sl:Addr}{vl vu:Value}{lo hi:Option Int}{n:Nat}{Q:Int×Int×Nat->Shared->Prop}(hs:s.heap.IsSliceOf sl vl vu .none) (pl:IsPart vl lo) (pu:IsPart vu hi)
  (h:Q (((iz n 0 lo:Nat):Int),1,iz n n hi - iz n 0 lo) s):wpAny (model prog w) A (Builtin.Slice.sliceApplied (.ref sl) (pure (n:Int))) Q E s:=by
 obtain⟨os,hos,hcs,hds⟩:=id hs
 unfold Builtin.Slice.sliceApplied Builtin.Slice.sliceFields
 refine wpAny_bind (wpAny_bind (wpAny_field hos hds (x:=vl) rfl (wpAny_bind (wpAny_field hos hds (x:=vu) rfl (wpAny_bind (wpAny_field hos hds (x:=.none) rfl (wpAny_pure ?_)))))))
 refine wpAny_bind (slicePart_none ?_)
 show wpAny _ _ (if((1:Int) == 0)=true then _ else _) _ _ s
 rw[if_neg (by decide)]
 refine wpAny_bind (vY pl (wpAny_bind (vY pu (wpAny_bind (wpAny_pure ?_)))))
 show wpAny _ _ (match Builtin.Slice.sliceAdjust lo hi 1 (n:Int) with | (lo,hi)=>pure (lo,(1:Int),Builtin.Slice.slicePlaces lo hi 1)) _ _ s
 rw[CP lo hi n]
 show wpAny _ _ (pure (((iz n 0 lo:Nat):Int),(1:Int),Builtin.Slice.slicePlaces ((iz n 0 lo:Nat):Int) ((iz n n hi:Nat):Int) 1)) _ _ s
 rw[CQ]
 exact wpAny_pure h
theorem Ib (xs:Array Value) (i k:Nat):((List.range k).filterMap fun(m:Nat)=>xs[((i:Int)+(m:Int) * 1).toNat]?).toArray=((xs.toList.drop i).take k).toArray:=by
 have e:(fun(m:Nat)=>xs[((i:Int)+(m:Int) * 1).toNat]?)=fun m=>xs[i+m]?:=by
  funext m
  have:((i:Int)+(m:Int) * 1).toNat=i+m:=by omega
  rw[this]
 rw[e]
 have:=pick_run xs i k
 rw[List.filterMap_map] at this
 have e2:((fun x=>xs[x]?) ∘ fun x=>i+x)=fun m=>xs[i+m]?:=rfl
 rw[e2] at this
 rw[this]
theorem rq {t sl:Addr}{items:Array Value}{vl vu:Value}{lo hi:Option Int}{Q:Value->Shared->Prop}(ht:IsTup s.heap t items) (hs:s.heap.IsSliceOf sl vl vu .none) (pl:IsPart vl lo) (pu:IsPart vu hi)
  (hw:¬(iz items.size 0 lo=0/\iz items.size items.size hi=items.size))
  (h:Q (.ref s.heap.objs.size) {s with heap:=s.heap.push {cls:=.type "tuple",data:=.seq ((items.toList.drop (iz items.size 0 lo)).take (iz items.size items.size hi - iz items.size 0 lo)).toArray}})
  (hsz:items.size<=sizeLine):wpAny (model prog w) A (getItem (.ref t) (.ref sl)) Q E s:=by
 have Eb:sizeOk (.seq ((items.toList.drop (iz items.size 0 lo)).take (iz items.size items.size hi - iz items.size 0 lo)).toArray):=by
  show((items.toList.drop (iz items.size 0 lo)).take (iz items.size items.size hi - iz items.size 0 lo)).toArray.size<=sizeLine
  rw[List.size_toArray,List.length_take,List.length_drop,Array.length_toList]
  omega
 have hj:iz items.size items.size hi<=items.size:=PX _ _ (Nat.le_refl _) hi
 obtain⟨os,hos,hcs,hds⟩:=id hs
 have YS:s.TypeIs (.ref sl) "slice":=⟨os,hos,hcs⟩
 unfold getItem
 try with_reducible refine wpAny_holding ?_
 first | refine wpAny_bind (wpAny_pure ?_) | skip
 refine wpAny_bind (wpAny_sequenceKey ht.typeIs (by decide) ?_)
 refine wpAny_bind (wpAny_callSpecial?_slot (name:=Str.ofString "__getitem__") ht.typeIs PyProof.Rows.slot_tuple_getitem
  (wpAny_call_entry PyProof.Rows.slot_tuple_getitem ht.typeIs entry_tuple_getitem ?_ (args_tuple_getitem _ _)))
 show wpAny _ _ (Builtin.Tuple.tupleItemsOf (.ref t) >>= _) _ _ s
 refine wpAny_bind (tupleItemsOf_ ht ?_)
 refine wpAny_bind (wpAny_typeOf YS ?_)
 rw[if_pos (by decide)]
 refine wpAny_bind (mG hs pl pu ?_)
 have hno:¬((((iz items.size 0 lo:Nat):Int) == 0 && (1:Int) == 1 && (iz items.size items.size hi - iz items.size 0 lo) == items.size)=true):=by
  intro q
  rw[Bool.and_eq_true,Bool.and_eq_true] at q
  have q1:((iz items.size 0 lo:Nat):Int)=0:=eq_of_beq q.1.1
  have q2:iz items.size items.size hi - iz items.size 0 lo=items.size:=eq_of_beq q.2
  exact hw ⟨by omega,by omega⟩
 show wpAny _ _ (if(((iz items.size 0 lo:Nat):Int) == 0 && (1:Int) == 1 && (iz items.size items.size hi - iz items.size 0 lo) == items.size)=true then _ else _) _ _ s
 rw[if_neg hno,Ib]
 first
  | exact wpAny_bind (m:=Builtin.Tuple.tupleExact _) (wpAny_newObj_type (wpAny_pure ⟨_,rfl,wpAny_pure h⟩) Eb)
  | exact wpAny_bind (m:=Builtin.Tuple.tupleExact _) (wpAny_newObj_type (wpAny_bind (wpAny_pure (wpAny_pure ⟨_,rfl,wpAny_pure h⟩))) Eb)
  | exact wpAny_bind (wpAny_bind (m:=Builtin.Tuple.tupleExact _) (wpAny_newObj_type (wpAny_pure (wpAny_pure ⟨_,rfl,wpAny_pure h⟩)) Eb))
  | exact wpAny_bind (wpAny_bind (m:=Builtin.Tuple.tupleExact _) (wpAny_newObj_type (wpAny_pure ⟨_,rfl,wpAny_pure h⟩) Eb))
end
end HT
namespace L2
open PySem PySem.Spec PyProof.Rows
noncomputable abbrev TO:=St->Hp->(Option Int->Hp->Prop)->Prop
noncomputable def PO (X:Cx) (e:Option Expr) (t:TO):Prop:=
 ∀(pins:List (Addr×Obj)) (s:Shared) (σ:St) (H:Hp) (Q:Option Int->Hp->Prop),Inv X pins σ H s->t σ H Q->
  wpAny (model X.prog X.w) X.A (evalPart e X.env) (fun u s'=>∃o H',Inv X pins σ H' s'/\IsPart u o/\Q o H') X.xe s
noncomputable def Mb:TO:=fun _ H Q=>Q none H
noncomputable def Ux (t:TE):TO:=fun σ H Q=>t σ H fun x H1=>∃i,x= .int i/\Q (some i) H1
section
variable {X:Cx}{e:Expr}{te:TE}{lo hi:Option Expr}{tl th:TO}{pos p2:Pos}
theorem Mc:PO X none Mb:=by
 intro pins s σ H Q I h
 rw[evalPart_none]
 exact wpAny_pure ⟨none,H,I,.none,h⟩
theorem Me (h:PE X e te):PO X (some e) (Ux te):=by
 intro pins s σ H Q I hw
 rw[evalPart_some]
 refine fJ (h pins s σ H _ I hw) fun u s1 ⟨x,H1,I1,r1,q1⟩=>?_
 obtain⟨i,rfl,q⟩:=q1
 obtain⟨t,rfl⟩:=r1
 exact⟨some i,H1,I1,.int i t,q⟩
noncomputable def Uy (X:Cx) (r:V->Option Int->Option Int->Hp->VK->Prop):Prop:=
 ∀(pins:List (Addr×Obj)) (s:Shared) (σ:St) (H:Hp) (x:V) (v vl vu:Value) (lo hi:Option Int) (sl:Addr) (Q:VK),Inv X pins σ H s->RelV x v->s.heap.IsSliceOf sl vl vu .none->IsPart vl lo->IsPart vu hi->r x lo hi H Q->
  ∃T id,typeLookup (.type T) "__getitem__" =pure (some (.builtin id))/\s.TypeIs v T/\wpAny (model X.prog X.w) X.A (getItem v (.ref sl)) (EP X pins σ Q) X.xe s
noncomputable def tSl (r:V->Option Int->Option Int->Hp->VK->Prop) (te:TE) (tl th:TO):TE:=fun σ H Q=>te σ H fun x H1=>tl σ H1 fun l H2=>th σ H2 fun u H3=>r x l u H3 Q
theorem Bg {r:V->Option Int->Option Int->Hp->VK->Prop}(hr:Uy X r) (he:PE X e te) (hl:PO X lo tl) (hu:PO X hi th):PE X (.Subscript e (.Slice lo hi none p2) pos) (tSl r te tl th):=by
 intro pins s σ H Q I h
 refine Subscript_ (fJ (he pins s σ H _ I h) fun v s1 ⟨x,H1,I1,r1,q1⟩=>?_)
 refine wpAny_Slice (fJ (hl pins s1 σ H1 _ I1 q1) fun vl s2 ⟨l,H2,I2,pl,q2⟩=>fJ (hu pins s2 σ H2 _ I2 q2) fun vu s3 ⟨u,H3,I3,pu,q3⟩=>?_)
 rw[evalPart_none]
 refine wpAny_pure ?_
 have I4:Inv X pins σ H3 {s3 with heap:=s3.heap.push {cls:=.type "slice",data:=.fields #[vl,vu,.none]}}:=I3.kept (t':=s3.toks) fun b ob q=>Heap.get?_push_of_some _ q
 obtain⟨T,id,hT,ht,hg⟩:=hr pins {s3 with heap:=s3.heap.push {cls:=.type "slice",data:=.fields #[vl,vu,.none]}} σ H3 x v vl vu l u s3.heap.objs.size Q I4 r1 (Heap.IsSliceOf.new ..) pl pu q3
 show wpAny (model X.prog X.w) X.A (subscriptTail e (.Slice lo hi none p2) v (.ref s3.heap.objs.size)) (EP X pins σ Q) X.xe {s3 with heap:=s3.heap.push {cls:=.type "slice",data:=.fields #[vl,vu,.none]}}
 exact tail_any (ops:=[.ref s3.heap.objs.size,v]) ht hT hg (by with_unfolding_all rfl)
noncomputable def xZ (xs:List V) (lo hi:Option Int):List V:=(xs.drop (HT.iz xs.length 0 lo)).take (HT.iz xs.length xs.length hi - HT.iz xs.length 0 lo)
theorem uK (xs:List V) (lo hi:Option Int):(xZ xs lo hi).length<=xs.length:=by
 unfold xZ
 rw[List.length_take,List.length_drop]
 omega
noncomputable def YT (K:PySem.W.Frag):V->Option Int->Option Int->Hp->VK->Prop:=fun x lo hi H Q=>∃a xs,x= .ref a/\yP K H a xs/\
 ¬(HT.iz xs.length 0 lo=0/\HT.iz xs.length xs.length hi=xs.length)/\∀p,H p=none->Q (.ref p) (upd H p (.tup (xZ xs lo hi)))
theorem PY:Uy X (YT X.K):=by
 intro pins s σ H x v vl vu lo hi sl Q I rx hs pl pu h
 obtain⟨a,xs,rfl,hx,hw,q⟩:=h
 cases rx
 obtain⟨its,r,ht,hz⟩:=I.tuple hx
 have hlen:its.toArray.size=xs.length:=by rw[List.size_toArray];exact r.length.symm
 refine⟨"tuple",_,PyProof.Rows.slot_tuple_getitem.lookup,ht.typeIs,?_⟩
 refine HT.rq ht hs pl pu (by rw[hlen];exact hw) ?_ (by rw[hlen];exact hz)
 rw[hlen]
 refine⟨.ref s.heap.objs.size,_,I.laid (t':=s.toks) (o:=.tup (xZ xs lo hi)) (fun b ob q=>Heap.get?_push_of_some _ q) (Nat.le_refl _) ?_,rfl,q _ (I.hok.fresh (Nat.le_refl _))⟩
 exact⟨Nat.le_trans (uK xs lo hi) hz,_,(r.drop (HT.iz xs.length 0 lo)).take (HT.iz xs.length xs.length hi - HT.iz xs.length 0 lo),IsTup.new _ _⟩
noncomputable def Uz (K:PySem.W.Frag):R2:=fun x y H Q=>∃a b xs ys,x= .ref a/\y= .ref b/\yP K H a xs/\yP K H b ys/\xs≠[]/\xs.length+ys.length<=sizeLine/\
 (ys=[]->Q (.ref a) H)/\(ys≠[]->∀p,H p=none->Q (.ref p) (upd H p (.tup (xs++ys))))
theorem Vals.zS {xs:List V}{us:List Value}(r:Vals xs us):us=[]↔xs=[]:=by
 cases r with
 | nil=>simp
 | cons _ _=>simp
theorem Mf:xT X (binaryOp .Add) (Uz X.K):=by
 intro pins s σ H x y v u Q I rx ry h
 obtain⟨a,b,xs,ys,rfl,rfl,ha,hb,hx,hz,q1,q2⟩:=h
 cases rx
 cases ry
 obtain⟨its,r1,p1,_⟩:=I.tuple ha
 obtain⟨its2,r2,p2,_⟩:=I.tuple hb
 refine HT.Ma p1 p2 (fun z=>hx (r1.zS.mp z)) (fun z=>⟨.ref a,H,I,rfl,q1 (r2.zS.mp z)⟩) (fun z=>?_) (by rw[<-r1.length,<-r2.length];exact hz)
 refine⟨.ref s.heap.objs.size,_,I.laid (t':=s.toks) (o:=.tup (xs++ys)) (fun b ob q=>Heap.get?_push_of_some _ q) (Nat.le_refl _) ?_,rfl,q2 (fun w=>z (r2.zS.mpr w)) _ (I.hok.fresh (Nat.le_refl _))⟩
 exact⟨by rw[List.length_append];exact hz,_,r1.append r2,IsTup.new _ _⟩
end
noncomputable def CS (n:Nat) (i:Int):Option Nat:=if 0<=i then(if i < n then some i.toNat else none) else if -(n:Int)<=i then some (i+n).toNat else none
noncomputable def gj {α:Type}(xs:List α) (i:Int):Option α:=(CS xs.length i).bind fun j=>xs[j]?
theorem Ec {n:Nat}{i:Int}{j:Nat}(h:CS n i=some j):seqIndex? i n=some j/\j < n/\-(n:Int)<=i/\i < n:=by
 unfold CS at h
 by_cases h0:0<=i
 ·rw[if_pos h0] at h
  by_cases h1:i < n
  ·rw[if_pos h1] at h
   have e:i.toNat=j:=Option.some.inj h
   exact⟨by rw[seqIndex_of h0 h1,e],by omega,by omega,h1⟩
  ·rw[if_neg h1] at h;cases h
 ·rw[if_neg h0] at h
  by_cases h1:-(n:Int)<=i
  ·rw[if_pos h1] at h
   have e:(i+n).toNat=j:=Option.some.inj h
   exact⟨by rw[seqIndex_neg (by omega) h1,e],by omega,h1,by omega⟩
  ·rw[if_neg h1] at h;cases h
theorem zT {α:Type}{xs:List α}{i:Int}{v:α}(h:gj xs i=some v):∃j,seqIndex? i xs.length=some j/\xs[j]? =some v/\j < xs.length/\-(xs.length:Int)<=i/\i < xs.length:=by
 unfold gj at h
 cases e:CS xs.length i with
 | none=>rw[e] at h;cases h
 | some j=>
  rw[e] at h
  obtain⟨h1,h2,h3,h4⟩:=Ec e
  exact⟨j,h1,h,h2,h3,h4⟩
noncomputable def zU (b:Expr):Prop:=∀o i,subscripted b false o i=operate [o,i] (getItem o i)
noncomputable def Ic (X:Cx) (r:R2):Prop:=
 ∀(value slice:Expr) (pins:List (Addr×Obj)) (s:Shared) (σ:St) (H:Hp) (x y:V) (v u:Value) (Q:VK),Inv X pins σ H s->RelV x v->RelV y u->r x y H Q->
  subscripted slice false v u=operate [v,u] (getItem v u)->wpAny (model X.prog X.w) X.A (subscriptTail value slice v u) (EP X pins σ Q) X.xe s
noncomputable def W4 (X:Cx) (id:String) (r:V->List V->Hp->VK->Prop):Prop:=
 ∀(pins:List (Addr×Obj)) (s:Shared) (σ:St) (H:Hp) (x:V) (xs:List V) (v:Value) (us:List Value) (Q:VK),Inv X pins σ H s->RelV x v->Vals xs us->r x xs H Q->
  wpAny (model X.prog X.w) X.A (call (.builtin id) (v :: us)) (EP X pins σ Q) X.xe s
section
variable {X:Cx}{a b:Expr}{ta tb:TE}{pos:Pos}
theorem Ic.or {r r':R2}(h:Ic X r) (h':Ic X r'):Ic X (fun x y H Q=>r x y H Q\/r' x y H Q):=by
 intro value slice pins s σ H x y v u Q I rx ry q hs
 rcases q with q | q
 ·exact h value slice pins s σ H x y v u Q I rx ry q hs
 ·exact h' value slice pins s σ H x y v u Q I rx ry q hs
theorem Ie {r:R2}(hr:Ic X r) (ha:PE X a ta) (hb:PE X b tb) (hs:zU b):PE X (.Subscript a b pos) (Pp r ta tb):=by
 intro pins s σ H Q I h
 exact Subscript_ (Pq ha hb I h fun v u s2 x y H2 I2 rx ry q=>hr a b pins s2 σ H2 x y v u Q I2 rx ry q (hs _ _))
noncomputable def UA (K:PySem.W.Frag):R2:=fun x y H Q=>∃p xs i v,x= .ref p/\y= .int i/\m6 K H p xs/\gj xs i=some v/\Q v H
noncomputable def UB (K:PySem.W.Frag):R2:=fun x y H Q=>∃p xs i v,x= .ref p/\y= .int i/\yP K H p xs/\gj xs i=some v/\Q v H
noncomputable def UC:R2:=fun x y H Q=>∃z i c,x= .str z/\y= .int i/\z.length<=sizeLine/\gj z.cps.toList i=some c/\Q (.str ⟨#[c]⟩) H
theorem Ed:Ic X (UA X.K):=by
 intro value slice pins s σ H x y v u Q I rx ry h hs
 obtain⟨p,xs,i,z,rfl,rfl,hq,he,q⟩:=h
 cases rx
 obtain⟨t,rfl⟩:=ry
 obtain⟨its,r,pl,hz⟩:=I.list hq
 obtain⟨j,h1,h2,h3,h4,h5⟩:=zT he
 obtain⟨w,ew,rw'⟩:=r.get h2
 have hl:=r.length
 have hn:=tG
 have fin:EP X pins σ Q w s:=⟨z,H,I,rw',q⟩
 by_cases h0:0<=i
 ·have hj:i.toNat=j:=by
   rw[seqIndex_of h0 h5] at h1
   exact Option.some.inj h1
  exact item_listR pl.isList h0 (by omega) (by rw[hj];simpa using ew) fin hs
 ·have hj:(i+(its.toArray.size:Int)).toNat=j:=by
   rw[seqIndex_neg (by omega) h4] at h1
   rw[List.size_toArray,<-hl]
   exact Option.some.inj h1
  exact subscriptTail_builtinR (x:=w) pl.isList.typeIs slot_list_getitem.lookup
   (wpAny_getItem_list_neg (Q:=fun r s'=>r=w/\EP X pins σ Q r s') pl.isList (by omega) (by rw[List.size_toArray] <;> omega) (by omega) (by rw[hj];simpa using ew) ⟨rfl,fin⟩) hs
theorem Ig:Ic X (UB X.K):=by
 intro value slice pins s σ H x y v u Q I rx ry h hs
 obtain⟨p,xs,i,z,rfl,rfl,hq,he,q⟩:=h
 cases rx
 obtain⟨t,rfl⟩:=ry
 obtain⟨its,r,pl,hz⟩:=I.tuple hq
 obtain⟨j,h1,h2,h3,h4,h5⟩:=zT he
 obtain⟨w,ew,rw'⟩:=r.get h2
 have hl:=r.length
 have hn:=tG
 have fin:EP X pins σ Q w s:=⟨z,H,I,rw',q⟩
 exact subscriptTail_builtinR (x:=w) pl.typeIs slot_tuple_getitem.lookup
  (getItem_tuple (j:=j) (Q:=fun r s'=>r=w/\EP X pins σ Q r s') pl (by omega) (by omega) (by rw[List.size_toArray,<-hl];exact h1) (by simpa using ew) ⟨rfl,fin⟩) hs
theorem Ih:Ic X UC:=by
 intro value slice pins s σ H x y v u Q I rx ry h hs
 obtain⟨z,i,c,rfl,rfl,hz,he,q⟩:=h
 obtain⟨t,rfl⟩:=rx
 obtain⟨t',rfl⟩:=ry
 obtain⟨j,h1,h2,h3,h4,h5⟩:=zT he
 have hl:z.cps.toList.length=z.length:=by simp[Str.length]
 rw[hl] at h1 h4 h5
 have hn:=tG
 exact tail_any (typeIs_str s z t) slot_str_getitem.lookup (getItem_str (c:=c) (by
  have e1:decide (i < -(2 ^ 63:Int))=false:=decide_eq_false (by omega)
  have e2:decide (i≥2 ^ 63)=false:=decide_eq_false (by omega)
  rw[e1,e2,Bool.or_false]) (by rw[h1];simpa using h2) ⟨.str ⟨#[c]⟩,H,I.tok _,⟨_,rfl⟩,q⟩) hs
noncomputable def rIx (K:PySem.W.Frag):R2:=fun x y H Q=>UA K x y H Q\/UB K x y H Q\/UC x y H Q
theorem Ii:Ic X (rIx X.K):=Ed.or (Ig.or Ih)
theorem CT (its:List Value) (n j:Nat) (u:Value):Obj.mapSeq (·.setIfInBounds j u) {cls:=.type "list",data:=.seq its.toArray n}={cls:=.type "list",data:=.seq (its.set j u).toArray n}:=by
 simp[Obj.mapSeq]
theorem Inv.lst {pins:List (Addr×Obj)}{σ:St}{H:Hp}{s:Shared}{p:Addr}{xs:List V}(I:Inv X pins σ H s) (h:H p=some (.lst xs)):
  ∃(its:List Value) (n:Nat),Vals xs its/\s.heap.get? p=some {cls:=.type "list",data:=.seq its.toArray n}/\xs.length<=sizeLine:=by
 obtain⟨z,its,n,r,e⟩:=I.hok p _ h
 exact⟨its,n,r,e,z⟩
theorem Inv.PZ {pins:List (Addr×Obj)}{σ:St}{H:Hp}{s:Shared}{p:Addr}{xs ys:List V}{its its':List Value}{n n':Nat}{f:Obj->Obj}(I:Inv X pins σ H s) (h:H p=some (.lst xs))
  (ho:s.heap.get? p=some {cls:=.type "list",data:=.seq its.toArray n}) (hf:f {cls:=.type "list",data:=.seq its.toArray n}={cls:=.type "list",data:=.seq its'.toArray n'}) (r:Vals ys its') (hz:ys.length<=sizeLine) (t:Nat):
  Inv X pins σ (upd H p (.lst ys)) {s with heap:=s.heap.update p f,toks:=t}:=by
 have e:(s.heap.update p f).get? p=some {cls:=.type "list",data:=.seq its'.toArray n'}:=by
  rw[Heap.get?_update_self f ho (by rw[hf] <;> rfl),hf]
 refine I.write (x:=p) (e:=p) (by rw[h];trivial) (.inl rfl) (fun b u hb q=>(Heap.get?_update_other _ _ (Ne.symm hb)).trans q) ⟨_,e⟩ ?_
 exact⟨hz,its',n',r,e⟩
noncomputable def UD:V->V->V->Hp->(Hp->Prop)->Prop:=fun o i v H Q=>∃p xs k j,o= .ref p/\i= .int k/\H p=some (.lst xs)/\CS xs.length k=some j/\Q (upd H p (.lst (xs.set j v)))
theorem set_list:T9 X UD:=by
 intro pins s σ H o i v ov iv u Q I ro ri rv h
 obtain⟨p,xs,k,j,rfl,rfl,hp,hj,q⟩:=h
 cases ro
 obtain⟨t,rfl⟩:=ri
 obtain⟨its,n,r,ho,hz⟩:=I.lst hp
 obtain⟨h1,h2,h3,h4⟩:=Ec hj
 have hl:=r.length
 have hn:=tG
 have I':Inv X pins σ (upd H p (.lst (xs.set j v))) {s with heap:=s.heap.update p (Obj.mapSeq (·.setIfInBounds j u))}:=
  I.PZ hp ho (CT its n j u) (r.set rv j) (by rw[List.length_set];exact hz) s.toks
 by_cases h0:0<=k
 ·have hk:k.toNat=j:=by
   rw[seqIndex_of h0 h4] at h1
   exact Option.some.inj h1
  exact PySem.W.ki_setAt ho h0 (by omega) (by rw[List.size_toArray,<-hl];exact h4) (by rw[hk];exact⟨_,I',q⟩)
 ·have hk:(k+(its.toArray.size:Int)).toNat=j:=by
   rw[seqIndex_neg (by omega) h3] at h1
   rw[List.size_toArray,<-hl]
   exact Option.some.inj h1
  exact PySem.W.ki_setBack ho (by omega) (by rw[List.size_toArray,<-hl];exact h3) (by omega) (by rw[hk];exact⟨_,I',q⟩)
theorem zV (lo hi:Option Int) (n:Nat):(sliceBounds lo hi none n).1=((HT.iz n 0 lo:Nat):Int)/\(sliceBounds lo hi none n).2.1=((HT.iz n n hi:Nat):Int)/\(sliceBounds lo hi none n).2.2=1:=by
 refine⟨?_,?_,rfl⟩
 ·cases lo with
  | none=>simp[sliceBounds,HT.iz]
  | some i=>
   simp only[sliceBounds,HT.iz,Option.getD_none,show(1:Int) > 0 by decide,if_true]
   by_cases h:i < 0
   ·simp only[h,if_true] <;> omega
   ·simp only[h,if_false] <;> omega
 ·cases hi with
  | none=>simp[sliceBounds,HT.iz]
  | some i=>
   simp only[sliceBounds,HT.iz,Option.getD_none,show(1:Int) > 0 by decide,if_true]
   by_cases h:i < 0
   ·simp only[h,if_true] <;> omega
   ·simp only[h,if_false] <;> omega
theorem ya (its:List Value) (lo hi:Option Int):slicePick its.toArray lo hi none=((its.drop (HT.iz its.length 0 lo)).take (HT.iz its.length its.length hi - HT.iz its.length 0 lo)).toArray:=by
 obtain⟨h1,h2,h3⟩:=zV lo hi its.toArray.size
 unfold slicePick
 rw[h1,h2,h3]
 simp only[sliceRange_one,pick_run,List.size_toArray] <;> rfl
noncomputable def YU (K:PySem.W.Frag):V->Option Int->Option Int->Hp->VK->Prop:=fun x lo hi H Q=>∃a xs,x= .ref a/\m6 K H a xs/\∀p,H p=none->Q (.ref p) (upd H p (.lst (xZ xs lo hi)))
theorem Ef:Uy X (YU X.K):=by
 intro pins s σ H x v vl vu lo hi sl Q I rx hs pl pu h
 obtain⟨a,xs,rfl,hx,q⟩:=h
 cases rx
 obtain⟨its,r,ht,hz⟩:=I.list hx
 have hlen:=r.length
 refine⟨"list",_,slot_list_getitem.lookup,ht.isList.typeIs,?_⟩
 refine wpAny_getItem_list_slice ht.isList hs pl pu .none (by simp) ?_ (by rw[List.size_toArray] <;> omega)
 rw[ya,<-hlen]
 refine⟨.ref s.heap.objs.size,_,I.laid (t':=s.toks) (o:=.lst (xZ xs lo hi)) (fun b ob q=>Heap.get?_push_of_some _ q) (Nat.le_refl _) ?_,rfl,q _ (I.hok.fresh (Nat.le_refl _))⟩
 exact⟨Nat.le_trans (uK xs lo hi) hz,_,0,(r.drop (HT.iz xs.length 0 lo)).take (HT.iz xs.length xs.length hi - HT.iz xs.length 0 lo),Heap.get?_push_size _ rfl⟩
theorem m9:iY X (.builtin "len") (fun xs H Q=>∃p ys,xs=[.ref p]/\(m6 X.K H p ys\/yP X.K H p ys)/\Q (.int ys.length) H):=by
 intro pins s σ H xs us Q I r h
 obtain⟨p,ys,rfl,hq,q⟩:=h
 obtain⟨u,rfl,rx⟩:=vals1 r
 cases rx
 have hn:=tG
 rcases hq with hq | hq
 ·obtain⟨its,r',pl,hz⟩:=I.list hq
  have hlen:=r'.length
  exact Calls.call_len_list pl.isList (by simp only[List.size_toArray] <;> omega) ⟨.int ys.length,H,I.tok _,⟨s.toks+1,by rw[List.size_toArray,hlen]⟩,q⟩
 ·obtain⟨its,r',pl,hz⟩:=I.tuple hq
  have hlen:=r'.length
  exact len_tuple pl (by simp only[List.size_toArray] <;> omega) ⟨.int ys.length,H,I.tok _,⟨s.toks+1,by rw[List.size_toArray,hlen]⟩,q⟩
theorem rA:iY X (.builtin "len") (fun xs H Q=>∃z,xs=[.str z]/\z.length<=sizeLine/\Q (.int z.length) H):=by
 intro pins s σ H xs us Q I r h
 obtain⟨z,rfl,hz,q⟩:=h
 obtain⟨u,rfl,t,rfl⟩:=vals1 r
 have hn:=tG
 exact len_str (by omega) ⟨.int z.length,H,I.tok _,⟨_,rfl⟩,q⟩
theorem rB:iY X (.type "list") (fun xs H Q=>∃p ys,xs=[.ref p]/\(m6 X.K H p ys\/yP X.K H p ys)/\∀l,H l=none->Q (.ref l) (upd H l (.lst ys))):=by
 intro pins s σ H xs us Q I r h
 obtain⟨p,ys,rfl,hq,q⟩:=h
 obtain⟨u,rfl,rx⟩:=vals1 r
 cases rx
 have fin:∀(its:List Value),Vals ys its->ys.length<=sizeLine->∀(h':Heap) (c':Nat),(∀b o',s.heap.get? b=some o'->h'.get? b=some o')->
   h'.get? s.heap.objs.size=some {cls:=.type "list",dict:=none,data:=.seq its.toArray c',slots:=#[]}->EP X pins σ Q (.ref s.heap.objs.size) {s with heap:=h'}:=fun its r' hz h' c' kp e=>
  ⟨.ref s.heap.objs.size,_,I.laid (t':=s.toks) kp (Nat.le_refl _) (show eL X.prog X.w _ h' _ (.lst ys) from⟨hz,its,c',r',e⟩),rfl,q _ (I.hok.fresh (Nat.le_refl _))⟩
 rcases hq with hq | hq
 ·obtain⟨its,r',pl,hz⟩:=I.list hq
  have hlen:=r'.length
  obtain⟨o,ho,hc,n,hd⟩:=pl.isList
  exact call_list_seq p (.inl rfl) ho hc hd (fun h' c' kp e=>fin its r' hz h' c' kp e) (by simp only[List.size_toArray] <;> omega)
 ·obtain⟨its,r',pl,hz⟩:=I.tuple hq
  have hlen:=r'.length
  obtain⟨o,ho,hc,n,hd⟩:=pl
  exact call_list_seq p (.inr rfl) ho hc hd (fun h' c' kp e=>fin its r' hz h' c' kp e) (by simp only[List.size_toArray] <;> omega)
theorem qk:iY X (.type "tuple") (fun xs H Q=>∃p ys,xs=[.ref p]/\((m6 X.K H p ys/\∀l,H l=none->Q (.ref l) (upd H l (.tup ys)))\/(yP X.K H p ys/\Q (.ref p) H))):=by
 intro pins s σ H xs us Q I r h
 obtain⟨p,ys,rfl,h⟩:=h
 obtain⟨u,rfl,rx⟩:=vals1 r
 cases rx
 rcases h with⟨hq,q⟩ | ⟨hq,q⟩
 ·obtain⟨its,r',pl,hz⟩:=I.list hq
  have hlen:=r'.length
  refine call_tuple_list pl.isList (fun h' kp=>?_) (by simp only[List.size_toArray] <;> omega)
  have I1:Inv X pins σ H {s with heap:=h'}:=I.kept (t':=s.toks) kp
  have I2:Inv X pins σ (upd H h'.objs.size (.tup ys)) {s with heap:=h'.push {cls:=.type "tuple",data:=.seq its.toArray}}:=
   I1.laid (t':=s.toks) (fun b o e=>Heap.get?_push_of_some _ e) (Nat.le_refl _) (show eL X.prog X.w _ _ _ (.tup ys) from⟨hz,its,r',IsTup.new _ _⟩)
  exact⟨.ref h'.objs.size,_,I2,rfl,q _ (I1.hok.fresh (Nat.le_refl _))⟩
 ·obtain⟨its,r',pl,hz⟩:=I.tuple hq
  exact call_tuple_same pl ⟨.ref p,H,I,rfl,q⟩
noncomputable def YV (K:PySem.W.Frag) (T:String) (x:V) (H:Hp):Prop:=match x with
 | .str _=>T="str"
 | .int _=>T="int"
 | .ref p=>(T="list"/\∃xs,m6 K H p xs)\/(T="tuple"/\∃o,K.lookup p=some o/\o.cls= .type "tuple"/\o.dict=none)\/
   (T="dict"/\((∃kvs,H p=some (.dK kvs))\/∃kvs,H p=some (.dT kvs)))\/(T="set"/\∃S n,H p=some (.set S n))
 | _=>False
theorem Ij {pins : List (Addr × Obj)} {σ : St} {H : Hp} {s : Shared} {T : String} {x : V} {v : Value} (I : Inv X pins σ H s) (r : RelV x v) (ty : YV X.K T x H) :
    s.TypeIs v T/\∀a,v= .ref a->∃ob,s.heap.get? a=some ob/\ob.dict=none:=by
  cases x with
  | str z=>
    obtain⟨t,rfl⟩:=r
    cases(show T="str" from ty)
    exact⟨typeIs_str s z t,fun _ e=>nomatch e⟩
  | int i=>
    obtain⟨t,rfl⟩:=r
    cases(show T="int" from ty)
    exact⟨typeIs_int s i t,fun _ e=>nomatch e⟩
  | ref p =>
    cases r
    rcases ty with⟨rfl,xs,hq⟩ | ⟨rfl,o,hk,hc,hd⟩ | ⟨rfl,hk⟩ | ⟨rfl,S,n,hk⟩
    . obtain⟨its,_,pl,_⟩:=I.list hq
      refine⟨pl.isList.typeIs,fun a e=>?_⟩
      cases e
      obtain⟨o,n,e,c,hd,_⟩:=pl
      exact⟨o,e,hd⟩
    . refine⟨⟨o,I.CK p o hk,hc⟩,fun a e=>?_⟩
      cases e
      exact⟨o,I.CK _ o hk,hd⟩
    . have z:∃o,s.heap.get? p=some o/\o.ExactDict:=by
        rcases hk with⟨kvs,hk⟩ | ⟨kvs,hk⟩
        . obtain⟨_,_,_,_,o,_,_,e,ex,_⟩:=I.hok p _ hk
          exact⟨o,e,ex⟩
        . obtain⟨_,_,_,_,o,_,_,e,ex,_⟩:=I.hok p _ hk
          exact⟨o,e,ex⟩
      obtain⟨o,e,ex⟩:=z
      refine⟨⟨o,e,ex.1⟩,fun a e2=>?_⟩
      cases e2
      exact⟨o,e,ex.2.1⟩
    . obtain⟨o,_,_,_,e,ex,_⟩:=I.hok p _ hk
      refine⟨⟨o,e,ex.1⟩,fun a e2=>?_⟩
      cases e2
      exact⟨o,e,ex.2.1⟩
  | _=>exact False.elim ty
noncomputable def YW (K:PySem.W.Frag) (T:String) (r:V->List V->Hp->VK->Prop) (to:TE):TE:=fun σ H Q=>to σ H fun x H1=>YV K T x H1/\r x [] H1 Q
noncomputable def tBM (K:PySem.W.Frag) (T:String) (r:V->List V->Hp->VK->Prop) (to:TE) (t:TA):TE:=fun σ H Q=>to σ H fun x H1=>YV K T x H1/\t σ H1 fun xs H2=>r x xs H2 Q
variable {o e:Expr}{es:List Expr}{to:TE}{t:TA}{name:Str}{apos cpos:Pos}{T id:String}{r:V->List V->Hp->VK->Prop}
theorem P0 (pa:PlainAttrs T) (slot:Slot T name id) (hty:typeOf (.builtin id)=pure (.type "method_descriptor")) (hm:W4 X id r) (ho:PE X o to)
  (hbase:attributeBase o name X.env (eval o X.env)=eval o X.env:=by rfl) (hline:(apos.endLine == cpos.line)=true:=by rfl):PE X (.Call (.Attribute o name apos) [] [] cpos) (YW X.K T r to):=by
 intro pins s σ H Q I h
 refine wpAny_Call_method0_late hbase hline (fJ (ho pins s σ H _ I h) fun v s1 ⟨x,H1,I1,r1,ty,q1⟩=>?_)
 obtain⟨h1,h2⟩:=Ij I1 r1 ty
 exact⟨T,id,pa,slot,hty,h1,h2,Calls.callWith_builtin rfl (PySem.evalArgs_none (hm pins s1 σ H1 x [] v [] Q I1 r1 .nil q1))⟩
theorem UE (pa:PlainAttrs T) (slot:Slot T name id) (hty:typeOf (.builtin id)=pure (.type "method_descriptor")) (hm:W4 X id r) (ho:PE X o to) (ha:PA X (e :: es) t)
  (hbase:attributeBase o name X.env (eval o X.env)=eval o X.env:=by rfl)
  (hfew:((backTo cpos (starEach (e :: es) X.env)).all (fun x=>!x.1) && (backToKw cpos (keywordEach [] X.env)).all (fun x=>x.1.isSome)
   && decide ((e :: es).length+([]:List Keyword).length+(if([]:List Keyword).isEmpty then 0 else 1) < 30))=true:=by rfl)
  (hline:(apos.endLine == cpos.line)=true:=by rfl) (hs:starEach (e :: es) X.env=(false,eval e X.env) :: starEach es X.env:=by rfl) (hplain:(backTo cpos (starEach es X.env)).any (·.1)=false:=by rfl):
  PE X (.Call (.Attribute o name apos) (e :: es) [] cpos) (tBM X.K T r to t):=by
 intro pins s σ H Q I h
 refine wpAny_Call_method_late hbase hfew hline rfl (fJ (ho pins s σ H _ I h) fun v s1 ⟨x,H1,I1,r1,ty,q1⟩=>?_)
 obtain⟨h1,h2⟩:=Ij I1 r1 ty
 refine⟨T,id,pa,slot,hty,h1,h2,?_⟩
 have hA:=ha cpos pins s1 σ H1 _ I1 q1
 rw[hs] at hA ⊢
 refine Calls.callWith_builtin (by show(false || (backTo cpos (starEach es X.env)).any (·.1))=false;rw[hplain] <;> rfl) (Calls.evalArgs_plain ?_)
 exact fJ hA fun us s2 ⟨vs,H2,I2,r2,q2⟩=>hm pins s2 σ H2 x vs v us Q I2 r1 r2 q2
end
noncomputable def W5 (X:Cx) (id:String) (r:V->List V->Hp->VK->Prop):Prop:=
 ∀(pins:List (Addr×Obj)) (s:Shared) (σ:St) (H:Hp) (x:V) (xs:List V) (v:Value) (us:List Value) (Q:VK),Inv X pins σ H s->RelV x v->Vals xs us->r x xs H Q->
  wpAny (model X.prog X.w) X.A (call (.builtin id) (v :: us)) (EP X pins σ Q) X.xe s
theorem Vals.one:∀{x:V}{us:List Value},Vals [x] us->∃u,us=[u]/\RelV x u
 | _,_,.cons r .nil=>⟨_,rfl,r⟩
theorem Vals.two:∀{x y:V}{us:List Value},Vals [x,y] us->∃u v,us=[u,v]/\RelV x u/\RelV y v
 | _,_,_,.cons r (.cons q .nil)=>⟨_,_,rfl,r,q⟩
theorem Vals.zero:∀{us:List Value},Vals [] us->us=[]
 | _,.nil=>rfl
theorem Vals.dropLast {xs:List V}{us:List Value}(h:Vals xs us):Vals xs.dropLast us.dropLast:=by
 induction h with
 | nil=>exact .nil
 | cons r t ih=>
  cases t with
  | nil=>exact .nil
  | cons q t'=>exact .cons r ih
theorem Vals.eraseIdx:∀{xs:List V}{us:List Value}(i:Nat),Vals xs us->Vals (xs.eraseIdx i) (us.eraseIdx i)
 | _,_,_,.nil=>.nil
 | _,_,0,.cons _ t=>t
 | _,_,i+1,.cons r t=>.cons r (Vals.eraseIdx i t)
theorem Vals.reverse {xs:List V}{us:List Value}(h:Vals xs us):Vals xs.reverse us.reverse:=by
 induction h with
 | nil=>exact .nil
 | cons r t ih=>rw[List.reverse_cons,List.reverse_cons];exact Vals.append ih (.cons r .nil)
theorem Vals.rep {xs:List V}{us:List Value}(h:Vals xs us):∀k:Nat,Vals (List.replicate k xs).flatten (List.replicate k us).flatten
 | 0=>.nil
 | k+1=>by
  rw[List.replicate_succ,List.replicate_succ,List.flatten_cons,List.flatten_cons]
  exact Vals.append h (Vals.rep h k)
theorem CU {α : Type} (l : List α) : l.eraseIdx (l.length - 1) = l.dropLast := by
  induction l with
  | nil=>rfl
  | cons a r ih=>
    cases r with
    | nil=>rfl
    | cons b r=>
      have e:(a :: b :: r).length - 1=((b :: r).length - 1)+1:=by
        have h1:(a :: b :: r).length=r.length+2:=rfl
        have h2:(b :: r).length=r.length+1:=rfl
        omega
      rw[e,List.eraseIdx_cons_succ,ih]
      all_goals rfl
theorem yZ {α:Type}:∀(l:List α) (i:Nat),(l.eraseIdx i).length<=l.length
 | [],_=>Nat.le_refl _
 | _ :: _,0=>Nat.le_succ _
 | _ :: r,i+1=>Nat.succ_le_succ (yZ r i)
theorem foldl_rep (its:List Value):∀(k:Nat) (acc:List Value),
    List.foldl (fun x1 x2=>x1++x2) acc.toArray (List.replicate k its.toArray)=(acc++(List.replicate k its).flatten).toArray
  | 0,acc=>by simp
  | k + 1, acc => by
    have e:acc.toArray++its.toArray=(acc++its).toArray:=by simp
    have e2:(acc++its)++(List.replicate k its).flatten=acc++(List.replicate (k+1) its).flatten:=by
      rw[List.replicate_succ,List.flatten_cons,List.append_assoc]
    rw[<-e2,<-foldl_rep its k (acc++its),<-e,List.replicate_succ,List.foldl_cons]
section
variable {X:Cx}{pins:List (Addr×Obj)}{σ:St}{H:Hp}{s:Shared}{l b:Addr}{xs ys zs:List V}
theorem Inv.Mg {its its':List Value}{n:Nat}{f:Array Value->Array Value}{t':Nat}(I:Inv X pins σ H s) (hH:H l=some (.lst xs))
  (e:s.heap.get? l=some {cls:=.type "list",data:=.seq its.toArray n}) (hf:f its.toArray=its'.toArray) (hv:Vals ys its') (hz:ys.length<=sizeLine):
  Inv X pins σ (upd H l (.lst ys)) {s with heap:=s.heap.update l (Obj.mapSeq f),toks:=t'}:=by
 have q:=PySem.IsL.update e f
 rw[hf] at q
 refine I.write (x:=l) (e:=l) (by rw[hH];exact trivial) (.inl rfl) (fun b' u hb hu=>(Heap.get?_update_other s.heap (Obj.mapSeq f) (Ne.symm hb)).trans hu) ⟨_,q⟩ ?_
 exact⟨hz,its',_,hv,q⟩
theorem Inv.UG {its:List Value}{t':Nat}(I:Inv X pins σ H s) (hv:Vals ys its) (hz:ys.length<=sizeLine):
  Inv X pins σ (upd H s.heap.objs.size (.lst ys)) {s with heap:=s.heap.push {cls:=.type "list",data:=.seq its.toArray},toks:=t'}:=
 I.laid (fun _ _ q=>Heap.get?_push_of_some _ q) (Nat.le_refl _) ⟨hz,its,0,hv,Heap.get?_push_size _ rfl⟩
theorem Inv.fresh (I:Inv X pins σ H s):H s.heap.objs.size=none:=I.hok.fresh (Nat.le_refl _)
theorem Inv.Bh (I:Inv X pins σ H s) (hH:H l=some (.lst xs)):xs.length<=sizeLine/\∃(its:List Value) (n:Nat),Vals xs its/\xs.length=its.length/\s.heap.get? l=some {cls:=.type "list",data:=.seq its.toArray n}:=by
 obtain⟨z,its,n,r,e⟩:=I.hok l _ hH
 exact⟨z,its,n,r,r.length,e⟩
theorem Ik {n:Nat}(h:n<=sizeLine):Builtin.List.listTooLong n=false:=by
 unfold Builtin.List.listTooLong
 exact decide_eq_false (by omega)
end
section
variable {X:Cx}
noncomputable def Eg:V->List V->Hp->VK->Prop:=fun x vs H Q=>∃l xs y,x= .ref l/\vs=[y]/\H l=some (.lst xs)/\xs.length < sizeLine/\Q .dW (upd H l (.lst (xs++[y])))
theorem pM:W5 X "list.append" Eg:=by
 intro pins s σ H x vs v us Q I rx rv h
 obtain⟨l,xs,y,rfl,rfl,hH,hz,q⟩:=h
 cases rx
 obtain⟨u,rfl,ru⟩:=rv.one
 obtain⟨z,its,n,r,hl,e⟩:=I.Bh hH
 refine call_meets F.slot_list_append ⟨_,e,rfl⟩ F.entry_list_append (F.args_list_append_2 _ _) (PySem.list_append l its.toArray n u (by rw[List.size_toArray];omega)) ⟨e,?_⟩
 refine⟨.dW,_,I.Mg (its':=its++[u]) hH e (by simp) (r.append (.cons ru .nil)) ?_,rfl,q⟩
 rw[List.length_append,List.length_singleton]
 omega
noncomputable def YX:V->List V->Hp->VK->Prop:=fun x vs H Q=>∃l xs y,x= .ref l/\vs=[]/\H l=some (.lst xs)/\xs[xs.length - 1]? =some y/\Q y (upd H l (.lst xs.dropLast))
theorem YY:W5 X "list.pop" YX:=by
 intro pins s σ H x vs v us Q I rx rv h
 obtain⟨l,xs,y,rfl,rfl,hH,hy,q⟩:=h
 cases rx
 have YZ:=rv.zero
 subst YZ
 obtain⟨z,its,n,r,hl,e⟩:=I.Bh hH
 obtain⟨u,hu,ru⟩:=r.get hy
 have hy':its.toArray[its.toArray.size - 1]? =some u:=by
  show its.toArray[its.length - 1]? =some u
  rw[<-Array.getElem?_toList,<-hl]
  exact hu
 refine call_meets F.slot_list_pop ⟨_,e,rfl⟩ F.entry_list_pop (F.args_list_pop_1 _) (MeetsSeq.list_pop_last l its.toArray n u hy' (by rw[List.size_toArray];omega)) ⟨e,?_⟩
 refine⟨y,_,I.Mg (its':=its.dropLast) hH e ?_ r.dropLast ?_,ru,q⟩
 ·show its.toArray.eraseIdxIfInBounds (its.toArray.size - 1)=its.dropLast.toArray
  rw[List.size_toArray,List.eraseIdxIfInBounds_toArray,CU]
 ·rw[List.length_dropLast]
  omega
noncomputable def Il:V->List V->Hp->VK->Prop:=fun x vs H Q=>∃l xs i k y,x= .ref l/\vs=[.int i]/\H l=some (.lst xs)/\-(2 ^ 63)<=i/\i < 2 ^ 63/\seqIndex? i xs.length=some k/\xs[k]? =some y/\Q y (upd H l (.lst (xs.eraseIdx k)))
theorem Im:W5 X "list.pop" Il:=by
 intro pins s σ H x vs v us Q I rx rv h
 obtain⟨l,xs,i,k,y,rfl,rfl,hH,h1,h2,hk,hy,q⟩:=h
 cases rx
 obtain⟨u,rfl,ru⟩:=rv.one
 obtain⟨t,rfl⟩:=ru
 obtain⟨z,its,n,r,hl,e⟩:=I.Bh hH
 obtain⟨w,hw,rw'⟩:=r.get hy
 refine call_meets F.slot_list_pop ⟨_,e,rfl⟩ F.entry_list_pop (F.args_list_pop_2 _ _)
  (MeetsSeq.list_pop_at l its.toArray n i t k w (fitsIndex_both h1 h2) (by rw[List.size_toArray,<-hl];exact hk) (by rw[<-Array.getElem?_toList];exact hw) (by rw[List.size_toArray];omega)) ⟨e,?_⟩
 refine⟨y,_,I.Mg (its':=its.eraseIdx k) hH e ?_ (r.eraseIdx k) ?_,rw',q⟩
 ·show its.toArray.eraseIdxIfInBounds k=(its.eraseIdx k).toArray
  rw[List.eraseIdxIfInBounds_toArray]
 ·have:=yZ xs k
  omega
noncomputable def Bj:V->List V->Hp->VK->Prop:=fun x vs H Q=>∃l xs,x= .ref l/\vs=[]/\H l=some (.lst xs)/\Q .dW (upd H l (.lst xs.reverse))
theorem CV:W5 X "list.reverse" Bj:=by
 intro pins s σ H x vs v us Q I rx rv h
 obtain⟨l,xs,rfl,rfl,hH,q⟩:=h
 cases rx
 have YZ:=rv.zero
 subst YZ
 obtain⟨z,its,n,r,hl,e⟩:=I.Bh hH
 refine call_meets F.slot_list_reverse ⟨_,e,rfl⟩ F.entry_list_reverse (F.args_list_reverse_1 _) (AutoSeq1.list_reverse_list_0 l its.toArray n (by rw[List.size_toArray];omega)) ⟨e,?_⟩
 refine⟨.dW,_,I.Mg (its':=its.reverse) hH e (by simp) r.reverse ?_,rfl,q⟩
 rw[List.length_reverse]
 omega
theorem len_rep {α:Type}(xs:List α) (k:Nat):(List.replicate k xs).flatten.length=k * xs.length:=by
 induction k with
 | zero=>simp
 | succ k ih=>rw[List.replicate_succ,List.flatten_cons,List.length_append,ih,Nat.succ_mul,Nat.add_comm]
end
section
variable {prog:Program}{w:World}{A:Around}{E:Value->Shared->Prop}{s:Shared}
end
section
variable {X:Cx}
end
end L2
namespace Att
open PySem PySem.W PySem.Calls PyProof.Rows
theorem vc {P:Params}{h:Heap}:∀(ns:List Int) (vs:List Value),WellAll P h vs (ns.map WData.int)->IntsAre vs ns:=by
 intro ns
 induction ns with
 | nil=>
  intro vs w
  rw[List.map_nil] at w
  cases w
  exact .nil
 | cons n ns ih=>
  intro vs w
  rw[List.map_cons] at w
  cases w with
  | cons a b=>
   cases a
   exact .cons _ _ (ih _ b)
theorem Fv {l:OpenLaw}{n:Nat}(hn:l.most=some n){P:Params}{h:Heap}{args:List WData}{vals:List Value}
  (hpre:l.row.toRowW.claim.pre args=true) (hwl:WellAll P h vals args):
  ∃a vs ns,vals=[Value.ref a]/\args=[WData.list (ns.map WData.int)]/\h.get? a=some {cls:=.type "list",data:=.seq vs.toArray}/\IntsAre vs ns/\ns.length<=n:=by
 have hsh:WShape.hasAll [] args [.list .int]=true:=(pre_splitW hpre).1
 have hc:l.pre.holds [] {args:=args}=true:=(pre_splitW hpre).2
 obtain⟨d,r,rfl,h1,h2⟩:=hasAllW_cons hsh
 obtain rfl:=hasAllW_nil h2
 obtain⟨xs,rfl,h3⟩:=hasW_list h1
 obtain⟨ns,rfl⟩:=items_int h3
 have hlen:ns.length<=n:=by
  unfold OpenLaw.pre at hc
  have h4:(WTm.not (.lt (.lit (.int (n:Int))) (.len (.arg 0)))).holds [] {args:=[.list (ns.map .int)]}=true:=by
   have h4:=(holds_andW hc).1
   rw[hn] at h4
   exact h4
  have h5:=condW_of h4 (w_not (w_lt w_lit (w_len_list (w_arg rfl))))
  rw[List.length_map] at h5
  refine Nat.le_of_not_lt fun q=>?_
  have q':(n:Int) < ((ns.length:Nat):Int):=by omega
  first
   | (rw[decide_eq_true q'] at h5;exact absurd h5 (by decide))
   | (simp at h5;omega)
 cases hwl with
 | cons w1 w2=>
  cases w2
  cases w1 with
  | list ho hall=>exact⟨_,_,ns,rfl,rfl,ho,vc ns _ hall,hlen⟩
theorem Fw (l:OpenLaw) (args:List WData):l.row.toRowW.claim.post args (.bool true) args=true:=
 postW_of (r:=l.row.toRowW) (X:=(true == true))
  (show WShape.has [] (.bool true) .bool=true by first | rfl | decide | simp[WShape.has,WShape.arms,WShape.armsAll])
  (show(WTm.eq .res (.lit (.bool true))).value [] {args:=args,res:=some (.bool true),after:=args}=some (.bool (true == true)) from w_eq_bool (w_res rfl) w_lit) rfl
theorem Bk {l:OpenLaw}{n:Nat}{q:Program}{loose:List Str}{XP:(Str->Option Value)->Heap->Prop}{YP:World->Heap->Prop}{d:DefRec}
  (hn:l.most=some n) (hdf:d.params.defaults=[])
  (call:∀(w:World) (s₀ s₁:Shared) (mg mb:Str->Option Value) (fa:Addr) (o:Obj) (pm cd doc:Value) (a:Addr) (vs:List Value) (ns:List Int),
   Ground q loose [] XP w s₀ mg mb s₁.heap->YP w s₁.heap->
   s₁.heap.get? fa=some o->o.data= .func (docDef d.name d.params d.body d.scope pm cd doc)->s₁.heap.CodeRec cd d.name->mg d.name=some (.ref fa)->
   s₁.heap.get? a=some {cls:=.type "list",data:=.seq vs.toArray}->IntsAre vs ns->ns.length<=n->s₁.gens=#[]->
   codeAny (model l.prog w) callerA (.call (.ref fa) ⟨[.ref a],[]⟩) (fun r s'=>r= .ok (.ret (.bool true))/\OldK s₁.heap s'.heap/\s'.os=s₁.os/\AllBare s'.gens) s₁):
  WalkO q loose XP YP l.row.toRowW d [] (fun f vs=>PySem.call f vs):=by
 intro w s₀ s₁ mg mb G Y fa o pm cd doc dV kV ho hd hcd hD hmg hg args vals as hpre hlay hrd hwl hlo
 obtain rfl:dV= .none:=Dflts.none hD hdf
 obtain rfl:kV= .none:=Dflts.noKw hD
 obtain⟨a,vs,ns,rfl,rfl,hobj,hints,hlen⟩:=Fv hn hpre hwl
 refine enter_call (codeAny_mono (call w s₀ s₁ mg mb fa o pm cd doc a vs ns G Y ho (fd_plain hd) hcd hmg hobj hints hlen hg) fun r s' hq=>?_)
 obtain⟨rfl,h2,h3,h4⟩:=hq
 exact⟨.inl ⟨.bool true,.bool true,[],rfl,fun _=>rfl,.bool true,Fw l _,fun _=>⟨List.Pairwise.nil,fun _ hm=>(nomatch hm)⟩⟩,h2,h3,h4⟩
section
variable {prog:Program}{w:World}{A:Around}{E:Value->Shared->Prop}{s:Shared}{K:Frag}
end
end Att
namespace L2
open PySem PySem.Spec PyProof.Rows
theorem za:∀{vs:List Value}{ns:List Int},IntsAre vs ns->Vals (ns.map V.int) vs
 | _,_,.nil=>.nil
 | _,_,.cons n t h=>.cons ⟨t,rfl⟩ (za h)
noncomputable def Mh (H:Hp):Prop:=∀b,H b=none\/∃o xs,H b=some (.lP o (.lst xs))
theorem Io {P : Program} {w : World} {K : PySem.W.Frag} {mg mb : Str -> Option Value} {CX : Ho} {k : Nat} {fa a : Addr} {fd : FuncData} {x : Str} {sp : Sp} {s₁ : Shared} {vs : List Value} {ns : List Int}
    (KX:K.In s₁.heap) (hns:s₁.heap.Ns mainGlobals mg) (hb:s₁.heap.Ns builtinsNs mb) (hbb:∀x:Str,x≠"__name__"->mb x=bootBuiltins x) (hlim:s₁.heap.NoLimit) (hg:s₁.gens=#[])
    (ha:s₁.heap.get? a=some {cls:=.type "list",data:=.seq vs.toArray}) (hi:IntsAre vs ns) (hl:ns.length<=sizeLine) (hr:lT k callerA)
    (F:∀base:Heap,K.In base->base.Ns mainGlobals mg->cy P w K mg base CX k fa fd [x] sp) (hbind:∀(s:Shared) (u:Value),BindsTo s fd ⟨[u],[]⟩ [(x,u)])
    (OB:∀H:Hp,Mh H->m6 K H a (ns.map V.int)->sp [.ref a] H (fun v _=>v= .bl true) fun _ _ _=>False)
    (Y0:∀H e s',CX [] H s₁ (fun _ _ _=>False) e s'->False):
    codeAny (model P w) callerA (.call (.ref fa) ⟨[.ref a],[]⟩) (fun r s'=>r= .ok (.ret (.bool true))/\OldK s₁.heap s'.heap/\s'.os=s₁.os/\AllBare s'.gens) s₁:=by
  have rv:=za hi
  have lenV:=hi.length
  have core : ∀ H : Hp, Mh H -> m6 K H a (ns.map V.int) -> nO P w H s₁.heap -> (∀ b, H b ≠ none -> b = a) -> (H a ≠ none -> K.lookup a = none) ->
      codeAny (model P w) callerA (.call (.ref fa) ⟨[.ref a],[]⟩) (fun r s'=>r= .ok (.ret (.bool true))/\OldK s₁.heap s'.heap/\s'.os=s₁.os/\AllBare s'.gens) s₁:=by
    intro H hO hS hok hA hK
    have Eh:∀{b:Addr}{o:Obj},s₁.heap.get? b=some o->H b=none->(zM s₁.heap H).get? b=some o:=fun e n=>HA e n
    have Up:∀{b:Addr}{o:Obj}{es:Array DictEntry}{ep:Nat},s₁.heap.get? b=some o->o.data= .dict es ep->H b=none:=fun {b o es ep} e d=>by
      cases q:H b with
      | none=>rfl
      | some u=>
        have e':b=a:=hA b (by rw[q];simp)
        subst e'
        rw[ha] at e;cases e
        have d':Data.seq vs.toArray _=Data.dict es ep:=d
        cases d'
    have W6:∀{b:Addr}{m:Str->Option Value},s₁.heap.Ns b m->(zM s₁.heap H).Ns b m:=fun {b m} ⟨o,es,ep,e,d,r⟩=>⟨o,es,ep,Eh e (Up e d),d,r⟩
    have hKb:K.In (zM s₁.heap H):=fun b o e=>Eh (KX b o e) (by
      cases q:H b with
      | none=>rfl
      | some u=>
        have e':b=a:=hA b (by rw[q];simp)
        subst e'
        rw[hK (by rw[q];simp)] at e;cases e)
    have hM:Mod K mg (zM s₁.heap H):=⟨hKb,W6 hns,⟨mb,W6 hb,hbb⟩,let⟨mc,h1,h2⟩:=hlim;⟨mc,W6 h1,h2⟩⟩
    have e0:LY P w K mg (zM s₁.heap H) callerA [] s₁ H:=⟨rfl,hM,fun b o e=>LN e,Nat.le_of_eq (Fc _ _),trivial,fun b hb=>absurd (show b∈([]:List Addr) from hb) (by simp),hok,.of_eq hg⟩
    refine codeAny_mono ((F _ hKb (W6 hns)).run callerA [] s₁ H ⟨[.ref a],[]⟩ [.ref a] [.ref a] _ _ hr e0 (hbind s₁ (.ref a)) (.cons rfl .nil) (OB H hO hS)) fun r s' h=>?_
    cases r with
    | error e=>exact(Y0 H e s' h).elim
    | ok fl =>
      cases fl with
      | next=>exact False.elim h
      | brk=>exact False.elim h
      | cont=>exact False.elim h
      | ret u =>
        obtain⟨v,H',os,bare,un,Y3,r',q⟩:=h
        have q':v= .bl true:=q
        subst q'
        obtain rfl:u=Value.bool true:=r'
        refine⟨rfl,OldK.of_keep fun b o e=>?_,os,bare⟩
        cases q:H b with
        | none=>exact un.keep b o e q (by intro z;exact absurd (show b∈([]:List Addr) from z) (by simp)) (by simp)
        | some u=>
          rcases hO b with z | ⟨ob,xs,z⟩
          . rw[q] at z;cases z
          . have z2:=un.vM b ob _ z
            obtain⟨e1,_⟩:=hok b _ z
            obtain⟨e2,_⟩:=Y3 b _ z2
            rw[e] at e1;cases e1
            exact e2
  cases hk:K.lookup a with
  | some o=>
    have e:=KX a o hk
    rw[ha] at e
    cases e
    refine core (fun _=>none) (fun _=>.inl rfl) (.inr ⟨_,vs.toArray,_,hk,rfl,rfl,rfl,by rw[List.size_toArray,lenV];exact hl,by simpa using rv⟩) (fun b u z=>by have z':(none:Option HO)=some u:=z;cases z') (fun b z=>absurd rfl z) fun z=>absurd rfl z
  | none=>
    refine core (fun b=>if b=a then some (.lP {cls:=.type "list",data:=.seq vs.toArray} (.lst (ns.map V.int))) else none) (fun b=>?_) (.inl (.inr ⟨{cls:=.type "list",data:=.seq vs.toArray},if_pos rfl⟩)) (fun b u z=>?_) (fun b z=>?_) fun _=>hk
    . by_cases hb:b=a
      . exact .inr ⟨_,_,if_pos hb⟩
      . exact .inl (if_neg hb)
    . by_cases hb:b=a
      . have z':=(if_pos hb).symm.trans z
        cases z'
        subst hb
        exact⟨ha,by rw[List.length_map];exact hl,vs,_,rv,ha⟩
      . have z':=(if_neg hb).symm.trans z
        cases z'
    . by_cases hb:b=a
      . exact hb
      . exact absurd (if_neg hb) z
noncomputable abbrev KOf {K:PySem.W.Frag}{h:Heap}(_:K.In h):PySem.W.Frag:=K
theorem Mi {l : PySem.W.OpenLaw} {n k : Nat} {q : Program} {loose : List Str} {XP : (Str -> Option Value) -> Heap -> Prop} {YP : World -> Heap -> Prop} {d : DefRec} {K : Params -> PySem.W.Frag} {CX : World -> Ho} {sp : World -> Sp} {x : Str}
    (hn:l.most=some n) (hn2:n<=sizeLine) (hdf:d.params.defaults=[]) (hr:lT k callerA)
    (hY:∀(w:World) (h:Heap),YP w h->(K w.params).In h)
    (F:∀(w:World) (mg:Str->Option Value) (fa:Addr) (h:Heap),(K w.params).In h->h.Ns mainGlobals mg->mg d.name=some (.ref fa)->
      ∃fd:FuncData,(∀(s:Shared) (u:Value),BindsTo s fd ⟨[u],[]⟩ [(x,u)])/\
        ∀base:Heap,(K w.params).In base->base.Ns mainGlobals mg->cy l.prog w (K w.params) mg base (CX w) k fa fd [x] (sp w))
    (OB:∀(w:World) (H:Hp) (a:Addr) (ns:List Int),ns.length<=n->Mh H->m6 (K w.params) H a (ns.map V.int)->sp w [.ref a] H (fun v _=>v= .bl true) fun _ _ _=>False)
    (Y0:∀(w:World) (H:Hp) (s:Shared) (e:Value) (s':Shared),CX w [] H s (fun _ _ _=>False) e s'->False):
    PySem.W.WalkO q loose XP YP l.row.toRowW d [] (fun f vs=>PySem.call f vs):=by
  refine Att.Bk hn hdf fun w s₀ s₁ mg mb fa o pm cd doc a vs ns G Y ho hd hcd hmg hobj hints hlen hg=>?_
  have KX:=hY w _ Y
  obtain⟨fd,hb,hF⟩:=F w mg fa _ KX G.T.g hmg
  exact Io KX G.T.g G.T.b G.T.builtins G.T.nolimit hg hobj hints (Nat.le_trans hlen hn2) hr hF hb (fun H hO hS=>OB w H a ns hlen hO hS) fun H e s'=>Y0 w H s₁ e s'
noncomputable def bU (s:Stmt):Arguments:=match s with
 | .FunctionDef _ a _ _ _ _ _ _ _ _=>a
 | _=>{posonlyargs:=[],args:=[],vararg:=none,kwonlyargs:=[],kw_defaults:=[],kwarg:=none,defaults:=[]}
noncomputable def bQ (s:Stmt):List Stmt:=match s with
 | .FunctionDef _ _ b _ _ _ _ _ _ _=>b
 | _=>[]
noncomputable def aG (s:Stmt):Scope:=match s with
 | .FunctionDef _ _ _ _ _ _ sc _ _ _=>sc
 | _=>{kind:=.function,names:=[],isGenerator:=false,isCoroutine:=false}
noncomputable abbrev fY:Ho:=fun _ _ _ _ _ _=>False
noncomputable abbrev E0:XK:=fun _ _ _=>False
theorem OD {X:Cx}:Passes fY X E0:=fun _ _ _ _ _ _ _ h=>h.elim
structure p8 (K:PySem.W.Frag) (x qual:Str) (st:Stmt) (f:Addr) (fd:FuncData):Prop where
 ex:∃(oc:Value) (od:Option Addr) (kV doc pm:Value) (an:Option Addr) (cdv ct:Value) (osl:Array (Option Value)),
  fd=PySem.W.fnOf x qual (bU st) (bQ st) (aG st) .none kV doc pm an cdv ct/\K.lookup f=some ⟨oc,od,.func fd,osl⟩/\PySem.W.codeIn K cdv qual=true
 kp:PySem.W.keepIn K (.ref f)=true
section
variable {P:Program}{w:World}{K:PySem.W.Frag}{mg:Str->Option Value}{base:Heap}
theorem p8.ok {x qual:Str}{st:Stmt}{f:Addr}{fd:FuncData}{N ps:List Str}{k:Nat}{sp:Sp}(F:p8 K x qual st f fd) (S:cD N ps (aG st)) (len:∀vs H Q E,sp vs H Q E->vs.length=ps.length)
  (hbody:∀(cdv:Value) (A:Around) (outer:List Env) (s:Shared) (H:Hp) (vs:List V) (Q:VK) (E:XK),lT k (A.deeper (envOfC qual (aG st) s.heap.objs.size f cdv))->sp vs H Q E->
   ∃t,CG (CO fY P w K mg base N qual (aG st) f cdv A outer s H E).T5 (bQ st) t/\t {nx:=fun _ H'=>Q .dW H',rt:=Q} (start N vs) H):cy P w K mg base fY (k+1) f fd ps sp:=by
 obtain⟨oc,od,kV,doc,pm,an,cdv,ct,osl,rfl,lk,hcd⟩:=F.ex
 refine Uq lk hcd S len fun A outer s H vs Q E hr OB=>?_
 obtain⟨t,h,q⟩:=hbody cdv A outer s H vs Q E hr OB
 exact⟨t,h.T5,q⟩
theorem p8.binds {x qual:Str}{st:Stmt}{f:Addr}{fd:FuncData}{ps:List Str}(F:p8 K x qual st f fd)
  (h:∀(kV doc pm:Value) (an:Option Addr) (cdv ct:Value) (us:List Value),us.length=ps.length->bindArgs (PySem.W.fnOf x qual (bU st) (bQ st) (aG st) .none kV doc pm an cdv ct) ⟨us,[]⟩=pure (ps.zip us)):Binds K fd ps []:=by
 obtain⟨oc,od,kV,doc,pm,an,cdv,ct,osl,rfl,lk,hcd⟩:=F.ex
 exact .all (h kV doc pm an cdv ct)
theorem dF {x qual:Str}{st:Stmt}{f:Addr}{oc:Value}{od an:Option Addr}{osl:Array (Option Value)}{kV doc pm cdv ct:Value}(l:K.lookup f=some ⟨oc,od,.func (PySem.W.fnOf x qual (bU st) (bQ st) (aG st) .none kV doc pm an cdv ct),osl⟩)
  (c:PySem.W.codeIn K cdv qual=true) (k:PySem.W.keepIn K (.ref f)=true):p8 K x qual st f (PySem.W.fnOf x qual (bU st) (bQ st) (aG st) .none kV doc pm an cdv ct):=⟨⟨oc,od,kV,doc,pm,an,cdv,ct,osl,rfl,l,c⟩,k⟩
end
theorem bB {A:Around}{k:Nat}(hr:lT k A):A.units+20 < cLine:=Nat.lt_of_le_of_lt (Nat.add_le_add_left (by decide:20<=64) _) hr.units
section
variable {X:Cx}
theorem Fx:iY X (.builtin "len") (fun xs H Q=>∃a kvs,xs=[V.ref a]/\H a=some (.dK kvs)/\Q (.int kvs.length) H):=by
 intro pins s σ H xs us Q I r h
 obtain⟨a,kvs,rfl,ha,q⟩:=h
 obtain⟨u,rfl,ru⟩:=vals1 r
 cases ru
 exact Us I (.inl ha) fun t s' I'=>⟨.int kvs.length,H,I',⟨t,rfl⟩,q⟩
end
theorem zW {A B:Prop}(h:B):if false=true then A else B:=by
 rw[if_neg Bool.false_ne_true]
 exact h
theorem zX {A B:Prop}(h:A):if true=true then A else B:=by
 rw[if_pos rfl]
 exact h
section
variable {κ:Type} [DecidableEq κ]
end
theorem nO.OE {P:Program}{w:World}{H:Hp}{h:Heap}{a:Addr}{o:HO}(x:nO P w H h) (hn:H a=none) (new:eL P w (upd H a o) h a o):nO P w (upd H a o) h:=fun b u e=>by
 by_cases hb:b=a
 ·subst hb;rw[bh] at e;cases e;exact new
 ·rw[aX hb] at e
  exact(x b u e).stay (fun c v _ q=>q) (fun c q=>by rw[aX (bJ q hn)];exact q) fun c xs q=>by rw[aX (bJ q hn)];exact q
noncomputable def dM (X:Cx) (N':List Str) (scope:Scope) (cl:List (Str×Addr)) (C:Addr) (s:Shared) (H:Hp) (fp:List Addr):Cx:=
 {X with N:=N',s₀:=s,H₀:=H,env:=compEnvC scope cl C X.env,outer:=X.stack,stack:=X.stack,ex:=fp,fn:=fun _=>false,pn:=[],xe:=fun _ _=>False}
noncomputable def cR (cap:List Nat) (σ:St):St:=cap.map fun i=>(σ[i]?).join
structure jU (X:Cx) (x:Str) (cE:List Str) (cap:List Nat) (scope:Scope) (cl:List (Str×Addr)):Prop where
 clos:closureFor scope X.env=pure cl
 oh:∀y∈scope.names,y.2≠.cell
 kind:scope.kind= .function
 names:∀y∈scope.names,y.2= .local->scope.names.lookup y.1=some .local
 loc:scope.names.lookup x=some .local
 cells:∀n c,cl.lookup n=some c->X.env.cells.lookup n=some c
 has:∀n,((relabel scope X.env).names.lookup n=some .cell\/(relabel scope X.env).names.lookup n=some .free)->∃c,cl.lookup n=some c
 nd:(x :: cE).Nodup
 len:cap.length=cE.length
 slot:∀(j:Nat) n,cE[j]? =some n->∃i:Nat,cap[j]? =some i/\X.N[i]? =some n/\CJ X.env.scope n
 vis:∀n,n∈cE->((relabel scope X.env).names.lookup n=some .cell\/(relabel scope X.env).names.lookup n=some .free)/\(∃c,cl.lookup n=some c)/\X.env.scope.names.lookup n≠some .local
noncomputable def W7 (wi:TI) (cap:List Nat) (tc:TT) (te:TE):TE:=fun σ H Q=>wi σ H fun J H1=>∃W:Nat->Nat->List V->Hp->Prop,(∃m,W 0 m [] H1)/\∀i m ys H,W i m ys H->ys.length < sizeLine/\
  ((J.stop i H/\∀p,H p=none->Q (.ref p) (upd H p (.lst ys)))\/
   (J.go i H/\∀x H',J.SO i H x H'->tc (some x :: cR cap σ) H' fun b H2=>if b=true then te (some x :: cR cap σ) H2 fun y H3=>∃m',m' < m/\W (i+1) m' (ys++[y]) H3 else ∃m',m' < m/\W (i+1) m' ys H2))
noncomputable def Y4:TT:=fun _ H Q=>Q true H
noncomputable def LG (X:Cx) (ifs:List Expr) (tc:TT):Prop:=
 ∀(pins:List (Addr×Obj)) (s:Shared) (σ:St) (H:Hp) (Q:Bool->Hp->Prop),Inv X pins σ H s->tc σ H Q->
  wpAny (model X.prog X.w) X.A (forIn ifs true fun c r=>if r=true then do let ok <-isTrue c X.env (eval c X.env);pure (ForInStep.yield ok) else pure (ForInStep.yield r)) (TP X pins σ Q) X.xe s
theorem Mj {X:Cx}:LG X [] Y4:=fun pins s σ H Q I h=>wpAny_tests_nil ⟨H,I,h⟩
theorem Mk {X:Cx}{c:Expr}{tc:TT}(h:PT X c tc):LG X [c] tc:=fun pins s σ H Q I q=>wpAny_tests_one (h pins s σ H Q I q)
theorem Ip (ys:List Value) (y:Value):({cls:=.type "list",data:=.seq (ys.toArray.push y) (ys.length+1)}:Obj)={cls:=.type "list",data:=.seq (ys++[y]).toArray (ys++[y]).length}:=by
 rw[List.length_append,List.length_singleton,List.push_toArray]
theorem Iq {X : Cx} {pins : List (Addr × Obj)} {σ : St} {H : Hp} {s s4 : Shared} {x : Str} {cE : List Str} {cap : List Nat} {scope : Scope} {cl : List (Str × Addr)} {C : Addr} {fp : List Addr} {m' : Str -> Option Value}
    (I:Inv X pins σ H s) (T:jU X x cE cap scope cl) (hfp:∀b∈fp,lR X pins H b) (hfo:∀b∈fp,∃o,s.heap.get? b=some o)
    (hC:s.heap.objs.size<=C) (hns:s4.heap.Ns C m') (hos:s4.os=s.os) (hg:s4.gens=s.gens)
    (kept:∀b o,s.heap.get? b=some o->s4.heap.get? b=some o):
    Inv (dM X (x :: cE) scope cl C s H fp) [] (none :: cR cap σ) H s4:=by
  have fr:∀b,s.heap.objs.size<=b->H b=none:=fun b hb=>I.hok.fresh hb
  refine⟨⟨I.ok.mod,T.kind,I.ok.glob,I.ok.blt,hC,fun y z c h1 h2=>I.ok.inj y z c (T.cells _ _ h1) (T.cells _ _ h2),fun y hy=>T.has y hy,fun y c h=>(by cases h),I.ok.hd,I.ok.frames,.inl rfl,fun b hb=>⟨?_,fun y c e z=>?_⟩,I.bs,Nat.le_trans I.ok.LD I.sz,fun b o e hb=>?_,fun b hb z=>?_,I.stack,I.zN⟩,
    hos,by rw[hg];exact I.bare,Un.kept kept,⟨m',hns,fun i y v h1 h2 h3=>?_⟩,fun y c h=>?_,fr C hC,fun y c h=>I.nT y c (T.cells _ _ h),fun p hp=>?_,I.hok.kept kept,?_⟩
  . obtain⟨o,e⟩:=hfo b hb
    exact Nat.ne_of_lt (Nat.lt_of_lt_of_le (Heap.lt_size e) hC)
  . exact(hfp b hb).2.2.2.2.1 y c (T.cells _ _ e) z
  . rcases(hfp b hb).2.2.2.1 with z | z
    . exact I.ok.Fd b o e z
    . exact absurd (Nat.lt_of_lt_of_le (Heap.lt_size e) (Nat.le_trans I.ok.LD z)) (Nat.lt_irrefl _)
  . rcases List.mem_cons.mp (I.tF b z) with q | q
    . exact(hfp b hb).2.1 q
    . exact(hfp b hb).2.2.1 q
  . cases i with
    | zero=>cases h2
    | succ j=>
      have h1:cE[j]? =some y:=by simpa[dM] using h1
      have h2:(cR cap σ)[j]? =some (some v):=by simpa using h2
      obtain⟨i,e1,e2,e3⟩:=T.slot j y h1
      have e4:σ[i]? =some (some v):=by
        unfold cR at h2
        rw[List.getElem?_map,e1] at h2
        have h2:some ((σ[i]?).join)=some (some v):=h2
        have h2:=Option.some.inj h2
        cases q:σ[i]? with
        | none=>rw[q] at h2;cases h2
        | some o=>rw[q] at h2;cases h2;rfl
      obtain⟨m,hn,hl⟩:=I.loc
      obtain⟨u,r,l⟩:=hl i y v e2 e4 e3
      obtain⟨k1,⟨c,hc⟩,k3⟩:=T.vis y (List.mem_of_getElem? h1)
      refine⟨u,r,.inr ⟨k1,c,hc,?_⟩⟩
      rcases l with⟨hk,_⟩ | ⟨hk,c',hc',z⟩
      . exact absurd hk k3
      . rw[T.cells _ _ hc] at hc'
        cases hc'
        obtain⟨o,ho,hd⟩:=z
        exact⟨o,kept _ _ ho,hd⟩
  . obtain⟨v,o,ho,hd⟩:=I.cell y c (T.cells _ _ h)
    exact⟨v,o,kept _ _ ho,hd⟩
  . exact absurd (show p∈([]:List (Addr×Obj)) from hp) (by simp)
  . show(none :: cR cap σ).length=(x :: cE).length
    simp[cR,T.len]
theorem Ir {α:Type}{M:Model}{A:Around}{E E':Value->Shared->Prop}{s:Shared}{t:Sem α}{Q:Unit->Shared->Prop}{Q':α->Shared->Prop}(h:wpAny M A (pure ():Sem Unit) Q E s) (k:Q () s->wpAny M A t Q' E' s):wpAny M A t Q' E' s:=
 fun Γ p hΓ=>k (h Γ p hΓ) Γ p hΓ
theorem vZ {X:Cx}{elt iter:Expr}{ifs:List Expr}{x:Str}{px pos:Pos}{scope:Scope}{cl:List (Str×Addr)}{cE:List Str}{cap:List Nat}{wi:TI}{tc:TT}{te:TE}{pins:List (Addr×Obj)}{s:Shared}{σ:St}{H:Hp}{Q:VK}{use:Option (Value->Sem Unit)}{Qf:Value->Shared->Prop}{pos2:Pos}
    (T:jU X x cE cap scope cl) (hc:X.calm=true) (hi:PI X (.Name x px) iter wi)
    (ht:∀C s H fp,LG (dM X (x :: cE) scope cl C s H fp) ifs tc) (he:∀C s H fp,PE (dM X (x :: cE) scope cl C s H fp) elt te)
    (hs:∀x,foldedSetIterable iter X.env x=pure x) (I:Inv X pins σ H s) (h:W7 wi cap tc te σ H Q)
    (hend:∀(D C:Addr) (s7:Shared) (H6:Hp) (ys:List V),Inv X pins σ (upd H6 D (.lst ys)) s7->(∃m,s7.heap.Ns C m)->lR X pins (upd H6 D (.lst ys)) C->Q (.ref D) (upd H6 D (.lst ys))->compPost (model X.prog X.w) X.A X.xe use Qf (.ref D) C (.ok .next) s7):
    wpAny (model X.prog X.w) X.A (comprehension (.ListComp elt [⟨.Name x px,iter,ifs,0⟩] scope pos) scope X.env pos2 (newList []) false (eval iter X.env) use) Qf X.xe s:=by
  refine wpAny_comprehension_free (use:=use) rfl hs T.clos T.kind T.names (fJ (hi pins s σ H _ I h) fun v s1 h1=>fJ h1 fun itv s2 h2=>?_)
  obtain⟨it,fp,tn,J,H2,rfl,I2,yc,st2,f2,W,⟨m0,w0⟩,turn⟩:=h2
  refine wpAny_newObj_type (wpAny_newFunctionEnv T.oh (by intro y hy;simp at hy) (fun h4 zY v5=>?_) T.kind)
  dsimp only at zY v5 ⊢
  generalize P1:s2.heap.push {cls:=.type "list",dict:=none,data:=.seq ([]:List Value).toArray}=H3 at zY v5 ⊢
  have eC:H3.objs.size=s2.heap.objs.size+1:=by rw[<-P1,Heap.size_push]
  generalize eC':H3.objs.size=C at eC zY v5 ⊢
  generalize eD:s2.heap.objs.size=D at eC ⊢
  have Iu:C=D+1:=eC
  have hDC:D≠C:=by rw[Iu];exact Nat.ne_of_lt (Nat.lt_succ_self D)
  have hC:s2.heap.objs.size<=C:=by rw[eD,Iu];exact Nat.le_succ D
  have hD:s2.heap.objs.size<=D:=by rw[eD];exact Nat.le_refl D
  have kept:∀b o,s2.heap.get? b=some o->h4.get? b=some o:=fun b o e=>v5.extBut b o (Nat.ne_of_lt (Nat.lt_of_lt_of_le (Heap.lt_size e) hC)) (Heap.get?_push_of_some _ (P1▸Heap.get?_push_of_some _ e))
  have hacc:h4.get? D=some {cls:=.type "list",data:=.seq ([]:List Value).toArray ([]:List Value).length}:=v5.extBut _ _ hDC (Heap.get?_push_of_some _ (P1▸eD▸Heap.get?_push_size _ rfl))
  have UH:∀b∈fp,∃o,s2.heap.get? b=some o:=fun b hb=>let⟨o,e,_⟩:=yc.obj _ _ st2 b hb;⟨o,e⟩
  have hDf:D∉fp:=fun hb=>by
    obtain⟨o,e⟩:=UH D hb
    exact absurd (Nat.lt_of_lt_of_le (Heap.lt_size e) hD) (Nat.lt_irrefl _)
  have UI:tn 0 h4:=yc.keep _ _ _ st2 fun b _ o e=>kept b o e
  have key : ∀ s5 : Shared, s5 = { s2 with heap := h4, toks := s2.toks + ([] : List (Str × Value)).length } ->
      codeAny (model X.prog X.w) X.A (.compLoop (.ListComp elt [⟨.Name x px,iter,ifs,0⟩] scope pos) 0 (.ref it) (.ref D) (compEnvC scope cl C X.env)) (compPost (model X.prog X.w) X.A X.xe use Qf (.ref D) C) s5:=by
    rintro s5 rfl
    have I4:Inv (dM X (x :: cE) scope cl C s2 H2 fp) [] (none :: cR cap σ) H2 {s2 with heap:=h4,toks:=s2.toks+([]:List (Str×Value)).length}:=
      Iq (s4:={s2 with heap:=h4,toks:=s2.toks+([]:List (Str×Value)).length}) I2 T f2 UH hC zY rfl rfl kept
    generalize hY:dM X (x :: cE) scope cl C s2 H2 fp=Y at I4
    have fD:∀{H':Hp},H' D=none->lR Y [] H' D:=fun {H'} hn=>by
      subst hY
      refine⟨hn,hDC,fun z=>(List.mem_cons.mp (I2.tF D z)).elim (fun q=>absurd (Nat.lt_of_lt_of_le (q▸I2.lt) hD) (Nat.lt_irrefl _)) fun q=>I2.O9 hD q,.inr hD,fun y c e z=>?_,fun p hp=>absurd (show p∈([]:List (Addr×Obj)) from hp) (by simp)⟩
      obtain⟨v,q⟩:=I2.cell y c (T.cells _ _ e)
      exact absurd (Nat.lt_of_lt_of_le q.lt (by rw[z];exact hD)) (Nat.lt_irrefl _)
    have fF:∀{H':Hp},(∀b∈fp,H' b=none)->∀b∈fp,lR Y [] H' b:=fun {H'} hn b hb=>by
      have q:=I4.ok.WX b (by subst hY;exact hb)
      exact⟨hn b hb,fun z=>q.1 z,I4.ok.Fe b (by subst hY;exact hb),.inl (by subst hY;exact hb),fun y c e z=>q.2 y c e z,fun p hp=>absurd (show p∈([]:List (Addr×Obj)) from(by subst hY;exact hp)) (by simp)⟩
    have eA:Y.A=X.A:=by subst hY;rfl
    have eP:Y.prog=X.prog:=by subst hY;rfl
    have eW:Y.w=X.w:=by subst hY;rfl
    have eK:Y.K=X.K:=by subst hY;rfl
    have eE:Y.env=compEnvC scope cl C X.env:=by subst hY;rfl
    have eX:Y.xe=fun _ _=>False:=by subst hY;rfl
    have eN:Y.N=x :: cE:=by subst hY;rfl
    have OF:Y.calm=true:=by subst hY;exact hc
    have Y5:LG Y ifs tc:=by subst hY;exact ht _ _ _ _
    have Y6:PE Y elt te:=by subst hY;exact he _ _ _ _
    have Y7:PG Y (.Name x px) (uJ 0):=vt (by rw[eN];exact T.nd) (by rw[eN];rfl) (by rw[eE];exact .inl (lookup_relabel_local T.loc)) (.inr (by rw[eE];exact lookup_relabel_local T.loc))
    have qD:∀(E':Value->Shared->Prop) (e:Value) (s':Shared),Y.xe e s'->E' e s':=fun E' e s' z=>by rw[eX] at z;exact z.elim
    refine codeAny_compLoop_tests (fun n s'=>∃i ys us H' o,Inv Y [] (o :: cR cap σ) H' s'/\tn i s'.heap/\(∀b∈fp,H' b=none)/\H' D=none/\s'.heap.get? D=some {cls:=.type "list",data:=.seq us.toArray us.length}/\Vals ys us/\W i n ys H') ?_ m0
      ⟨0,[],[],H2,none,I4,UI,fun b hb=>(f2 b hb).1,I2.hok.fresh hD,hacc,.nil,w0⟩
    rintro n s6 ⟨i,ys,us,H6,o6,I6,P4,P5,d6,a6,v6,w6⟩
    have Y8:us.length=ys.length:=v6.length.symm
    obtain⟨hz,Iv⟩:=turn i n ys H6 w6
    rcases Iv with⟨stop,qn⟩ | ⟨go,step⟩
    . have q := yc.done Y eP eW eK OF i [] s6 (o6 :: cR cap σ) H6 (notedBy (model X.prog X.w) X.A (compEnvC scope cl C X.env) fun e s' => compPost (model X.prog X.w) X.A X.xe use Qf (.ref D) C (.error e) s') I6 (fF P5) P4 stop
      rw[eA] at q
      have P6:=I6.pinned (fp:=[D]) (fun b hb=>by rw[List.mem_singleton.mp hb];exact fD d6) (fun b hb=>by rw[List.mem_singleton.mp hb];exact⟨_,a6,fun v z=>by cases z⟩)
      have q:=yc.done Y eP eW eK OF i _ s6 (o6 :: cR cap σ) H6 (notedBy (model X.prog X.w) X.A (compEnvC scope cl C X.env) fun e s'=>compPost (model X.prog X.w) X.A X.xe use Qf (.ref D) C (.error e) s') P6 (fun b hb=>?_) P4 stop
      . rw [eA] at q
        refine fJ q fun r s7 ⟨hr,I7⟩=>?_
        subst hr
        have a7:s7.heap.get? D=_:=(I7.pin (D,{cls:=.type "list",data:=.seq us.toArray us.length}) (List.mem_append_right _ (List.mem_append_right _ (dU (List.mem_singleton.mpr rfl) a6)))).1
        obtain⟨m7,Iw,_⟩:=I7.loc
        rw[eE] at Iw
        have Iz:H6 D=none:=d6
        have Y9:H6 C=none:=by have:=I7.free;rw[eE] at this;exact this
        have P7:nO X.prog X.w H6 s7.heap:=by have q:=I7.hok;rw[eP,eW] at q;exact q
        have new:eL X.prog X.w (upd H6 D (.lst ys)) s7.heap D (.lst ys):=⟨Nat.le_of_lt hz,us,us.length,v6,a7⟩
        have u7:Un (frs X.stack) fp H2 H6 s2.heap s7.heap:=by have:=I7.base;subst hY;exact this
        have Za:∀b o,s2.heap.get? b=some o->b≠D:=fun b o e=>Nat.ne_of_lt (Nat.lt_of_lt_of_le (Heap.lt_size e) hD)
        have u8:Un (frs X.stack) fp H2 (upd H6 D (.lst ys)) s2.heap s7.heap:=
          ⟨u7.keep,u7.slot,fun b o e n hx=>by rw[aX (Za b o e)];exact u7.free b o e n hx,u7.there,
           fun b xs e=>by have z:=u7.tups b xs e;rw[aX (bJ z Iz)];exact z,fun b o u e=>by have z:=u7.vM b o u e;rw[aX (bJ z Iz)];exact z,
           fun b ps e=>by obtain⟨more,z⟩:=u7.xW b ps e;exact⟨more,by rw[aX (bJ z Iz)];exact z⟩⟩
        have Zb:s7.os=s2.os:=by have:=I7.os;subst hY;exact this
        have I9:Inv X pins σ (upd H6 D (.lst ys)) s7:=I2.Ow (ch:=fp) Zb u8 (P7.OE Iz new) I7.bare fun b hb=>⟨(f2 b hb).2.2.2.1,(f2 b hb).2.1,(f2 b hb).2.2.2.2.1,(f2 b hb).2.2.2.2.2⟩
        exact hend D C s7 H6 ys I9 ⟨m7,Iw⟩ (I2.xY hC (by rw[aX (Ne.symm hDC)];exact Y9)) (qn D Iz)
      . obtain⟨f0,f1,P8,f3,f4,f5⟩:=fF P5 b hb
        refine⟨f0,f1,P8,f3,f4,fun p hp z=>?_⟩
        rcases List.mem_append.mp hp with q' | q'
        . exact f5 p (List.mem_append_left _ q') z
        . rcases List.mem_append.mp q' with q' | q'
          . exact absurd q' (by simp)
          . have:=(mF q').1
            rw[List.mem_singleton.mp this] at z
            exact hDf (z▸hb)
    . have P6:=I6.pinned (fp:=[D]) (fun b hb=>by rw[List.mem_singleton.mp hb];exact fD d6) (fun b hb=>by rw[List.mem_singleton.mp hb];exact⟨_,a6,fun v z=>by cases z⟩)
      have UJ:∀{H':Hp},(∀b∈fp,H' b=none)->∀b∈fp,lR Y ([]++lY [D] s6.heap) H' b:=fun {H'} hn b hb=>by
        obtain⟨f0,f1,P8,f3,f4,f5⟩:=fF hn b hb
        refine⟨f0,f1,P8,f3,f4,fun p hp z=>?_⟩
        rcases List.mem_append.mp hp with q' | q'
        . exact f5 p (List.mem_append_left _ q') z
        . rcases List.mem_append.mp q' with q' | q'
          . exact absurd q' (by simp)
          . have:=(mF q').1
            rw[List.mem_singleton.mp this] at z
            exact hDf (z▸hb)
      have q:=yc.item Y eP eW eK OF i _ s6 (o6 :: cR cap σ) H6 (notedBy (model X.prog X.w) X.A (compEnvC scope cl C X.env) fun e s'=>compPost (model X.prog X.w) X.A X.xe use Qf (.ref D) C (.error e) s') P6 (UJ P5) P4 go
      rw[eA] at q
      refine fJ q fun r s7 ⟨u,hr,h7⟩=>?_
      subst hr
      refine Ir h7 fun⟨xv,H8,I8,r8,y8,P9,Zc⟩=>?_
      have Zd:=I8.pinned (UJ Zc) (yc.obj _ _ P9)
      have qa:=Y7 _ s7 (o6 :: cR cap σ) H8 xv u _ Zd r8 (show uJ 0 xv (o6 :: cR cap σ) H8 (fun σ' H'=>σ'=some xv :: cR cap σ/\H'=H8) from⟨rfl,rfl⟩)
      rw[eP,eW,eA,eE] at qa
      refine wpAny_mono qa (fun _ s9 h9=>?_) (qD _)
      obtain⟨σ9,H9,I9,e9,Ze⟩:=h9
      subst e9 Ze
      have qt:=Y5 _ s9 _ _ _ I9 (step xv _ y8)
      rw[eP,eW,eA,eE] at qt
      refine wpAny_mono qt (fun ok Zf h10=>?_) (qD _)
      obtain⟨Zg,UK,v7⟩:=h10
      have back:∀{s':Shared}{H':Hp},Inv Y (([]++lY [D] s6.heap)++lY fp s7.heap) (some xv :: cR cap σ) H' s'->Inv Y [] (some xv :: cR cap σ) H' s'/\tn (i+1) s'.heap/\(∀b∈fp,H' b=none)/\H' D=none/\s'.heap.get? D=some {cls:=.type "list",data:=.seq us.toArray us.length}:=fun {s' H'} J=>by
        refine⟨J.kW.kW,yc.keep _ _ _ P9 fun b hb o e=>(J.pin (b,o) (List.mem_append_right _ (List.mem_append_right _ (dU hb e)))).1,fun b hb=>?_,?_,?_⟩
        . obtain⟨o,e,d⟩:=yc.obj _ _ P9 b hb
          exact(J.pin (b,o) (List.mem_append_right _ (List.mem_append_right _ (dU hb e)))).2.1
        . exact(J.pin (D,_) (List.mem_append_right _ (List.mem_append_left _ (List.mem_append_right _ (dU (List.mem_singleton.mpr rfl) a6))))).2.1
        . exact(J.pin (D,_) (List.mem_append_right _ (List.mem_append_left _ (List.mem_append_right _ (dU (List.mem_singleton.mpr rfl) a6))))).1
      cases ok with
      | false=>
        rw[if_neg (by decide)] at v7 ⊢
        obtain⟨m',hm,Zh⟩:=v7
        obtain⟨b1,b2,b3,b4,b5⟩:=back UK
        exact⟨m',hm,i+1,ys,us,Zg,some xv,b1,b2,b3,b4,b5,v6,Zh⟩
      | true=>
        rw[if_pos rfl] at v7 ⊢
        have qe:=Y6 _ Zf _ _ _ UK v7
        rw[eP,eW,eA,eE] at qe
        refine wpAny_mono qe (fun y Qa h11=>?_) (qD _)
        obtain⟨yv,UL,Zi,Zj,m',hm,Zk⟩:=h11
        obtain⟨b1,b2,b3,b4,b5⟩:=back Zi
        refine append_at (hsz:=by rw[List.size_toArray,Y8];exact Nat.le_of_lt hz) b5 fun h12 Qc Qd=>?_
        have IA:∀b o,b≠D->Qa.heap.get? b=some o->h12.get? b=some o:=fun b o hb e=>Qc.extBut b o hb e
        obtain⟨g0,g1,g2,g3,g4,g5⟩:=fD b4
        have Zl:Inv Y [] (some xv :: cR cap σ) UL {Qa with heap:=h12}:=b1.turned (t':=Qa.toks) IA g0 g1 g3 g4 g5
        refine⟨m',hm,i+1,ys++[yv],us++[y],UL,some xv,Zl,yc.keep _ _ _ b2 fun b hb o e=>IA b o (fun z=>hDf (z▸hb)) e,b3,b4,Qd.trans (congrArg some (Ip us y)),v6.append (.cons Zj .nil),Zk⟩
  exact codeAny_compStart_list (key _ rfl) (yc.self _ 0 _ _ _ UI (key _ rfl))
theorem IB {X:Cx}{elt iter:Expr}{ifs:List Expr}{x:Str}{px pos:Pos}{scope:Scope}{cl:List (Str×Addr)}{cE:List Str}{cap:List Nat}{wi:TI}{tc:TT}{te:TE}
  (T:jU X x cE cap scope cl) (hc:X.calm=true) (hi:PI X (.Name x px) iter wi)
  (ht:∀C s H fp,LG (dM X (x :: cE) scope cl C s H fp) ifs tc) (he:∀C s H fp,PE (dM X (x :: cE) scope cl C s H fp) elt te)
  (hs:∀x,foldedSetIterable iter X.env x=pure x:=by intro _;rfl):
  PE X (.ListComp elt [⟨.Name x px,iter,ifs,0⟩] scope pos) (W7 wi cap tc te):=by
 intro pins s σ H Q I h
 rw[eval_ListComp]
 refine vZ T hc hi ht he hs I h ?_
 rintro p C s7 H6 ys I9 ⟨m7,Iw⟩ ⟨g0,g1,g2,g3,g4,g5⟩ q
 exact⟨m7,Iw,fun h' hs'=>⟨.ref p,_,I9.turned (t':=s7.toks) (fun b o hb e=>hs'.extBut b o hb e) g0 g1 g3 g4 g5,rfl,q⟩⟩
theorem IC {X:Cx}{elt iter:Expr}{ifs:List Expr}{x:Str}{px pos:Pos}{scope:Scope}{cl:List (Str×Addr)}{cE:List Str}{cap:List Nat}{wi:TI}{tc:TT}{te:TE}{i:Nat}{y:Str}{py spos:Pos}
  (T:jU X x cE cap scope cl) (hc:X.calm=true) (hi:PI X (.Name x px) iter wi)
  (ht:∀C s H fp,LG (dM X (x :: cE) scope cl C s H fp) ifs tc) (he:∀C s H fp,PE (dM X (x :: cE) scope cl C s H fp) elt te)
  (hs:∀x,foldedSetIterable iter X.env x=pure x) (hN:X.N.Nodup) (hy:X.N[i]? =some y) (hx:Loc X.env.scope y)
  (hsw:swapsWith (.ListComp elt [⟨.Name x px,iter,ifs,0⟩] scope pos) (some (.Name y py)) spos.line X.env=pure true) (hf:X.fn y=true\/X.env.scope.names.lookup y=some .local):
  PS X (.Assign [.Name y py] (.ListComp elt [⟨.Name x px,iter,ifs,0⟩] scope pos) spos) (LV (W7 wi cap tc te) (uJ i)):=by
 intro pins s σ H D I h
 rw[exec_Assign_Name_used _ _ _ _ hsw]
 refine wpAny_bind (wpAny_standAt (wpAny_bind ?_))
 show wpAny _ X.A (do let _ <-comprehension (.ListComp elt [⟨.Name x px,iter,ifs,0⟩] scope pos) scope X.env _ (newList []) false (eval iter X.env) (some (assign (.Name y py) X.env))) _ _ s
 refine wpAny_bind (wpAny_mono (vZ (Qf:=fun _ s'=>SP X pins D .next s') T hc hi ht he hs I h ?_) (fun _ s' hq=>wpAny_pure (wpAny_pure hq)) fun _ _ e=>e)
 rintro p C s7 H6 ys I9 ⟨m7,Iw⟩ ⟨g0,g1,g2,g3,g4,g5⟩ q
 refine wpAny_assign_Name (yO I9 hN hy hx (v:=.ref p) (show RelV (.ref p) (.ref p) from rfl) (fun s8 I8 ⟨a,hsb,ha⟩=>?_) hf)
 have hne:C≠a:=ha.elim (fun z=>by rw[z];exact g1) fun z=>Ne.symm (g4 _ _ z)
 refine⟨m7,Iw.sameBut hsb hne,fun h' hs'=>?_⟩
 exact⟨_,_,I8.turned (t':=s8.toks) (fun b o hb e=>hs'.extBut b o hb e) g0 g1 g3 g4 g5,q⟩
noncomputable def Zm (z:Str):It:=⟨fun i _=>i < z.cps.size,fun i H x H'=>H'=H/\∃c,z.cps[i]? =some c/\x= .str ⟨#[c]⟩,fun i _=>z.cps.size<=i⟩
theorem ID {P:Program}{w:World}{K:PySem.W.Frag}{x:Str}{px:Pos}(z:Str) (it:Addr) (t:Tok) (ty:String) (hW:∀A':Around,A'.handled=none->Walks P w A' it [it] [it] z.cps.size (SignAt z) fun i h=>h.IsStrIter it ty z t i)
  (hself:∀(A:Around) (i:Nat) (s:Shared) (Q:Value->Shared->Prop) (E:Value->Shared->Prop),s.heap.IsStrIter it ty z t i->Q (.ref it) s->wpAny (model P w) A (pyIter (.ref it)) Q E s):
  Turn P w K (.Name x px) (Zm z) [it] it (fun i h=>i<=z.cps.size/\h.IsStrIter it ty z t i) where
 mem:=by simp
 obj:=fun i h st b hb=>by
  obtain rfl:b=it:=by simpa using hb
  obtain⟨o,e,c,d⟩:=st.2
  exact⟨o,e,fun v q=>by rw[d] at q;cases q⟩
 keep:=fun i h h' st k=>by
  obtain⟨o,e,r⟩:=st.2
  exact⟨st.1,o,k it (by simp) o e,r⟩
 item:=by
  intro X hP hw hK hc i pins s σ H E I hf st hg
  subst hP hw hK
  obtain⟨f0,f1,f2,f3,f4,f5⟩:=hf it (by simp)
  refine(hW X.A (I.ok.hd hc)).item i s _ _ hg st.2 fun v h' tk hv st' kk=>?_
  obtain⟨c,u,hc',rfl⟩:=hv
  exact⟨_,rfl,wpAny_pure ⟨.str ⟨#[c]⟩,H,I.turned (fun b o hb e=>kk b o (by simpa using hb) e) f0 f1 f3 f4 f5,⟨u,rfl⟩,⟨rfl,c,hc',rfl⟩,⟨hg,st'⟩,fun b hb=>(hf b hb).1⟩⟩
 done:=by
  intro X hP hw hK hc i pins s σ H E I hf st hg
  subst hP hw hK
  obtain⟨f0,f1,f2,f3,f4,f5⟩:=hf it (by simp)
  obtain⟨s1,s2⟩:=st
  have e:i=z.cps.size:=Nat.le_antisymm s1 hg
  subst e
  exact(hW X.A (I.ok.hd hc)).done s _ _ s2 fun h' tk kk=>⟨rfl,I.turned (fun b o hb e=>kk b o (by simpa using hb) e) f0 f1 f3 f4 f5⟩
 self:=fun A i s Q E st h=>hself A i s Q E st.2 h
noncomputable def Zn (tl:TE):TI:=fun σ H R=>tl σ H fun x H1=>∃z,x= .str z/\R (Zm z) H1
theorem Qe {X:Cx}{x:Str}{px:Pos}{l:Expr}{tl:TE}(hl:PE X l tl):PI X (.Name x px) l (Zn tl):=by
 intro pins s σ H R I h
 refine fJ (hl pins s σ H _ I h) fun v s1 ⟨y,H1,I1,r1,q1⟩=>?_
 obtain⟨z,rfl,q⟩:=q1
 obtain⟨t,rfl⟩:=r1
 refine wpAny_pyIter_strU ?_
 have hst:∀ty,strIterType z=ty->(s1.heap.push {cls:=.type (strIterType z),data:=.fields #[.str z t,.int 0 0]}).IsStrIter s1.heap.objs.size ty z t 0:=fun ty e=>⟨_,Heap.get?_push_size _ rfl,by rw[<-e],rfl⟩
 have go:∀ty,strIterType z=ty->(∀A':Around,A'.handled=none->Walks X.prog X.w A' s1.heap.objs.size [s1.heap.objs.size] [s1.heap.objs.size] z.cps.size (SignAt z) fun i h=>h.IsStrIter s1.heap.objs.size ty z t i)->
   (∀(A:Around) (i:Nat) (s:Shared) (Q:Value->Shared->Prop) (E:Value->Shared->Prop),s.heap.IsStrIter s1.heap.objs.size ty z t i->Q (.ref s1.heap.objs.size) s->wpAny (model X.prog X.w) A (pyIter (.ref s1.heap.objs.size)) Q E s)->
   YE X pins σ (.Name x px) R (.ref s1.heap.objs.size) {s1 with heap:=s1.heap.push {cls:=.type (strIterType z),data:=.fields #[.str z t,.int 0 0]}}:=fun ty e hW hself=>by
  refine⟨s1.heap.objs.size,[s1.heap.objs.size],_,_,H1,rfl,I1.kept (t':=s1.toks) fun b o e=>Heap.get?_push_of_some _ e,ID z _ t ty hW hself,⟨Nat.zero_le _,hst ty e⟩,fun b hb=>?_,q⟩
  obtain rfl:b=s1.heap.objs.size:=by simpa using hb
  exact I1.xY (Nat.le_refl _) (I1.hok.fresh (Nat.le_refl _))
 cases ha:z.cps.all (· < 128)
 ·exact go "str_iterator" (by simp[strIterType,ha]) (fun A' hA=>Walks.strWide hA _ z t) fun A i s Q E st h=>wpAny_pyIter_striter_wide st h
 ·exact go "str_ascii_iterator" (by simp[strIterType,ha]) (fun A' hA=>Walks.strAscii hA _ z t) fun A i s Q E st h=>wpAny_pyIter_striter_ascii st h
theorem IE {bs:List Bool}:∀{us:List Value},Vals (bs.map V.bl) us->us=bs.map Value.bool:=by
 induction bs with
 | nil=>intro us r;cases r;rfl
 | cons b bs ih=>
  intro us r
  cases r with
  | cons r1 r2=>
   cases r1
   rw[ih r2]
   rfl
theorem CW (bs:List Bool):((List.range bs.length).any fun i=>(bs[i]?).getD false)=bs.any id:=by
 rw[Bool.eq_iff_iff,List.any_eq_true,List.any_eq_true]
 constructor
 ·rintro⟨i,hi,h⟩
  have hi:=List.mem_range.mp hi
  simp only[List.getElem?_eq_getElem hi,Option.getD_some] at h
  exact⟨_,List.getElem_mem hi,h⟩
 ·rintro⟨b,hb,h⟩
  obtain⟨i,hi,rfl⟩:=List.mem_iff_getElem.mp hb
  exact⟨i,List.mem_range.mpr hi,by simpa[hi] using h⟩
theorem Fy {X:Cx}(hc:X.calm=true):iY X (.builtin "any") (fun xs H Q=>∃(p:Addr) (bs:List Bool),xs=[.ref p]/\m6 X.K H p (bs.map V.bl)/\Q (.bl (bs.any id)) H):=by
 intro pins s σ H xs us Q I r h
 obtain⟨p,bs,rfl,hp,q⟩:=h
 obtain⟨u,rfl,ru⟩:=vals1 r
 cases ru
 obtain⟨its,rv,pl,hz⟩:=I.list hp
 obtain rfl:=IE rv
 have hlt:p < s.heap.objs.size:=by obtain⟨_,e,_⟩:=pl.isList;exact Heap.lt_size e
 refine call_any_walk (wpAny_pyIter_list pl.isList ?_)
 refine⟨s.heap.objs.size,[s.heap.objs.size,p],[s.heap.objs.size],_,_,_,fun i=>(bs[i]?).getD false,rfl,Walks.list (A:=X.A.in1) (I.ok.hd hc) _ p (Nat.ne_of_lt hlt) _,
  ⟨⟨_,Heap.get?_push_size _ rfl,rfl,rfl⟩,pl.isList.push _⟩,fun i v s' Q' E' hP hQ=>?_,fun h' tk hk=>?_⟩
 ·have hP:(bs.map Value.bool)[i]? =some v:=by simpa using hP
  rw[List.getElem?_map] at hP
  cases e:bs[i]? with
  | none=>rw[e] at hP;cases hP
  | some b=>
   rw[e] at hP
   cases hP
   simp only[e,Option.getD_some] at hQ
   exact wpAny_truthy_bool hQ
 ·have e:((List.range (bs.map Value.bool).toArray.size).any fun i=>(bs[i]?).getD false)=bs.any id:=by
   rw[List.size_toArray,List.length_map];exact CW bs
  rw[e]
  exact⟨.bl (bs.any id),H,I.kept (t':=tk) fun b o e=>hk b o (fun hm=>by rw[List.mem_singleton.mp hm] at e;exact Nat.lt_irrefl _ (Heap.lt_size e)) (Heap.get?_push_of_some _ e),rfl,q⟩
noncomputable def Zo:V->Option Int->Option Int->Hp->VK->Prop:=fun x lo hi H Q=>∃z,x= .str z/\z.length<=sizeLine/\((Txt.slice z lo hi).length<=z.length->Q (.str (Txt.slice z lo hi)) H)
theorem Qg {X:Cx}:Uy X Zo:=by
 intro pins s σ H x v vl vu lo hi sl Q I rx hs pl pu h
 obtain⟨z,rfl,hz,q⟩:=h
 obtain⟨t,rfl⟩:=rx
 have q:=q (Txt.slice_le z _ _)
 refine⟨"str",_,F.slot_str_getitem.lookup,typeIs_str _ _ _,?_⟩
 cases pl with
 | none=>
  cases pu with
  | none=>exact wpAny_getItem_str_slice (l:=none) (u:=none) (st:=none) hs rfl (post_val_or_str ⟨Nat.le_trans (Txt.slice_le z _ _) hz,fun t' k=>⟨V.str (Txt.slice z none none),H,I.tok k,⟨t',rfl⟩,q⟩⟩)
  | int j u=>exact wpAny_getItem_str_slice (l:=none) (u:=some (j,u)) (st:=none) hs rfl (post_val_or_str ⟨Nat.le_trans (Txt.slice_le z _ _) hz,fun t' k=>⟨V.str (Txt.slice z none (some j)),H,I.tok k,⟨t',rfl⟩,q⟩⟩)
 | int i u'=>
  cases pu with
  | none=>exact wpAny_getItem_str_slice (l:=some (i,u')) (u:=none) (st:=none) hs rfl (post_val_or_str ⟨Nat.le_trans (Txt.slice_le z _ _) hz,fun t' k=>⟨V.str (Txt.slice z (some i) none),H,I.tok k,⟨t',rfl⟩,q⟩⟩)
  | int j u=>exact wpAny_getItem_str_slice (l:=some (i,u')) (u:=some (j,u)) (st:=none) hs rfl (post_val_or_str ⟨Nat.le_trans (Txt.slice_le z _ _) hz,fun t' k=>⟨V.str (Txt.slice z (some i) (some j)),H,I.tok k,⟨t',rfl⟩,q⟩⟩)
theorem bS.length {H:Hp}:∀{vs:List V}{ds:List D},bS H vs ds->vs.length=ds.length
 | _,_,.nil=>rfl
 | _,_,.cons _ rs=>congrArg Nat.succ (bS.length rs)
theorem bS.get {H:Hp}:∀{vs:List V}{ds:List D}{i:Nat}{d:D},bS H vs ds->ds[i]? =some d->∃v,vs[i]? =some v/\Rep H v d
 | _,_,_,_,.nil,e=>by simp at e
 | _,_,0,_,.cons r _,e=>by simp at e;subst e;exact⟨_,rfl,r⟩
 | _,_,i+1,_,.cons _ rs,e=>by
  obtain⟨v,h1,h2⟩:=bS.get (i:=i) rs (by simpa using e)
  exact⟨v,by simpa using h1,h2⟩
theorem bS.append {H:Hp}:∀{vs ws:List V}{ds es:List D},bS H vs ds->bS H ws es->bS H (vs++ws) (ds++es)
 | _,_,_,_,.nil,s=>s
 | _,_,_,_,.cons r rs,s=>.cons r (bS.append rs s)
theorem bS.take {H:Hp}:∀{vs:List V}{ds:List D}(n:Nat),bS H vs ds->bS H (vs.take n) (ds.take n)
 | _,_,0,_=>.nil
 | _,_,_+1,.nil=>.nil
 | _,_,n+1,.cons r rs=>.cons r (bS.take n rs)
theorem bS.drop {H:Hp}:∀{vs:List V}{ds:List D}(n:Nat),bS H vs ds->bS H (vs.drop n) (ds.drop n)
 | _,_,0,rs=>rs
 | _,_,_+1,.nil=>.nil
 | _,_,n+1,.cons _ rs=>bS.drop n rs
noncomputable def Qh:D->String
 | .dW=>"NoneType" | .bl _=>"bool" | .int _=>"int" | .str _=>"str" | .tup _=>"tuple" | .lst _=>"list"
open PySem.W in
noncomputable def jm (T U:String):Option Bool:=if(Value.type T == Value.type U)=true then some true else if kitMeta U=true then(fastBuiltinMro T).map (·.contains (Value.type U)) else none
noncomputable def IF:D->Bool
 | .tup _=>true
 | _=>false
noncomputable def IG:D->Bool
 | .lst _=>true
 | _=>false
noncomputable def zZ:D->Bool
 | .str _=>true
 | _=>false
noncomputable def Ei:D->Bool
 | .bl _=>true
 | _=>false
noncomputable def II:D->Bool
 | .int _=>true
 | .bl _=>true
 | _=>false
theorem Ml {K:PySem.W.Frag}(d:D):PySem.W.kitOne K (.type (Qh d)) (.type "tuple")=some (IF d):=by
 cases d with
 | dW=>exact(show jm "NoneType" "tuple" =some false by decide +kernel)
 | bl b=>exact(show jm "bool" "tuple" =some false by decide +kernel)
 | int i=>exact(show jm "int" "tuple" =some false by decide +kernel)
 | str z=>exact(show jm "str" "tuple" =some false by decide +kernel)
 | tup ds=>exact(show jm "tuple" "tuple" =some true by decide +kernel)
 | lst ds=>exact(show jm "list" "tuple" =some false by decide +kernel)
theorem Mm {K:PySem.W.Frag}(d:D):PySem.W.kitOne K (.type (Qh d)) (.type "list")=some (IG d):=by
 cases d with
 | dW=>exact(show jm "NoneType" "list" =some false by decide +kernel)
 | bl b=>exact(show jm "bool" "list" =some false by decide +kernel)
 | int i=>exact(show jm "int" "list" =some false by decide +kernel)
 | str z=>exact(show jm "str" "list" =some false by decide +kernel)
 | tup ds=>exact(show jm "tuple" "list" =some false by decide +kernel)
 | lst ds=>exact(show jm "list" "list" =some true by decide +kernel)
theorem IJ {K:PySem.W.Frag}(d:D):PySem.W.kitOne K (.type (Qh d)) (.type "str")=some (zZ d):=by
 cases d with
 | dW=>exact(show jm "NoneType" "str" =some false by decide +kernel)
 | bl b=>exact(show jm "bool" "str" =some false by decide +kernel)
 | int i=>exact(show jm "int" "str" =some false by decide +kernel)
 | str z=>exact(show jm "str" "str" =some true by decide +kernel)
 | tup ds=>exact(show jm "tuple" "str" =some false by decide +kernel)
 | lst ds=>exact(show jm "list" "str" =some false by decide +kernel)
theorem Qi {K:PySem.W.Frag}(d:D):PySem.W.kitOne K (.type (Qh d)) (.type "bool")=some (Ei d):=by
 cases d with
 | dW=>exact(show jm "NoneType" "bool" =some false by decide +kernel)
 | bl b=>exact(show jm "bool" "bool" =some true by decide +kernel)
 | int i=>exact(show jm "int" "bool" =some false by decide +kernel)
 | str z=>exact(show jm "str" "bool" =some false by decide +kernel)
 | tup ds=>exact(show jm "tuple" "bool" =some false by decide +kernel)
 | lst ds=>exact(show jm "list" "bool" =some false by decide +kernel)
theorem Mn {K:PySem.W.Frag}(d:D):PySem.W.kitOne K (.type (Qh d)) (.type "int")=some (II d):=by
 cases d with
 | dW=>exact(show jm "NoneType" "int" =some false by decide +kernel)
 | bl b=>exact(show jm "bool" "int" =some true by decide +kernel)
 | int i=>exact(show jm "int" "int" =some true by decide +kernel)
 | str z=>exact(show jm "str" "int" =some false by decide +kernel)
 | tup ds=>exact(show jm "tuple" "int" =some false by decide +kernel)
 | lst ds=>exact(show jm "list" "int" =some false by decide +kernel)
end L2
end
section
namespace HT
open PySem PySem.Spec PyProof.Rows
section
variable {prog:Program}{w:World}{A:Around}{E:Value->Shared->Prop}{s:Shared}
theorem Fz {t sl:Addr}{items:Array Value}{vl vu:Value}{lo hi:Option Int}{Q:Value->Shared->Prop}(ht:IsTup s.heap t items) (hs:s.heap.IsSliceOf sl vl vu .none) (pl:IsPart vl lo) (pu:IsPart vu hi)
  (hw:iz items.size 0 lo=0/\iz items.size items.size hi=items.size) (h:Q (.ref t) s):wpAny (model prog w) A (getItem (.ref t) (.ref sl)) Q E s:=by
 obtain⟨os,hos,hcs,hds⟩:=id hs
 have YS:s.TypeIs (.ref sl) "slice":=⟨os,hos,hcs⟩
 unfold getItem
 try with_reducible refine wpAny_holding ?_
 first | refine wpAny_bind (wpAny_pure ?_) | skip
 refine wpAny_bind (wpAny_sequenceKey ht.typeIs (by decide) ?_)
 refine wpAny_bind (wpAny_callSpecial?_slot (name:=Str.ofString "__getitem__") ht.typeIs PyProof.Rows.slot_tuple_getitem
  (wpAny_call_entry PyProof.Rows.slot_tuple_getitem ht.typeIs entry_tuple_getitem ?_ (args_tuple_getitem _ _)))
 show wpAny _ _ (Builtin.Tuple.tupleItemsOf (.ref t) >>= _) _ _ s
 refine wpAny_bind (tupleItemsOf_ ht ?_)
 refine wpAny_bind (wpAny_typeOf YS ?_)
 rw[if_pos (by decide)]
 refine wpAny_bind (mG hs pl pu ?_)
 have hyes:(((iz items.size 0 lo:Nat):Int) == 0 && (1:Int) == 1 && (iz items.size items.size hi - iz items.size 0 lo) == items.size)=true:=by
  rw[hw.1,hw.2];simp
 show wpAny _ _ (if(((iz items.size 0 lo:Nat):Int) == 0 && (1:Int) == 1 && (iz items.size items.size hi - iz items.size 0 lo) == items.size)=true then _ else _) _ _ s
 rw[if_pos hyes]
 have hex:∀{α:Type}{k:Bool->Sem α}{Q':α->Shared->Prop}{E':Value->Shared->Prop}{A':Around},wpAny (model prog w) A' (k true) Q' E' s->wpAny (model prog w) A' (Builtin.Tuple.tupleIsExact (.ref t) >>= k) Q' E' s:=fun {α k Q' E' A'} hk=>by
  refine wpAny_bind ?_
  unfold Builtin.Tuple.tupleIsExact
  exact wpAny_bind (wpAny_typeOf ht.typeIs (wpAny_pure hk))
 first
  | (refine hex ?_;exact wpAny_rule (wpAny_pure ⟨_,rfl,wpAny_pure h⟩))
  | (refine hex ?_;refine wpAny_bind (wpAny_rule ?_);exact wpAny_pure ⟨_,rfl,wpAny_pure h⟩)
end
end HT
end
section
namespace L2
open PySem PySem.Spec PyProof.Rows
section
variable {X:Cx}
noncomputable def cutD (ds:List D) (lo hi:Option Int):List D:=(ds.drop (HT.iz ds.length 0 lo)).take (HT.iz ds.length ds.length hi - HT.iz ds.length 0 lo)
theorem bS.gj {H:Hp}{vs:List V}{ds:List D}{i:Int}{d:D}(r:bS H vs ds) (h:L2.gj ds i=some d):∃v,L2.gj vs i=some v/\Rep H v d:=by
 have hl:=r.length
 unfold L2.gj at h ⊢
 rw[hl]
 cases e:CS ds.length i with
 | none=>rw[e] at h;cases h
 | some j=>
  rw[e] at h
  exact r.get h
end
theorem Bl {scope:Scope}{env:Env}{n:Str}{k:NameKind}(h:(relabel scope env).names.lookup n=some k):(n,k)∈(relabel scope env).names:=PySem.mem_of_lookup h
theorem kX {X:Cx}{x:Str}{scope:Scope}(h1:∀y∈scope.names,y.2≠.free) (h2:∀y∈scope.names,y.2≠.cell) (h3:scope.kind= .function) (h4:∀y∈scope.names,y.2= .local->scope.names.lookup y.1=some .local) (h5:scope.names.lookup x=some .local):
  jU X x [] [] scope []:=by
 refine⟨closureFor_none h1,h2,h3,h4,h5,fun n c h=>(by cases h),fun n h=>?_,by simp,rfl,fun j n h=>(by simp at h),fun n h=>(by simp at h)⟩
 have no:∀k,(k=NameKind.cell\/k=NameKind.free)->(relabel scope X.env).names.lookup n≠some k:=fun k hk e=>by
  have m:=Bl e
  unfold relabel at m
  obtain⟨⟨n',k'⟩,hm,q⟩:=List.mem_map.mp m
  have z:(k' == NameKind.free)=false:=by simpa using h1 _ hm
  simp only[z,Bool.false_and,if_false] at q
  have q2:k'=k:=by
   have:=congrArg Prod.snd q
   simpa using this
  rcases hk with rfl | rfl
  ·exact h2 _ hm q2
  ·exact h1 _ hm q2
 rcases h with h | h
 ·exact absurd h (no _ (.inl rfl))
 ·exact absurd h (no _ (.inr rfl))
mutual
noncomputable def Hq (n:Nat):D->Prop
 | .str z=>z.length<=n
 | .tup ds=>ds.length<=n/\Fits n ds
 | .lst ds=>ds.length<=n/\Fits n ds
 | .dW=>True
 | .bl _=>True
 | .int _=>True
noncomputable def Fits (n:Nat):List D->Prop
 | []=>True
 | d :: ds=>Hq n d/\Fits n ds
end
noncomputable def kY (d:D) (l m:Int):Bool:=match d with
 | .int i=>decide (l<=i) && decide (i<=m)
 | _=>false
theorem lookup_some {α : Type} : ∀ {l : List (Str × α)} {n : Str}, n ∈ l.map (·.1) -> ∃ c, l.lookup n = some c
  | [],_,h=>by simp at h
  | (m, c) :: l, n, h => by
    rw[List.lookup_cons]
    cases e:n == m with
    | true=>exact⟨c,rfl⟩
    | false=>
      rcases List.mem_cons.mp h with h | h
      . have h:n=m:=h
        rw[h,beq_self_eq_true] at e
        cases e
      . exact lookup_some h
theorem vals3 {x y z:V}{us:List Value}(r:Vals [x,y,z] us):∃u v w',us=[u,v,w']/\RelV x u/\RelV y v/\RelV z w':=by
 cases r with
 | cons r1 r=>
  obtain⟨v,w',rfl,r2,r3⟩:=vals2 r
  exact⟨_,_,_,rfl,r1,r2,r3⟩
theorem FA {X:Cx}(hc:X.calm=true):iY X (.builtin "min") (fun xs H Q=>∃i j k:Int,xs=[.int i,.int j,.int k]/\Q (.int (if j < i then(if k < j then k else j) else if k < i then k else i)) H):=by
 intro pins s σ H xs us Q I r h
 obtain⟨i,j,k,rfl,q⟩:=h
 obtain⟨u,v,w',rfl,⟨t,rfl⟩,⟨t',rfl⟩,⟨t'',rfl⟩⟩:=vals3 r
 refine min_three_ints (I.ok.hd hc) fun h' tk kk=>⟨_,H,I.kept kk,?_,q⟩
 by_cases h1:j < i
 ·rw[if_pos h1,if_pos h1]
  by_cases h2:k < j
  ·rw[if_pos h2,if_pos h2];exact⟨_,rfl⟩
  ·rw[if_neg h2,if_neg h2];exact⟨_,rfl⟩
 ·rw[if_neg h1,if_neg h1]
  by_cases h2:k < i
  ·rw[if_pos h2,if_pos h2];exact⟨_,rfl⟩
  ·rw[if_neg h2,if_neg h2];exact⟨_,rfl⟩
mutual
noncomputable def toPy:D->PyData
 | .dW=>.none
 | .bl b=>.bool b
 | .int i=>.int i
 | .str z=>.str z
 | .tup ds=>.tuple (IK ds)
 | .lst ds=>.list (IK ds)
noncomputable def IK:List D->List PyData
 | []=>[]
 | d :: ds=>toPy d :: IK ds
end
section
variable {X:Cx}{pins:List (Addr×Obj)}{σ:St}{H:Hp}{s:Shared}
end
inductive MO where
 | lst (ds:List D)
 | dct (kvs:List (Key×D))
 | cS (kvs:List (D×D))
 | ins (C:Addr) (kvs:List (Str×D))
inductive U where
 | t (d:D) | m (o:MO) | b (o:MO) | v (i:Nat) | s (ns:List Int) | f (a:Addr)
noncomputable abbrev SS:=List (Option U)
noncomputable def Sub (F H:Hp):Prop:=∀a o,F a=some o->H a=some o
noncomputable def iT {κ:Type}(F:Hp) (p:κ×V) (q:κ×D):Prop:=p.1=q.1/\Rep F p.2 q.2
noncomputable def At (F H:Hp) (a:Addr):MO->Prop
 | .lst ds=>∃vs,H a=some (.lst vs)/\bS F vs ds
 | .dct kvs=>∃ws,H a=some (.dK ws)/\Paired (iT F) ws kvs
 | .cS kvs=>∃ws,H a=some (.dT ws)/\Paired (iT F) ws kvs
 | .ins C kvs=>∃ws,(∃dx,H a=some (.ins C dx ws))/\Paired (iT F) ws kvs
noncomputable def ir:U->Bool
 | .m _=>true
 | .b _=>true
 | _=>false
noncomputable def dQ (S:SS) (σ:St) (a:Addr):Prop:=∃(i:Nat) (u:U),S[i]? =some (some u)/\ir u=true/\σ[i]? =some (some (.ref a))
noncomputable def Mp (K:PySem.W.Frag) (H:Hp) (a:Addr) (ns:List Int):Prop:=
 (∃o,H a=some (.lP o (.lst (ns.map V.int))))\/∃(o:Obj) (its:Array Value) (n:Nat),K.lookup a=some o/\o.cls= .type "list"/\o.dict=none/\o.data= .seq its n/\its.size<=sizeLine/\Vals (ns.map V.int) its.toList
theorem Mp.sq {K:PySem.W.Frag}{H:Hp}{a:Addr}{ns:List Int}:Mp K H a ns->m6 K H a (ns.map V.int)
 | .inl h=>.inl (.inr h)
 | .inr h=>.inr h
noncomputable def v8 (K:PySem.W.Frag) (F H:Hp) (v:V):U->Prop
 | .t d=>Rep F v d
 | .m o=>∃a,v= .ref a/\F a=none/\At F H a o
 | .b o=>∃a,v= .ref a/\F a=none/\At F H a o
 | .v _=>False
 | .s ns=>∃a,v= .ref a/\Mp K H a ns
 | .f a=>v= .ref a
structure Ext (M:Addr->Prop) (F H F' H':Hp):Prop where
 le:∀b o,F b=some o->F' b=some o
 keep:∀b o,H b=some o->¬M b->H' b=some o
 kB:∀b o,H b=some o->¬M b->F b=none->F' b=none
 there:∀b o,H b=some o->∃o',H' b=some o'
 lP:∀b o u,H b=some (.lP o u)->H' b=some (.lP o u)
structure Base where
 P:List (Option Addr)
 F:Hp
 H:Hp
noncomputable def Base.M (B:Base) (a:Addr):Prop:=some a∈B.P
structure Rel (K:PySem.W.Frag) (B:Base) (S:SS) (σ:St) (F H:Hp):Prop where
 sub:Sub F H
 len:S.length=σ.length
 rep:∀(i:Nat) u,S[i]? =some (some u)->∃v,σ[i]? =some (some v)/\v8 K F H v u
 Ej:∀(i j:Nat) u w a,S[i]? =some (some u)->ir u=true->S[j]? =some (some w)->ir w=true->σ[i]? =some (some (.ref a))->σ[j]? =some (some (.ref a))->i=j
 own:∀(i:Nat) o a,S[i]? =some (some (.m o))->σ[i]? =some (some (.ref a))->B.H a=none
 bor:∀(i:Nat) o a,S[i]? =some (some (.b o))->σ[i]? =some (some (.ref a))->B.M a
 par:∀(i:Nat) a,B.P[i]? =some (some a)->σ[i]? =some (some (.ref a))/\∃o,S[i]? =some (some (.b o))
 ext:Ext B.M B.F B.H F H
structure Step (S S':SS) (σ:St) (F H F' H':Hp):Prop where
 ext:Ext (dQ S σ) F H F' H'
 mu:∀a,dQ S' σ a->dQ S σ a
 slots:∀(i:Nat) u,S[i]? =some (some u)->∃u',S'[i]? =some (some u')
theorem Ext.refl (M:Addr->Prop) (F H:Hp):Ext M F H F H:=⟨fun _ _ h=>h,fun _ _ h _=>h,fun _ _ _ _ h=>h,fun _ o h=>⟨o,h⟩,fun _ _ _ h=>h⟩
theorem Ext.trans {M M':Addr->Prop}{F H F1 H1 F2 H2:Hp}(x:Ext M F H F1 H1) (y:Ext M' F1 H1 F2 H2) (s:∀b,M' b->M b\/H b=none):Ext M F H F2 H2 where
 le:=fun b o h=>y.le b o (x.le b o h)
 keep:=fun b o h n=>y.keep b o (x.keep b o h n) fun q=>(s b q).elim n fun z=>by rw[h] at z;cases z
 kB:=fun b o h n f=>y.kB b o (x.keep b o h n) (fun q=>(s b q).elim n fun z=>by rw[h] at z;cases z) (x.kB b o h n f)
 there:=fun b o h=>let⟨o',h'⟩:=x.there b o h;y.there b o' h'
 lP:=fun b o u h=>y.lP b o u (x.lP b o u h)
theorem Step.refl (S:SS) (σ:St) (F H:Hp):Step S S σ F H F H:=⟨Ext.refl _ _ _,fun _ h=>h,fun _ u h=>⟨u,h⟩⟩
theorem Step.trans {S S1 S2:SS}{σ:St}{F H F1 H1 F2 H2:Hp}(x:Step S S1 σ F H F1 H1) (y:Step S1 S2 σ F1 H1 F2 H2):Step S S2 σ F H F2 H2:=
 ⟨x.ext.trans y.ext fun b q=>.inl (x.mu b q),fun a q=>x.mu a (y.mu a q),fun i u h=>let⟨u',h'⟩:=x.slots i u h;y.slots i u' h'⟩
mutual
theorem Rep.le {F F':Hp}(g:∀b o,F b=some o->F' b=some o):∀{v:V}{d:D},Rep F v d->Rep F' v d
 | _,_,.dW=>.dW
 | _,_,.bl b=>.bl b
 | _,_,.int i=>.int i
 | _,_,.str z=>.str z
 | _,_,.tup e r=>.tup (g _ _ e) (bS.le g r)
 | _,_,.lst e r=>.lst (g _ _ e) (bS.le g r)
theorem bS.le {F F':Hp}(g:∀b o,F b=some o->F' b=some o):∀{vs:List V}{ds:List D},bS F vs ds->bS F' vs ds
 | _,_,.nil=>.nil
 | _,_,.cons r rs=>.cons (Rep.le g r) (bS.le g rs)
end
theorem v9 {κ:Type}{F F':Hp}(g:∀b o,F b=some o->F' b=some o){ws:List (κ×V)}{kvs:List (κ×D)}(r:Paired (iT F) ws kvs):Paired (iT F') ws kvs:=
 Paired.Fb r fun _ _ z=>⟨z.1,z.2.le g⟩
theorem At.le {F F' H H':Hp}{a:Addr}(g:∀b o,F b=some o->F' b=some o) (k:∀o,H a=some o->H' a=some o):∀{o:MO},At F H a o->At F' H' a o
 | .lst _,⟨vs,e,r⟩=>⟨vs,k _ e,r.le g⟩
 | .dct _,⟨ws,e,r⟩=>⟨ws,k _ e,v9 g r⟩
 | .cS _,⟨ws,e,r⟩=>⟨ws,k _ e,v9 g r⟩
 | .ins _ _,⟨ws,⟨dx,e⟩,r⟩=>⟨ws,⟨dx,k _ e⟩,v9 g r⟩
theorem At.has {F H:Hp}{a:Addr}:∀{o:MO},At F H a o->∃u,H a=some u
 | .lst _,⟨_,e,_⟩=>⟨_,e⟩
 | .dct _,⟨_,e,_⟩=>⟨_,e⟩
 | .cS _,⟨_,e,_⟩=>⟨_,e⟩
 | .ins _ _,⟨_,⟨_,e⟩,_⟩=>⟨_,e⟩
noncomputable def kD (K:PySem.W.Frag) (B:Base) (S:SS) (σ:St) (H0 F H:Hp) (v:V):U->Prop
 | .t d=>Rep F v d
 | .m o=>∃a,v= .ref a/\H0 a=none/\F a=none/\At F H a o/\¬dQ S σ a/\B.H a=none
 | .v i=>σ[i]? =some (some v)/\∃u,S[i]? =some (some u)
 | .b _=>False
 | .s ns=>∃a,v= .ref a/\Mp K H a ns
 | .f a=>v= .ref a
theorem PE.imp {X:Cx}{e:Expr}{t t':TE}(h:PE X e t) (k:∀σ H Q,t' σ H Q->t σ H Q):PE X e t':=fun pins s σ H Q I q=>h pins s σ H Q I (k σ H Q q)
theorem PT.imp {X:Cx}{e:Expr}{t t':TT}(h:PT X e t) (k:∀σ H Q,t' σ H Q->t σ H Q):PT X e t':=fun pins s σ H Q I q=>h pins s σ H Q I (k σ H Q q)
theorem PW.imp {X:Cx}{e:Expr}{t t':TT}(h:PW X e t) (k:∀σ H Q,t' σ H Q->t σ H Q):PW X e t':=fun w pins s σ H Q I q=>h w pins s σ H Q I (k σ H Q q)
theorem PA.imp {X:Cx}{e:List Expr}{t t':TA}(h:PA X e t) (k:∀σ H Q,t' σ H Q->t σ H Q):PA X e t':=fun p pins s σ H Q I q=>h p pins s σ H Q I (k σ H Q q)
theorem PS.imp {X:Cx}{e:Stmt}{t t':TS}(h:PS X e t) (k:∀D σ H,t' D σ H->t D σ H):PS X e t':=fun pins s σ H Q I q=>h pins s σ H Q I (k Q σ H q)
theorem CG.imp {X:Cx}{e:List Stmt}{t t':TS}(h:CG X e t) (k:∀D σ H,t' D σ H->t D σ H):CG X e t':=fun pins s σ H Q I q=>h pins s σ H Q I (k Q σ H q)
theorem PE.orelse {X:Cx}{e:Expr}{t:TE}(h:∀σ H Q,t σ H Q->∃t',PE X e t'/\t' σ H Q):PE X e t:=fun pins s σ H Q I q=>let⟨_,h1,h2⟩:=h σ H Q q;h1 pins s σ H Q I h2
theorem PS.orelse {X:Cx}{e:Stmt}{t:TS}(h:∀D σ H,t D σ H->∃t',PS X e t'/\t' D σ H):PS X e t:=fun pins s σ H Q I q=>let⟨_,h1,h2⟩:=h Q σ H q;h1 pins s σ H Q I h2
noncomputable abbrev GE:=SS->Option (U×SS)
noncomputable abbrev GD:=SS->Option (D×SS)
noncomputable abbrev GT:=SS->Option (Bool×SS)
noncomputable abbrev GA:=SS->Option (List D×SS)
inductive Out where
 | nx (S:SS) | rt (u:U) (S:SS) | bk (S:SS) | ct (S:SS)
noncomputable abbrev GS:=SS->Option Out
noncomputable def tE (K:PySem.W.Frag) (B:Base) (g:GE):TE:=fun σ H Q=>∃S F u S',Rel K B S σ F H/\g S=some (u,S')/\∀v F' H',Rel K B S' σ F' H'->Step S S' σ F H F' H'->kD K B S' σ H F' H' v u->Q v H'
noncomputable def tD (K:PySem.W.Frag) (B:Base) (g:GD):TE:=fun σ H Q=>∃S F d S',Rel K B S σ F H/\g S=some (d,S')/\∀v F' H',Rel K B S' σ F' H'->Step S S' σ F H F' H'->Rep F' v d->Q v H'
noncomputable def tQ (K:PySem.W.Frag) (B:Base) (g:GT):TT:=fun σ H Q=>∃S F b S',Rel K B S σ F H/\g S=some (b,S')/\∀F' H',Rel K B S' σ F' H'->Step S S' σ F H F' H'->Q b H'
noncomputable def tAs (K:PySem.W.Frag) (B:Base) (g:GA):TA:=fun σ H Q=>∃S F ds S',Rel K B S σ F H/\g S=some (ds,S')/\∀vs F' H',Rel K B S' σ F' H'->Step S S' σ F H F' H'->bS F' vs ds->Q vs H'
noncomputable def Ek (K:PySem.W.Frag) (B:Base) (F:Hp) (D:Ends):Out->Prop
 | .nx S=>∀σ' F' H',Rel K B S σ' F' H'->(∀b o,F b=some o->F' b=some o)->D.nx σ' H'
 | .bk S=>∀σ' F' H',Rel K B S σ' F' H'->(∀b o,F b=some o->F' b=some o)->D.bk σ' H'
 | .ct S=>∀σ' F' H',Rel K B S σ' F' H'->(∀b o,F b=some o->F' b=some o)->D.ct σ' H'
 | .rt u S=>∀v σ' F' H',Rel K B S σ' F' H'->(∀b o,F b=some o->F' b=some o)->kD K B S σ' B.H F' H' v u->D.rt v H'
noncomputable def tO (K:PySem.W.Frag) (B:Base) (g:GS):TS:=fun D σ H=>∃S F o,Rel K B S σ F H/\g S=some o/\Ek K B F D o
structure JE (X:Cx) (e:Expr) (g:GE):Prop where
 h:∀B,PE X e (tE X.K B g)
structure JD (X:Cx) (e:Expr) (g:GD):Prop where
 h:∀B,PE X e (tD X.K B g)
structure JT (X:Cx) (e:Expr) (g:GT):Prop where
 h:∀B,PT X e (tQ X.K B g)
structure JW (X:Cx) (e:Expr) (g:GT):Prop where
 h:∀B,PW X e (tQ X.K B g)
structure JA (X:Cx) (es:List Expr) (g:GA):Prop where
 h:∀B,PA X es (tAs X.K B g)
structure JS (X:Cx) (st:Stmt) (g:GS):Prop where
 h:∀B,PS X st (tO X.K B g)
structure JB (X:Cx) (st:List Stmt) (g:GS):Prop where
 h:∀B,CG X st (tO X.K B g)
noncomputable def fz:U->SS->Option (D×SS)
 | .t d,S=>some (d,S)
 | .m (.lst ds),S=>some (.lst ds,S)
 | .v i,S=>match S[i]? with
  | some (some (.t d))=>some (d,S)
  | some (some (.m (.lst ds)))=>some (.lst ds,S.set i (some (.t (.lst ds))))
  | _=>none
 | _,_=>none
theorem get_set {α:Type}{l:List α}{i j:Nat}{x y:α}(h:(l.set i x)[j]? =some y):(i=j/\x=y/\i < l.length)\/(i≠j/\l[j]? =some y):=by
 by_cases e:i=j
 ·subst e
  by_cases hl:i < l.length
  ·rw[List.getElem?_set_self hl] at h;exact .inl ⟨rfl,Option.some.inj h,hl⟩
  ·rw[List.getElem?_eq_none (by simpa using hl)] at h;cases h
 ·rw[List.getElem?_set_ne e] at h;exact .inr ⟨e,h⟩
theorem Sub.lP {F H:Hp}{a:Addr}{o:HO}(s:Sub F H) (h:H a=some o):Sub (upd F a o) H:=fun b u e=>by
 by_cases hb:b=a
 ·subst hb;rw[bh] at e;cases e;exact h
 ·rw[aX hb] at e;exact s b u e
theorem Sub.fresh {F H:Hp}{p:Addr}(s:Sub F H) (h:H p=Option.none):F p=Option.none:=by
 cases e:F p with
 | none=>rfl
 | some o=>have q:=s p o e;rw[h] at q;cases q
theorem lZ {F:Hp}{a:Addr}{o:HO}(h:F a=none):∀b u,F b=some u->upd F a o b=some u:=fun b u e=>by rw[aX (bJ e h)];exact e
theorem Mp.le {K:PySem.W.Frag}{H H':Hp}{a:Addr}{ns:List Int}(k:∀b o u,H b=some (.lP o u)->H' b=some (.lP o u)):Mp K H a ns->Mp K H' a ns
 | .inl ⟨o,h⟩=>.inl ⟨o,k _ _ _ h⟩
 | .inr h=>.inr h
theorem v8.le {K:PySem.W.Frag}{F F' H H':Hp}{v:V}(g:∀b o,F b=some o->F' b=some o) (kf:∀b o u,H b=some (.lP o u)->H' b=some (.lP o u)):∀{u:U},v8 K F H v u->(∀a,ir u=true->v= .ref a->(∀o,H a=some o->H' a=some o)/\F' a=none)->v8 K F' H' v u
 | .t _,h,_=>Rep.le g h
 | .m _,⟨a,e,_,h⟩,k=>let⟨k1,k2⟩:=k a rfl e;⟨a,e,k2,h.le g k1⟩
 | .b _,⟨a,e,_,h⟩,k=>let⟨k1,k2⟩:=k a rfl e;⟨a,e,k2,h.le g k1⟩
 | .v _,h,_=>h
 | .s _,⟨a,e,h⟩,_=>⟨a,e,h.le kf⟩
 | .f _,h,_=>h
theorem IL {K : PySem.W.Frag} {B : Base} {S S' : SS} {σ : St} {H0 F0 F H : Hp} {v : V} {u : U} {d : D} {S0 : SS} (R : Rel K B S σ F H) (st : Step S0 S σ F0 H0 F H) (r : kD K B S σ H0 F H v u) (e : fz u S = some (d, S')) :
    ∃F',Rel K B S' σ F' H/\Step S0 S' σ F0 H0 F' H/\Rep F' v d:=by
  cases u with
  | t d'=>cases e;exact⟨F,R,st,r⟩
  | b o=>cases r
  | s o=>cases e
  | f o=>cases e
  | m o =>
    cases o with
    | dct kvs=>cases e
    | cS kvs=>cases e
    | ins C kvs=>cases e
    | lst ds=>
      cases e
      obtain⟨a,rfl,h0,hf,⟨vs,ha,rs⟩,nm,hB⟩:=r
      have g:=lZ (o:=.lst vs) hf
      refine⟨upd F a (.lst vs),⟨R.sub.lP ha,R.len,fun i u h=>?_,R.Ej,R.own,R.bor,R.par,?_⟩,⟨⟨fun b o h=>g b o (st.ext.le b o h),st.ext.keep,fun b o h n f=>?_,st.ext.there,st.ext.lP⟩,st.mu,st.slots⟩,.lst bh (rs.le g)⟩
      . obtain⟨w,h1,h2⟩:=R.rep i u h
        refine⟨w,h1,h2.le g (fun _ _ _ z=>z) fun c hm hc=>⟨fun o q=>q,?_⟩⟩
        have hca:c≠a:=fun z=>nm ⟨i,u,h,hm,by rw[h1,hc,z]⟩
        rw[aX hca]
        cases u with
        | m o=>obtain⟨c',e',f',_⟩:=h2;rw[hc] at e';cases e';exact f'
        | b o=>obtain⟨c',e',f',_⟩:=h2;rw[hc] at e';cases e';exact f'
        | t d=>cases hm
        | v j=>cases hm
        | s j=>cases hm
        | f j=>cases hm
      . exact⟨fun b o h=>g b o (R.ext.le b o h),R.ext.keep,fun b o h n f=>by rw[aX (fun z=>by rw[z,hB] at h;cases h)];exact R.ext.kB b o h n f,R.ext.there,R.ext.lP⟩
      . rw[aX (fun z=>by rw[z,h0] at h;cases h)]
        exact st.ext.kB b o h n f
  | v i =>
    obtain⟨hv,u,hu⟩:=r
    unfold fz at e
    simp only[hu] at e
    cases u with
    | t d'=>
      cases e
      obtain⟨w,h1,h2⟩:=R.rep i _ hu
      rw[hv] at h1
      cases h1
      exact⟨F,R,st,h2⟩
    | b o=>cases e
    | v j=>cases e
    | s j=>cases e
    | f j=>cases e
    | m o =>
      cases o with
      | dct kvs=>cases e
      | cS kvs=>cases e
      | ins C kvs=>cases e
      | lst ds =>
        cases e
        obtain⟨w,h1,a,rfl,hf,⟨vs,ha,rs⟩⟩:=R.rep i _ hu
        have hiv:σ[i]? =some (some (.ref a)):=h1
        rw[hv] at h1
        cases h1
        have hB:=R.own i _ a hu hiv
        have g:=lZ (o:=.lst vs) hf
        have back:∀j w,(S.set i (some (.t (.lst ds))))[j]? =some (some w)->ir w=true->i≠j/\S[j]? =some (some w):=fun j w h hm=>by
          rcases get_set h with⟨_,q,_⟩ | q
          . cases q;cases hm
          . exact q
        have mu:∀c,dQ (S.set i (some (.t (.lst ds)))) σ c->dQ S σ c:=fun c ⟨j,w,h,hm,z⟩=>⟨j,w,(back j w h hm).2,hm,z⟩
        refine⟨upd F a (.lst vs),⟨R.sub.lP ha,by rw[List.length_set];exact R.len,fun j u h=>?_,fun j k u w c h1 m1 h2 m2=>R.Ej j k u w c (back j u h1 m1).2 m1 (back k w h2 m2).2 m2,fun j o c h=>R.own j o c (back j _ h rfl).2,fun j o c h=>R.bor j o c (back j _ h rfl).2,fun j c h=>?_,?_⟩,
          ⟨⟨fun b o h=>g b o (st.ext.le b o h),st.ext.keep,fun b o h n f=>?_,st.ext.there,st.ext.lP⟩,fun c q=>st.mu c (mu c q),fun j u h=>?_⟩,.lst bh (rs.le g)⟩
        . rcases get_set h with⟨rfl,q,_⟩ | ⟨ne,q⟩
          . cases q
            exact⟨.ref a,hiv,.lst bh (rs.le g)⟩
          . obtain⟨w,h1,h2⟩:=R.rep j u q
            refine⟨w,h1,h2.le g (fun _ _ _ z=>z) fun c hm hc=>⟨fun o q=>q,?_⟩⟩
            have hca:c≠a:=fun z=>ne (R.Ej i j _ u a hu rfl q hm hiv (by rw[h1,hc,z]))
            rw[aX hca]
            cases u with
            | m o=>obtain⟨c',e',f',_⟩:=h2;rw[hc] at e';cases e';exact f'
            | b o=>obtain⟨c',e',f',_⟩:=h2;rw[hc] at e';cases e';exact f'
            | t d=>cases hm
            | v j=>cases hm
            | s j=>cases hm
            | f j=>cases hm
        . obtain⟨h1,o,h2⟩:=R.par j c h
          refine⟨h1,o,?_⟩
          have ne:i≠j:=fun z=>by subst z;rw[hu] at h2;cases h2
          rw[List.getElem?_set_ne ne]
          exact h2
        . exact⟨fun b o h=>g b o (R.ext.le b o h),R.ext.keep,fun b o h n f=>by rw[aX (fun z=>by rw[z,hB] at h;cases h)];exact R.ext.kB b o h n f,R.ext.there,R.ext.lP⟩
        . have hb:b≠a:=fun z=>n (st.mu b ⟨i,_,hu,rfl,by rw[z];exact hiv⟩)
          rw[aX hb]
          exact st.ext.kB b o h n f
        . obtain⟨u',h'⟩:=st.slots j u h
          by_cases hj:i=j
          . subst hj
            exact⟨.t (.lst ds),List.getElem?_set_self (List.getElem?_eq_some_iff.mp h').1⟩
          . exact⟨u',by rw[List.getElem?_set_ne hj];exact h'⟩
noncomputable def eF (g:GE):GD:=fun S=>(g S).bind fun p=>fz p.1 p.2
theorem JE.d {X:Cx}{e:Expr}{g:GE}(h:JE X e g):JD X e (eF g):=⟨fun B=>(h.h B).imp fun σ H Q ⟨S,F,d,S',R,hg,q⟩=>by
 unfold eF at hg
 cases e1:g S with
 | none=>rw[e1] at hg;cases hg
 | some p=>
  obtain⟨u,S1⟩:=p
  rw[e1] at hg
  refine⟨S,F,u,S1,R,e1,fun v F1 H1 R1 st1 r1=>?_⟩
  obtain⟨F2,R2,st2,r2⟩:=IL R1 st1 r1 hg
  exact q v F2 H1 R2 st2 r2⟩
noncomputable def eT (g:GD):GE:=fun S=>(g S).map fun p=>(.t p.1,p.2)
theorem JD.e {X:Cx}{e:Expr}{g:GD}(h:JD X e g):JE X e (eT g):=⟨fun B=>(h.h B).imp fun σ H Q ⟨S,F,u,S',R,hg,q⟩=>by
 unfold eT at hg
 cases e1:g S with
 | none=>rw[e1] at hg;cases hg
 | some p=>
  obtain⟨d,S1⟩:=p
  rw[e1] at hg
  cases hg
  exact⟨S,F,d,S1,R,e1,fun v F1 H1 R1 st1 r1=>q v F1 H1 R1 st1 r1⟩⟩
structure iI (F H F' H':Hp):Prop where
 le:∀b o,F b=some o->F' b=some o
 same:∀b o,H b=some o->H' b=some o
 kB:∀b o,H b=some o->F b=none->F' b=none
theorem iI.refl (F H:Hp):iI F H F H:=⟨fun _ _ h=>h,fun _ _ h=>h,fun _ _ _ h=>h⟩
theorem iI.step {S:SS}{σ:St}{F H F' H':Hp}(n:iI F H F' H'):Step S S σ F H F' H':=
 ⟨⟨n.le,fun b o h _=>n.same b o h,fun b o h _ f=>n.kB b o h f,fun b o h=>⟨o,n.same b o h⟩,fun b o u h=>n.same b _ h⟩,fun _ h=>h,fun _ u h=>⟨u,h⟩⟩
theorem iI.obj {F H:Hp}{p:Addr}(h:H p=none) (o:HO):iI F H F (upd H p o):=
 ⟨fun _ _ q=>q,fun b u q=>by rw[aX (bJ q h)];exact q,fun _ _ _ q=>q⟩
theorem Sub.same {F H H':Hp}(s:Sub F H) (k:∀b o,H b=some o->H' b=some o):Sub F H':=fun a o e=>k a o (s a o e)
theorem Sub.tK {F H:Hp}{p:Addr}{o:HO}(s:Sub F H) (h:H p=none):Sub (upd F p o) (upd H p o):=fun b u e=>by
 by_cases hb:b=p
 ·subst hb;rw[bh] at e;cases e;exact bh
 ·rw[aX hb] at e;have q:=s b u e;rw[aX (bJ q h)];exact q
theorem iI.root {F H:Hp}{p:Addr}(s:Sub F H) (h:H p=none) (o:HO):iI F H (upd F p o) (upd H p o):=
 ⟨lZ (s.fresh h),fun b u q=>by rw[aX (bJ q h)];exact q,fun b u q f=>by rw[aX (bJ q h)];exact f⟩
theorem Rel.has {K:PySem.W.Frag}{B:Base}{S:SS}{σ:St}{F H:Hp}(R:Rel K B S σ F H){a:Addr}(m:dQ S σ a):∃o,H a=some o:=by
 obtain⟨i,u,h,hm,hv⟩:=m
 obtain⟨v,h1,h2⟩:=R.rep i u h
 rw[hv] at h1
 cases h1
 cases u with
 | t d=>cases hm
 | v j=>cases hm
 | s j=>cases hm
 | f j=>cases hm
 | m o=>obtain⟨b,e,_,h⟩:=h2;cases e;exact h.has
 | b o=>obtain⟨b,e,_,h⟩:=h2;cases e;exact h.has
theorem Rel.new {K:PySem.W.Frag}{B:Base}{S:SS}{σ:St}{F H F' H':Hp}(R:Rel K B S σ F H) (n:iI F H F' H') (s:Sub F' H'):Rel K B S σ F' H' where
 sub:=s
 len:=R.len
 rep:=fun i u h=>by
  obtain⟨v,h1,h2⟩:=R.rep i u h
  refine⟨v,h1,h2.le n.le (fun b o u z=>n.same b _ z) fun a hm ha=>⟨fun o q=>n.same a o q,?_⟩⟩
  obtain⟨o,ho⟩:=R.has ⟨i,u,h,hm,by rw[h1,ha]⟩
  refine n.kB a o ho ?_
  cases u with
  | t d=>cases hm
  | v j=>cases hm
  | s j=>cases hm
  | f j=>cases hm
  | m o=>obtain⟨b,e,f,_⟩:=h2;rw[ha] at e;cases e;exact f
  | b o=>obtain⟨b,e,f,_⟩:=h2;rw[ha] at e;cases e;exact f
 Ej:=R.Ej
 own:=R.own
 bor:=R.bor
 par:=R.par
 ext:=⟨fun b o h=>n.le b o (R.ext.le b o h),fun b o h m=>n.same b o (R.ext.keep b o h m),fun b o h m f=>n.kB b o (R.ext.keep b o h m) (R.ext.kB b o h m f),fun b o h=>let⟨o',h'⟩:=R.ext.there b o h;⟨o',n.same b o' h'⟩,fun b o u h=>n.same b _ (R.ext.lP b o u h)⟩
noncomputable def CY (H0 F H:Hp) (v:V):U->Prop
 | .t d=>Rep F v d
 | .m o=>∃a,v= .ref a/\H0 a=none/\F a=none/\At F H a o
 | _=>False
theorem none_of {H H':Hp}{a:Addr}(t:∀b o,H b=some o->∃o',H' b=some o') (h:H' a=none):H a=none:=by
 cases e:H a with
 | none=>rfl
 | some o=>obtain⟨o',h'⟩:=t a o e;rw[h] at h';cases h'
theorem CY.IM {K:PySem.W.Frag}{B:Base}{S S0:SS}{σ:St}{H0 F0 F1 H1 F H:Hp}{v:V}{u:U}(R:Rel K B S σ F1 H1) (st:Step S0 S σ F0 H0 F1 H1) (r:CY H1 F H v u):kD K B S σ H0 F H v u:=by
 cases u with
 | t d=>exact r
 | b o=>cases r
 | v i=>cases r
 | s i=>cases r
 | f i=>cases r
 | m o=>
  obtain⟨a,e,h0,f,h⟩:=r
  refine⟨a,e,none_of st.ext.there h0,f,h,fun m=>?_,none_of R.ext.there h0⟩
  obtain⟨o,ho⟩:=R.has m
  rw[h0] at ho
  cases ho
noncomputable def rP (f:List D->Option U):List V->Hp->VK->Prop:=fun xs H Q=>∃F ds u,Sub F H/\bS F xs ds/\f ds=some u/\∀v F' H',iI F H F' H'->Sub F' H'->CY H F' H' v u->Q v H'
noncomputable def wc:D->Bool
 | .tup _=>false
 | .lst _=>false
 | _=>true
noncomputable def toV:D->V
 | .bl b=>.bl b
 | .int i=>.int i
 | .str z=>.str z
 | _=>.dW
theorem Bm {F:Hp}:∀{d:D},wc d=true->Rep F (toV d) d
 | .dW,_=>.dW
 | .bl b,_=>.bl b
 | .int i,_=>.int i
 | .str z,_=>.str z
 | .tup _,h=>by cases h
 | .lst _,h=>by cases h
noncomputable def aj (i:Nat):GE:=fun S=>match S[i]? with
 | some (some (.t d))=>some (.t d,S)
 | some (some (.s d))=>some (.s d,S) | some (some (.f d))=>some (.f d,S)
 | some (some _)=>some (.v i,S)
 | _=>none
noncomputable def eC (d:D):GD:=fun S=>some (d,S)
noncomputable def aq:GA:=fun S=>some ([],S)
noncomputable def aa (g:GD) (ga:GA):GA:=fun S=>(g S).bind fun p=>(ga p.2).map fun q=>(p.1 :: q.1,q.2)
noncomputable def eP (f:List D->Option U) (ga:GA):GE:=fun S=>(ga S).bind fun p=>(f p.1).map fun u=>(u,p.2)
section
variable {X:Cx}{a b c e:Expr}{es:List Expr}{pos p p2:Pos}{x:Str}{g ga gb gc:GD}{gA:GA}{f f':List D->Option U}
theorem ah (i:Nat) (hN:X.N[i]? =some x:=by rfl) (hv:CJ X.env.scope x:=by first | exact Or.inl rfl | exact Or.inr (Or.inl rfl) | exact Or.inr (Or.inr rfl)) (hd:(x == ("__debug__":Str))=false:=by decide)
  (hcd:(x == ("__classdict__":Str))=false:=by decide):JE X (.Name x pos) (aj i):=⟨fun B=>(iy hN hv hd hcd).imp fun σ H Q ⟨S,F,u,S',R,hg,q⟩=>by
 unfold aj at hg
 cases hs:S[i]? with
 | none=>rw[hs] at hg;cases hg
 | some o=>
  cases o with
  | none=>rw[hs] at hg;cases hg
  | some w=>
   rw[hs] at hg
   obtain⟨v,h1,h2⟩:=R.rep i w hs
   refine⟨v,h1,?_⟩
   cases w with
   | t d=>cases hg;exact q v F H R (Step.refl ..) h2
   | m o=>cases hg;exact q v F H R (Step.refl ..) ⟨h1,_,hs⟩
   | b o=>cases hg;exact q v F H R (Step.refl ..) ⟨h1,_,hs⟩
   | s j=>cases hg;exact q v F H R (Step.refl ..) h2
   | f j=>cases hg;exact q v F H R (Step.refl ..) h2
   | v j=>cases hg;exact q v F H R (Step.refl ..) ⟨h1,_,hs⟩⟩
theorem Qj {d:D}(hf:wc d=true) (h:PE X e (tC (toV d))):JD X e (eC d):=⟨fun B=>h.imp fun σ H Q ⟨S,F,u,S',R,hg,q⟩=>by
 cases hg
 exact q _ F H R (Step.refl ..) (Bm hf)⟩
theorem az {i j}:JD X (.Constant (.int i) j pos) (eC (.int i)):=Qj rfl Pb
theorem nH {i j}:JD X (.Constant (.bool i) j pos) (eC (.bl i)):=Qj rfl TV
theorem aT {i j}:JD X (.Constant (.str i) j pos) (eC (.str i)):=Qj rfl HB
theorem aZ:JA X [] aq:=⟨fun B=>vQ.imp fun σ H Q ⟨S,F,u,S',R,hg,q⟩=>by
 cases hg
 exact q [] F H R (Step.refl ..) .nil⟩
theorem ak {α β:Type}{o:Option α}{f:α->Option β}{y:β}(h:o.bind f=some y):∃z,o=some z/\f z=some y:=by
 cases o with
 | none=>cases h
 | some z=>exact⟨z,rfl,h⟩
theorem aC {α β:Type}{o:Option α}{f:α->β}{y:β}(h:o.map f=some y):∃z,o=some z/\f z=y:=by
 cases o with
 | none=>cases h
 | some z=>exact⟨z,rfl,Option.some.inj h⟩
theorem aA (h:JD X e g) (hr:JA X es gA) (hs:starEach (e :: es) X.env=(false,eval e X.env) :: starEach es X.env:=by rfl):JA X (e :: es) (aa g gA):=
 ⟨fun B=>(m8 (h.h B) (hr.h B) hs).imp fun σ H Q ⟨S,F,u,S',R,hg,q⟩=>by
 obtain⟨⟨d,S1⟩,h1,hg⟩:=ak hg
 obtain⟨⟨ds,S2⟩,h2,hg⟩:=aC hg
 cases hg
 exact⟨S,F,d,S1,R,h1,fun v F1 H1 R1 st1 r1=>⟨S1,F1,ds,S2,R1,h2,fun vs F2 H2 R2 st2 r2=>q _ F2 H2 R2 (st1.trans st2) (.cons (r1.le st2.ext.le) r2)⟩⟩⟩
theorem jC {K:PySem.W.Frag}{B:Base}{σ:St}{H:Hp}{Q:VK}{r:List V->Hp->VK->Prop}(hr:∀vs H1 Q1,rP f vs H1 Q1->r vs H1 Q1) (h:tE K B (eP f gA) σ H Q):tAs K B gA σ H fun vs H1=>r vs H1 Q:=by
 obtain⟨S,F,u,S',R,hg,q⟩:=h
 obtain⟨⟨ds,S1⟩,h1,hg⟩:=ak hg
 obtain⟨u',h2,hg⟩:=aC hg
 cases hg
 exact⟨S,F,ds,S1,R,h1,fun vs F1 H1 R1 st1 r1=>hr _ _ _ ⟨F1,ds,_,R1.sub,r1,h2,fun v F2 H2 n s2 r2=>q v F2 H2 (R1.new n s2) (st1.trans n.step) (r2.IM R1 st1)⟩⟩
theorem rC {id:String}(hc:iY X (.builtin id) (rP f)) (hg:Gl X x) (hm:X.mg x=none) (hv:bootBuiltins x=some (.builtin id)) (ha:JA X (e :: es) gA) (hn:x≠"__name__":=by decide) (hdb:(x == ("__debug__":Str))=false:=by decide)
  (he:starEach (e :: es) X.env=(false,eval e X.env) :: starEach es X.env:=by rfl) (hpl:(backTo pos (starEach es X.env)).any (·.1)=false:=by rfl):JE X (.Call (.Name x p) (e :: es) [] pos) (eP f gA):=
 ⟨fun B=>(nW hc hg hm hv (ha.h B) hn hdb he hpl).imp fun σ H Q h=>jC (fun _ _ _ z=>z) h⟩
theorem kM {T:String}(hc:iY X (.type T) (rP f)) (hg:Gl X x) (hm:X.mg x=none) (hv:bootBuiltins x=some (.type T)) (ha:JA X (e :: es) gA) (hn:x≠"__name__":=by decide) (hdb:(x == ("__debug__":Str))=false:=by decide)
  (he:starEach (e :: es) X.env=(false,eval e X.env) :: starEach es X.env:=by rfl) (hpl:(backTo pos (starEach es X.env)).any (·.1)=false:=by rfl):JE X (.Call (.Name x p) (e :: es) [] pos) (eP f gA):=
 ⟨fun B=>(yW hc hg hm hv (ha.h B) hn hdb he hpl).imp fun σ H Q h=>jC (fun _ _ _ z=>z) h⟩
noncomputable abbrev CH (X:Cx) (o:Value->Value->Sem Value) (f:List D->Option U):Prop:=xT X o (fun x y H Q=>rP f [x,y] H Q)
theorem rD {K:PySem.W.Frag}{B:Base}{σ:St}{H:Hp}{Q:VK}(h:tE K B (eP f (aa ga (aa gb aq))) σ H Q):Pp (fun x y H Q=>rP f [x,y] H Q) (tD K B ga) (tD K B gb) σ H Q:=by
 obtain⟨S,F,u,S',R,hg,q⟩:=h
 obtain⟨⟨ds,S1⟩,h1,hg⟩:=ak hg
 obtain⟨u',h2,hg⟩:=aC hg
 cases hg
 obtain⟨⟨d1,T1⟩,k1,h1⟩:=ak h1
 obtain⟨⟨ds2,T2⟩,k2,h1⟩:=aC h1
 cases h1
 obtain⟨⟨d2,T3⟩,k3,k2⟩:=ak k2
 obtain⟨⟨ds3,T4⟩,k4,k2⟩:=aC k2
 cases k2
 cases k4
 exact⟨S,F,d1,T1,R,k1,fun v1 F1 H1 R1 st1 r1=>⟨T1,F1,d2,_,R1,k3,fun v2 F2 H2 R2 st2 r2=>⟨F2,_,_,R2.sub,.cons (r1.le st2.ext.le) (.cons r2 .nil),h2,fun v F3 H3 n s3 r3=>q v F3 H3 (R2.new n s3) ((st1.trans st2).trans n.step) (r3.IM R2 (st1.trans st2))⟩⟩⟩
theorem bW {op:Operator}(ho:CH X (binaryOp op) f) (ha:JD X a ga) (hb:JD X b gb):JE X (.BinOp a op b pos) (eP f (aa ga (aa gb aq))):=
 ⟨fun B=>(Ug ho (ha.h B) (hb.h B)).imp fun σ H Q h=>rD h⟩
theorem gm {op:CmpOp}(ho:CH X (compareOp op) f) (ha:JD X a ga) (hb:JD X b gb) (hm:behindInMarks op b=false:=by first | exact HP _ | rfl):JE X (.Compare a [op] [b] pos) (eP f (aa ga (aa gb aq))):=
 ⟨fun B=>(zP ho (ha.h B) (hb.h B) hm).imp fun σ H Q h=>rD h⟩
theorem we {op:UnaryOp}(ho:Ue X (unaryOp op) (fun x H Q=>rP f [x] H Q)) (ha:JD X a ga):JE X (.UnaryOp op a pos) (eP f (aa ga aq)):=
 ⟨fun B=>(Uh ho (ha.h B)).imp fun σ H Q h=>by
 obtain⟨S,F,u,S',R,hg,q⟩:=h
 obtain⟨⟨ds,S1⟩,h1,hg⟩:=ak hg
 obtain⟨u',h2,hg⟩:=aC hg
 cases hg
 obtain⟨⟨d1,T1⟩,k1,h1⟩:=ak h1
 obtain⟨⟨ds2,T2⟩,k2,h1⟩:=aC h1
 cases h1
 cases k2
 exact⟨S,F,d1,_,R,k1,fun v1 F1 H1 R1 st1 r1=>⟨F1,_,_,R1.sub,.cons r1 .nil,h2,fun v F3 H3 n s3 r3=>q v F3 H3 (R1.new n s3) (st1.trans n.step) (r3.IM R1 st1)⟩⟩⟩
theorem kq (hr:Ic X (fun x y H Q=>rP f [x,y] H Q)) (ha:JD X a ga) (hb:JD X b gb) (hs:zU b):JE X (.Subscript a b pos) (eP f (aa ga (aa gb aq))):=
 ⟨fun B=>(Ie hr (ha.h B) (hb.h B) hs).imp fun σ H Q h=>rD h⟩
noncomputable def iA:List D->Option U:=fun ds=>if ds.length<=100000 then some (.t (.tup ds)) else none
noncomputable def gB:List D->Option U:=fun ds=>if ds.length<=100000 then some (.m (.lst ds)) else none
theorem kE {n:Nat}(h:n<=100000):n<=sizeLine:=Nat.le_trans h (by decide)
end
section
variable {X:Cx}{a b c e:Expr}{es:List Expr}{pos p p2:Pos}{x:Str}{g ga gb gc:GD}{gA:GA}{f f':List D->Option U}
theorem dX {x1}(h:JA X es gA):JE X (.Tuple es x1 pos) (eP iA gA):=
 ⟨fun B=>(PJ (h.h B)).imp fun σ H Q z=>jC (r:=fun xs H1 Q=>xs.length<=sizeLine/\∀p,H1 p=none->Q (.ref p) (upd H1 p (.tup xs))) (fun vs H1 Q1 ⟨F,ds,u,sb,rs,hf,q⟩=>by
 unfold iA at hf
 split at hf
 ·rename_i hl
  cases hf
  refine⟨by rw[rs.length];exact kE hl,fun p hp=>?_⟩
  exact q _ _ _ (iI.root sb hp _) (sb.tK hp) (.tup bh (rs.le (lZ (sb.fresh hp))))
 ·cases hf) z⟩
theorem fu (h:JA X es gA):JE X (.List es pos) (eP gB gA):=
 ⟨fun B=>(PK (h.h B)).imp fun σ H Q z=>jC (r:=fun xs H1 Q=>xs.length<=sizeLine/\∀p,H1 p=none->Q (.ref p) (upd H1 p (.lst xs))) (fun vs H1 Q1 ⟨F,ds,u,sb,rs,hf,q⟩=>by
 unfold gB at hf
 split at hf
 ·rename_i hl
  cases hf
  refine⟨by rw[rs.length];exact kE hl,fun p hp=>?_⟩
  exact q _ F _ (iI.obj hp _) (sb.same (iI.obj (F:=F) hp _).same) ⟨p,rfl,hp,sb.fresh hp,vs,bh,rs⟩
 ·cases hf) z⟩
noncomputable def qB (g:GD):GT:=fun S=>(g S).bind fun p=>match p.1 with
 | .bl k=>some (k,p.2)
 | _=>none
noncomputable def wg (g:GT):GT:=fun S=>(g S).map fun p=>(!p.1,p.2)
noncomputable def mH (g h:GT):GT:=fun S=>(g S).bind fun p=>if p.1 then h p.2 else some (false,p.2)
noncomputable def wj (g h:GT):GT:=fun S=>(g S).bind fun p=>if p.1 then some (true,p.2) else h p.2
noncomputable def eQ (g:GT):GD:=fun S=>(g S).map fun p=>(.bl p.1,p.2)
theorem lW {S:SS}{k:Bool}{S':SS}(h:qB g S=some (k,S')):g S=some (.bl k,S'):=by
 obtain⟨⟨d,S1⟩,h1,h⟩:=ak h
 cases d <;> cases h
 exact h1
theorem mh {F:Hp}{v:V}{k:Bool}(r:Rep F v (.bl k)):v= .bl k:=by cases r;rfl
theorem iJ {F:Hp}{v:V}{i:Int}(r:Rep F v (.int i)):v= .int i:=by cases r;rfl
theorem El {F:Hp}{v:V}{i:Str}(r:Rep F v (.str i)):v= .str i:=by cases r;rfl
theorem z4 (h:JD X e g) (he:∀whole,isTrue e X.env whole=(do let v <-whole;standAt e.pos;holding [v] (truthy v)):=by intro _;rfl):JT X e (qB g):=
 ⟨fun B=>(Pc (h.h B) he).imp fun σ H Q ⟨S,F,k,S',R,hg,q⟩=>⟨S,F,.bl k,S',R,lW hg,fun v F' H' R' st r=>⟨k,mh r,q F' H' R' st⟩⟩⟩
theorem UM {K:PySem.W.Frag}{B:Base}{gE:GE}{σ:St}{H:Hp}{Q:VK}(h:tD K B (eF gE) σ H Q):tE K B gE σ H Q:=by
 obtain⟨S,F,d,S',R,hg,q⟩:=h
 obtain⟨⟨u,S1⟩,h1,hg⟩:=ak hg
 refine⟨S,F,u,S1,R,h1,fun v F1 H1 R1 st1 r1=>?_⟩
 obtain⟨F2,R2,st2,r2⟩:=IL R1 st1 r1 hg
 exact q v F2 H1 R2 st2 r2
theorem bF {op:CmpOp}(ho:CH X (compareOp op) f) (ha:JD X a ga) (hb:JD X b gb) (hm:behindInMarks op b=false:=by first | exact HP _ | rfl):JT X (.Compare a [op] [b] pos) (qB (eF (eP f (aa ga (aa gb aq))))):=
 ⟨fun B=>(LX ho (ha.h B) (hb.h B) hm).imp fun σ H Q ⟨S,F,k,S',R,hg,q⟩=>rD (UM ⟨S,F,.bl k,S',R,lW hg,fun v F' H' R' st r=>⟨k,mh r,q F' H' R' st⟩⟩)⟩
theorem IP {q1:GT}(h:JT X a q1):JT X (.UnaryOp .Not a pos) (wg q1):=
 ⟨fun B=>(Pd (h.h B)).imp fun σ H Q ⟨S,F,k,S',R,hg,q⟩=>by
 obtain⟨⟨d,S1⟩,h1,hg⟩:=aC hg
 cases hg
 exact⟨S,F,d,_,R,h1,fun F' H' R' st=>q F' H' R' st⟩⟩
theorem kZ {q1:GT}(h:JT X a q1):JW X (.BoolOp .And [a] pos) q1:=⟨fun B=>pw_and1 (h.h B)⟩
theorem mJ {q1:GT}(h:JT X a q1):JW X (.BoolOp .Or [a] pos) q1:=⟨fun B=>pw_or1 (h.h B)⟩
theorem wk {r:List Expr}{q1 q2:GT}(h:JT X a q1) (hr:JW X (.BoolOp .And (b :: r) pos) q2):JW X (.BoolOp .And (a :: b :: r) pos) (mH q1 q2):=
 ⟨fun B=>(pw_and (h.h B) (hr.h B)).imp fun σ H Q ⟨S,F,k,S',R,hg,q⟩=>by
 obtain⟨⟨d,S1⟩,h1,hg⟩:=ak hg
 refine⟨S,F,d,S1,R,h1,fun F1 H1 R1 st1=>?_⟩
 cases d with
 | true=>exact zX ⟨S1,F1,k,S',R1,hg,fun F2 H2 R2 st2=>q F2 H2 R2 (st1.trans st2)⟩
 | false=>cases hg;exact zW (q F1 H1 R1 st1)⟩
theorem wm {r:List Expr}{q1 q2:GT}(h:JT X a q1) (hr:JW X (.BoolOp .Or (b :: r) pos) q2):JW X (.BoolOp .Or (a :: b :: r) pos) (wj q1 q2):=
 ⟨fun B=>(pw_or (h.h B) (hr.h B)).imp fun σ H Q ⟨S,F,k,S',R,hg,q⟩=>by
 obtain⟨⟨d,S1⟩,h1,hg⟩:=ak hg
 refine⟨S,F,d,S1,R,h1,fun F1 H1 R1 st1=>?_⟩
 cases d with
 | false=>exact zW ⟨S1,F1,k,S',R1,hg,fun F2 H2 R2 st2=>q F2 H2 R2 (st1.trans st2)⟩
 | true=>cases hg;exact zX (q F1 H1 R1 st1)⟩
theorem JW.t {q1:GT}(h:JW X e q1):JT X e q1:=⟨fun B=>(h.h B).pt⟩
theorem ng {op}(h:JD X a g):JD X (.BoolOp op [a] pos) (eQ (qB g)):=⟨fun B=>(Pe (h.h B)).imp fun σ H Q ⟨S,F,k,S',R,hg,q⟩=>by
 obtain⟨⟨d,S1⟩,h1,hg⟩:=aC hg
 cases hg
 exact⟨S,F,.bl d,_,R,lW h1,q⟩⟩
theorem qE {r:List Expr}{q2:GT}(h:JD X a g) (hr:JD X (.BoolOp .And (b :: r) pos) (eQ q2)):JD X (.BoolOp .And (a :: b :: r) pos) (eQ (mH (qB g) q2)):=
 ⟨fun B=>(Pf (h.h B) (hr.h B)).imp fun σ H Q ⟨S,F,k,S',R,hg,q⟩=>by
 obtain⟨⟨d,S1⟩,h1,hg⟩:=aC hg
 cases hg
 obtain⟨⟨d1,S2⟩,h1,h2⟩:=ak h1
 refine⟨S,F,.bl d1,S2,R,lW h1,fun v F1 H1 R1 st1 r1=>⟨d1,mh r1,?_⟩⟩
 cases d1 with
 | true=>
  have h2:q2 S2=some (d,S1):=h2
  exact zX ⟨S2,F1,.bl d,S1,R1,by show(q2 S2).map _=_;rw[h2];rfl,fun v F2 H2 R2 st2 r2=>q v F2 H2 R2 (st1.trans st2) r2⟩
 | false=>cases h2;exact zW (q _ F1 H1 R1 st1 (.bl false))⟩
theorem IQ {r:List Expr}{q2:GT}(h:JD X a g) (hr:JD X (.BoolOp .Or (b :: r) pos) (eQ q2)):JD X (.BoolOp .Or (a :: b :: r) pos) (eQ (wj (qB g) q2)):=
 ⟨fun B=>(TZ (h.h B) (hr.h B)).imp fun σ H Q ⟨S,F,k,S',R,hg,q⟩=>by
 obtain⟨⟨d,S1⟩,h1,hg⟩:=aC hg
 cases hg
 obtain⟨⟨d1,S2⟩,h1,h2⟩:=ak h1
 refine⟨S,F,.bl d1,S2,R,lW h1,fun v F1 H1 R1 st1 r1=>⟨d1,mh r1,?_⟩⟩
 cases d1 with
 | false=>
  have h2:q2 S2=some (d,S1):=h2
  exact zW ⟨S2,F1,.bl d,S1,R1,by show(q2 S2).map _=_;rw[h2];rfl,fun v F2 H2 R2 st2 r2=>q v F2 H2 R2 (st1.trans st2) r2⟩
 | true=>cases h2;exact zX (q _ F1 H1 R1 st1 (.bl true))⟩
theorem IS (h:JD X a g):JD X (.UnaryOp .Not a pos) (eQ (wg (qB g))):=⟨fun B=>(Pg (h.h B)).imp fun σ H Q ⟨S,F,k,S',R,hg,q⟩=>by
 obtain⟨⟨d,S1⟩,h1,hg⟩:=aC hg
 cases hg
 obtain⟨⟨d1,S2⟩,h3,h2⟩:=aC h1
 cases h2
 exact⟨S,F,.bl d1,_,R,lW h3,fun v F1 H1 R1 st1 r1=>⟨d1,mh r1,q _ F1 H1 R1 st1 (.bl _)⟩⟩⟩
noncomputable def Qk (q:GT) (g h:GE):GE:=fun S=>(q S).bind fun p=>if p.1 then g p.2 else h p.2
theorem kD.weak {K:PySem.W.Frag}{B:Base}{S:SS}{σ:St}{H0 H1 F H:Hp}{v:V}(t:∀b o,H0 b=some o->∃o',H1 b=some o'):∀{u:U},kD K B S σ H1 F H v u->kD K B S σ H0 F H v u
 | .t _,h=>h
 | .s _,h=>h
 | .f _,h=>h
 | .m _,⟨a,e,h0,h⟩=>⟨a,e,none_of t h0,h⟩
 | .v _,h=>h
 | .b _,h=>h
theorem IT {q1:GT}{g1 g2:GE}(hc:JT X c q1) (ha:JE X a g1) (hb:JE X b g2):JE X (.IfExp c a b pos) (Qk q1 g1 g2):=
 ⟨fun B=>(HE (hc.h B) (ha.h B) (hb.h B)).imp fun σ H Q ⟨S,F,u,S',R,hg,q⟩=>by
 obtain⟨⟨d,S1⟩,h1,hg⟩:=ak hg
 refine⟨S,F,d,S1,R,h1,fun F1 H1 R1 st1=>?_⟩
 cases d with
 | true=>exact zX ⟨S1,F1,u,S',R1,hg,fun v F2 H2 R2 st2 r2=>q v F2 H2 R2 (st1.trans st2) (r2.weak st1.ext.there)⟩
 | false=>exact zW ⟨S1,F1,u,S',R1,hg,fun v F2 H2 R2 st2 r2=>q v F2 H2 R2 (st1.trans st2) (r2.weak st1.ext.there)⟩⟩
noncomputable def eCh (f f':List D->Option U) (ga gb gc:GD):GD:=fun S=>(ga S).bind fun p=>(gb p.2).bind fun q=>match f [p.1,q.1] with
 | some (.t (.bl k))=>if k then(gc q.2).bind fun r=>match f' [q.1,r.1] with
   | some (.t (.bl k'))=>some (.bl k',r.2)
   | _=>none
  else some (.bl false,q.2)
 | _=>none
end
theorem cJ {α:Type}{c:Prop}{i:Decidable c}{x w:α}(h:(@ite _ c i (some x) none)=some w):c/\x=w:=by
 by_cases hc:c
 ·rw[if_pos hc] at h;exact⟨hc,Option.some.inj h⟩
 ·rw[if_neg hc] at h;cases h
theorem zb {α:Type}{c:Prop}{i:Decidable c}{x:Option α}{w:α}(h:(@ite _ c i x none)=some w):c/\x=some w:=by
 by_cases hc:c
 ·rw[if_pos hc] at h;exact⟨hc,h⟩
 ·rw[if_neg hc] at h;cases h
theorem IU {F:Hp}{x:V}{ds:List D}(r:bS F [x] ds):∃d,ds=[d]/\Rep F x d:=by
 cases r with
 | cons r rs=>cases rs;exact⟨_,rfl,r⟩
theorem wu {F:Hp}{x y:V}{ds:List D}(r:bS F [x,y] ds):∃d e,ds=[d,e]/\Rep F x d/\Rep F y e:=by
 cases r with
 | cons r rs=>obtain⟨e,rfl,r2⟩:=IU rs;exact⟨_,e,rfl,r,r2⟩
noncomputable def LH (C:Int->Int->Bool) (h:Int->Int->D):List D->Option U
 | [.int i,.int j]=>if C i j then some (.t (h i j)) else none
 | _=>none
section
variable {X:Cx}
theorem wz {o:Value->Value->Sem Value}{C:Int->Int->Bool}{h:Int->Int->D}{r:R2}(hr:xT X o r) (k:∀i j H Q,C i j=true->Q (toV (h i j)) H->r (.int i) (.int j) H Q) (hf:∀i j,wc (h i j)=true):CH X o (LH C h):=by
 intro pins s σ H x y v u Q I rx ry ⟨F,ds,w,sb,rs,hw,q⟩
 obtain⟨d,e,rfl,r1,r2⟩:=wu rs
 cases r1 <;> cases r2 <;> try (simp[LH] at hw;done)
 rename_i i j
 obtain⟨hc,rfl⟩:=cJ hw
 exact hr pins s σ H _ _ v u Q I rx ry (k i j H Q hc (q _ F H (iI.refl ..) sb (Bm (hf i j))))
noncomputable abbrev p9:=LH (fun _ _=>true) fun i j=>.int (i - j)
noncomputable abbrev z5:=LH (fun _ _=>true) fun i j=>.bl (decide (i < j))
noncomputable abbrev Ql:=LH (fun _ _=>true) fun i j=>.bl (decide (j < i))
noncomputable abbrev Mq:=LH (fun _ j=>decide (0 < j) && decide (j < 1073741824)) fun i j=>.int (i / j)
noncomputable abbrev oq:=LH (fun _ j=>decide (0 < j)) fun i j=>.int (i % j)
noncomputable abbrev UO:=LH (fun i j=>decide (0<=j) && (decide (j<=1000) && decide (i.natAbs < 2 ^ 64))) fun i j=>.int (i ^ j.toNat)
theorem gI:CH X (binaryOp .Sub) p9:=wz Pw (fun i j H Q _ q=>⟨i,j,rfl,rfl,q⟩) fun _ _=>rfl
theorem mj:CH X (compareOp .Lt) z5:=wz Ul (fun i j H Q _ q=>⟨i,j,rfl,rfl,q⟩) fun _ _=>rfl
theorem tL:CH X (compareOp .Gt) Ql:=wz Um (fun i j H Q _ q=>⟨i,j,rfl,rfl,q⟩) fun _ _=>rfl
theorem z6:CH X (binaryOp .FloorDiv) Mq:=wz LW (fun i j H Q c q=>⟨i,j,rfl,rfl,by simpa[Uk] using c,q⟩) fun _ _=>rfl
theorem jV:CH X (binaryOp .Mod) oq:=wz Py (fun i j H Q c q=>⟨i,j,rfl,rfl,by simpa using c,q⟩) fun _ _=>rfl
theorem Mr:CH X (binaryOp .Pow) UO:=wz Pz (fun i j H Q c q=>⟨i,j,rfl,rfl,by
 simp only[Bool.and_eq_true,decide_eq_true_eq] at c
 exact⟨c.1,Int.le_trans c.2.1 (by decide),c.2.2⟩,q⟩) fun _ _=>rfl
theorem Sub.kr {F H:Hp}{v:V}{ds:List D}(s:Sub F H) (r:Rep F v (.tup ds)):∃a vs,v= .ref a/\F a=some (.tup vs)/\Rd H a (.tup vs)/\bS F vs ds:=by
 cases r with
 | tup e rs=>exact⟨_,_,rfl,e,Rd.of (s _ _ e),rs⟩
theorem Sub.jY {F H:Hp}{v:V}{ds:List D}(s:Sub F H) (r:Rep F v (.lst ds)):∃a vs,v= .ref a/\F a=some (.lst vs)/\Rd H a (.lst vs)/\bS F vs ds:=by
 cases r with
 | lst e rs=>exact⟨_,_,rfl,e,Rd.of (s _ _ e),rs⟩
theorem _root_.L2.Rd.Bh {pins:List (Addr×Obj)}{σ:St}{H:Hp}{s:Shared}(I:Inv X pins σ H s){l:Addr}{xs:List V}(h:Rd H l (.lst xs)):
  xs.length<=sizeLine/\∃its n,Vals xs its/\xs.length=its.length/\s.heap.get? l=some {cls:=.type "list",data:=.seq its.toArray n}:=by
 obtain⟨z,its,n,r,e⟩:=(h.ok I.hok:eL X.prog X.w H s.heap l (.lst xs))
 exact⟨z,its,n,r,r.length,e⟩
noncomputable def dB:List D->Option U
 | [.int i,.int j]=>some (.t (.int (i+j)))
 | [.str i,.str j]=>if i.length+j.length<=100000 then some (.t (.str (i++j))) else none
 | [.tup i,.tup j]=>if i.length+j.length<=100000 then some (.t (.tup (i++j))) else none
 | [.lst i,.lst j]=>if i.length+j.length<=100000 then some (.m (.lst (i++j))) else none
 | _=>none
theorem cH : CH X (binaryOp .Add) dB := by
  intro pins s σ H x y v u Q I rx ry ⟨F,ds,w,sb,rs,hw,q⟩
  obtain⟨d,e,rfl,r1,r2⟩:=wu rs
  cases d <;> cases e <;> try (simp[dB] at hw;done)
  . rename_i i j
    cases hw
    cases r1
    cases r2
    exact Pu pins s σ H _ _ v u Q I rx ry ⟨i,j,rfl,rfl,q _ F H (iI.refl ..) sb (.int _)⟩
  . rename_i i j
    obtain⟨hl,rfl⟩:=cJ hw
    cases r1
    cases r2
    exact CN pins s σ H _ _ v u Q I rx ry ⟨i,j,rfl,rfl,kE hl,q _ F H (iI.refl ..) sb (.str _)⟩
  . rename_i i j
    obtain⟨hl,rfl⟩:=cJ hw
    have rb2:=r2
    have rb1:=r1
    obtain⟨a,xs,rfl,fa,ha,rE⟩:=sb.kr r1
    obtain⟨b,ys,rfl,fb,hb,LI⟩:=sb.kr r2
    by_cases hx:xs=[]
    . subst hx
      cases rE
      cases rx
      cases ry
      obtain⟨its,r1',p1,_⟩:=I.tuple (.inl ha)
      obtain⟨its2,r2',p2,_⟩:=I.tuple (.inl hb)
      cases r1'
      obtain⟨⟨cls,dd,data,sl⟩,ho,hc,n,hd⟩:=id p1
      obtain⟨⟨YR,dd2,data2,sl2⟩,ho2,hc2,n2,hd2⟩:=id p2
      simp only at hc hd hc2 hd2
      subst hc hd hc2 hd2
      exact concat_meets ⟨_,ho,rfl⟩ ⟨_,ho2,rfl⟩ noFill_tuple_add seq_tuple_add PySem.F.slot_tuple_add PySem.F.entry_tuple_add (PySem.F.args_tuple_add_2 _ _)
        (tuple_addW0 a b _ _ n n2 dd dd2 sl sl2 (by simp)) ⟨ho,ho2,⟨.ref b,H,I,rfl,q _ F H (iI.refl ..) sb rb2⟩⟩
    . refine Mf pins s σ H (.ref a) (.ref b) v u Q I rx ry ⟨a,b,xs,ys,rfl,rfl,.inl ha,.inl hb,hx,?_,fun hy=>?_,fun hy p hp=>?_⟩
      . rw[rE.length,LI.length];exact kE hl
      . subst hy
        cases LI
        exact q _ F H (iI.refl ..) sb (by show Rep F (.ref a) (.tup (i++[]));rw[List.append_nil];exact rb1)
      . exact q _ _ _ (iI.root sb hp _) (sb.tK hp) (.tup bh ((rE.append LI).le (lZ (sb.fresh hp))))
  . rename_i i j
    obtain⟨hl,rfl⟩:=cJ hw
    obtain⟨a,xs,rfl,fa,ha,rE⟩:=sb.jY r1
    obtain⟨b,ys,rfl,fb,hb,LI⟩:=sb.jY r2
    cases rx
    cases ry
    obtain⟨z,its,n,r,hl1,e⟩:=Rd.Bh I ha
    obtain⟨z2,its2,n2,r2,hl2,e2⟩:=Rd.Bh I hb
    have hlen:xs.length+ys.length<=sizeLine:=by rw[rE.length,LI.length];exact kE hl
    refine PySem.P.add_list e e2 ?_ (by rw[List.size_toArray,List.size_toArray];omega)
    have ea:its.toArray++its2.toArray=(its++its2).toArray:=by simp
    rw[ea]
    have hp:H s.heap.objs.size=none:=I.fresh
    refine⟨.ref _,_,I.UG (t':=s.toks) (r.append r2) (by rw[List.length_append];omega),rfl,?_⟩
    exact q _ F _ (iI.obj hp _) (sb.same (iI.obj (F:=F) hp _).same) ⟨_,rfl,hp,sb.fresh hp,_,bh,rE.append LI⟩
noncomputable def rF:List D->Option U:=LH (fun i j=>(decide (-(2 ^ 64) < i) && decide (i < 2 ^ 64)) || (decide (-(2 ^ 64) < j) && decide (j < 2 ^ 64))) fun i j=>.int (i * j)
theorem pN:CH X (binaryOp .Mult) rF:=wz Px (fun i j H Q c q=>⟨i,j,rfl,rfl,by
 simp only[Bool.or_eq_true,Bool.and_eq_true,decide_eq_true_eq] at c
 exact c,q⟩) fun _ _=>rfl
noncomputable def qb:List D->Option U
 | [.int i]=>some (.t (.int (-i)))
 | _=>none
theorem nh:Ue X (unaryOp .USub) (fun x H Q=>rP qb [x] H Q):=by
 intro pins s σ H x v Q I rx ⟨F,ds,w,sb,rs,hw,q⟩
 obtain⟨d,rfl,r1⟩:=IU rs
 cases r1 <;> try (simp[qb] at hw;done)
 rename_i i
 cases hw
 exact PB pins s σ H _ v Q I rx ⟨i,rfl,q _ F H (iI.refl ..) sb (.int _)⟩
noncomputable def tM:List D->Option U
 | [.tup ds,.int i]=>(gj ds i).map .t
 | [.lst ds,.int i]=>(gj ds i).map .t
 | [.str z,.int i]=>if z.length<=100000 then(gj z.cps.toList i).map fun c=>.t (.str ⟨#[c]⟩) else none
 | _=>none
theorem qc:Ic X (fun x y H Q=>rP tM [x,y] H Q):=by
 intro value slice pins s σ H x y v u Q I rx ry ⟨F,ds,w,sb,rs,hw,q⟩ hsb
 obtain⟨d,e,rfl,r1,r2⟩:=wu rs
 cases d <;> cases e <;> try (simp[tM] at hw;done)
 ·rename_i z i
  obtain⟨hl,hw⟩:=zb hw
  obtain⟨c,hc,hw⟩:=aC hw
  subst hw
  cases r1
  cases r2
  exact Ih value slice pins s σ H _ _ v u Q I rx ry ⟨z,i,c,rfl,rfl,kE hl,hc,q _ F H (iI.refl ..) sb (.str _)⟩ hsb
 ·rename_i ds i
  obtain⟨c,hc,hw⟩:=aC (show(gj ds i).map U.t=some w from hw)
  subst hw
  obtain⟨a,xs,rfl,fa,ha,rE⟩:=sb.kr r1
  cases r2
  obtain⟨w',h1,h2⟩:=rE.gj hc
  exact Ig value slice pins s σ H _ _ v u Q I rx ry ⟨a,xs,i,w',rfl,rfl,.inl ha,h1,q _ F H (iI.refl ..) sb h2⟩ hsb
 ·rename_i ds i
  obtain⟨c,hc,hw⟩:=aC (show(gj ds i).map U.t=some w from hw)
  subst hw
  obtain⟨a,xs,rfl,fa,ha,rE⟩:=sb.jY r1
  cases r2
  obtain⟨w',h1,h2⟩:=rE.gj hc
  exact Ed value slice pins s σ H _ _ v u Q I rx ry ⟨a,xs,i,w',rfl,rfl,.inl ha,h1,q _ F H (iI.refl ..) sb h2⟩ hsb
noncomputable def Bo:List D->Option U
 | [.tup ds]=>some (.t (.int ds.length))
 | [.lst ds]=>some (.t (.int ds.length))
 | [.str z]=>if z.length<=100000 then some (.t (.int z.length)) else none
 | _=>none
theorem FD:iY X (.builtin "len") (rP Bo):=by
 intro pins s σ H xs us Q I r ⟨F,ds,w,sb,rs,hw,q⟩
 match xs,ds,rs with
 | [],[],_=>exact absurd hw (by simp[Bo])
 | [x],_,rs=>
  obtain⟨d,rfl,r1⟩:=IU rs
  cases d <;> try (simp[Bo] at hw;done)
  ·rename_i z
   obtain⟨hl,rfl⟩:=cJ hw
   cases r1
   exact rA pins s σ H _ us Q I r ⟨z,rfl,kE hl,q _ F H (iI.refl ..) sb (.int _)⟩
  ·cases hw
   obtain⟨a,xs,rfl,fa,ha,rE⟩:=sb.kr r1
   exact m9 pins s σ H _ us Q I r ⟨a,xs,rfl,.inr (.inl ha),by rw[rE.length];exact q _ F H (iI.refl ..) sb (.int _)⟩
  ·cases hw
   obtain⟨a,xs,rfl,fa,ha,rE⟩:=sb.jY r1
   exact m9 pins s σ H _ us Q I r ⟨a,xs,rfl,.inl (.inl ha),by rw[rE.length];exact q _ F H (iI.refl ..) sb (.int _)⟩
 | _ :: _ :: _,[],rs=>cases rs
 | _ :: _ :: _,[_],rs=>cases rs with | cons _ rs=>cases rs
 | _ :: _ :: _,_ :: _ :: _,_=>exact absurd hw (by simp[Bo])
end
noncomputable def rG (i:Nat) (u:U) (S:SS):Option SS:=match S[i]? with
 | some (some (.b _))=>none
 | some _=>some (S.set i (some u))
 | none=>none
theorem FE {i:Nat}{u:U}{S S':SS}(h:rG i u S=some S'):S'=S.set i (some u)/\i < S.length/\∀o,S[i]?≠some (some (.b o)):=by
 unfold rG at h
 cases e:S[i]? with
 | none=>rw[e] at h;cases h
 | some w=>
  have hl:i < S.length:=(List.getElem?_eq_some_iff.mp e).1
  rw[e] at h
  cases w with
  | none=>cases h;exact⟨rfl,hl,fun o z=>by cases z⟩
  | some w=>
   cases w with
   | b o=>cases h
   | t d=>cases h;exact⟨rfl,hl,fun o z=>by cases z⟩
   | m d=>cases h;exact⟨rfl,hl,fun o z=>by cases z⟩
   | v d=>cases h;exact⟨rfl,hl,fun o z=>by cases z⟩
   | s d=>cases h;exact⟨rfl,hl,fun o z=>by cases z⟩
   | f d=>cases h;exact⟨rfl,hl,fun o z=>by cases z⟩
noncomputable def OG (B:Base) (S:SS) (σ:St) (F H:Hp) (v:V):U->Prop
 | .t d=>Rep F v d
 | .m o=>∃a,v= .ref a/\F a=none/\At F H a o/\¬dQ S σ a/\B.H a=none
 | _=>False
theorem Rel.put {K : PySem.W.Frag} {B : Base} {S S' : SS} {σ : St} {F H : Hp} {i : Nat} {u : U} {v : V} (R : Rel K B S σ F H) (h : rG i u S = some S') (p : OG B S σ F H v u) : Rel K B S' (σ.set i (some v)) F H := by
  obtain⟨rfl,hl,nb⟩:=FE h
  have hl':i < σ.length:=by rw[<-R.len];exact hl
  have out:∀{j:Nat},i≠j->(σ.set i (some v))[j]? =σ[j]?:=fun ne=>List.getElem?_set_ne ne
  have FF:(σ.set i (some v))[i]? =some (some v):=List.getElem?_set_self hl'
  have OH:∀j w a,i≠j->S[j]? =some (some w)->ir w=true->ir u=true->σ[j]? =some (some (.ref a))->v≠.ref a:=fun j w a ne hj hm hu hv z=>by
    cases u with
    | t d=>cases hu
    | v k=>cases hu
    | s k=>cases hu
    | f k=>cases hu
    | b o=>exact p
    | m o=>
      obtain⟨c,e,_,_,nm,_⟩:=p
      rw[z] at e
      cases e
      exact nm ⟨j,w,hj,hm,hv⟩
  refine⟨R.sub,by rw[List.length_set,List.length_set];exact R.len,fun j w hj=>?_,fun j k w1 w2 a h1 m1 h2 m2 v1 v2=>?_,fun j o a hj hv=>?_,fun j o a hj hv=>?_,fun j a hj=>?_,R.ext⟩
  . rcases get_set hj with⟨rfl,q,_⟩ | ⟨ne,q⟩
    . cases q
      refine⟨v,FF,?_⟩
      cases u with
      | t d=>exact p
      | m o=>obtain⟨a,e,f,h,_⟩:=p;exact⟨a,e,f,h⟩
      | b o=>cases p
      | v k=>cases p
      | s k=>cases p
      | f k=>cases p
    . rw[out ne];exact R.rep j w q
  . rcases get_set h1 with⟨rfl,q1,_⟩ | ⟨ne1,q1⟩
    . rcases get_set h2 with⟨rfl,q2,_⟩ | ⟨ne2,q2⟩
      . rfl
      . cases q1
        rw[FF] at v1
        rw[out ne2] at v2
        cases v1
        exact absurd rfl (OH k w2 a ne2 q2 m2 m1 v2)
    . rcases get_set h2 with⟨rfl,q2,_⟩ | ⟨ne2,q2⟩
      . cases q2
        rw[FF] at v2
        rw[out ne1] at v1
        cases v2
        exact absurd rfl (OH j w1 a ne1 q1 m1 m2 v1)
      . rw[out ne1] at v1
        rw[out ne2] at v2
        exact R.Ej j k w1 w2 a q1 m1 q2 m2 v1 v2
  . rcases get_set hj with⟨rfl,q,_⟩ | ⟨ne,q⟩
    . cases q
      rw[FF] at hv
      cases hv
      obtain⟨c,e,_,_,_,hB⟩:=p
      cases e
      exact hB
    . rw[out ne] at hv;exact R.own j o a q hv
  . rcases get_set hj with⟨rfl,q,_⟩ | ⟨ne,q⟩
    . cases q;cases p
    . rw[out ne] at hv;exact R.bor j o a q hv
  . obtain⟨h1,o,h2⟩:=R.par j a hj
    have ne:i≠j:=fun z=>by subst z;exact nb o h2
    exact⟨by rw[out ne];exact h1,o,by rw[List.getElem?_set_ne ne];exact h2⟩
noncomputable def cF:GS:=fun S=>some (.nx S)
noncomputable def aQ (a b:GS):GS:=fun S=>(a S).bind fun o=>match o with
 | .nx S1=>b S1
 | o=>some o
noncomputable def cG (i:Nat) (g:GE):GS:=fun S=>(g S).bind fun p=>match p.1 with
 | .m o=>(rG i (.m o) p.2).map .nx
 | u=>(fz u p.2).bind fun q=>(rG i (.t q.1) q.2).map .nx
noncomputable def wA (g:GE):GS:=fun S=>(g S).map fun p=>.nx p.2
noncomputable def cu (g:GE):GS:=fun S=>(g S).bind fun p=>match p.1 with
 | .v i=>match p.2[i]? with
  | some (some (.t d))=>some (.rt (.t d) p.2)
  | some (some (.m o))=>some (.rt (.m o) (p.2.set i none))
  | _=>none
 | .s _=>none
 | .f _=>none
 | u=>some (.rt u p.2)
noncomputable def gT (q:GT) (a b:GS):GS:=fun S=>(q S).bind fun p=>if p.1 then a p.2 else b p.2
theorem Ek.mono {K:PySem.W.Frag}{B:Base}{F F1:Hp}{D:Ends}(g:∀b o,F b=some o->F1 b=some o):∀{o:Out},Ek K B F D o->Ek K B F1 D o
 | .nx _,h=>fun σ' F' H' R le=>h σ' F' H' R fun b o z=>le b o (g b o z)
 | .bk _,h=>fun σ' F' H' R le=>h σ' F' H' R fun b o z=>le b o (g b o z)
 | .ct _,h=>fun σ' F' H' R le=>h σ' F' H' R fun b o z=>le b o (g b o z)
 | .rt _ _,h=>fun v σ' F' H' R le=>h v σ' F' H' R fun b o z=>le b o (g b o z)
section
variable {X:Cx}{a b c e:Expr}{pos p p2:Pos}{x:Str}{st:Stmt}{rest b1 b2 body:List Stmt}{g:GE}{s1 s2:GS}{q1:GT}
theorem cz:JB X [] cF:=⟨fun B=>LQ.imp fun D σ H ⟨S,F,o,R,h,k⟩=>by cases h;exact k σ F H R fun _ _ z=>z⟩
theorem aE (h1:JS X st s1) (h2:JB X rest s2):JB X (st :: rest) (aQ s1 s2):=⟨fun B=>(HF (h1.h B) (h2.h B)).imp fun D σ H ⟨S,F,o,R,h,k⟩=>by
 obtain⟨o1,e1,h⟩:=ak h
 refine⟨S,F,o1,R,e1,?_⟩
 cases o1 with
 | nx S1=>exact fun σ' F' H' R' le=>⟨S1,F',o,R',h,k.mono le⟩
 | rt u S1=>cases h;exact k
 | bk S1=>cases h;exact k
 | ct S1=>cases h;exact k⟩
theorem aV (h1:JS X st s1):JB X [st] s1:=⟨fun B=>LR (h1.h B)⟩
theorem kD.put {K:PySem.W.Frag}{B:Base}{S:SS}{σ:St}{H0 F H:Hp}{v:V}{o:MO}(r:kD K B S σ H0 F H v (.m o)):OG B S σ F H v (.m o):=by
 obtain⟨a,e,_,f,h,n,hB⟩:=r
 exact⟨a,e,f,h,n,hB⟩
theorem Em {i:Nat}{K:PySem.W.Frag}{B:Base}{D:Ends}{σ:St}{H:Hp}(h:tO K B (cG i g) D σ H):LV (tE K B g) (uJ i) D σ H:=by
 obtain⟨S,F,o,R,h,k⟩:=h
 obtain⟨⟨u,S1⟩,h1,h⟩:=ak h
 refine⟨S,F,u,S1,R,h1,fun v F1 H1 R1 st1 r1=>?_⟩
 have go:(∀o',u≠.m o')->(fz u S1).bind (fun q=>(rG i (.t q.1) q.2).map Out.nx)=some o->D.nx (σ.set i (some v)) H1:=fun _ h=>by
  obtain⟨⟨d,S2⟩,h2,h⟩:=ak h
  obtain⟨S3,h3,h⟩:=aC h
  subst h
  obtain⟨F2,R2,st2,r2⟩:=IL R1 st1 r1 h2
  exact k _ F2 H1 (R2.put h3 r2) st2.ext.le
 cases u with
 | m o'=>
  obtain⟨S3,h3,h⟩:=aC (show(rG i (.m o') S1).map Out.nx=some o from h)
  subst h
  exact k _ F1 H1 (R1.put h3 r1.put) st1.ext.le
 | t d=>exact go (fun _ z=>by cases z) h
 | b d=>exact go (fun _ z=>by cases z) h
 | s d=>exact go (fun _ z=>by cases z) h
 | f d=>exact go (fun _ z=>by cases z) h
 | v d=>exact go (fun _ z=>by cases z) h
theorem bT {i:Nat}{pos':Pos}(hN:X.N.Nodup) (hi:X.N[i]? =some x) (hx:Loc X.env.scope x) (he:JE X e g) (hs:swapsWith e (some (.Name x pos')) pos.line X.env=pure false:=by rfl)
  (hf:X.fn x=true\/X.env.scope.names.lookup x=some .local:=by first | exact .inl rfl | exact .inr rfl | assumption):JS X (.Assign [.Name x pos'] e pos) (cG i g):=
 ⟨fun B=>(Pn hN hi hx (he.h B) hs hf).imp fun D σ H h=>Em h⟩
theorem rH (he:JE X e g) (hs:swapsWith e none pos.line X.env=pure false:=by rfl):JS X (.Expr e pos) (wA g):=⟨fun B=>(LS (he.h B) hs).imp fun D σ H ⟨S,F,o,R,h,k⟩=>by
 obtain⟨⟨u,S1⟩,h1,h⟩:=aC h
 subst h
 exact⟨S,F,u,S1,R,h1,fun v F1 H1 R1 st1 r1=>k σ F1 H1 R1 st1.ext.le⟩⟩
theorem Rel.drop {K:PySem.W.Frag}{B:Base}{S:SS}{σ:St}{F H:Hp}{i:Nat}{o:MO}(R:Rel K B S σ F H) (h:S[i]? =some (some (.m o))):Rel K B (S.set i none) σ F H:=by
 have back:∀{j w},(S.set i none)[j]? =some (some w)->i≠j/\S[j]? =some (some w):=fun {j w} z=>by
  rcases get_set z with⟨_,q,_⟩ | q
  ·cases q
  ·exact q
 refine⟨R.sub,by rw[List.length_set];exact R.len,fun j w z=>R.rep j w (back z).2,fun j k w1 w2 a h1 m1 h2 m2=>R.Ej j k w1 w2 a (back h1).2 m1 (back h2).2 m2,fun j o a z=>R.own j o a (back z).2,fun j o a z=>R.bor j o a (back z).2,fun j a z=>?_,R.ext⟩
 obtain⟨k1,o',k2⟩:=R.par j a z
 have ne:i≠j:=fun z=>by subst z;rw[h] at k2;cases k2
 exact⟨k1,o',by rw[List.getElem?_set_ne ne];exact k2⟩
theorem bw (he:JE X e g):JS X (.Return (some e) pos) (cu g):=⟨fun B=>(Ph (he.h B)).imp fun D σ H ⟨S,F,o,R,h,k⟩=>by
  obtain⟨⟨u,S1⟩,h1,h⟩:=ak h
  refine⟨S,F,u,S1,R,h1,fun v F1 H1 R1 st1 r1=>?_⟩
  cases u with
  | t d=>cases h;exact k v σ F1 H1 R1 st1.ext.le r1
  | b d=>cases h;cases r1
  | s d=>cases h
  | f d=>cases h
  | m o'=>cases h;exact k v σ F1 H1 R1 st1.ext.le (by obtain⟨a,e,h0,f,h,n,hB⟩:=r1;exact⟨a,e,hB,f,h,n,hB⟩)
  | v i =>
    obtain⟨hv,w,hw⟩:=r1
    dsimp only at h
    rw[hw] at h
    obtain⟨v',z1,z2⟩:=R1.rep i w hw
    rw[hv] at z1
    cases z1
    cases w with
    | t d=>cases h;exact k v σ F1 H1 R1 st1.ext.le z2
    | b d=>cases h
    | v d=>cases h
    | s d=>cases h
    | f d=>cases h
    | m o'=>
      cases h
      obtain⟨a,rfl,f,ha⟩:=z2
      have hB:=R1.own i o' a hw hv
      refine k _ σ F1 H1 (R1.drop hw) st1.ext.le ⟨a,rfl,hB,f,ha,fun⟨j,w,z,hm,hj⟩=>?_,hB⟩
      rcases get_set z with⟨_,q,_⟩ | ⟨ne,q⟩
      . cases q
      . exact ne (R1.Ej i j _ w a hw rfl q hm hv hj)⟩
theorem cK (hc:JT X c q1) (ha:JB X b1 s1) (hb:JB X b2 s2):JS X (.If c b1 b2 pos) (gT q1 s1 s2):=⟨fun B=>(T8 (hc.h B) (ha.h B) (hb.h B)).imp fun D σ H ⟨S,F,o,R,h,k⟩=>by
 obtain⟨⟨d,S1⟩,h1,h⟩:=ak h
 refine⟨S,F,d,S1,R,h1,fun F1 H1 R1 st1=>?_⟩
 cases d with
 | true=>exact zX ⟨S1,F1,o,R1,h,k.mono st1.ext.le⟩
 | false=>exact zW ⟨S1,F1,o,R1,h,k.mono st1.ext.le⟩⟩
noncomputable abbrev GB:=D->SS->Option SS
noncomputable def tBd (K:PySem.W.Frag) (B:Base) (bd:GB):TG:=fun v σ H Q=>∃S F d S',Rel K B S σ F H/\Rep F v d/\bd d S=some S'/\∀σ',Rel K B S' σ' F H->Q σ' H
structure JG (X:Cx) (tg:Expr) (bd:GB):Prop where
 h:∀B,PG X tg (tBd X.K B bd)
noncomputable abbrev LJ:=List D->SS->Option SS
noncomputable def Zp (K:PySem.W.Frag) (B:Base) (bd:LJ):LU:=fun vs σ H Q=>∃S F ds S',Rel K B S σ F H/\bS F vs ds/\bd ds S=some S'/\∀σ',Rel K B S' σ' F H->Q σ' H
structure W8 (X:Cx) (IV:List Expr) (bd:LJ):Prop where
 h:∀B,Ox X IV (Zp X.K B bd)
theorem PG.imp {tg:Expr}{t t':TG}(h:PG X tg t) (k:∀v σ H Q,t' v σ H Q->t v σ H Q):PG X tg t':=fun pins s σ H v u Q I r q=>h pins s σ H v u Q I r (k v σ H Q q)
theorem Ox.imp {tg:List Expr}{t t':LU}(h:Ox X tg t) (k:∀v σ H Q,t' v σ H Q->t v σ H Q):Ox X tg t':=fun pins s σ H v u Q I r q=>h pins s σ H v u Q I r (k v σ H Q q)
noncomputable def bName (i:Nat):GB:=fun d S=>rG i (.t d) S
theorem i8 {i:Nat}(hN:X.N.Nodup) (hi:X.N[i]? =some x) (hx:Loc X.env.scope x) (hf:X.fn x=true\/X.env.scope.names.lookup x=some .local:=by first | exact .inl rfl | exact .inr rfl | assumption):JG X (.Name x pos) (bName i):=
 ⟨fun B=>(vt hN hi hx hf).imp fun v σ H Q ⟨S,F,d,S',R,r,h,k⟩=>k _ (R.put h r)⟩
noncomputable def vd:LJ:=fun ds S=>match ds with
 | []=>some S
 | _=>none
noncomputable def jf (b:GB) (bs:LJ):LJ:=fun ds S=>match ds with
 | d :: r=>(b d S).bind fun S1=>bs r S1
 | []=>none
theorem Aa:W8 X [] vd:=⟨fun B=>D0.imp fun vs σ H Q ⟨S,F,ds,S',R,r,h,k⟩=>by
 cases r with
 | nil=>cases h;exact⟨rfl,k σ R⟩
 | cons _ _=>cases h⟩
theorem mK {tg:Expr}{IV:List Expr}{bd:GB}{UP:LJ}(h1:JG X tg bd) (h2:W8 X IV UP) (hs:(assignEach (tg :: IV) X.env).map (·.2)=assign tg X.env :: (assignEach IV X.env).map (·.2):=by rfl):W8 X (tg :: IV) (jf bd UP):=
 ⟨fun B=>(vP (h1.h B) (h2.h B) hs).imp fun vs σ H Q ⟨S,F,ds,S',R,r,h,k⟩=>by
 cases r with
 | nil=>cases h
 | cons r rs=>
  obtain⟨S1,e1,h⟩:=ak h
  exact⟨_,_,rfl,S,F,_,S1,R,r,e1,fun σ1 R1=>⟨S1,F,_,S',R1,rs,h,k⟩⟩⟩
noncomputable def tN (n:Nat) (bs:LJ):GB:=fun d S=>match d with
 | .tup ds=>if ds.length=n then bs ds S else none
 | _=>none
theorem CZ {IV:List Expr}{k0:Nat}{UP:LJ}{n:Nat}(hc:X.calm=true) (h:W8 X IV UP) (hn:(assignEach IV X.env).length=n:=by rfl) (hst:(assignEach IV X.env).findIdx? (·.1)=none:=by rfl):JG X (.Tuple IV k0 pos) (tN n UP):=
 ⟨fun B=>(HH hc (h.h B) hn hst).imp fun v σ H Q ⟨S,F,d,S',R,r,h,k⟩=>by
 cases d <;> try (cases h)
 rename_i ds
 unfold tN at h
 dsimp only at h
 split at h
 ·rename_i hl
  obtain⟨a,vs,rfl,fa,ha,rs⟩:=R.sub.kr r
  exact⟨a,vs,rfl,.inl ha,by rw[rs.length];exact hl,S,F,ds,S',R,rs,h,k⟩
 ·cases h⟩
noncomputable def Qm (bd:GB) (g:GD):GS:=fun S=>(g S).bind fun p=>(bd p.1 p.2).map .nx
theorem Qn {tg:Expr}{bd:GB}{gd:GD}(he:JD X e gd) (hg:JG X tg bd) (hs:swapsWithSole [tg] e pos.line X.env=pure false:=by rfl) (hw:swappedStores [tg] e X.env=pure none:=by rfl)
  (h1:(assignEach [tg] X.env).map (·.2)=[assign tg X.env]:=by rfl):JS X (.Assign [tg] e pos) (Qm bd gd):=
 ⟨fun B=>(HJ (he.h B) (hg.h B) hs hw h1).imp fun D σ H ⟨S,F,o,R,h,k⟩=>by
 obtain⟨⟨d,S1⟩,e1,h⟩:=ak h
 obtain⟨S2,e2,h⟩:=aC h
 subst h
 exact⟨S,F,d,S1,R,e1,fun v F1 H1 R1 st1 r1=>⟨S1,F1,d,S2,R1,r1,e2,fun σ' R2=>k σ' F1 H1 R2 st1.ext.le⟩⟩⟩
noncomputable def Walk (J:It) (F:Hp) (ds:List D):Prop:=∀F' H',(∀b o,F b=some o->F' b=some o)->Sub F' H'->∀i,(∀d,ds[i]? =some d->J.go i H'/\∀x H2,J.SO i H' x H2->H2=H'/\Rep F' x d)/\(ds.length<=i->J.stop i H')
noncomputable abbrev GI:=SS->Option (List D×SS)
noncomputable def Zq (K:PySem.W.Frag) (B:Base) (gi:GI):TI:=fun σ H R=>∃S F ds S',Rel K B S σ F H/\gi S=some (ds,S')/\∀J F' H',Rel K B S' σ F' H'->Step S S' σ F H F' H'->Walk J F' ds->R J H'
structure JI (X:Cx) (tg e:Expr) (gi:GI):Prop where
 h:∀B,PI X tg e (Zq X.K B gi)
theorem PI.orelse {tg:Expr}{wi:TI}(h:∀σ H R,wi σ H R->∃wi',PI X tg e wi'/\wi' σ H R):PI X tg e wi:=fun pins s σ H R I q=>let⟨_,h1,h2⟩:=h σ H R q;h1 pins s σ H R I h2
noncomputable def yf (g:GD):GI:=fun S=>(g S).bind fun p=>match p.1 with
 | .tup ds=>some (ds,p.2)
 | .lst ds=>some (ds,p.2)
 | _=>none
noncomputable def wB (g:GD):GI:=fun S=>(g S).bind fun p=>match p.1 with
 | .tup ds=>some (ds,p.2)
 | .lst ds=>some (ds,p.2)
 | .str z=>some (z.cps.toList.map fun c=>.str ⟨#[c]⟩,p.2)
 | _=>none
theorem zc {K:PySem.W.Frag}{F:Hp}{a:Addr}{vs:List V}{ds:List D}(fa:F a=some (.lst vs)) (rs:bS F vs ds):Walk (YF K a) F ds:=fun F' H' le sb i=>by
 have ha:m6 K H' a vs:=.inl (Rd.of (sb a _ (le _ _ fa)))
 refine⟨fun d hd=>?_,fun hl=>⟨vs,ha,by rw[rs.length];exact hl⟩⟩
 obtain⟨v,h1,h2⟩:=rs.get hd
 refine⟨⟨vs,v,ha,h1⟩,fun x H2 y=>⟨y.1,?_⟩⟩
 have:=y.2 vs ha
 rw[h1] at this
 cases this
 exact h2.le le
theorem Bp {K:PySem.W.Frag}{F:Hp}{a:Addr}{vs:List V}{ds:List D}(fa:F a=some (.tup vs)) (rs:bS F vs ds):Walk (YG K a) F ds:=fun F' H' le sb i=>by
 have ha:yP K H' a vs:=.inl (Rd.of (sb a _ (le _ _ fa)))
 refine⟨fun d hd=>?_,fun hl=>⟨vs,ha,by rw[rs.length];exact hl⟩⟩
 obtain⟨v,h1,h2⟩:=rs.get hd
 refine⟨⟨vs,v,ha,h1⟩,fun x H2 y=>⟨y.1,?_⟩⟩
 have:=y.2 vs ha
 rw[h1] at this
 cases this
 exact h2.le le
theorem IW {F:Hp}{z:Str}:Walk (Zm z) F (z.cps.toList.map fun c=>.str ⟨#[c]⟩):=fun F' H' le sb i=>by
 refine⟨fun d hd=>?_,fun hl=>(show z.cps.size<=i by simpa using hl)⟩
 rw[List.getElem?_map] at hd
 obtain⟨c,hc,rfl⟩:=aC hd
 have hc':z.cps[i]? =some c:=by rw[<-Array.getElem?_toList];exact hc
 refine⟨(Array.getElem?_eq_some_iff.mp hc').1,fun x H2 y=>⟨y.1,?_⟩⟩
 obtain⟨c2,k1,rfl⟩:=y.2
 rw[hc'] at k1
 cases k1
 exact .str _
theorem IX {tg:Expr}{gd:GD}(h:JD X e gd):JI X tg e (yf gd):=⟨fun B=>PI.orelse fun σ H R0 ⟨S,F,ds,S',R,hg,k⟩=>by
 obtain⟨⟨d,S1⟩,h1,hg⟩:=ak hg
 cases d <;> try (cases hg)
 ·refine⟨_,HK (h.h B),S,F,_,_,R,h1,fun v F1 H1 R1 st1 r1=>?_⟩
  obtain⟨a,vs,rfl,fa,ha,rs⟩:=R1.sub.kr r1
  exact⟨a,rfl,⟨vs,.inl ha⟩,k _ F1 H1 R1 st1 (Bp fa rs)⟩
 ·refine⟨_,D4 (h.h B),S,F,_,_,R,h1,fun v F1 H1 R1 st1 r1=>?_⟩
  obtain⟨a,vs,rfl,fa,ha,rs⟩:=R1.sub.jY r1
  exact⟨a,rfl,⟨vs,.inl ha⟩,k _ F1 H1 R1 st1 (zc fa rs)⟩⟩
theorem tR {gd:GD}(h:JD X e gd):JI X (.Name x pos) e (wB gd):=⟨fun B=>PI.orelse fun σ H R0 ⟨S,F,ds,S',R,hg,k⟩=>by
 obtain⟨⟨d,S1⟩,h1,hg⟩:=ak hg
 cases d <;> try (cases hg)
 ·refine⟨_,Qe (h.h B),S,F,_,_,R,h1,fun v F1 H1 R1 st1 r1=>?_⟩
  exact⟨_,El r1,k _ F1 H1 R1 st1 IW⟩
 ·refine⟨_,HK (h.h B),S,F,_,_,R,h1,fun v F1 H1 R1 st1 r1=>?_⟩
  obtain⟨a,vs,rfl,fa,ha,rs⟩:=R1.sub.kr r1
  exact⟨a,rfl,⟨vs,.inl ha⟩,k _ F1 H1 R1 st1 (Bp fa rs)⟩
 ·refine⟨_,D4 (h.h B),S,F,_,_,R,h1,fun v F1 H1 R1 st1 r1=>?_⟩
  obtain⟨a,vs,rfl,fa,ha,rs⟩:=R1.sub.jY r1
  exact⟨a,rfl,⟨vs,.inl ha⟩,k _ F1 H1 R1 st1 (zc fa rs)⟩⟩
noncomputable def nN (lo:Int) (n:Nat):List D:=(List.range n).map fun(k:Nat)=>D.int (lo+(k:Int))
noncomputable def lg (gA:GA):GI:=fun S=>(gA S).bind fun p=>match p.1 with
 | [.int j]=>if j < 1000000/\-1000000 < j then some (nN 0 j.toNat,p.2) else none
 | _=>none
theorem IY {F:Hp}{lo:Int}{n:Nat}:Walk (W0 lo n) F (nN lo n):=fun F' H' le sb i=>by
 refine⟨fun d hd=>?_,fun hl=>(show n<=i by simpa[nN] using hl)⟩
 unfold nN at hd
 rw[List.getElem?_map] at hd
 obtain⟨c,hc,rfl⟩:=aC hd
 obtain⟨hl,e⟩:=List.getElem?_eq_some_iff.mp hc
 rw[List.getElem_range] at e
 subst e
 refine⟨show i < n by simpa using hl,fun x H2 y=>⟨y.1,?_⟩⟩
 rw[y.2]
 exact .int _
theorem kN {tg : Expr} {gA : GA} (hg : Gl X "range") (hm : X.mg "range" = none) (ha : JA X [a] gA) (hs : starEach [a] X.env = [(false, eval a X.env)] := by rfl) : JI X tg (.Call (.Name "range" p) [a] [] pos) (lg gA) :=
  ⟨fun B=>PI.orelse fun σ H R0 ⟨S,F,ds,S',R,hg',k⟩=>by
  obtain⟨⟨d,S1⟩,h1,hg'⟩:=ak hg'
  refine⟨_,Fi hg hm (ha.h B) hs,S,F,d,S1,R,h1,fun vs F1 H1 R1 st1 r1=>?_⟩
  dsimp only at hg'
  split at hg'
  . split at hg'
    . rename_i j hj
      cases hg'
      cases r1 with
      | cons r rs=>
        cases rs
        exact⟨j,by rw[iJ r],by omega,by omega,k _ F1 H1 R1 st1 IY⟩
    . cases hg'
  . cases hg'⟩
noncomputable def loop (bd:GB) (body:GS):List D->SS->Option Out
 | [],S=>some (.nx S)
 | d :: ds,S=>(bd d S).bind fun S1=>(body S1).bind fun o=>match o with
  | .nx S2=>loop bd body ds S2
  | .ct S2=>loop bd body ds S2
  | .bk S2=>some (.nx S2)
  | .rt u S2=>some (.rt u S2)
noncomputable def qd (bd:GB) (gi:GI) (body:GS):GS:=fun S=>(gi S).bind fun p=>loop bd body p.1 p.2
theorem qF {tg iter:Expr}{bd:GB}{gi:GI}(hp:PassesOwn (model X.prog X.w) X.A X.env X.xe) (hc:X.calm=true) (hi:JI X tg iter gi) (hg:JG X tg bd) (hb:JB X body s1) (hs:∀x,foldedSetIterable iter X.env x=pure x:=by intro _;rfl):
  JS X (.For tg iter body [] pos) (qd bd gi s1):=⟨fun B=>(HM hp hc (hi.h B) (hg.h B) (hb.h B) hs).imp fun D σ H ⟨S,F,o,R,h,k⟩=>by
 obtain⟨⟨ds,S1⟩,h1,h⟩:=ak h
 refine⟨S,F,ds,S1,R,h1,fun J F1 H1 R1 st1 w=>?_⟩
 refine⟨fun i m σ' H'=>∃S' F',Rel X.K B S' σ' F' H'/\(∀b o,F1 b=some o->F' b=some o)/\i<=ds.length/\m=ds.length - i/\loop bd s1 (ds.drop i) S'=some o,⟨_,S1,F1,R1,fun _ _ z=>z,Nat.zero_le _,rfl,h⟩,?_⟩
 rintro i m σ' H' ⟨S',F',R',le,hl,rfl,dP⟩
 have w':=w F' H' le R'.sub i
 by_cases hlt:i < ds.length
 ·have hd:ds[i]? =some ds[i]:=List.getElem?_eq_getElem hlt
  obtain⟨go,yl⟩:=w'.1 _ hd
  rw[List.drop_eq_getElem_cons hlt] at dP
  obtain⟨S2,e2,dP⟩:=ak dP
  obtain⟨o2,e3,dP⟩:=ak dP
  refine .inr ⟨go,_,fun σ2 H2 n=>⟨ds.length - (i+1),by omega,n⟩,fun x H2 y=>?_⟩
  obtain⟨rfl,rx⟩:=yl x H2 y
  refine⟨S',F',_,S2,R',rx,e2,fun σ3 R3=>⟨S2,F',o2,R3,e3,?_⟩⟩
  cases o2 with
  | nx S3=>exact fun IZ F4 H4 R4 C0=>⟨S3,F4,R4,fun b o z=>C0 b o (le b o z),hlt,rfl,dP⟩
  | ct S3=>exact fun IZ F4 H4 R4 C0=>⟨S3,F4,R4,fun b o z=>C0 b o (le b o z),hlt,rfl,dP⟩
  | bk S3=>cases dP;exact fun IZ F4 H4 R4 C0=>k IZ F4 H4 R4 fun b o z=>C0 b o (le b o (st1.ext.le b o z))
  | rt u S3=>cases dP;exact fun v IZ F4 H4 R4 C0=>k v IZ F4 H4 R4 fun b o z=>C0 b o (le b o (st1.ext.le b o z))
 ·have e:i=ds.length:=by omega
  subst e
  rw[List.drop_length] at dP
  cases dP
  exact .inl ⟨w'.2 (Nat.le_refl _),k σ' F' H' R' fun b o z=>le b o (st1.ext.le b o z)⟩⟩
end
noncomputable def SR:U->MO->Option U
 | .m _,o=>some (.m o)
 | .b _,o=>some (.b o)
 | _,_=>none
noncomputable def Qo:U->Option MO
 | .m o=>some o
 | .b o=>some o
 | _=>none
noncomputable def Ab (S:SS) (i:Nat) (f:MO->Option (D×MO)):Option (D×SS):=match S[i]? with
 | some (some (.m o))=>(f o).map fun r=>(r.1,S.set i (some (.m r.2)))
 | some (some (.b o))=>(f o).map fun r=>(r.1,S.set i (some (.b r.2)))
 | _=>none
theorem At.UQ {F H:Hp}{a:Addr}{o:MO}{ob:Obj}{u:HO}(h:At F H a o):H a≠some (.lP ob u):=fun z=>by
 cases o with
 | lst ds=>obtain⟨vs,e,_⟩:=h;rw[z] at e;cases e
 | dct ds=>obtain⟨vs,e,_⟩:=h;rw[z] at e;cases e
 | cS ds=>obtain⟨vs,e,_⟩:=h;rw[z] at e;cases e
 | ins C ds=>obtain⟨vs,⟨dx,e⟩,_⟩:=h;rw[z] at e;cases e
theorem v8.dQ {K:PySem.W.Frag}{F H:Hp}{v:V}{u:U}(r:v8 K F H v u) (hm:ir u=true):∃a o,v= .ref a/\F a=none/\Qo u=some o/\At F H a o:=by
 cases u with
 | t d=>cases hm
 | v d=>cases hm
 | s d=>cases hm
 | f d=>cases hm
 | m o=>obtain⟨a,e,f,h⟩:=r;exact⟨a,o,e,f,rfl,h⟩
 | b o=>obtain⟨a,e,f,h⟩:=r;exact⟨a,o,e,f,rfl,h⟩
theorem Rel.write {K : PySem.W.Frag} {B : Base} {S : SS} {σ : St} {F H : Hp} {i : Nat} {u u' : U} {a : Addr} {ho : HO} {o : MO} (R : Rel K B S σ F H) (hS : S[i]? = some (some u)) (hu : SR u o = some u') (hv : σ[i]? = some (some (.ref a))) (ha : At F (upd H a ho) a o) :
    Rel K B (S.set i (some u')) σ F (upd H a ho)/\Step S (S.set i (some u')) σ F H F (upd H a ho):=by
  have hm:ir u=true/\ir u'=true:=by cases u <;> cases hu <;> exact⟨rfl,rfl⟩
  have UR:F a=none/\∀b ob w,H b=some (.lP ob w)->b≠a:=by
    obtain⟨v,h1,h2⟩:=R.rep i u hS
    rw[hv] at h1
    cases h1
    obtain⟨b,_,e,f,_,k⟩:=h2.dQ hm.1
    cases e
    exact⟨f,fun b ob w z e=>k.UQ (by rw[e] at z;exact z)⟩
  have US:=UR.1
  have SV:∀b ob w,H b=some (.lP ob w)->upd H a ho b=some (.lP ob w):=fun b ob w z=>by rw[aX (UR.2 b ob w z)];exact z
  have mAt:L2.dQ S σ a:=⟨i,u,hS,hm.1,hv⟩
  have hl:i < S.length:=(List.getElem?_eq_some_iff.mp hS).1
  have kb:∀{j w},(S.set i (some u'))[j]? =some (some w)->(i=j/\u'=w)\/(i≠j/\S[j]? =some (some w)):=fun {j w} z=>by
    rcases get_set z with⟨e,q,_⟩ | q
    . exact .inl ⟨e,Option.some.inj q⟩
    . exact .inr q
  have orig:∀{j w},(S.set i (some u'))[j]? =some (some w)->ir w=true->∃w0,S[j]? =some (some w0)/\ir w0=true:=fun {j w} z hw=>by
    rcases kb z with⟨rfl,rfl⟩ | ⟨_,q⟩
    . exact⟨u,hS,hm.1⟩
    . exact⟨w,q,hw⟩
  have keepR:∀b o,b≠a->Rd H b o->Rd (upd H a ho) b o:=fun b o ne r=>by
    rcases r with r | ⟨ob,r⟩
    . exact .inl (by rw[aX ne];exact r)
    . exact .inr ⟨ob,by rw[aX ne];exact r⟩
  refine⟨⟨fun b o z=>by rw[aX (fun e=>by rw[e,US] at z;cases z)];exact R.sub b o z,by rw[List.length_set];exact R.len,fun j w z=>?_,fun j k w1 w2 c z1 m1 z2 m2=>?_,fun j o' c z hc=>?_,fun j o' c z hc=>?_,fun j c z=>?_,?_⟩,⟨?_,fun c ⟨j,w,z,hw,hc⟩=>?_,fun j w z=>?_⟩⟩
  . rcases kb z with⟨rfl,rfl⟩ | ⟨ne,q⟩
    . refine⟨.ref a,hv,?_⟩
      cases u <;> cases hu
      . exact⟨a,rfl,US,ha⟩
      . exact⟨a,rfl,US,ha⟩
    . obtain⟨v,h1,h2⟩:=R.rep j w q
      refine⟨v,h1,?_⟩
      by_cases hw:ir w=true
      . obtain⟨c,o',rfl,f,e,h⟩:=h2.dQ hw
        have hca:c≠a:=fun z=>ne (R.Ej i j u w a hS hm.1 q hw hv (by rw[h1,z]))
        have h':At F (upd H a ho) c o':=h.le (fun _ _ z=>z) fun o z=>by rw[aX hca];exact z
        cases w <;> cases hw <;> cases e
        . exact⟨c,rfl,f,h'⟩
        . exact⟨c,rfl,f,h'⟩
      . cases w with
        | t d=>exact h2
        | v d=>exact h2
        | s d=>obtain⟨c,e,h⟩:=h2;exact⟨c,e,h.le SV⟩
        | f d=>exact h2
        | m o=>exact absurd rfl hw
        | b o=>exact absurd rfl hw
  . obtain⟨Zr,q1,n1⟩:=orig z1 m1
    obtain⟨Zs,q2,n2⟩:=orig z2 m2
    exact R.Ej j k Zr Zs c q1 n1 q2 n2
  . rcases kb z with⟨rfl,rfl⟩ | ⟨_,q⟩
    . cases u <;> cases hu
      exact R.own _ _ c hS hc
    . exact R.own j o' c q hc
  . rcases kb z with⟨rfl,rfl⟩ | ⟨_,q⟩
    . cases u <;> cases hu
      exact R.bor _ _ c hS hc
    . exact R.bor j o' c q hc
  . obtain⟨k1,o',k2⟩:=R.par j c z
    refine⟨k1,?_⟩
    by_cases e:i=j
    . subst e
      rw[hS] at k2
      cases k2
      cases hu
      exact⟨o,List.getElem?_set_self hl⟩
    . exact⟨o',by rw[List.getElem?_set_ne e];exact k2⟩
  . refine⟨R.ext.le,fun b o z n=>?_,R.ext.kB,fun b o z=>?_,fun b o w z=>SV b o w (R.ext.lP b o w z)⟩
    . have hb:b≠a:=fun e=>by
        subst e
        cases u with
        | m o'=>rw[R.own i o' b hS hv] at z;cases z
        | b o'=>exact n (R.bor i o' b hS hv)
        | t d=>cases hu
        | v d=>cases hu
        | s d=>cases hu
        | f d=>cases hu
      rw[aX hb]
      exact R.ext.keep b o z n
    . by_cases hb:b=a
      . exact⟨ho,by rw[hb,bh]⟩
      . rw[aX hb];exact R.ext.there b o z
  . refine⟨fun _ _ z=>z,fun b o z n=>?_,fun _ _ _ _ z=>z,fun b o z=>?_,SV⟩
    . rw[aX (fun e=>n (by rw[e];exact mAt))];exact z
    . by_cases hb:b=a
      . exact⟨ho,by rw[hb,bh]⟩
      . exact⟨o,by rw[aX hb];exact z⟩
  . obtain⟨w0,q,n⟩:=orig z hw
    exact⟨j,w0,q,n,hc⟩
  . by_cases e:i=j
    . subst e;exact⟨u',List.getElem?_set_self hl⟩
    . exact⟨w,by rw[List.getElem?_set_ne e];exact z⟩
theorem tT {S S':SS}{i:Nat}{f:MO->Option (D×MO)}{d:D}(h:Ab S i f=some (d,S')):∃u u' o o',S[i]? =some (some u)/\ir u=true/\Qo u=some o/\f o=some (d,o')/\SR u o'=some u'/\S'=S.set i (some u'):=by
 unfold Ab at h
 split at h
 ·rename_i o e
  obtain⟨⟨d',o'⟩,h1,h⟩:=aC h
  cases h
  exact⟨_,_,o,o',e,rfl,rfl,h1,rfl,rfl⟩
 ·rename_i o e
  obtain⟨⟨d',o'⟩,h1,h⟩:=aC h
  cases h
  exact⟨_,_,o,o',e,rfl,rfl,h1,rfl,rfl⟩
 ·cases h
noncomputable def UT (r:V->List V->Hp->VK->Prop) (h:List D->MO->Option (D×MO)):Prop:=
 ∀F H a vs xs ds args res o',Sub F H->H a=some (.lst vs)->F a=none->bS F vs ds->bS F xs args->h args (.lst ds)=some (res,o')->
  ∀Q:VK,(∀rv ho,Rep F rv res->At F (upd H a ho) a o'->Q rv (upd H a ho))->r (.ref a) xs H Q
noncomputable def fK:MO->Bool
 | .lst _=>true
 | _=>false
noncomputable def UU (S:SS) (i:Nat):Bool:=match S[i]? with
 | some (some (.m (.lst _)))=>true
 | some (some (.b (.lst _)))=>true
 | _=>false
theorem I0 {K:PySem.W.Frag}{B:Base}{S:SS}{σ:St}{F H:Hp}{i:Nat}(R:Rel K B S σ F H) (h:UU S i=true):∃u a vs ds,S[i]? =some (some u)/\ir u=true/\Qo u=some (.lst ds)/\σ[i]? =some (some (.ref a))/\F a=none/\H a=some (.lst vs)/\bS F vs ds:=by
 unfold UU at h
 split at h
 ·rename_i ds e
  obtain⟨v,k1,a,rfl,f,vs,k2,k3⟩:=R.rep i _ e
  exact⟨_,a,vs,ds,e,rfl,rfl,k1,f,k2,k3⟩
 ·rename_i ds e
  obtain⟨v,k1,a,rfl,f,vs,k2,k3⟩:=R.rep i _ e
  exact⟨_,a,vs,ds,e,rfl,rfl,k1,f,k2,k3⟩
 ·cases h
noncomputable def eM (i:Nat) (h:List D->MO->Option (D×MO)) (gA:GA):GD:=fun S=>if UU S i then(gA S).bind fun p=>Ab p.2 i (h p.1) else none
theorem Bq {K:PySem.W.Frag}{B:Base}{S:SS}{σ:St}{F H:Hp}{i:Nat}{a:Addr}{u:U}{ds:List D}(R:Rel K B S σ F H) (hS:S[i]? =some (some u)) (hm:ir u=true) (hi:Qo u=some (.lst ds)) (hv:σ[i]? =some (some (.ref a))):F a=none/\∃vs,H a=some (.lst vs)/\bS F vs ds:=by
 obtain⟨v,k1,k2⟩:=R.rep i u hS
 rw[hv] at k1
 cases k1
 obtain⟨b,o2,e1,f,e2,k⟩:=k2.dQ hm
 cases e1
 rw[hi] at e2
 cases e2
 exact⟨f,k⟩
section
variable {X:Cx}{a b c e:Expr}{es:List Expr}{pos p p2 apos cpos px:Pos}{x name:Str}{g ga gb gc:GD}{gA:GA}{id:String}
theorem rJ {i:Nat}{r:V->List V->Hp->VK->Prop}{h:List D->MO->Option (D×MO)}(slot:Slot "list" name id) (hty:typeOf (.builtin id)=pure (.type "method_descriptor")) (hm:W4 X id r) (hh:UT r h) (hl:∀args o,fK o=false->h args o=none) (ha:JA X (e :: es) gA)
  (hN:X.N[i]? =some x:=by rfl) (hv:CJ X.env.scope x:=by first | exact Or.inl rfl | exact Or.inr (Or.inl rfl) | exact Or.inr (Or.inr rfl))
  (hbase:attributeBase (.Name x px) name X.env (eval (.Name x px) X.env)=eval (.Name x px) X.env:=by rfl)
  (hfew:((backTo cpos (starEach (e :: es) X.env)).all (fun x=>!x.1) && (backToKw cpos (keywordEach [] X.env)).all (fun x=>x.1.isSome)
   && decide ((e :: es).length+([]:List Keyword).length+(if([]:List Keyword).isEmpty then 0 else 1) < 30))=true:=by rfl)
  (hline:(apos.endLine == cpos.line)=true:=by rfl) (hs:starEach (e :: es) X.env=(false,eval e X.env) :: starEach es X.env:=by rfl) (hplain:(backTo cpos (starEach es X.env)).any (·.1)=false:=by rfl)
  (hd:(x == ("__debug__":Str))=false:=by decide) (hcd:(x == ("__classdict__":Str))=false:=by decide):
  JD X (.Call (.Attribute (.Name x px) name apos) (e :: es) [] cpos) (eM i h gA):=
 ⟨fun B=>(UE PySem.F.plainAttrs_list slot hty hm (iy hN hv hd hcd) (ha.h B) hbase hfew hline hs hplain).imp fun σ H Q ⟨S,F,d,S',R,hg,q⟩=>by
 unfold eM at hg
 split at hg
 ·rename_i hL
  obtain⟨⟨args,S1⟩,h1,hg⟩:=ak hg
  obtain⟨u,u',o,o',hS,Ms,hio,hf,Qp,rfl⟩:=tT hg
  obtain⟨u0,a,W3,En,_,_,_,hv0,_,hH,_⟩:=I0 R hL
  cases o with
  | dct kvs=>rw[hl _ _ rfl] at hf;cases hf
  | cS kvs=>rw[hl _ _ rfl] at hf;cases hf
  | ins C kvs=>rw[hl _ _ rfl] at hf;cases hf
  | lst ds=>
   refine⟨.ref a,hv0,.inl ⟨rfl,W3,m6.of hH⟩,S,F,args,S1,R,h1,fun xs F1 H1 R1 st1 r1=>?_⟩
   obtain⟨hf1,vs,Zt,rs⟩:=Bq R1 hS Ms hio hv0
   refine hh F1 H1 a vs xs ds args d o' R1.sub Zt hf1 rs r1 hf Q fun rv ho rr ha=>?_
   obtain⟨R2,st2⟩:=R1.write hS Qp hv0 ha
   exact q rv F1 _ R2 (st1.trans st2) rr
 ·cases hg⟩
theorem Ja {i:Nat}{r:V->List V->Hp->VK->Prop}{h:List D->MO->Option (D×MO)}(slot:Slot "list" name id) (hty:typeOf (.builtin id)=pure (.type "method_descriptor")) (hm:W4 X id r) (hh:UT r h) (hl:∀args o,fK o=false->h args o=none)
  (hN:X.N[i]? =some x:=by rfl) (hv:CJ X.env.scope x:=by first | exact Or.inl rfl | exact Or.inr (Or.inl rfl) | exact Or.inr (Or.inr rfl))
  (hbase:attributeBase (.Name x px) name X.env (eval (.Name x px) X.env)=eval (.Name x px) X.env:=by rfl) (hline:(apos.endLine == cpos.line)=true:=by rfl)
  (hd:(x == ("__debug__":Str))=false:=by decide) (hcd:(x == ("__classdict__":Str))=false:=by decide):
  JD X (.Call (.Attribute (.Name x px) name apos) [] [] cpos) (eM i h aq):=
 ⟨fun B=>(P0 PySem.F.plainAttrs_list slot hty hm (iy hN hv hd hcd) hbase hline).imp fun σ H Q ⟨S,F,d,S',R,hg,q⟩=>by
 unfold eM at hg
 split at hg
 ·rename_i hL
  obtain⟨⟨args,S1⟩,h1,hg⟩:=ak hg
  cases h1
  obtain⟨u,u',o,o',hS,Ms,hio,hf,Qp,rfl⟩:=tT hg
  obtain⟨u0,a,W3,En,_,_,_,hv0,_,hH,_⟩:=I0 R hL
  cases o with
  | dct kvs=>rw[hl _ _ rfl] at hf;cases hf
  | cS kvs=>rw[hl _ _ rfl] at hf;cases hf
  | ins C kvs=>rw[hl _ _ rfl] at hf;cases hf
  | lst ds=>
   refine⟨.ref a,hv0,.inl ⟨rfl,W3,m6.of hH⟩,?_⟩
   obtain⟨hf1,vs,Zt,rs⟩:=Bq R hS Ms hio hv0
   refine hh F H a vs [] ds [] d o' R.sub Zt hf1 rs .nil hf Q fun rv ho rr ha=>?_
   obtain⟨R2,st2⟩:=R.write hS Qp hv0 ha
   exact q rv F _ R2 st2 rr
 ·cases hg⟩
noncomputable def hAppend:List D->MO->Option (D×MO)
 | [d],.lst ds=>if ds.length < 100000 then some (.dW,.lst (ds++[d])) else none
 | _,_=>none
theorem pO : UT Eg hAppend := by
  intro F H a vs xs ds args res o' sb hH fa rs rx hw Q q
  unfold hAppend at hw
  split at hw
  . rename_i d ds' e2
    cases e2
    split at hw
    . rename_i hl
      cases hw
      cases rx with
      | cons r rr=>
        cases rr
        exact⟨a,vs,_,rfl,rfl,hH,by rw[rs.length];exact Nat.lt_of_lt_of_le hl (by decide),q .dW _ .dW ⟨_,bh,rs.append (.cons r .nil)⟩⟩
    . cases hw
  . cases hw
noncomputable def afX:List D->MO->Option (D×MO)
 | [],.lst ds=>(ds[ds.length - 1]?).map fun d=>(d,.lst ds.dropLast)
 | _,_=>none
theorem bS.dropLast {F:Hp}{vs:List V}{ds:List D}(r:bS F vs ds):bS F vs.dropLast ds.dropLast:=by
 rw[List.dropLast_eq_take,List.dropLast_eq_take,r.length]
 exact r.take _
noncomputable def ni:List D->MO->Option (D×MO)
 | [.int i],.lst ds=>if -(2 ^ 63)<=i/\i < 2 ^ 63 then(seqIndex? i ds.length).bind fun k=>(ds[k]?).map fun d=>(d,.lst (ds.eraseIdx k)) else none
 | _,_=>none
theorem bS.eraseIdx {F:Hp}:∀{vs:List V}{ds:List D}(k:Nat),bS F vs ds->bS F (vs.eraseIdx k) (ds.eraseIdx k)
 | _,_,_,.nil=>.nil
 | _,_,0,.cons _ rs=>rs
 | _,_,k+1,.cons r rs=>.cons r (bS.eraseIdx k rs)
theorem Jb : UT Il ni := by
  intro F H a vs xs ds args res o' sb hH fa rs rx hw Q q
  unfold ni at hw
  split at hw
  . rename_i i ds' e2
    cases e2
    split at hw
    . rename_i hb
      obtain⟨k,hk,hw⟩:=ak hw
      obtain⟨d,hd,hw⟩:=aC hw
      cases hw
      cases rx with
      | cons r rr=>
        cases rr
        obtain⟨v,k1,k2⟩:=rs.get hd
        exact⟨a,vs,i,k,v,rfl,by rw[iJ r],hH,hb.1,hb.2,by rw[rs.length];exact hk,k1,q v _ k2 ⟨_,bh,rs.eraseIdx k⟩⟩
    . cases hw
  . cases hw
noncomputable def jo:List D->MO->Option (D×MO)
 | [],.lst ds=>some (.dW,.lst ds.reverse)
 | _,_=>none
theorem bS.reverse {F:Hp}:∀{vs:List V}{ds:List D},bS F vs ds->bS F vs.reverse ds.reverse
 | _,_,.nil=>.nil
 | _,_,.cons r rs=>by rw[List.reverse_cons,List.reverse_cons];exact(bS.reverse rs).append (.cons r .nil)
theorem C1:UT Bj jo:=by
 intro F H a vs xs ds args res o' sb hH fa rs rx hw Q q
 unfold jo at hw
 split at hw
 ·rename_i ds' e2
  cases e2
  cases hw
  cases rx
  exact⟨a,vs,rfl,rfl,hH,q .dW _ .dW ⟨_,bh,rs.reverse⟩⟩
 ·cases hw
end
theorem kD.step {K:PySem.W.Frag}{B:Base}{S S':SS}{σ:St}{H0 F H F' H':Hp}{v:V}{u:U}(r:kD K B S σ H0 F H v u) (st:Step S S' σ F H F' H'):kD K B S' σ H0 F' H' v u:=by
 cases u with
 | t d=>exact r.le st.ext.le
 | b o=>exact r
 | v i=>obtain⟨h1,u,h2⟩:=r;exact⟨h1,st.slots i u h2⟩
 | s i=>obtain⟨a,e,h⟩:=r;exact⟨a,e,h.le st.ext.lP⟩
 | f i=>exact r
 | m o=>
  obtain⟨a,e,h0,f,h,n,hB⟩:=r
  obtain⟨ho,hh⟩:=h.has
  exact⟨a,e,h0,st.ext.kB a ho hh n f,h.le st.ext.le fun o z=>st.ext.keep a o z n,fun m=>n (st.mu a m),hB⟩
noncomputable abbrev GU:=SS->Option (List U×SS)
noncomputable def tAU (K:PySem.W.Frag) (B:Base) (gu:GU):TA:=fun σ H Q=>∃S F us S',Rel K B S σ F H/\gu S=some (us,S')/\∀vs F' H',Rel K B S' σ F' H'->Step S S' σ F H F' H'->Paired (fun v u=>kD K B S' σ H F' H' v u) vs us->Q vs H'
structure JU (X:Cx) (es:List Expr) (gu:GU):Prop where
 h:∀B,PA X es (tAU X.K B gu)
 len:∀S us S',gu S=some (us,S')->us.length=es.length
noncomputable def bG:GU:=fun S=>some ([],S)
noncomputable def aK (g:GD) (gu:GU):GU:=fun S=>(g S).bind fun p=>(gu p.2).map fun q=>(.t p.1 :: q.1,q.2)
noncomputable def cB (g:GE) (gu:GU):GU:=fun S=>(g S).bind fun p=>(gu p.2).map fun q=>(p.1 :: q.1,q.2)
section
variable {X:Cx}{e:Expr}{es:List Expr}{g:GD}{ge:GE}{gu:GU}
theorem bq:JU X [] bG:=⟨fun B=>vQ.imp fun σ H Q ⟨S,F,us,S',R,hg,q⟩=>by
 cases hg
 exact q [] F H R (Step.refl ..) .nil,fun S us S' h=>by cases h;rfl⟩
theorem aD (h:JD X e g) (hr:JU X es gu) (hs:starEach (e :: es) X.env=(false,eval e X.env) :: starEach es X.env:=by rfl):JU X (e :: es) (aK g gu):=
 ⟨fun B=>(m8 (h.h B) (hr.h B) hs).imp fun σ H Q ⟨S,F,us,S',R,hg,q⟩=>by
 obtain⟨⟨d,S1⟩,h1,hg⟩:=ak hg
 obtain⟨⟨Qq,S2⟩,h2,hg⟩:=aC hg
 cases hg
 exact⟨S,F,d,S1,R,h1,fun v F1 H1 R1 st1 r1=>⟨S1,F1,Qq,S2,R1,h2,fun vs F2 H2 R2 st2 r2=>q _ F2 H2 R2 (st1.trans st2) (.cons (r1.le st2.ext.le) (Paired.Fb r2 fun _ _ z=>z.weak st1.ext.there))⟩⟩,
 fun S us S' hg=>by
  obtain⟨⟨d,S1⟩,h1,hg⟩:=ak hg
  obtain⟨⟨Qq,S2⟩,h2,hg⟩:=aC hg
  cases hg
  show Qq.length+1=es.length+1
  rw[hr.len _ _ _ h2]⟩
theorem bE (h:JE X e ge) (hr:JU X es gu) (hs:starEach (e :: es) X.env=(false,eval e X.env) :: starEach es X.env:=by rfl):JU X (e :: es) (cB ge gu):=
 ⟨fun B=>(m8 (h.h B) (hr.h B) hs).imp fun σ H Q ⟨S,F,us,S',R,hg,q⟩=>by
 obtain⟨⟨d,S1⟩,h1,hg⟩:=ak hg
 obtain⟨⟨Qq,S2⟩,h2,hg⟩:=aC hg
 cases hg
 exact⟨S,F,d,S1,R,h1,fun v F1 H1 R1 st1 r1=>⟨S1,F1,Qq,S2,R1,h2,fun vs F2 H2 R2 st2 r2=>q _ F2 H2 R2 (st1.trans st2) (.cons (r1.step st2) (Paired.Fb r2 fun _ _ z=>z.weak st1.ext.there))⟩⟩,
 fun S us S' hg=>by
  obtain⟨⟨d,S1⟩,h1,hg⟩:=ak hg
  obtain⟨⟨Qq,S2⟩,h2,hg⟩:=aC hg
  cases hg
  show Qq.length+1=es.length+1
  rw[hr.len _ _ _ h2]⟩
end
noncomputable def resolve (S:SS):U->Option U
 | .t d=>some (.t d)
 | .v i=>match S[i]? with
  | some (some (.m o))=>some (.b o)
  | some (some (.b o))=>some (.b o)
  | _=>none
 | .m o=>some (.b o)
 | .b _=>none
 | .s ns=>some (.s ns)
 | .f a=>some (.f a)
noncomputable def cO (S:SS):List U->Option (List U)
 | []=>some []
 | u :: us=>(resolve S u).bind fun w=>(cO S us).map fun ws=>w :: ws
noncomputable def slotsOf:List U->List Nat
 | []=>[]
 | .v i :: us=>i :: slotsOf us
 | _ :: us=>slotsOf us
noncomputable def dh:List U->Nat
 | []=>0
 | .m _ :: us=>dh us+1
 | _ :: us=>dh us
noncomputable def wb:List U->List MO->SS->Option SS
 | [],[],S=>some S
 | .v i :: us,o :: outs,S=>match S[i]? with
  | some (some (.m _))=>wb us outs (S.set i (some (.m o)))
  | some (some (.b _))=>wb us outs (S.set i (some (.b o)))
  | _=>none
 | .m _ :: us,_ :: outs,S=>wb us outs S
 | .t _ :: us,outs,S=>wb us outs S
 | .s _ :: us,outs,S=>wb us outs S
 | .f _ :: us,outs,S=>wb us outs S
 | _,_,_=>none
noncomputable abbrev FM:=List U->Option (U×List MO)
noncomputable def aU (f:FM) (gu:GU):GE:=fun S=>(gu S).bind fun p=>
 if(slotsOf p.1).Nodup/\dh p.1<=1 then(cO p.2 p.1).bind fun us=>(f us).bind fun r=>(wb p.1 r.2 p.2).map fun S2=>(r.1,S2) else none
noncomputable def Jc (K:PySem.W.Frag) (F H:Hp) (v:V):U->Prop
 | .s ns=>∃a,v= .ref a/\Mp K H a ns
 | .f a=>v= .ref a
 | .t d=>Rep F v d
 | .b o=>∃a,v= .ref a/\F a=none/\At F H a o
 | _=>False
noncomputable def addrs:List V->List U->List Addr
 | .ref a :: vs,.b _ :: us=>a :: addrs vs us
 | _ :: vs,_ :: us=>addrs vs us
 | _,_=>[]
structure Post (F H F' H':Hp) (as:List Addr) (outs:List MO):Prop where
 sub:Sub F' H'
 ext:Ext (fun a=>a∈as) F H F' H'
 out:Paired (fun a o=>F' a=none/\At F' H' a o) as outs
noncomputable def spT (K:PySem.W.Frag) (n:Nat) (f:FM):Sp:=fun vs H Q _=>vs.length=n/\∃F us r outs,Sub F H/\Paired (Jc K F H) vs us/\(addrs vs us).Nodup/\f us=some (r,outs)/\∀v F' H',Post F H F' H' (addrs vs us) outs->CY H F' H' v r->Q v H'
section
variable {K:PySem.W.Frag}{B:Base}{S S1 S2:SS}{σ:St}{H0 F H F' H':Hp}
theorem pP {i:Nat}{w:U}(h:resolve S (.v i)=some w):∃u o,S[i]? =some (some u)/\ir u=true/\Qo u=some o/\w= .b o:=by
 unfold resolve at h
 dsimp only at h
 split at h
 ·rename_i o e;cases h;exact⟨_,o,e,rfl,rfl,rfl⟩
 ·rename_i o e;cases h;exact⟨_,o,e,rfl,rfl,rfl⟩
 ·cases h
theorem rK (R:Rel K B S σ F H):∀{vs:List V}{us ws:List U},Paired (fun v u=>kD K B S σ H0 F H v u) vs us->cO S us=some ws->Paired (Jc K F H) vs ws
 | _,_,_,.nil,h=>by cases h;exact .nil
 | _,_,_,@Paired.cons _ _ _ v u vs us r rs,h=>by
  obtain⟨w,h1,h⟩:=ak h
  obtain⟨ws,h2,h⟩:=aC h
  subst h
  refine .cons ?_ (rK R rs h2)
  cases u with
  | t d=>cases h1;exact r
  | s d=>cases h1;exact r
  | f d=>cases h1;exact r
  | b o=>cases h1
  | m o=>cases h1;obtain⟨a,e,_,f,k,_⟩:=r;exact⟨a,e,f,k⟩
  | v i=>
   obtain⟨u,o,hu,hm,hi,rfl⟩:=pP h1
   obtain⟨hv,_⟩:=r
   obtain⟨v',k1,k2⟩:=R.rep i u hu
   rw[hv] at k1
   cases k1
   obtain⟨a,o2,e,f,e2,k⟩:=k2.dQ hm
   rw[hi] at e2
   cases e2
   exact⟨a,e,f,k⟩
theorem rL (R : Rel K B S σ F H) : ∀ {vs : List V} {us ws : List U}, Paired (fun v u => kD K B S σ H0 F H v u) vs us -> cO S us = some ws -> ∀ a ∈ addrs vs ws,
    (∃i u,i∈slotsOf us/\S[i]? =some (some u)/\ir u=true/\σ[i]? =some (some (.ref a)))\/(0 < dh us/\H0 a=none/\B.H a=none/\¬dQ S σ a)
  | _,_,_,.nil,h,a,ha=>by cases h;cases ha
  | _,_,_,@Paired.cons _ _ _ v u vs us r rs,h,a,ha=>by
    obtain⟨w,h1,h⟩:=ak h
    obtain⟨ws,h2,h⟩:=aC h
    subst h
    have ih:=rL R rs h2
    cases u with
    | t d=>
      cases h1
      have ha:a∈addrs vs ws:=by cases v <;> exact ha
      exact ih a ha
    | s d=>
      cases h1
      have ha:a∈addrs vs ws:=by cases v <;> exact ha
      exact ih a ha
    | f d=>
      cases h1
      have ha:a∈addrs vs ws:=by cases v <;> exact ha
      exact ih a ha
    | b o=>cases h1
    | m o =>
      cases h1
      obtain⟨c,rfl,k0,f,k,n,hB⟩:=r
      rcases List.mem_cons.mp (show a∈c :: addrs vs ws from ha) with rfl | ha
      . exact .inr ⟨Nat.succ_pos _,k0,hB,n⟩
      . rcases ih a ha with z | ⟨_,z⟩
        . exact .inl z
        . exact .inr ⟨Nat.succ_pos _,z⟩
    | v i =>
      obtain⟨u,o,hu,hm,hi,rfl⟩:=pP h1
      obtain⟨hv,_⟩:=r
      obtain⟨v',k1,k2⟩:=R.rep i u hu
      rw[hv] at k1
      cases k1
      obtain⟨c,o2,rfl,f,e2,k⟩:=k2.dQ hm
      rcases List.mem_cons.mp (show a∈c :: addrs vs ws from ha) with rfl | ha
      . exact .inl ⟨i,u,List.mem_cons_self,hu,hm,hv⟩
      . rcases ih a ha with⟨j,w,z,z2⟩ | z
        . exact .inl ⟨j,w,List.mem_cons_of_mem _ z,z2⟩
        . exact .inr z
theorem fL (R : Rel K B S σ F H) : ∀ {vs : List V} {us ws : List U}, Paired (fun v u => kD K B S σ H0 F H v u) vs us -> cO S us = some ws -> (slotsOf us).Nodup -> dh us <= 1 -> (addrs vs ws).Nodup
  | _,_,_,.nil,h,_,_=>by cases h;exact List.nodup_nil
  | _,_,_,@Paired.cons _ _ _ v u vs us r rs,h,nd,fr=>by
    obtain⟨w,h1,h⟩:=ak h
    obtain⟨ws,h2,h⟩:=aC h
    subst h
    cases u with
    | t d=>
      cases h1
      have:=fL R rs h2 nd fr
      cases v <;> exact this
    | s d=>
      cases h1
      have:=fL R rs h2 nd fr
      cases v <;> exact this
    | f d=>
      cases h1
      have:=fL R rs h2 nd fr
      cases v <;> exact this
    | b o=>cases h1
    | m o=>
      cases h1
      have fr0:dh us=0:=by have:dh us+1<=1:=fr;omega
      obtain⟨c,rfl,k0,f,k,n,hB⟩:=r
      refine List.nodup_cons.mpr ⟨fun hc=>?_,fL R rs h2 nd (by omega)⟩
      rcases rL R rs h2 c hc with⟨j,w,_,z1,z2,z3⟩ | ⟨z,_⟩
      . exact n ⟨j,w,z1,z2,z3⟩
      . omega
    | v i =>
      obtain⟨u,o,hu,hm,hi,rfl⟩:=pP h1
      obtain⟨hv,_⟩:=r
      obtain⟨v',k1,k2⟩:=R.rep i u hu
      rw[hv] at k1
      cases k1
      obtain⟨c,o2,rfl,f,e2,k⟩:=k2.dQ hm
      obtain⟨Zu,SW⟩:=List.nodup_cons.mp (show(i :: slotsOf us).Nodup from nd)
      refine List.nodup_cons.mpr ⟨fun hc=>?_,fL R rs h2 SW fr⟩
      rcases rL R rs h2 c hc with⟨j,w,z0,z1,z2,z3⟩ | ⟨_,_,_,z⟩
      . have:=R.Ej i j u w c hu hm z1 z2 hv z3
        subst this
        exact Zu z0
      . exact z ⟨i,u,hu,hm,hv⟩
theorem pQ (R : Rel K B S σ F H) (P : Addr -> MO -> Prop) : ∀ {vs : List V} {us ws : List U} {outs : List MO} {S1 S2 : SS}, Paired (fun v u => kD K B S σ H0 F H v u) vs us -> cO S us = some ws -> wb us outs S1 = some S2 -> (slotsOf us).Nodup -> Paired P (addrs vs ws) outs ->
    S2.length=S1.length/\(∀j,j∉slotsOf us->S2[j]? =S1[j]?)/\∀j∈slotsOf us,∃u u' o a,S1[j]? =some (some u)/\SR u o=some u'/\S2[j]? =some (some u')/\σ[j]? =some (some (.ref a))/\P a o
  | _,_,_,_,_,_,.nil,h,hw,_,hp=>by
    cases h
    cases hp
    cases hw
    exact⟨rfl,fun _ _=>rfl,fun j hj=>by cases hj⟩
  | _, _, _, outs, S1, S2, @Paired.cons _ _ _ v u vs us r rs, h, hw, nd, hp => by
    obtain⟨w,h1,h⟩:=ak h
    obtain⟨ws,h2,h⟩:=aC h
    subst h
    cases u with
    | t d =>
      cases h1
      have hp:Paired P (addrs vs ws) outs:=by cases v <;> exact hp
      have hw:wb us outs S1=some S2:=by
        cases outs <;> exact hw
      have ih:=pQ R P rs h2 hw nd hp
      exact ih
    | s d =>
      cases h1
      have hp:Paired P (addrs vs ws) outs:=by cases v <;> exact hp
      have hw:wb us outs S1=some S2:=by
        cases outs <;> exact hw
      have ih:=pQ R P rs h2 hw nd hp
      exact ih
    | f d =>
      cases h1
      have hp:Paired P (addrs vs ws) outs:=by cases v <;> exact hp
      have hw:wb us outs S1=some S2:=by
        cases outs <;> exact hw
      have ih:=pQ R P rs h2 hw nd hp
      exact ih
    | b o=>cases h1
    | m o =>
      cases h1
      obtain⟨c,rfl,k0,f,k,n,hB⟩:=r
      cases hp with
      | cons p1 p2=>
        have ih:=pQ R P rs h2 (show wb us _ S1=some S2 from hw) nd p2
        exact ih
    | v i =>
      obtain⟨u0,o0,hu,hm,hi,rfl⟩:=pP h1
      obtain⟨hv,_⟩:=r
      obtain⟨v',k1,k2⟩:=R.rep i u0 hu
      rw[hv] at k1
      cases k1
      obtain⟨c,o2,rfl,f,e2,k⟩:=k2.dQ hm
      obtain⟨Zu,SW⟩:=List.nodup_cons.mp (show(i :: slotsOf us).Nodup from nd)
      cases hp with
      | @cons _ o _ outs p1 p2 =>
        have go : ∀ u u', S1[i]? = some (some u) -> SR u o = some u' -> wb us outs (S1.set i (some u')) = some S2 -> S2.length = S1.length /\ (∀ j, j ∉ i :: slotsOf us -> S2[j]? = S1[j]?) /\ ∀ j ∈ i :: slotsOf us, ∃ u u' o a, S1[j]? = some (some u) /\ SR u o = some u' /\ S2[j]? = some (some u') /\ σ[j]? = some (some (.ref a)) /\ P a o := fun u u' e1 e2 hw => by
          obtain⟨l,out,FF⟩:=pQ R P rs h2 hw SW p2
          refine⟨by rw[l,List.length_set],fun j hj=>?_,fun j hj=>?_⟩
          . rw[out j fun z=>hj (List.mem_cons_of_mem _ z),List.getElem?_set_ne fun z=>hj (by rw[z];exact List.mem_cons_self)]
          . by_cases e:i=j
            . subst e
              exact⟨u,u',o,c,e1,e2,by rw[out i Zu];exact List.getElem?_set_self (List.getElem?_eq_some_iff.mp e1).1,hv,p1⟩
            . rcases List.mem_cons.mp hj with z | z
              . exact absurd z.symm e
              . obtain⟨w,w',o',a',q1,q2,q3,q4,q5⟩:=FF j z
                rw[List.getElem?_set_ne e] at q1
                exact⟨w,w',o',a',q1,q2,q3,q4,q5⟩
        unfold wb at hw
        split at hw
        . rename_i o' e;exact go _ _ e rfl hw
        . rename_i o' e;exact go _ _ e rfl hw
        . cases hw
end
theorem lq {K : PySem.W.Frag} {B : Base} {S0 S S2 : SS} {σ : St} {F0 H0 F H F' H' : Hp} {vs : List V} {us ws : List U} {outs : List MO} (R : Rel K B S σ F H) (st : Step S0 S σ F0 H0 F H) (rr : Paired (fun v u => kD K B S σ H0 F H v u) vs us) (hr : cO S us = some ws) (hw : wb us outs S = some S2) (nd : (slotsOf us).Nodup) (p : Post F H F' H' (addrs vs ws) outs) :
    Rel K B S2 σ F' H'/\Step S0 S2 σ F0 H0 F' H'/\∀a,dQ S2 σ a->dQ S σ a:=by
  obtain⟨hl,out,FF⟩:=pQ R (fun a o=>F' a=none/\At F' H' a o) rr hr hw nd p.out
  have reM:∀{u:U}{o:MO}{u':U},SR u o=some u'->ir u=true/\ir u'=true/\Qo u'=some o:=fun {u o u'} h=>by cases u <;> cases h <;> exact⟨rfl,rfl,rfl⟩
  have orig:∀{j w},S2[j]? =some (some w)->ir w=true->∃w0,S[j]? =some (some w0)/\ir w0=true:=fun {j w} z hm=>by
    by_cases hj:j∈slotsOf us
    . obtain⟨u,u',o,a,q1,q2,q3,q4,q5⟩:=FF j hj
      exact⟨u,q1,(reM q2).1⟩
    . rw[out j hj] at z;exact⟨w,z,hm⟩
  have mu:∀a,dQ S2 σ a->dQ S σ a:=fun a ⟨j,w,z,hm,hv⟩=>let⟨w0,q,n⟩:=orig z hm;⟨j,w0,q,n,hv⟩
  have Eo:=rL R rr hr
  refine⟨⟨p.sub,by rw[hl];exact R.len,fun j w z=>?_,fun j k w1 w2 c z1 m1 z2 m2=>?_,fun j o a z hv=>?_,fun j o a z hv=>?_,fun j a z=>?_,?_⟩,⟨⟨?_,?_,?_,?_,fun b o u z=>p.ext.lP b o u (st.ext.lP b o u z)⟩,fun a m=>st.mu a (mu a m),fun j u z=>?_⟩,mu⟩
  . by_cases hj:j∈slotsOf us
    . obtain⟨u,u',o,a,q1,q2,q3,q4,q5,q6⟩:=FF j hj
      rw[q3] at z
      cases z
      refine⟨.ref a,q4,?_⟩
      cases u <;> cases q2
      . exact⟨a,rfl,q5,q6⟩
      . exact⟨a,rfl,q5,q6⟩
    . rw[out j hj] at z
      obtain⟨v,h1,h2⟩:=R.rep j w z
      refine⟨v,h1,h2.le p.ext.le p.ext.lP fun a hm ha=>?_⟩
      have hna:a∉addrs vs ws:=fun hc=>by
        rcases Eo a hc with⟨i,u,q0,q1,q2,q3⟩ | ⟨_,_,_,q⟩
        . have:=R.Ej i j u w a q1 q2 z hm q3 (by rw[h1,ha])
          subst this
          exact hj q0
        . exact q ⟨j,w,z,hm,by rw[h1,ha]⟩
      obtain⟨c,o,e,f,_,k⟩:=h2.dQ hm
      rw[ha] at e
      cases e
      obtain⟨ho,hh⟩:=k.has
      exact⟨fun o q=>p.ext.keep a o q hna,p.ext.kB a ho hh hna f⟩
  . obtain⟨Zr,q1,n1⟩:=orig z1 m1
    obtain⟨Zs,q2,n2⟩:=orig z2 m2
    exact R.Ej j k Zr Zs c q1 n1 q2 n2
  . by_cases hj:j∈slotsOf us
    . obtain⟨u,u',o',a',q1,q2,q3,q4,q5⟩:=FF j hj
      rw[q3] at z
      cases z
      cases u <;> cases q2
      exact R.own j _ a q1 hv
    . rw[out j hj] at z;exact R.own j o a z hv
  . by_cases hj:j∈slotsOf us
    . obtain⟨u,u',o',a',q1,q2,q3,q4,q5⟩:=FF j hj
      rw[q3] at z
      cases z
      cases u <;> cases q2
      exact R.bor j _ a q1 hv
    . rw[out j hj] at z;exact R.bor j o a z hv
  . obtain⟨k1,o,k2⟩:=R.par j a z
    refine⟨k1,?_⟩
    by_cases hj:j∈slotsOf us
    . obtain⟨u,u',o',a',q1,q2,q3,q4,q5⟩:=FF j hj
      rw[k2] at q1
      cases q1
      cases q2
      exact⟨_,q3⟩
    . exact⟨o,by rw[out j hj];exact k2⟩
  . refine R.ext.trans p.ext fun b hb=>?_
    rcases Eo b hb with⟨i,u,q0,q1,q2,q3⟩ | ⟨_,_,q,_⟩
    . cases u with
      | t d=>cases q2
      | v d=>cases q2
      | s d=>cases q2
      | f d=>cases q2
      | m o=>exact .inr (R.own i o b q1 q3)
      | b o=>exact .inl (R.bor i o b q1 q3)
    . exact .inr q
  . exact fun b o h=>p.ext.le b o (st.ext.le b o h)
  . intro b o h n
    refine p.ext.keep b o (st.ext.keep b o h n) fun hb=>?_
    rcases Eo b hb with⟨i,u,q0,q1,q2,q3⟩ | ⟨_,q,_⟩
    . exact n (st.mu b ⟨i,u,q1,q2,q3⟩)
    . rw[h] at q;cases q
  . intro b o h n f
    refine p.ext.kB b o (st.ext.keep b o h n) (fun hb=>?_) (st.ext.kB b o h n f)
    rcases Eo b hb with⟨i,u,q0,q1,q2,q3⟩ | ⟨_,q,_⟩
    . exact n (st.mu b ⟨i,u,q1,q2,q3⟩)
    . rw[h] at q;cases q
  . intro b o h
    obtain⟨o',h'⟩:=st.ext.there b o h
    exact p.ext.there b o' h'
  . obtain⟨u',h'⟩:=st.slots j u z
    by_cases hj:j∈slotsOf us
    . obtain⟨_,u2,_,_,_,_,q3,_⟩:=FF j hj
      exact⟨u2,q3⟩
    . exact⟨u',by rw[out j hj];exact h'⟩
section
variable {X:Cx}{e:Expr}{es:List Expr}{gu:GU}{x:Str}{p pos:Pos}{f:FM}{fa:Addr}{fd:FuncData}{ps:List Str}{k n:Nat}
theorem aR (F:cy X.prog X.w X.K X.mg X.base fY k fa fd ps (spT X.K n f)) (hr:lT k X.A) (hg:Gl X x) (hm:X.mg x=some (.ref fa)) (hk:PySem.W.keepIn X.K (.ref fa)=true) (hb:Binds X.K fd ps []) (ha:JU X (e :: es) gu) (hn:(e :: es).length=n:=by rfl)
  (hdb:(x == ("__debug__":Str))=false:=by decide) (he:starEach (e :: es) X.env=(false,eval e X.env) :: starEach es X.env:=by rfl) (hpl:(backTo pos (starEach es X.env)).any (·.1)=false:=by rfl):
  JE X (.Call (.Name x p) (e :: es) [] pos) (aU f gu):=⟨fun B=>(LZ F hr hg hm hk hb .nil OD (ha.h B) hdb he hpl).imp fun σ H Q ⟨S,F0,u,S',R,hg,q⟩=>by
 obtain⟨⟨us,S1⟩,h1,hg⟩:=ak hg
 dsimp only at hg
 split at hg
 ·rename_i hc
  obtain⟨ws,h2,hg⟩:=ak hg
  obtain⟨⟨r,outs⟩,h3,hg⟩:=ak hg
  obtain⟨S2,h4,hg⟩:=aC hg
  cases hg
  refine⟨S,F0,us,S1,R,h1,fun vs F1 H1 R1 st1 rr=>?_⟩
  show spT X.K n f (vs++[]) H1 Q E0
  rw[List.append_nil]
  have hlen:vs.length=n:=by rw[rr.length,ha.len _ _ _ h1];exact hn
  refine⟨hlen,F1,ws,r,outs,R1.sub,rK R1 rr h2,fL R1 rr h2 hc.1 hc.2,h3,fun v F2 H2 po rn=>?_⟩
  obtain⟨R2,st2,mu⟩:=lq R1 st1 rr h2 h4 hc.1 po
  refine q v F2 H2 R2 st2 ?_
  cases r with
  | t d=>exact rn
  | b o=>cases rn
  | v i=>cases rn
  | s i=>cases rn
  | f i=>cases rn
  | m o=>
   obtain⟨a,e,h0,f,h⟩:=rn
   refine⟨a,e,none_of st1.ext.there h0,f,h,fun m=>?_,none_of R1.ext.there h0⟩
   obtain⟨o',ho⟩:=R1.has (mu a m)
   rw[h0] at ho
   cases ho
 ·cases hg⟩
end
noncomputable def aH:List U->SS->Option (List MO)
 | [],_=>some []
 | .b _ :: us,some (.b o) :: S=>(aH us S).map fun os=>o :: os
 | .b _ :: _,_=>none
 | _ :: us,_ :: S=>aH us S
 | _ :: _,[]=>none
noncomputable def aL (n:Nat) (g:GS):FM:=fun us=>(g (us.map some++List.replicate (n - us.length) none)).bind fun o=>match o with
 | .rt (.t d) S=>(aH us S).map fun os=>(.t d,os)
 | .rt (.m o) S=>(aH us S).map fun os=>(.m o,os)
 | .nx S=>(aH us S).map fun os=>(.t .dW,os)
 | _=>none
noncomputable def lent:List V->List U->List (Option Addr)
 | .ref a :: vs,.b _ :: us=>some a :: lent vs us
 | _ :: vs,_ :: us=>none :: lent vs us
 | _,_=>[]
theorem ou:∀(vs:List V) (us:List U) (a:Addr),some a∈lent vs us↔a∈addrs vs us
 | [],us,a=>by cases us <;> simp[lent,addrs]
 | v :: vs,[],a=>by cases v <;> simp[lent,addrs]
 | v :: vs,u :: us,a=>by
  have ih:=ou vs us a
  cases v <;> cases u <;> simp[lent,addrs,ih]
theorem Br:∀{vs:List V}{us:List U}{i:Nat}{a:Addr},(lent vs us)[i]? =some (some a)->vs[i]? =some (.ref a)/\∃o,us[i]? =some (.b o)
 | [],us,i,a,h=>by cases us <;> simp[lent] at h
 | v :: vs,[],i,a,h=>by cases v <;> simp[lent] at h
 | v :: vs,u :: us,0,a,h=>by
  cases v <;> cases u <;> simp[lent] at h
  subst h
  exact⟨rfl,_,rfl⟩
 | v :: vs,u :: us,i+1,a,h=>by
  have h':(lent vs us)[i]? =some (some a):=by cases v <;> cases u <;> simpa[lent] using h
  simpa using Br h'
theorem Ac {K:PySem.W.Frag}:∀{F H:Hp}{vs:List V}{us:List U}{i:Nat}{o:MO},Paired (Jc K F H) vs us->us[i]? =some (.b o)->∃a,vs[i]? =some (.ref a)/\(lent vs us)[i]? =some (some a)/\F a=none/\At F H a o
 | _,_,_,_,_,_,.nil,h=>by simp at h
 | _,_,_,_,0,o,@Paired.cons _ _ _ v u vs us r rs,h=>by
  simp at h
  subst h
  obtain⟨a,rfl,f,k⟩:=r
  exact⟨a,rfl,rfl,f,k⟩
 | _,_,_,_,i+1,o,@Paired.cons _ _ _ v u vs us r rs,h=>by
  obtain⟨a,h1,h2,h3⟩:=Ac (i:=i) rs (by simpa using h)
  refine⟨a,by simpa using h1,?_,h3⟩
  cases v <;> cases u <;> simpa[lent] using h2
theorem zd : ∀ {vs : List V} {us : List U} {i j : Nat} {a : Addr}, (addrs vs us).Nodup -> (lent vs us)[i]? = some (some a) -> (lent vs us)[j]? = some (some a) -> i = j
  | [],us,i,j,a,_,h,_=>by cases us <;> simp[lent] at h
  | v :: vs,[],i,j,a,_,h,_=>by cases v <;> simp[lent] at h
  | v :: vs, u :: us, i, j, a, nd, h1, h2 => by
    have ih:∀{i j},(addrs vs us).Nodup->(lent vs us)[i]? =some (some a)->(lent vs us)[j]? =some (some a)->i=j:=fun {i j}=>zd (i:=i) (j:=j)
    by_cases Zv:∃c o,v= .ref c/\u= .b o
    . obtain⟨c,o,rfl,rfl⟩:=Zv
      obtain⟨n1,n2⟩:=List.nodup_cons.mp (show(c :: addrs vs us).Nodup from nd)
      cases i with
      | zero=>
        cases j with
        | zero=>rfl
        | succ j=>
          have e1:c=a:=by simpa[lent] using h1
          have e2:(lent vs us)[j]? =some (some a):=by simpa[lent] using h2
          subst e1
          exact absurd ((ou vs us c).mp (List.mem_of_getElem? e2)) n1
      | succ i=>
        have e1:(lent vs us)[i]? =some (some a):=by simpa[lent] using h1
        cases j with
        | zero=>
          have e2:c=a:=by simpa[lent] using h2
          subst e2
          exact absurd ((ou vs us c).mp (List.mem_of_getElem? e1)) n1
        | succ j=>exact congrArg Nat.succ (ih n2 e1 (by simpa[lent] using h2))
    . have e1:lent (v :: vs) (u :: us)=none :: lent vs us:=by cases v <;> cases u <;> first | rfl | exact absurd ⟨_,_,rfl,rfl⟩ Zv
      have e2:addrs (v :: vs) (u :: us)=addrs vs us:=by cases v <;> cases u <;> first | rfl | exact absurd ⟨_,_,rfl,rfl⟩ Zv
      rw[e1] at h1 h2
      rw[e2] at nd
      cases i with
      | zero=>simp at h1
      | succ i=>
        cases j with
        | zero=>simp at h2
        | succ j=>exact congrArg Nat.succ (ih nd (by simpa using h1) (by simpa using h2))
theorem qG {α β:Type}{P:α->β->Prop}:∀{l:List α}{r:List β}{i:Nat}{y:β},Paired P l r->r[i]? =some y->∃x,l[i]? =some x/\P x y
 | _,_,_,_,.nil,h=>by simp at h
 | _,_,0,_,.cons p _,h=>by simp at h;subst h;exact⟨_,rfl,p⟩
 | _,_,i+1,_,.cons _ ps,h=>by
  obtain⟨x,h1,h2⟩:=qG (i:=i) ps (by simpa using h)
  exact⟨x,by simpa using h1,h2⟩
theorem pR {K:PySem.W.Frag}{F H:Hp}{vs:List V}{us:List U}{n:Nat}(sb:Sub F H) (ar:Paired (Jc K F H) vs us) (nd:(addrs vs us).Nodup) (N:List Str) (hN:N.length=n):
  Rel K ⟨lent vs us,F,H⟩ (us.map some++List.replicate (n - us.length) none) (start N vs) F H:=by
 have hl:vs.length=us.length:=ar.length
 have gS:∀{i:Nat}{u:U},(us.map some++List.replicate (n - us.length) none)[i]? =some (some u)->us[i]? =some u:=fun {i u} h=>by
  rw[List.getElem?_append] at h
  split at h
  ·rw[List.getElem?_map] at h
   obtain⟨w,h1,h2⟩:=aC h
   cases h2
   exact h1
  ·rw[List.getElem?_replicate] at h
   split at h <;> cases h
 have Zw:∀{i:Nat}{v:V},vs[i]? =some v->(start N vs)[i]? =some (some v):=fun {i v} h=>by
  unfold start
  have hi:=(List.getElem?_eq_some_iff.mp h).1
  rw[List.getElem?_append_left (by simpa using hi),List.getElem?_map,h]
  rfl
 have vb:∀{i:Nat}{v w:V},vs[i]? =some v->(start N vs)[i]? =some (some w)->v=w:=fun {i v w} h k=>by
  rw[Zw h] at k
  cases k
  rfl
 have Mt:∀{i:Nat}{u:U},us[i]? =some u->ir u=true->∃o a,u= .b o/\vs[i]? =some (.ref a)/\(lent vs us)[i]? =some (some a)/\F a=none/\At F H a o:=fun {i u} h hm=>by
  obtain⟨v,h1,h2⟩:=qG ar h
  cases u with
  | t d=>cases hm
  | v d=>cases hm
  | s d=>cases hm
  | f d=>cases hm
  | m o=>cases h2
  | b o=>obtain⟨a,k1,k2,k3,k4⟩:=Ac ar h;exact⟨o,a,rfl,k1,k2,k3,k4⟩
 refine⟨sb,?_,fun i u h=>?_,fun i j u w a h1 m1 h2 m2 v1 v2=>?_,fun i o a h hv=>?_,fun i o a h hv=>?_,fun i a h=>?_,Ext.refl ..⟩
 ·unfold start;simp[hl,hN]
 ·obtain⟨v,h1,h2⟩:=qG ar (gS h)
  refine⟨v,Zw h1,?_⟩
  cases u with
  | t d=>exact h2
  | s d=>exact h2
  | f d=>exact h2
  | v d=>cases h2
  | m o=>cases h2
  | b o=>exact h2
 ·obtain⟨_,a1,_,k1,k2,_⟩:=Mt (gS h1) m1
  obtain⟨_,a2,_,l1,l2,_⟩:=Mt (gS h2) m2
  have e1:=vb k1 v1
  have e2:=vb l1 v2
  cases e1
  cases e2
  exact zd nd k2 l2
 ·obtain⟨_,_,e,_⟩:=Mt (gS h) rfl
  cases e
 ·obtain⟨_,a1,_,k1,k2,_⟩:=Mt (gS h) rfl
  have e1:=vb k1 hv
  cases e1
  exact List.mem_of_getElem? k2
 ·obtain⟨k1,o,k2⟩:=Br h
  refine⟨Zw k1,o,?_⟩
  have hi:=(List.getElem?_eq_some_iff.mp k2).1
  rw[List.getElem?_append_left (by simpa using hi),List.getElem?_map,k2]
  rfl
theorem Ad {F' H' : Hp} : ∀ {vs : List V} {us : List U} {S : SS} {os : List MO}, aH us S = some os -> vs.length = us.length -> (∀ (i : Nat) (o : MO) (a : Addr), (lent vs us)[i]? = some (some a) -> S[i]? = some (some (.b o)) -> F' a = none /\ At F' H' a o) -> (∀ (i : Nat) (o : MO), us[i]? = some (.b o) -> ∃ a, vs[i]? = some (.ref a)) ->
    Paired (fun a o=>F' a=none/\At F' H' a o) (addrs vs us) os
  | [],[],S,os,h,_,_,_=>by cases S <;> (simp[aH] at h;subst h;exact .nil)
  | [],_ :: _,_,_,_,l,_,_=>by cases l
  | _ :: _,[],_,_,_,l,_,_=>by cases l
  | v :: vs, u :: us, S, os, h, l, k, kb => by
    have l':vs.length=us.length:=by simpa using l
    have kb':∀(i:Nat) (o:MO),us[i]? =some (.b o)->∃a,vs[i]? =some (.ref a):=fun i o z=>by simpa using kb (i+1) o (by simpa using z)
    by_cases hu:∃o,u= .b o
    . obtain⟨o,rfl⟩:=hu
      obtain⟨a,ha⟩:=kb 0 o rfl
      have ha:v= .ref a:=by simpa using ha
      subst ha
      cases S with
      | nil=>simp[aH] at h
      | cons s S=>
        cases s with
        | none=>simp[aH] at h
        | some s=>
          cases s with
          | b o'=>
            obtain⟨os',h1,h2⟩:=aC (show(aH us S).map (fun os=>o' :: os)=some os from h)
            subst h2
            exact .cons (k 0 o' a rfl rfl) (Ad h1 l' (fun i o a z1 z2=>k (i+1) o a (by simpa[lent] using z1) (by simpa using z2)) kb')
          | t d=>simp[aH] at h
          | m d=>simp[aH] at h
          | v d=>simp[aH] at h
          | s d=>simp[aH] at h
          | f d=>simp[aH] at h
    . cases S with
      | nil=>cases u <;> first | (simp[aH] at h;done) | exact absurd ⟨_,rfl⟩ hu
      | cons s S=>
        have h':aH us S=some os:=by cases u <;> first | exact absurd ⟨_,rfl⟩ hu | simpa[aH] using h
        have e2:addrs (v :: vs) (u :: us)=addrs vs us:=by cases v <;> cases u <;> first | rfl | exact absurd ⟨_,rfl⟩ hu
        have e1:lent (v :: vs) (u :: us)=none :: lent vs us:=by cases v <;> cases u <;> first | rfl | exact absurd ⟨_,rfl⟩ hu
        rw[e2]
        exact Ad h' l' (fun i o a z1 z2=>k (i+1) o a (by rw[e1];simpa using z1) (by simpa using z2)) kb'
theorem post_of {K:PySem.W.Frag}{F0 H:Hp}{vs:List V}{us:List U}(ar:Paired (Jc K F0 H) vs us) (S':SS) (σ':St) (F' H':Hp) (os:List MO) (R':Rel K ⟨lent vs us,F0,H⟩ S' σ' F' H') (ho':aH us S'=some os):Post F0 H F' H' (addrs vs us) os:=by
 refine⟨R'.sub,⟨R'.ext.le,fun b o z n=>R'.ext.keep b o z fun m=>n ((ou vs us b).mp m),fun b o z n=>R'.ext.kB b o z fun m=>n ((ou vs us b).mp m),R'.ext.there,R'.ext.lP⟩,Ad ho' ar.length (fun i o a z1 z2=>?_) fun i o z=>?_⟩
 ·obtain⟨k1,o2,k2⟩:=R'.par i a z1
  obtain⟨v,j1,j2⟩:=R'.rep i _ z2
  rw[k1] at j1
  cases j1
  obtain⟨c,e,f,k⟩:=j2
  cases e
  exact⟨f,k⟩
 ·obtain⟨a,h1,_⟩:=Ac ar z
  exact⟨a,h1⟩
section
variable {P:Program}{w:World}{K:PySem.W.Frag}{mg:Str->Option Value}{base:Heap}
theorem tU {x qual:Str}{st:Stmt}{f:Addr}{fd:FuncData}{N ps:List Str}{k:Nat}{fm:FM}{g:GS}(F:p8 K x qual st f fd) (Sc:cD N ps (aG st))
  (hb:∀(cdv:Value) (A:Around) (outer:List Env) (s:Shared) (H:Hp) (E:XK),lT k (A.deeper (envOfC qual (aG st) s.heap.objs.size f cdv))->JB (CO fY P w K mg base N qual (aG st) f cdv A outer s H E).T5 (bQ st) g)
  (hf:∀us r,fm us=some r->aL N.length g us=some r):cy P w K mg base fY (k+1) f fd ps (spT K ps.length fm):=by
 refine F.ok Sc (fun vs H Q E h=>h.1) fun cdv A outer s H vs Q E hr h=>?_
 obtain⟨hlen,F0,us,r,outs,sb,ar,nd,hfm,q⟩:=h
 have hrun:=hf us (r,outs) hfm
 have J:=hb cdv A outer s H E hr
 refine⟨_,J.h ⟨lent vs us,F0,H⟩,?_⟩
 have R0:=pR sb ar nd N rfl
 obtain⟨o,ho,hrun⟩:=ak hrun
 refine⟨_,F0,o,R0,ho,?_⟩
 have post:=post_of ar
 cases o with
 | bk S'=>cases hrun
 | ct S'=>cases hrun
 | nx S'=>
  obtain⟨os,h1,h2⟩:=aC (show(aH us S').map _=some (r,outs) from hrun)
  cases h2
  exact fun σ' F' H' R' le=>q .dW F' H' (post S' σ' F' H' outs R' h1) .dW
 | rt u S'=>
  cases u with
  | b o=>cases hrun
  | v i=>cases hrun
  | s i=>cases hrun
  | f i=>cases hrun
  | t d=>
   obtain⟨os,h1,h2⟩:=aC (show(aH us S').map _=some (r,outs) from hrun)
   cases h2
   exact fun v σ' F' H' R' le rr=>q v F' H' (post S' σ' F' H' outs R' h1) rr
  | m o=>
   obtain⟨os,h1,h2⟩:=aC (show(aH us S').map _=some (r,outs) from hrun)
   cases h2
   exact fun v σ' F' H' R' le rr=>q v F' H' (post S' σ' F' H' outs R' h1) (by obtain⟨a,e,h0,f,h,n,hB⟩:=rr;exact⟨a,e,hB,f,h⟩)
end
noncomputable def qH (S:SS) (i:Nat):Option U:=match S[i]? with
 | some (some (.t d))=>some (.t d)
 | some (some (.s d))=>some (.s d)
 | some (some (.f d))=>some (.f d)
 | some (some (.m _))=>some (.v i)
 | some (some (.b _))=>some (.v i)
 | _=>none
noncomputable def eZ (S:SS):List Nat->Option (List U)
 | []=>some []
 | i :: cap=>(qH S i).bind fun u=>(eZ S cap).map fun us=>u :: us
noncomputable def dj:GT:=fun S=>some (true,S)
noncomputable def d9 (cap:List Nat) (q:GT) (g:GD):List D->SS->List D->Option (List D×SS)
  | [],S,acc=>some (acc,S)
  | d :: ds, S, acc => (eZ S cap).bind fun us =>
    if(slotsOf us).Nodup/\dh us<=1 then(cO S us).bind fun ws=>(q (some (.t d) :: ws.map some)).bind fun p=>
      if p.1 then(g p.2).bind fun r=>(aH (.t d :: ws) r.2).bind fun outs=>(wb us outs S).bind fun S'=>d9 cap q g ds S' (acc++[r.1])
      else(aH (.t d :: ws) p.2).bind fun outs=>(wb us outs S).bind fun S'=>d9 cap q g ds S' acc
    else none
noncomputable def lu (cap:List Nat) (gi:GI) (q:GT) (g:GD):GE:=fun S=>(gi S).bind fun p=>if p.1.length<=100000 then(d9 cap q g p.1 p.2 []).map fun r=>(.m (.lst r.1),r.2) else none
structure SX (X:Cx) (es:List Expr) (q:GT):Prop where
 h:∀B,LG X es (tQ X.K B q)
theorem kF {X:Cx}:SX X [] dj:=⟨fun B pins s σ H Q I ⟨S,F,b,S',R,hg,q⟩=>by cases hg;exact Mj pins s σ H Q I (q F H R (Step.refl ..))⟩
theorem Mu {X:Cx}{c:Expr}{q:GT}(h:JT X c q):SX X [c] q:=⟨fun B=>Mk (h.h B)⟩
theorem Ae {K:PySem.W.Frag}{B:Base}{S:SS}{σ:St}{F H:Hp}(R:Rel K B S σ F H):∀{cap:List Nat}{us:List U},eZ S cap=some us->∃vs:List V,cR cap σ=vs.map some/\Paired (fun v u=>kD K B S σ H F H v u) vs us
  | [],us,h=>by cases h;exact⟨[],rfl,.nil⟩
  | i :: cap, us, h => by
    obtain⟨u,h1,h⟩:=ak h
    obtain⟨us',h2,h⟩:=aC h
    subst h
    obtain⟨vs,k1,k2⟩:=Ae R h2
    have one:∀w,S[i]? =some (some w)->∃v,σ[i]? =some (some v)/\v8 K F H v w:=R.rep i
    unfold qH at h1
    have fin:∀v,σ[i]? =some (some v)->kD K B S σ H F H v u->∃vs:List V,cR (i :: cap) σ=vs.map some/\Paired (fun v u=>kD K B S σ H F H v u) vs (u :: us'):=fun v e r=>
      ⟨v :: vs,by show(σ[i]?).join :: cR cap σ=_;rw[e,k1];rfl,.cons r k2⟩
    split at h1
    . rename_i d e
      cases h1
      obtain⟨v,e1,r⟩:=one _ e
      exact fin v e1 r
    . rename_i d e
      cases h1
      obtain⟨v,e1,r⟩:=one _ e
      exact fin v e1 r
    . rename_i d e
      cases h1
      obtain⟨v,e1,r⟩:=one _ e
      exact fin v e1 r
    . rename_i o e
      cases h1
      obtain⟨v,e1,r⟩:=one _ e
      exact fin v e1 ⟨e1,_,e⟩
    . rename_i o e
      cases h1
      obtain⟨v,e1,r⟩:=one _ e
      exact fin v e1 ⟨e1,_,e⟩
    . cases h1
theorem ow {K:PySem.W.Frag}{B:Base}{S:SS}{σ:St}{F H:Hp}(R:Rel K B S σ F H) (d:D){us ws:List U}(h:cO S us=some ws):cO S (.t d :: us)=some (.t d :: ws):=by
 show(some (U.t d)).bind _=_
 show(cO S us).map _=_
 rw[h]
 rfl
theorem Bs {K : PySem.W.Frag} {B : Base} {cap : List Nat} {gi : GI} {q : GT} {g : GD} {σ : St} {H : Hp} {Q : VK} (h : tE K B (lu cap gi q g) σ H Q) : W7 (Zq K B gi) cap (fun σ H Q => ∃ B, tQ K B q σ H Q) (fun σ H Q => ∃ B, tD K B g σ H Q) σ H Q := by
  obtain⟨x,_⟩:∃x:Str,True:=⟨"",trivial⟩
  obtain⟨S,F,u,S',R,hg,k⟩:=h
  obtain⟨⟨ds,S1⟩,h1,hg⟩:=ak hg
  dsimp only at hg
  split at hg
  . rename_i hlen
    obtain⟨⟨res,Sf⟩,h2,hg⟩:=aC hg
    cases hg
    refine⟨S,F,ds,S1,R,h1,fun J F1 H1 R1 st1 w=>?_⟩
    refine⟨fun i m ys H'=>∃S2 F2 acc,Rel K B S2 σ F2 H'/\Step S S2 σ F H F2 H'/\(∀b o,F1 b=some o->F2 b=some o)/\bS F2 ys acc/\acc.length<=i/\i<=ds.length/\m=ds.length - i/\d9 cap q g (ds.drop i) S2 acc=some (res,Sf),
      ⟨_,S1,F1,[],R1,st1,fun _ _ z=>z,.nil,Nat.le_refl _,Nat.zero_le _,rfl,h2⟩,?_⟩
    rintro i m ys H' ⟨S2,F2,acc,R2,st2,le,ry,ha,hl,rfl,dP⟩
    refine⟨by rw[ry.length];exact Nat.lt_of_le_of_lt (Nat.le_trans ha (Nat.le_trans hl hlen)) (by decide),?_⟩
    have w':=w F2 H' le R2.sub i
    by_cases hlt:i < ds.length
    . have hd:ds[i]? =some ds[i]:=List.getElem?_eq_getElem hlt
      obtain⟨go,yl⟩:=w'.1 _ hd
      rw[List.drop_eq_getElem_cons hlt] at dP
      refine .inr ⟨go,fun xv H3 y=>?_⟩
      obtain⟨rfl,rx⟩:=yl xv H3 y
      obtain⟨us,e1,dP⟩:=ak dP
      skip
      split at dP
      . rename_i hnd
        obtain⟨ws,e2,dP⟩:=ak dP
        obtain⟨⟨bk,T1⟩,e3,dP⟩:=ak dP
        obtain⟨vs,k1,k2⟩:=Ae R2 e1
        have rr:Paired (fun v u=>kD K B S2 σ H3 F2 H3 v u) (xv :: vs) (.t ds[i] :: us):=.cons rx k2
        have er:=ow R2 ds[i] e2
        have ar:=rK R2 rr er
        have nd:=fL R2 rr er hnd.1 hnd.2
        have R3:=pR (n:=ws.length+1) R2.sub ar nd (List.replicate (ws.length+1) x) (by simp)
        have hvl:vs.length=ws.length:=by have:=ar.length;simpa using this
        have es:start (List.replicate (ws.length+1) x) (xv :: vs)=some xv :: cR cap σ:=by
          unfold start;rw[k1];simp[hvl]
        have eS:(U.t ds[i] :: ws).map some++List.replicate (ws.length+1 - (U.t ds[i] :: ws).length) none=some (U.t ds[i]) :: ws.map some:=by simp
        rw[es,eS] at R3
        have back:∀(T2:SS) (F3 H4:Hp) (outs:List MO) (S3:SS),Rel K ⟨lent (xv :: vs) (U.t ds[i] :: ws),F2,H3⟩ T2 (some xv :: cR cap σ) F3 H4->aH (U.t ds[i] :: ws) T2=some outs->wb us outs S2=some S3->Rel K B S3 σ F3 H4/\Step S S3 σ F H F3 H4/\(∀b o,F2 b=some o->F3 b=some o):=fun T2 F3 H4 outs S3 RT ho hw=>by
          have po:=post_of ar T2 _ F3 H4 outs RT ho
          obtain⟨Ra,wC,_⟩:=lq (S0:=S2) (F0:=F2) (H0:=H3) R2 (Step.refl ..) rr er (show wb (U.t ds[i] :: us) outs S2=some S3 by cases outs <;> exact hw) hnd.1 po
          exact⟨Ra,st2.trans wC,wC.ext.le⟩
        refine⟨_,_,F2,bk,T1,R3,e3,fun F3 H4 OI UW=>?_⟩
        cases bk with
        | true=>
          obtain⟨⟨yd,T2⟩,e4,dP⟩:=ak (show(g T1).bind _=_ from dP)
          obtain⟨outs,e5,dP⟩:=ak dP
          obtain⟨S3,e6,dP⟩:=ak dP
          refine zX ⟨_,T1,F3,yd,T2,OI,e4,fun yv F4 H5 UX UY UZ=>?_⟩
          obtain⟨Ra,wC,Bt⟩:=back T2 F4 H5 outs S3 UX e5 e6
          refine⟨ds.length - (i+1),by omega,S3,F4,acc++[yd],Ra,wC,fun b o z=>Bt b o (le b o z),(ry.le Bt).append (.cons UZ .nil),by simp;omega,hlt,rfl,dP⟩
        | false=>
          obtain⟨outs,e5,dP⟩:=ak (show(aH (U.t ds[i] :: ws) T1).bind _=_ from dP)
          obtain⟨S3,e6,dP⟩:=ak dP
          obtain⟨Ra,wC,Bt⟩:=back T1 F3 H4 outs S3 OI e5 e6
          exact zW ⟨ds.length - (i+1),by omega,S3,F3,acc,Ra,wC,fun b o z=>Bt b o (le b o z),ry.le Bt,by omega,hlt,rfl,dP⟩
      . cases dP
    . have e:i=ds.length:=by omega
      subst e
      rw[List.drop_length] at dP
      cases dP
      refine .inl ⟨w'.2 (Nat.le_refl _),fun p hp=>?_⟩
      have n:=iI.obj (F:=F2) hp (.lst ys)
      refine k (.ref p) F2 _ (R2.new n (R2.sub.same n.same)) (st2.trans n.step) ⟨p,rfl,none_of st2.ext.there hp,R2.sub.fresh hp,⟨ys,bh,ry⟩,fun m=>?_,none_of R2.ext.there hp⟩
      obtain⟨o,ho⟩:=R2.has m
      rw[hp] at ho
      cases ho
  . cases hg
theorem rM {X:Cx}{elt iter:Expr}{ifs:List Expr}{x:Str}{px pos:Pos}{scope:Scope}{cl:List (Str×Addr)}{cE:List Str}{cap:List Nat}{gi:GI}{q:GT}{g:GD}(T:jU X x cE cap scope cl) (hc:X.calm=true) (hi:JI X (.Name x px) iter gi)
  (ht:∀C s H fp,SX (dM X (x :: cE) scope cl C s H fp) ifs q) (he:∀C s H fp,JD (dM X (x :: cE) scope cl C s H fp) elt g)
  (hs:∀x,foldedSetIterable iter X.env x=pure x:=by intro _;rfl):JE X (.ListComp elt [⟨.Name x px,iter,ifs,0⟩] scope pos) (lu cap gi q g):=⟨fun B=>by
 exact(IB (tc:=fun σ H Q=>∃B,tQ X.K B q σ H Q) (te:=fun σ H Q=>∃B,tD X.K B g σ H Q) T hc (hi.h B) (fun C s H fp pins s' σ H' Q I ⟨B',z⟩=>(ht C s H fp).h B' pins s' σ H' Q I z) (fun C s H fp pins s' σ H' Q I ⟨B',z⟩=>(he C s H fp).h B' pins s' σ H' Q I z) hs).imp fun σ H Q h=>Bs h⟩
theorem Jd {X:Cx}{elt iter:Expr}{ifs:List Expr}{x y:Str}{px pos py spos:Pos}{scope:Scope}{cl:List (Str×Addr)}{cE:List Str}{cap:List Nat}{gi:GI}{q:GT}{g:GD}{i:Nat}(hN:X.N.Nodup) (hy:X.N[i]? =some y) (hx:Loc X.env.scope y) (T:jU X x cE cap scope cl) (hc:X.calm=true) (hi:JI X (.Name x px) iter gi)
  (ht:∀C s H fp,SX (dM X (x :: cE) scope cl C s H fp) ifs q) (he:∀C s H fp,JD (dM X (x :: cE) scope cl C s H fp) elt g)
  (hsw:swapsWith (.ListComp elt [⟨.Name x px,iter,ifs,0⟩] scope pos) (some (.Name y py)) spos.line X.env=pure true:=by rfl) (hf:X.fn y=true\/X.env.scope.names.lookup y=some .local:=by first | exact .inl rfl | exact .inr rfl | assumption)
  (hs:∀x,foldedSetIterable iter X.env x=pure x:=by intro _;rfl):JS X (.Assign [.Name y py] (.ListComp elt [⟨.Name x px,iter,ifs,0⟩] scope pos) spos) (cG i (lu cap gi q g)):=⟨fun B=>
 (IC (tc:=fun σ H Q=>∃B,tQ X.K B q σ H Q) (te:=fun σ H Q=>∃B,tD X.K B g σ H Q) T hc (hi.h B) (fun C s H fp pins s' σ H' Q I ⟨B',z⟩=>(ht C s H fp).h B' pins s' σ H' Q I z) (fun C s H fp pins s' σ H' Q I ⟨B',z⟩=>(he C s H fp).h B' pins s' σ H' Q I z) hs hN hy hx hsw hf).imp fun D σ H h=>Bs (Em h)⟩
mutual
noncomputable def lU:D->D->Bool
 | .dW,.dW=>true
 | .bl a,.bl b=>a == b
 | .int a,.int b=>a == b
 | .bl a,.int b=>(if a then 1 else 0) == b
 | .int a,.bl b=>a == (if b then 1 else 0)
 | .str a,.str b=>a == b
 | .tup a,.tup b=>nj a b
 | .lst a,.lst b=>nj a b
 | _,_=>false
noncomputable def nj:List D->List D->Bool
 | [],[]=>true
 | a :: as,b :: bs=>lU a b && nj as bs
 | _,_=>false
end
mutual
noncomputable def gC:D->Nat
 | .tup ds=>cP ds+1
 | .lst ds=>cP ds+1
 | _=>0
noncomputable def cP:List D->Nat
 | []=>0
 | d :: ds=>max (gC d) (cP ds)
end
mutual
theorem rN:∀d:D,lU d d=true
 | .dW=>rfl
 | .bl a=>by simp[lU]
 | .int a=>by simp[lU]
 | .str a=>by simp[lU]
 | .tup a=>by unfold lU;exact mL a
 | .lst a=>by unfold lU;exact mL a
theorem mL:∀ds:List D,nj ds ds=true
 | []=>rfl
 | d :: ds=>by unfold nj;rw[rN d,mL ds];rfl
end
noncomputable def oz (as bs:List D) (j:Nat):Bool:=match as[j]?,bs[j]? with
 | some a,some b=>lU a b
 | _,_=>true
theorem wD (n:Nat) (e:Nat->Bool):(List.range (n+1)).all e=(e 0 && (List.range n).all fun j=>e (j+1)):=by
 rw[List.range_succ_eq_map,List.all_cons,List.all_map]
 rfl
theorem oA:∀{as bs:List D},as.length≠bs.length->nj as bs=false
 | [],[],h=>absurd rfl h
 | [],_ :: _,_=>rfl
 | _ :: _,[],_=>rfl
 | a :: as,b :: bs,h=>by
  unfold nj
  rw[oA (as:=as) (bs:=bs) (fun z=>h (by simp[z])),Bool.and_false]
theorem lz:∀{as bs:List D},as.length=bs.length->(List.range as.length).all (oz as bs)=nj as bs
 | [],[],_=>rfl
 | [],_ :: _,h=>by cases h
 | _ :: _,[],h=>by cases h
 | a :: as,b :: bs,h=>by
  have h':as.length=bs.length:=by simpa using h
  show(List.range (as.length+1)).all _=_
  rw[wD]
  unfold nj
  have ih:=lz h'
  have e:(fun j=>oz (a :: as) (b :: bs) (j+1))=oz as bs:=by funext j;simp[oz]
  rw[e,ih]
  rfl
mutual
theorem Rep.uniq {F:Hp}:∀{v:V}{d e:D},Rep F v d->Rep F v e->d=e
 | _,_,_,.dW,r=>by cases r;rfl
 | _,_,_,.bl b,r=>by cases r;rfl
 | _,_,_,.int b,r=>by cases r;rfl
 | _,_,_,.str b,r=>by cases r;rfl
 | _,_,_,.tup e1 r1,r=>by
  cases r with
  | tup e2 r2=>rw[e1] at e2;cases e2;rw[bS.uniq r1 r2]
  | lst e2 r2=>rw[e1] at e2;cases e2
 | _,_,_,.lst e1 r1,r=>by
  cases r with
  | tup e2 r2=>rw[e1] at e2;cases e2
  | lst e2 r2=>rw[e1] at e2;cases e2;rw[bS.uniq r1 r2]
theorem bS.uniq {F:Hp}:∀{vs:List V}{ds es:List D},bS F vs ds->bS F vs es->ds=es
 | _,_,_,.nil,r=>by cases r;rfl
 | _,_,_,.cons r1 s1,r=>by
  cases r with
  | cons r2 s2=>rw[Rep.uniq r1 r2,bS.uniq s1 s2]
end
section
variable {X:Cx}{pins:List (Addr×Obj)}{σ:St}{F H:Hp}{s:Shared}
theorem Sub.isTup (I:Inv X pins σ H s) (sb:Sub F H){a:Addr}{vs:List V}(h:F a=some (.tup vs)):∃its:List Value,Vals vs its/\s.heap.IsTuple a its.toArray:=by
 obtain⟨its,rv,p,_⟩:=I.tuple (.inl (Rd.of (sb a _ h)))
 exact⟨its,rv,p⟩
theorem Sub.fK (I:Inv X pins σ H s) (sb:Sub F H){a:Addr}{vs:List V}(h:F a=some (.lst vs)):∃its:List Value,Vals vs its/\s.heap.IsList a its.toArray:=by
 obtain⟨its,rv,p,_⟩:=I.list (.inl (Rd.of (sb a _ h)))
 exact⟨its,rv,p.isList⟩
noncomputable def jW (A:Around) (s:Shared) (its cM:List Value) (ds es:List D):Prop:=∀j (h1:j < its.toArray.size) (h2:j < cM.toArray.size),SeqAt.EqAt A.in1 s its.toArray[j] cM.toArray[j] (oz ds es j)
theorem Ep {n m:Nat}(h:n=m) (e:Nat->Bool):((List.range (min n m)).all e && n == m)=(List.range n).all e:=by
 subst h;simp
theorem rO {A:Around}{ca cb:Addr}{g9 cM:List Value}{ds es:List D}(hu:A.units < cLine) (pa:s.heap.IsTuple ca g9.toArray) (pb:s.heap.IsTuple cb cM.toArray) (la:g9.length=ds.length) (lb:cM.length=es.length) (h:jW A s g9 cM ds es):
  SeqAt.RcAt A s (.ref ca) (.ref cb) (nj ds es):=by
 have q:=SeqAt.RcAt.tuples (e:=oz ds es) pa pb hu h
 rw[List.size_toArray,List.size_toArray,la,lb] at q
 by_cases hl:ds.length=es.length
 ·rw[Ep hl,lz hl] at q;exact q
 ·rw[oA hl]
  have:(ds.length == es.length)=false:=by simpa using hl
  rw[this,Bool.and_false] at q
  exact q
theorem wF {A:Around}{ca cb:Addr}{g9 cM:List Value}{ds es:List D}(hu:A.units < cLine) (pa:s.heap.IsTuple ca g9.toArray) (pb:s.heap.IsTuple cb cM.toArray) (la:g9.length=ds.length) (lb:cM.length=es.length) (h:jW A s g9 cM ds es):
  SeqAt.RcNeAt A s (.ref ca) (.ref cb) (!nj ds es):=by
 have q:=SeqAt.RcNeAt.tuples (e:=oz ds es) pa pb hu h
 rw[List.size_toArray,List.size_toArray,la,lb] at q
 by_cases hl:ds.length=es.length
 ·rw[Ep hl,lz hl] at q;exact q
 ·rw[oA hl]
  have:(ds.length == es.length)=false:=by simpa using hl
  rw[this,Bool.and_false] at q
  exact q
theorem uL {A:Around}{ca cb:Addr}{g9 cM:List Value}{ds es:List D}(hu:A.units < cLine) (pa:s.heap.IsList ca g9.toArray) (pb:s.heap.IsList cb cM.toArray) (la:g9.length=ds.length) (lb:cM.length=es.length) (h:jW A s g9 cM ds es):
  SeqAt.RcAt A s (.ref ca) (.ref cb) (nj ds es):=by
 by_cases hl:ds.length=es.length
 ·have q:=SeqAt.RcAt.lists (e:=oz ds es) pa pb (by rw[List.size_toArray,List.size_toArray,la,lb];exact hl) hu h
  rw[List.size_toArray,la,lz hl] at q;exact q
 ·rw[oA hl]
  exact SeqAt.RcAt.lists_lengths pa pb (by rw[List.size_toArray,List.size_toArray,la,lb];simpa using hl) hu
theorem yg {A:Around}{ca cb:Addr}{g9 cM:List Value}{ds es:List D}(hu:A.units < cLine) (pa:s.heap.IsList ca g9.toArray) (pb:s.heap.IsList cb cM.toArray) (la:g9.length=ds.length) (lb:cM.length=es.length) (h:jW A s g9 cM ds es):
  SeqAt.RcNeAt A s (.ref ca) (.ref cb) (!nj ds es):=by
 by_cases hl:ds.length=es.length
 ·have q:=SeqAt.RcNeAt.lists (e:=oz ds es) pa pb (by rw[List.size_toArray,List.size_toArray,la,lb];exact hl) hu h
  rw[List.size_toArray,la,lz hl] at q;exact q
 ·rw[oA hl]
  exact SeqAt.RcNeAt.lists_lengths pa pb (by rw[List.size_toArray,List.size_toArray,la,lb];simpa using hl) hu
theorem fE {α:Type}(l:List α) (j:Nat) (h:j < l.toArray.size):l[j]? =some l.toArray[j]:=by
 have z:j < l.length:=by simpa using h
 simp[z]
mutual
theorem OJ (I : Inv X pins σ H s) (sb : Sub F H) : ∀ (d : D) {e : D} {A : Around} {x y : V} {u w' : Value}, Rep F x d -> Rep F y e -> RelV x u -> RelV y w' -> A.units + gC d < cLine -> SeqAt.EqAt A s u w' (lU d e) := fun d {e A x y u w'} r1 r2 rx ry hu => by
  cases r1 with
  | dW=>
    cases rx
    cases r2 with
    | dW=>cases ry;exact SeqAt.EqAt.same _
    | bl b=>cases ry;exact SeqAt.EqAt.none_bool b
    | int b=>obtain⟨tb,rfl⟩:=ry;exact SeqAt.EqAt.none_int b tb
    | str b=>obtain⟨tb,rfl⟩:=ry;exact SeqAt.EqAt.none_str b tb
    | @tup cb oB mO eb rb=>cases ry;obtain⟨cM,lA,pb⟩:=sb.isTup I eb;exact SeqAt.EqAt.none_tuple pb (by omega)
    | @lst cb oB mO eb rb=>cases ry;obtain⟨cM,lA,pb⟩:=sb.fK I eb;exact SeqAt.EqAt.none_list pb (by omega)
  | bl a=>
    cases rx
    cases r2 with
    | dW=>cases ry;exact SeqAt.EqAt.bool_none a
    | bl b=>cases ry;exact SeqAt.EqAt.bool_bool a b
    | int b=>obtain⟨tb,rfl⟩:=ry;exact SeqAt.EqAt.bool_int a b tb
    | str b=>obtain⟨tb,rfl⟩:=ry;exact SeqAt.EqAt.bool_str a b tb
    | @tup cb oB mO eb rb=>cases ry;obtain⟨cM,lA,pb⟩:=sb.isTup I eb;exact SeqAt.EqAt.bool_tuple a pb (by omega)
    | @lst cb oB mO eb rb=>cases ry;obtain⟨cM,lA,pb⟩:=sb.fK I eb;exact SeqAt.EqAt.bool_list a pb (by omega)
  | int a=>
    obtain⟨ta,rfl⟩:=rx
    cases r2 with
    | dW=>cases ry;exact SeqAt.EqAt.int_none a ta
    | bl b=>cases ry;exact SeqAt.EqAt.int_bool a ta b
    | int b=>obtain⟨tb,rfl⟩:=ry;exact SeqAt.EqAt.int_int a ta b tb
    | str b=>obtain⟨tb,rfl⟩:=ry;exact SeqAt.EqAt.int_str a ta b tb
    | @tup cb oB mO eb rb=>cases ry;obtain⟨cM,lA,pb⟩:=sb.isTup I eb;exact SeqAt.EqAt.int_tuple a ta pb (by omega)
    | @lst cb oB mO eb rb=>cases ry;obtain⟨cM,lA,pb⟩:=sb.fK I eb;exact SeqAt.EqAt.int_list a ta pb (by omega)
  | str a=>
    obtain⟨ta,rfl⟩:=rx
    cases r2 with
    | dW=>cases ry;exact SeqAt.EqAt.str_none a ta
    | bl b=>cases ry;exact SeqAt.EqAt.str_bool a ta b
    | int b=>obtain⟨tb,rfl⟩:=ry;exact SeqAt.EqAt.str_int a ta b tb
    | str b=>obtain⟨tb,rfl⟩:=ry;exact SeqAt.EqAt.str_str a ta b tb
    | @tup cb oB mO eb rb=>cases ry;obtain⟨cM,lA,pb⟩:=sb.isTup I eb;exact SeqAt.EqAt.str_tuple a ta pb (by omega)
    | @lst cb oB mO eb rb=>cases ry;obtain⟨cM,lA,pb⟩:=sb.fK I eb;exact SeqAt.EqAt.str_list a ta pb (by omega)
  | @tup ca U0 qg ea ra=>
    cases rx;obtain⟨g9,Bu,pa⟩:=sb.isTup I ea
    cases r2 with
    | dW=>cases ry;exact SeqAt.EqAt.tuple_none pa (by omega)
    | bl b=>cases ry;exact SeqAt.EqAt.tuple_bool b pa (by omega)
    | int b=>obtain⟨tb,rfl⟩:=ry;exact SeqAt.EqAt.tuple_int b tb pa (by omega)
    | str b=>obtain⟨tb,rfl⟩:=ry;exact SeqAt.EqAt.tuple_str b tb pa (by omega)
    | @tup cb oB mO eb rb=>cases ry;obtain⟨cM,lA,pb⟩:=sb.isTup I eb;exact(by
      have hd:A.units+(cP qg+1) < cLine:=hu
      have items:jW A s g9 cM qg mO:=fun j h1 h2=>lB I sb qg (A:=A.in1) ra rb Bu lA (by show A.units+1+cP qg < cLine;omega) (fE g9 j h1) (fE cM j h2)
      by_cases hc:ca=cb
      . subst hc
        rw[ea] at eb
        cases eb
        obtain rfl:=bS.uniq ra rb
        show SeqAt.EqAt A s _ _ (nj qg qg)
        rw[mL]
        exact SeqAt.EqAt.same _
      . exact SeqAt.EqAt.of_refs hc (rO (by omega) pa pb (Bu.length.symm.trans ra.length) (lA.length.symm.trans rb.length) items))
    | @lst cb oB mO eb rb=>cases ry;obtain⟨cM,lA,pb⟩:=sb.fK I eb;exact SeqAt.EqAt.tuple_list pa pb (by omega)
  | @lst ca U0 qg ea ra=>
    cases rx;obtain⟨g9,Bu,pa⟩:=sb.fK I ea
    cases r2 with
    | dW=>cases ry;exact SeqAt.EqAt.list_none pa (by omega)
    | bl b=>cases ry;exact SeqAt.EqAt.list_bool b pa (by omega)
    | int b=>obtain⟨tb,rfl⟩:=ry;exact SeqAt.EqAt.list_int b tb pa (by omega)
    | str b=>obtain⟨tb,rfl⟩:=ry;exact SeqAt.EqAt.list_str b tb pa (by omega)
    | @tup cb oB mO eb rb=>cases ry;obtain⟨cM,lA,pb⟩:=sb.isTup I eb;exact SeqAt.EqAt.list_tuple pa pb (by omega)
    | @lst cb oB mO eb rb=>cases ry;obtain⟨cM,lA,pb⟩:=sb.fK I eb;exact(by
      have hd:A.units+(cP qg+1) < cLine:=hu
      have items:jW A s g9 cM qg mO:=fun j h1 h2=>lB I sb qg (A:=A.in1) ra rb Bu lA (by show A.units+1+cP qg < cLine;omega) (fE g9 j h1) (fE cM j h2)
      by_cases hc:ca=cb
      . subst hc
        rw[ea] at eb
        cases eb
        obtain rfl:=bS.uniq ra rb
        show SeqAt.EqAt A s _ _ (nj qg qg)
        rw[mL]
        exact SeqAt.EqAt.same _
      . exact SeqAt.EqAt.of_refs hc (uL (by omega) pa pb (Bu.length.symm.trans ra.length) (lA.length.symm.trans rb.length) items))
theorem lB (I : Inv X pins σ H s) (sb : Sub F H) : ∀ (ds : List D) {es : List D} {A : Around} {vs ws : List V} {us us' : List Value} {j : Nat} {u w' : Value}, bS F vs ds -> bS F ws es -> Vals vs us -> Vals ws us' -> A.units + cP ds < cLine -> us[j]? = some u -> us'[j]? = some w' -> SeqAt.EqAt A s u w' (oz ds es j) := fun ds {es A vs ws us us' j u w'} r1 r2 v1 v2 hu h1 h2 => by
  cases r1 with
  | nil=>cases v1;simp at h1
  | @cons v d vs ds r rs =>
    cases v1 with
    | cons q qs=>
      cases r2 with
      | nil=>cases v2;simp at h2
      | @cons w e ws es r' rs'=>
        cases v2 with
        | cons q' W9=>
          have hd:A.units+max (gC d) (cP ds) < cLine:=hu
          cases j with
          | zero=>
            simp at h1 h2
            subst h1 h2
            exact OJ I sb d r r' q q' (by omega)
          | succ j=>
            simp at h1 h2
            have:=lB I sb ds (A:=A) rs rs' qs W9 (j:=j) (by omega) h1 h2
            simpa[oz] using this
end
end
section
variable {X:Cx}{pins:List (Addr×Obj)}{σ:St}{F H:Hp}{s:Shared}
theorem U1 (I:Inv X pins σ H s) (sb:Sub F H){d e:D}{A:Around}{x y:V}{u w':Value}(r1:Rep F x d) (r2:Rep F y e) (rx:RelV x u) (ry:RelV y w') (hu:A.units+gC d < cLine):SeqAt.RcAt A s u w' (lU d e):=by
 cases r1 with
 | dW=>
  cases rx
  cases r2 with
  | dW=>cases ry;exact SeqAt.RcAt.none_none
  | bl b=>cases ry;exact SeqAt.RcAt.none_bool b
  | int b=>obtain⟨tb,rfl⟩:=ry;exact SeqAt.RcAt.none_int b tb
  | str b=>obtain⟨tb,rfl⟩:=ry;exact SeqAt.RcAt.none_str b tb
  | @tup cb oB mO eb rb=>cases ry;obtain⟨cM,lA,pb⟩:=sb.isTup I eb;exact SeqAt.RcAt.none_tuple pb (by omega)
  | @lst cb oB mO eb rb=>cases ry;obtain⟨cM,lA,pb⟩:=sb.fK I eb;exact SeqAt.RcAt.none_list pb (by omega)
 | bl a=>
  cases rx
  cases r2 with
  | dW=>cases ry;exact SeqAt.RcAt.bool_none a
  | bl b=>cases ry;exact SeqAt.RcAt.bool_bool a b
  | int b=>obtain⟨tb,rfl⟩:=ry;exact SeqAt.RcAt.bool_int a b tb
  | str b=>obtain⟨tb,rfl⟩:=ry;exact SeqAt.RcAt.bool_str a b tb
  | @tup cb oB mO eb rb=>cases ry;obtain⟨cM,lA,pb⟩:=sb.isTup I eb;exact SeqAt.RcAt.bool_tuple a pb (by omega)
  | @lst cb oB mO eb rb=>cases ry;obtain⟨cM,lA,pb⟩:=sb.fK I eb;exact SeqAt.RcAt.bool_list a pb (by omega)
 | int a=>
  obtain⟨ta,rfl⟩:=rx
  cases r2 with
  | dW=>cases ry;exact SeqAt.RcAt.int_none a ta
  | bl b=>cases ry;exact SeqAt.RcAt.int_bool a ta b
  | int b=>obtain⟨tb,rfl⟩:=ry;exact SeqAt.RcAt.int_int a ta b tb
  | str b=>obtain⟨tb,rfl⟩:=ry;exact SeqAt.RcAt.int_str a ta b tb
  | @tup cb oB mO eb rb=>cases ry;obtain⟨cM,lA,pb⟩:=sb.isTup I eb;exact SeqAt.RcAt.int_tuple a ta pb (by omega)
  | @lst cb oB mO eb rb=>cases ry;obtain⟨cM,lA,pb⟩:=sb.fK I eb;exact SeqAt.RcAt.int_list a ta pb (by omega)
 | str a=>
  obtain⟨ta,rfl⟩:=rx
  cases r2 with
  | dW=>cases ry;exact SeqAt.RcAt.str_none a ta
  | bl b=>cases ry;exact SeqAt.RcAt.str_bool a ta b
  | int b=>obtain⟨tb,rfl⟩:=ry;exact SeqAt.RcAt.str_int a ta b tb
  | str b=>obtain⟨tb,rfl⟩:=ry;exact SeqAt.RcAt.str_str a ta b tb
  | @tup cb oB mO eb rb=>cases ry;obtain⟨cM,lA,pb⟩:=sb.isTup I eb;exact SeqAt.RcAt.str_tuple a ta pb (by omega)
  | @lst cb oB mO eb rb=>cases ry;obtain⟨cM,lA,pb⟩:=sb.fK I eb;exact SeqAt.RcAt.str_list a ta pb (by omega)
 | @tup ca U0 qg ea ra=>
  cases rx;obtain⟨g9,Bu,pa⟩:=sb.isTup I ea
  cases r2 with
  | dW=>cases ry;exact SeqAt.RcAt.tuple_none pa (by omega)
  | bl b=>cases ry;exact SeqAt.RcAt.tuple_bool b pa (by omega)
  | int b=>obtain⟨tb,rfl⟩:=ry;exact SeqAt.RcAt.tuple_int b tb pa (by omega)
  | str b=>obtain⟨tb,rfl⟩:=ry;exact SeqAt.RcAt.tuple_str b tb pa (by omega)
  | @tup cb oB mO eb rb=>cases ry;obtain⟨cM,lA,pb⟩:=sb.isTup I eb;exact(by
   have hd:A.units+(cP qg+1) < cLine:=hu
   have items:jW A s g9 cM qg mO:=fun j h1 h2=>lB I sb qg (A:=A.in1) ra rb Bu lA (by show A.units+1+cP qg < cLine;omega) (fE g9 j h1) (fE cM j h2)
   exact rO (by omega) pa pb (Bu.length.symm.trans ra.length) (lA.length.symm.trans rb.length) items)
  | @lst cb oB mO eb rb=>cases ry;obtain⟨cM,lA,pb⟩:=sb.fK I eb;exact SeqAt.RcAt.tuple_list pa pb (by omega)
 | @lst ca U0 qg ea ra=>
  cases rx;obtain⟨g9,Bu,pa⟩:=sb.fK I ea
  cases r2 with
  | dW=>cases ry;exact SeqAt.RcAt.list_none pa (by omega)
  | bl b=>cases ry;exact SeqAt.RcAt.list_bool b pa (by omega)
  | int b=>obtain⟨tb,rfl⟩:=ry;exact SeqAt.RcAt.list_int b tb pa (by omega)
  | str b=>obtain⟨tb,rfl⟩:=ry;exact SeqAt.RcAt.list_str b tb pa (by omega)
  | @tup cb oB mO eb rb=>cases ry;obtain⟨cM,lA,pb⟩:=sb.isTup I eb;exact SeqAt.RcAt.list_tuple pa pb (by omega)
  | @lst cb oB mO eb rb=>cases ry;obtain⟨cM,lA,pb⟩:=sb.fK I eb;exact(by
   have hd:A.units+(cP qg+1) < cLine:=hu
   have items:jW A s g9 cM qg mO:=fun j h1 h2=>lB I sb qg (A:=A.in1) ra rb Bu lA (by show A.units+1+cP qg < cLine;omega) (fE g9 j h1) (fE cM j h2)
   exact uL (by omega) pa pb (Bu.length.symm.trans ra.length) (lA.length.symm.trans rb.length) items)
theorem Mv (I:Inv X pins σ H s) (sb:Sub F H){d e:D}{A:Around}{x y:V}{u w':Value}(r1:Rep F x d) (r2:Rep F y e) (rx:RelV x u) (ry:RelV y w') (hu:A.units+gC d < cLine):SeqAt.RcNeAt A s u w' (!lU d e):=by
 cases r1 with
 | dW=>
  cases rx
  cases r2 with
  | dW=>cases ry;exact SeqAt.RcNeAt.none_none
  | bl b=>cases ry;exact SeqAt.RcNeAt.none_bool b
  | int b=>obtain⟨tb,rfl⟩:=ry;exact SeqAt.RcNeAt.none_int b tb
  | str b=>obtain⟨tb,rfl⟩:=ry;exact SeqAt.RcNeAt.none_str b tb
  | @tup cb oB mO eb rb=>cases ry;obtain⟨cM,lA,pb⟩:=sb.isTup I eb;exact SeqAt.RcNeAt.none_tuple pb (by omega)
  | @lst cb oB mO eb rb=>cases ry;obtain⟨cM,lA,pb⟩:=sb.fK I eb;exact SeqAt.RcNeAt.none_list pb (by omega)
 | bl a=>
  cases rx
  cases r2 with
  | dW=>cases ry;exact SeqAt.RcNeAt.bool_none a
  | bl b=>cases ry;exact SeqAt.RcNeAt.bool_bool a b
  | int b=>obtain⟨tb,rfl⟩:=ry;exact SeqAt.RcNeAt.bool_int a b tb
  | str b=>obtain⟨tb,rfl⟩:=ry;exact SeqAt.RcNeAt.bool_str a b tb
  | @tup cb oB mO eb rb=>cases ry;obtain⟨cM,lA,pb⟩:=sb.isTup I eb;exact SeqAt.RcNeAt.bool_tuple a pb (by omega)
  | @lst cb oB mO eb rb=>cases ry;obtain⟨cM,lA,pb⟩:=sb.fK I eb;exact SeqAt.RcNeAt.bool_list a pb (by omega)
 | int a=>
  obtain⟨ta,rfl⟩:=rx
  cases r2 with
  | dW=>cases ry;exact SeqAt.RcNeAt.int_none a ta
  | bl b=>cases ry;exact SeqAt.RcNeAt.int_bool a ta b
  | int b=>obtain⟨tb,rfl⟩:=ry;exact SeqAt.RcNeAt.int_int a ta b tb
  | str b=>obtain⟨tb,rfl⟩:=ry;exact SeqAt.RcNeAt.int_str a ta b tb
  | @tup cb oB mO eb rb=>cases ry;obtain⟨cM,lA,pb⟩:=sb.isTup I eb;exact SeqAt.RcNeAt.int_tuple a ta pb (by omega)
  | @lst cb oB mO eb rb=>cases ry;obtain⟨cM,lA,pb⟩:=sb.fK I eb;exact SeqAt.RcNeAt.int_list a ta pb (by omega)
 | str a=>
  obtain⟨ta,rfl⟩:=rx
  cases r2 with
  | dW=>cases ry;exact SeqAt.RcNeAt.str_none a ta
  | bl b=>cases ry;exact SeqAt.RcNeAt.str_bool a ta b
  | int b=>obtain⟨tb,rfl⟩:=ry;exact SeqAt.RcNeAt.str_int a ta b tb
  | str b=>obtain⟨tb,rfl⟩:=ry;exact SeqAt.RcNeAt.str_str a ta b tb
  | @tup cb oB mO eb rb=>cases ry;obtain⟨cM,lA,pb⟩:=sb.isTup I eb;exact SeqAt.RcNeAt.str_tuple a ta pb (by omega)
  | @lst cb oB mO eb rb=>cases ry;obtain⟨cM,lA,pb⟩:=sb.fK I eb;exact SeqAt.RcNeAt.str_list a ta pb (by omega)
 | @tup ca U0 qg ea ra=>
  cases rx;obtain⟨g9,Bu,pa⟩:=sb.isTup I ea
  cases r2 with
  | dW=>cases ry;exact SeqAt.RcNeAt.tuple_none pa (by omega)
  | bl b=>cases ry;exact SeqAt.RcNeAt.tuple_bool b pa (by omega)
  | int b=>obtain⟨tb,rfl⟩:=ry;exact SeqAt.RcNeAt.tuple_int b tb pa (by omega)
  | str b=>obtain⟨tb,rfl⟩:=ry;exact SeqAt.RcNeAt.tuple_str b tb pa (by omega)
  | @tup cb oB mO eb rb=>cases ry;obtain⟨cM,lA,pb⟩:=sb.isTup I eb;exact(by
   have hd:A.units+(cP qg+1) < cLine:=hu
   have items:jW A s g9 cM qg mO:=fun j h1 h2=>lB I sb qg (A:=A.in1) ra rb Bu lA (by show A.units+1+cP qg < cLine;omega) (fE g9 j h1) (fE cM j h2)
   exact wF (by omega) pa pb (Bu.length.symm.trans ra.length) (lA.length.symm.trans rb.length) items)
  | @lst cb oB mO eb rb=>cases ry;obtain⟨cM,lA,pb⟩:=sb.fK I eb;exact SeqAt.RcNeAt.tuple_list pa pb (by omega)
 | @lst ca U0 qg ea ra=>
  cases rx;obtain⟨g9,Bu,pa⟩:=sb.fK I ea
  cases r2 with
  | dW=>cases ry;exact SeqAt.RcNeAt.list_none pa (by omega)
  | bl b=>cases ry;exact SeqAt.RcNeAt.list_bool b pa (by omega)
  | int b=>obtain⟨tb,rfl⟩:=ry;exact SeqAt.RcNeAt.list_int b tb pa (by omega)
  | str b=>obtain⟨tb,rfl⟩:=ry;exact SeqAt.RcNeAt.list_str b tb pa (by omega)
  | @tup cb oB mO eb rb=>cases ry;obtain⟨cM,lA,pb⟩:=sb.isTup I eb;exact SeqAt.RcNeAt.list_tuple pa pb (by omega)
  | @lst cb oB mO eb rb=>cases ry;obtain⟨cM,lA,pb⟩:=sb.fK I eb;exact(by
   have hd:A.units+(cP qg+1) < cLine:=hu
   have items:jW A s g9 cM qg mO:=fun j h1 h2=>lB I sb qg (A:=A.in1) ra rb Bu lA (by show A.units+1+cP qg < cLine;omega) (fE g9 j h1) (fE cM j h2)
   exact yg (by omega) pa pb (Bu.length.symm.trans ra.length) (lA.length.symm.trans rb.length) items)
noncomputable def dY:List D->Option U
 | [a,b]=>if gC a<=40 then some (.t (.bl (lU a b))) else none
 | _=>none
noncomputable def A5:List D->Option U
 | [a,b]=>if gC a<=40 then some (.t (.bl (!lU a b))) else none
 | _=>none
theorem bK (hu:X.A.units+64 < cLine):CH X (compareOp .Eq) dY:=by
 intro pins s σ H x y v u Q I rx ry ⟨F,ds,w,sb,rs,hw,q⟩
 obtain⟨d,e,rfl,r1,r2⟩:=wu rs
 obtain⟨hd,rfl⟩:=cJ (show(if gC d<=40 then some (U.t (.bl (lU d e))) else none)=some w from hw)
 exact U1 I sb r1 r2 rx ry (by omega) _ _ _ _ ⟨.bl _,H,I,rfl,q _ F H (iI.refl ..) sb (.bl _)⟩
theorem qI (hu:X.A.units+64 < cLine):CH X (compareOp .NotEq) A5:=by
 intro pins s σ H x y v u Q I rx ry ⟨F,ds,w,sb,rs,hw,q⟩
 obtain⟨d,e,rfl,r1,r2⟩:=wu rs
 obtain⟨hd,rfl⟩:=cJ (show(if gC d<=40 then some (U.t (.bl (!lU d e))) else none)=some w from hw)
 exact Mv I sb r1 r2 rx ry (by omega) _ _ _ _ ⟨.bl _,H,I,rfl,q _ F H (iI.refl ..) sb (.bl _)⟩
noncomputable def inD (x:D) (ds:List D):Bool:=ds.any fun y=>lU y x
noncomputable def Hr:List D->Option U
 | [x,.tup ds]=>if cP ds<=40 then some (.t (.bl (inD x ds))) else none
 | [x,.lst ds]=>if cP ds<=40 then some (.t (.bl (inD x ds))) else none
 | [.str i,.str j]=>some (.t (.bl (!(Builtin.Str.occurrences j i 0 j.length 1).isEmpty)))
 | _=>none
theorem RelV.uniq {v w':V}{u:Value}(a:RelV v u) (b:RelV w' u):v=w':=by
 cases v <;> cases w' <;> simp only[RelV] at a b <;> first
  | rfl
  | (subst a;cases b;done)
  | (subst a;cases b;rfl)
  | (obtain⟨t,rfl⟩:=a;obtain⟨t',e⟩:=b;cases e;done)
  | (obtain⟨t,rfl⟩:=a;obtain⟨t',e⟩:=b;cases e;rfl)
  | (obtain⟨t,rfl⟩:=a;cases b;done)
  | (obtain⟨t,rfl⟩:=b;cases a;done)
open Classical in
noncomputable def yh (F:Hp) (d:D) (y:Value):Bool:=if h:∃(v:V) (dd:D),RelV v y/\Rep F v dd then lU (Classical.choose (Classical.choose_spec h)) d else false
theorem Je {v:V}{dd d:D}{y:Value}(a:RelV v y) (r:Rep F v dd):yh F d y=lU dd d:=by
 unfold yh
 have h:∃(v:V) (dd:D),RelV v y/\Rep F v dd:=⟨v,dd,a,r⟩
 rw[dif_pos h]
 have k:=Classical.choose_spec (Classical.choose_spec h)
 have e1:=RelV.uniq k.1 a
 have r':Rep F (Classical.choose h) dd:=by rw[e1];exact r
 rw[Rep.uniq k.2 r']
theorem mQ (I:Inv X pins σ H s) (sb:Sub F H){A:Around}{x:V}{u:Value}{d:D}(r:Rep F x d) (rx:RelV x u):∀{vs:List V}{ds:List D}{its:List Value},bS F vs ds->Vals vs its->A.units+cP ds < cLine->
  (∀y∈its,SeqAt.EqAt A s y u (yh F d y))/\its.any (yh F d)=inD d ds
 | _,_,_,.nil,.nil,_=>⟨(fun y hy=>absurd hy (by simp)),rfl⟩
 | _,_,_,@bS.cons _ v dd vs ds r1 rs,.cons q qs,hu=>by
  have hd:A.units+max (gC dd) (cP ds) < cLine:=hu
  obtain⟨h1,h2⟩:=mQ I sb (A:=A) r rx rs qs (by omega)
  refine⟨fun y hy=>?_,?_⟩
  ·rcases List.mem_cons.mp hy with rfl | hy
   ·rw[Je q r1];exact OJ I sb dd r1 r q rx (by omega)
   ·exact h1 y hy
  ·rw[List.any_cons,h2,Je q r1]
   rfl
theorem Qs (hu:X.A.units+64 < cLine):CH X (compareOp .In) Hr:=by
 intro pins s σ H x y v u Q I rx ry ⟨F,ds,w,sb,rs,hw,q⟩
 obtain⟨d,e,rfl,r1,r2⟩:=wu rs
 cases e with
 | tup ds=>
  obtain⟨hd,rfl⟩:=cJ (show(if cP ds<=40 then some (U.t (.bl (inD d ds))) else none)=some w by cases d <;> exact hw)
  obtain⟨a,vs,rfl,fa,ha,rs⟩:=sb.kr r2
  cases ry
  obtain⟨its,rv,p⟩:=sb.isTup I fa
  obtain⟨h1,h2⟩:=mQ I sb (A:=X.A.in1) r1 rx rs rv (by show X.A.units+1+cP ds < cLine;omega)
  refine SeqAt.in_tupleAt (yh F d) p (fun y hy=>h1 y (by simpa using hy)) ⟨.bl _,H,I,rfl,?_⟩
  rw[show its.toArray.any (yh F d)=its.any (yh F d) by simp,h2]
  exact q _ F H (iI.refl ..) sb (.bl _)
 | lst ds=>
  obtain⟨hd,rfl⟩:=cJ (show(if cP ds<=40 then some (U.t (.bl (inD d ds))) else none)=some w by cases d <;> exact hw)
  obtain⟨a,vs,rfl,fa,ha,rs⟩:=sb.jY r2
  cases ry
  obtain⟨its,rv,p⟩:=sb.fK I fa
  obtain⟨h1,h2⟩:=mQ I sb (A:=X.A.in1) r1 rx rs rv (by show X.A.units+1+cP ds < cLine;omega)
  refine SeqAt.in_listAt (yh F d) p (fun y hy=>h1 y (by simpa using hy)) ⟨.bl _,H,I,rfl,?_⟩
  rw[show its.toArray.any (yh F d)=its.any (yh F d) by simp,h2]
  exact q _ F H (iI.refl ..) sb (.bl _)
 | str j=>
  cases d <;> try (simp[Hr] at hw;done)
  rename_i i
  cases hw
  cases r1
  cases r2
  exact Fj pins s σ H _ _ v u Q I rx ry ⟨i,j,rfl,rfl,q _ F H (iI.refl ..) sb (.bl _)⟩
 | dW=>cases d <;> (simp[Hr] at hw;done)
 | bl b=>cases d <;> (simp[Hr] at hw;done)
 | int b=>cases d <;> (simp[Hr] at hw;done)
end
noncomputable def yi (T:String) (d:D):Option Bool:=match T with
 | "tuple"=>some (IF d)
 | "list"=>some (IG d)
 | "str"=>some (zZ d)
 | "bool"=>some (Ei d)
 | "int"=>some (II d)
 | _=>none
theorem Jf {K:PySem.W.Frag}{T:String}{d:D}{b:Bool}(h:yi T d=some b):PySem.W.kitOne K (.type (Qh d)) (.type T)=some b:=by
 unfold yi at h
 split at h
 ·cases h;exact Ml d
 ·cases h;exact Mm d
 ·cases h;exact IJ d
 ·cases h;exact Qi d
 ·cases h;exact Mn d
 ·cases h
noncomputable def rQ:List String->D->Option Bool
 | [],_=>some false
 | T :: Ts,d=>match yi T d with
  | some true=>some true
  | some false=>rQ Ts d
  | none=>none
section
variable {X:Cx}{pins:List (Addr×Obj)}{σ:St}{F H:Hp}{s:Shared}
theorem Mw (I:Inv X pins σ H s) (sb:Sub F H){A:Around}{E:Value->Shared->Prop}{Q:Value->Shared->Prop}{x:V}{u:Value}{d:D}{c:Value}{b:Bool}(r:Rep F x d) (rx:RelV x u) (e:PySem.W.kitOne X.K (.type (Qh d)) c=some b) (h:∀tk,Q (.bool b) {s with toks:=tk}):
  wpAny (model X.prog X.w) A (call (.builtin "isinstance") [u,c]) Q E s:=by
 cases r with
 | dW=>cases rx;exact PySem.W.kia_one PySem.W.kitx_none I.CK True.intro e (fun z=>nomatch z) h
 | bl y=>cases rx;exact PySem.W.kia_one PySem.W.kitx_bool I.CK True.intro e (fun z=>nomatch z) h
 | int i=>obtain⟨t,rfl⟩:=rx;exact PySem.W.kia_one PySem.W.kitx_int I.CK True.intro e (fun z=>nomatch z) h
 | str y=>obtain⟨t,rfl⟩:=rx;exact PySem.W.kia_one PySem.W.kitx_str I.CK True.intro e (fun z=>nomatch z) h
 | tup ea _=>
  cases rx
  obtain⟨its,_,o,h1,h2,_⟩:=sb.isTup I ea
  exact PySem.W.kia_one PySem.W.kitx_tuple I.CK ⟨o,h1,h2⟩ e (fun z=>nomatch z) h
 | lst ea _=>
  cases rx
  obtain⟨its,_,o,h1,h2,_⟩:=sb.fK I ea
  exact PySem.W.kia_one PySem.W.kitx_list I.CK ⟨o,h1,h2⟩ e (fun z=>nomatch z) h
end
noncomputable def SY (Ts:List String) (g:GD):GD:=fun S=>(g S).bind fun p=>(rQ Ts p.1).map fun b=>(.bl b,p.2)
section
variable {X:Cx}{a b c e:Expr}{es:List Expr}{pos p p2 px:Pos}{x y:Str}{g ga gb gc:GD}{gA:GA}
theorem FG {T:String}{d:D}{b:Bool}(h:rQ [T] d=some b):yi T d=some b:=by
 unfold rQ at h
 cases e:yi T d with
 | none=>rw[e] at h;cases h
 | some k=>rw[e] at h;cases k <;> exact h
theorem tV {T:String}(hg:Gl X "isinstance") (hm:X.mg "isinstance" =none) (Qt:Gl X y) (hm2:X.mg y=none) (hv2:bootBuiltins y=some (.type T)) (ha:JD X a ga) (hn2:y≠"__name__":=by decide) (hd2:(y == ("__debug__":Str))=false:=by decide)
    (hs:starEach [a,.Name y px] X.env=(false,eval a X.env) :: starEach [.Name y px] X.env:=by rfl) (hs2:starEach [.Name y px] X.env=(false,eval (.Name y px) X.env) :: starEach [] X.env:=by rfl) (hpl:(backTo pos (starEach [.Name y px] X.env)).any (·.1)=false:=by rfl):
    JD X (.Call (.Name "isinstance" p) [a,.Name y px] [] pos) (SY [T] ga):=⟨fun B=>
  (nW (r := fun xs H Q => ∃ x F d b, xs = [x, .ty T] /\ Sub F H /\ Rep F x d /\ yi T d = some b /\ Q (.bl b) H) (fun pins s σ H xs us Q I r ⟨x, F, d, b, e1, sb, rd, hk, q⟩ => by
      subst e1
      obtain⟨u,w',rfl,ru,rw'⟩:=vals2 r
      cases rw'
      exact Mw I sb rd ru (Jf hk) fun tk=>⟨.bl b,H,I.tok tk,rfl,q⟩) hg hm PyProof.Rows.Boot.isinstance (m8 (ha.h B) (m8 (LP (v:=.ty T) Qt hm2 hv2 rfl hn2 hd2) vQ hs2) hs) (by decide) (by decide) hs hpl).imp fun σ H Q ⟨S,F,d,S',R,hg,q⟩=>by
  obtain⟨⟨d1,S1⟩,h1,hg⟩:=ak hg
  obtain⟨k,h2,hg⟩:=aC hg
  cases hg
  exact⟨S,F,d1,_,R,h1,fun v F1 H1 R1 st1 r1=>⟨v,F1,d1,k,rfl,R1.sub,r1,FG h2,q _ F1 H1 R1 st1 (.bl k)⟩⟩⟩
noncomputable def lC:List D->Option (List Bool)
 | []=>some []
 | .bl b :: ds=>(lC ds).map fun bs=>b :: bs
 | _=>none
theorem uM {F:Hp}:∀{vs:List V}{ds:List D}{bs:List Bool},bS F vs ds->lC ds=some bs->vs=bs.map V.bl
 | _,_,_,.nil,h=>by cases h;rfl
 | _,_,_,@bS.cons _ v d vs ds r rs,h=>by
  cases d <;> try (simp[lC] at h;done)
  obtain⟨bs,h1,h2⟩:=aC (show(lC ds).map _=_ from h)
  subst h2
  rw[mh r,uM rs h1]
  rfl
noncomputable def Zx:List D->Option U
 | [.lst ds]=>(lC ds).map fun bs=>.t (.bl (bs.all id))
 | _=>none
noncomputable def Bv:List D->Option U
 | [.lst ds]=>(lC ds).map fun bs=>.t (.bl (bs.any id))
 | _=>none
theorem vA {P:D->Prop}{F:Hp}{xs:List V}{ds:List D}{f:List D->Option U}{w':U}(rs:bS F xs ds) (h:f ds=some w') (hn:f []=none) (h2:∀a b r,f (a :: b :: r)=none):∃x d,xs=[x]/\ds=[d]/\Rep F x d:=by
 cases rs with
 | nil=>rw[hn] at h;cases h
 | cons r rs=>
  cases rs with
  | nil=>exact⟨_,_,rfl,rfl,r⟩
  | cons _ _=>rw[h2] at h;cases h
theorem FH (hc:X.calm=true):iY X (.builtin "any") (rP Bv):=by
 intro pins s σ H xs us Q I r ⟨F,ds,w,sb,rs,hw,q⟩
 obtain⟨x,d,rfl,rfl,r1⟩:=vA (P:=fun _=>True) rs hw rfl (fun d _ _=>by cases d <;> rfl)
 cases d <;> try (simp[Bv] at hw;done)
 rename_i ds
 obtain⟨bs,h1,rfl⟩:=aC (show(lC ds).map _=some w from hw)
 obtain⟨a,vs,rfl,fa,ha,rE⟩:=sb.jY r1
 obtain rfl:=uM rE h1
 exact Fy hc pins s σ H _ us Q I r ⟨a,bs,rfl,.inl ha,q _ F H (iI.refl ..) sb (.bl _)⟩
noncomputable def Er:List D->Option U
 | [.int i,.int j,.int k]=>some (.t (.int (if j < i then(if k < j then k else j) else if k < i then k else i)))
 | _=>none
theorem C2 (hc : X.calm = true) : iY X (.builtin "min") (rP Er) := by
  intro pins s σ H xs us Q I r ⟨F,ds,w,sb,rs,hw,q⟩
  unfold Er at hw
  split at hw
  . rename_i i j k
    cases hw
    cases rs with
    | cons r1 rs=>cases rs with
      | cons r2 rs=>cases rs with
        | cons r3 rs=>
          cases rs
          rw[iJ r1,iJ r2,iJ r3] at r
          exact FA hc pins s σ H _ us Q I r ⟨i,j,k,rfl,q _ F H (iI.refl ..) sb (.int _)⟩
  . cases hw
noncomputable def U3:List D->Option U
 | [.int i,.int j]=>some (.t (.int (if j < i then j else i)))
 | _=>none
noncomputable def Es:List D->Option U
 | [.int i,.int j]=>some (.t (.int (if j > i then j else i)))
 | _=>none
theorem C3 (hc : X.calm = true) : iY X (.builtin "max") (rP Es) := by
  intro pins s σ H xs us Q I r ⟨F,ds,w,sb,rs,hw,q⟩
  unfold Es at hw
  split at hw
  . rename_i i j
    cases hw
    cases rs with
    | cons r1 rs=>cases rs with
      | cons r2 rs=>
        cases rs
        rw[iJ r1,iJ r2] at r
        exact Fl hc pins s σ H _ us Q I r ⟨i,j,rfl,q _ F H (iI.refl ..) sb (.int _)⟩
  . cases hw
noncomputable def qm:List D->Option U
 | [.tup ds]=>some (.m (.lst ds))
 | [.lst ds]=>some (.m (.lst ds))
 | _=>none
noncomputable def qJ:List D->Option U
 | [.tup ds]=>some (.t (.tup ds))
 | [.lst ds]=>some (.t (.tup ds))
 | _=>none
theorem qK:iY X (.type "list") (rP qm):=by
 intro pins s σ H xs us Q I r ⟨F,ds,w,sb,rs,hw,q⟩
 obtain⟨x,d,rfl,rfl,r1⟩:=vA (P:=fun _=>True) rs hw rfl (fun d _ _=>by cases d <;> rfl)
 cases d <;> try (simp[qm] at hw;done)
 ·cases hw
  obtain⟨a,vs,rfl,fa,ha,rE⟩:=sb.kr r1
  exact rB pins s σ H _ us Q I r ⟨a,vs,rfl,.inr (.inl ha),fun p hp=>q _ F _ (iI.obj hp _) (sb.same (iI.obj (F:=F) hp _).same) ⟨p,rfl,hp,sb.fresh hp,vs,bh,rE⟩⟩
 ·cases hw
  obtain⟨a,vs,rfl,fa,ha,rE⟩:=sb.jY r1
  exact rB pins s σ H _ us Q I r ⟨a,vs,rfl,.inl (.inl ha),fun p hp=>q _ F _ (iI.obj hp _) (sb.same (iI.obj (F:=F) hp _).same) ⟨p,rfl,hp,sb.fresh hp,vs,bh,rE⟩⟩
theorem uN:iY X (.type "tuple") (rP qJ):=by
 intro pins s σ H xs us Q I r ⟨F,ds,w,sb,rs,hw,q⟩
 obtain⟨x,d,rfl,rfl,r1⟩:=vA (P:=fun _=>True) rs hw rfl (fun d _ _=>by cases d <;> rfl)
 cases d <;> try (simp[qJ] at hw;done)
 ·cases hw
  have r0:=r1
  obtain⟨a,vs,rfl,fa,ha,rE⟩:=sb.kr r1
  exact qk pins s σ H _ us Q I r ⟨a,vs,rfl,.inr ⟨.inl ha,q _ F H (iI.refl ..) sb r0⟩⟩
 ·cases hw
  obtain⟨a,vs,rfl,fa,ha,rE⟩:=sb.jY r1
  exact qk pins s σ H _ us Q I r ⟨a,vs,rfl,.inl ⟨.inl ha,fun p hp=>q _ _ _ (iI.root sb hp _) (sb.tK hp) (.tup bh (rE.le (lZ (sb.fresh hp))))⟩⟩
end
noncomputable def keyOf:D->Option Key
 | .int i=>some (.inl i)
 | .str z=>some (.inr z)
 | _=>none
theorem kO {F:Hp}{v:V}{d:D}{k:Key}(r:Rep F v d) (h:keyOf d=some k):v=kV k:=by
 cases r <;> cases h <;> rfl
noncomputable def bX {κ:Type} [DecidableEq κ] (kvs:List (κ×D)) (k:κ):Option D:=(kvs.find? fun kv=>decide (kv.1=k)).map (·.2)
noncomputable def putD {κ:Type} [DecidableEq κ] (kvs:List (κ×D)) (k:κ) (d:D):List (κ×D):=
 if(kvs.any fun kv=>decide (kv.1=k))=true then kvs.map (fun kv=>if kv.1=k then(kv.1,d) else kv) else kvs++[(k,d)]
theorem mR {κ:Type} [DecidableEq κ] {F:Hp}{k:κ}{d:D}:∀{ws:List (κ×V)}{kvs:List (κ×D)},Paired (iT F) ws kvs->bX kvs k=some d->∃v,p7 ws k=some v/\Rep F v d
 | _,_,.nil,h=>by cases h
 | _,_,@Paired.cons _ _ _ p q ws kvs r rs,h=>by
  by_cases e:q.1=k
  ·have e':p.1=k:=r.1.trans e
   refine⟨p.2,qZ e',?_⟩
   have:bX (q :: kvs) k=some q.2:=by simp[bX,List.find?_cons,e]
   rw[this] at h
   cases h
   exact r.2
  ·have e':¬p.1=k:=fun z=>e (r.1.symm.trans z)
   have:bX (q :: kvs) k=bX kvs k:=by simp[bX,List.find?_cons,e]
   rw[this] at h
   obtain⟨v,h1,h2⟩:=mR rs h
   exact⟨v,by rw[nX e'];exact h1,h2⟩
theorem tW {κ:Type} [DecidableEq κ] {F:Hp}{k:κ}:∀{ws:List (κ×V)}{kvs:List (κ×D)},Paired (iT F) ws kvs->bX kvs k=none->p7 ws k=none
 | _,_,.nil,h=>rfl
 | _,_,@Paired.cons _ _ _ p q ws kvs r rs,h=>by
  by_cases e:q.1=k
  ·have:bX (q :: kvs) k=some q.2:=by simp[bX,List.find?_cons,e]
   rw[this] at h
   cases h
  ·have e':¬p.1=k:=fun z=>e (r.1.symm.trans z)
   have:bX (q :: kvs) k=bX kvs k:=by simp[bX,List.find?_cons,e]
   rw[this] at h
   rw[nX e']
   exact tW rs h
theorem Bw {κ:Type} [DecidableEq κ] {F:Hp}{k:κ}:∀{ws:List (κ×V)}{kvs:List (κ×D)},Paired (iT F) ws kvs->(ws.any fun kv=>decide (kv.1=k))=(kvs.any fun kv=>decide (kv.1=k))
 | _,_,.nil=>rfl
 | _,_,.cons r rs=>by rw[List.any_cons,List.any_cons,Bw rs,r.1]
theorem Bx {κ:Type} [DecidableEq κ] {F:Hp}{k:κ}{v:V}{d:D}(r:Rep F v d):∀{ws:List (κ×V)}{kvs:List (κ×D)},Paired (iT F) ws kvs->Paired (iT F) (ws.map fun kv=>if kv.1=k then(kv.1,v) else kv) (kvs.map fun kv=>if kv.1=k then(kv.1,d) else kv)
 | _,_,.nil=>.nil
 | _,_,@Paired.cons _ _ _ p q ws kvs h hs=>by
  refine .cons ?_ (Bx r hs)
  show iT F (if p.1=k then(p.1,v) else p) (if q.1=k then(q.1,d) else q)
  rw[h.1]
  by_cases e:q.1=k
  ·rw[if_pos e,if_pos e];exact⟨rfl,r⟩
  ·rw[if_neg e,if_neg e];exact h
theorem uO {α β:Type}{P:α->β->Prop}{x:α}{y:β}(p:P x y):∀{l:List α}{r:List β},Paired P l r->Paired P (l++[x]) (r++[y])
 | _,_,.nil=>.cons p .nil
 | _,_,.cons q qs=>.cons q (uO p qs)
theorem wG {κ:Type} [DecidableEq κ] {F:Hp}{k:κ}{v:V}{d:D}{ws:List (κ×V)}{kvs:List (κ×D)}(h:Paired (iT F) ws kvs) (r:Rep F v d):Paired (iT F) (putK ws k v) (putD kvs k d):=by
 unfold putK putD
 rw[Bw h]
 by_cases e:(kvs.any fun kv=>decide (kv.1=k))=true
 ·rw[if_pos e,if_pos e];exact Bx r h
 ·rw[if_neg e,if_neg e];exact uO ⟨rfl,r⟩ h
noncomputable def rR:D->Option D
 | .tup ds=>if gW 8 (.tup ds)=true then some (.tup ds) else none
 | _=>none
theorem mS {F H:Hp}{v:V}{d:D}{ks:D}(sb:Sub F H) (r:Rep F v d) (h:rR d=some ks):∃b,v= .ref b/\Kd H b ks:=by
 cases r with
 | @tup a vs ds e rs=>
  obtain⟨h1,h2⟩:=cJ (show(if gW 8 (.tup ds)=true then some (D.tup ds) else none)=some ks from h)
  subst h2
  exact⟨a,rfl,Rep.le sb (.tup e rs),h1⟩
 | dW=>cases h
 | bl _=>cases h
 | int _=>cases h
 | str _=>cases h
 | lst _ _=>cases h
noncomputable def qo:U->D->Option D
 | .t (.tup ds),.int i=>gj ds i
 | .t (.lst ds),.int i=>gj ds i
 | .m (.lst ds),.int i=>gj ds i
 | .b (.lst ds),.int i=>gj ds i
 | .s ns,.int i=>(gj ns i).map D.int
 | .m (.dct kvs),k=>(keyOf k).bind (bX kvs)
 | .b (.dct kvs),k=>(keyOf k).bind (bX kvs)
 | .m (.cS kvs),k=>(rR k).bind (bX kvs)
 | .b (.cS kvs),k=>(rR k).bind (bX kvs)
 | _,_=>none
noncomputable def bR (i:Nat) (gb:GD):GD:=fun S=>match S[i]? with
 | some (some _)=>(gb S).bind fun p=>match p.2[i]? with
  | some (some u)=>(qo u p.1).map fun d=>(d,p.2)
  | _=>none
 | _=>none
theorem Et {α β:Type}(f:α->β){l:List α}{i:Int}{x:α}(h:gj l i=some x):gj (l.map f) i=some (f x):=by
 unfold gj at h ⊢
 rw[List.length_map]
 obtain⟨j,h1,h2⟩:=ak h
 rw[h1]
 show(l.map f)[j]? =_
 rw[List.getElem?_map,h2]
 rfl
section
variable {X:Cx}{a b c e value:Expr}{es:List Expr}{pos p p2 px pos':Pos}{x y:Str}{g ga gb gc gk gv:GD}{gA:GA}
theorem aY {i : Nat} (hu : X.A.units + 20 < cLine) (hb : JD X b gb) (hs : zU b := by first | (intro _ _; rfl)) (hN : X.N[i]? = some x := by rfl) (hv : CJ X.env.scope x := by first | exact Or.inl rfl | exact Or.inr (Or.inl rfl) | exact Or.inr (Or.inr rfl))
    (hd:(x == ("__debug__":Str))=false:=by decide) (hcd:(x == ("__classdict__":Str))=false:=by decide):JD X (.Subscript (.Name x px) b pos) (bR i gb):=⟨fun B=>PE.orelse fun σ H Q ⟨S,F,d,S',R,hg,q⟩=>by
  unfold bR at hg
  split at hg
  . rename_i u0 Mx
    obtain⟨v0,hv0,_⟩:=R.rep i u0 Mx
    obtain⟨⟨k,S1⟩,h1,hg⟩:=ak hg
    dsimp only at hg
    split at hg
    . rename_i u hS
      obtain⟨d',hr,hg⟩:=aC hg
      cases hg
      have Eo:∀F1 H1,Rel X.K B S' σ F1 H1->v8 X.K F1 H1 v0 u:=fun F1 H1 R1=>by
        obtain⟨v,k1,k2⟩:=R1.rep i u hS
        rw[hv0] at k1
        cases k1
        exact k2
      have seq:∀(Y:V->V->Hp->VK->Prop),PE X (.Subscript (.Name x px) b pos) (Pp Y (Ff i) (tD X.K B gb))->(∀v F1 H1,Rel X.K B S' σ F1 H1->Step S S' σ F H F1 H1->Rep F1 v k->Y v0 v H1 Q)->∃t',PE X (.Subscript (.Name x px) b pos) t'/\t' σ H Q:=fun Y hY h=>
        ⟨_,hY,v0,hv0,S,F,k,S',R,h1,fun v F1 H1 R1 st1 r1=>h v F1 H1 R1 st1 r1⟩
      have dict:∀kvs,(∀F1 H1,Rel X.K B S' σ F1 H1->∃a ws,v0= .ref a/\H1 a=some (.dK ws)/\Paired (iT F1) ws kvs)->(keyOf k).bind (bX kvs)=some d->∃t',PE X (.Subscript (.Name x px) b pos) t'/\t' σ H Q:=fun kvs hat hr=>by
        obtain⟨kk,e1,e2⟩:=ak hr
        refine⟨_,D8 hu (iy hN hv hd hcd) (hb.h B) hs,v0,hv0,S,F,k,S',R,h1,fun v F1 H1 R1 st1 r1=>?_⟩
        obtain⟨a,ws,rfl,ha,pr⟩:=hat F1 H1 R1
        obtain⟨w',z1,z2⟩:=mR pr e2
        rw[kO r1 e1]
        exact⟨a,w',rfl,by rw[<-z1];exact kC.k ha,q w' F1 H1 R1 st1 z2⟩
      have OL:∀kvs,(∀F1 H1,Rel X.K B S' σ F1 H1->∃a ws,v0= .ref a/\H1 a=some (.dT ws)/\Paired (iT F1) ws kvs)->(rR k).bind (bX kvs)=some d->∃t',PE X (.Subscript (.Name x px) b pos) t'/\t' σ H Q:=fun kvs hat hr=>by
        obtain⟨kk,e1,e2⟩:=ak hr
        refine⟨_,D8 hu (iy hN hv hd hcd) (hb.h B) hs,v0,hv0,S,F,k,S',R,h1,fun v F1 H1 R1 st1 r1=>?_⟩
        obtain⟨a,ws,rfl,ha,pr⟩:=hat F1 H1 R1
        obtain⟨w',z1,z2⟩:=mR pr e2
        obtain⟨b',rfl,hb'⟩:=mS R1.sub r1 e1
        exact⟨a,w',rfl,by rw[<-z1];exact kC.t ha hb',q w' F1 H1 R1 st1 z2⟩
      have list:∀ds ii,k= .int ii->gj ds ii=some d->(∀F1 H1,Rel X.K B S' σ F1 H1->∃a vs,v0= .ref a/\(m6 X.K H1 a vs\/yP X.K H1 a vs)/\bS F1 vs ds)->∃t',PE X (.Subscript (.Name x px) b pos) t'/\t' σ H Q:=fun ds ii ek hrr hat=>by
        subst ek
        refine seq _ (Ie Ii (iy hN hv hd hcd) (hb.h B) hs) fun v F1 H1 R1 st1 r1=>?_
        obtain⟨a,vs,rfl,ha,rs⟩:=hat F1 H1 R1
        obtain⟨w',z1,z2⟩:=rs.gj hrr
        rw[iJ r1]
        rcases ha with ha | ha
        . exact .inl ⟨a,vs,ii,w',rfl,rfl,ha,z1,q w' F1 H1 R1 st1 z2⟩
        . exact .inr (.inl ⟨a,vs,ii,w',rfl,rfl,ha,z1,q w' F1 H1 R1 st1 z2⟩)
      unfold qo at hr
      split at hr
      . rename_i ds ii
        exact list ds ii rfl hr fun F1 H1 R1=>let⟨a,vs,e1,fa,ha,rs⟩:=R1.sub.kr (Eo F1 H1 R1);⟨a,vs,e1,.inr (.inl ha),rs⟩
      . rename_i ds ii
        exact list ds ii rfl hr fun F1 H1 R1=>let⟨a,vs,e1,fa,ha,rs⟩:=R1.sub.jY (Eo F1 H1 R1);⟨a,vs,e1,.inl (.inl ha),rs⟩
      . rename_i ds ii
        exact list ds ii rfl hr fun F1 H1 R1=>let⟨a,e1,fa,vs,ha,rs⟩:=Eo F1 H1 R1;⟨a,vs,e1,.inl (m6.of ha),rs⟩
      . rename_i ds ii
        exact list ds ii rfl hr fun F1 H1 R1=>let⟨a,e1,fa,vs,ha,rs⟩:=Eo F1 H1 R1;⟨a,vs,e1,.inl (m6.of ha),rs⟩
      . rename_i ns ii
        obtain⟨n,z1,z2⟩:=aC hr
        subst z2
        refine seq _ (Ie Ii (iy hN hv hd hcd) (hb.h B) hs) fun v F1 H1 R1 st1 r1=>?_
        obtain⟨a,e1,ha⟩:=Eo F1 H1 R1
        rw[iJ r1]
        exact .inl ⟨a,ns.map V.int,ii,.int n,e1,rfl,ha.sq,Et V.int z1,q _ F1 H1 R1 st1 (.int n)⟩
      . rename_i kvs
        exact dict kvs (fun F1 H1 R1=>let⟨a,e1,fa,ws,ha,pr⟩:=Eo F1 H1 R1;⟨a,ws,e1,ha,pr⟩) hr
      . rename_i kvs
        exact dict kvs (fun F1 H1 R1=>let⟨a,e1,fa,ws,ha,pr⟩:=Eo F1 H1 R1;⟨a,ws,e1,ha,pr⟩) hr
      . rename_i kvs
        exact OL kvs (fun F1 H1 R1=>let⟨a,e1,fa,ws,ha,pr⟩:=Eo F1 H1 R1;⟨a,ws,e1,ha,pr⟩) hr
      . rename_i kvs
        exact OL kvs (fun F1 H1 R1=>let⟨a,e1,fa,ws,ha,pr⟩:=Eo F1 H1 R1;⟨a,ws,e1,ha,pr⟩) hr
      . cases hr
    . cases hg
  . cases hg⟩
noncomputable def By:U->Option Nat
 | .t (.tup ds)=>some ds.length
 | .t (.lst ds)=>some ds.length
 | .t (.str z)=>if z.length<=100000 then some z.length else none
 | .m (.lst ds)=>some ds.length
 | .b (.lst ds)=>some ds.length
 | .m (.dct ds)=>some ds.length
 | .b (.dct ds)=>some ds.length
 | .s ns=>some ns.length
 | _=>none
noncomputable def jA (i:Nat):GD:=fun S=>match S[i]? with
 | some (some u)=>(By u).map fun n=>(.int (n:Nat),S)
 | _=>none
theorem g7 {α β:Type}{P:α->β->Prop}:∀{l:List α}{r:List β},Paired P l r->l.length=r.length
 | _,_,.nil=>rfl
 | _,_,.cons _ ps=>congrArg Nat.succ (g7 ps)
theorem iW {i:Nat}(hg:Gl X "len") (hm:X.mg "len" =none) (hN:X.N[i]? =some x:=by rfl) (hv:CJ X.env.scope x:=by first | exact Or.inl rfl | exact Or.inr (Or.inl rfl) | exact Or.inr (Or.inr rfl))
  (hd:(x == ("__debug__":Str))=false:=by decide) (hcd:(x == ("__classdict__":Str))=false:=by decide) (he:starEach [.Name x px] X.env=(false,eval (.Name x px) X.env) :: starEach [] X.env:=by rfl) (hpl:(backTo pos (starEach [] X.env)).any (·.1)=false:=by rfl):
  JD X (.Call (.Name "len" p) [.Name x px] [] pos) (jA i):=⟨fun B=>PE.orelse fun σ H Q ⟨S,F,d,S',R,hg',q⟩=>by
 unfold jA at hg'
 split at hg'
 ·rename_i u hS
  obtain⟨n,hn,hg'⟩:=aC hg'
  cases hg'
  obtain⟨v0,hv0,r0⟩:=R.rep i u hS
  have fin:=q (.int n) F H R (Step.refl ..) (.int _)
  have arg:PA X [.Name x px] (Oz (Ff i) PF):=m8 (iy hN hv hd hcd) vQ he
  have list:∀a vs,v0= .ref a->(m6 X.K H a vs\/yP X.K H a vs)->vs.length=n->∃t',PE X (.Call (.Name "len" p) [.Name x px] [] pos) t'/\t' σ H Q:=fun a vs e1 ha hl=>
   ⟨_,nW m9 hg hm PySem.boot_len arg (by decide) (by decide) he hpl,v0,hv0,a,vs,by rw[e1],ha,by rw[hl];exact fin⟩
  have dict:∀a ws,v0= .ref a->H a=some (.dK ws)->ws.length=n->∃t',PE X (.Call (.Name "len" p) [.Name x px] [] pos) t'/\t' σ H Q:=fun a vs e1 ha hl=>
   ⟨_,nW Fx hg hm PySem.boot_len arg (by decide) (by decide) he hpl,v0,hv0,a,vs,by rw[e1],ha,by rw[hl];exact fin⟩
  unfold By at hn
  split at hn
  ·cases hn;obtain⟨a,vs,e1,fa,ha,rs⟩:=R.sub.kr r0;exact list a vs e1 (.inr (.inl ha)) rs.length
  ·cases hn;obtain⟨a,vs,e1,fa,ha,rs⟩:=R.sub.jY r0;exact list a vs e1 (.inl (.inl ha)) rs.length
  ·rename_i z
   obtain⟨hl,rfl⟩:=cJ hn
   exact⟨_,nW rA hg hm PySem.boot_len arg (by decide) (by decide) he hpl,v0,hv0,z,by rw[El r0],kE hl,fin⟩
  ·cases hn;obtain⟨a,e1,fa,vs,ha,rs⟩:=r0;exact list a vs e1 (.inl (m6.of ha)) rs.length
  ·cases hn;obtain⟨a,e1,fa,vs,ha,rs⟩:=r0;exact list a vs e1 (.inl (m6.of ha)) rs.length
  ·cases hn;obtain⟨a,e1,fa,ws,ha,pr⟩:=r0;exact dict a ws e1 ha (g7 pr)
  ·cases hn;obtain⟨a,e1,fa,ws,ha,pr⟩:=r0;exact dict a ws e1 ha (g7 pr)
  ·cases hn;obtain⟨a,e1,ha⟩:=r0;exact list a _ e1 (.inl ha.sq) (by simp)
  ·cases hn
 ·cases hg'⟩
end
noncomputable def tX (o:MO) (k d:D):Option MO:=match o with
 | .dct kvs=>(keyOf k).bind fun kk=>if kvs.length < 100000 then some (.dct (putD kvs kk d)) else none
 | .cS kvs=>(rR k).bind fun kk=>if kvs.length < 10000000 then some (.cS (putD kvs kk d)) else none
 | .ins _ _=>none
 | .lst ds=>match k with
  | .int i=>(CS ds.length i).map fun j=>.lst (ds.set j d)
  | _=>none
noncomputable def C4 (i:Nat) (gk gv:GD):GS:=fun S=>(gv S).bind fun p=>match p.2[i]? with
 | some (some _)=>(gk p.2).bind fun r=>(Ab r.2 i fun o=>(tX o r.1 p.1).map fun o'=>(.dW,o')).map fun z=>.nx z.2
 | _=>none
theorem bS.set {F:Hp}{v:V}{d:D}(r:Rep F v d):∀{vs:List V}{ds:List D}(j:Nat),bS F vs ds->bS F (vs.set j v) (ds.set j d)
 | _,_,_,.nil=>.nil
 | _,_,0,.cons _ rs=>.cons r rs
 | _,_,j+1,.cons q rs=>.cons q (bS.set r j rs)
section
variable {X:Cx}{a b c e value k:Expr}{es:List Expr}{pos p p2 px pos':Pos}{x y:Str}{g ga gb gc gk gv:GD}{gA:GA}
theorem wH {i:Nat}(hu:X.A.units+20 < cLine) (hk:JD X k gk) (hval:JD X value gv) (hN:X.N[i]? =some x:=by rfl) (hv:CJ X.env.scope x:=by first | exact Or.inl rfl | exact Or.inr (Or.inl rfl) | exact Or.inr (Or.inr rfl))
  (hd:(x == ("__debug__":Str))=false:=by decide) (hcd:(x == ("__classdict__":Str))=false:=by decide)
  (hs:swapsWith value (some (.Subscript (.Name x px) k pos')) pos.line X.env=pure false:=by rfl)
  (hs1:swapsWithSole [.Subscript (.Name x px) k pos'] value pos.line X.env=pure false:=by rfl) (hs2:swappedStores [.Subscript (.Name x px) k pos'] value X.env=pure none:=by rfl)
  (My:(assignEach [.Subscript (.Name x px) k pos'] X.env).map (·.2)=[assign (.Subscript (.Name x px) k pos') X.env]:=by rfl)
  (hs4:∀v,assign (.Subscript (.Name x px) k pos') X.env v=(do
   let ov <-holding [v] (eval (.Name x px) X.env)
   let iv <-holding [v,ov] (eval k X.env)
   standAt pos'
   holding [v,ov,iv] (setItem ov iv v)
   release [v,ov,iv] []):=by intro _;rfl):
  JS X (.Assign [.Subscript (.Name x px) k pos'] value pos) (C4 i gk gv):=⟨fun B=>PS.orelse fun D σ H ⟨S,F,o,R,hg,q⟩=>by
 obtain⟨⟨d,S1⟩,h1,hg⟩:=ak hg
 dsimp only at hg
 split at hg
 ·rename_i u0 Mx
  obtain⟨⟨kd,S2⟩,h2,hg⟩:=ak hg
  obtain⟨⟨nd,S3⟩,h3,hg⟩:=aC hg
  subst hg
  obtain⟨u,u',mo,mo',hS,Ms,hio,hf,Qp,rfl⟩:=tT h3
  obtain⟨mo2,hw,hf2⟩:=aC hf
  cases hf2
  have hv0:∀F1 H1,Rel X.K B S1 σ F1 H1->∃v,σ[i]? =some (some v):=fun F1 H1 R1=>let⟨v,k1,_⟩:=R1.rep i u0 Mx;⟨v,k1⟩
  cases mo with
  | dct kvs=>
   obtain⟨kk,e1,hw⟩:=ak hw
   obtain⟨hl,rfl⟩:=cJ hw
   refine⟨_,D9 hu (iy hN hv hd hcd) (hk.h B) (hval.h B) hs,S,F,d,S1,R,h1,fun v F1 H1 R1 st1 r1=>?_⟩
   obtain⟨v0,hv0⟩:=hv0 F1 H1 R1
   refine⟨v0,hv0,S1,F1,kd,S2,R1,h2,fun y F2 H2 R2 st2 r2=>?_⟩
   obtain⟨v',k1,k2⟩:=R2.rep i u hS
   rw[hv0] at k1
   cases k1
   obtain⟨a,o2,rfl,fa,eo,k3⟩:=k2.dQ Ms
   rw[hio] at eo
   cases eo
   obtain⟨ws,ha,pr⟩:=k3
   rw[kO r2 e1]
   refine⟨a,_,rfl,Bd.k ha (by rw[g7 pr];exact Nat.lt_of_lt_of_le hl (by decide)),?_⟩
   obtain⟨R3,st3⟩:=R2.write (ho:=.dK (putK ws kk v)) hS Qp hv0 ⟨_,bh,wG pr (r1.le st2.ext.le)⟩
   exact q σ F2 _ R3 fun b o z=>st2.ext.le b o (st1.ext.le b o z)
  | ins C kvs=>cases hw
  | cS kvs=>
   obtain⟨kk,e1,hw⟩:=ak hw
   obtain⟨hl,rfl⟩:=cJ hw
   refine⟨_,D9 hu (iy hN hv hd hcd) (hk.h B) (hval.h B) hs,S,F,d,S1,R,h1,fun v F1 H1 R1 st1 r1=>?_⟩
   obtain⟨v0,hv0⟩:=hv0 F1 H1 R1
   refine⟨v0,hv0,S1,F1,kd,S2,R1,h2,fun y F2 H2 R2 st2 r2=>?_⟩
   obtain⟨v',k1,k2⟩:=R2.rep i u hS
   rw[hv0] at k1
   cases k1
   obtain⟨a,o2,rfl,fa,eo,k3⟩:=k2.dQ Ms
   rw[hio] at eo
   cases eo
   obtain⟨ws,ha,pr⟩:=k3
   obtain⟨b',rfl,hb'⟩:=mS R2.sub r2 e1
   refine⟨a,_,rfl,Bd.t ha hb' (by rw[g7 pr];exact Nat.lt_of_lt_of_le hl (by decide)),?_⟩
   obtain⟨R3,st3⟩:=R2.write (ho:=.dT (putK ws kk v)) hS Qp hv0 ⟨_,bh,wG pr (r1.le st2.ext.le)⟩
   exact q σ F2 _ R3 fun b o z=>st2.ext.le b o (st1.ext.le b o z)
  | lst ds=>
   unfold tX at hw
   dsimp only at hw
   split at hw
   ·rename_i ii
    obtain⟨j,e1,rfl⟩:=aC hw
    refine⟨_,HJ (hval.h B) (Pk (iy hN hv hd hcd) (hk.h B) set_list hs4) hs1 hs2 My,S,F,d,S1,R,h1,fun v F1 H1 R1 st1 r1=>?_⟩
    obtain⟨v0,hv0⟩:=hv0 F1 H1 R1
    refine⟨v0,hv0,S1,F1,_,S2,R1,h2,fun y F2 H2 R2 st2 r2=>?_⟩
    obtain⟨v',k1,k2⟩:=R2.rep i u hS
    rw[hv0] at k1
    cases k1
    obtain⟨a,o2,rfl,fa,eo,k3⟩:=k2.dQ Ms
    rw[hio] at eo
    cases eo
    obtain⟨vs,ha,rs⟩:=k3
    rw[iJ r2]
    refine⟨a,vs,_,j,rfl,rfl,ha,by rw[rs.length];exact e1,?_⟩
    obtain⟨R3,st3⟩:=R2.write (ho:=.lst (vs.set j v)) hS Qp hv0 ⟨_,bh,rs.set (r1.le st2.ext.le) j⟩
    exact q σ F2 _ R3 fun b o z=>st2.ext.le b o (st1.ext.le b o z)
   ·cases hw
 ·cases hg⟩
theorem Rel.Zy {K:PySem.W.Frag}{B:Base}{S:SS}{σ:St}{F H:Hp}{a:Addr}{o o':HO}(R:Rel K B S σ F H) (hn:¬dQ S σ a) (hf:F a=none) (hB:B.H a=none) (hh:H a=some o) (hz:∀ob u,o≠.lP ob u):Rel K B S σ F (upd H a o'):=by
 have SV:∀b ob w,H b=some (.lP ob w)->upd H a o' b=some (.lP ob w):=fun b ob w z=>by
  rw[aX (fun e=>by rw[e,hh] at z;cases z;exact hz _ _ rfl)];exact z
 refine⟨fun b u z=>?_,R.len,fun j w z=>?_,R.Ej,R.own,R.bor,R.par,⟨R.ext.le,fun b u z n=>?_,R.ext.kB,fun b u z=>?_,fun b ob w z=>SV b ob w (R.ext.lP b ob w z)⟩⟩
 ·have hb:b≠a:=fun e=>by rw[e,hf] at z;cases z
  rw[aX hb];exact R.sub b u z
 ·obtain⟨v,h1,h2⟩:=R.rep j w z
  refine⟨v,h1,h2.le (fun _ _ z=>z) SV fun c hm hc=>?_⟩
  have hca:c≠a:=fun e=>hn ⟨j,w,z,hm,by rw[h1,hc,e]⟩
  obtain⟨c',_,e,f,_⟩:=h2.dQ hm
  rw[hc] at e
  cases e
  exact⟨fun o z=>by rw[aX hca];exact z,f⟩
 ·rw[aX (fun e=>by rw[e,hB] at z;cases z)];exact R.ext.keep b u z n
 ·by_cases hb:b=a
  ·exact⟨o',by rw[hb,bh]⟩
  ·rw[aX hb];exact R.ext.there b u z
noncomputable def jD:List (Str×GD)->SS->Option (List (Key×D)×SS)
 | [],S=>some ([],S)
 | (z,g) :: r,S=>(g S).bind fun p=>(jD r p.2).map fun q=>((.inr z,p.1) :: q.1,q.2)
noncomputable def mq (kvs more:List (Key×D)):List (Key×D):=more.foldl (fun acc kv=>putD acc kv.1 kv.2) kvs
theorem wI {F:Hp}:∀{more:List (Key×V)}{OM:List (Key×D)}{ws:List (Key×V)}{kvs:List (Key×D)},Paired (iT F) more OM->Paired (iT F) ws kvs->Paired (iT F) (nZ ws more) (mq kvs OM)
 | _,_,_,_,.nil,h=>h
 | _,_,ws,kvs,@Paired.cons _ _ _ p q _ _ r rs,h=>by
  have e:=wG (k:=q.1) h r.2
  show Paired (iT F) (nZ (putK ws p.1 p.2) _) (mq (putD kvs q.1 q.2) _)
  rw[r.1]
  exact wI rs e
noncomputable def wJ (vB:List (Str×GD)):GE:=fun S=>(jD vB S).map fun p=>(.m (.dct (mq [] p.1)),p.2)
structure Xa (X:Cx) (pos:Pos) (keys:List (Option Expr)) (values:List Expr) (vB:List (Str×GD)):Prop where
 h:∀B,Uv X pos keys values (vB.map fun p=>(tC (.str p.1),tD X.K B p.2))
theorem Eu:Xa X pos [] [] []:=⟨fun B=>L7⟩
theorem oE {z:Str}{j:Nat}{pk:Pos}{v:Expr}{ks:List (Option Expr)}{vs:List Expr}{vB:List (Str×GD)}(hv:JD X v g) (hr:Xa X pos ks vs vB):Xa X pos (some (.Constant (.str z) j pk) :: ks) (v :: vs) ((z,g) :: vB):=⟨fun B=>HZ HB (hv.h B) (hr.h B)⟩
theorem BA {B:Base}{σ:St}:∀{vB:List (Str×GD)}{S0 S:SS}{F0 H0 F H:Hp}{kvs:List (Key×D)}{S':SS}{Q:List (V×V)->Hp->Prop},Rel X.K B S σ F H->Step S0 S σ F0 H0 F H->jD vB S=some (kvs,S')->
  (∀(ws:List (Key×V)) (F' H':Hp),Rel X.K B S' σ F' H'->Step S0 S' σ F0 H0 F' H'->Paired (iT F') ws kvs->Q (ws.map fun kv=>(kV kv.1,kv.2)) H')->vV (vB.map fun p=>(tC (.str p.1),tD X.K B p.2)) σ H Q
 | [],S0,S,F0,H0,F,H,kvs,S',Q,R,st,h,q=>by cases h;exact q [] F H R st .nil
 | (z,g) :: r,S0,S,F0,H0,F,H,kvs,S',Q,R,st,h,q=>by
  obtain⟨⟨d,S1⟩,h1,h⟩:=ak h
  obtain⟨⟨ve,S2⟩,h2,h⟩:=aC h
  cases h
  show tC (.str z) σ H fun x H1=>tD X.K B g σ H1 fun y H2=>vV _ σ H2 fun ps H3=>Q ((x,y) :: ps) H3
  refine⟨S,F,d,S1,R,h1,fun v F1 H1 R1 st1 r1=>?_⟩
  refine BA (S0:=S1) (F0:=F1) (H0:=H1) R1 (Step.refl ..) h2 fun ws F2 H2 R2 st2 pr=>?_
  exact q ((.inr z,v) :: ws) F2 H2 R2 ((st.trans st1).trans st2) (.cons ⟨rfl,r1.le st2.ext.le⟩ pr)
theorem Ew {keys : List (Option Expr)} {values : List Expr} {vB : List (Str × GD)} (h : Xa X pos keys values vB) (hall : keys.all (·.isSome) = true := by rfl) (hl : keys.length = values.length := by rfl) (h0 : keys ≠ [] := by decide) (YO : keys.length <= 15 := by decide) (hk : vB.length <= 15 := by decide) :
    JE X (.Dict keys values pos) (wJ vB):=⟨fun B=>(L8 (h.h B) hall hl h0 YO).imp fun σ H Q ⟨S,F,u,S',R,hg,q⟩=>by
  obtain⟨⟨kvs,S1⟩,h1,hg⟩:=aC hg
  cases hg
  intro p hp
  have n:=iI.obj (F:=F) hp (.dK [])
  have hn:¬dQ S σ p:=fun m=>by obtain⟨o,ho⟩:=R.has m;rw[hp] at ho;cases ho
  refine BA (S0:=S) (F0:=F) (H0:=upd H p (.dK [])) (R.new n (R.sub.same n.same)) (Step.refl ..) h1 fun ws F1 H1 R1 st1 pr=>?_
  have hp1:H1 p=some (.dK []):=st1.ext.keep p _ bh hn
  have hf1:F1 p=none:=st1.ext.kB p _ bh hn (R.sub.fresh hp)
  have hn1:¬dQ S1 σ p:=fun m=>hn (st1.mu p m)
  have hB:B.H p=none:=none_of R.ext.there hp
  have len:ws.length<=15:=by
    rw[g7 pr]
    have:∀{vB:List (Str×GD)}{S:SS}{kvs:List (Key×D)}{S':SS},jD vB S=some (kvs,S')->kvs.length=vB.length:=fun {vB}=>by
      induction vB with
      | nil=>intro S kvs S' h;cases h;rfl
      | cons p r ih=>
        intro S kvs S' h
        obtain⟨⟨d,T1⟩,k1,h⟩:=ak (show(p.2 S).bind _=_ from h)
        obtain⟨⟨kv2,T2⟩,k2,h⟩:=aC h
        cases h
        show kv2.length+1=r.length+1
        rw[ih k2]
    rw[this h1]
    exact hk
  refine⟨hp1,ws,rfl,len,?_⟩
  have R2:=R1.Zy (o':=.dK (nZ [] ws)) hn1 hf1 hB hp1 (fun _ _ z=>by cases z)
  refine q (.ref p) F1 _ R2 ⟨⟨st1.ext.le,fun b o z m=>?_,fun b o z m f=>?_,fun b o z=>?_,fun b ob w z=>?_⟩,st1.mu,st1.slots⟩ ⟨p,rfl,hp,hf1,⟨_,bh,wI pr .nil⟩,hn1,hB⟩
  . have hb:b≠p:=bJ z hp
    rw[aX hb]
    exact st1.ext.keep b o (by rw[aX hb];exact z) m
  . have hb:b≠p:=bJ z hp
    exact st1.ext.kB b o (by rw[aX hb];exact z) m f
  . have hb:b≠p:=bJ z hp
    rw[aX hb]
    exact st1.ext.there b o (by rw[aX hb];exact z)
  . have hb:b≠p:=bJ z hp
    rw[aX hb]
    exact st1.ext.lP b ob w (by rw[aX hb];exact z)⟩
end
noncomputable def gX (g:Option GD) (S:SS):Option (Option Int×SS):=match g with
 | none=>some (none,S)
 | some g=>(g S).bind fun p=>match p.1 with
  | .int i=>some (some i,p.2)
  | _=>none
noncomputable def tPO (K:PySem.W.Frag) (B:Base) (g:Option GD):TO:=fun σ H Q=>∃S F o S',Rel K B S σ F H/\gX g S=some (o,S')/\∀F' H',Rel K B S' σ F' H'->Step S S' σ F H F' H'->Q o H'
structure JO (X:Cx) (e:Option Expr) (g:Option GD):Prop where
 h:∀B,PO X e (tPO X.K B g)
theorem PO.imp {X:Cx}{e:Option Expr}{t t':TO}(h:PO X e t) (k:∀σ H Q,t' σ H Q->t σ H Q):PO X e t':=fun pins s σ H Q I q=>h pins s σ H Q I (k σ H Q q)
theorem jq {X:Cx}:JO X none none:=⟨fun B=>Mc.imp fun σ H Q ⟨S,F,o,S',R,h,q⟩=>by cases h;exact q F H R (Step.refl ..)⟩
theorem iK {X:Cx}{e:Expr}{g:GD}(h:JD X e g):JO X (some e) (some g):=⟨fun B=>(Me (h.h B)).imp fun σ H Q ⟨S,F,o,S',R,h,q⟩=>by
 obtain⟨⟨d,S1⟩,h1,h⟩:=ak (show(g S).bind _=_ from h)
 cases d <;> try (cases h)
 exact⟨S,F,_,_,R,h1,fun v F1 H1 R1 st1 r1=>⟨_,iJ r1,q F1 H1 R1 st1⟩⟩⟩
noncomputable def Mz (d:D) (lo hi:Option Int):Option U:=match d with
 | .tup ds=>some (.t (.tup (cutD ds lo hi)))
 | .lst ds=>some (.m (.lst (cutD ds lo hi)))
 | .str z=>if z.length<=100000 then some (.t (.str (Txt.slice z lo hi))) else none
 | _=>none
theorem bS.cut {F:Hp}{vs:List V}{ds:List D}(rs:bS F vs ds) (lo hi:Option Int):bS F (xZ vs lo hi) (cutD ds lo hi):=by
 unfold xZ cutD
 rw[rs.length]
 exact(rs.drop _).take _
noncomputable def Zz:V->Option Int->Option Int->Hp->VK->Prop:=fun x lo hi H Q=>∃F d u,Sub F H/\Rep F x d/\Mz d lo hi=some u/\∀v F' H',iI F H F' H'->Sub F' H'->CY H F' H' v u->Q v H'
theorem ZA {X : Cx} : Uy X Zz := by
  intro pins s σ H x v vl vu lo hi sl Q I rx hs pl pu ⟨F,d,u,sb,r,hf,q⟩
  cases d with
  | tup ds =>
    cases hf
    have r0:=r
    obtain⟨a,xs,rfl,fa,ha,rs⟩:=sb.kr r
    have hl:=rs.length
    by_cases hw:HT.iz xs.length 0 lo=0/\HT.iz xs.length xs.length hi=xs.length
    . cases rx
      obtain⟨its,rv,ht,hz⟩:=I.tuple (.inl ha)
      have hlen:its.toArray.size=xs.length:=by rw[List.size_toArray];exact rv.length.symm
      refine⟨"tuple",_,PyProof.Rows.slot_tuple_getitem.lookup,ht.typeIs,?_⟩
      refine HT.Fz ht hs pl pu (by rw[hlen];exact hw) ⟨.ref a,H,I,rfl,q _ F H (iI.refl ..) sb ?_⟩
      have e:cutD ds lo hi=ds:=by
        unfold cutD
        rw[<-hl,hw.1,hw.2,List.drop_zero,Nat.sub_zero,List.take_of_length_le (by rw[hl];exact Nat.le_refl _)]
      show Rep F _ (.tup (cutD ds lo hi))
      rw[e]
      exact r0
    . exact PY pins s σ H (.ref a) v vl vu lo hi sl Q I rx hs pl pu ⟨a,xs,rfl,.inl ha,hw,fun p hp=>q _ _ _ (iI.root sb hp _) (sb.tK hp) (.tup bh ((rs.cut lo hi).le (lZ (sb.fresh hp))))⟩
  | lst ds=>
    cases hf
    obtain⟨a,xs,rfl,fa,ha,rs⟩:=sb.jY r
    exact Ef pins s σ H (.ref a) v vl vu lo hi sl Q I rx hs pl pu ⟨a,xs,rfl,.inl ha,fun p hp=>q _ F _ (iI.obj hp _) (sb.same (iI.obj (F:=F) hp _).same) ⟨p,rfl,hp,sb.fresh hp,_,bh,rs.cut lo hi⟩⟩
  | str z=>
    obtain⟨hl,rfl⟩:=cJ hf
    cases r
    exact Qg pins s σ H _ v vl vu lo hi sl Q I rx hs pl pu ⟨z,rfl,kE hl,fun _=>q _ F H (iI.refl ..) sb (.str _)⟩
  | dW=>cases hf
  | bl b=>cases hf
  | int b=>cases hf
noncomputable def uP (g:GD) (lo hi:Option GD):GE:=fun S=>(g S).bind fun p=>(gX lo p.2).bind fun l=>(gX hi l.2).bind fun h=>(Mz p.1 l.1 h.1).map fun u=>(u,h.2)
section
variable {X:Cx}{a b c e:Expr}{lo hi:Option Expr}{pos p p2 px:Pos}{x y:Str}{g ga:GD}{gA:GA}{gl gh:Option GD}
theorem iB (he:JD X e g) (hl:JO X lo gl) (hh:JO X hi gh):JE X (.Subscript e (.Slice lo hi none p2) pos) (uP g gl gh):=⟨fun B=>(Bg ZA (he.h B) (hl.h B) (hh.h B)).imp fun σ H Q ⟨S,F,u,S',R,hg,q⟩=>by
 obtain⟨⟨d,S1⟩,h1,hg⟩:=ak hg
 obtain⟨⟨l,S2⟩,h2,hg⟩:=ak hg
 obtain⟨⟨h,S3⟩,h3,hg⟩:=ak hg
 obtain⟨u',h4,hg⟩:=aC hg
 cases hg
 exact⟨S,F,d,S1,R,h1,fun v F1 H1 R1 st1 r1=>⟨S1,F1,l,S2,R1,h2,fun F2 H2 R2 st2=>⟨S2,F2,h,_,R2,h3,fun F3 H3 R3 st3=>⟨F3,d,_,R3.sub,r1.le (fun b o z=>st3.ext.le b o (st2.ext.le b o z)),h4,fun v F4 H4 n s4 r4=>q v F4 H4 (R3.new n s4) (((st1.trans st2).trans st3).trans n.step) (r4.IM R3 ((st1.trans st2).trans st3))⟩⟩⟩⟩⟩
noncomputable def wK (ns:List Int) (lo hi:Option Int):List Int:=(ns.drop (HT.iz ns.length 0 lo)).take (HT.iz ns.length ns.length hi - HT.iz ns.length 0 lo)
noncomputable def Jg (i:Nat) (lo hi:Option GD):GE:=fun S=>match S[i]? with
 | some (some (.s ns))=>(gX lo S).bind fun l=>(gX hi l.2).map fun h=>(.m (.lst ((wK ns l.1 h.1).map D.int)),h.2)
 | _=>none
theorem ze {F:Hp}:∀ns:List Int,bS F (ns.map V.int) (ns.map D.int)
 | []=>.nil
 | n :: ns=>.cons (.int n) (ze ns)
theorem FI (ns:List Int) (lo hi:Option Int):xZ (ns.map V.int) lo hi=(wK ns lo hi).map V.int:=by
 unfold xZ wK
 rw[List.length_map,List.map_take,List.map_drop]
theorem FJ {i:Nat}(hl:JO X lo gl) (hh:JO X hi gh) (hN:X.N[i]? =some x:=by rfl) (hv:CJ X.env.scope x:=by first | exact Or.inl rfl | exact Or.inr (Or.inl rfl) | exact Or.inr (Or.inr rfl))
  (hd:(x == ("__debug__":Str))=false:=by decide) (hcd:(x == ("__classdict__":Str))=false:=by decide):JE X (.Subscript (.Name x px) (.Slice lo hi none p2) pos) (Jg i gl gh):=⟨fun B=>(Bg Ef (iy hN hv hd hcd) (hl.h B) (hh.h B)).imp fun σ H Q ⟨S,F,u,S',R,hg,q⟩=>by
 unfold Jg at hg
 split at hg
 ·rename_i ns hS
  obtain⟨⟨l,S1⟩,h1,hg⟩:=ak hg
  obtain⟨⟨h,S2⟩,h2,hg⟩:=aC hg
  cases hg
  obtain⟨v0,hv0,a,rfl,sc⟩:=R.rep i _ hS
  refine⟨_,hv0,S,F,l,S1,R,h1,fun F1 H1 R1 st1=>⟨S1,F1,h,_,R1,h2,fun F2 H2 R2 st2=>?_⟩⟩
  have sc2:=(sc.le st1.ext.lP).le st2.ext.lP
  refine⟨a,_,rfl,sc2.sq,fun p hp=>?_⟩
  rw[FI]
  have n:=iI.obj (F:=F2) hp (.lst ((wK ns l h).map V.int))
  have st:=st1.trans st2
  exact q _ F2 _ (R2.new n (R2.sub.same n.same)) (st.trans n.step) (CY.IM (u:=.m (.lst ((wK ns l h).map D.int))) R2 st ⟨p,rfl,hp,R2.sub.fresh hp,_,bh,ze _⟩)
 ·cases hg⟩
noncomputable def okR (d:D):Prop:=(toPy d).showable=true/\(toPy d).depth<=20/\(toPy d).shown.length<=sizeLine
noncomputable instance (d:D):Decidable (okR d):=by unfold okR;infer_instance
end
theorem Jh {X : Cx} {x y : Str} {scope : Scope} {c : Addr} {i : Nat} (clos : closureFor scope X.env = pure [(y, c)]) (oh : ∀ z ∈ scope.names, z.2 ≠ .cell) (kind : scope.kind = .function) (names : ∀ z ∈ scope.names, z.2 = .local -> scope.names.lookup z.1 = some .local)
    (loc:scope.names.lookup x=some .local) (hc:X.env.cells.lookup y=some c) (only:∀z∈scope.names,z.2= .free->z.1=y) (ne:x≠y) (hN:X.N[i]? =some y) (vis:X.env.scope.names.lookup y=some .cell) (rel:(relabel scope X.env).names.lookup y=some .cell):
    jU X x [y] [i] scope [(y,c)]:=by
  have look:∀n c',([(y,c)]:List (Str×Addr)).lookup n=some c'->n=y/\c'=c:=fun n c' h=>by
    rw[List.lookup_cons] at h
    cases e:n == y with
    | true=>rw[e] at h;cases h;exact⟨eq_of_beq e,rfl⟩
    | false=>rw[e] at h;cases h
  have self:([(y,c)]:List (Str×Addr)).lookup y=some c:=by rw[List.lookup_cons,beq_self_eq_true]
  refine⟨clos,oh,kind,names,loc,fun n c' h=>?_,fun n h=>?_,?_,rfl,fun j n h=>?_,fun n h=>?_⟩
  . obtain⟨rfl,rfl⟩:=look n c' h
    exact hc
  . have key:n=y:=by
      have go:∀k,(k=NameKind.cell\/k=NameKind.free)->(relabel scope X.env).names.lookup n=some k->n=y:=fun k hk e=>by
        have m:=PySem.mem_of_lookup e
        unfold relabel at m
        obtain⟨⟨n',k'⟩,hm,q⟩:=List.mem_map.mp m
        by_cases hf:k'= .free
        . have h0:n'=y:=only _ hm hf
          have e1:n'=n:=by
            have h1:=congrArg Prod.fst q
            dsimp only at h1
            split at h1 <;> exact h1
          exact e1.symm.trans h0
        . have z:(k' == NameKind.free)=false:=by simpa using hf
          simp only[z,Bool.false_and] at q
          have q2:k'=k:=by
            have:=congrArg Prod.snd q
            simpa using this
          rcases hk with rfl | rfl
          . exact absurd q2 (oh _ hm)
          . exact absurd q2 hf
      rcases h with h | h
      . exact go _ (.inl rfl) h
      . exact go _ (.inr rfl) h
    subst key
    exact⟨c,self⟩
  . simp[ne]
  . cases j with
    | zero=>cases h;exact⟨i,rfl,hN,.inr (.inl vis)⟩
    | succ j=>simp at h
  . have e:n=y:=by simpa using h
    subst e
    exact⟨.inl rel,⟨c,self⟩,by rw[vis];decide⟩
section
variable {X:Cx}{a b c e:Expr}{es:List Expr}{pos p p2 px:Pos}{x y:Str}{f:FM}{fa:Addr}{fd:FuncData}{ps:List Str}{k n:Nat}
theorem Ji (F:cy X.prog X.w X.K X.mg X.base fY k fa fd ps (spT X.K 0 f)) (hr:lT k X.A) (hg:Gl X x) (hm:X.mg x=some (.ref fa)) (hk:PySem.W.keepIn X.K (.ref fa)=true) (hb:Binds X.K fd ps [])
  (hdb:(x == ("__debug__":Str))=false:=by decide):JE X (.Call (.Name x p) [] [] pos) (aU f bG):=⟨fun B=>(HR F hr hg hm hk hb .nil OD hdb).imp fun σ H Q ⟨S,F0,u,S',R,hg,q⟩=>by
 obtain⟨⟨us,S1⟩,h1,hg⟩:=ak hg
 cases h1
 have hg:=(zb hg).2
 obtain⟨ws,h2,hg⟩:=ak hg
 cases h2
 obtain⟨⟨r,outs⟩,h3,hg⟩:=ak hg
 obtain⟨S2,h4,hg⟩:=aC hg
 cases hg
 have st0:Step S S σ F0 H F0 H:=Step.refl ..
 refine⟨rfl,F0,[],r,outs,R.sub,.nil,List.nodup_nil,h3,fun v F2 H2 po rn=>?_⟩
 obtain⟨R2,st2,mu⟩:=lq (vs:=[]) (us:=[]) (ws:=[]) R st0 .nil rfl h4 List.nodup_nil po
 refine q v F2 H2 R2 st2 ?_
 cases r with
 | t d=>exact rn
 | b o=>cases rn
 | v i=>cases rn
 | s i=>cases rn
 | f i=>cases rn
 | m o=>
  obtain⟨a,e,h0,f,h⟩:=rn
  refine⟨a,e,h0,f,h,fun m=>?_,none_of R.ext.there h0⟩
  obtain⟨o',ho⟩:=R.has (mu a m)
  rw[h0] at ho
  cases ho⟩
theorem pS (a:List D) (o:MO) (h:fK o=false):hAppend a o=none:=by
 cases o with
 | lst ds=>cases h
 | dct k=>unfold hAppend;split <;> first | rfl | (rename_i e;cases e)
 | cS k=>unfold hAppend;split <;> first | rfl | (rename_i e;cases e)
 | ins C k=>unfold hAppend;split <;> first | rfl | (rename_i e;cases e)
theorem Jj (a:List D) (o:MO) (h:fK o=false):ni a o=none:=by
 cases o with
 | lst ds=>cases h
 | dct k=>unfold ni;split <;> first | rfl | (rename_i e;cases e)
 | cS k=>unfold ni;split <;> first | rfl | (rename_i e;cases e)
 | ins C k=>unfold ni;split <;> first | rfl | (rename_i e;cases e)
theorem C5 (a:List D) (o:MO) (h:fK o=false):jo a o=none:=by
 cases o with
 | lst ds=>cases h
 | dct k=>unfold jo;split <;> first | rfl | (rename_i e;cases e)
 | cS k=>unfold jo;split <;> first | rfl | (rename_i e;cases e)
 | ins C k=>unfold jo;split <;> first | rfl | (rename_i e;cases e)
end
section
variable {X:Cx}
end
section
variable {prog:Program}{w:World}{A:Around}{R:Result->Shared->Prop}{I:Addr}{fp wr:List Addr}{G:Array GenState->Array GenState->Prop}{n:Nat}{P:Nat->Value->Prop}{St:Nat->Shared->Prop}
end
section
variable {prog:Program}{w:World}{A:Around}{E:Value->Shared->Prop}{s:Shared}
end
section
variable {X:Cx}{a:Expr}{pos p p1 p2:Pos}{ga:GD}
end
noncomputable def rS:U->Option (List D)
 | .t (.lst ds)=>some ds
 | .m (.lst ds)=>some ds
 | .b (.lst ds)=>some ds
 | _=>none
noncomputable def Af (n:Bool) (i:Nat) (g:GD):GD:=fun S=>(g S).bind fun p=>match p.2[i]? with
 | some (some u)=>(rS u).bind fun ds=>if cP ds<=40 then some (.bl (n != inD p.1 ds),p.2) else none
 | _=>none
section
variable {X:Cx}{a:Expr}{x:Str}{px pos:Pos}{ga:GD}
noncomputable abbrev MA (X:Cx) (n:Bool):V->V->Hp->VK->Prop:=fun x y H Q=>∃F d ds p vs,y= .ref p/\Sub F H/\Rep F x d/\m6 X.K H p vs/\bS F vs ds/\cP ds<=40/\Q (.bl (n != inD d ds)) H
theorem Qu (hu:X.A.units+64 < cLine):xT X (compareOp .In) (MA X false):=by
 rintro pins s σ H x y v u Q I rx ry ⟨F,d,ds,p,vs,rfl,sb,r1,hp,rs,hd,q⟩
 cases ry
 obtain⟨its,rv,pl,hz⟩:=I.list hp
 obtain⟨h1,h2⟩:=mQ I sb (A:=X.A.in1) r1 rx rs rv (by show X.A.units+1+cP ds < cLine;omega)
 refine SeqAt.in_listAt (yh F d) pl.isList (fun y hy=>h1 y (by simpa using hy)) ⟨.bl _,H,I,rfl,?_⟩
 rw[show its.toArray.any (yh F d)=its.any (yh F d) by simp,h2]
 simpa using q
theorem FL (hu:X.A.units+64 < cLine):xT X (compareOp .NotIn) (MA X true):=by
 rintro pins s σ H x y v u Q I rx ry ⟨F,d,ds,p,vs,rfl,sb,r1,hp,rs,hd,q⟩
 cases ry
 obtain⟨its,rv,pl,hz⟩:=I.list hp
 obtain⟨h1,h2⟩:=mQ I sb (A:=X.A.in1) r1 rx rs rv (by show X.A.units+1+cP ds < cLine;omega)
 refine SeqAt.notIn_listAt (yh F d) pl.isList (fun y hy=>h1 y (by simpa using hy)) ⟨.bl _,H,I,rfl,?_⟩
 rw[show its.toArray.any (yh F d)=its.any (yh F d) by simp,h2]
 simpa using q
theorem Ex {B:Base}{n:Bool}{i:Nat}{σ:St}{H:Hp}{Q:VK}(h:tD X.K B (Af n i ga) σ H Q):Pp (MA X n) (tD X.K B ga) (Ff i) σ H Q:=by
 obtain⟨S,F,d,S',R,hg,q⟩:=h
 obtain⟨⟨d1,S1⟩,h1,hg⟩:=ak hg
 dsimp only at hg
 split at hg
 ·rename_i u hS
  obtain⟨ds,h2,hg⟩:=ak hg
  obtain⟨hd,hg⟩:=cJ hg
  cases hg
  refine⟨S,F,d1,_,R,h1,fun v F1 H1 R1 st1 r1=>?_⟩
  obtain⟨v0,hv0,r0⟩:=R1.rep i u hS
  have fin:=q (.bl _) F1 H1 R1 st1 (.bl _)
  have go:∀a vs,v0= .ref a->m6 X.K H1 a vs->bS F1 vs ds->Ff i σ H1 fun y H2=>MA X n v y H2 Q:=fun a vs e ha rs=>⟨v0,hv0,F1,d1,ds,a,vs,e,R1.sub,r1,ha,rs,hd,fin⟩
  unfold rS at h2
  split at h2
  ·cases h2;obtain⟨a,vs,e1,fa,ha,rs⟩:=R1.sub.jY r0;exact go a vs e1 (.inl ha) rs
  ·cases h2;obtain⟨a,e1,fa,vs,ha,rs⟩:=r0;exact go a vs e1 (m6.of ha) rs
  ·cases h2;obtain⟨a,e1,fa,vs,ha,rs⟩:=r0;exact go a vs e1 (m6.of ha) rs
  ·cases h2
 ·cases hg
theorem Qv {i:Nat}(hu:X.A.units+64 < cLine) (ha:JD X a ga) (hN:X.N[i]? =some x:=by rfl) (hv:CJ X.env.scope x:=by first | exact Or.inl rfl | exact Or.inr (Or.inl rfl) | exact Or.inr (Or.inr rfl)) (hd:(x == ("__debug__":Str))=false:=by decide) (hcd:(x == ("__classdict__":Str))=false:=by decide)
  (hm:behindInMarks .In (.Name x px)=false:=by with_unfolding_all rfl):JD X (.Compare a [.In] [.Name x px] pos) (Af false i ga):=⟨fun B=>(zP (Qu hu) (ha.h B) (iy hN hv hd hcd) hm).imp fun σ H Q h=>Ex h⟩
theorem FO {i:Nat}(hu:X.A.units+64 < cLine) (ha:JD X a ga) (hN:X.N[i]? =some x:=by rfl) (hv:CJ X.env.scope x:=by first | exact Or.inl rfl | exact Or.inr (Or.inl rfl) | exact Or.inr (Or.inr rfl)) (hd:(x == ("__debug__":Str))=false:=by decide) (hcd:(x == ("__classdict__":Str))=false:=by decide)
  (hm:behindInMarks .NotIn (.Name x px)=false:=by with_unfolding_all rfl):JD X (.Compare a [.NotIn] [.Name x px] pos) (Af true i ga):=⟨fun B=>(zP (FL hu) (ha.h B) (iy hN hv hd hcd) hm).imp fun σ H Q h=>Ex h⟩
end
noncomputable def look:U->Option D
 | .t d=>some d
 | .m (.lst ds)=>some (.lst ds)
 | .b (.lst ds)=>some (.lst ds)
 | _=>none
noncomputable def aej (f:List D->Option U) (i:Nat):GD:=fun S=>match S[i]? with
 | some (some u)=>(look u).bind fun d=>match f [d] with
  | some (.t e)=>if wc e=true then some (e,S) else none
  | _=>none
 | _=>none
section
variable {X:Cx}{x y:Str}{p px py pos:Pos}{f:List D->Option U}
end
section
variable (S:SS) (i:Nat) (g:GD)
@[simp] theorem Qw (n:Bool):Af n i g S=(g S).bind fun p=>match p.2[i]? with | some (some u)=>(rS u).bind fun ds=>if cP ds<=40 then some (.bl (n != inD p.1 ds),p.2) else none | _=>none:=rfl
@[simp] theorem S4 (ds:List D):rS (.t (.lst ds))=some ds:=rfl
@[simp] theorem S5 (ds:List D):rS (.m (.lst ds))=some ds:=rfl
@[simp] theorem S6 (ds:List D):rS (.b (.lst ds))=some ds:=rfl
@[simp] theorem S7 (ds:List D):jo [] (.lst ds)=some (.dW,.lst ds.reverse):=rfl
end
section
variable {X:Cx}{a b c e:Expr}{es:List Expr}{pos p p2 px:Pos}{x y:Str}
noncomputable def U4:R2:=fun x y H Q=>∃l k xs,x= .ref l/\y= .int k/\Rd H l (.lst xs)/\-(2 ^ 63)<=k/\k < 2 ^ 63/\xs.length * k.toNat<=sizeLine/\
 ∀p,H p=none->Q (.ref p) (upd H p (.lst (List.replicate k.toNat xs).flatten))
theorem MB:xT X (binaryOp .Mult) U4:=by
 intro pins s σ H x y v u Q I rx ry h
 obtain⟨l,k,xs,rfl,rfl,hH,h1,h2,hz,q⟩:=h
 cases rx
 obtain⟨t,rfl⟩:=ry
 obtain⟨z,its,n,r,hl,e⟩:=hH.Bh I
 have hlen:its.toArray.size * k.toNat<=sizeLine:=by rw[List.size_toArray,<-hl];exact hz
 have hcap:¬its.toArray.size * k.toNat > (2 ^ 63 - 1) / 8:=by
  have:(sizeLine:Nat)<=(2 ^ 63 - 1) / 8:=by decide
  omega
 have hfit:¬(!Builtin.List.listFitsIndex k)=true:=by
  rw[fitsIndex_both h1 h2]
  exact Bool.false_ne_true
 have Jk:¬Builtin.List.listTooLong (its.toArray.size * k.toNat)=true:=by
  rw[Ik hlen]
  exact Bool.false_ne_true
 have hnew:List.foldl (fun x1 x2=>x1++x2) #[] (List.replicate (if its.toArray.isEmpty=true then 0 else k.toNat) its.toArray)=(List.replicate k.toNat its).flatten.toArray:=by
  have f0:∀m:Nat,List.foldl (fun x1 x2=>x1++x2) #[] (List.replicate m its.toArray)=(List.replicate m its).flatten.toArray:=fun m=>by
   have:=foldl_rep its m []
   rw[List.nil_append] at this
   exact this
  rw[f0]
  cases its with
  | nil=>simp
  | cons a r'=>rw[if_neg (by simp)]
 refine wpAny_binaryOp_repeat_ref (T:="list") (U:="int") (by decide) ⟨_,e,rfl⟩ (fun s'=>typeIs_int s' k t) noFill_list_mul F.fills_int_mul F.slot_int_rmul repeat_list F.slot_int_index.lookup
  (call_meets F.slot_int_rmul (typeIs_int s k t) F.entry_int_rmul (F.args_int_rmul_2 _ _) (int___rmul___int_list k t l its.toArray n)
   ⟨e,rfl,⟨_,e,rfl⟩,call_meets F.slot_list_mul ⟨_,e,rfl⟩ F.entry_list_mul (F.args_list_mul_2 _ _) (AutoListH.list___mul___list_int_3 l its.toArray n k t hfit hcap Jk) ⟨e,?_⟩⟩)
 rw[hnew]
 exact⟨.ref _,_,I.UG (t':=s.toks) (r.rep k.toNat) (by rw[len_rep,Nat.mul_comm];exact hz),rfl,q _ I.fresh⟩
theorem bS.rep {F:Hp}{vs:List V}{ds:List D}(r:bS F vs ds):∀k:Nat,bS F (List.replicate k vs).flatten (List.replicate k ds).flatten
 | 0=>.nil
 | k+1=>by rw[List.replicate_succ,List.replicate_succ,List.flatten_cons,List.flatten_cons];exact r.append (bS.rep r k)
noncomputable def Ag:List D->Option U
 | [.lst ds,.int k]=>if 0<=k/\k.toNat<=100000/\ds.length * k.toNat<=100000 then some (.m (.lst (List.replicate k.toNat ds).flatten)) else none
 | _=>none
theorem Ah:CH X (binaryOp .Mult) Ag:=by
 intro pins s σ H x y v u Q I rx ry ⟨F,ds,w,sb,rs,hw,q⟩
 obtain⟨d,e,rfl,r1,r2⟩:=wu rs
 cases d <;> cases e <;> try (simp[Ag] at hw;done)
 rename_i ds k
 obtain⟨⟨h1,h2,h3⟩,rfl⟩:=cJ hw
 obtain⟨a,vs,rfl,fa,ha,rE⟩:=sb.jY r1
 have hy:=iJ r2
 subst hy
 exact MB pins s σ H _ _ v u Q I rx ry ⟨a,k,vs,rfl,rfl,ha,by omega,by omega,by rw[rE.length];exact Nat.le_trans h3 (by decide),
  fun p hp=>q _ F _ (iI.obj hp _) (sb.same (iI.obj (F:=F) hp _).same) ⟨p,rfl,hp,sb.fresh hp,_,bh,rE.rep _⟩⟩
noncomputable def vf:List D->Option U
 | [.int i]=>some (.t (.int i))
 | [.bl k]=>some (.t (.int (if k then 1 else 0)))
 | _=>none
theorem FP:iY X (.type "int") (rP vf):=by
 intro pins s σ H xs us Q I r ⟨F,ds,w,sb,rs,hw,q⟩
 obtain⟨x,d,rfl,rfl,r1⟩:=vA (P:=fun _=>True) rs hw rfl (fun d _ _=>by cases d <;> rfl)
 cases d <;> try (simp[vf] at hw;done)
 ·cases hw
  have hx:=mh r1
  subst hx
  exact yR pins s σ H _ us Q I r (.inr ⟨_,rfl,q _ F H (iI.refl ..) sb (.int _)⟩)
 ·cases hw
  have hx:=iJ r1
  subst hx
  exact yR pins s σ H _ us Q I r (.inl ⟨_,rfl,q _ F H (iI.refl ..) sb (.int _)⟩)
theorem nk {x : Str} {cE : List Str} {cap : List Nat} {scope : Scope} {cl : List (Str × Addr)} (clos : closureFor scope X.env = pure cl) (oh : ∀ z ∈ scope.names, z.2 ≠ .cell) (kind : scope.kind = .function) (names : ∀ z ∈ scope.names, z.2 = .local -> scope.names.lookup z.1 = some .local)
    (loc:scope.names.lookup x=some .local) (hc:cl.map (fun p=>X.env.cells.lookup p.1)=cl.map (fun p=>some p.2)) (only:∀z∈scope.names,z.2= .free->z.1∈cE) (hcl:cl.map (·.1)=cE.reverse\/cl.map (·.1)=cE) (nd:(x :: cE).Nodup)
    (slot:cap.map (fun i=>X.N[i]?)=cE.map some) (vis:cE.map (fun n=>X.env.scope.names.lookup n)=cE.map fun _=>some .cell) (rel:cE.map (fun n=>(relabel scope X.env).names.lookup n)=cE.map fun _=>some .cell):
    jU X x cE cap scope cl:=by
  have all:∀{α β:Type}{f g:α->β}{l:List α},l.map f=l.map g->∀a∈l,f a=g a:=fun {α β f g l} h=>by
    induction l with
    | nil=>intro a m;cases m
    | cons b r ih=>
      intro a m
      rw[List.map_cons,List.map_cons] at h
      injection h with h1 h2
      rcases List.mem_cons.mp m with z | z
      . rw[z];exact h1
      . exact ih h2 a z
  have U5:∀n,n∈cE->∃c,cl.lookup n=some c:=fun n hn=>lookup_some (hcl.elim (fun z=>by rw[z];exact List.mem_reverse.mpr hn) fun z=>by rw[z];exact hn)
  have len:cap.length=cE.length:=by have:=congrArg List.length slot;simpa using this
  refine⟨clos,oh,kind,names,loc,fun n c h=>all hc (n,c) (PySem.mem_of_lookup h),fun n h=>?_,nd,len,fun j n h=>?_,fun n h=>⟨.inl (all rel n h),U5 n h,by rw[all vis n h];decide⟩⟩
  . refine U5 n ?_
    have go:∀k,(k=NameKind.cell\/k=NameKind.free)->(relabel scope X.env).names.lookup n=some k->n∈cE:=fun k hk e=>by
      have m:=PySem.mem_of_lookup e
      unfold relabel at m
      obtain⟨⟨n',k'⟩,hm,q⟩:=List.mem_map.mp m
      by_cases hf:k'= .free
      . have h0:n'∈cE:=only _ hm hf
        have e1:n'=n:=by
          have h1:=congrArg Prod.fst q
          dsimp only at h1
          split at h1 <;> exact h1
        rw[<-e1]
        exact h0
      . have z:(k' == NameKind.free)=false:=by simpa using hf
        simp only[z,Bool.false_and] at q
        have q2:k'=k:=by
          have:=congrArg Prod.snd q
          simpa using this
        rcases hk with rfl | rfl
        . exact absurd q2 (oh _ hm)
        . exact absurd q2 hf
    rcases h with h | h
    . exact go _ (.inl rfl) h
    . exact go _ (.inr rfl) h
  . have e:=congrArg (fun l=>l[j]?) slot
    simp only[List.getElem?_map,h,Option.map_some] at e
    cases q:cap[j]? with
    | none=>rw[q] at e;cases e
    | some i=>
      rw[q] at e
      exact⟨i,rfl,Option.some.inj e,.inr (.inl (all vis n (List.mem_of_getElem? h)))⟩
end
open AutoSeq1 (wpAny_loadPart')
noncomputable def nP (k:Bool) (h:Heap) (a:Addr) (its:Array Value):Prop:=match k with
 | true=>h.IsList a its
 | false=>h.IsTuple a its
noncomputable def lV (k:Bool) (h:Heap) (it a:Addr) (i:Nat):Prop:=match k with
 | true=>h.IsListIter it a i
 | false=>h.IsTupleIter it a i
noncomputable def itN:Bool->String
 | true=>"list_iterator"
 | false=>"tuple_iterator"
noncomputable def Hs (k:Bool) (a:Addr):Obj:={cls:=.type (itN k),data:=.fields #[.ref a,.int 0 0]}
theorem nP.at {k:Bool}{h h':Heap}{a:Addr}{its:Array Value}(x:nP k h a its) (g:∀o,h.get? a=some o->h'.get? a=some o):nP k h' a its:=by
 cases k <;> exact let⟨o,ho,r⟩:=x;⟨o,g o ho,r⟩
theorem lV.at {k:Bool}{h h':Heap}{it a:Addr}{i:Nat}(x:lV k h it a i) (g:∀o,h.get? it=some o->h'.get? it=some o):lV k h' it a i:=by
 cases k <;> exact let⟨o,ho,r⟩:=x;⟨o,g o ho,r⟩
theorem lV.obj {k:Bool}{h:Heap}{it a:Addr}{i:Nat}(x:lV k h it a i):∃o,h.get? it=some o/\∀v,o.data≠.cell v:=by
 cases k <;> exact let⟨o,ho,_,r⟩:=x;⟨o,ho,fun v z=>by rw[r] at z;cases z⟩
theorem lV.new (k:Bool) (h:Heap) (a:Addr):lV k (h.push (Hs k a)) h.objs.size a 0:=by
 cases k <;> exact⟨_,Heap.get?_push_size _ rfl,rfl,rfl⟩
section
variable {prog:Program}{w:World}{A:Around}{E:Value->Shared->Prop}{s:Shared}
theorem ON {k:Bool}{a:Addr}{its:Array Value}{Q:Value->Shared->Prop}(h:nP k s.heap a its) (q:Q (.ref s.heap.objs.size) {s with heap:=s.heap.push (Hs k a)}):wpAny (model prog w) A (pyIter (.ref a)) Q E s:=by
 cases k with
 | true=>exact wpAny_pyIter_list h q
 | false=>exact wpAny_pyIter_tuple h q
theorem MC {ad t:Addr}{n:Nat}{vals:Array Value}{y:Value}{Q:Value->Shared->Prop}(st:s.heap.IsTupleIter ad t n) (hv:s.heap.IsTuple t vals) (hy:vals[n]? =some y)
  (q:∀h',h'.IsTupleIter ad t (n+1)->Heap.SameBut ad s.heap h'->Q y {s with heap:=h'}):wpAny (model prog w) A (Builtin.SmallTypes.nextOf (.ref ad)) Q E s:=by
 obtain⟨ob,hob,hcl,hdat⟩:=id st
 obtain⟨ob2,Qx,_,nn,Jl⟩:=hv
 unfold Builtin.SmallTypes.nextOf
 refine wpAny_bind (wpAny_callSpecial?_slot (name:=Str.ofString "__next__") st.typeIs F.slot_tuple_iterator_next (wpAny_call_entry F.slot_tuple_iterator_next st.typeIs F.entry_tuple_iterator_next ?_ (F.args_tuple_iterator_next_1 _)))
 show wpAny _ _ (field (.ref ad) 0 >>= _) _ _ s
 refine wpAny_bind (wpAny_field hob hdat (x:=.ref t) rfl ?_)
 show wpAny _ _ (if(Value.ref t == Value.none)=true then _ else _) _ _ s;rw[if_neg (show ¬((Value.ref t == Value.none)=true) from Bool.false_ne_true)]
 show wpAny _ _ (field (.ref ad) 1 >>= _) _ _ s
 refine wpAny_bind (wpAny_field hob hdat (x:=.int n 0) rfl ?_)
 show wpAny _ _ (seqItems? (.ref t) >>= _) _ _ s;refine wpAny_bind (wpAny_seqItems Qx Jl ?_)
 simp only[Int.toNat_natCast,hy]
 refine wpAny_bind (wpAny_setField hob hdat (by simp) (wpAny_pure ⟨y,rfl,wpAny_pure (q _ ?_ (Heap.SameBut.update ..))⟩))
 exact⟨_,Heap.get?_update_self _ hob (Obj.isFreed_of_fields (Obj.data_mapFields hdat _)),(Obj.cls_mapFields ..).trans hcl,by rw[Obj.data_mapFields hdat];simp[rawInt]⟩
theorem Qy {ad t:Addr}{n:Nat}{vals:Array Value}{Q:Value->Shared->Prop}(hn:A.handled=none) (st:s.heap.IsTupleIter ad t n) (hv:s.heap.IsTuple t vals) (hy:vals[n]? =none)
  (q:∀h' e,Heap.ExtBut ad s.heap h'->(∃o,h'.get? e=some o/\o.cls= .type "StopIteration")->E (.ref e) {s with heap:=h'}):wpAny (model prog w) A (Builtin.SmallTypes.nextOf (.ref ad)) Q E s:=by
 obtain⟨ob,hob,hcl,hdat⟩:=id st
 obtain⟨ob2,Qx,_,nn,Jl⟩:=hv
 unfold Builtin.SmallTypes.nextOf
 refine wpAny_bind (wpAny_callSpecial?_slot (name:=Str.ofString "__next__") st.typeIs F.slot_tuple_iterator_next (wpAny_call_entry F.slot_tuple_iterator_next st.typeIs F.entry_tuple_iterator_next ?_ (F.args_tuple_iterator_next_1 _)))
 show wpAny _ _ (field (.ref ad) 0 >>= _) _ _ s
 refine wpAny_bind (wpAny_field hob hdat (x:=.ref t) rfl ?_)
 show wpAny _ _ (if(Value.ref t == Value.none)=true then _ else _) _ _ s;rw[if_neg (show ¬((Value.ref t == Value.none)=true) from Bool.false_ne_true)]
 show wpAny _ _ (field (.ref ad) 1 >>= _) _ _ s
 refine wpAny_bind (wpAny_field hob hdat (x:=.int n 0) rfl ?_)
 show wpAny _ _ (seqItems? (.ref t) >>= _) _ _ s;refine wpAny_bind (wpAny_seqItems Qx Jl ?_)
 simp only[Int.toNat_natCast,hy]
 refine wpAny_bind (wpAny_rule (wpAny_bind (wpAny_setField hob hdat (by simp) ?_)))
 show wpAny _ _ (newExc (.type "StopIteration") [] >>= _) _ _ _;refine wpAny_bind ?_;simp only[newExc,newTuple]
 refine wpAny_bind (wpAny_newObj_type ?_ (by size_fits));refine wpAny_bind (m:=firstArgMember _ _) (wpAny_of_eq (a:=Value.none) (by first | rfl | (simp only[firstArgMember];rfl)) ?_)
 refine wpAny_newObj_type ?_ (by size_fits);simp only[raiseNew];refine wpAny_bind (wpAny_handled ?_)
 first | rw[show A.in1.handled=none from hn] | rw[hn]
 refine wpAny_bind (wpAny_pure (wpAny_throw ?_));exact q _ _ (((Heap.SameBut.update ..).extBut.push _).push _) ⟨_,Heap.get?_push_size _ rfl,rfl⟩
theorem nextK {k:Bool}{ad t:Addr}{n:Nat}{vals:Array Value}{y:Value}{Q:Value->Shared->Prop}(st:lV k s.heap ad t n) (hv:nP k s.heap t vals) (hy:vals[n]? =some y)
  (q:∀h',lV k h' ad t (n+1)->Heap.SameBut ad s.heap h'->Q y {s with heap:=h'}):wpAny (model prog w) A (Builtin.SmallTypes.nextOf (.ref ad)) Q E s:=by
 cases k with
 | true=>exact wpAny_nextOf_list_item st hv hy q
 | false=>exact MC st hv hy q
theorem BB {k:Bool}{ad t:Addr}{n:Nat}{vals:Array Value}{Q:Value->Shared->Prop}(hn:A.handled=none) (st:lV k s.heap ad t n) (hv:nP k s.heap t vals) (hy:vals[n]? =none)
  (q:∀h' e,Heap.ExtBut ad s.heap h'->(∃o,h'.get? e=some o/\o.cls= .type "StopIteration")->E (.ref e) {s with heap:=h'}):wpAny (model prog w) A (Builtin.SmallTypes.nextOf (.ref ad)) Q E s:=by
 cases k with
 | true=>exact wpAny_nextOf_list_end hn st hv hy q
 | false=>exact Qy hn st hv hy q
theorem Qz {k:Bool}(hn:A.handled=none) (ad t:Addr) (hne:t≠ad) (vals:Array Value):Draws prog w A ad [ad,t] vals.size (fun i v=>vals[i]? =some v) (fun i h=>lV k h ad t i/\nP k h t vals) where
 live:=fun _ _ st=>let⟨o,ho,_⟩:=st.1.obj;⟨o,ho⟩
 frame:=fun _ _ _ st hk=>⟨st.1.at fun o e=>hk ad (by simp) o e,st.2.at fun o e=>hk t (by simp) o e⟩
 item:=fun i s Q E hi st hQ=>nextK st.1 st.2 (y:=vals[i]) (by simp[hi]) fun h' QA hs'=>hQ _ h' s.toks (by simp[hi]) ⟨QA,st.2.at fun o e=>hs'.extBut _ _ hne e⟩ hs'
 done:=fun s Q E st hE=>BB hn st.1 st.2 (by simp) hE
end
theorem Jm (l:Addr) (vals:Array Value) (n:Nat) (dct:Option Addr) (sl:Array (Option Value)):
  Meets (Builtin.«enumerate.__new__» ⟨[.type "enumerate",.ref l],[]⟩) (fun _ R s=>s.heap.get? l=some {cls:=.type "tuple",dict:=dct,data:=.seq vals n,slots:=sl}/\
   R (.ok (.ret (.ref (s.heap.push (Hs false l)).objs.size))) {s with heap:=(s.heap.push (Hs false l)).push {cls:=.type "enumerate",data:=.fields #[.none,.bool false,.ref s.heap.objs.size,rawInt 0,.none,.none]}}):=
 .of_wp fun prog w A R s h=>by
  obtain⟨hp,g,d,tk,os⟩:=s;obtain⟨hl,h⟩:=h
  have hsub:=sub_enumerate
  have hT:Heap.IsTuple (Shared.heap ⟨hp,g,d,tk,os⟩) l vals:=⟨_,hl,rfl,n,rfl⟩
  wp_walk using wpAny_loadPart' hl
  refine wpAny_stack_any fun st=>wpAny_pure ?_
  split
  ·rename_i c _ _ _ _ _
   cases(c == Value.type "enumerate")
   ·wp_walk using wpAny_loadPart' hl,wpAny_pyIter_tuple hT;exact⟨_,rfl,h⟩
   ·wp_walk using wpAny_loadPart' hl,wpAny_pyIter_tuple hT;exact⟨_,rfl,h⟩
  ·wp_walk using wpAny_loadPart' hl,wpAny_pyIter_tuple hT;exact⟨_,rfl,h⟩
section
variable {prog:Program}{w:World}{A:Around}{E:Value->Shared->Prop}{s:Shared}
theorem C6 {k:Bool}{l:Addr}{vals:Array Value}{Q:Value->Shared->Prop}(hL:nP k s.heap l vals)
  (h:∀h',IsEnum h' (s.heap.objs.size+1) s.heap.objs.size 0 .none->lV k h' s.heap.objs.size l 0->(∀b o,s.heap.get? b=some o->h'.get? b=some o)->Q (.ref (s.heap.objs.size+1)) {s with heap:=h'}):
  wpAny (model prog w) A (call (.type "enumerate") [.ref l]) Q E s:=by
 cases k with
 | true=>exact call_enumerate_list hL fun h' a b _ c=>h h' a b c
 | false=>
  obtain⟨⟨c,dct,dt,sl⟩,hl,hc,n,hd⟩:=hL
  have hc:c= .type "tuple":=hc
  have hd:dt= .seq vals n:=hd
  subst hc hd
  refine callType_new F.called_enumerate (by decide) (F.typeCall_enumerate_1 _) (F.newCall_enumerate_1 _) (fun obj=>F.args_object_init_2 obj _) F.entry_enumerate_new (Jm l vals n dct sl) ⟨hl,?_⟩
  have hz:(s.heap.push (Hs false l)).objs.size=s.heap.objs.size+1:=Heap.size_push ..
  show _/\_
  rw[hz]
  have he:IsEnum ((s.heap.push (Hs false l)).push {cls:=.type "enumerate",data:=.fields #[.none,.bool false,.ref s.heap.objs.size,rawInt 0,.none,.none]}) (s.heap.objs.size+1) s.heap.objs.size 0 .none:=by
   have:=Heap.get?_push_size (s.heap.push (Hs false l)) (o:={cls:=.type "enumerate",data:=.fields #[.none,.bool false,.ref s.heap.objs.size,rawInt 0,.none,.none]}) rfl
   rw[hz] at this;exact this
  exact⟨⟨_,he,rfl⟩,h _ he ((lV.new false s.heap l).at fun o e=>Heap.get?_push_of_some _ e) fun b o x=>Heap.get?_push_of_some _ (Heap.get?_push_of_some _ x)⟩
end
theorem QB {prog:Program}{w:World}{A:Around}{k:Bool}(hn:A.handled=none) (ad t:Addr) (vals:Array Value) (n:Nat) (he:vals[n]? =none):Draws prog w A ad [ad,t] n (fun _ _=>True) (fun i h=>lV k h ad t i/\nP k h t vals/\i=n) where
 live:=fun _ _ st=>let⟨o,ho,_⟩:=st.1.obj;⟨o,ho⟩
 frame:=fun _ _ _ st hk=>⟨st.1.at fun o e=>hk ad (by simp) o e,st.2.1.at fun o e=>hk t (by simp) o e,st.2.2⟩
 item:=fun i s Q E hi st hQ=>absurd hi (by rw[st.2.2];exact Nat.lt_irrefl _)
 done:=fun s Q E st hE=>BB hn st.1 st.2.1 he hE
noncomputable def zf (K:PySem.W.Frag) (H:Hp) (k:Bool) (a:Addr) (xs:List V):Prop:=match k with
 | true=>m6 K H a xs
 | false=>yP K H a xs
section
variable {X:Cx}{pins:List (Addr×Obj)}{σ:St}{H:Hp}{s:Shared}
theorem Inv.C7 (I:Inv X pins σ H s){k:Bool}{a:Addr}{xs:List V}(h:zf X.K H k a xs):∃its:List Value,Vals xs its/\nP k s.heap a its.toArray/\xs.length<=sizeLine:=by
 cases k with
 | true=>obtain⟨its,r,p,z⟩:=I.list h;exact⟨its,r,p.isList,z⟩
 | false=>obtain⟨its,r,p,z⟩:=I.tuple h;exact⟨its,r,p,z⟩
theorem Inv.Ai (I:Inv X pins σ H s){k:Bool}{a:Addr}{xs ys:List V}(h:zf X.K H k a xs) (h':zf X.K H k a ys):xs=ys:=by
 cases k with
 | true=>exact I.vO h h'
 | false=>exact I.yQ h h'
theorem Inv.vC {t':Nat}{h':Heap}{fp:List Addr}(I:Inv X pins σ H s) (k:∀b o,b∉fp->s.heap.get? b=some o->h'.get? b=some o) (hf:∀b∈fp,lR X pins H b):Inv X pins σ H {s with heap:=h',toks:=t'}:=by
 have TR:∀b u,H b=some u->b∉fp:=fun b u e z=>by rw[(hf b z).1] at e;cases e
 refine I.step (g':=s.gens) (d':=s.drawn) (ch:=fp) (fun b hb=>?_) (fun b o _ _ hc e _=>k b o hc e) (fun b o _ _ hc e _=>⟨o.slots,k b o hc e⟩) (fun _ _ _ _ n=>n)
  (fun b o hc e=>⟨o,k b o hc e⟩) (fun _ _ e=>e) (fun _ _ _ e=>e) (fun b ps e=>⟨#[],by rw[e];simp⟩) (fun m hm=>?_) (fun b u e=>?_) I.bare
 ·obtain⟨_,f1,_,f3,f4,f5⟩:=hf b hb
  exact⟨f3,f1,f4,f5⟩
 ·obtain⟨o,es,ep,ho,r⟩:=hm
  exact⟨o,es,ep,k _ o (fun z=>(hf _ z).2.1 rfl) ho,r⟩
 ·refine(I.hok b u e).stay (fun c v hc q=>k c v ?_ q) (fun _ q=>q) fun _ _ q=>q
  rcases hc with z | z
  ·rw[z];exact TR b u e
  ·exact TR c _ z
theorem Inv.handed {t':Nat}{h':Heap}{fp:List Addr}{xs:List V}{its:List Value}(I:Inv X pins σ H s) (hf:∀b∈fp,lR X pins H b) (hlt:∀b∈fp,b < s.heap.objs.size) (k:∀b o,b∉fp->s.heap.get? b=some o->h'.get? b=some o)
  (ht:h'.get? s.heap.objs.size=some {cls:=.type "tuple",data:=.seq its.toArray}) (hv:Vals xs its) (hz:xs.length<=sizeLine):Inv X pins σ (upd H s.heap.objs.size (.tup xs)) {s with heap:=h',toks:=t'}:=by
 have I1:Inv X pins σ (upd H s.heap.objs.size (.tup xs)) {s with heap:=s.heap.push {cls:=.type "tuple",data:=.seq its.toArray},toks:=t'}:=
  I.laid (fun _ _ q=>Heap.get?_push_of_some _ q) (Nat.le_refl _) ⟨hz,its,hv,IsTup.new s.heap _⟩
 refine Inv.vC (s:={s with heap:=s.heap.push {cls:=.type "tuple",data:=.seq its.toArray},toks:=t'}) (t':=t') (fp:=fp) I1 (fun b o hb e=>?_) fun b hb=>?_
 ·rcases Heap.get?_push_cases (show(s.heap.push {cls:=.type "tuple",data:=.seq its.toArray}).get? b=some o from e) with⟨z1,z2⟩ | z
  ·rw[z1,z2];exact ht
  ·exact k b o hb z
 ·obtain⟨f0,f1,f2,f3,f4,f5⟩:=hf b hb
  exact⟨by rw[aX (Nat.ne_of_lt (hlt b hb))];exact f0,f1,f2,f3,f4,f5⟩
end
noncomputable def Ite (K:PySem.W.Frag) (k:Bool) (a:Addr):It:=
 ⟨fun i H=>∃xs x,zf K H k a xs/\xs[i]? =some x,fun i H x H'=>∃p y,H p=none/\x= .ref p/\H'=upd H p (.tup [.int i,y])/\∀xs,zf K H k a xs->xs[i]? =some y,fun i H=>∃xs,zf K H k a xs/\xs.length<=i⟩
theorem FQ {P : Program} {w : World} {K : PySem.W.Frag} {elts : List Expr} {j : Nat} {pos : Pos} (k : Bool) (a it e : Addr) (hai : a ≠ it) (hae : e ≠ a) (hei : e ≠ it) : Turn P w K (.Tuple elts j pos) (Ite K k a) [e, it] e (fun i h => (∃ old, IsEnum h e it (i : Int) old) /\ lV k h it a i) where
  mem:=by simp
  obj := fun i h ⟨⟨old, he⟩, st⟩ b hb => by
    rcases List.mem_cons.mp hb with z | z
    . subst z;exact⟨_,he,fun v z=>by cases z⟩
    . have z:b=it:=by simpa using z
      subst z
      exact st.obj
  keep:=fun i h h' ⟨⟨old,he⟩,st⟩ g=>⟨⟨old,g e (by simp) _ he⟩,st.at fun o q=>g it (by simp) o q⟩
  item:=by
    intro X hP hw hK hc i pins s σ H E I hf st hg
    subst hP hw hK
    obtain⟨xs,x,hq,hx⟩:=hg
    obtain⟨its,rv,p,hz⟩:=I.C7 hq
    obtain⟨u,hu,ru⟩:=rv.get hx
    obtain⟨⟨old,he⟩,hit⟩:=st
    have hsz:i < its.toArray.size:=by rw[List.size_toArray];exact(List.getElem?_eq_some_iff.mp hu).1
    refine wpAny_pyNext_enum_itemD (Qz (k:=k) (A:=X.A.in1) (I.ok.hd hc) it a hai its.toArray) he ⟨hit,p⟩ hsz hei (by simp[hae,hei]) fun y h' tk hy ho hs' hT hzz hk=>?_
    obtain⟨QA,p'⟩:=hs'
    have ey:y=u:=by
      have h1:its.toArray[i]? =some u:=by simpa using hu
      rw[h1] at hy;exact(Option.some.inj hy).symm
    subst ey
    refine⟨_,rfl,wpAny_letOwnedTupleGo_enum ho fun h2 he2 hs2=>?_⟩
    have hs2:Heap.SameBut e h' h2:=hs2
    have elt:e < s.heap.objs.size:=Heap.lt_size he
    obtain⟨oi,hoi,_⟩:=hit.obj
    have ilt:it < s.heap.objs.size:=Heap.lt_size hoi
    have U6:∀b∈[e,it],b < s.heap.objs.size:=fun b hb=>by
      rcases List.mem_cons.mp hb with z | z
      . rw[z];exact elt
      . rw[show b=it by simpa using z];exact ilt
    have I2:Inv X pins σ (upd H s.heap.objs.size (.tup [.int i,x])) {s with heap:=h2,toks:=tk+1}:=
      I.handed (its:=[.int i tk,y]) hf U6 (fun b o hb q=>(hs2.2 b fun z=>hb (by simp[z])).trans (hk b o (fun z=>hb (by simp[z])) (fun z=>hb (by simp[z])) q))
        ((hs2.2 _ (Nat.ne_of_gt elt)).trans hT) (.cons ⟨tk,rfl⟩ (.cons ru .nil)) (show 2<=sizeLine by decide)
    refine⟨.ref s.heap.objs.size,_,I2,rfl,⟨_,x,I.fresh,rfl,rfl,fun ys hy2=>by rw[I.Ai hy2 hq];exact hx⟩,⟨⟨y,by simpa using he2⟩,QA.at fun o q=>(hs2.2 _ (Ne.symm hei)).trans q⟩,fun b hb=>?_⟩
    rw[aX (Nat.ne_of_lt (U6 b hb))]
    exact(hf b hb).1
  done:=by
    intro X hP hw hK hc i pins s σ H E I hf st hg
    subst hP hw hK
    obtain⟨xs,hq,hx⟩:=hg
    obtain⟨its,rv,p,hz⟩:=I.C7 hq
    obtain⟨⟨old,he⟩,hit⟩:=st
    have hl:=rv.length
    refine wpAny_pyNext_enum_endD (n:=i) (QB (k:=k) (A:=X.A.in1) (I.ok.hd hc) it a its.toArray i (by simp;omega)) he ⟨hit,p,rfl⟩ fun h' hx=>?_
    exact⟨rfl,I.vC (t':=s.toks) (fun b o hb q=>hx b o (fun z=>hb (by simp[z])) q) hf⟩
  self:=fun _ _ _ _ _ st h=>by
    obtain⟨⟨old,he⟩,_⟩:=st
    exact wpAny_pyIter_enum he h
noncomputable abbrev TupAt (h:Heap) (T:Addr) (vals:Array Value):Prop:=h.get? T=some {cls:=.type "tuple",data:=.seq vals}
section
variable {prog:Program}{w:World}{A:Around}{E:Value->Shared->Prop}{s:Shared}
theorem FT {T:Addr}{vals:Array Value}{x:Value}{k:Nat}{Q:Unit->Shared->Prop}(hT:TupAt s.heap T vals) (hz:vals.size<=sizeLine) (h:∀h',TupAt h' T (vals.setIfInBounds k x)->Heap.SameBut T s.heap h'->Q () {s with heap:=h'}):
  wpAny (model prog w) A (updateSeq T (·.setIfInBounds k x)) Q E s:=by
 refine wpAny_updateSeq hT rfl (h _ ?_ (Heap.SameBut.update ..)) hz (by simp only[Array.size_setIfInBounds];omega);rw[TupAt,Heap.get?_update_self _ hT rfl];simp[Obj.mapSeq]
structure Aj (N:Nat) (k0 k1:Bool) (l0 l1:Nat) (i:Nat) (f0:Value) (h:Heap):Prop where
 z:IsZip h (N+4) (N+2) (N+3) f0
 ti:TupAt h (N+2) #[.ref N,.ref (N+1)]
 to:∃v:List Value,v.length=2/\TupAt h (N+3) v.toArray
 c0:lV k0 h N l0 i
 c1:lV k1 h (N+1) l1 i
noncomputable def iM (N:Nat):List Addr:=[(N+4),(N+2),(N+3),N,(N+1)]
theorem aM {N b:Nat}:b∈iM N↔N<=b/\b<=N+4:=by
 unfold iM
 simp only[List.mem_cons,List.not_mem_nil,or_false]
 omega
theorem Jo {N i:Nat}{k0 k1:Bool}{l0 l1:Nat}{v0 v1:Array Value}{x0 x1:Value}{Q:Option Value->Shared->Prop}(st:Aj N k0 k1 l0 l1 i .none s.heap)
  (Ey:nP k0 s.heap l0 v0) (xU:v0[i]? =some x0) (C8:l0 < N)
  (CI:nP k1 s.heap l1 v1) (Ak:v1[i]? =some x1) (C9:l1 < N)
  (q:∀h',Aj N k0 k1 l0 l1 (i+1) (rawInt s.heap.objs.size) h'->TupAt h' s.heap.objs.size #[x0,x1]->(∀(b:Nat) o,b∉iM N->s.heap.get? b=some o->h'.get? b=some o)->Q (some (.ref s.heap.objs.size)) {s with heap:=h'}):
  wpAny (model prog w) A (pyNext (.ref (N+4))) Q E s:=by
 obtain⟨hz,hTI,⟨w0,hw0,hTO⟩,d0,d1⟩:=st
 obtain⟨a0,a1,rfl⟩:∃a0 a1,w0=[a0,a1]:=by
  match w0,hw0 with
  | [a0,a1],_=>exact⟨_,_,rfl⟩
 have hT:s.TypeIs (.ref (N+4)) "zip":=⟨_,hz,rfl⟩
 unfold pyNext
 refine wpAny_bind (wpAny_attempt (wpAny_callSpecial?_slot (name:=Str.ofString "__next__") hT F.slot_zip_next (wpAny_call_entry F.slot_zip_next hT F.entry_zip_next ?_ (F.args_zip_next_1 _))))
 show wpAny _ _ (field (.ref (N+4)) 2 >>= _) _ _ _;refine wpAny_bind (wpAny_field hz rfl (x:=.bool false) rfl ?_)
 show wpAny _ _ (field (.ref (N+4)) 3 >>= _) _ _ _;refine wpAny_bind (wpAny_field hz rfl (x:=.ref (N+2)) rfl ?_)
 refine wpAny_bind (wpAny_seqItems hTI rfl ?_);show wpAny _ _ (Builtin.SmallTypes.ownedTupleIsFree (.ref (N+4)) >>= _) _ _ _
 refine wpAny_bind ?_;unfold Builtin.SmallTypes.ownedTupleIsFree;refine wpAny_bind (wpAny_field hz rfl (x:=.none) rfl (wpAny_pure ?_))
 simp only[if_true];refine wpAny_bind (wpAny_rule ?_);refine wpAny_bind (wpAny_field hz rfl (x:=.ref (N+3)) rfl ?_)
 refine wpAny_bind (wpAny_setField_rec hz (by simp) fun g0 z0 e0=>?_)
 have z0:IsZip g0 (N+4) (N+2) (N+3) .ellipsis:=z0
 have e0:Heap.SameBut (N+4) s.heap g0:=e0
 refine wpAny_bind ?_;simp only[List.zipIdx_cons,List.zipIdx_nil,List.forIn_cons,List.forIn_nil]
 have t0:TupAt g0 (N+3) #[a0,a1]:=(e0.2 _ (by first | omega | (show @Ne Nat _ _;omega))).trans hTO
 have m0:∀(b:Nat) o,b∉iM N->s.heap.get? b=some o->g0.get? b=some o:=fun b o hb y=>(e0.2 b fun z=>hb (aM.mpr (by have z:@Eq Nat b _:=z;omega))).trans y
 have MD:lV k0 g0 N l0 i:=d0.at fun o y=>(e0.2 _ (by first | omega | (show @Ne Nat _ _;omega))).trans y
 have Dc:lV k1 g0 (N+1) l1 i:=d1.at fun o y=>(e0.2 _ (by first | omega | (show @Ne Nat _ _;omega))).trans y
 refine wpAny_bind (wpAny_bind (wpAny_onRaise ?_));show wpAny _ _ (Builtin.SmallTypes.nextOf (.ref N) >>= _) _ _ _
 refine wpAny_bind (nextK MD (Ey.at fun o y=>m0 _ o (fun z=>by have:=aM.mp z;omega) y) xU fun g1 c0 e1=>wpAny_pure ?_)
 have e1:Heap.SameBut N g0 g1:=e1
 have t1:TupAt g1 (N+3) #[a0,a1]:=(e1.2 _ (by first | omega | (show @Ne Nat _ _;omega))).trans t0
 refine wpAny_bind (wpAny_seqItems t1 rfl ?_);refine wpAny_bind (FT t1 (show 2<=sizeLine by decide) fun g2 t2 e2=>?_)
 have t2:TupAt g2 (N+3) #[x0,a1]:=t2
 have e2:Heap.SameBut (N+3) g1 g2:=e2
 have z1:IsZip g2 (N+4) (N+2) (N+3) .ellipsis:=(e2.2 _ (by first | omega | (show @Ne Nat _ _;omega))).trans ((e1.2 _ (by first | omega | (show @Ne Nat _ _;omega))).trans z0)
 have m2:∀(b:Nat) o,b∉iM N->s.heap.get? b=some o->g2.get? b=some o:=fun b o hb y=>(e2.2 b fun z=>hb (aM.mpr (by have z:@Eq Nat b _:=z;omega))).trans ((e1.2 b fun z=>hb (aM.mpr (by have z:@Eq Nat b _:=z;omega))).trans (m0 b o hb y))
 refine wpAny_bind (wpAny_letGo (wpAny_pure ?_))
 have c0:lV k0 g2 N l0 (i+1):=c0.at fun o y=>(e2.2 _ (by first | omega | (show @Ne Nat _ _;omega))).trans y
 have Dc:lV k1 g2 (N+1) l1 i:=Dc.at fun o y=>(e2.2 _ (by first | omega | (show @Ne Nat _ _;omega))).trans ((e1.2 _ (by first | omega | (show @Ne Nat _ _;omega))).trans y)
 have i0:g2.get? (N+2)=s.heap.get? (N+2):=by rw[e2.2 _ (by first | omega | (show @Ne Nat _ _;omega)),e1.2 _ (by first | omega | (show @Ne Nat _ _;omega)),e0.2 _ (by first | omega | (show @Ne Nat _ _;omega))]
 have s0:g2.objs.size=s.heap.objs.size:=by rw[e2.1,e1.1,e0.1]
 refine wpAny_bind (wpAny_bind (wpAny_onRaise ?_));show wpAny _ _ (Builtin.SmallTypes.nextOf (.ref (N+1)) >>= _) _ _ _
 refine wpAny_bind (nextK Dc (CI.at fun o y=>m2 _ o (fun z=>by have:=aM.mp z;omega) y) Ak fun g3 c1 e3=>wpAny_pure ?_)
 have e3:Heap.SameBut (N+1) g2 g3:=e3
 have t3:TupAt g3 (N+3) #[x0,a1]:=(e3.2 _ (by first | omega | (show @Ne Nat _ _;omega))).trans t2
 refine wpAny_bind (wpAny_seqItems t3 rfl ?_);refine wpAny_bind (FT t3 (show 2<=sizeLine by decide) fun g4 t4 e4=>?_)
 have t4:TupAt g4 (N+3) #[x0,x1]:=t4
 have e4:Heap.SameBut (N+3) g3 g4:=e4
 have z2:IsZip g4 (N+4) (N+2) (N+3) .ellipsis:=(e4.2 _ (by first | omega | (show @Ne Nat _ _;omega))).trans ((e3.2 _ (by first | omega | (show @Ne Nat _ _;omega))).trans z1)
 have m4:∀(b:Nat) o,b∉iM N->s.heap.get? b=some o->g4.get? b=some o:=fun b o hb y=>(e4.2 b fun z=>hb (aM.mpr (by have z:@Eq Nat b _:=z;omega))).trans ((e3.2 b fun z=>hb (aM.mpr (by have z:@Eq Nat b _:=z;omega))).trans (m2 b o hb y))
 refine wpAny_bind (wpAny_letGo (wpAny_pure (wpAny_pure ?_)))
 have c0:lV k0 g4 N l0 (i+1):=c0.at fun o y=>(e4.2 _ (by first | omega | (show @Ne Nat _ _;omega))).trans ((e3.2 _ (by first | omega | (show @Ne Nat _ _;omega))).trans y)
 have c1:lV k1 g4 (N+1) l1 (i+1):=c1.at fun o y=>(e4.2 _ (by first | omega | (show @Ne Nat _ _;omega))).trans y
 have i1:g4.get? (N+2)=s.heap.get? (N+2):=by rw[e4.2 _ (by first | omega | (show @Ne Nat _ _;omega)),e3.2 _ (by first | omega | (show @Ne Nat _ _;omega)),i0]
 have s1:g4.objs.size=s.heap.objs.size:=by rw[e4.1,e3.1,s0]
 refine wpAny_bind (wpAny_seqItems t4 rfl ?_);refine wpAny_bind (wpAny_newTuple ?_)
 have QC:(N+4) < g4.objs.size:=Heap.lt_size z2
 show wpAny _ _ (Builtin.SmallTypes.ownedTupleHandOut (.ref (N+4)) (.ref g4.objs.size) >>= _) _ _ _;refine wpAny_bind ?_;unfold Builtin.SmallTypes.ownedTupleHandOut
 have y0:IsZip (g4.push {cls:=.type "tuple",data:=.seq #[x0,x1]}) (N+4) (N+2) (N+3) .ellipsis:=Heap.get?_push_of_some _ z2
 refine wpAny_bind (wpAny_setField_rec y0 (by simp) fun f1 y1 r1=>?_)
 have y1:IsZip f1 (N+4) (N+2) (N+3) (rawInt g4.objs.size):=y1
 refine wpAny_setField_rec y1 (by simp) fun f2 y2 r2=>?_
 have y2:IsZip f2 (N+4) (N+2) (N+3) (rawInt g4.objs.size):=y2
 have up:∀b o,b≠(N+4)->g4.get? b=some o->f2.get? b=some o:=fun b o hb y=>r2.extBut _ _ hb (r1.extBut _ _ hb (Heap.get?_push_of_some _ y))
 have tt:TupAt f2 g4.objs.size #[x0,x1]:=r2.extBut _ _ (Nat.ne_of_gt QC) (r1.extBut _ _ (Nat.ne_of_gt QC) (Heap.get?_push_size _ rfl))
 rw[s1] at y2 tt
 refine wpAny_pure ⟨_,rfl,wpAny_pure ?_⟩
 rw[s1]
 exact q f2 ⟨y2,up _ _ (by first | omega | (show @Ne Nat _ _;omega)) (i1.trans hTI),⟨[x0,x1],rfl,up _ _ (by first | omega | (show @Ne Nat _ _;omega)) t4⟩,c0.at fun o y=>up _ o (by first | omega | (show @Ne Nat _ _;omega)) y,c1.at fun o y=>up _ o (by first | omega | (show @Ne Nat _ _;omega)) y⟩ tt fun b o hb y=>up b o (fun z=>hb (aM.mpr (by have z:@Eq Nat b _:=z;omega))) (m4 b o hb y)
theorem ME {N i:Nat}{k0 k1:Bool}{l0 l1:Nat}{v0 v1:Array Value}{Q:Option Value->Shared->Prop}(hn:A.handled=none) (st:Aj N k0 k1 l0 l1 i .none s.heap)
  (Ey:nP k0 s.heap l0 v0) (C8:l0 < N)
  (CI:nP k1 s.heap l1 v1) (C9:l1 < N)
  (hend:v0[i]? =none\/v1[i]? =none)
  (q:∀h',(∀(b:Nat) o,b∉iM N->s.heap.get? b=some o->h'.get? b=some o)->Q none {s with heap:=h'}):
  wpAny (model prog w) A (pyNext (.ref (N+4))) Q E s:=by
 obtain⟨hz,hTI,⟨w0,hw0,hTO⟩,d0,d1⟩:=st
 obtain⟨a0,a1,rfl⟩:∃a0 a1,w0=[a0,a1]:=by
  match w0,hw0 with
  | [a0,a1],_=>exact⟨_,_,rfl⟩
 have hT:s.TypeIs (.ref (N+4)) "zip":=⟨_,hz,rfl⟩
 unfold pyNext
 refine wpAny_bind (wpAny_attempt (wpAny_callSpecial?_slot (name:=Str.ofString "__next__") hT F.slot_zip_next (wpAny_call_entry F.slot_zip_next hT F.entry_zip_next ?_ (F.args_zip_next_1 _))))
 show wpAny _ _ (field (.ref (N+4)) 2 >>= _) _ _ _;refine wpAny_bind (wpAny_field hz rfl (x:=.bool false) rfl ?_)
 show wpAny _ _ (field (.ref (N+4)) 3 >>= _) _ _ _;refine wpAny_bind (wpAny_field hz rfl (x:=.ref (N+2)) rfl ?_)
 refine wpAny_bind (wpAny_seqItems hTI rfl ?_);show wpAny _ _ (Builtin.SmallTypes.ownedTupleIsFree (.ref (N+4)) >>= _) _ _ _
 refine wpAny_bind ?_;unfold Builtin.SmallTypes.ownedTupleIsFree;refine wpAny_bind (wpAny_field hz rfl (x:=.none) rfl (wpAny_pure ?_))
 simp only[if_true];refine wpAny_bind (wpAny_rule ?_);refine wpAny_bind (wpAny_field hz rfl (x:=.ref (N+3)) rfl ?_)
 refine wpAny_bind (wpAny_setField_rec hz (by simp) fun g0 z0 e0=>?_)
 have z0:IsZip g0 (N+4) (N+2) (N+3) .ellipsis:=z0
 have e0:Heap.SameBut (N+4) s.heap g0:=e0
 refine wpAny_bind ?_;simp only[List.zipIdx_cons,List.zipIdx_nil,List.forIn_cons,List.forIn_nil]
 have t0:TupAt g0 (N+3) #[a0,a1]:=(e0.2 _ (by first | omega | (show @Ne Nat _ _;omega))).trans hTO
 have m0:∀(b:Nat) o,b∉iM N->s.heap.get? b=some o->g0.get? b=some o:=fun b o hb y=>(e0.2 b fun z=>hb (aM.mpr (by have z:@Eq Nat b _:=z;omega))).trans y
 have MD:lV k0 g0 N l0 i:=d0.at fun o y=>(e0.2 _ (by first | omega | (show @Ne Nat _ _;omega))).trans y
 have Dc:lV k1 g0 (N+1) l1 i:=d1.at fun o y=>(e0.2 _ (by first | omega | (show @Ne Nat _ _;omega))).trans y
 refine wpAny_bind (wpAny_bind (wpAny_onRaise ?_));show wpAny _ _ (Builtin.SmallTypes.nextOf (.ref N) >>= _) _ _ _
 have yj:nP k0 g0 l0 v0:=Ey.at fun o y=>m0 _ o (fun z=>by have:=aM.mp z;omega) y
 cases xU:v0[i]? with
 | none=>
  refine wpAny_bind (BB hn MD yj xU fun u1 e r1 he=>?_)
  have r1:Heap.ExtBut N g0 u1:=r1
  obtain⟨oe,Al,hce⟩:=he
  have y1:IsZip u1 (N+4) (N+2) (N+3) .ellipsis:=r1 _ _ (by first | omega | (show @Ne Nat _ _;omega)) z0
  have QD:e≠(N+4):=fun x=>by subst x;rw[y1] at Al;cases Al;simp at hce
  refine wpAny_setField_rec y1 (by simp) fun u2 _ r2=>?_
  have r2:Heap.SameBut (N+4) u1 u2:=r2
  refine wpAny_bind (wpAny_isInstance (T:="StopIteration") (b:=true) ⟨oe,r2.extBut _ _ QD Al,hce⟩ isSubtype_stop (wpAny_pure (q _ fun b o hb y=>r2.extBut _ _ (fun z=>hb (aM.mpr (by have z:@Eq Nat b _:=z;omega))) (r1 _ _ (fun z=>hb (aM.mpr (by have z:@Eq Nat b _:=z;omega))) (m0 b o hb y)))))
 | some x0=>
  refine wpAny_bind (nextK MD yj xU fun g1 c0 e1=>wpAny_pure ?_)
  have e1:Heap.SameBut N g0 g1:=e1
  have t1:TupAt g1 (N+3) #[a0,a1]:=(e1.2 _ (by first | omega | (show @Ne Nat _ _;omega))).trans t0
  refine wpAny_bind (wpAny_seqItems t1 rfl ?_);refine wpAny_bind (FT t1 (show 2<=sizeLine by decide) fun g2 t2 e2=>?_)
  have t2:TupAt g2 (N+3) #[x0,a1]:=t2
  have e2:Heap.SameBut (N+3) g1 g2:=e2
  have z1:IsZip g2 (N+4) (N+2) (N+3) .ellipsis:=(e2.2 _ (by first | omega | (show @Ne Nat _ _;omega))).trans ((e1.2 _ (by first | omega | (show @Ne Nat _ _;omega))).trans z0)
  have m2:∀(b:Nat) o,b∉iM N->s.heap.get? b=some o->g2.get? b=some o:=fun b o hb y=>(e2.2 b fun z=>hb (aM.mpr (by have z:@Eq Nat b _:=z;omega))).trans ((e1.2 b fun z=>hb (aM.mpr (by have z:@Eq Nat b _:=z;omega))).trans (m0 b o hb y))
  refine wpAny_bind (wpAny_letGo (wpAny_pure ?_))
  have Dc:lV k1 g2 (N+1) l1 i:=Dc.at fun o y=>(e2.2 _ (by first | omega | (show @Ne Nat _ _;omega))).trans ((e1.2 _ (by first | omega | (show @Ne Nat _ _;omega))).trans y)
  refine wpAny_bind (wpAny_bind (wpAny_onRaise ?_));show wpAny _ _ (Builtin.SmallTypes.nextOf (.ref (N+1)) >>= _) _ _ _
  have Am:nP k1 g2 l1 v1:=CI.at fun o y=>m2 _ o (fun z=>by have:=aM.mp z;omega) y
  cases Ak:v1[i]? with
  | none=>
   refine wpAny_bind (BB hn Dc Am Ak fun u1 e r1 he=>?_)
   have r1:Heap.ExtBut (N+1) g2 u1:=r1
   obtain⟨oe,Al,hce⟩:=he
   have y1:IsZip u1 (N+4) (N+2) (N+3) .ellipsis:=r1 _ _ (by first | omega | (show @Ne Nat _ _;omega)) z1
   have QD:e≠(N+4):=fun x=>by subst x;rw[y1] at Al;cases Al;simp at hce
   refine wpAny_setField_rec y1 (by simp) fun u2 _ r2=>?_
   have r2:Heap.SameBut (N+4) u1 u2:=r2
   refine wpAny_bind (wpAny_isInstance (T:="StopIteration") (b:=true) ⟨oe,r2.extBut _ _ QD Al,hce⟩ isSubtype_stop (wpAny_pure (q _ fun b o hb y=>r2.extBut _ _ (fun z=>hb (aM.mpr (by have z:@Eq Nat b _:=z;omega))) (r1 _ _ (fun z=>hb (aM.mpr (by have z:@Eq Nat b _:=z;omega))) (m2 b o hb y)))))
  | some x1=>
    exact absurd hend (by simp only[xU,Ak];rintro(h | h) <;> cases h)
end
noncomputable abbrev Ez (h:Heap) (k0 k1:Bool) (l0 l1:Nat):Heap:=((h.push (Hs k0 l0)).push (Hs k1 l1))
noncomputable abbrev EA (h:Heap) (k0 k1:Bool) (l0 l1:Nat):Heap:=(Ez h k0 k1 l0 l1).push {cls:=.type "tuple",data:=.seq #[.ref h.objs.size,.ref (h.push (Hs k0 l0)).objs.size]}
noncomputable abbrev EB (h:Heap) (k0 k1:Bool) (l0 l1:Nat):Heap:=(EA h k0 k1 l0 l1).push {cls:=.type "tuple",data:=.seq #[.none,.none]}
noncomputable abbrev zg (h:Heap) (k0 k1:Bool) (l0 l1:Nat):Heap:=(EB h k0 k1 l0 l1).push {cls:=.type "zip",data:=.fields #[.none,.bool false,.bool false,.ref (Ez h k0 k1 l0 l1).objs.size,.ref (EA h k0 k1 l0 l1).objs.size]}
theorem MF (k0 k1:Bool) (l0 l1:Nat) (v0 v1:Array Value):Meets (Builtin.«zip.__new__» ⟨[.type "zip",.ref l0,.ref l1],[]⟩) (fun _ R s=>nP k0 s.heap l0 v0/\nP k1 s.heap l1 v1/\R (.ok (.ret (.ref (EB s.heap k0 k1 l0 l1).objs.size))) {s with heap:=zg s.heap k0 k1 l0 l1}):=
 .of_wp fun prog w A R s h=>by
  obtain⟨hp,g,d,tk,os⟩:=s;obtain⟨q0,q1,h⟩:=h
  have hsub:=sub_zip
  have p0:nP k0 (Shared.heap ⟨hp,g,d,tk,os⟩) l0 v0:=q0.at fun o e=>e
  have p1:nP k1 (Shared.heap ⟨(hp.push (Hs k0 l0)),g,d,tk,os⟩) l1 v1:=q1.at fun o e=>Heap.get?_push_of_some _ (e)
  wp_walk using ON p0,ON p1
  exact⟨_,rfl,h⟩
theorem BC {prog:Program}{w:World}{A:Around}{E:Value->Shared->Prop}{s:Shared}{k0 k1:Bool}{l0 l1:Nat}{v0 v1:Array Value}{Q:Value->Shared->Prop}(q0:nP k0 s.heap l0 v0) (q1:nP k1 s.heap l1 v1)
  (h:∀h',Aj s.heap.objs.size k0 k1 l0 l1 0 .none h'->(∀c o,s.heap.get? c=some o->h'.get? c=some o)->Q (.ref (s.heap.objs.size+4)) {s with heap:=h'}):wpAny (model prog w) A (call (.type "zip") [.ref l0,.ref l1]) Q E s:=by
 refine callType_new F.called_zip (by decide) (F.typeCall_zip_2 _ _) (F.newCall_zip_2 _ _) (fun obj=>F.args_object_init_3 obj _ _) F.entry_zip_new (MF k0 k1 l0 l1 v0 v1) ⟨q0,q1,?_⟩
 have e0:(Ez s.heap k0 k1 l0 l1).objs.size=s.heap.objs.size+2:=by simp only[Heap.size_push]
 have e1:(EA s.heap k0 k1 l0 l1).objs.size=s.heap.objs.size+3:=by rw[Heap.size_push,e0]
 have e2:(EB s.heap k0 k1 l0 l1).objs.size=s.heap.objs.size+4:=by rw[Heap.size_push,e1]
 have g2:(zg s.heap k0 k1 l0 l1).get? (EB s.heap k0 k1 l0 l1).objs.size=some _:=Heap.get?_push_size _ rfl
 have g1:(zg s.heap k0 k1 l0 l1).get? (EA s.heap k0 k1 l0 l1).objs.size=some _:=Heap.get?_push_of_some _ (Heap.get?_push_size _ rfl)
 have g0:(zg s.heap k0 k1 l0 l1).get? (Ez s.heap k0 k1 l0 l1).objs.size=some _:=Heap.get?_push_of_some _ (Heap.get?_push_of_some _ (Heap.get?_push_size _ rfl))
 rw[e2,e0,e1] at g2
 rw[e1] at g1
 rw[e0] at g0
 simp only[Heap.size_push] at g0
 show _/\_
 rw[e2]
 refine⟨⟨_,g2,rfl⟩,h _ ⟨g2,g0,⟨[.none,.none],rfl,g1⟩,?_,?_⟩ fun c o x=>Heap.get?_push_of_some _ (Heap.get?_push_of_some _ (Heap.get?_push_of_some _ (Heap.get?_push_of_some _ (Heap.get?_push_of_some _ (x)))))⟩
 ·have:=(lV.new k0 (s.heap) l0).at (h':=zg s.heap k0 k1 l0 l1) fun o e=>Heap.get?_push_of_some _ (Heap.get?_push_of_some _ (Heap.get?_push_of_some _ (Heap.get?_push_of_some _ (e))))
  simpa only[Heap.size_push] using this
 ·have:=(lV.new k1 ((s.heap).push (Hs k0 l0)) l1).at (h':=zg s.heap k0 k1 l0 l1) fun o e=>Heap.get?_push_of_some _ (Heap.get?_push_of_some _ (Heap.get?_push_of_some _ (e)))
  simpa only[Heap.size_push] using this
noncomputable def U7 (K:PySem.W.Frag) (k0 k1:Bool) (l0 l1:Nat):It:=
  ⟨fun i H=>∃a0 x0 a1 x1,(zf K H k0 l0 a0/\a0[i]? =some x0)/\(zf K H k1 l1 a1/\a1[i]? =some x1),
   fun i H x H'=>∃p y0 y1,H p=none/\x= .ref p/\H'=upd H p (.tup [y0,y1])/\(∀xs,zf K H k0 l0 xs->xs[i]? =some y0)/\(∀xs,zf K H k1 l1 xs->xs[i]? =some y1),
   fun i H=>∃a0 a1,zf K H k0 l0 a0/\zf K H k1 l1 a1/\(a0.length<=i\/a1.length<=i)⟩
theorem QE {prog:Program}{w:World}{A:Around}{E:Value->Shared->Prop}{s:Shared}{elts:List Expr}{j:Nat}{pos:Pos}{N i:Nat}{k0 k1:Bool}{l0 l1:Nat}{T:Nat}{Q:Unit->Shared->Prop}(st:Aj N k0 k1 l0 l1 i (rawInt T) s.heap)
  (q:∀h',Aj N k0 k1 l0 l1 i .none h'->Heap.SameBut (N+4) s.heap h'->Q () {s with heap:=h'}):wpAny (model prog w) A (letOwnedTupleGo (.Tuple elts j pos) (.ref (N+4)) (.ref T)) Q E s:=by
 obtain⟨hz,hTI,⟨w0,hw0,hTO⟩,d0,d1⟩:=st
 refine wpAny_letOwnedTupleGo_zip hz fun h' hz' hs'=>q h' ⟨hz',hs'.extBut _ _ (by first | omega | (show @Ne Nat _ _;omega)) hTI,⟨w0,hw0,hs'.extBut _ _ (by first | omega | (show @Ne Nat _ _;omega)) hTO⟩,d0.at fun o e=>hs'.extBut _ _ (by first | omega | (show @Ne Nat _ _;omega)) e,d1.at fun o e=>hs'.extBut _ _ (by first | omega | (show @Ne Nat _ _;omega)) e⟩ hs'
theorem FU {P:Program}{w:World}{K:PySem.W.Frag}{elts:List Expr}{j:Nat}{pos:Pos}(k0 k1:Bool) (l0 l1:Nat) (N:Nat) (C8:l0 < N) (C9:l1 < N):Turn P w K (.Tuple elts j pos) (U7 K k0 k1 l0 l1) (iM N) (N+4) (fun i h=>Aj N k0 k1 l0 l1 i .none h) where
 mem:=by rw[aM];omega
 obj:=fun i h ⟨hz,hTI,⟨w0,hw0,hTO⟩,d0,d1⟩ b hb=>by
  unfold iM at hb
  simp only[List.mem_cons,List.not_mem_nil,or_false] at hb
  rcases hb with rfl | rfl | rfl | rfl | rfl
  ·exact⟨_,hz,fun v z=>by cases z⟩
  ·exact⟨_,hTI,fun v z=>by cases z⟩
  ·exact⟨_,hTO,fun v z=>by cases z⟩
  ·exact d0.obj
  ·exact d1.obj
 keep:=fun i h h' ⟨hz,hTI,⟨w0,hw0,hTO⟩,d0,d1⟩ g=>⟨g _ (by rw[aM];omega) _ hz,g _ (by rw[aM];omega) _ hTI,⟨w0,hw0,g _ (by rw[aM];omega) _ hTO⟩,d0.at fun o q=>g _ (by rw[aM];omega) o q,d1.at fun o q=>g _ (by rw[aM];omega) o q⟩
 item:=by
  intro X hP hw hK hc i pins s σ H E I hf st hg
  subst hP hw hK
  obtain⟨a0,x0,a1,x1,⟨b0,xU⟩,⟨b1,Ak⟩⟩:=hg
  obtain⟨Jp,MG,p0,hz0⟩:=I.C7 b0
  obtain⟨u0,ZC,ZD⟩:=MG.get xU
  obtain⟨Jq,MH,p1,hz1⟩:=I.C7 b1
  obtain⟨u1,hu1,ZE⟩:=MH.get Ak
  have slt:∀b∈iM N,b < s.heap.objs.size:=fun b hb=>by have h1:=aM.mp hb;have h2:@LT.lt Nat _ (N+4) s.heap.objs.size:=Heap.lt_size st.z;show @LT.lt Nat _ b s.heap.objs.size;omega
  refine Jo st p0 (by simpa using ZC) C8 p1 (by simpa using hu1) C9 fun h' st' hT hk=>?_
  refine⟨_,rfl,QE st' fun h2 st2 hs2=>?_⟩
  have hs2:Heap.SameBut (N+4) h' h2:=hs2
  have QC:=slt (N+4) (aM.mpr (by first | omega | (show @Ne Nat _ _;omega)))
  have I2:Inv X pins σ (upd H s.heap.objs.size (.tup [x0,x1])) {s with heap:=h2,toks:=s.toks}:=
   I.handed (its:=[u0,u1]) hf slt (fun b o hb q=>(hs2.2 b fun z=>hb (aM.mpr (by have z:@Eq Nat b _:=z;omega))).trans (hk b o hb q)) ((hs2.2 _ (Nat.ne_of_gt QC)).trans hT) (.cons ZD (.cons ZE (.nil))) (show 2<=sizeLine by decide)
  refine⟨.ref s.heap.objs.size,_,I2,rfl,⟨_,x0,x1,I.fresh,rfl,rfl,fun ys hy=>by rw[I.Ai hy b0];exact xU,fun ys hy=>by rw[I.Ai hy b1];exact Ak⟩,st2,fun b hb=>?_⟩
  rw[aX (Nat.ne_of_lt (slt b hb))]
  exact(hf b hb).1
 done:=by
  intro X hP hw hK hc i pins s σ H E I hf st hg
  subst hP hw hK
  obtain⟨a0,a1,b0,b1,hend⟩:=hg
  obtain⟨Jp,MG,p0,hz0⟩:=I.C7 b0
  have Xb:=MG.length
  obtain⟨Jq,MH,p1,hz1⟩:=I.C7 b1
  have hl1:=MH.length
  refine ME (I.ok.hd hc) st p0 C8 p1 C9 ?_ fun h' hk=>⟨rfl,I.vC (t':=s.toks) hk hf⟩
  simp only[List.getElem?_toArray,List.getElem?_eq_none_iff]
  omega
 self:=fun _ _ _ _ _ st h=>wpAny_pyIter_zip st.z h
section
variable {X:Cx}{a b c e:Expr}{body elts:List Expr}{pos p tpos:Pos}{jt:Nat}
theorem nP.lt {k:Bool}{h:Heap}{a:Addr}{its:Array Value}(x:nP k h a its):a < h.objs.size:=by
 cases k <;> exact let⟨o,ho,_⟩:=x;Heap.lt_size ho
noncomputable def U8 (K:PySem.W.Frag) (ta:TA):TI:=fun σ H R=>ta σ H fun vs H1=>∃k a xs,vs=[.ref a]/\zf K H1 k a xs/\R (Ite K k a) H1
theorem MI {ta:TA}(hg:Gl X "enumerate") (hm:X.mg "enumerate" =none) (ha:PA X [a] ta) (hs:starEach [a] X.env=[(false,eval a X.env)]:=by rfl):PI X (.Tuple elts jt tpos) (.Call (.Name "enumerate" p) [a] [] pos) (U8 X.K ta):=by
 intro pins s σ H R I h
 refine Call_ (kU I hg hm boot_enumerate (PyProof.Rows.callWith_type1 (fJ (ha pos pins s σ H _ I h) fun us s1 ⟨vs,H1,I1,r1,q1⟩=>?_) hs rfl))
 obtain⟨k,a,xs,rfl,hq,q⟩:=q1
 cases r1 with
 | cons r rr=>
  cases rr
  cases r
  obtain⟨its,rv,p,hz⟩:=I1.C7 hq
  refine C6 p fun h' he hit hk=>wpAny_pyIter_enum he ?_
  have lt:=p.lt
  refine⟨s1.heap.objs.size+1,[s1.heap.objs.size+1,s1.heap.objs.size],_,_,H1,rfl,I1.kept (t':=s1.toks) hk,FQ k a s1.heap.objs.size (s1.heap.objs.size+1) (Nat.ne_of_lt lt) (Nat.ne_of_gt (Nat.lt_succ_of_lt lt)) (Nat.succ_ne_self _),⟨⟨.none,he⟩,hit⟩,fun b hb=>?_,q⟩
  have hb:s1.heap.objs.size<=b:=by
   rcases List.mem_cons.mp hb with z | z
   ·rw[z];exact Nat.le_succ _
   ·rw[show b=s1.heap.objs.size by simpa using z];exact Nat.le_refl _
  exact I1.xY hb (I1.hok.fresh hb)
noncomputable def U9 (K:PySem.W.Frag) (ta:TA):TI:=fun σ H R=>ta σ H fun vs H1=>∃k0 k1 a0 a1 sZ tu,vs=[.ref a0,.ref a1]/\zf K H1 k0 a0 sZ/\zf K H1 k1 a1 tu/\R (U7 K k0 k1 a0 a1) H1
theorem MJ {ta:TA}(hg:Gl X "zip") (hm:X.mg "zip" =none) (ha:PA X [a,b] ta) (hs:starEach [a,b] X.env=[(false,eval a X.env),(false,eval b X.env)]:=by rfl) (hs2:starEach [b] X.env=[(false,eval b X.env)]:=by rfl):
  PI X (.Tuple elts jt tpos) (.Call (.Name "zip" p) [a,b] [] pos) (U9 X.K ta):=by
 intro pins s σ H R I h
 refine Call_ (kU I hg hm boot_zip (PyProof.Rows.callWith_type1 (fJ (ha pos pins s σ H _ I h) fun us s1 ⟨vs,H1,I1,r1,q1⟩=>?_) (by rw[hs,hs2]) (by rw[hs2];rfl)))
 obtain⟨k0,k1,a0,a1,sZ,tu,rfl,h0,h1,q⟩:=q1
 obtain⟨u0,u1,rfl,e0,e1⟩:=r1.two
 cases e0
 cases e1
 obtain⟨Jp,MG,p0,hz0⟩:=I1.C7 h0
 obtain⟨Jq,MH,p1,hz1⟩:=I1.C7 h1
 refine BC p0 p1 fun h' st hk=>wpAny_pyIter_zip st.z ?_
 refine⟨_,iM s1.heap.objs.size,_,_,H1,rfl,I1.kept (t':=s1.toks) hk,FU k0 k1 a0 a1 s1.heap.objs.size p0.lt p1.lt,st,fun b hb=>?_,q⟩
 have hb:s1.heap.objs.size<=b:=(aM.mp hb).1
 exact I1.xY hb (I1.hok.fresh hb)
noncomputable def WalkN (J:It) (F:Hp) (ds:List D):Prop:=∀F' H',(∀b o,F b=some o->F' b=some o)->Sub F' H'->∀i,(∀d,ds[i]? =some d->J.go i H'/\∀x H2,J.SO i H' x H2->∃F2,iI F' H' F2 H2/\Sub F2 H2/\Rep F2 x d)/\(ds.length<=i->J.stop i H')
noncomputable def Va (K:PySem.W.Frag) (B:Base) (gi:GI):TI:=fun σ H R=>∃S F ds S',Rel K B S σ F H/\gi S=some (ds,S')/\∀J F' H',Rel K B S' σ F' H'->Step S S' σ F H F' H'->WalkN J F' ds->R J H'
structure Xc (X:Cx) (tg e:Expr) (gi:GI):Prop where
 h:∀B,PI X tg e (Va X.K B gi)
noncomputable def oF:D->Option (Bool×List D)
 | .lst ds=>some (true,ds)
 | .tup ds=>some (false,ds)
 | _=>none
theorem Sub.BD {K:PySem.W.Frag}{F H:Hp}{v:V}{d:D}{k:Bool}{ds:List D}(sb:Sub F H) (r:Rep F v d) (e:oF d=some (k,ds)):
  ∃a vs,v= .ref a/\bS F vs ds/\∀F' H',(∀b o,F b=some o->F' b=some o)->Sub F' H'->zf K H' k a vs:=by
 cases d <;> try (cases e;done)
 ·cases e
  obtain⟨a,vs,rfl,fa,ha,rs⟩:=sb.kr r
  exact⟨a,vs,rfl,rs,fun F' H' le sb'=>.inl (Rd.of (sb' a _ (le _ _ fa)))⟩
 ·cases e
  obtain⟨a,vs,rfl,fa,ha,rs⟩:=sb.jY r
  exact⟨a,vs,rfl,rs,fun F' H' le sb'=>.inl (Rd.of (sb' a _ (le _ _ fa)))⟩
noncomputable def qp (ds:List D):List D:=ds.mapIdx fun i d=>.tup [.int i,d]
noncomputable def Jr (gA:GA):GI:=fun S=>(gA S).bind fun p=>match p.1 with
 | [d]=>(oF d).map fun q=>(qp q.2,p.2)
 | _=>none
theorem MK {gA:GA}(hg:Gl X "enumerate") (hm:X.mg "enumerate" =none) (ha:JA X [a] gA) (hs:starEach [a] X.env=[(false,eval a X.env)]:=by rfl):Xc X (.Tuple elts jt tpos) (.Call (.Name "enumerate" p) [a] [] pos) (Jr gA):=
 ⟨fun B=>PI.orelse fun σ H R0 ⟨S,F,ds,S',R,hg',k⟩=>by
 obtain⟨⟨args,S1⟩,h1,hg'⟩:=ak hg'
 refine⟨_,MI hg hm (ha.h B) hs,S,F,args,S1,R,h1,fun vs F1 H1 R1 st1 r1=>?_⟩
 dsimp only at hg'
 split at hg'
 ·obtain⟨⟨kk,es⟩,h2,hg'⟩:=aC hg'
  cases hg'
  cases r1 with
  | cons r rr=>
   cases rr
   obtain⟨a,ws,rfl,rs,sq⟩:=R1.sub.BD (K:=X.K) r h2
   refine⟨kk,a,ws,rfl,sq F1 H1 (fun _ _ z=>z) R1.sub,k _ F1 H1 R1 st1 fun F' H' le sb i=>⟨fun d hd=>?_,fun hl=>⟨ws,sq F' H' le sb,by rw[rs.length];simpa[qp] using hl⟩⟩⟩
   unfold qp at hd
   rw[List.getElem?_mapIdx] at hd
   obtain⟨d0,hd0,rfl⟩:=aC hd
   obtain⟨v,k1,k2⟩:=rs.get hd0
   refine⟨⟨ws,v,sq F' H' le sb,k1⟩,fun x H2 y=>?_⟩
   obtain⟨p,y,hp,rfl,rfl,hy⟩:=y
   have ey:=hy ws (sq F' H' le sb)
   rw[k1] at ey
   cases ey
   exact⟨_,iI.root sb hp _,sb.tK hp,.tup bh (.cons (.int _) (.cons (k2.le fun b o z=>lZ (sb.fresh hp) b o (le b o z)) .nil))⟩
 ·cases hg'⟩
noncomputable def zh (gA:GA):GI:=fun S=>(gA S).bind fun p=>match p.1 with
 | [d,e]=>(oF d).bind fun q=>(oF e).map fun r=>(List.zipWith (fun a b=>.tup [a,b]) q.2 r.2,p.2)
 | _=>none
theorem EC {gA : GA} (hg : Gl X "zip") (hm : X.mg "zip" = none) (ha : JA X [a, b] gA) (hs : starEach [a, b] X.env = [(false, eval a X.env), (false, eval b X.env)] := by rfl) (hs2 : starEach [b] X.env = [(false, eval b X.env)] := by rfl) :
    Xc X (.Tuple elts jt tpos) (.Call (.Name "zip" p) [a,b] [] pos) (zh gA):=
  ⟨fun B=>PI.orelse fun σ H R0 ⟨S,F,ds,S',R,hg',k⟩=>by
  obtain⟨⟨args,S1⟩,h1,hg'⟩:=ak hg'
  refine⟨_,MJ hg hm (ha.h B) hs hs2,S,F,args,S1,R,h1,fun vs F1 H1 R1 st1 r1=>?_⟩
  dsimp only at hg'
  split at hg'
  . obtain⟨⟨k0,es0⟩,h2,hg'⟩:=ak hg'
    obtain⟨⟨k1,es1⟩,h3,hg'⟩:=aC hg'
    cases hg'
    cases r1 with
    | cons r rr=>
      cases rr with
      | cons r' rr=>
        cases rr
        obtain⟨a0,Xd,rfl,rs0,Ey⟩:=R1.sub.BD (K:=X.K) r h2
        obtain⟨a1,FW,rfl,rE,CI⟩:=R1.sub.BD (K:=X.K) r' h3
        refine⟨k0,k1,a0,a1,Xd,FW,rfl,Ey F1 H1 (fun _ _ z=>z) R1.sub,CI F1 H1 (fun _ _ z=>z) R1.sub,k _ F1 H1 R1 st1 fun F' H' le sb i=>⟨fun d hd=>?_,fun hl=>⟨Xd,FW,Ey F' H' le sb,CI F' H' le sb,?_⟩⟩⟩
        . rw[List.getElem?_zipWith] at hd
          cases q0:es0[i]? with
          | none=>rw[q0] at hd;cases hd
          | some d0=>
            cases q1:es1[i]? with
            | none=>rw[q0,q1] at hd;cases hd
            | some d1=>
              rw[q0,q1] at hd
              cases hd
              obtain⟨v0,m0,n0⟩:=rs0.get q0
              obtain⟨v1,m1,n1⟩:=rE.get q1
              refine⟨⟨Xd,v0,FW,v1,⟨Ey F' H' le sb,m0⟩,CI F' H' le sb,m1⟩,fun x H2 y=>?_⟩
              obtain⟨p,y0,y1,hp,rfl,rfl,hy0,hy1⟩:=y
              have e0:=hy0 Xd (Ey F' H' le sb)
              have e1:=hy1 FW (CI F' H' le sb)
              rw[m0] at e0
              rw[m1] at e1
              cases e0
              cases e1
              have le2:=fun b o z=>lZ (o:=.tup [v0,v1]) (sb.fresh hp) b o (le b o z)
              exact⟨_,iI.root sb hp _,sb.tK hp,.tup bh (.cons (n0.le le2) (.cons (n1.le le2) .nil))⟩
        . rw[List.length_zipWith,<-rs0.length,<-rE.length] at hl
          omega
  . cases hg'⟩
theorem ML {tg iter:Expr}{stmts:List Stmt}{s1:GS}{bd:GB}{gi:GI}(hp:PassesOwn (model X.prog X.w) X.A X.env X.xe) (hc:X.calm=true) (hi:Xc X tg iter gi) (hg:JG X tg bd) (hb:JB X stmts s1) (hs:∀x,foldedSetIterable iter X.env x=pure x:=by intro _;rfl):
  JS X (.For tg iter stmts [] pos) (qd bd gi s1):=⟨fun B=>(HM hp hc (hi.h B) (hg.h B) (hb.h B) hs).imp fun D σ H ⟨S,F,o,R,h,k⟩=>by
 obtain⟨⟨ds,S1⟩,h1,h⟩:=ak h
 refine⟨S,F,ds,S1,R,h1,fun J F1 H1 R1 st1 w=>?_⟩
 refine⟨fun i m σ' H'=>∃S' F',Rel X.K B S' σ' F' H'/\(∀b o,F1 b=some o->F' b=some o)/\i<=ds.length/\m=ds.length - i/\loop bd s1 (ds.drop i) S'=some o,⟨_,S1,F1,R1,fun _ _ z=>z,Nat.zero_le _,rfl,h⟩,?_⟩
 rintro i m σ' H' ⟨S',F',R',le,hl,rfl,dP⟩
 have w':=w F' H' le R'.sub i
 by_cases hlt:i < ds.length
 ·have hd:ds[i]? =some ds[i]:=List.getElem?_eq_getElem hlt
  obtain⟨go,yl⟩:=w'.1 _ hd
  rw[List.drop_eq_getElem_cons hlt] at dP
  obtain⟨S2,e2,dP⟩:=ak dP
  obtain⟨o2,e3,dP⟩:=ak dP
  refine .inr ⟨go,_,fun σ2 H2 n=>⟨ds.length - (i+1),by omega,n⟩,fun x H2 y=>?_⟩
  obtain⟨F2,nw,sb2,rx⟩:=yl x H2 y
  have R2:=R'.new nw sb2
  have le:∀b o,F1 b=some o->F2 b=some o:=fun b o z=>nw.le b o (le b o z)
  refine⟨S',F2,_,S2,R2,rx,e2,fun σ3 R3=>⟨S2,F2,o2,R3,e3,?_⟩⟩
  cases o2 with
  | nx S3=>exact fun IZ F4 H4 R4 C0=>⟨S3,F4,R4,fun b o z=>C0 b o (le b o z),hlt,rfl,dP⟩
  | ct S3=>exact fun IZ F4 H4 R4 C0=>⟨S3,F4,R4,fun b o z=>C0 b o (le b o z),hlt,rfl,dP⟩
  | bk S3=>cases dP;exact fun IZ F4 H4 R4 C0=>k IZ F4 H4 R4 fun b o z=>C0 b o (le b o (st1.ext.le b o z))
  | rt u S3=>cases dP;exact fun v IZ F4 H4 R4 C0=>k v IZ F4 H4 R4 fun b o z=>C0 b o (le b o (st1.ext.le b o z))
 ·have e:i=ds.length:=by omega
  subst e
  rw[List.drop_length] at dP
  cases dP
  exact .inl ⟨w'.2 (Nat.le_refl _),k σ' F' H' R' fun b o z=>le b o (st1.ext.le b o z)⟩⟩
end
section
variable {X:Cx}{a b c e:Expr}{x y:Str}{p px py pos pos' tpos:Pos}{f:List D->Option U}{gb:GD}
end
noncomputable def Js:GE:=fun S=>some (.m (.cS []),S)
noncomputable def BE:GE:=fun S=>some (.m (.dct []),S)
section
variable {X:Cx}{a b c e k:Expr}{x y:Str}{p px py pos pos' tpos apos cpos:Pos}{gk:GD}
theorem MM:JE X (.Dict [] [] pos) Js:=⟨fun B=>HY.imp fun σ H Q ⟨S,F,u,S',R,hg,q⟩=>by
 cases hg
 intro p hp
 have n:=iI.obj (F:=F) hp (.dT [])
 have hn:¬dQ S σ p:=fun m=>by obtain⟨o,ho⟩:=R.has m;rw[hp] at ho;cases ho
 exact q (.ref p) F _ (R.new n (R.sub.same n.same)) n.step ⟨p,rfl,hp,R.sub.fresh hp,⟨[],bh,.nil⟩,hn,none_of R.ext.there hp⟩⟩
theorem ED:JE X (.Dict [] [] pos) BE:=⟨fun B=>HX.imp fun σ H Q ⟨S,F,u,S',R,hg,q⟩=>by
 cases hg
 intro p hp
 have n:=iI.obj (F:=F) hp (.dK [])
 have hn:¬dQ S σ p:=fun m=>by obtain⟨o,ho⟩:=R.has m;rw[hp] at ho;cases ho
 exact q (.ref p) F _ (R.new n (R.sub.same n.same)) n.step ⟨p,rfl,hp,R.sub.fresh hp,⟨[],bh,.nil⟩,hn,none_of R.ext.there hp⟩⟩
noncomputable def Jt:U->D->Option Bool
 | .m (.dct kvs),k=>(keyOf k).map fun kk=>(bX kvs kk).isSome
 | .b (.dct kvs),k=>(keyOf k).map fun kk=>(bX kvs kk).isSome
 | .m (.cS kvs),k=>(rR k).map fun kk=>(bX kvs kk).isSome
 | .b (.cS kvs),k=>(rR k).map fun kk=>(bX kvs kk).isSome
 | _,_=>none
noncomputable def FY (n:Bool) (i:Nat) (g:GD):GD:=fun S=>(g S).bind fun p=>match p.2[i]? with
 | some (some u)=>(Jt u p.1).map fun h=>(.bl (n != h),p.2)
 | _=>none
theorem rT {κ:Type} [DecidableEq κ] {F:Hp}{ws:List (κ×V)}{kvs:List (κ×D)}(pr:Paired (iT F) ws kvs) (k:κ):(p7 ws k).isSome=(bX kvs k).isSome:=by
 cases e:bX kvs k with
 | none=>rw[tW pr e];rfl
 | some d=>obtain⟨v,h,_⟩:=mR pr e;rw[h];rfl
theorem MN {K:PySem.W.Frag}{F H:Hp}{v w:V}{u:U}{d:D}{h:Bool}(sb:Sub F H) (r:v8 K F H v u) (rk:Rep F w d) (e:Jt u d=some h):∃a o,v= .ref a/\kC H a w o/\o.isSome=h:=by
 unfold Jt at e
 split at e
 ·obtain⟨kk,e1,rfl⟩:=aC e
  obtain⟨a,rfl,fa,ws,ha,pr⟩:=r
  rw[kO rk e1]
  exact⟨a,_,rfl,kC.k ha,rT pr kk⟩
 ·obtain⟨kk,e1,rfl⟩:=aC e
  obtain⟨a,rfl,fa,ws,ha,pr⟩:=r
  rw[kO rk e1]
  exact⟨a,_,rfl,kC.k ha,rT pr kk⟩
 ·obtain⟨kk,e1,rfl⟩:=aC e
  obtain⟨a,rfl,fa,ws,ha,pr⟩:=r
  obtain⟨b,rfl,hb⟩:=mS sb rk e1
  exact⟨a,_,rfl,kC.t ha hb,rT pr kk⟩
 ·obtain⟨kk,e1,rfl⟩:=aC e
  obtain⟨a,rfl,fa,ws,ha,pr⟩:=r
  obtain⟨b,rfl,hb⟩:=mS sb rk e1
  exact⟨a,_,rfl,kC.t ha hb,rT pr kk⟩
 ·cases e
theorem MP {B:Base}{n:Bool}{i:Nat}{σ:St}{H:Hp}{Q:VK}(h:tD X.K B (FY n i gk) σ H Q):tD X.K B gk σ H fun y H1=>Ff i σ H1 fun x H2=>∃a o,x= .ref a/\kC H2 a y o/\Q (.bl (n != o.isSome)) H2:=by
 obtain⟨S,F,d,S',R,hg,q⟩:=h
 obtain⟨⟨d1,S1⟩,h1,hg⟩:=ak hg
 dsimp only at hg
 split at hg
 ·rename_i u hS
  obtain⟨h,h2,hg⟩:=aC hg
  cases hg
  refine⟨S,F,d1,_,R,h1,fun v F1 H1 R1 st1 r1=>?_⟩
  obtain⟨v0,hv0,r0⟩:=R1.rep i u hS
  obtain⟨a,o,e1,g1,e2⟩:=MN R1.sub r0 r1 h2
  refine⟨v0,hv0,a,o,e1,g1,?_⟩
  rw[e2]
  exact q (.bl _) F1 H1 R1 st1 (.bl _)
 ·cases hg
end
section
variable {X:Cx}{k v:Expr}{pos:Pos}{tk tv:TE}{gk gv:GD}
theorem FZ {i:Nat}{x:Str}{px:Pos}(hu:X.A.units+20 < cLine) (hk:JD X k gk) (hN:X.N[i]? =some x:=by rfl) (hv:CJ X.env.scope x:=by first | exact Or.inl rfl | exact Or.inr (Or.inl rfl) | exact Or.inr (Or.inr rfl)) (hd:(x == ("__debug__":Str))=false:=by decide) (hcd:(x == ("__classdict__":Str))=false:=by decide)
  (hm:behindInMarks .NotIn (.Name x px)=false:=by with_unfolding_all rfl):JT X (.Compare k [.NotIn] [.Name x px] pos) (qB (FY true i gk)):=⟨fun B=>(HD (Ft hu (hk.h B) (iy hN hv hd hcd)) hm).imp fun σ H Q ⟨S,F,kk,S',R,hg,q⟩=>by
 have h:tD X.K B (FY true i gk) σ H (fun v H'=>∃d,v= .bl d/\Q d H'):=⟨S,F,.bl kk,S',R,lW hg,fun v F' H' R' st r=>⟨kk,mh r,q F' H' R' st⟩⟩
 have h2:=MP h
 simpa[tB,D7] using h2⟩
end
noncomputable def nI (kvs:List (Str×Int)) (z:Str):Option Int:=(kvs.find? fun p=>decide (p.1=z)).map (·.2)
noncomputable def QF:Option Int->Option Value->Prop
 | some i,u=>∃t,u=some (.int i t)
 | none,u=>u=none
noncomputable def KTab (P:Program) (w:World) (K:PySem.W.Frag) (a:Addr) (kvs:List (Str×Int)):Prop:=
 (a == sysModules)=false/\∃o es ep,K.lookup a=some o/\o.ExactDict/\o.data= .dict es ep/\KeysOf (eY P w) es/\∀z,QF (nI kvs z) (findBy (eY P w).is es (.inr z))
noncomputable def wL (w:World):List (Str×Int)->List DictEntry->Prop
 | [],[]=>True
 | (z,i) :: r,e :: es=>(e.hash=hashStr w z/\(∃t,e.key= .str z t)/\∃t,e.val= .int i t)/\wL w r es
 | _,_=>False
theorem zj {P:Program}{w:World}:∀{kvs:List (Str×Int)}{es:List DictEntry},wL w kvs es->∀e∈es,∃k,(eY P w).is k e.key=true/\e.hash=(eY P w).hash k
 | [],[],_,e,he=>by cases he
 | (z,i) :: r,e :: es,h,e',he=>by
  obtain⟨⟨h1,⟨t,h2⟩,_⟩,h3⟩:=h
  rcases List.mem_cons.mp he with rfl | q
  ·exact⟨.inr z,by rw[h2];exact nR P w z t,h1⟩
  ·exact zj h3 e' q
 | [],_ :: _,h,_,_=>h.elim
 | _ :: _,[],h,_,_=>h.elim
theorem zm {P:Program}{w:World}(z:Str):∀{kvs:List (Str×Int)}{es:List DictEntry},wL w kvs es->QF (nI kvs z) ((es.find? fun e=>(eY P w).is (.inr z) e.key).map (·.val))
 | [],[],_=>rfl
 | (y,i) :: r,e :: es,h=>by
  obtain⟨⟨h1,⟨t,h2⟩,u,h4⟩,h3⟩:=h
  have k:(eY P w).is (.inr z) e.key=decide ((.inr z:Key)= .inr y):=KeyKind.is_eq_decide (knd:=eY P w) (k:=.inr y) (by rw[h2];exact nR P w y t) (.inr z)
  unfold nI
  by_cases q:y=z
  ·subst q
   rw[List.find?_cons_of_pos (by simp),List.find?_cons_of_pos (by rw[k];simp)]
   exact⟨u,by rw[Option.map_some,h4]⟩
  ·rw[List.find?_cons_of_neg (by simpa using q),List.find?_cons_of_neg (by rw[k];simp only[decide_eq_true_eq,Sum.inr.injEq];exact fun e=>q e.symm)]
   exact zm z h3
 | [],_ :: _,h=>h.elim
 | _ :: _,[],h=>h.elim
theorem MQ {P:Program}{w:World}{K:PySem.W.Frag}{a:Addr}{kvs:List (Str×Int)}{es:List DictEntry}{ep:Nat}(h:K.lookup a=some ⟨.type "dict",none,.dict es.toArray ep,#[]⟩) (hs:(a == sysModules)=false) (he:wL w kvs es):KTab P w K a kvs:=by
 refine⟨hs,_,es.toArray,ep,h,⟨rfl,rfl,rfl⟩,rfl,fun e q=>zj he e (by simpa using q),fun z=>?_⟩
 have:=zm (P:=P) z he
 unfold findBy
 rw[List.find?_toArray]
 exact this
section
variable {X:Cx}{pins:List (Addr×Obj)}{σ:St}{H:Hp}{s:Shared}{a:Addr}{kvs:List (Str×Int)}
theorem KTab.map (I:Inv X pins σ H s) (h:KTab X.prog X.w X.K a kvs):∃f:Key->Option Value,s.heap.MapOf (eY X.prog X.w) a f/\∀z,QF (nI kvs z) (f (.inr z)):=by
 obtain⟨_,o,es,ep,h1,h2,h3,h4,h5⟩:=h
 exact⟨_,⟨o,es,ep,I.CK a o h1,h2,h3,h4,fun _=>rfl⟩,h5⟩
end
noncomputable def MR (kvs:List (Str×Int)) (g:GD):GD:=fun S=>(g S).bind fun p=>match p.1 with
 | .str z=>(nI kvs z).map fun i=>(.int i,p.2)
 | _=>none
section
variable {X:Cx}{e f:Expr}{x:Str}{px pos apos cpos:Pos}{ty tx:TE}{g gd:GD}{a:Addr}{kvs:List (Str×Int)}
theorem QG (hg:Gl X x) (hm:X.mg x=some (.ref a)) (hk:KTab X.prog X.w X.K a kvs) (he:PE X e ty) (hs:L5 e) (hd:(x == ("__debug__":Str))=false):
  PE X (.Subscript (.Name x px) e pos) (fun σ H Q=>ty σ H fun y H1=>∃z i,y= .str z/\nI kvs z=some i/\Q (.int i) H1):=by
 intro pins s σ H Q I h
 refine D6 PySem.F.slot_dict_getitem.lookup hs (fJ (DZ (v:=.ref a) hg hm rfl hd pins s σ H (fun v H1=>v= .ref a/\H1=H) I ⟨rfl,rfl⟩) fun u s1 ⟨x',H1,I1,rx,ex,eH⟩=>?_)
 subst ex eH
 obtain rfl:u=Value.ref a:=rx
 refine fJ (he pins s1 σ _ _ I1 h) fun iv s2 ⟨y,H2,I2,ry,z,i,ey,el,q⟩=>?_
 subst ey
 obtain⟨fm,m1,m2⟩:=hk.map I2
 have r:=m2 z
 rw[el] at r
 obtain⟨t,r⟩:=r
 exact⟨m1.typeIs,wpAny_getItem_of (k:=.inr z) (yX (k:=.inr z) ry) m1 r ⟨.int i,H2,I2.tok _,⟨t,rfl⟩,q⟩⟩
theorem Ju (hg:Gl X x) (hm:X.mg x=some (.ref a)) (hk:KTab X.prog X.w X.K a kvs) (he:JD X e g) (hs:L5 e:=by intro _ _;rfl) (hd:(x == ("__debug__":Str))=false:=by decide):JD X (.Subscript (.Name x px) e pos) (MR kvs g):=
 ⟨fun B=>(QG hg hm hk (he.h B) hs hd).imp fun σ H Q ⟨S,F,d,S',R,hg',q⟩=>by
  obtain⟨⟨d1,S1⟩,h1,hg'⟩:=ak hg'
  cases d1 <;> try (cases hg')
  rename_i z
  obtain⟨i,h2,hg'⟩:=aC hg'
  cases hg'
  exact⟨S,F,.str z,_,R,h1,fun v F1 H1 R1 st1 r1=>by cases r1;exact⟨z,i,rfl,h2,q (.int i) F1 H1 R1 st1 (.int i)⟩⟩⟩
end
noncomputable def Jv (K:PySem.W.Frag) (a:Addr) (zs:List Str):Prop:=∃(o:Obj) (its:List Value) (n:Nat),K.lookup a=some o/\o.cls= .type "tuple"/\o.data= .seq its.toArray n/\its.length<=1000/\Vals (zs.map V.str) its
noncomputable def An:List Str->List Value->Prop
 | [],[]=>True
 | z :: r,v :: vs=>(∃t,v= .str z t)/\An r vs
 | _,_=>False
theorem zo:∀{zs:List Str}{vs:List Value},An zs vs->Vals (zs.map V.str) vs
 | [],[],_=>.nil
 | z :: r,v :: vs,h=>.cons h.1 (zo h.2)
 | [],_ :: _,h=>h.elim
 | _ :: _,[],h=>h.elim
theorem MS {K:PySem.W.Frag}{a:Addr}{zs:List Str}{its:List Value}{n:Nat}{od:Option Addr}{sl:Array (Option Value)}(h:K.lookup a=some ⟨.type "tuple",od,.seq its.toArray n,sl⟩) (hl:its.length<=1000) (hs:An zs its):Jv K a zs:=
 ⟨_,its,n,h,rfl,rfl,hl,zo hs⟩
theorem zp {F:Hp}:∀zs:List Str,bS F (zs.map V.str) (zs.map D.str)
 | []=>.nil
 | z :: zs=>.cons (.str z) (zp zs)
theorem rW:∀zs:List Str,cP (zs.map D.str)=0
 | []=>rfl
 | z :: zs=>by show max (gC (.str z)) (cP (zs.map D.str))=0;rw[rW zs];rfl
noncomputable def MT (n:Bool) (zs:List Str) (g:GD):GD:=fun S=>(g S).map fun p=>(.bl (n != inD p.1 (zs.map D.str)),p.2)
section
variable {X:Cx}{e:Expr}{x:Str}{px pos:Pos}{g:GD}{a:Addr}{zs:List Str}
theorem QH (I:Inv X pins σ H s) (hk:Jv X.K a zs) (hu:X.A.units+64 < cLine){F:Hp}{d:D}{v:V}{u:Value}(sb:Sub F H) (r:Rep F v d) (rv:RelV v u):∃its:List Value,IsTup s.heap a its.toArray/\(∀y∈its,SeqAt.EqAt X.A.in1 s y u (yh F d y))/\its.any (yh F d)=inD d (zs.map D.str):=by
 obtain⟨o,its,n,h1,h2,h3,h4,h5⟩:=hk
 obtain⟨k1,k2⟩:=mQ I sb (A:=X.A.in1) r rv (zp zs) h5 (by rw[rW];show X.A.units+1+0 < cLine;omega)
 exact⟨its,⟨o,I.CK a o h1,h2,n,h3⟩,k1,k2⟩
theorem QI (hu:X.A.units+64 < cLine) (hg:Gl X x) (hm:X.mg x=some (.ref a)) (hk:Jv X.K a zs){B:Base}(he:PE X e (tD X.K B g)) (hd:(x == ("__debug__":Str))=false):
  PC X .In e (.Name x px) (tD X.K B (MT false zs g)):=by
 intro pins s σ H Q I h
 obtain⟨S,F,d,S',R,hg',q⟩:=h
 obtain⟨⟨d1,S1⟩,h1,hg'⟩:=aC hg'
 cases hg'
 refine fJ (he pins s σ H (fun y H1=>∃F',Sub F' H1/\Rep F' y d1/\Q (.bl (false != inD d1 (zs.map D.str))) H1) I ⟨S,F,d1,_,R,h1,fun v F1 H1 R1 st1 r1=>⟨F1,R1.sub,r1,q (.bl _) F1 H1 R1 st1 (.bl _)⟩⟩) fun iv s1 ⟨y,H1,I1,ry,F',sb,r',q'⟩=>?_
 refine fJ (DZ (v:=.ref a) hg hm rfl hd pins s1 σ H1 (fun v H2=>v= .ref a/\H2=H1) I1 ⟨rfl,rfl⟩) fun u s2 ⟨x',H2,I2,rx,ex,eH⟩=>?_
 subst ex eH
 obtain rfl:u=Value.ref a:=rx
 obtain⟨its,p,k1,k2⟩:=QH I2 hk hu sb r' ry
 refine SeqAt.in_tupleAt (yh F' d1) p (fun y hy=>k1 y (by simpa using hy)) ⟨.bl _,_,I2,rfl,?_⟩
 rw[show its.toArray.any (yh F' d1)=its.any (yh F' d1) by simp,k2]
 simpa using q'
theorem Vb {B:Base}{g:GD}{σ:St}{H:Hp}{Q:Bool->Hp->Prop}(h:tQ X.K B (qB g) σ H Q):tB (tD X.K B g) σ H Q:=by
 obtain⟨S,F,kk,S',R,hg',q⟩:=h
 exact⟨S,F,.bl kk,S',R,lW hg',fun v F' H' R' st r=>⟨kk,mh r,q F' H' R' st⟩⟩
theorem QJ (hu:X.A.units+64 < cLine) (hg:Gl X x) (hm:X.mg x=some (.ref a)) (hk:Jv X.K a zs) (he:JD X e g) (hd:(x == ("__debug__":Str))=false:=by decide) (hi:behindInMarks .In (.Name x px)=false:=by with_unfolding_all rfl):JT X (.Compare e [.In] [.Name x px] pos) (qB (MT false zs g)):=
 ⟨fun B=>(HD (QI hu hg hm hk (he.h B) hd) hi).imp fun σ H Q h=>Vb h⟩
end
noncomputable def wM:U->D->Option (Option D)
 | .m (.dct kvs),k=>(keyOf k).map (bX kvs)
 | .b (.dct kvs),k=>(keyOf k).map (bX kvs)
 | .m (.cS kvs),k=>(rR k).map (bX kvs)
 | .b (.cS kvs),k=>(rR k).map (bX kvs)
 | _,_=>none
noncomputable def qq:U->Bool
 | .m (.dct _)=>true
 | .b (.dct _)=>true
 | .m (.cS _)=>true
 | .b (.cS _)=>true
 | _=>false
noncomputable def BF (i:Nat) (gk gd:GD):GD:=fun S=>match S[i]? with
 | some (some u)=>if qq u then(gk S).bind fun p=>(gd p.2).bind fun q=>match q.2[i]? with
  | some (some u2)=>(wM u2 p.1).map fun o=>(o.getD q.1,q.2)
  | _=>none
  else none
 | _=>none
noncomputable def Vc (F:Hp):Option V->Option D->Prop
 | some v,some d=>Rep F v d
 | none,none=>True
 | _,_=>False
theorem rX {κ:Type} [DecidableEq κ] {F:Hp}{ws:List (κ×V)}{kvs:List (κ×D)}(pr:Paired (iT F) ws kvs) (k:κ):Vc F (p7 ws k) (bX kvs k):=by
 cases e:bX kvs k with
 | none=>rw[tW pr e];exact True.intro
 | some d=>obtain⟨v,h,r⟩:=mR pr e;rw[h];exact r
theorem MU {K:PySem.W.Frag}{F H:Hp}{v w:V}{u:U}{d:D}{h:Option D}(sb:Sub F H) (r:v8 K F H v u) (rk:Rep F w d) (e:wM u d=some h):∃a o,v= .ref a/\kC H a w o/\Vc F o h:=by
 unfold wM at e
 split at e
 ·obtain⟨kk,e1,rfl⟩:=aC e
  obtain⟨a,rfl,fa,ws,ha,pr⟩:=r
  rw[kO rk e1]
  exact⟨a,_,rfl,kC.k ha,rX pr kk⟩
 ·obtain⟨kk,e1,rfl⟩:=aC e
  obtain⟨a,rfl,fa,ws,ha,pr⟩:=r
  rw[kO rk e1]
  exact⟨a,_,rfl,kC.k ha,rX pr kk⟩
 ·obtain⟨kk,e1,rfl⟩:=aC e
  obtain⟨a,rfl,fa,ws,ha,pr⟩:=r
  obtain⟨b,rfl,hb⟩:=mS sb rk e1
  exact⟨a,_,rfl,kC.t ha hb,rX pr kk⟩
 ·obtain⟨kk,e1,rfl⟩:=aC e
  obtain⟨a,rfl,fa,ws,ha,pr⟩:=r
  obtain⟨b,rfl,hb⟩:=mS sb rk e1
  exact⟨a,_,rfl,kC.t ha hb,rX pr kk⟩
 ·cases e
theorem Jw {K:PySem.W.Frag}{F H:Hp}{v:V}{u:U}(r:v8 K F H v u) (h:qq u=true):∃a,v= .ref a/\YQ H a:=by
 unfold qq at h
 split at h
 ·obtain⟨a,rfl,fa,ws,ha,pr⟩:=r;exact⟨a,rfl,.inl ⟨ws,.inl ha⟩⟩
 ·obtain⟨a,rfl,fa,ws,ha,pr⟩:=r;exact⟨a,rfl,.inl ⟨ws,.inl ha⟩⟩
 ·obtain⟨a,rfl,fa,ws,ha,pr⟩:=r;exact⟨a,rfl,.inr ⟨ws,.inl ha⟩⟩
 ·obtain⟨a,rfl,fa,ws,ha,pr⟩:=r;exact⟨a,rfl,.inr ⟨ws,.inl ha⟩⟩
 ·cases h
section
variable {X:Cx}{e f:Expr}{x:Str}{px pos apos cpos:Pos}{gk gd:GD}{ge:GE}
theorem MV {i : Nat} (hu : X.A.units + 20 < cLine) (he : JD X e gk) (hf : JD X f gd) (hN : X.N[i]? = some x := by rfl) (hv : CJ X.env.scope x := by first | exact Or.inl rfl | exact Or.inr (Or.inl rfl) | exact Or.inr (Or.inr rfl))
    (hb:attributeBase (.Name x px) "get" X.env (eval (.Name x px) X.env)=eval (.Name x px) X.env:=by rfl)
    (hfew:((backTo cpos (starEach [e,f] X.env)).all (fun x=>!x.1) && (backToKw cpos (keywordEach [] X.env)).all (fun x=>x.1.isSome) && decide (([e,f]:List Expr).length+([]:List Keyword).length+(if([]:List Keyword).isEmpty then 0 else 1) < 30))=true:=by rfl)
    (hline:(apos.endLine == cpos.line)=true:=by rfl) (htr:backTo cpos (starEach [e,f] X.env)=[(false,eval e X.env),(false,eval f X.env)]:=by rfl) (hd:(x == ("__debug__":Str))=false:=by decide) (hcd:(x == ("__classdict__":Str))=false:=by decide):
    JD X (.Call (.Attribute (.Name x px) "get" apos) [e,f] [] cpos) (BF i gk gd):=
  ⟨fun B => (Ia hu (iy hN hv hd hcd) (he.h B) (hf.h B) ⟨hb, hfew, hline, htr⟩).imp fun σ H Q ⟨S, F, d, S', R, hg, q⟩ => by
    unfold BF at hg
    split at hg
    . rename_i u hS
      split at hg
      . rename_i hD
        obtain⟨⟨d1,S1⟩,h1,hg⟩:=ak hg
        obtain⟨⟨d2,S2⟩,h2,hg⟩:=ak hg
        dsimp only at hg
        split at hg
        . rename_i u2 Xe
          obtain⟨o,h3,hg⟩:=aC hg
          cases hg
          obtain⟨v0,hv0,r0⟩:=R.rep i u hS
          obtain⟨a,rfl,ha⟩:=Jw r0 hD
          refine⟨.ref a,hv0,a,rfl,ha,S,F,d1,S1,R,h1,fun v1 F1 H1 R1 st1 r1=>⟨S1,F1,d2,_,R1,h2,fun v2 F2 H2 R2 st2 r2=>?_⟩⟩
          obtain⟨v3,hv3,r3⟩:=R2.rep i u2 Xe
          rw[hv0] at hv3
          cases hv3
          obtain⟨a',ov,e1,g1,rl⟩:=MU R2.sub r3 (r1.le st2.ext.le) h3
          cases e1
          refine⟨ov,g1,q _ F2 H2 R2 (st1.trans st2) ?_⟩
          cases o with
          | none=>cases ov with
            | none=>exact r2
            | some _=>exact(show False from rl).elim
          | some d=>cases ov with
            | none=>exact(show False from rl).elim
            | some v=>exact rl
        . cases hg
      . cases hg
    . cases hg⟩
noncomputable def Vd (i:Nat) (ge:GE):GD:=fun S=>match S[i]? with
 | some (some u)=>if qq u then(ge S).bind fun p=>match p.1 with
  | .m (.dct more)=>Ab p.2 i fun o=>match o with
   | .dct kvs=>if kvs.length+more.length<=100000 then some (.dW,.dct (mq kvs more)) else none
   | _=>none
  | _=>none
  else none
 | _=>none
end
end L2
end
section
namespace HT
open PySem PySem.Spec PyProof.Rows
section
variable {prog:Program}{w:World}{A:Around}{E:Value->Shared->Prop}{s:Shared}
end
end HT
namespace L2
open PySem PySem.Spec PyProof.Rows
section
variable {X:Cx}{e st:Expr}{te ts:TE}{pos p2:Pos}
end
section
variable {X:Cx}
end
end L2
namespace HT
open PySem PySem.Spec PyProof.Rows
section
variable {prog:Program}{w:World}{A:Around}{E:Value->Shared->Prop}{s:Shared}
end
end HT
namespace L2
open PySem PySem.Spec PyProof.Rows
section
variable {X:Cx}{pos:Pos}
end
end L2
end
section
namespace L2
open PySem PySem.Spec PyProof.Rows PySem.Calls
section
variable {prog:Program}{w:World}{A:Around}{E:Value->Shared->Prop}{s:Shared}{a I:Addr}{ep:Nat}{t:SetTable}
end
section
variable {X:Cx}{a:Expr}{pos p p1 p2:Pos}{ga:GD}
end
end L2
end
section
namespace L2
open PySem PySem.Spec PyProof.Rows
section
variable {X:Cx}{x:Str}{p:Pos}{a:Addr}
end
section
variable {X:Cx}{e:Expr}{es:List Expr}{gu:GU}{x:Str}{p pos:Pos}{k n i:Nat}{t:TA}
end
structure oG (X:Cx) (x y0:Str) (cE:List Str) (cap:List Nat) (scope:Scope) (cl:List (Str×Addr)):Prop where
 one:jU X x cE cap scope cl
 Ve:scope.names.lookup y0=some .local
 SW:(x :: y0 :: cE).Nodup
noncomputable def MW (K:PySem.W.Frag) (wi:TI) (cap:List Nat) (tc:TT) (te:TE):TE:=fun σ H Q=>wi σ H fun J H1=>∃W:Nat->Nat->List V->Hp->Prop,(∃m,W 0 m [] H1)/\∀i m ys H,W i m ys H->ys.length < sizeLine/\
  ((J.stop i H/\∀p,H p=none->Q (.ref p) (upd H p (.lst ys)))\/
   (J.go i H/\∀x H',J.SO i H x H'->∃a x1 x2,x= .ref a/\yP K H' a [x1,x2]/\tc (some x1 :: some x2 :: cR cap σ) H' fun b H2=>if b=true then te (some x1 :: some x2 :: cR cap σ) H2 fun y H3=>∃m',m' < m/\W (i+1) m' (ys++[y]) H3 else ∃m',m' < m/\W (i+1) m' ys H2))
theorem Ga {X : Cx} {pins : List (Addr × Obj)} {σ : St} {H : Hp} {s s4 : Shared} {x y0 : Str} {cE : List Str} {cap : List Nat} {scope : Scope} {cl : List (Str × Addr)} {C : Addr} {fp : List Addr} {m' : Str -> Option Value}
    (I:Inv X pins σ H s) (T2:oG X x y0 cE cap scope cl) (hfp:∀b∈fp,lR X pins H b) (hfo:∀b∈fp,∃o,s.heap.get? b=some o)
    (hC:s.heap.objs.size<=C) (hns:s4.heap.Ns C m') (hos:s4.os=s.os) (hg:s4.gens=s.gens)
    (kept:∀b o,s.heap.get? b=some o->s4.heap.get? b=some o):
    Inv (dM X (x :: y0 :: cE) scope cl C s H fp) [] (none :: none :: cR cap σ) H s4:=by
  have T:=T2.one
  have fr:∀b,s.heap.objs.size<=b->H b=none:=fun b hb=>I.hok.fresh hb
  refine⟨⟨I.ok.mod,T.kind,I.ok.glob,I.ok.blt,hC,fun y z c h1 h2=>I.ok.inj y z c (T.cells _ _ h1) (T.cells _ _ h2),fun y hy=>T.has y hy,fun y c h=>(by cases h),I.ok.hd,I.ok.frames,.inl rfl,fun b hb=>⟨?_,fun y c e z=>?_⟩,I.bs,Nat.le_trans I.ok.LD I.sz,fun b o e hb=>?_,fun b hb z=>?_,I.stack,I.zN⟩,
    hos,by rw[hg];exact I.bare,Un.kept kept,⟨m',hns,fun i y v h1 h2 h3=>?_⟩,fun y c h=>?_,fr C hC,fun y c h=>I.nT y c (T.cells _ _ h),fun p hp=>?_,I.hok.kept kept,?_⟩
  . obtain⟨o,e⟩:=hfo b hb
    exact Nat.ne_of_lt (Nat.lt_of_lt_of_le (Heap.lt_size e) hC)
  . exact(hfp b hb).2.2.2.2.1 y c (T.cells _ _ e) z
  . rcases(hfp b hb).2.2.2.1 with z | z
    . exact I.ok.Fd b o e z
    . exact absurd (Nat.lt_of_lt_of_le (Heap.lt_size e) (Nat.le_trans I.ok.LD z)) (Nat.lt_irrefl _)
  . rcases List.mem_cons.mp (I.tF b z) with q | q
    . exact(hfp b hb).2.1 q
    . exact(hfp b hb).2.2.1 q
  . match i,h1,h2 with
    | 0,h1,h2=>cases h2
    | 1,h1,h2=>cases h2
    | j + 2, h1, h2 =>
      have h1:cE[j]? =some y:=by simpa[dM] using h1
      have h2:(cR cap σ)[j]? =some (some v):=by simpa using h2
      obtain⟨i,e1,e2,e3⟩:=T.slot j y h1
      have e4:σ[i]? =some (some v):=by
        unfold cR at h2
        rw[List.getElem?_map,e1] at h2
        have h2:some ((σ[i]?).join)=some (some v):=h2
        have h2:=Option.some.inj h2
        cases q:σ[i]? with
        | none=>rw[q] at h2;cases h2
        | some o=>rw[q] at h2;cases h2;rfl
      obtain⟨m,hn,hl⟩:=I.loc
      obtain⟨u,r,l⟩:=hl i y v e2 e4 e3
      obtain⟨k1,⟨c,hc⟩,k3⟩:=T.vis y (List.mem_of_getElem? h1)
      refine⟨u,r,.inr ⟨k1,c,hc,?_⟩⟩
      rcases l with⟨hk,_⟩ | ⟨hk,c',hc',z⟩
      . exact absurd hk k3
      . rw[T.cells _ _ hc] at hc'
        cases hc'
        obtain⟨o,ho,hd⟩:=z
        exact⟨o,kept _ _ ho,hd⟩
  . obtain⟨v,o,ho,hd⟩:=I.cell y c (T.cells _ _ h)
    exact⟨v,o,kept _ _ ho,hd⟩
  . exact absurd (show p∈([]:List (Addr×Obj)) from hp) (by simp)
  . show(none :: none :: cR cap σ).length=(x :: y0 :: cE).length
    simp[cR,T.len]
noncomputable def tY (P:Program) (w:World) (A:Around) (env:Env) (R:Result->Shared->Prop):Value->Shared->Prop:=notedBy (model P w) A env fun e s'=>R (.error e) s'
theorem Ao {P:Program}{w:World}{A:Around}{R:Result->Shared->Prop}{s:Shared}{elt tg iter:Expr}{ifs:List Expr}{scope:Scope}{pos:Pos}{it acc:Value}{env:Env}(J:Nat->Shared->Prop)
    (turn : ∀ n s, J n s -> wpAny (model P w) A (pyNext it) (fun r s1 => match r with
      | none=>R (.ok .next) s1
      | some v=>wpAny (model P w) A (letOwnedTupleGo tg it v) (fun _ s1=>wpAny (model P w) A (assign tg env v) (fun _ s2=>
          wpAny (model P w) A (forIn ifs true fun c r=>if r=true then do let ok <-isTrue c env (eval c env);pure (ForInStep.yield ok) else pure (ForInStep.yield r)) (fun ok s3=>
            if ok=true then wpAny (model P w) A (eval elt env) (fun x s4=>wpAny (model P w) A (call (.builtin "list.append") [acc,x]) (fun _ s5=>∃m,m < n/\J m s5) (tY P w A env R) s4) (tY P w A env R) s3
            else ∃m,m < n/\J m s3) (tY P w A env R) s2) (tY P w A env R) s1) (tY P w A env R) s1) (tY P w A env R) s)
    (n:Nat) (h:J n s):codeAny (model P w) A (.compLoop (.ListComp elt [⟨tg,iter,ifs,0⟩] scope pos) 0 it acc env) R s:=by
  refine codeAny_loop rfl J (fun n s hJ=>?_) n h
  show wpAny _ A ((compTurn (.ListComp elt [⟨tg,iter,ifs,0⟩] scope pos) 0 it acc env).onRaise (fun x=>do noteFrame x env;theTreesLotGoes x)) _ _ s
  refine wpAny_noted ?_
  rw[compTurn_list]
  refine wpAny_bind (wpAny_standAt (wpAny_bind (wpAny_mono (turn n s hJ) (fun r s1 k1=>?_) fun _ _ z=>z)))
  cases r with
  | none=>exact wpAny_pure k1
  | some v=>
    refine wpAny_bind (wpAny_mono k1 (fun _ s1 k1=>?_) fun _ _ z=>z)
    refine wpAny_bind (wpAny_mono k1 (fun _ s2 k2=>wpAny_bind (wpAny_mono k2 (fun ok s3 k3=>?_) fun _ _ z=>z)) fun _ _ z=>z)
    cases ok with
    | false=>exact wpAny_pure ⟨rfl,k3⟩
    | true=>exact wpAny_bind (wpAny_bind (wpAny_mono k3 (fun x s4 k4=>wpAny_bind (wpAny_mono k4 (fun _ s5 k5=>wpAny_pure (wpAny_pure ⟨rfl,k5⟩)) fun _ _ z=>z)) fun _ _ z=>z))
theorem BG {X:Cx}{elt iter:Expr}{ifs:List Expr}{x y0:Str}{px py pt pos:Pos}{k0:Nat}{scope:Scope}{cl:List (Str×Addr)}{cE:List Str}{cap:List Nat}{wi:TI}{tc:TT}{te:TE}{pins:List (Addr×Obj)}{s:Shared}{σ:St}{H:Hp}{Q:VK}{use:Option (Value->Sem Unit)}{Qf:Value->Shared->Prop}{pos2:Pos}
    (T2:oG X x y0 cE cap scope cl) (hc:X.calm=true) (hi:PI X (.Tuple [.Name x px,.Name y0 py] k0 pt) iter wi)
    (ht:∀C s H fp,LG (dM X (x :: y0 :: cE) scope cl C s H fp) ifs tc) (he:∀C s H fp,PE (dM X (x :: y0 :: cE) scope cl C s H fp) elt te)
    (hs:∀x,foldedSetIterable iter X.env x=pure x) (I:Inv X pins σ H s) (h:MW X.K wi cap tc te σ H Q)
    (hend:∀(D C:Addr) (s7:Shared) (H6:Hp) (ys:List V),Inv X pins σ (upd H6 D (.lst ys)) s7->(∃m,s7.heap.Ns C m)->lR X pins (upd H6 D (.lst ys)) C->Q (.ref D) (upd H6 D (.lst ys))->compPost (model X.prog X.w) X.A X.xe use Qf (.ref D) C (.ok .next) s7):
    wpAny (model X.prog X.w) X.A (comprehension (.ListComp elt [⟨.Tuple [.Name x px,.Name y0 py] k0 pt,iter,ifs,0⟩] scope pos) scope X.env pos2 (newList []) false (eval iter X.env) use) Qf X.xe s:=by
  have T:=T2.one
  refine wpAny_comprehension_free (use:=use) rfl hs T.clos T.kind T.names (fJ (hi pins s σ H _ I h) fun v s1 h1=>fJ h1 fun itv s2 h2=>?_)
  obtain⟨it,fp,tn,J,H2,rfl,I2,yc,st2,f2,W,⟨m0,w0⟩,turn⟩:=h2
  refine wpAny_newObj_type (wpAny_newFunctionEnv T.oh (by intro y hy;simp at hy) (fun h4 zY v5=>?_) T.kind)
  dsimp only at zY v5 ⊢
  generalize P1:s2.heap.push {cls:=.type "list",dict:=none,data:=.seq ([]:List Value).toArray}=H3 at zY v5 ⊢
  have eC:H3.objs.size=s2.heap.objs.size+1:=by rw[<-P1,Heap.size_push]
  generalize eC':H3.objs.size=C at eC zY v5 ⊢
  generalize eD:s2.heap.objs.size=D at eC ⊢
  have Iu:C=D+1:=eC
  have hDC:D≠C:=by rw[Iu];exact Nat.ne_of_lt (Nat.lt_succ_self D)
  have hC:s2.heap.objs.size<=C:=by rw[eD,Iu];exact Nat.le_succ D
  have hD:s2.heap.objs.size<=D:=by rw[eD];exact Nat.le_refl D
  have kept:∀b o,s2.heap.get? b=some o->h4.get? b=some o:=fun b o e=>v5.extBut b o (Nat.ne_of_lt (Nat.lt_of_lt_of_le (Heap.lt_size e) hC)) (Heap.get?_push_of_some _ (P1▸Heap.get?_push_of_some _ e))
  have hacc:h4.get? D=some {cls:=.type "list",data:=.seq ([]:List Value).toArray ([]:List Value).length}:=v5.extBut _ _ hDC (Heap.get?_push_of_some _ (P1▸eD▸Heap.get?_push_size _ rfl))
  have UH:∀b∈fp,∃o,s2.heap.get? b=some o:=fun b hb=>let⟨o,e,_⟩:=yc.obj _ _ st2 b hb;⟨o,e⟩
  have hDf:D∉fp:=fun hb=>by
    obtain⟨o,e⟩:=UH D hb
    exact absurd (Nat.lt_of_lt_of_le (Heap.lt_size e) hD) (Nat.lt_irrefl _)
  have UI:tn 0 h4:=yc.keep _ _ _ st2 fun b _ o e=>kept b o e
  have key : ∀ s5 : Shared, s5 = { s2 with heap := h4, toks := s2.toks + ([] : List (Str × Value)).length } ->
      codeAny (model X.prog X.w) X.A (.compLoop (.ListComp elt [⟨.Tuple [.Name x px,.Name y0 py] k0 pt,iter,ifs,0⟩] scope pos) 0 (.ref it) (.ref D) (compEnvC scope cl C X.env)) (compPost (model X.prog X.w) X.A X.xe use Qf (.ref D) C) s5:=by
    rintro s5 rfl
    have I4:Inv (dM X (x :: y0 :: cE) scope cl C s2 H2 fp) [] (none :: none :: cR cap σ) H2 {s2 with heap:=h4,toks:=s2.toks+([]:List (Str×Value)).length}:=
      Ga (s4:={s2 with heap:=h4,toks:=s2.toks+([]:List (Str×Value)).length}) I2 T2 f2 UH hC zY rfl rfl kept
    generalize hY:dM X (x :: y0 :: cE) scope cl C s2 H2 fp=Y at I4
    have fD:∀{H':Hp},H' D=none->lR Y [] H' D:=fun {H'} hn=>by
      subst hY
      refine⟨hn,hDC,fun z=>(List.mem_cons.mp (I2.tF D z)).elim (fun q=>absurd (Nat.lt_of_lt_of_le (q▸I2.lt) hD) (Nat.lt_irrefl _)) fun q=>I2.O9 hD q,.inr hD,fun y c e z=>?_,fun p hp=>absurd (show p∈([]:List (Addr×Obj)) from hp) (by simp)⟩
      obtain⟨v,q⟩:=I2.cell y c (T.cells _ _ e)
      exact absurd (Nat.lt_of_lt_of_le q.lt (by rw[z];exact hD)) (Nat.lt_irrefl _)
    have fF:∀{H':Hp},(∀b∈fp,H' b=none)->∀b∈fp,lR Y [] H' b:=fun {H'} hn b hb=>by
      have q:=I4.ok.WX b (by subst hY;exact hb)
      exact⟨hn b hb,fun z=>q.1 z,I4.ok.Fe b (by subst hY;exact hb),.inl (by subst hY;exact hb),fun y c e z=>q.2 y c e z,fun p hp=>absurd (show p∈([]:List (Addr×Obj)) from(by subst hY;exact hp)) (by simp)⟩
    have eA:Y.A=X.A:=by subst hY;rfl
    have eP:Y.prog=X.prog:=by subst hY;rfl
    have eW:Y.w=X.w:=by subst hY;rfl
    have eK:Y.K=X.K:=by subst hY;rfl
    have eE:Y.env=compEnvC scope cl C X.env:=by subst hY;rfl
    have eX:Y.xe=fun _ _=>False:=by subst hY;rfl
    have eN:Y.N=x :: y0 :: cE:=by subst hY;rfl
    have OF:Y.calm=true:=by subst hY;exact hc
    have Y5:LG Y ifs tc:=by subst hY;exact ht _ _ _ _
    have Y6:PE Y elt te:=by subst hY;exact he _ _ _ _
    have Y7:PG Y (.Tuple [.Name x px,.Name y0 py] k0 pt) (Ub Y.K 2 (HG (uJ 0) (HG (uJ 1) Ua))):=HH OF (vP (vt (by rw[eN];exact T2.SW) (by rw[eN];rfl) (by rw[eE];exact .inl (lookup_relabel_local T.loc)) (.inr (by rw[eE];exact lookup_relabel_local T.loc))) (vP (vt (by rw[eN];exact T2.SW) (by rw[eN];rfl) (by rw[eE];exact .inl (lookup_relabel_local T2.Ve)) (.inr (by rw[eE];exact lookup_relabel_local T2.Ve))) D0))
    have qD:∀(E':Value->Shared->Prop) (e:Value) (s':Shared),Y.xe e s'->E' e s':=fun E' e s' z=>by rw[eX] at z;exact z.elim
    refine Ao (fun n s'=>∃i ys us H' o o',Inv Y [] (o :: o' :: cR cap σ) H' s'/\tn i s'.heap/\(∀b∈fp,H' b=none)/\H' D=none/\s'.heap.get? D=some {cls:=.type "list",data:=.seq us.toArray us.length}/\Vals ys us/\W i n ys H') ?_ m0
      ⟨0,[],[],H2,none,none,I4,UI,fun b hb=>(f2 b hb).1,I2.hok.fresh hD,hacc,.nil,w0⟩
    rintro n s6 ⟨i,ys,us,H6,o6,Xf,I6,P4,P5,d6,a6,v6,w6⟩
    have Y8:us.length=ys.length:=v6.length.symm
    obtain⟨hz,Iv⟩:=turn i n ys H6 w6
    rcases Iv with⟨stop,qn⟩ | ⟨go,step⟩
    . have q := yc.done Y eP eW eK OF i [] s6 (o6 :: Xf :: cR cap σ) H6 (notedBy (model X.prog X.w) X.A (compEnvC scope cl C X.env) fun e s' => compPost (model X.prog X.w) X.A X.xe use Qf (.ref D) C (.error e) s') I6 (fF P5) P4 stop
      rw[eA] at q
      have P6:=I6.pinned (fp:=[D]) (fun b hb=>by rw[List.mem_singleton.mp hb];exact fD d6) (fun b hb=>by rw[List.mem_singleton.mp hb];exact⟨_,a6,fun v z=>by cases z⟩)
      have q:=yc.done Y eP eW eK OF i _ s6 (o6 :: Xf :: cR cap σ) H6 (notedBy (model X.prog X.w) X.A (compEnvC scope cl C X.env) fun e s'=>compPost (model X.prog X.w) X.A X.xe use Qf (.ref D) C (.error e) s') P6 (fun b hb=>?_) P4 stop
      . rw [eA] at q
        refine fJ q fun r s7 ⟨hr,I7⟩=>?_
        subst hr
        have a7:s7.heap.get? D=_:=(I7.pin (D,{cls:=.type "list",data:=.seq us.toArray us.length}) (List.mem_append_right _ (List.mem_append_right _ (dU (List.mem_singleton.mpr rfl) a6)))).1
        obtain⟨m7,Iw,_⟩:=I7.loc
        rw[eE] at Iw
        have Iz:H6 D=none:=d6
        have Y9:H6 C=none:=by have:=I7.free;rw[eE] at this;exact this
        have P7:nO X.prog X.w H6 s7.heap:=by have q:=I7.hok;rw[eP,eW] at q;exact q
        have new:eL X.prog X.w (upd H6 D (.lst ys)) s7.heap D (.lst ys):=⟨Nat.le_of_lt hz,us,us.length,v6,a7⟩
        have u7:Un (frs X.stack) fp H2 H6 s2.heap s7.heap:=by have:=I7.base;subst hY;exact this
        have Za:∀b o,s2.heap.get? b=some o->b≠D:=fun b o e=>Nat.ne_of_lt (Nat.lt_of_lt_of_le (Heap.lt_size e) hD)
        have u8:Un (frs X.stack) fp H2 (upd H6 D (.lst ys)) s2.heap s7.heap:=
          ⟨u7.keep,u7.slot,fun b o e n hx=>by rw[aX (Za b o e)];exact u7.free b o e n hx,u7.there,
           fun b xs e=>by have z:=u7.tups b xs e;rw[aX (bJ z Iz)];exact z,fun b o u e=>by have z:=u7.vM b o u e;rw[aX (bJ z Iz)];exact z,
           fun b ps e=>by obtain⟨more,z⟩:=u7.xW b ps e;exact⟨more,by rw[aX (bJ z Iz)];exact z⟩⟩
        have Zb:s7.os=s2.os:=by have:=I7.os;subst hY;exact this
        have I9:Inv X pins σ (upd H6 D (.lst ys)) s7:=I2.Ow (ch:=fp) Zb u8 (P7.OE Iz new) I7.bare fun b hb=>⟨(f2 b hb).2.2.2.1,(f2 b hb).2.1,(f2 b hb).2.2.2.2.1,(f2 b hb).2.2.2.2.2⟩
        exact hend D C s7 H6 ys I9 ⟨m7,Iw⟩ (I2.xY hC (by rw[aX (Ne.symm hDC)];exact Y9)) (qn D Iz)
      . obtain⟨f0,f1,P8,f3,f4,f5⟩:=fF P5 b hb
        refine⟨f0,f1,P8,f3,f4,fun p hp z=>?_⟩
        rcases List.mem_append.mp hp with q' | q'
        . exact f5 p (List.mem_append_left _ q') z
        . rcases List.mem_append.mp q' with q' | q'
          . exact absurd q' (by simp)
          . have:=(mF q').1
            rw[List.mem_singleton.mp this] at z
            exact hDf (z▸hb)
    . have P6:=I6.pinned (fp:=[D]) (fun b hb=>by rw[List.mem_singleton.mp hb];exact fD d6) (fun b hb=>by rw[List.mem_singleton.mp hb];exact⟨_,a6,fun v z=>by cases z⟩)
      have UJ:∀{H':Hp},(∀b∈fp,H' b=none)->∀b∈fp,lR Y ([]++lY [D] s6.heap) H' b:=fun {H'} hn b hb=>by
        obtain⟨f0,f1,P8,f3,f4,f5⟩:=fF hn b hb
        refine⟨f0,f1,P8,f3,f4,fun p hp z=>?_⟩
        rcases List.mem_append.mp hp with q' | q'
        . exact f5 p (List.mem_append_left _ q') z
        . rcases List.mem_append.mp q' with q' | q'
          . exact absurd q' (by simp)
          . have:=(mF q').1
            rw[List.mem_singleton.mp this] at z
            exact hDf (z▸hb)
      have q:=yc.item Y eP eW eK OF i _ s6 (o6 :: Xf :: cR cap σ) H6 (notedBy (model X.prog X.w) X.A (compEnvC scope cl C X.env) fun e s'=>compPost (model X.prog X.w) X.A X.xe use Qf (.ref D) C (.error e) s') P6 (UJ P5) P4 go
      rw[eA] at q
      refine fJ q fun r s6' ⟨u,hr,h7⟩=>?_
      subst hr
      refine fJ h7 fun _ s7 ⟨xv,H8,I8,r8,y8,P9,Zc⟩=>?_
      have Zd:=I8.pinned (UJ Zc) (yc.obj _ _ P9)
      obtain⟨a8,x1,x2,e8,sq8,stp⟩:=step xv _ y8
      have qa:=Y7 _ s7 (o6 :: Xf :: cR cap σ) H8 xv u (fun σ' H'=>σ'=some x1 :: some x2 :: cR cap σ/\H'=H8) Zd r8 ⟨a8,[x1,x2],e8,by rw[eK];exact sq8,rfl,x1,[x2],rfl,x2,[],rfl,rfl,rfl,rfl⟩
      rw[eP,eW,eA,eE] at qa
      refine wpAny_mono qa (fun _ s9 h9=>?_) (qD _)
      obtain⟨σ9,H9,I9,e9,Ze⟩:=h9
      subst e9 Ze
      have qt:=Y5 _ s9 _ _ _ I9 stp
      rw[eP,eW,eA,eE] at qt
      refine wpAny_mono qt (fun ok Zf h10=>?_) (qD _)
      obtain⟨Zg,UK,v7⟩:=h10
      have back:∀{s':Shared}{H':Hp},Inv Y (([]++lY [D] s6.heap)++lY fp s7.heap) (some x1 :: some x2 :: cR cap σ) H' s'->Inv Y [] (some x1 :: some x2 :: cR cap σ) H' s'/\tn (i+1) s'.heap/\(∀b∈fp,H' b=none)/\H' D=none/\s'.heap.get? D=some {cls:=.type "list",data:=.seq us.toArray us.length}:=fun {s' H'} J=>by
        refine⟨J.kW.kW,yc.keep _ _ _ P9 fun b hb o e=>(J.pin (b,o) (List.mem_append_right _ (List.mem_append_right _ (dU hb e)))).1,fun b hb=>?_,?_,?_⟩
        . obtain⟨o,e,d⟩:=yc.obj _ _ P9 b hb
          exact(J.pin (b,o) (List.mem_append_right _ (List.mem_append_right _ (dU hb e)))).2.1
        . exact(J.pin (D,_) (List.mem_append_right _ (List.mem_append_left _ (List.mem_append_right _ (dU (List.mem_singleton.mpr rfl) a6))))).2.1
        . exact(J.pin (D,_) (List.mem_append_right _ (List.mem_append_left _ (List.mem_append_right _ (dU (List.mem_singleton.mpr rfl) a6))))).1
      cases ok with
      | false=>
        rw[if_neg (by decide)] at v7 ⊢
        obtain⟨m',hm,Zh⟩:=v7
        obtain⟨b1,b2,b3,b4,b5⟩:=back UK
        exact⟨m',hm,i+1,ys,us,Zg,some x1,some x2,b1,b2,b3,b4,b5,v6,Zh⟩
      | true=>
        rw[if_pos rfl] at v7 ⊢
        have qe:=Y6 _ Zf _ _ _ UK v7
        rw[eP,eW,eA,eE] at qe
        refine wpAny_mono qe (fun y Qa h11=>?_) (qD _)
        obtain⟨yv,UL,Zi,Zj,m',hm,Zk⟩:=h11
        obtain⟨b1,b2,b3,b4,b5⟩:=back Zi
        refine append_at (hsz:=by rw[List.size_toArray,Y8];exact Nat.le_of_lt hz) b5 fun h12 Qc Qd=>?_
        have IA:∀b o,b≠D->Qa.heap.get? b=some o->h12.get? b=some o:=fun b o hb e=>Qc.extBut b o hb e
        obtain⟨g0,g1,g2,g3,g4,g5⟩:=fD b4
        have Zl:Inv Y [] (some x1 :: some x2 :: cR cap σ) UL {Qa with heap:=h12}:=b1.turned (t':=Qa.toks) IA g0 g1 g3 g4 g5
        refine⟨m',hm,i+1,ys++[yv],us++[y],UL,some x1,some x2,Zl,yc.keep _ _ _ b2 fun b hb o e=>IA b o (fun z=>hDf (z▸hb)) e,b3,b4,Qd.trans (congrArg some (Ip us y)),v6.append (.cons Zj .nil),Zk⟩
  exact codeAny_compStart_list (key _ rfl) (yc.self _ 0 _ _ _ UI (key _ rfl))
theorem zq {X:Cx}{elt iter:Expr}{ifs:List Expr}{x y0:Str}{px py pt pos:Pos}{k0:Nat}{scope:Scope}{cl:List (Str×Addr)}{cE:List Str}{cap:List Nat}{wi:TI}{tc:TT}{te:TE}
  (T2:oG X x y0 cE cap scope cl) (hc:X.calm=true) (hi:PI X (.Tuple [.Name x px,.Name y0 py] k0 pt) iter wi)
  (ht:∀C s H fp,LG (dM X (x :: y0 :: cE) scope cl C s H fp) ifs tc) (he:∀C s H fp,PE (dM X (x :: y0 :: cE) scope cl C s H fp) elt te)
  (hs:∀x,foldedSetIterable iter X.env x=pure x:=by intro _;rfl):
  PE X (.ListComp elt [⟨.Tuple [.Name x px,.Name y0 py] k0 pt,iter,ifs,0⟩] scope pos) (MW X.K wi cap tc te):=by
 intro pins s σ H Q I h
 rw[eval_ListComp]
 refine BG T2 hc hi ht he hs I h ?_
 rintro p C s7 H6 ys I9 ⟨m7,Iw⟩ ⟨g0,g1,g2,g3,g4,g5⟩ q
 exact⟨m7,Iw,fun h' hs'=>⟨.ref p,_,I9.turned (t':=s7.toks) (fun b o hb e=>hs'.extBut b o hb e) g0 g1 g3 g4 g5,rfl,q⟩⟩
noncomputable def fy (cap:List Nat) (q:GT) (g:GD):List D->SS->List D->Option (List D×SS)
 | [],S,acc=>some (acc,S)
 | .tup [a,b] :: ds,S,acc=>(eZ S cap).bind fun us=>
  if(slotsOf us).Nodup/\dh us<=1 then(cO S us).bind fun ws=>(q (some (.t a) :: some (.t b) :: ws.map some)).bind fun p=>
   if p.1 then(g p.2).bind fun r=>(aH (.t a :: .t b :: ws) r.2).bind fun outs=>(wb us outs S).bind fun S'=>fy cap q g ds S' (acc++[r.1])
   else(aH (.t a :: .t b :: ws) p.2).bind fun outs=>(wb us outs S).bind fun S'=>fy cap q g ds S' acc
  else none
 | _ :: _,_,_=>none
noncomputable def jE (cap:List Nat) (gi:GI) (q:GT) (g:GD):GE:=fun S=>(gi S).bind fun p=>if p.1.length<=100000 then(fy cap q g p.1 p.2 []).map fun r=>(.m (.lst r.1),r.2) else none
theorem BH {F:Hp}{xs:List V}{a b:D}(r:bS F xs [a,b]):∃x1 x2,xs=[x1,x2]/\Rep F x1 a/\Rep F x2 b:=by
 cases r with
 | cons r1 rr=>cases rr with
  | cons r2 rr2=>cases rr2;exact⟨_,_,rfl,r1,r2⟩
theorem Gb {K : PySem.W.Frag} {B : Base} {cap : List Nat} {gi : GI} {q : GT} {g : GD} {σ : St} {H : Hp} {Q : VK} (h : tE K B (jE cap gi q g) σ H Q) : MW K (Zq K B gi) cap (fun σ H Q => ∃ B, tQ K B q σ H Q) (fun σ H Q => ∃ B, tD K B g σ H Q) σ H Q := by
  obtain⟨x,_⟩:∃x:Str,True:=⟨"",trivial⟩
  obtain⟨S,F,u,S',R,hg,k⟩:=h
  obtain⟨⟨ds,S1⟩,h1,hg⟩:=ak hg
  dsimp only at hg
  split at hg
  . rename_i hlen
    obtain⟨⟨res,Sf⟩,h2,hg⟩:=aC hg
    cases hg
    refine⟨S,F,ds,S1,R,h1,fun J F1 H1 R1 st1 w=>?_⟩
    refine⟨fun i m ys H'=>∃S2 F2 acc,Rel K B S2 σ F2 H'/\Step S S2 σ F H F2 H'/\(∀b o,F1 b=some o->F2 b=some o)/\bS F2 ys acc/\acc.length<=i/\i<=ds.length/\m=ds.length - i/\fy cap q g (ds.drop i) S2 acc=some (res,Sf),
      ⟨_,S1,F1,[],R1,st1,fun _ _ z=>z,.nil,Nat.le_refl _,Nat.zero_le _,rfl,h2⟩,?_⟩
    rintro i m ys H' ⟨S2,F2,acc,R2,st2,le,ry,ha,hl,rfl,dP⟩
    refine⟨by rw[ry.length];exact Nat.lt_of_le_of_lt (Nat.le_trans ha (Nat.le_trans hl hlen)) (by decide),?_⟩
    have w':=w F2 H' le R2.sub i
    by_cases hlt:i < ds.length
    . have hd:ds[i]? =some ds[i]:=List.getElem?_eq_getElem hlt
      obtain⟨go,yl⟩:=w'.1 _ hd
      rw[List.drop_eq_getElem_cons hlt] at dP
      refine .inr ⟨go,fun xv H3 y=>?_⟩
      obtain⟨rfl,rx⟩:=yl xv H3 y
      obtain⟨da,db,ZF⟩:∃da db,ds[i]= .tup [da,db]:=by
        generalize ds[i]=dd at dP
        unfold fy at dP
        split at dP
        . rename_i z;cases z
        . rename_i z;injection z with z1 z2;exact⟨_,_,z1⟩
        . cases dP
      rw[ZF] at dP rx
      obtain⟨pa,xs2,ZG,fpa,hpa,LI⟩:=R2.sub.kr rx
      obtain⟨x1,x2,exs,ZI,ZJ⟩:=BH LI
      subst exs ZG
      obtain⟨us,e1,dP⟩:=ak (show(eZ S2 cap).bind _=_ from dP)
      split at dP
      . rename_i hnd
        obtain⟨ws,e2,dP⟩:=ak dP
        obtain⟨⟨bk,T1⟩,e3,dP⟩:=ak dP
        obtain⟨vs,k1,k2⟩:=Ae R2 e1
        have rr:Paired (fun v u=>kD K B S2 σ H3 F2 H3 v u) (x1 :: x2 :: vs) (.t da :: .t db :: us):=.cons ZI (.cons ZJ k2)
        have er:=ow R2 da (ow R2 db e2)
        have ar:=rK R2 rr er
        have nd:=fL R2 rr er hnd.1 hnd.2
        have R3:=pR (n:=ws.length+2) R2.sub ar nd (List.replicate (ws.length+2) x) (by simp)
        have hvl:vs.length=ws.length:=by have:=ar.length;simpa using this
        have es:start (List.replicate (ws.length+2) x) (x1 :: x2 :: vs)=some x1 :: some x2 :: cR cap σ:=by
          unfold start;rw[k1];simp[hvl]
        have eS:(U.t da :: U.t db :: ws).map some++List.replicate (ws.length+2 - (U.t da :: U.t db :: ws).length) none=some (U.t da) :: some (U.t db) :: ws.map some:=by simp
        rw[es,eS] at R3
        have back:∀(T2:SS) (F3 H4:Hp) (outs:List MO) (S3:SS),Rel K ⟨lent (x1 :: x2 :: vs) (U.t da :: U.t db :: ws),F2,H3⟩ T2 (some x1 :: some x2 :: cR cap σ) F3 H4->aH (U.t da :: U.t db :: ws) T2=some outs->wb us outs S2=some S3->Rel K B S3 σ F3 H4/\Step S S3 σ F H F3 H4/\(∀b o,F2 b=some o->F3 b=some o):=fun T2 F3 H4 outs S3 RT ho hw=>by
          have po:=post_of ar T2 _ F3 H4 outs RT ho
          obtain⟨Ra,wC,_⟩:=lq (S0:=S2) (F0:=F2) (H0:=H3) R2 (Step.refl ..) rr er (show wb (U.t da :: U.t db :: us) outs S2=some S3 by cases outs <;> exact hw) hnd.1 po
          exact⟨Ra,st2.trans wC,wC.ext.le⟩
        refine⟨pa,x1,x2,rfl,.inl hpa,_,_,F2,bk,T1,R3,e3,fun F3 H4 OI UW=>?_⟩
        cases bk with
        | true=>
          obtain⟨⟨yd,T2⟩,e4,dP⟩:=ak (show(g T1).bind _=_ from dP)
          obtain⟨outs,e5,dP⟩:=ak dP
          obtain⟨S3,e6,dP⟩:=ak dP
          refine zX ⟨_,T1,F3,yd,T2,OI,e4,fun yv F4 H5 UX UY UZ=>?_⟩
          obtain⟨Ra,wC,Bt⟩:=back T2 F4 H5 outs S3 UX e5 e6
          refine⟨ds.length - (i+1),by omega,S3,F4,acc++[yd],Ra,wC,fun b o z=>Bt b o (le b o z),(ry.le Bt).append (.cons UZ .nil),by simp;omega,hlt,rfl,dP⟩
        | false=>
          obtain⟨outs,e5,dP⟩:=ak (show(aH (U.t da :: U.t db :: ws) T1).bind _=_ from dP)
          obtain⟨S3,e6,dP⟩:=ak dP
          obtain⟨Ra,wC,Bt⟩:=back T1 F3 H4 outs S3 OI e5 e6
          exact zW ⟨ds.length - (i+1),by omega,S3,F3,acc,Ra,wC,fun b o z=>Bt b o (le b o z),ry.le Bt,by omega,hlt,rfl,dP⟩
      . cases dP
    . have e:i=ds.length:=by omega
      subst e
      rw[List.drop_length] at dP
      cases dP
      refine .inl ⟨w'.2 (Nat.le_refl _),fun p hp=>?_⟩
      have n:=iI.obj (F:=F2) hp (.lst ys)
      refine k (.ref p) F2 _ (R2.new n (R2.sub.same n.same)) (st2.trans n.step) ⟨p,rfl,none_of st2.ext.there hp,R2.sub.fresh hp,⟨ys,bh,ry⟩,fun m=>?_,none_of R2.ext.there hp⟩
      obtain⟨o,ho⟩:=R2.has m
      rw[hp] at ho
      cases ho
  . cases hg
theorem BI {X:Cx}{elt iter:Expr}{ifs:List Expr}{x y0:Str}{px py pt pos:Pos}{k0:Nat}{scope:Scope}{cl:List (Str×Addr)}{cE:List Str}{cap:List Nat}{gi:GI}{q:GT}{g:GD}(T:oG X x y0 cE cap scope cl) (hc:X.calm=true) (hi:JI X (.Tuple [.Name x px,.Name y0 py] k0 pt) iter gi)
  (ht:∀C s H fp,SX (dM X (x :: y0 :: cE) scope cl C s H fp) ifs q) (he:∀C s H fp,JD (dM X (x :: y0 :: cE) scope cl C s H fp) elt g)
  (hs:∀x,foldedSetIterable iter X.env x=pure x:=by intro _;rfl):JE X (.ListComp elt [⟨.Tuple [.Name x px,.Name y0 py] k0 pt,iter,ifs,0⟩] scope pos) (jE cap gi q g):=⟨fun B=>
 (zq (tc:=fun σ H Q=>∃B,tQ X.K B q σ H Q) (te:=fun σ H Q=>∃B,tD X.K B g σ H Q) T hc (hi.h B) (fun C s H fp pins s' σ H' Q I ⟨B',z⟩=>(ht C s H fp).h B' pins s' σ H' Q I z) (fun C s H fp pins s' σ H' Q I ⟨B',z⟩=>(he C s H fp).h B' pins s' σ H' Q I z) hs).imp fun σ H Q h=>Gb h⟩
end L2
end
section
namespace L2
open PySem PySem.Spec PyProof.Rows PySem.Calls
section
variable {X:Cx}{o e:Expr}{m:Str}{apos cpos:Pos}{id:String}{go ge:GD}{f:List D->Option U}
end
section
variable {X:Cx}
end
end L2
end
section
namespace L2
open PySem PySem.Spec PyProof.Rows
section
variable {X:Cx}{C:Addr}{e value:Expr}{es:List Expr}{gu:GU}{x y m:Str}{px p pos pos' apos tpos:Pos}{f:Str}{fm:FM}{fa:Addr}{fd:FuncData}{ps:List Str}{k n i:Nat}{g:GD}
end
end L2
end
section
namespace L2
open PySem PySem.Spec PyProof.Rows PySem.Calls
section
variable {X:Cx}
end
section
variable {X:Cx}{e f:Expr}{x:Str}{px pos apos cpos:Pos}{ty tx:TE}{g gd:GD}{a:Addr}{kvs:List (Str×Int)}
end
section
variable {prog:Program}{w:World}{A:Around}{E:Value->Shared->Prop}{s:Shared}
theorem rY {M:Model}{a:Addr}{Q:Option Obj->Shared->Prop}(h:Q (s.heap.get? a) s):wpAny M A (loadIfAlive a) Q E s:=fun Γ p _=>by
 unfold loadIfAlive
 rw[Sem.wp_loadIfAlive]
 exact(wpAny_pure h:wpAny M A (pure (s.heap.get? a)) Q E s) Γ p (by assumption)
noncomputable abbrev jF (h:Heap) (z TI TO:Addr) (f0 f1:Value):Prop:=h.get? z=some {cls:=.type "zip",dict:=none,data:=.fields #[f0,f1,.bool false,.ref TI,.ref TO],slots:=#[]}
noncomputable def ZK (f0 f1:Value):Prop:=(f0= .none\/∃T:Int,f0=rawInt T)/\∃b,f1= .bool b
structure qL (N:Nat) (k0 k1:Bool) (l0 l1:Nat) (i:Nat) (h:Heap):Prop where
 z:∃f0 f1,ZK f0 f1/\jF h (N+4) (N+2) (N+3) f0 f1
 ti:TupAt h (N+2) #[.ref N,.ref (N+1)]
 to:∃v:List Value,v.length=2/\TupAt h (N+3) v.toArray
 c0:lV k0 h N l0 i
 c1:lV k1 h (N+1) l1 i
theorem Aj.l {N:Nat}{k0 k1:Bool}{l0 l1 i:Nat}{h:Heap}(x:Aj N k0 k1 l0 l1 i .none h):qL N k0 k1 l0 l1 i h:=⟨⟨_,_,⟨.inl rfl,_,rfl⟩,x.z⟩,x.ti,x.to,x.c0,x.c1⟩
theorem BJ {z TI TO : Addr} {f0 f1 : Value} {Q : Bool -> Shared -> Prop} (hz : jF s.heap z TI TO f0 f1) (hf : ZK f0 f1)
    (q:∀b h' g0 g1,ZK g0 g1->jF h' z TI TO g0 g1->Heap.SameBut z s.heap h'->Q b {s with heap:=h'}):wpAny (model prog w) A (Builtin.SmallTypes.ownedTupleIsFree (.ref z)) Q E s:=by
  unfold Builtin.SmallTypes.ownedTupleIsFree
  have same:Heap.SameBut z s.heap s.heap:=⟨rfl,fun _ _=>rfl⟩
  obtain⟨h0,b1,rfl⟩:=id hf
  rcases h0 with rfl | ⟨T,rfl⟩
  . exact wpAny_bind (wpAny_field hz rfl (x:=.none) rfl (wpAny_pure (q true s.heap _ _ hf hz same)))
  . refine wpAny_bind (wpAny_field hz rfl (x:=rawInt T) rfl ?_)
    show wpAny _ _ (loadIfAlive T.toNat >>= _) _ _ _
    refine wpAny_bind (rY ?_)
    cases hl:s.heap.get? T.toNat with
    | none=>exact wpAny_pure (q true s.heap _ _ hf hz same)
    | some o=>
      show wpAny _ _ (field (.ref z) 1 >>= _) _ _ _
      refine wpAny_bind (wpAny_field hz rfl (x:=.bool b1) rfl ?_)
      cases b1 with
      | true=>exact wpAny_pure (q false s.heap _ _ hf hz same)
      | false=>
        show wpAny _ _ (setField (.ref z) 1 (.bool true) >>= _) _ _ _
        refine wpAny_bind (wpAny_setField_rec hz (by simp) fun h' hz' e'=>?_)
        exact wpAny_pure (q false h' (rawInt T) (.bool true) ⟨.inr ⟨T,rfl⟩,true,rfl⟩ hz' e')
theorem Jx {N i:Nat}{k0 k1:Bool}{l0 l1:Nat}{v0 v1:Array Value}{x0 x1:Value}{Q:Option Value->Shared->Prop}(st:qL N k0 k1 l0 l1 i s.heap)
  (Ey:nP k0 s.heap l0 v0) (xU:v0[i]? =some x0) (C8:l0 < N)
  (CI:nP k1 s.heap l1 v1) (Ak:v1[i]? =some x1) (C9:l1 < N)
  (q:∀h',qL N k0 k1 l0 l1 (i+1) h'->TupAt h' s.heap.objs.size #[x0,x1]->(∀(b:Nat) o,b∉iM N->s.heap.get? b=some o->h'.get? b=some o)->Q (some (.ref s.heap.objs.size)) {s with heap:=h'}):
  wpAny (model prog w) A (pyNext (.ref (N+4))) Q E s:=by
 obtain⟨⟨f0,f1,hf,hz⟩,hTI,⟨w0,hw0,hTO⟩,d0,d1⟩:=st
 obtain⟨a0,a1,rfl⟩:∃a0 a1,w0=[a0,a1]:=by
  match w0,hw0 with
  | [a0,a1],_=>exact⟨_,_,rfl⟩
 have hT:s.TypeIs (.ref (N+4)) "zip":=⟨_,hz,rfl⟩
 unfold pyNext
 refine wpAny_bind (wpAny_attempt (wpAny_callSpecial?_slot (name:=Str.ofString "__next__") hT F.slot_zip_next (wpAny_call_entry F.slot_zip_next hT F.entry_zip_next ?_ (F.args_zip_next_1 _))))
 show wpAny _ _ (field (.ref (N+4)) 2 >>= _) _ _ _;refine wpAny_bind (wpAny_field hz rfl (x:=.bool false) rfl ?_)
 show wpAny _ _ (field (.ref (N+4)) 3 >>= _) _ _ _;refine wpAny_bind (wpAny_field hz rfl (x:=.ref (N+2)) rfl ?_)
 refine wpAny_bind (wpAny_seqItems hTI rfl ?_);show wpAny _ _ (Builtin.SmallTypes.ownedTupleIsFree (.ref (N+4)) >>= _) _ _ _
 refine wpAny_bind (BJ hz hf fun fr wN q0 fl hf' hz' zu=>?_)
 clear hf hz hT
 have zu:Heap.SameBut (N+4) s.heap wN:=zu
 cases fr
 case false=>
  have OO:∀(b:Nat) o,b∉iM N->s.heap.get? b=some o->wN.get? b=some o:=fun b o hb y=>(zu.2 b fun z=>hb (aM.mpr (by have z:@Eq Nat b _:=z;omega))).trans y
  have d0:lV k0 wN N l0 i:=d0.at fun o y=>(zu.2 _ (by first | omega | (show @Ne Nat _ _;omega))).trans y
  have d1:lV k1 wN (N+1) l1 i:=d1.at fun o y=>(zu.2 _ (by first | omega | (show @Ne Nat _ _;omega))).trans y
  have hTO:TupAt wN (N+3) #[a0,a1]:=(zu.2 _ (by first | omega | (show @Ne Nat _ _;omega))).trans hTO
  have hTI:TupAt wN (N+2) #[.ref N,.ref (N+1)]:=(zu.2 _ (by first | omega | (show @Ne Nat _ _;omega))).trans hTI
  have yj:nP k0 wN l0 v0:=Ey.at fun o y=>OO _ o (fun z=>by have:=aM.mp z;omega) y
  have Am:nP k1 wN l1 v1:=CI.at fun o y=>OO _ o (fun z=>by have:=aM.mp z;omega) y
  simp only[Bool.false_eq_true,if_false]
  refine wpAny_bind ?_
  rw[<-Array.forIn_toList]
  simp only[List.forIn_cons,List.forIn_nil]
  refine wpAny_bind (wpAny_bind (wpAny_holding ?_));show wpAny _ _ (Builtin.SmallTypes.nextOf (.ref N) >>= _) _ _ _
  refine wpAny_bind (nextK d0 yj xU fun g1 c0 e1=>wpAny_pure (wpAny_pure ?_))
  have e1:Heap.SameBut N wN g1:=e1
  have m1:∀(b:Nat) o,b∉iM N->s.heap.get? b=some o->g1.get? b=some o:=fun b o hb y=>(e1.2 b fun z=>hb (aM.mpr (by have z:@Eq Nat b _:=z;omega))).trans (OO b o hb y)
  have d1:lV k1 g1 (N+1) l1 i:=d1.at fun o y=>(e1.2 _ (by first | omega | (show @Ne Nat _ _;omega))).trans y
  have Am:nP k1 g1 l1 v1:=CI.at fun o y=>m1 _ o (fun z=>by have:=aM.mp z;omega) y
  refine wpAny_bind (wpAny_bind (wpAny_holding ?_));show wpAny _ _ (Builtin.SmallTypes.nextOf (.ref (N+1)) >>= _) _ _ _
  refine wpAny_bind (nextK d1 Am Ak fun g2 c1 e2=>wpAny_pure (wpAny_pure (wpAny_pure ?_)))
  have e2:Heap.SameBut (N+1) g1 g2:=e2
  have s2:g2.objs.size=s.heap.objs.size:=by rw[e2.1,e1.1,zu.1]
  refine wpAny_bind (wpAny_newTuple ?_ (show 2<=sizeLine by decide))
  refine wpAny_pure ⟨_,rfl,wpAny_pure ?_⟩
  have keep:∀(b:Nat) o,b≠N->b≠N+1->wN.get? b=some o->(g2.push {cls:=.type "tuple",data:=.seq #[x0,x1]}).get? b=some o:=fun b o h1 h2 y=>Heap.get?_push_of_some _ ((e2.2 _ h2).trans ((e1.2 _ h1).trans y))
  have tt:TupAt (g2.push {cls:=.type "tuple",data:=.seq #[x0,x1]}) g2.objs.size #[x0,x1]:=Heap.get?_push_size _ rfl
  have q':=q (g2.push {cls:=.type "tuple",data:=.seq #[x0,x1]}) ⟨⟨_,_,hf',keep _ _ (by first | omega | (show @Ne Nat _ _;omega)) (by first | omega | (show @Ne Nat _ _;omega)) hz'⟩,keep _ _ (by first | omega | (show @Ne Nat _ _;omega)) (by first | omega | (show @Ne Nat _ _;omega)) hTI,⟨[a0,a1],rfl,keep _ _ (by first | omega | (show @Ne Nat _ _;omega)) (by first | omega | (show @Ne Nat _ _;omega)) hTO⟩,c0.at fun o y=>Heap.get?_push_of_some _ ((e2.2 _ (by first | omega | (show @Ne Nat _ _;omega))).trans y),c1.at fun o y=>Heap.get?_push_of_some _ y⟩ (by rw[<-s2];exact tt) fun b o hb y=>Heap.get?_push_of_some _ ((e2.2 b fun z=>hb (aM.mpr (by have z:@Eq Nat b _:=z;omega))).trans (m1 b o hb y))
  rw[<-s2] at q'
  exact q'
 simp only[if_true];refine wpAny_bind (wpAny_rule ?_);refine wpAny_bind (wpAny_field hz' rfl (x:=.ref (N+3)) rfl ?_)
 refine wpAny_bind (wpAny_setField_rec hz' (by simp) fun g0 z0 e0=>?_)
 have e0:Heap.SameBut (N+4) wN g0:=e0
 have e0:Heap.SameBut (N+4) s.heap g0:=⟨e0.1.trans zu.1,fun b hb=>(e0.2 b hb).trans (zu.2 b hb)⟩
 have z0:jF g0 (N+4) (N+2) (N+3) .ellipsis fl:=z0
 have e0:Heap.SameBut (N+4) s.heap g0:=e0
 refine wpAny_bind ?_;simp only[List.zipIdx_cons,List.zipIdx_nil,List.forIn_cons,List.forIn_nil]
 have t0:TupAt g0 (N+3) #[a0,a1]:=(e0.2 _ (by first | omega | (show @Ne Nat _ _;omega))).trans hTO
 have m0:∀(b:Nat) o,b∉iM N->s.heap.get? b=some o->g0.get? b=some o:=fun b o hb y=>(e0.2 b fun z=>hb (aM.mpr (by have z:@Eq Nat b _:=z;omega))).trans y
 have MD:lV k0 g0 N l0 i:=d0.at fun o y=>(e0.2 _ (by first | omega | (show @Ne Nat _ _;omega))).trans y
 have Dc:lV k1 g0 (N+1) l1 i:=d1.at fun o y=>(e0.2 _ (by first | omega | (show @Ne Nat _ _;omega))).trans y
 refine wpAny_bind (wpAny_bind (wpAny_onRaise ?_));show wpAny _ _ (Builtin.SmallTypes.nextOf (.ref N) >>= _) _ _ _
 refine wpAny_bind (nextK MD (Ey.at fun o y=>m0 _ o (fun z=>by have:=aM.mp z;omega) y) xU fun g1 c0 e1=>wpAny_pure ?_)
 have e1:Heap.SameBut N g0 g1:=e1
 have t1:TupAt g1 (N+3) #[a0,a1]:=(e1.2 _ (by first | omega | (show @Ne Nat _ _;omega))).trans t0
 refine wpAny_bind (wpAny_seqItems t1 rfl ?_);refine wpAny_bind (FT t1 (show 2<=sizeLine by decide) fun g2 t2 e2=>?_)
 have t2:TupAt g2 (N+3) #[x0,a1]:=t2
 have e2:Heap.SameBut (N+3) g1 g2:=e2
 have z1:jF g2 (N+4) (N+2) (N+3) .ellipsis fl:=(e2.2 _ (by first | omega | (show @Ne Nat _ _;omega))).trans ((e1.2 _ (by first | omega | (show @Ne Nat _ _;omega))).trans z0)
 have m2:∀(b:Nat) o,b∉iM N->s.heap.get? b=some o->g2.get? b=some o:=fun b o hb y=>(e2.2 b fun z=>hb (aM.mpr (by have z:@Eq Nat b _:=z;omega))).trans ((e1.2 b fun z=>hb (aM.mpr (by have z:@Eq Nat b _:=z;omega))).trans (m0 b o hb y))
 refine wpAny_bind (wpAny_letGo (wpAny_pure ?_))
 have c0:lV k0 g2 N l0 (i+1):=c0.at fun o y=>(e2.2 _ (by first | omega | (show @Ne Nat _ _;omega))).trans y
 have Dc:lV k1 g2 (N+1) l1 i:=Dc.at fun o y=>(e2.2 _ (by first | omega | (show @Ne Nat _ _;omega))).trans ((e1.2 _ (by first | omega | (show @Ne Nat _ _;omega))).trans y)
 have i0:g2.get? (N+2)=s.heap.get? (N+2):=by rw[e2.2 _ (by first | omega | (show @Ne Nat _ _;omega)),e1.2 _ (by first | omega | (show @Ne Nat _ _;omega)),e0.2 _ (by first | omega | (show @Ne Nat _ _;omega))]
 have s0:g2.objs.size=s.heap.objs.size:=by rw[e2.1,e1.1,e0.1]
 refine wpAny_bind (wpAny_bind (wpAny_onRaise ?_));show wpAny _ _ (Builtin.SmallTypes.nextOf (.ref (N+1)) >>= _) _ _ _
 refine wpAny_bind (nextK Dc (CI.at fun o y=>m2 _ o (fun z=>by have:=aM.mp z;omega) y) Ak fun g3 c1 e3=>wpAny_pure ?_)
 have e3:Heap.SameBut (N+1) g2 g3:=e3
 have t3:TupAt g3 (N+3) #[x0,a1]:=(e3.2 _ (by first | omega | (show @Ne Nat _ _;omega))).trans t2
 refine wpAny_bind (wpAny_seqItems t3 rfl ?_);refine wpAny_bind (FT t3 (show 2<=sizeLine by decide) fun g4 t4 e4=>?_)
 have t4:TupAt g4 (N+3) #[x0,x1]:=t4
 have e4:Heap.SameBut (N+3) g3 g4:=e4
 have z2:jF g4 (N+4) (N+2) (N+3) .ellipsis fl:=(e4.2 _ (by first | omega | (show @Ne Nat _ _;omega))).trans ((e3.2 _ (by first | omega | (show @Ne Nat _ _;omega))).trans z1)
 have m4:∀(b:Nat) o,b∉iM N->s.heap.get? b=some o->g4.get? b=some o:=fun b o hb y=>(e4.2 b fun z=>hb (aM.mpr (by have z:@Eq Nat b _:=z;omega))).trans ((e3.2 b fun z=>hb (aM.mpr (by have z:@Eq Nat b _:=z;omega))).trans (m2 b o hb y))
 refine wpAny_bind (wpAny_letGo (wpAny_pure (wpAny_pure ?_)))
 have c0:lV k0 g4 N l0 (i+1):=c0.at fun o y=>(e4.2 _ (by first | omega | (show @Ne Nat _ _;omega))).trans ((e3.2 _ (by first | omega | (show @Ne Nat _ _;omega))).trans y)
 have c1:lV k1 g4 (N+1) l1 (i+1):=c1.at fun o y=>(e4.2 _ (by first | omega | (show @Ne Nat _ _;omega))).trans y
 have i1:g4.get? (N+2)=s.heap.get? (N+2):=by rw[e4.2 _ (by first | omega | (show @Ne Nat _ _;omega)),e3.2 _ (by first | omega | (show @Ne Nat _ _;omega)),i0]
 have s1:g4.objs.size=s.heap.objs.size:=by rw[e4.1,e3.1,s0]
 refine wpAny_bind (wpAny_seqItems t4 rfl ?_);refine wpAny_bind (wpAny_newTuple ?_)
 have QC:(N+4) < g4.objs.size:=Heap.lt_size z2
 show wpAny _ _ (Builtin.SmallTypes.ownedTupleHandOut (.ref (N+4)) (.ref g4.objs.size) >>= _) _ _ _;refine wpAny_bind ?_;unfold Builtin.SmallTypes.ownedTupleHandOut
 have y0:jF (g4.push {cls:=.type "tuple",data:=.seq #[x0,x1]}) (N+4) (N+2) (N+3) .ellipsis fl:=Heap.get?_push_of_some _ z2
 refine wpAny_bind (wpAny_setField_rec y0 (by simp) fun f1 y1 r1=>?_)
 have y1:jF f1 (N+4) (N+2) (N+3) (rawInt g4.objs.size) fl:=y1
 refine wpAny_setField_rec y1 (by simp) fun f2 y2 r2=>?_
 have y2:jF f2 (N+4) (N+2) (N+3) (rawInt g4.objs.size) (.bool false):=y2
 have up:∀b o,b≠(N+4)->g4.get? b=some o->f2.get? b=some o:=fun b o hb y=>r2.extBut _ _ hb (r1.extBut _ _ hb (Heap.get?_push_of_some _ y))
 have tt:TupAt f2 g4.objs.size #[x0,x1]:=r2.extBut _ _ (Nat.ne_of_gt QC) (r1.extBut _ _ (Nat.ne_of_gt QC) (Heap.get?_push_size _ rfl))
 rw[s1] at y2 tt
 refine wpAny_pure ⟨_,rfl,wpAny_pure ?_⟩
 rw[s1]
 exact q f2 ⟨⟨_,_,⟨.inr ⟨_,rfl⟩,false,rfl⟩,y2⟩,up _ _ (by first | omega | (show @Ne Nat _ _;omega)) (i1.trans hTI),⟨[x0,x1],rfl,up _ _ (by first | omega | (show @Ne Nat _ _;omega)) t4⟩,c0.at fun o y=>up _ o (by first | omega | (show @Ne Nat _ _;omega)) y,c1.at fun o y=>up _ o (by first | omega | (show @Ne Nat _ _;omega)) y⟩ tt fun b o hb y=>up b o (fun z=>hb (aM.mpr (by have z:@Eq Nat b _:=z;omega))) (m4 b o hb y)
theorem MX {N i : Nat} {k0 k1 : Bool} {l0 l1 : Nat} {v0 v1 : Array Value} {Q : Option Value -> Shared -> Prop} (hn : A.handled = none) (st : qL N k0 k1 l0 l1 i s.heap)
    (Ey:nP k0 s.heap l0 v0) (C8:l0 < N)
    (CI:nP k1 s.heap l1 v1) (C9:l1 < N)
    (hend:v0[i]? =none\/v1[i]? =none)
    (q:∀h',(∀(b:Nat) o,b∉iM N->s.heap.get? b=some o->h'.get? b=some o)->Q none {s with heap:=h'}):
    wpAny (model prog w) A (pyNext (.ref (N+4))) Q E s:=by
  obtain⟨⟨f0,f1,hf,hz⟩,hTI,⟨w0,hw0,hTO⟩,d0,d1⟩:=st
  obtain⟨a0,a1,rfl⟩:∃a0 a1,w0=[a0,a1]:=by
    match w0,hw0 with
    | [a0,a1],_=>exact⟨_,_,rfl⟩
  have hT:s.TypeIs (.ref (N+4)) "zip":=⟨_,hz,rfl⟩
  unfold pyNext
  refine wpAny_bind (wpAny_attempt (wpAny_callSpecial?_slot (name:=Str.ofString "__next__") hT F.slot_zip_next (wpAny_call_entry F.slot_zip_next hT F.entry_zip_next ?_ (F.args_zip_next_1 _))))
  show wpAny _ _ (field (.ref (N+4)) 2 >>= _) _ _ _;refine wpAny_bind (wpAny_field hz rfl (x:=.bool false) rfl ?_)
  show wpAny _ _ (field (.ref (N+4)) 3 >>= _) _ _ _;refine wpAny_bind (wpAny_field hz rfl (x:=.ref (N+2)) rfl ?_)
  refine wpAny_bind (wpAny_seqItems hTI rfl ?_);show wpAny _ _ (Builtin.SmallTypes.ownedTupleIsFree (.ref (N+4)) >>= _) _ _ _
  refine wpAny_bind (BJ hz hf fun fr wN q0 fl hf' hz' zu=>?_)
  clear hf hz hT
  have zu:Heap.SameBut (N+4) s.heap wN:=zu
  cases fr
  case false=>
    have OO:∀(b:Nat) o,b∉iM N->s.heap.get? b=some o->wN.get? b=some o:=fun b o hb y=>(zu.2 b fun z=>hb (aM.mpr (by have z:@Eq Nat b _:=z;omega))).trans y
    have d0:lV k0 wN N l0 i:=d0.at fun o y=>(zu.2 _ (by first | omega | (show @Ne Nat _ _;omega))).trans y
    have d1:lV k1 wN (N+1) l1 i:=d1.at fun o y=>(zu.2 _ (by first | omega | (show @Ne Nat _ _;omega))).trans y
    have hTO:TupAt wN (N+3) #[a0,a1]:=(zu.2 _ (by first | omega | (show @Ne Nat _ _;omega))).trans hTO
    have hTI:TupAt wN (N+2) #[.ref N,.ref (N+1)]:=(zu.2 _ (by first | omega | (show @Ne Nat _ _;omega))).trans hTI
    have yj:nP k0 wN l0 v0:=Ey.at fun o y=>OO _ o (fun z=>by have:=aM.mp z;omega) y
    have Am:nP k1 wN l1 v1:=CI.at fun o y=>OO _ o (fun z=>by have:=aM.mp z;omega) y
    simp only[Bool.false_eq_true,if_false]
    refine wpAny_bind ?_
    rw[<-Array.forIn_toList]
    simp only[List.forIn_cons,List.forIn_nil]
    refine wpAny_bind (wpAny_bind (wpAny_holding ?_));show wpAny _ _ (Builtin.SmallTypes.nextOf (.ref N) >>= _) _ _ _
    cases xU:v0[i]? with
    | none=>
      refine wpAny_bind (BB hn d0 yj xU fun u1 e r1 he=>?_)
      have r1:Heap.ExtBut N wN u1:=r1
      obtain⟨oe,Al,hce⟩:=he
      exact wpAny_bind (wpAny_isInstance (T:="StopIteration") (b:=true) ⟨oe,Al,hce⟩ isSubtype_stop (wpAny_pure (q _ fun b o hb y=>r1 _ _ (fun z=>hb (aM.mpr (by have z:@Eq Nat b _:=z;omega))) (OO b o hb y))))
    | some x0=>
      refine wpAny_bind (nextK d0 yj xU fun g1 c0 e1=>wpAny_pure (wpAny_pure ?_))
      have e1:Heap.SameBut N wN g1:=e1
      have m1:∀(b:Nat) o,b∉iM N->s.heap.get? b=some o->g1.get? b=some o:=fun b o hb y=>(e1.2 b fun z=>hb (aM.mpr (by have z:@Eq Nat b _:=z;omega))).trans (OO b o hb y)
      have d1:lV k1 g1 (N+1) l1 i:=d1.at fun o y=>(e1.2 _ (by first | omega | (show @Ne Nat _ _;omega))).trans y
      have Am:nP k1 g1 l1 v1:=CI.at fun o y=>m1 _ o (fun z=>by have:=aM.mp z;omega) y
      refine wpAny_bind (wpAny_bind (wpAny_holding ?_));show wpAny _ _ (Builtin.SmallTypes.nextOf (.ref (N+1)) >>= _) _ _ _
      cases Ak:v1[i]? with
      | none=>
        refine wpAny_bind (BB hn d1 Am Ak fun u1 e r1 he=>?_)
        have r1:Heap.ExtBut (N+1) g1 u1:=r1
        obtain⟨oe,Al,hce⟩:=he
        exact wpAny_bind (wpAny_isInstance (T:="StopIteration") (b:=true) ⟨oe,Al,hce⟩ isSubtype_stop (wpAny_pure (q _ fun b o hb y=>r1 _ _ (fun z=>hb (aM.mpr (by have z:@Eq Nat b _:=z;omega))) (m1 b o hb y))))
      | some x1=>exact absurd hend (by simp only[xU,Ak];rintro(h | h) <;> cases h)
  simp only[if_true];refine wpAny_bind (wpAny_rule ?_);refine wpAny_bind (wpAny_field hz' rfl (x:=.ref (N+3)) rfl ?_)
  refine wpAny_bind (wpAny_setField_rec hz' (by simp) fun g0 z0 e0=>?_)
  have e0:Heap.SameBut (N+4) wN g0:=e0
  have e0:Heap.SameBut (N+4) s.heap g0:=⟨e0.1.trans zu.1,fun b hb=>(e0.2 b hb).trans (zu.2 b hb)⟩
  have z0:jF g0 (N+4) (N+2) (N+3) .ellipsis fl:=z0
  have e0:Heap.SameBut (N+4) s.heap g0:=e0
  refine wpAny_bind ?_;simp only[List.zipIdx_cons,List.zipIdx_nil,List.forIn_cons,List.forIn_nil]
  have t0:TupAt g0 (N+3) #[a0,a1]:=(e0.2 _ (by first | omega | (show @Ne Nat _ _;omega))).trans hTO
  have m0:∀(b:Nat) o,b∉iM N->s.heap.get? b=some o->g0.get? b=some o:=fun b o hb y=>(e0.2 b fun z=>hb (aM.mpr (by have z:@Eq Nat b _:=z;omega))).trans y
  have MD:lV k0 g0 N l0 i:=d0.at fun o y=>(e0.2 _ (by first | omega | (show @Ne Nat _ _;omega))).trans y
  have Dc:lV k1 g0 (N+1) l1 i:=d1.at fun o y=>(e0.2 _ (by first | omega | (show @Ne Nat _ _;omega))).trans y
  refine wpAny_bind (wpAny_bind (wpAny_onRaise ?_));show wpAny _ _ (Builtin.SmallTypes.nextOf (.ref N) >>= _) _ _ _
  have yj:nP k0 g0 l0 v0:=Ey.at fun o y=>m0 _ o (fun z=>by have:=aM.mp z;omega) y
  cases xU:v0[i]? with
  | none=>
    refine wpAny_bind (BB hn MD yj xU fun u1 e r1 he=>?_)
    have r1:Heap.ExtBut N g0 u1:=r1
    obtain⟨oe,Al,hce⟩:=he
    have y1:jF u1 (N+4) (N+2) (N+3) .ellipsis fl:=r1 _ _ (by first | omega | (show @Ne Nat _ _;omega)) z0
    have QD:e≠(N+4):=fun x=>by subst x;rw[y1] at Al;cases Al;simp at hce
    refine wpAny_setField_rec y1 (by simp) fun u2 _ r2=>?_
    have r2:Heap.SameBut (N+4) u1 u2:=r2
    refine wpAny_bind (wpAny_isInstance (T:="StopIteration") (b:=true) ⟨oe,r2.extBut _ _ QD Al,hce⟩ isSubtype_stop (wpAny_pure (q _ fun b o hb y=>r2.extBut _ _ (fun z=>hb (aM.mpr (by have z:@Eq Nat b _:=z;omega))) (r1 _ _ (fun z=>hb (aM.mpr (by have z:@Eq Nat b _:=z;omega))) (m0 b o hb y)))))
  | some x0=>
    refine wpAny_bind (nextK MD yj xU fun g1 c0 e1=>wpAny_pure ?_)
    have e1:Heap.SameBut N g0 g1:=e1
    have t1:TupAt g1 (N+3) #[a0,a1]:=(e1.2 _ (by first | omega | (show @Ne Nat _ _;omega))).trans t0
    refine wpAny_bind (wpAny_seqItems t1 rfl ?_);refine wpAny_bind (FT t1 (show 2<=sizeLine by decide) fun g2 t2 e2=>?_)
    have t2:TupAt g2 (N+3) #[x0,a1]:=t2
    have e2:Heap.SameBut (N+3) g1 g2:=e2
    have z1:jF g2 (N+4) (N+2) (N+3) .ellipsis fl:=(e2.2 _ (by first | omega | (show @Ne Nat _ _;omega))).trans ((e1.2 _ (by first | omega | (show @Ne Nat _ _;omega))).trans z0)
    have m2:∀(b:Nat) o,b∉iM N->s.heap.get? b=some o->g2.get? b=some o:=fun b o hb y=>(e2.2 b fun z=>hb (aM.mpr (by have z:@Eq Nat b _:=z;omega))).trans ((e1.2 b fun z=>hb (aM.mpr (by have z:@Eq Nat b _:=z;omega))).trans (m0 b o hb y))
    refine wpAny_bind (wpAny_letGo (wpAny_pure ?_))
    have Dc:lV k1 g2 (N+1) l1 i:=Dc.at fun o y=>(e2.2 _ (by first | omega | (show @Ne Nat _ _;omega))).trans ((e1.2 _ (by first | omega | (show @Ne Nat _ _;omega))).trans y)
    refine wpAny_bind (wpAny_bind (wpAny_onRaise ?_));show wpAny _ _ (Builtin.SmallTypes.nextOf (.ref (N+1)) >>= _) _ _ _
    have Am:nP k1 g2 l1 v1:=CI.at fun o y=>m2 _ o (fun z=>by have:=aM.mp z;omega) y
    cases Ak:v1[i]? with
    | none=>
      refine wpAny_bind (BB hn Dc Am Ak fun u1 e r1 he=>?_)
      have r1:Heap.ExtBut (N+1) g2 u1:=r1
      obtain⟨oe,Al,hce⟩:=he
      have y1:jF u1 (N+4) (N+2) (N+3) .ellipsis fl:=r1 _ _ (by first | omega | (show @Ne Nat _ _;omega)) z1
      have QD:e≠(N+4):=fun x=>by subst x;rw[y1] at Al;cases Al;simp at hce
      refine wpAny_setField_rec y1 (by simp) fun u2 _ r2=>?_
      have r2:Heap.SameBut (N+4) u1 u2:=r2
      refine wpAny_bind (wpAny_isInstance (T:="StopIteration") (b:=true) ⟨oe,r2.extBut _ _ QD Al,hce⟩ isSubtype_stop (wpAny_pure (q _ fun b o hb y=>r2.extBut _ _ (fun z=>hb (aM.mpr (by have z:@Eq Nat b _:=z;omega))) (r1 _ _ (fun z=>hb (aM.mpr (by have z:@Eq Nat b _:=z;omega))) (m2 b o hb y)))))
    | some x1=>
        exact absurd hend (by simp only[xU,Ak];rintro(h | h) <;> cases h)
end
theorem Dd:typeLookup (.type "zip") "__len__" =pure none:=by rw[typeLookup_type,builtinLookup_eq_fast];kernel_rfl
theorem BK:typeLookup (.type "zip") "__length_hint__" =pure none:=by rw[typeLookup_type,builtinLookup_eq_fast];kernel_rfl
theorem qL.keep {N:Nat}{k0 k1:Bool}{l0 l1 i:Nat}{h h':Heap}(x:qL N k0 k1 l0 l1 i h) (g:∀b∈iM N,∀o,h.get? b=some o->h'.get? b=some o):qL N k0 k1 l0 l1 i h':=by
 obtain⟨⟨f0,f1,hf,hz⟩,hTI,⟨w0,hw0,hTO⟩,d0,d1⟩:=x
 exact⟨⟨f0,f1,hf,g _ (by rw[aM];omega) _ hz⟩,g _ (by rw[aM];omega) _ hTI,⟨w0,hw0,g _ (by rw[aM];omega) _ hTO⟩,d0.at fun o q=>g _ (by rw[aM];omega) o q,d1.at fun o q=>g _ (by rw[aM];omega) o q⟩
theorem qL.typeIs {N:Nat}{k0 k1:Bool}{l0 l1 i:Nat}{s:Shared}(x:qL N k0 k1 l0 l1 i s.heap):s.TypeIs (.ref (N+4)) "zip":=by
 obtain⟨⟨f0,f1,hf,hz⟩,_⟩:=x
 exact⟨_,hz,rfl⟩
theorem qL.lt {N:Nat}{k0 k1:Bool}{l0 l1 i:Nat}{h:Heap}(x:qL N k0 k1 l0 l1 i h):@LT.lt Nat _ (N+4) h.objs.size:=by
 obtain⟨⟨f0,f1,hf,hz⟩,_⟩:=x
 exact Heap.lt_size hz
noncomputable def ZW (K:PySem.W.Frag) (k0 k1:Bool) (l0 l1:Addr) (sZ tu:List V) (S:Addr) (W:Nat->List V->Hp->Prop):Prop:=∀i ys H,W i ys H->zf K H k0 l0 sZ/\zf K H k1 l1 tu/\H S=some (.lst ys)/\ys.length=i/\
 ∀x0 x1 p,sZ[i]? =some x0->tu[i]? =some x1->H p=none->W (i+1) (ys++[.ref p]) (upd (upd H p (.tup [x0,x1])) S (.lst (ys++[.ref p])))
theorem Vals.snoc {xs:List V}{us:List Value}{x:V}{u:Value}(r:Vals xs us) (q:RelV x u):Vals (xs++[x]) (us++[u]):=r.append (.cons q .nil)
section
variable {X:Cx}{pins:List (Addr×Obj)}{σ:St}{A:Around}{R:Result->Shared->Prop}{N:Nat}{k0 k1:Bool}{l0 l1:Nat}{sZ tu:List V}{S:Addr}{W:Nat->List V->Hp->Prop}{res:Value}
theorem MY (hh : A.handled = none) (C8 : l0 < N) (C9 : l1 < N) (zw : ZW X.K k0 k1 l0 l1 sZ tu S W)
    (hR:∀ys H s',Inv X pins σ H s'->W (min sZ.length tu.length) ys H->R (.ok (.ret res)) s'):
    ∀(k i:Nat) (s:Shared) (H:Hp) (ys:List V),min sZ.length tu.length - i=k->i<=min sZ.length tu.length->Inv X pins σ H s->(∀b∈iM N,lR X pins H b)->qL N k0 k1 l0 l1 i s.heap->W i ys H->
    codeAny (model X.prog X.w) A (.builtin "list.extend.loop" ⟨[.ref S,.ref (N+4),res],[]⟩) R s:=by
  intro k
  induction k with
  | zero=>
    intro i s H ys hk hi I hf st hw
    have hin:i=min sZ.length tu.length:=by omega
    subst hin
    obtain⟨h0,h1,hS,hl,_⟩:=zw _ _ _ hw
    obtain⟨Jp,MG,p0,hz0⟩:=I.C7 h0
    obtain⟨Jq,MH,p1,hz1⟩:=I.C7 h1
    have e0:=MG.length
    have e1:=MH.length
    refine codeAny_builtin F.entry_extend_loop ?_
    rw[Around.under_plainId F.plain_extend_loop _]
    show wpAny _ A.in1 (pyNext (.ref (N+4)) >>= _) _ _ s
    refine wpAny_bind (MX hh st p0 C8 p1 C9 ?_ fun h' hk'=>wpAny_pure (hR ys H _ (I.vC (t':=s.toks) hk' hf) hw))
    simp only[List.getElem?_toArray,List.getElem?_eq_none_iff]
    omega
  | succ k ih=>
    intro i s H ys hk hi I hf st hw
    have hlt:i < min sZ.length tu.length:=by omega
    obtain⟨h0,h1,hS,hl,hstep⟩:=zw _ _ _ hw
    obtain⟨Jp,MG,p0,hz0⟩:=I.C7 h0
    obtain⟨Jq,MH,p1,hz1⟩:=I.C7 h1
    obtain⟨x0,xU⟩:∃x,sZ[i]? =some x:=⟨sZ[i]'(by omega),List.getElem?_eq_getElem _⟩
    obtain⟨x1,Ak⟩:∃x,tu[i]? =some x:=⟨tu[i]'(by omega),List.getElem?_eq_getElem _⟩
    obtain⟨u0,ZC,ZD⟩:=MG.get xU
    obtain⟨u1,hu1,ZE⟩:=MH.get Ak
    have slt:∀b∈iM N,b < s.heap.objs.size:=fun b hb=>by have h1:=aM.mp hb;have h2:=st.lt;show @LT.lt Nat _ b s.heap.objs.size;omega
    refine codeAny_builtin F.entry_extend_loop ?_
    rw[Around.under_plainId F.plain_extend_loop _]
    show wpAny _ A.in1 (pyNext (.ref (N+4)) >>= _) _ _ s
    refine wpAny_bind (Jx st p0 (by simpa using ZC) C8 p1 (by simpa using hu1) C9 fun h' st' hT hk'=>?_)
    have I2:Inv X pins σ (upd H s.heap.objs.size (.tup [x0,x1])) {s with heap:=h',toks:=s.toks}:=
      I.handed (its:=[u0,u1]) hf slt hk' hT (.cons ZD (.cons ZE .nil)) (show 2<=sizeLine by decide)
    have Xe:upd H s.heap.objs.size (.tup [x0,x1]) S=some (.lst ys):=by rw[aX (bJ hS I.fresh)];exact hS
    obtain⟨hzS,its,n,rvS,hoS⟩:=(show eL X.prog X.w _ _ S (.lst ys) from I2.hok S _ Xe)
    show wpAny _ A.in1 (updateSeq S (·.push (.ref s.heap.objs.size)) >>= _) _ _ _
    have hS':h'.get? S=some {cls:=.type "list",data:=.seq its.toArray n}:=hoS
    have eit:=rvS.length
    have hyl:its.length<=sizeLine:=by rw[<-eit];exact hzS
    refine wpAny_bind (wpAny_updateSeq hS' rfl (wpAny_pure ⟨plainId_quiet F.plain_extend_loop _,?_⟩) (by simpa using hyl) (by show(its.toArray.push _).size<=sizeLine+1;rw[Array.size_push,List.size_toArray];omega))
    have hS3:=Heap.get?_update_self (Obj.mapSeq fun x=>x.push (.ref s.heap.objs.size)) hS' rfl
    have LK:∀b o,b≠S->h'.get? b=some o->(h'.update S (Obj.mapSeq fun x=>x.push (.ref s.heap.objs.size))).get? b=some o:=fun b o hb e=>(Heap.get?_update_other _ _ (Ne.symm hb)).trans e
    have hSz:S∉iM N:=fun z=>by have:=(hf S z).1;rw[hS] at this;cases this
    have hl2:ys.length+1<=sizeLine:=by rw[hl];omega
    have I3:=I2.write (o:=.lst (ys++[.ref s.heap.objs.size])) (t':=s.toks) (h':=h'.update S (Obj.mapSeq fun x=>x.push (.ref s.heap.objs.size))) (x:=S) (e:=S) (by rw[Xe];exact True.intro) (.inl rfl) LK ⟨_,hS3⟩
      (show eL X.prog X.w _ _ S (.lst _) from⟨by rw[List.length_append];exact hl2,its++[.ref s.heap.objs.size],_,rvS.snoc (show RelV (.ref s.heap.objs.size) (.ref s.heap.objs.size) from rfl),by
        have e:(its++[Value.ref s.heap.objs.size]).toArray=its.toArray.push (.ref s.heap.objs.size):=by simp
        rw[e];exact hS3⟩)
    refine ih (i+1) _ _ _ (by omega) hlt I3 (fun b hb=>?_) (st'.keep fun b hb o q=>LK b o (fun z=>hSz (z▸hb)) q) (hstep x0 x1 _ xU Ak I.fresh)
    obtain⟨f0,f1,f2,f3,f4,f5⟩:=hf b hb
    have ZL:b≠S:=fun z=>hSz (z▸hb)
    exact⟨by rw[aX ZL,aX (Nat.ne_of_lt (slt b hb))];exact f0,f1,f2,f3,f4,f5⟩
theorem Jy {s:Shared}{H:Hp}{ys:List V}(I:Inv X pins σ H s) (hS:H S=some (.lst ys)):ys.length<=sizeLine/\∃(its:List Value) (n:Nat),Vals ys its/\s.heap.get? S=some {cls:=.type "list",data:=.seq its.toArray n}:=
 (show eL X.prog X.w _ _ S (.lst ys) from I.hok S _ hS)
theorem OP {s:Shared}{H:Hp}{h':Heap}{n:Nat}(I:Inv X pins σ H s) (hS:H S=some (.lst [])) (LK:∀b o,b≠S->s.heap.get? b=some o->h'.get? b=some o) (hn:h'.get? S=some {cls:=.type "list",data:=.seq #[] n}):Inv X pins σ H {s with heap:=h'}:=by
 have e:upd H S (.lst [])=H:=by
  funext b
  by_cases hb:b=S
  ·subst hb;rw[bh,hS]
  ·rw[aX hb]
 have I2:=I.write (o:=.lst []) (t':=s.toks) (h':=h') (x:=S) (e:=S) (by rw[hS];exact True.intro) (.inl rfl) LK ⟨_,hn⟩ (show eL X.prog X.w _ _ S (.lst []) from⟨Nat.zero_le _,[],n,.nil,hn⟩)
 rw[e] at I2
 exact I2
theorem Gd {s:Shared}{H:Hp}(hh:A.handled=none) (C8:l0 < N) (C9:l1 < N) (OQ:S∉iM N) (zw:ZW X.K k0 k1 l0 l1 sZ tu S W)
  (hR:∀ys H s',Inv X pins σ H s'->W (min sZ.length tu.length) ys H->R (.ok (.ret res)) s') (I:Inv X pins σ H s) (hf:∀b∈iM N,lR X pins H b) (st:qL N k0 k1 l0 l1 0 s.heap) (hw:W 0 [] H):
  wpAny (model X.prog X.w) A.in1 (Builtin.List.listExtendWith (.ref S) (.ref (N+4)) res)
   (fun fin s'=>match fin with | .done f=>R (.ok f) s' | .again c'=>c'.quiet=true/\codeAny (model X.prog X.w) A c' R s') (fun e s'=>R (.error e) s') s:=by
 obtain⟨_,_,Mx,_,_⟩:=zw _ _ _ hw
 obtain⟨_,its,n,rv,hS⟩:=Jy I Mx
 cases rv
 have hSI:S≠(N+4):=fun e=>OQ (e▸aM.mpr (by omega))
 unfold Builtin.List.listExtendWith
 refine wpAny_bind (wpAny_typeOf st.typeIs ?_)
 have h1:Builtin.List.listSameRef (.ref S) (.ref (N+4))=false:=by simp[Builtin.List.listSameRef,hSI]
 have h2:(Value.type "zip" == Value.type "list")=false:=by decide
 have h3:(Value.type "zip" == Value.type "tuple")=false:=by decide
 simp only[h1,h2,h3,Bool.or_false,Bool.false_eq_true,if_false]
 obtain⟨⟨f0,f1,hf0,hz⟩,_⟩:=id st
 refine wpAny_bind (wpAny_pyIter_slot st.typeIs F.slot_zip_iter (wpAny_call_entry F.slot_zip_iter st.typeIs F.entry_zip_iter (show wpAny _ _ (ret (.ref (N+4))) _ _ s from wpAny_pure ⟨_,rfl,"zip",_,st.typeIs,F.slot_zip_next.lookup,?_⟩) (F.args_zip_iter_1 _)))
 refine wpAny_bind (wpAny_holding ?_)
 unfold Builtin.List.listLengthHint
 refine wpAny_bind (wpAny_specialOf st.typeIs Dd ?_)
 show wpAny _ A.in1 (specialOf (Value.ref (N+4)) (Str.ofString "__length_hint__") >>= _) _ _ _
 refine wpAny_bind (wpAny_specialOf st.typeIs BK ?_)
 refine wpAny_pure ?_
 show wpAny _ A.in1 (rule "list.extend.makes-room" >>= fun _=>Builtin.List.listTouch (.ref S) >>= fun _=>
  again (.builtin "list.extend.loop" ⟨[.ref S,.ref (N+4),res],[]⟩)) _ _ _
 refine wpAny_bind (wpAny_rule ?_)
 refine wpAny_bind ?_
 show wpAny _ A.in1 (updateSeq S (·.push .none) >>= fun _=>updateSeq S (·.pop)) _ _ _
 refine wpAny_bind (wpAny_updateSeq hS rfl ?_)
 have EE:=Heap.get?_update_self (Obj.mapSeq (·.push Value.none)) hS rfl
 refine wpAny_updateSeq (hz:=by seq_fits) EE rfl ?_
 have Vf:=Heap.get?_update_self (Obj.mapSeq (·.pop)) EE rfl
 have LK:∀b o,b≠S->s.heap.get? b=some o->((s.heap.update S (Obj.mapSeq (·.push Value.none))).update S (Obj.mapSeq (·.pop))).get? b=some o:=
  fun b o hb e=>(Heap.get?_update_other _ _ (Ne.symm hb)).trans ((Heap.get?_update_other _ _ (Ne.symm hb)).trans e)
 have I9:=OP I Mx LK Vf
 exact wpAny_pure ⟨plainId_quiet F.plain_extend_loop _,MY hh C8 C9 zw hR _ 0 _ H [] rfl (Nat.zero_le _) I9 hf (st.keep fun b hb o e=>LK b o (fun z=>OQ (z▸hb)) e) hw⟩
theorem MZ {s:Shared}{H:Hp}(hh:A.handled=none) (C8:l0 < N) (C9:l1 < N) (OQ:S∉iM N) (zw:ZW X.K k0 k1 l0 l1 sZ tu S W)
  (hR:∀ys H s',Inv X pins σ H s'->W (min sZ.length tu.length) ys H->R (.ok (.ret .none)) s') (I:Inv X pins σ H s) (hf:∀b∈iM N,lR X pins H b) (st:qL N k0 k1 l0 l1 0 s.heap) (hw:W 0 [] H):
  wpAny (model X.prog X.w) A.in1 (Builtin.«list.__init__» ⟨[.ref S,.ref (N+4)],[]⟩)
   (fun fin s'=>match fin with | .done f=>R (.ok f) s' | .again c'=>c'.quiet=true/\codeAny (model X.prog X.w) A c' R s') (fun e s'=>R (.error e) s') s:=by
 obtain⟨_,_,Mx,_,_⟩:=zw _ _ _ hw
 obtain⟨_,its,n,rv,hS⟩:=Jy I Mx
 cases rv
 show wpAny _ A.in1 (do let old <-Builtin.List.listItems (.ref S);Builtin.List.listUpdate (.ref S) (fun _=>#[]);letGo old.toList.reverse;Builtin.List.listExtendWith (.ref S) (.ref (N+4)) .none) _ _ s
 refine wpAny_bind ?_
 unfold Builtin.List.listItems
 refine wpAny_bind (wpAny_seqItems hS rfl (wpAny_pure ?_))
 show wpAny _ A.in1 (updateSeq S (fun _=>#[]) >>= fun _=>letGo (#[]:Array Value).toList.reverse >>= fun _=>Builtin.List.listExtendWith (.ref S) (.ref (N+4)) .none) _ _ s
 refine wpAny_bind (wpAny_updateSeq hS rfl ?_)
 have EE:=Heap.get?_update_self (Obj.mapSeq (fun _=>(#[]:Array Value))) hS rfl
 have LK:∀b o,b≠S->s.heap.get? b=some o->(s.heap.update S (Obj.mapSeq (fun _=>(#[]:Array Value)))).get? b=some o:=
  fun b o hb e=>(Heap.get?_update_other _ _ (Ne.symm hb)).trans e
 refine wpAny_bind (wpAny_letGo ?_)
 exact Gd hh C8 C9 OQ zw hR (OP I Mx LK EE) hf (st.keep fun b hb o e=>LK b o (fun z=>OQ (z▸hb)) e) hw
end
section
variable {X:Cx}{pins:List (Addr×Obj)}{σ:St}{A:Around}{E:Value->Shared->Prop}{N:Nat}{k0 k1:Bool}{l0 l1:Nat}{sZ tu:List V}
theorem BL {s:Shared}{H:Hp}{Q:Value->Shared->Prop}(hh:A.handled=none) (C8:l0 < N) (C9:l1 < N) (I:Inv X pins σ H s) (hf:∀b∈iM N,lR X pins H b) (st:qL N k0 k1 l0 l1 0 s.heap)
  (h:∀S,H S=none->∃W,ZW X.K k0 k1 l0 l1 sZ tu S W/\W 0 [] (upd H S (.lst []))/\∀ys H' s',Inv X pins σ H' s'->W (min sZ.length tu.length) ys H'->Q (.ref S) s'):wpAny (model X.prog X.w) A (call (.type "list") [.ref (N+4)]) Q E s:=by
 refine callType_codes (Q₁:=fun obj s₁=>obj= .ref s.heap.objs.size/\s₁={s with heap:=s.heap.push {cls:=.type "list",data:=.seq #[]}}) F.called_list (F.typeCall_list_1 _) F.entry_list_init
  (code_list_new _ ⟨rfl,rfl⟩) fun obj s₁ h₁=>?_
 obtain⟨rfl,rfl⟩:=h₁
 have hS:(s.heap.push {cls:=.type "list",data:=.seq #[]}).get? s.heap.objs.size=some {cls:=.type "list",data:=.seq #[]}:=Heap.get?_push_size _ rfl
 have hn:H s.heap.objs.size=none:=I.hok.fresh (Nat.le_refl _)
 obtain⟨W,zw,w0,q⟩:=h _ hn
 have I1:=I.laid (a:=s.heap.objs.size) (o:=.lst []) (t':=s.toks) (h':=s.heap.push {cls:=.type "list",data:=.seq #[]}) (fun _ _ z=>Heap.get?_push_of_some _ z) (Nat.le_refl _) (show eL X.prog X.w _ _ _ (.lst []) from⟨Nat.zero_le _,[],0,.nil,hS⟩)
 have OQ:s.heap.objs.size∉iM N:=fun z=>by have h1:=aM.mp z;have h2:=st.lt;omega
 refine⟨⟨_,hS,rfl⟩,F.args_list_init_2 _ _,MZ (A:=A.in1) hh C8 C9 OQ zw (fun ys H' s' I' w'=>⟨rfl,q ys H' s' I' w'⟩) I1 (fun b hb=>?_) (st.keep fun b hb o e=>Heap.get?_push_of_some _ e) w0⟩
 obtain⟨f0,f1,f2,f3,f4,f5⟩:=hf b hb
 have ZL:b≠s.heap.objs.size:=fun z=>OQ (z▸hb)
 exact⟨by rw[aX ZL];exact f0,f1,f2,f3,f4,f5⟩
end
noncomputable def Aq (a b:List D):List D:=List.zipWith (fun a b=>.tup [a,b]) a b
noncomputable def zx:List D->Option U
 | [d,e]=>(oF d).bind fun q=>(oF e).map fun r=>.m (.lst (Aq q.2 r.2))
 | _=>none
theorem Jz {ds:List D}{u:U}(h:zx ds=some u):∃d e k0 En k1 Ht,ds=[d,e]/\oF d=some (k0,En)/\oF e=some (k1,Ht)/\u= .m (.lst (Aq En Ht)):=by
 unfold zx at h
 split at h
 ·obtain⟨⟨k0,En⟩,h1,h⟩:=ak h
  obtain⟨⟨k1,Ht⟩,h2,rfl⟩:=aC h
  exact⟨_,_,k0,En,k1,Ht,rfl,h1,h2,rfl⟩
 ·cases h
theorem take_snoc {α:Type}{l:List α}{i:Nat}{x:α}(h:l[i]? =some x):l.take (i+1)=l.take i++[x]:=by
 rw[List.take_succ,h];rfl
section
variable {X:Cx}{a b:Expr}{p p2 pos pos2:Pos}{t:TA}{ga gb:GD}{gA:GA}
theorem ZM {K:PySem.W.Frag}{F0 H1:Hp}{S:Addr}{k0 k1:Bool}{a0 a1:Addr}{sZ tu:List V}{En Ht:List D}(hS:H1 S=none) (r0:bS F0 sZ En) (r1:bS F0 tu Ht)
  (s0:∀F' H',(∀b o,F0 b=some o->F' b=some o)->Sub F' H'->zf K H' k0 a0 sZ) (s1:∀F' H',(∀b o,F0 b=some o->F' b=some o)->Sub F' H'->zf K H' k1 a1 tu):
  ZW K k0 k1 a0 a1 sZ tu S fun i ys H=>∃F,iI F0 H1 F H/\Sub F H/\F S=none/\H S=some (.lst ys)/\ys.length=i/\bS F ys ((Aq En Ht).take i):=by
 rintro i ys H ⟨F,n,sb,fS,Xg,hl,rs⟩
 refine⟨s0 F H n.le sb,s1 F H n.le sb,Xg,hl,fun x0 x1 q h0 h1 hq=>?_⟩
 have hqS:q≠S:=fun z=>by rw[z,Xg] at hq;cases hq
 have fq:F q=none:=sb.fresh hq
 have le:∀b o,F b=some o->upd F q (.tup [x0,x1]) b=some o:=lZ fq
 obtain⟨d0,e0,k0'⟩:∃d,En[i]? =some d/\Rep F0 x0 d:=by
  have Xb:=r0.length
  have:i < En.length:=by rw[<-Xb];exact(List.getElem?_eq_some_iff.mp h0).1
  obtain⟨v,e1,e2⟩:=r0.get (i:=i) (d:=En[i]) (List.getElem?_eq_getElem this)
  rw[h0] at e1;cases e1
  exact⟨_,List.getElem?_eq_getElem this,e2⟩
 obtain⟨d1,e1,k1'⟩:∃d,Ht[i]? =some d/\Rep F0 x1 d:=by
  have Xb:=r1.length
  have:i < Ht.length:=by rw[<-Xb];exact(List.getElem?_eq_some_iff.mp h1).1
  obtain⟨v,e1,e2⟩:=r1.get (i:=i) (d:=Ht[i]) (List.getElem?_eq_getElem this)
  rw[h1] at e1;cases e1
  exact⟨_,List.getElem?_eq_getElem this,e2⟩
 have ez:(Aq En Ht)[i]? =some (.tup [d0,d1]):=by
  unfold Aq
  rw[List.getElem?_zipWith,e0,e1]
 refine⟨upd F q (.tup [x0,x1]),⟨fun c o z=>le c o (n.le c o z),fun c o z=>?_,fun c o z f=>?_⟩,fun c o z=>?_,?_,bh,by simp[hl],?_⟩
 ·have h1:c≠S:=bJ z hS
  have h2:c≠q:=bJ (n.same c o z) hq
  rw[aX h1,aX h2]
  exact n.same c o z
 ·have h2:c≠q:=bJ (n.same c o z) hq
  rw[aX h2]
  exact n.kB c o z f
 ·by_cases h2:c=q
  ·subst h2
   rw[bh] at z
   rw[aX hqS,bh]
   exact z
  ·rw[aX h2] at z
   have h1:c≠S:=fun w=>by rw[w,fS] at z;cases z
   rw[aX h1,aX h2]
   exact sb c o z
 ·rw[aX (Ne.symm hqS)];exact fS
 ·rw[take_snoc ez]
  exact(rs.le le).append (.cons (.tup bh (.cons (k0'.le fun c o z=>le c o (n.le c o z)) (.cons (k1'.le fun c o z=>le c o (n.le c o z)) .nil))) .nil)
theorem De (hc : X.calm = true) (hg : Gl X "list") (hm : X.mg "list" = none) (Qt : Gl X "zip") (hm2 : X.mg "zip" = none) (ha : PA X [a, b] t) (hs : starEach [a, b] X.env = [(false, eval a X.env), (false, eval b X.env)] := by rfl) (hs2 : starEach [b] X.env = [(false, eval b X.env)] := by rfl)
    (My:starEach [.Call (.Name "zip" p2) [a,b] [] pos2] X.env=[(false,eval (.Call (.Name "zip" p2) [a,b] [] pos2) X.env)]:=by rfl):
    PE X (.Call (.Name "list" p) [.Call (.Name "zip" p2) [a,b] [] pos2] [] pos) (fun σ H Q=>t σ H fun vs H1=>rP zx vs H1 Q):=by
  intro pins s σ H Q I h
  refine wpAny_Call_Name_kw (kU I hg hm PyProof.Rows.Boot.list ?_)
  refine PyProof.Rows.callWith_type1 ?_ (by rw[My];rfl) rfl
  rw[My]
  refine Calls.spliced_cons (Call_ (kU I Qt hm2 boot_zip (PyProof.Rows.callWith_type1 (fJ (ha pos2 pins s σ H _ I h) fun us s1 ⟨vs,H1,I1,r1,q1⟩=>?_) (by rw[hs,hs2]) (by rw[hs2];rfl))))
  obtain⟨F0,ds,w,sb,rs,hw,q⟩:=q1
  obtain⟨d,e,k0,En,k1,Ht,rfl,e0,e1,rfl⟩:=Jz hw
  cases rs with
  | cons ra rs=>
    cases rs with
    | cons rb rs=>
      cases rs
      obtain⟨a0,sZ,rfl,y0,z0⟩:=sb.BD (K:=X.K) ra e0
      obtain⟨a1,tu,rfl,y1,z1⟩:=sb.BD (K:=X.K) rb e1
      obtain⟨u0,u1,rfl,v0,v1⟩:=r1.two
      cases v0
      cases v1
      obtain⟨Jp,MG,p0,hz0⟩:=I1.C7 (z0 F0 H1 (fun _ _ z=>z) sb)
      obtain⟨Jq,MH,p1,hz1⟩:=I1.C7 (z1 F0 H1 (fun _ _ z=>z) sb)
      refine BC p0 p1 fun h' st hk=>Calls.spliced_nil ?_
      have I2:=I1.kept (t':=s1.toks) hk
      refine BL (X:=X) (sZ:=sZ) (tu:=tu) (I1.ok.hd hc) p0.lt p1.lt I2 (fun b hb=>?_) st.l fun S hS=>⟨_,ZM hS y0 y1 z0 z1,⟨F0,iI.obj hS _,sb.same (iI.obj (F:=F0) hS _).same,sb.fresh hS,bh,rfl,.nil⟩,fun ys H' s' I' w'=>?_⟩
      . have hb:s1.heap.objs.size<=b:=(aM.mp hb).1
        exact I1.xY hb (I1.hok.fresh hb)
      . obtain⟨F,n,sb',fS,Xg,hl,rs⟩:=w'
        refine⟨.ref S,H',I',rfl,q _ F H' n sb' ⟨S,rfl,hS,fS,ys,Xg,?_⟩⟩
        rw[List.take_of_length_le (by unfold Aq;rw[List.length_zipWith,<-y0.length,<-y1.length];exact Nat.le_refl _)] at rs
        exact rs
theorem Df (hc:X.calm=true) (hg:Gl X "list") (hm:X.mg "list" =none) (Qt:Gl X "zip") (hm2:X.mg "zip" =none) (ha:JA X [a,b] gA) (hs:starEach [a,b] X.env=[(false,eval a X.env),(false,eval b X.env)]:=by rfl) (hs2:starEach [b] X.env=[(false,eval b X.env)]:=by rfl)
  (My:starEach [.Call (.Name "zip" p2) [a,b] [] pos2] X.env=[(false,eval (.Call (.Name "zip" p2) [a,b] [] pos2) X.env)]:=by rfl):
  JE X (.Call (.Name "list" p) [.Call (.Name "zip" p2) [a,b] [] pos2] [] pos) (eP zx gA):=
 ⟨fun B=>(De hc hg hm Qt hm2 (ha.h B) hs hs2 My).imp fun σ H Q h=>jC (fun _ _ _ z=>z) h⟩
end
theorem Dg {K : PySem.W.Frag} {B : Base} {cap : List Nat} {gi : GI} {q : GT} {g : GD} {σ : St} {H : Hp} {Q : VK} (h : tE K B (jE cap gi q g) σ H Q) : MW K (Va K B gi) cap (fun σ H Q => ∃ B, tQ K B q σ H Q) (fun σ H Q => ∃ B, tD K B g σ H Q) σ H Q := by
  obtain⟨x,_⟩:∃x:Str,True:=⟨"",trivial⟩
  obtain⟨S,F,u,S',R,hg,k⟩:=h
  obtain⟨⟨ds,S1⟩,h1,hg⟩:=ak hg
  dsimp only at hg
  split at hg
  . rename_i hlen
    obtain⟨⟨res,Sf⟩,h2,hg⟩:=aC hg
    cases hg
    refine⟨S,F,ds,S1,R,h1,fun J F1 H1 R1 st1 w=>?_⟩
    refine⟨fun i m ys H'=>∃S2 F2 acc,Rel K B S2 σ F2 H'/\Step S S2 σ F H F2 H'/\(∀b o,F1 b=some o->F2 b=some o)/\bS F2 ys acc/\acc.length<=i/\i<=ds.length/\m=ds.length - i/\fy cap q g (ds.drop i) S2 acc=some (res,Sf),
      ⟨_,S1,F1,[],R1,st1,fun _ _ z=>z,.nil,Nat.le_refl _,Nat.zero_le _,rfl,h2⟩,?_⟩
    rintro i m ys H' ⟨S2,F2,acc,R2,st2,le,ry,ha,hl,rfl,dP⟩
    refine⟨by rw[ry.length];exact Nat.lt_of_le_of_lt (Nat.le_trans ha (Nat.le_trans hl hlen)) (by decide),?_⟩
    have w':=w F2 H' le R2.sub i
    by_cases hlt:i < ds.length
    . have hd:ds[i]? =some ds[i]:=List.getElem?_eq_getElem hlt
      obtain⟨go,yl⟩:=w'.1 _ hd
      rw[List.drop_eq_getElem_cons hlt] at dP
      refine .inr ⟨go,fun xv H3 y=>?_⟩
      obtain⟨FN,n3,sb3,rx⟩:=yl xv H3 y
      obtain⟨da,db,ZF⟩:∃da db,ds[i]= .tup [da,db]:=by
        generalize ds[i]=dd at dP
        unfold fy at dP
        split at dP
        . rename_i z;cases z
        . rename_i z;injection z with z1 z2;exact⟨_,_,z1⟩
        . cases dP
      have R2:Rel K B S2 σ FN H3:=R2.new n3 sb3
      have st2:Step S S2 σ F H FN H3:=st2.trans n3.step
      have le:∀b o,F1 b=some o->FN b=some o:=fun b o z=>n3.le b o (le b o z)
      have ry:=ry.le n3.le
      rw[ZF] at dP rx
      obtain⟨pa,xs2,ZG,fpa,hpa,LI⟩:=R2.sub.kr rx
      obtain⟨x1,x2,exs,ZI,ZJ⟩:=BH LI
      subst exs ZG
      obtain⟨us,e1,dP⟩:=ak (show(eZ S2 cap).bind _=_ from dP)
      split at dP
      . rename_i hnd
        obtain⟨ws,e2,dP⟩:=ak dP
        obtain⟨⟨bk,T1⟩,e3,dP⟩:=ak dP
        obtain⟨vs,k1,k2⟩:=Ae R2 e1
        have rr:Paired (fun v u=>kD K B S2 σ H3 FN H3 v u) (x1 :: x2 :: vs) (.t da :: .t db :: us):=.cons ZI (.cons ZJ k2)
        have er:=ow R2 da (ow R2 db e2)
        have ar:=rK R2 rr er
        have nd:=fL R2 rr er hnd.1 hnd.2
        have R3:=pR (n:=ws.length+2) R2.sub ar nd (List.replicate (ws.length+2) x) (by simp)
        have hvl:vs.length=ws.length:=by have:=ar.length;simpa using this
        have es:start (List.replicate (ws.length+2) x) (x1 :: x2 :: vs)=some x1 :: some x2 :: cR cap σ:=by
          unfold start;rw[k1];simp[hvl]
        have eS:(U.t da :: U.t db :: ws).map some++List.replicate (ws.length+2 - (U.t da :: U.t db :: ws).length) none=some (U.t da) :: some (U.t db) :: ws.map some:=by simp
        rw[es,eS] at R3
        have back:∀(T2:SS) (F3 H4:Hp) (outs:List MO) (S3:SS),Rel K ⟨lent (x1 :: x2 :: vs) (U.t da :: U.t db :: ws),FN,H3⟩ T2 (some x1 :: some x2 :: cR cap σ) F3 H4->aH (U.t da :: U.t db :: ws) T2=some outs->wb us outs S2=some S3->Rel K B S3 σ F3 H4/\Step S S3 σ F H F3 H4/\(∀b o,FN b=some o->F3 b=some o):=fun T2 F3 H4 outs S3 RT ho hw=>by
          have po:=post_of ar T2 _ F3 H4 outs RT ho
          obtain⟨Ra,wC,_⟩:=lq (S0:=S2) (F0:=FN) (H0:=H3) R2 (Step.refl ..) rr er (show wb (U.t da :: U.t db :: us) outs S2=some S3 by cases outs <;> exact hw) hnd.1 po
          exact⟨Ra,st2.trans wC,wC.ext.le⟩
        refine⟨pa,x1,x2,rfl,.inl hpa,_,_,FN,bk,T1,R3,e3,fun F3 H4 OI UW=>?_⟩
        cases bk with
        | true=>
          obtain⟨⟨yd,T2⟩,e4,dP⟩:=ak (show(g T1).bind _=_ from dP)
          obtain⟨outs,e5,dP⟩:=ak dP
          obtain⟨S3,e6,dP⟩:=ak dP
          refine zX ⟨_,T1,F3,yd,T2,OI,e4,fun yv F4 H5 UX UY UZ=>?_⟩
          obtain⟨Ra,wC,Bt⟩:=back T2 F4 H5 outs S3 UX e5 e6
          refine⟨ds.length - (i+1),by omega,S3,F4,acc++[yd],Ra,wC,fun b o z=>Bt b o (le b o z),(ry.le Bt).append (.cons UZ .nil),by simp;omega,hlt,rfl,dP⟩
        | false=>
          obtain⟨outs,e5,dP⟩:=ak (show(aH (U.t da :: U.t db :: ws) T1).bind _=_ from dP)
          obtain⟨S3,e6,dP⟩:=ak dP
          obtain⟨Ra,wC,Bt⟩:=back T1 F3 H4 outs S3 OI e5 e6
          exact zW ⟨ds.length - (i+1),by omega,S3,F3,acc,Ra,wC,fun b o z=>Bt b o (le b o z),ry.le Bt,by omega,hlt,rfl,dP⟩
      . cases dP
    . have e:i=ds.length:=by omega
      subst e
      rw[List.drop_length] at dP
      cases dP
      refine .inl ⟨w'.2 (Nat.le_refl _),fun p hp=>?_⟩
      have n:=iI.obj (F:=F2) hp (.lst ys)
      refine k (.ref p) F2 _ (R2.new n (R2.sub.same n.same)) (st2.trans n.step) ⟨p,rfl,none_of st2.ext.there hp,R2.sub.fresh hp,⟨ys,bh,ry⟩,fun m=>?_,none_of R2.ext.there hp⟩
      obtain⟨o,ho⟩:=R2.has m
      rw[hp] at ho
      cases ho
  . cases hg
theorem zy {X:Cx}{elt iter:Expr}{ifs:List Expr}{x y0:Str}{px py pt pos:Pos}{k0:Nat}{scope:Scope}{cl:List (Str×Addr)}{cE:List Str}{cap:List Nat}{gi:GI}{q:GT}{g:GD}(T:oG X x y0 cE cap scope cl) (hc:X.calm=true) (hi:Xc X (.Tuple [.Name x px,.Name y0 py] k0 pt) iter gi)
  (ht:∀C s H fp,SX (dM X (x :: y0 :: cE) scope cl C s H fp) ifs q) (he:∀C s H fp,JD (dM X (x :: y0 :: cE) scope cl C s H fp) elt g)
  (hs:∀x,foldedSetIterable iter X.env x=pure x:=by intro _;rfl):JE X (.ListComp elt [⟨.Tuple [.Name x px,.Name y0 py] k0 pt,iter,ifs,0⟩] scope pos) (jE cap gi q g):=⟨fun B=>
 (zq (tc:=fun σ H Q=>∃B,tQ X.K B q σ H Q) (te:=fun σ H Q=>∃B,tD X.K B g σ H Q) T hc (hi.h B) (fun C s H fp pins s' σ H' Q I ⟨B',z⟩=>(ht C s H fp).h B' pins s' σ H' Q I z) (fun C s H fp pins s' σ H' Q I ⟨B',z⟩=>(he C s H fp).h B' pins s' σ H' Q I z) hs).imp fun σ H Q h=>Dg h⟩
noncomputable def ZN (K:PySem.W.Frag) (a:Addr) (n:Nat):It:=
 ⟨fun i H=>∃xs,m6 K H a xs/\xs.length=n/\i < n,fun i H x H'=>H'=H/\∀xs,m6 K H a xs->xs[n - 1 - i]? =some x,fun i H=>∃xs,m6 K H a xs/\xs.length=n/\n<=i⟩
theorem JC {P:Program}{w:World}{K:PySem.W.Frag}{tg:Expr}(a it:Addr) (n:Nat):Turn P w K tg (ZN K a n) [it] it (fun i h=>i<=n/\h.IsRevIter it a ((n:Int) - 1 - (i:Int))) where
 mem:=by simp
 obj:=fun i h st b hb=>by
  have e:b=it:=by simpa using hb
  subst e
  obtain⟨_,o,e,c,d⟩:=st
  exact⟨o,e,fun v z=>by rw[d] at z;cases z⟩
 keep:=fun i h h' st k=>⟨st.1,st.2.at fun o e=>k it (by simp) o e⟩
 item:=by
  intro X hP hw hK hc i pins s σ H E I hf st hg
  subst hP hw hK
  obtain⟨xs,hq,hl,hi⟩:=hg
  obtain⟨its,rv,p,hz⟩:=I.list hq
  have el:=rv.length
  obtain⟨x,hx⟩:∃x,xs[n - 1 - i]? =some x:=⟨xs[n - 1 - i]'(by omega),List.getElem?_eq_getElem _⟩
  obtain⟨u,hu,ru⟩:=rv.get hx
  obtain⟨f0,f1,f2,f3,f4,f5⟩:=hf it (by simp)
  have e:(n:Int) - 1 - (i:Int)=((n - 1 - i:Nat):Int):=by omega
  have hit:=st.2
  rw[e] at hit
  refine wpAny_pyNext_rev_item hit p.isList (x:=u) (by simpa using hu) fun h' st' sb=>?_
  have I1:Inv X pins σ H {s with heap:=h'}:=I.turned (t':=s.toks) (fun b o hb e=>(sb.2 b hb).trans e) f0 f1 f3 f4 f5
  have e2:((n - 1 - i:Nat):Int) - 1=(n:Int) - 1 - ((i+1:Nat):Int):=by omega
  rw[e2] at st'
  obtain⟨o,e,c,d⟩:=id st'
  exact⟨u,rfl,D3 (s:={s with heap:=h'}) e c d (by decide) ⟨x,H,I1,ru,⟨rfl,fun ys hy=>by rw[I.vO hy hq];exact hx⟩,⟨hi,st'⟩,fun b hb=>(hf b hb).1⟩⟩
 done:=by
  intro X hP hw hK hc i pins s σ H E I hf st hg
  subst hP hw hK
  obtain⟨xs,hq,hl,hi⟩:=hg
  obtain⟨f0,f1,f2,f3,f4,f5⟩:=hf it (by simp)
  have e:(n:Int) - 1 - (i:Int)=-1:=by have:=st.1;omega
  have hit:=st.2
  rw[e] at hit
  exact wpAny_pyNext_rev_end (I.ok.hd hc) hit fun h' eb=>⟨rfl,I.turned (t':=s.toks) (fun b o hb e=>eb b o hb e) f0 f1 f3 f4 f5⟩
 self:=fun _ _ _ _ _ st h=>wpAny_pyIter_revIter st.2 h
section
variable {X:Cx}{tg a b:Expr}{p pos:Pos}{ta:TA}{gA:GA}
noncomputable def ZO (K:PySem.W.Frag) (ta:TA):TI:=fun σ H R=>ta σ H fun vs H1=>∃c xs,vs=[.ref c]/\m6 K H1 c xs/\R (ZN K c xs.length) H1
theorem QK (hg:Gl X "reversed") (hm:X.mg "reversed" =none) (ha:PA X [a] ta) (hs:starEach [a] X.env=[(false,eval a X.env)]:=by rfl):PI X tg (.Call (.Name "reversed" p) [a] [] pos) (ZO X.K ta):=by
 intro pins s σ H R I h
 refine Call_ (kU I hg hm boot_reversed (PyProof.Rows.callWith_type1 (fJ (ha pos pins s σ H _ I h) fun us s1 ⟨vs,H1,I1,r1,q1⟩=>?_) hs rfl))
 obtain⟨c,xs,e,hq,q⟩:=q1
 subst e
 cases r1 with
 | cons r rr=>
  cases rr
  cases r
  obtain⟨its,rv,pl,hz⟩:=I1.list hq
  have el:=rv.length
  refine call_reversed_list pl.isList ?_
  have I2:Inv X pins σ H1 {s1 with heap:=s1.heap.push (revObj c ((its.toArray.size:Int) - 1))}:=I1.kept (t':=s1.toks) fun b o e=>Heap.get?_push_of_some _ e
  have st:(s1.heap.push (revObj c ((its.toArray.size:Int) - 1))).IsRevIter s1.heap.objs.size c ((its.toArray.size:Int) - 1):=⟨_,Heap.get?_push_size _ rfl,rfl,rfl⟩
  refine wpAny_pyIter_revIter (s:={s1 with heap:=s1.heap.push (revObj c ((its.toArray.size:Int) - 1))}) st ?_
  refine⟨s1.heap.objs.size,[s1.heap.objs.size],_,_,H1,rfl,I2,JC c _ xs.length,⟨Nat.zero_le _,?_⟩,fun b hb=>?_,q⟩
  ·have e:(its.toArray.size:Int) - 1=(xs.length:Int) - 1 - ((0:Nat):Int):=by simp;omega
   rw[<-e]
   exact st
  ·have e:b=s1.heap.objs.size:=by simpa using hb
   subst e
   exact I1.xY (Nat.le_refl _) (I1.hok.fresh (Nat.le_refl _))
theorem JF {K:PySem.W.Frag}{F:Hp}{c:Addr}{vs:List V}{ds:List D}(fa:F c=some (.lst vs)) (rs:bS F vs ds):Walk (ZN K c vs.length) F ds.reverse:=fun F' H' le sb i=>by
 have ha:m6 K H' c vs:=.inl (Rd.of (sb c _ (le _ _ fa)))
 have hl:=rs.length
 refine⟨fun d hd=>?_,fun hi=>⟨vs,ha,rfl,by rw[List.length_reverse] at hi;omega⟩⟩
 have hi:i < ds.length:=by have:=(List.getElem?_eq_some_iff.mp hd).1;simpa using this
 rw[List.getElem?_reverse hi] at hd
 obtain⟨v,h1,h2⟩:=rs.get hd
 refine⟨⟨vs,ha,rfl,by omega⟩,fun x H2 y=>⟨y.1,?_⟩⟩
 have:=y.2 vs ha
 rw[hl,h1] at this
 cases this
 exact h2.le le
noncomputable def QL (gA:GA):GI:=fun S=>(gA S).bind fun p=>match p.1 with
 | [.lst ds]=>some (ds.reverse,p.2)
 | _=>none
theorem QM (hg:Gl X "reversed") (hm:X.mg "reversed" =none) (ha:JA X [a] gA) (hs:starEach [a] X.env=[(false,eval a X.env)]:=by rfl):JI X tg (.Call (.Name "reversed" p) [a] [] pos) (QL gA):=⟨fun B=>PI.orelse fun σ H R0 ⟨S,F,ds,S',R,hg',k⟩=>by
 obtain⟨⟨args,S1⟩,h1,hg'⟩:=ak hg'
 dsimp only at hg'
 split at hg'
 ·rename_i l
  cases hg'
  refine⟨_,QK hg hm (ha.h B) hs,S,F,_,_,R,h1,fun vs F1 H1 R1 st1 r1=>?_⟩
  cases r1 with
  | cons r rr=>
   cases rr
   obtain⟨c,xs,rfl,fa,hq,rs⟩:=R1.sub.jY r
   exact⟨c,xs,rfl,.inl hq,k _ F1 H1 R1 st1 (JF fa rs)⟩
 ·cases hg'⟩
noncomputable def ZP:List D->Option U
 | [.int j]=>if j < 1000000/\-1000000 < j then some (.m (.lst (nN 0 j.toNat))) else none
 | _=>none
noncomputable def lD:List D->Option U
 | [.int i,.int j]=>if i < 1000000/\-1000000 < i/\j < 1000000/\-1000000 < j then some (.m (.lst (nN i (j - i).toNat))) else none
 | _=>none
theorem Ge {lo:Int}{n:Nat}{acc:Array Value}(h:ItemsOf (fun i v=>∃t,v= .int (lo+i * 1) t) acc n):Vals ((List.range n).map fun k=>V.int (lo+(k:Nat))) acc.toList:=by
 obtain⟨hn,hi⟩:=h
 have gen:∀(m:Nat),m<=n->Vals (((List.range n).map fun k=>V.int (lo+(k:Nat))).drop (n - m)) (acc.toList.drop (n - m)):=by
  intro m
  induction m with
  | zero=>intro _;rw[List.drop_of_length_le (by simp),List.drop_of_length_le (by simp[hn])];exact .nil
  | succ m ih=>
   intro hm
   have h1:n - (m+1) < n:=by omega
   have e1:n - (m+1)+1=n - m:=by omega
   rw[List.drop_eq_getElem_cons (by simpa using h1),List.drop_eq_getElem_cons (l:=acc.toList) (by simpa[hn] using h1),e1]
   refine .cons ?_ (ih (by omega))
   obtain⟨t,ht⟩:=hi (n - (m+1)) _ (Array.getElem?_eq_getElem (by rw[hn];exact h1))
   simp only[List.getElem_map,List.getElem_range,Array.getElem_toList]
   refine⟨t,ht.trans ?_⟩
   rw[Int.mul_one]
 have:=gen n (Nat.le_refl _)
 simpa using this
theorem JH (F:Hp) (lo:Int) (n:Nat):bS F ((List.range n).map fun k=>V.int (lo+(k:Nat))) (nN lo n):=by
 unfold nN
 generalize List.range n=l
 induction l with
 | nil=>exact .nil
 | cons a l ih=>exact .cons (.int _) ih
theorem ym {pins:List (Addr×Obj)}{σ:St}{H F:Hp}{s:Shared}{E:Value->Shared->Prop}{Q:VK}{lo hi:Int}{t u v:Tok}{tk:Nat}(hc:X.calm=true) (I:Inv X pins σ H s) (sb:Sub F H) (h1:lo < 1000000) (h2:-1000000 < lo) (h3:hi < 1000000) (h4:-1000000 < hi)
  (q:∀w F' H',iI F H F' H'->Sub F' H'->CY H F' H' w (.m (.lst (nN lo (hi - lo).toNat)))->Q w H'):
  wpAny (model X.prog X.w) X.A (call (.type "list") [.ref s.heap.objs.size]) (EP X pins σ Q) E {s with heap:=s.heap.push {cls:=.type "range",data:=.fields #[.int lo t,.int hi u,.int 1 v]},toks:=tk}:=by
 have I1:Inv X pins σ H {s with heap:=s.heap.push {cls:=.type "range",data:=.fields #[.int lo t,.int hi u,.int 1 v]},toks:=tk}:=I.kept fun b o e=>Heap.get?_push_of_some _ e
 have hn:Builtin.Range.rangeSize lo hi 1=((hi - lo).toNat:Nat):=by rw[rangeSize_one];split <;> omega
 refine call_list_range (I.ok.hd hc) (IsRange.new ..) (small_one (by omega) (by omega) (by omega) (by omega)) hn (by omega) fun h' tk' acc c hk hS hacc=>?_
 have hp:H (s.heap.push {cls:=.type "range",data:=.fields #[.int lo t,.int hi u,.int 1 v]}).objs.size=none:=I1.hok.fresh (Nat.le_refl _)
 have rv:=Ge hacc
 have I2:=I1.laid (a:=(s.heap.push {cls:=.type "range",data:=.fields #[.int lo t,.int hi u,.int 1 v]}).objs.size) (o:=.lst ((List.range (hi - lo).toNat).map fun k=>V.int (lo+(k:Nat)))) (t':=tk') (h':=h') hk (Nat.le_refl _)
  ⟨by rw[List.length_map,List.length_range,sizeLine_eq];omega,acc.toList,c,rv,hS⟩
 exact⟨.ref _,_,I2,rfl,q _ F _ (iI.obj hp _) (sb.same (iI.obj (F:=F) hp _).same) ⟨_,rfl,hp,sb.fresh hp,_,bh,JH F lo _⟩⟩
variable {p2 pos2:Pos}
theorem uQ (hc : X.calm = true) (hg : Gl X "list") (hm : X.mg "list" = none) (Qt : Gl X "range") (hm2 : X.mg "range" = none) (ha : JA X [a, b] gA) (hs : starEach [a, b] X.env = [(false, eval a X.env), (false, eval b X.env)] := by rfl) (hs2 : starEach [b] X.env = [(false, eval b X.env)] := by rfl)
    (My:starEach [.Call (.Name "range" p2) [a,b] [] pos2] X.env=[(false,eval (.Call (.Name "range" p2) [a,b] [] pos2) X.env)]:=by rfl):
    JE X (.Call (.Name "list" p) [.Call (.Name "range" p2) [a,b] [] pos2] [] pos) (eP lD gA):=⟨fun B=>by
  intro pins s σ H Q I h
  have h:=jC (fun _ _ _ z=>z) h
  refine wpAny_Call_Name_kw (kU I hg hm PyProof.Rows.Boot.list ?_)
  refine PyProof.Rows.callWith_type1 ?_ (by rw[My];rfl) rfl
  rw[My]
  refine Calls.spliced_cons (Call_ (kU I Qt hm2 boot_range (PyProof.Rows.callWith_type1 (fJ (ha.h B pos2 pins s σ H _ I h) fun us s1 ⟨vs,H1,I1,r1,q1⟩=>?_) (by rw[hs,hs2]) (by rw[hs2];rfl))))
  obtain⟨F0,ds,w,sb,rs,hw,q⟩:=q1
  unfold lD at hw
  split at hw
  . obtain⟨h1,rfl⟩:=cJ hw
    cases rs with
    | cons ra rs=>
      cases rs with
      | cons rb rs=>
        cases rs
        cases ra
        cases rb
        cases r1 with
        | cons r rr=>
          cases rr with
          | cons r' rr=>
            cases rr
            obtain⟨t,rfl⟩:=r
            obtain⟨t',rfl⟩:=r'
            exact call_range_2 (Calls.spliced_nil (ym hc I1 sb h1.1 h1.2.1 h1.2.2.1 h1.2.2.2 q))
  . cases hw⟩
theorem Dh:iY X (.type "dict") (fun xs H Q=>∃c kvs,xs=[.ref c]/\H c=some (.dK kvs)/\∀l,H l=none->Q (.ref l) (upd H l (.dK kvs))):=by
 intro pins s σ H xs us Q I r ⟨c,kvs,e,hc,q⟩
 subst e
 cases r with
 | cons r1 rr=>
  cases rr
  cases r1
  obtain⟨z,hd,vs,rel,dd⟩:=HS I.hok hc
  refine kt_call_dict hd dd (by rw[<-rel.length];exact z) fun h' L4 hs=>?_
  have hp:=I.hok.fresh (Nat.le_refl s.heap.objs.size)
  have kp:∀b u,s.heap.get? b=some u->h'.get? b=some u:=fun b u e=>(hs.2 b (Nat.ne_of_lt (Heap.lt_size e))).trans (Heap.get?_push_of_some _ e)
  exact⟨.ref _,_,I.laid (a:=s.heap.objs.size) (o:=.dK kvs) (t':=s.toks) (h':=h') kp (Nat.le_refl _) ⟨z,beq_eq_false_iff_ne.mpr (Ne.symm (Nat.ne_of_lt I.big)),vs,rel,L4⟩,rfl,q _ hp⟩
noncomputable def tZ (i:Nat):GE:=fun S=>match S[i]? with
 | some (some (.m (.dct kvs)))=>some (.m (.dct kvs),S)
 | some (some (.b (.dct kvs)))=>some (.m (.dct kvs),S)
 | _=>none
theorem Gf {i:Nat}{S S':SS}{u:U}(h:tZ i S=some (u,S')):∃w kvs,S[i]? =some (some w)/\ir w=true/\Qo w=some (.dct kvs)/\u= .m (.dct kvs)/\S'=S:=by
 unfold tZ at h
 split at h
 ·rename_i kvs e;cases h;exact⟨_,kvs,e,rfl,rfl,rfl,rfl⟩
 ·rename_i kvs e;cases h;exact⟨_,kvs,e,rfl,rfl,rfl,rfl⟩
 ·cases h
theorem JJ {i:Nat}{x:Str}{px:Pos}(hg:Gl X "dict") (hm:X.mg "dict" =none) (hN:X.N[i]? =some x:=by rfl) (hv:CJ X.env.scope x:=by first | exact Or.inl rfl | exact Or.inr (Or.inl rfl) | exact Or.inr (Or.inr rfl))
  (hd:(x == ("__debug__":Str))=false:=by decide) (hcd:(x == ("__classdict__":Str))=false:=by decide) (he:starEach [.Name x px] X.env=(false,eval (.Name x px) X.env) :: starEach [] X.env:=by rfl) (hpl:(backTo pos (starEach [] X.env)).any (·.1)=false:=by rfl):
  JE X (.Call (.Name "dict" p) [.Name x px] [] pos) (tZ i):=⟨fun B=>
 (yW Dh hg hm PyProof.Rows.Boot.dict (m8 (iy hN hv hd hcd) vQ he) (by decide) (by decide) he hpl).imp fun σ H Q ⟨S,F,u,S',R,hg',q⟩=>by
  obtain⟨w,kvs,hS,Ms,hin,rfl,rfl⟩:=Gf hg'
  obtain⟨v0,hv0,r0⟩:=R.rep i w hS
  obtain⟨c,o,rfl,fc,eo,at0⟩:=r0.dQ Ms
  rw[hin] at eo
  cases eo
  obtain⟨ws,hc,pr⟩:=at0
  refine⟨_,hv0,c,ws,rfl,hc,fun l hl=>?_⟩
  have n:=iI.obj (F:=F) hl (.dK ws)
  have hn:¬dQ S' σ l:=fun m=>by obtain⟨o,ho⟩:=R.has m;rw[hl] at ho;cases ho
  exact q (.ref l) F _ (R.new n (R.sub.same n.same)) n.step ⟨l,rfl,hl,R.sub.fresh hl,⟨ws,bh,pr⟩,hn,none_of R.ext.there hl⟩⟩
end
end L2
end
section
namespace L2
open PySem PySem.Spec PyProof.Rows
section
variable (S:SS) (d e:D) (o:MO) (i j:Nat) (g ga gb gc:GD) (ge:GE) (q q1 q2:GT) (gA:GA) (gu:GU) (a b:GS) (f f':List D->Option U) (fm:FM) (bd:GB) (gi:GI)
@[simp] theorem ZQ:aj i S=match S[i]? with | some (some (.t d))=>some (.t d,S) | some (some (.s d))=>some (.s d,S) | some (some (.f d))=>some (.f d,S) | some (some _)=>some (.v i,S) | _=>none:=rfl
@[simp] theorem agp:eC d S=some (d,S):=rfl
@[simp] theorem ZR:aq S=some ([],S):=rfl
@[simp] theorem Xh:aa g gA S=(g S).bind fun p=>(gA p.2).map fun q=>(p.1 :: q.1,q.2):=rfl
@[simp] theorem agq:eP f gA S=(gA S).bind fun p=>(f p.1).map fun u=>(u,p.2):=rfl
@[simp] theorem agr:eF ge S=(ge S).bind fun p=>fz p.1 p.2:=rfl
@[simp] theorem ags:eT g S=(g S).map fun p=>(.t p.1,p.2):=rfl
@[simp] theorem ZS:fz (.t d) S=some (d,S):=rfl
@[simp] theorem ZT (ds:List D):fz (.m (.lst ds)) S=some (.lst ds,S):=rfl
@[simp] theorem ZU:fz (.v i) S=match S[i]? with | some (some (.t d))=>some (d,S) | some (some (.m (.lst ds)))=>some (.lst ds,S.set i (some (.t (.lst ds)))) | _=>none:=rfl
@[simp] theorem agt:qB g S=(g S).bind fun p=>match p.1 with | .bl k=>some (k,p.2) | _=>none:=rfl
@[simp] theorem ZV:wg q S=(q S).map fun p=>(!p.1,p.2):=rfl
@[simp] theorem ZX:mH q1 q2 S=(q1 S).bind fun p=>if p.1 then q2 p.2 else some (false,p.2):=rfl
@[simp] theorem Vg:wj q1 q2 S=(q1 S).bind fun p=>if p.1 then some (true,p.2) else q2 p.2:=rfl
@[simp] theorem agu:eQ q S=(q S).map fun p=>(.bl p.1,p.2):=rfl
@[simp] theorem Xi:dj S=some (true,S):=rfl
@[simp] theorem aet:eCh f f' ga gb gc S=(ga S).bind fun p=>(gb p.2).bind fun q=>match f [p.1,q.1] with
 | some (.t (.bl k))=>if k then(gc q.2).bind fun r=>match f' [q.1,r.1] with
   | some (.t (.bl k'))=>some (.bl k',r.2)
   | _=>none
  else some (.bl false,q.2)
 | _=>none:=rfl
@[simp] theorem aeu (g1 g2:GE):Qk q g1 g2 S=(q S).bind fun p=>if p.1 then g1 p.2 else g2 p.2:=rfl
@[simp] theorem ZY:cF S=some (.nx S):=rfl
@[simp] theorem QN:aQ a b S=(a S).bind fun o=>match o with | .nx S1=>b S1 | o=>some o:=rfl
@[simp] theorem ZZ:cG i ge S=(ge S).bind fun p=>match p.1 with | .m o=>(rG i (.m o) p.2).map .nx | u=>(fz u p.2).bind fun q=>(rG i (.t q.1) q.2).map .nx:=rfl
@[simp] theorem ia (u:U):rG i u S=match S[i]? with | some (some (.b _))=>none | some _=>some (S.set i (some u)) | none=>none:=rfl
@[simp] theorem Xj:wA ge S=(ge S).map fun p=>.nx p.2:=rfl
@[simp] theorem Z0:cu ge S=(ge S).bind fun p=>match p.1 with
 | .v i=>match p.2[i]? with
  | some (some (.t d))=>some (.rt (.t d) p.2)
  | some (some (.m o))=>some (.rt (.m o) (p.2.set i none))
  | _=>none
 | .s _=>none
 | .f _=>none
 | u=>some (.rt u p.2):=rfl
@[simp] theorem JK:gT q a b S=(q S).bind fun p=>if p.1 then a p.2 else b p.2:=rfl
@[simp] theorem Z1:Qm bd g S=(g S).bind fun p=>(bd p.1 p.2).map .nx:=rfl
@[simp] theorem Xk:bName i d S=rG i (.t d) S:=rfl
@[simp] theorem Di:qd bd gi a S=(gi S).bind fun p=>loop bd a p.1 p.2:=rfl
@[simp] theorem Z2:yf g S=(g S).bind fun p=>match p.1 with | .tup ds=>some (ds,p.2) | .lst ds=>some (ds,p.2) | _=>none:=rfl
@[simp] theorem Xl:lg gA S=(gA S).bind fun p=>match p.1 with | [.int j]=>if j < 1000000/\-1000000 < j then some (nN 0 j.toNat,p.2) else none | _=>none:=rfl
@[simp] theorem QO:loop bd a [] S=some (.nx S):=rfl
@[simp] theorem Z3:bG S=some ([],S):=rfl
@[simp] theorem Z4:aK g gu S=(g S).bind fun p=>(gu p.2).map fun q=>(.t p.1 :: q.1,q.2):=rfl
@[simp] theorem Z5:cB ge gu S=(ge S).bind fun p=>(gu p.2).map fun q=>(p.1 :: q.1,q.2):=rfl
@[simp] theorem Xm:aU fm gu S=(gu S).bind fun p=>if(slotsOf p.1).Nodup/\dh p.1<=1 then(cO p.2 p.1).bind fun us=>(fm us).bind fun r=>(wb p.1 r.2 p.2).map fun S2=>(r.1,S2) else none:=rfl
@[simp] theorem S8:cO S []=some []:=rfl
@[simp] theorem QS (u:U) (us:List U):cO S (u :: us)=(resolve S u).bind fun w=>(cO S us).map fun ws=>w :: ws:=rfl
@[simp] theorem Xn:resolve S (.t d)=some (.t d):=rfl
@[simp] theorem Xo:resolve S (.m o)=some (.b o):=rfl
@[simp] theorem Xp (ns:List Int):resolve S (.s ns)=some (.s ns):=rfl
@[simp] theorem Xq:resolve S (.v i)=match S[i]? with | some (some (.m o))=>some (.b o) | some (some (.b o))=>some (.b o) | _=>none:=rfl
@[simp] theorem Vh:slotsOf []=[]:=rfl
@[simp] theorem Z6 (us:List U):slotsOf (.t d :: us)=slotsOf us:=rfl
@[simp] theorem Z7 (us:List U):slotsOf (.m o :: us)=slotsOf us:=rfl
@[simp] theorem Z8 (ns:List Int) (us:List U):slotsOf (.s ns :: us)=slotsOf us:=rfl
@[simp] theorem Z9 (us:List U):slotsOf (.v i :: us)=i :: slotsOf us:=rfl
@[simp] theorem Vi:dh []=0:=rfl
@[simp] theorem aaa (us:List U):dh (.t d :: us)=dh us:=rfl
@[simp] theorem aab (us:List U):dh (.m o :: us)=dh us+1:=rfl
@[simp] theorem aac (ns:List Int) (us:List U):dh (.s ns :: us)=dh us:=rfl
@[simp] theorem aad (us:List U):dh (.v i :: us)=dh us:=rfl
@[simp] theorem Vj:wb [] [] S=some S:=rfl
@[simp] theorem aae (us:List U) (os:List MO):wb (.t d :: us) os S=wb us os S:=by cases os <;> rfl
@[simp] theorem aaf (ns:List Int) (us:List U) (os:List MO):wb (.s ns :: us) os S=wb us os S:=by cases os <;> rfl
@[simp] theorem aag (us:List U) (os:List MO):wb (.m o :: us) (o' :: os) S=wb us os S:=rfl
@[simp] theorem aah (us:List U) (os:List MO):wb (.v i :: us) (o :: os) S=match S[i]? with | some (some (.m _))=>wb us os (S.set i (some (.m o))) | some (some (.b _))=>wb us os (S.set i (some (.b o))) | _=>none:=rfl
@[simp] theorem aai:bR i gb S=match S[i]? with | some (some _)=>(gb S).bind fun p=>(match p.2[i]? with | some (some u)=>(qo u p.1).map fun d=>(d,p.2) | _=>none) | _=>none:=rfl
@[simp] theorem aaj:jA i S=match S[i]? with | some (some u)=>(By u).map fun n=>(.int (n:Nat),S) | _=>none:=rfl
@[simp] theorem agv (h:List D->MO->Option (D×MO)):eM i h gA S=if UU S i then(gA S).bind fun p=>Ab p.2 i (h p.1) else none:=rfl
@[simp] theorem aak (gk gv:GD):C4 i gk gv S=(gv S).bind fun p=>match p.2[i]? with | some (some _)=>(gk p.2).bind fun r=>(Ab r.2 i fun o=>(tX o r.1 p.1).map fun o'=>(.dW,o')).map fun z=>.nx z.2 | _=>none:=rfl
@[simp] theorem aev (Ts:List String):SY Ts g S=(g S).bind fun p=>(rQ Ts p.1).map fun b=>(.bl b,p.2):=rfl
@[simp] theorem QT (ds:List D) (k:Int):qo (.t (.tup ds)) (.int k)=gj ds k:=rfl
@[simp] theorem QU (ds:List D) (k:Int):qo (.t (.lst ds)) (.int k)=gj ds k:=rfl
@[simp] theorem QV (ds:List D) (k:Int):qo (.m (.lst ds)) (.int k)=gj ds k:=rfl
@[simp] theorem QW (ds:List D) (k:Int):qo (.b (.lst ds)) (.int k)=gj ds k:=rfl
@[simp] theorem QX (kvs:List (Key×D)) (k:D):qo (.b (.dct kvs)) k=(keyOf k).bind (bX kvs):=by cases k <;> rfl
@[simp] theorem S9 (ns:List Int) (k:Int):qo (.s ns) (.int k)=(gj ns k).map D.int:=rfl
@[simp] theorem Xr (k:Int):keyOf (.int k)=some (.inl k):=rfl
@[simp] theorem Xs (k:Str):keyOf (.str k)=some (.inr k):=rfl
@[simp] theorem Tc (ds:List D):By (.t (.tup ds))=some ds.length:=rfl
@[simp] theorem Td (ds:List D):By (.t (.lst ds))=some ds.length:=rfl
@[simp] theorem Te (ds:List D):By (.m (.lst ds))=some ds.length:=rfl
@[simp] theorem Tf (ds:List D):By (.b (.lst ds))=some ds.length:=rfl
@[simp] theorem Vk (ns:List Int):By (.s ns)=some ns.length:=rfl
@[simp] theorem aew (C:Int->Int->Bool) (h:Int->Int->D) (x y:Int):LH C h [.int x,.int y]=if C x y then some (.t (h x y)) else none:=rfl
@[simp] theorem Vl (x y:Int):dB [.int x,.int y]=some (.t (.int (x+y))):=rfl
@[simp] theorem Vm (x y:Str):dB [.str x,.str y]=if x.length+y.length<=100000 then some (.t (.str (x++y))) else none:=rfl
@[simp] theorem Vn (x y:List D):dB [.tup x,.tup y]=if x.length+y.length<=100000 then some (.t (.tup (x++y))) else none:=rfl
@[simp] theorem Vo (x y:List D):dB [.lst x,.lst y]=if x.length+y.length<=100000 then some (.m (.lst (x++y))) else none:=rfl
@[simp] theorem aal (x y:Int):rF [.int x,.int y]=if((decide (-(2 ^ 64) < x) && decide (x < 2 ^ 64)) || (decide (-(2 ^ 64) < y) && decide (y < 2 ^ 64))) then some (.t (.int (x * y))) else none:=rfl
@[simp] theorem aam (x:Int):qb [.int x]=some (.t (.int (-x))):=rfl
@[simp] theorem aan (ds:List D):iA ds=if ds.length<=100000 then some (.t (.tup ds)) else none:=rfl
@[simp] theorem aao (ds:List D):gB ds=if ds.length<=100000 then some (.m (.lst ds)) else none:=rfl
@[simp] theorem Xu (ds:List D) (k:Int):tM [.tup ds,.int k]=(gj ds k).map .t:=rfl
@[simp] theorem Xv (ds:List D) (k:Int):tM [.lst ds,.int k]=(gj ds k).map .t:=rfl
@[simp] theorem JL:dY [d,e]=if gC d<=40 then some (.t (.bl (lU d e))) else none:=rfl
@[simp] theorem EF:A5 [d,e]=if gC d<=40 then some (.t (.bl (!lU d e))) else none:=rfl
@[simp] theorem Xw (x y z:Int):Er [.int x,.int y,.int z]=some (.t (.int (if y < x then(if z < y then z else y) else if z < x then z else x))):=rfl
@[simp] theorem Xx (x y:Int):Es [.int x,.int y]=some (.t (.int (if y > x then y else x))):=rfl
@[simp] theorem Vp (ds:List D):Bo [.tup ds]=some (.t (.int ds.length)):=rfl
@[simp] theorem Vq (ds:List D):Bo [.lst ds]=some (.t (.int ds.length)):=rfl
@[simp] theorem Tg (ds:List D):qm [.tup ds]=some (.m (.lst ds)):=rfl
@[simp] theorem Th (ds:List D):qm [.lst ds]=some (.m (.lst ds)):=rfl
@[simp] theorem QY (ds:List D):qJ [.tup ds]=some (.t (.tup ds)):=rfl
@[simp] theorem QZ (ds:List D):qJ [.lst ds]=some (.t (.tup ds)):=rfl
@[simp] theorem aap (ds:List D):Zx [.lst ds]=(lC ds).map fun bs=>.t (.bl (bs.all id)):=rfl
@[simp] theorem aaq (ds:List D):Bv [.lst ds]=(lC ds).map fun bs=>.t (.bl (bs.any id)):=rfl
@[simp] theorem Xy (x y:Str):lU (.str x) (.str y)=(x == y):=by simp[lU]
@[simp] theorem Xz (x y:Int):lU (.int x) (.int y)=(x == y):=by simp[lU]
@[simp] theorem XA (x:Str):gC (.str x)=0:=by simp[gC]
@[simp] theorem XC (x:Int):gC (.int x)=0:=by simp[gC]
@[simp] theorem aar (h:MO->Option (D×MO)):Ab S i h=match S[i]? with | some (some (.m o))=>(h o).map fun r=>(r.1,S.set i (some (.m r.2))) | some (some (.b o))=>(h o).map fun r=>(r.1,S.set i (some (.b r.2))) | _=>none:=rfl
@[simp] theorem aex:UU S i=match S[i]? with | some (some (.m (.lst _)))=>true | some (some (.b (.lst _)))=>true | _=>false:=rfl
@[simp] theorem Ti (kvs:List (Key×D)) (k:D):tX (.dct kvs) k d=(keyOf k).bind fun kk=>if kvs.length < 100000 then some (.dct (putD kvs kk d)) else none:=rfl
@[simp] theorem Tj (ds:List D) (k:Int):tX (.lst ds) (.int k) d=(CS ds.length k).map fun j=>.lst (ds.set j d):=rfl
@[simp] theorem Vr (ds:List D):hAppend [d] (.lst ds)=if ds.length < 100000 then some (.dW,.lst (ds++[d])) else none:=rfl
@[simp] theorem Tn:aH [] S=some []:=by cases S <;> rfl
@[simp] theorem XD (us:List U) (o2:MO):aH (.b o2 :: us) (some (.b o) :: S)=(aH us S).map fun os=>o :: os:=rfl
@[simp] theorem EG (us:List U) (x:Option U):aH (.t d :: us) (x :: S)=aH us S:=by cases x <;> rfl
@[simp] theorem XE (ns:List Int) (us:List U) (x:Option U):aH (.s ns :: us) (x :: S)=aH us S:=by cases x <;> rfl
end
structure dz where
 c:Int
 l:Int
 n:Int
noncomputable def cI (t:dz):List (Key×D):=[(.inr "cell",.int t.c),(.inr "left",.int t.l),(.inr "turn",.int t.n)]
noncomputable def oH:List (Key×D)->Option dz
 | [(k1,.int c),(k2,.int l),(k3,.int n)]=>if k1= .inr "cell"/\k2= .inr "left"/\k3= .inr "turn" then some ⟨c,l,n⟩ else none
 | _=>none
@[simp] theorem Q0 (t:dz):oH (cI t)=some t:=by simp[oH,cI]
theorem oJ {kvs:List (Key×D)}{t:dz}(h:oH kvs=some t):kvs=cI t:=by
 unfold oH at h
 split at h
 ·obtain⟨⟨rfl,rfl,rfl⟩,rfl⟩:=cJ h
  rfl
 ·cases h
@[simp] theorem aas (t:dz):bX (cI t) (.inr "cell")=some (.int t.c):=by rfl
@[simp] theorem aat (t:dz):bX (cI t) (.inr "left")=some (.int t.l):=by rfl
@[simp] theorem aau (t:dz):bX (cI t) (.inr "turn")=some (.int t.n):=by rfl
@[simp] theorem XF (t:dz) (x:Int):putD (cI t) (.inr "turn") (.int x)=cI {t with n:=x}:=by rfl
@[simp] theorem XG (t:dz) (x:Int):putD (cI t) (.inr "left") (.int x)=cI {t with l:=x}:=by rfl
@[simp] theorem Vs (t:dz):(cI t).length=3:=rfl
noncomputable def mixed (c n:Int):Int:=(((c % 2147483647+31 * (n+1) * (n+1)+1) * 48271) % 2147483629+7 * (n+1)) * 69621 % 2147483587 / 7
noncomputable def bA (t:dz) (m:Int):Int:=if 0 < t.l then t.l % m else mixed t.c t.n % m
noncomputable def bf (t:dz) (m:Int):dz:=if 0 < t.l then⟨t.c,t.l / m,t.n+1⟩ else⟨t.c,t.l,t.n+1⟩
noncomputable def dD:FM
 | [.b (.dct kvs),.t (.int m)]=>(oH kvs).bind fun t=>if 0 < m/\m < 1000000/\0<=t.n/\t.n < 1000000 then some (.t (.int (bA t m)),[.dct (cI (bf t m))]) else none
 | _=>none
noncomputable def jZ:GS:=
 (aQ (cG 2 (eP dB (aa (bR 0 (eC (.str "turn"))) (aa (eC (.int 1)) aq))))
 (aQ (C4 0 (eC (.str "turn")) (eF (aj 2)))
 (aQ (gT (qB (eF (eP Ql (aa (bR 0 (eC (.str "left"))) (aa (eC (.int 0)) aq))))) (aQ (cG 3 (eP oq (aa (bR 0 (eC (.str "left"))) (aa (eF (aj 1)) aq))))
 (aQ (C4 0 (eC (.str "left")) (eF (eP Mq (aa (bR 0 (eC (.str "left"))) (aa (eF (aj 1)) aq)))))
 (cu (aj 3)))) cF)
 (aQ (cG 4 (eP rF (aa (eF (eP dB (aa (eF (eP dB (aa (eF (eP oq (aa (bR 0 (eC (.str "cell"))) (aa (eC (.int 2147483647)) aq)))) (aa (eF (eP rF (aa (eF (eP rF (aa (eC (.int 31)) (aa (eF (aj 2)) aq)))) (aa (eF (aj 2)) aq)))) aq)))) (aa (eC (.int 1)) aq)))) (aa (eC (.int 48271)) aq))))
 (aQ (cG 4 (eP rF (aa (eF (eP dB (aa (eF (eP oq (aa (eF (aj 4)) (aa (eC (.int 2147483629)) aq)))) (aa (eF (eP rF (aa (eC (.int 7)) (aa (eF (aj 2)) aq)))) aq)))) (aa (eC (.int 69621)) aq))))
 (cu (eP oq (aa (eF (eP Mq (aa (eF (eP oq (aa (eF (aj 4)) (aa (eC (.int 2147483587)) aq)))) (aa (eC (.int 7)) aq)))) (aa (eF (aj 1)) aq)))))))))
theorem pick_run:∀us r,dD us=some r->aL 5 jZ us=some r:=by
 intro us r h
 unfold dD at h
 split at h
 ·rename_i kvs m
  obtain⟨t,h1,h⟩:=ak h
  obtain⟨⟨h2,h3,h4,h5⟩,rfl⟩:=cJ h
  obtain rfl:=oJ h1
  have e1:-18446744073709551616 < t.n+1:=by omega
  have e2:t.n+1 < 18446744073709551616:=by omega
  have e3:m < 1073741824:=by omega
  by_cases hl:0 < t.l
  ·simp[aL,jZ,bA,bf,hl,h2,e3]
  ·simp[aL,jZ,bA,bf,hl,h2,e3,mixed,e1,e2]
 ·cases h
noncomputable def aav:FM
 | [.t d,.t (.int l),.t (.int m)]=>some (.t (.bl (kY d l m)),[])
 | _=>none
noncomputable def kG:GS:=
 (cu (eP gB (aa (eC (.str "a")) (aa (eC (.str "ab")) (aa (eC (.str "abc")) (aa (eC (.str "b")) (aa (eC (.str "any")) (aa (eC (.str "name")) (aa (eC (.str "x")) (aa (eC (.str "zzzzzzzz")) aq))))))))))
noncomputable def fZ:List Str:=["a","ab","abc","b","any","name","x","zzzzzzzz"]
noncomputable def mw:FM
 | []=>some (.m (.lst (fZ.map D.str)),[])
 | _=>none
theorem Gg:∀us r,mw us=some r->aL 0 kG us=some r:=by
 intro us r h
 unfold mw at h
 split at h
 ·cases h
  simp[aL,kG,fZ]
 ·cases h
noncomputable def j0:GS:=
 (aQ (cG 2 (aj 1))
 (aQ (gT (qB (eF (eP Ql (aa (jA 0) (aa (eC (.int 0)) aq))))) (cG 2 (eP dB (aa (bR 0 (eF (eP oq (aa (eF (aj 1)) (aa (jA 0) aq))))) (aa (eF (eP Mq (aa (eF (aj 1)) (aa (jA 0) aq)))) aq)))) cF)
 (cu (wJ [("cell",(eF (aj 2))),("left",(eF (eP Es (aa (eC (.int 0)) (aa (eF (eP p9 (aa (eF (aj 2)) (aa (eF (eP UO (aa (eC (.int 10)) (aa (eC (.int 18)) aq)))) aq)))) aq))))),("turn",(eC (.int 0)))]))))
noncomputable def BN (ns:List Int) (k:Int):Int:=if 0 < ns.length then(gj ns (k % ns.length)).getD 0+k / ns.length else k
noncomputable def BO (ns:List Int) (k:Int):dz:=⟨BN ns k,if BN ns k - 10 ^ 18 > 0 then BN ns k - 10 ^ 18 else 0,0⟩
noncomputable def lE:FM
 | [.s ns,.t (.int k)]=>if 0<=k/\k < 1000000/\ns.length < 1000000 then some (.m (.dct (cI (BO ns k))),[]) else none
 | _=>none
theorem JM {α:Type}{l:List α}{i:Int}(h0:0<=i) (h1:i < l.length):∃x,gj l i=some x:=by
 unfold gj CS
 rw[if_pos h0,if_pos h1]
 have:i.toNat < l.length:=by omega
 exact⟨l[i.toNat],List.getElem?_eq_getElem this⟩
@[simp] theorem Vt (k1 k2 k3:Str) (g1 g2 g3:GD) (S:SS):wJ [(k1,g1),(k2,g2),(k3,g3)] S=(g1 S).bind fun a=>(g2 a.2).bind fun b=>(g3 b.2).map fun c=>(.m (.dct (mq [] [(.inr k1,a.1),(.inr k2,b.1),(.inr k3,c.1)])),c.2):=by
 simp only[wJ,jD]
 cases g1 S with
 | none=>rfl
 | some a=>
  simp only[Option.bind_some]
  cases g2 a.2 with
  | none=>rfl
  | some b=>
   simp only[Option.bind_some]
   cases g3 b.2 with
   | none=>rfl
   | some c=>rfl
theorem wO (c l n:Int):mq [] [(.inr "cell",.int c),(.inr "left",.int l),(.inr "turn",.int n)]=cI ⟨c,l,n⟩:=rfl
theorem JN:∀us r,lE us=some r->aL 3 j0 us=some r:=by
 intro us r h
 unfold lE at h
 split at h
 ·rename_i ns k
  obtain⟨⟨h1,h2,h3⟩,rfl⟩:=cJ h
  by_cases hl:0 < ns.length
  ·have e0:(0:Int) < ns.length:=by omega
   obtain⟨x,hx⟩:=JM (l:=ns) (i:=k % ns.length) (Int.emod_nonneg _ (by omega)) (Int.emod_lt_of_pos _ e0)
   have e1:(ns.length:Int) < 1073741824:=by omega
   simp[aL,j0,e0,e1,hx,wO,BO,BN,hl]
  ·have e0:¬(0:Int) < ns.length:=by omega
   simp[aL,j0,e0,wO,BO,BN,hl]
 ·cases h
end L2
end
section
namespace Sw
open PySem PySem.Spec PyProof.Rows L2
theorem bC {t:dz}{m:Int}(h:0 < m):0<=bA t m/\bA t m < m:=by
 unfold bA
 split
 ·exact⟨Int.emod_nonneg _ (by omega),Int.emod_lt_of_pos _ h⟩
 ·exact⟨Int.emod_nonneg _ (by omega),Int.emod_lt_of_pos _ h⟩
@[simp] theorem fM (t:dz) (m:Int):(bf t m).n=t.n+1:=by unfold bf;split <;> rfl
theorem lF {t:dz}{m:Int}(h1:0 < m) (h2:m < 1000000) (h3:0<=t.n) (h4:t.n < 1000000):dD [.b (.dct (cI t)),.t (.int m)]=some (.t (.int (bA t m)),[.dct (cI (bf t m))]):=by
 simp[dD,h1,h2,h3,h4]
theorem JP {α:Type}{l:List α}{i:Int}(h0:0<=i) (h1:i < l.length):gj l i=some (l[i.toNat]'(by omega)):=by
 unfold gj CS
 rw[if_pos h0,if_pos h1]
 exact List.getElem?_eq_getElem (by omega)
noncomputable def iw (T:List (Str×Int)):D:=.tup (T.map fun p=>.tup [.str p.1,.int p.2])
structure Dj where
 names:List Str
 tab:List (Str×Int)
 left:Int
 t:dz
noncomputable def wQ (i j k:Int):Int:=if j < i then(if k < j then k else j) else if k < i then k else i
noncomputable def cU (s:Dj) (k:Int):Dj:=
 let i:=(bA s.t s.names.length).toNat
 let t1:=bf s.t s.names.length
 let most:=wQ 5 (s.left - 4+k) (bA t1 6)
 ⟨s.names.eraseIdx i,s.tab++[(s.names.getD i "",most)],s.left - most - 1,bf t1 6⟩
noncomputable def eB (iC:FM) (au:FM):GS:=
 (aQ (cG 5 (eT (eM 1 ni (aa (eF (aU au (cB (aj 0) (aK (jA 1) bG)))) aq))))
 (aQ (cG 6 (eP Er (aa (eC (.int 5)) (aa (eF (eP dB (aa (eF (eP p9 (aa (eF (aj 3)) (aa (eC (.int 4)) aq)))) (aa (eF (aj 4)) aq)))) (aa (eF (aU au (cB (aj 0) (aK (eC (.int 6)) bG)))) aq)))))
 (aQ (cG 2 (eP dB (aa (eF (aj 2)) (aa (eF (eP iA (aa (eF (eP iA (aa (eF (aj 5)) (aa (eF (aj 6)) aq)))) aq))) aq))))
 (cG 3 (eP p9 (aa (eF (eP p9 (aa (eF (aj 3)) (aa (eF (aj 6)) aq)))) (aa (eC (.int 1)) aq)))))))
noncomputable def kH (iC:FM) (au:FM):GS:=
 (aQ (cG 1 (aU iC bG))
 (aQ (cG 2 (eP iA aq))
 (aQ (cG 3 (eT (eC (.int 12))))
 (aQ (qd (bName 4) (lg (aa (eF (eP tM (aa (eF (eP gB (aa (eC (.int 1)) (aa (eC (.int 2)) (aa (eC (.int 2)) (aa (eC (.int 3)) (aa (eC (.int 4)) aq))))))) (aa (eF (aU au (cB (aj 0) (aK (eC (.int 5)) bG)))) aq)))) aq)) (eB iC au))
 (cu (aj 2))))))
noncomputable def j3 (s:Dj) (x y z:Option U):SS:=[some (.b (.dct (cI s.t))),some (.m (.lst (s.names.map D.str))),some (.t (iw s.tab)),some (.t (.int s.left)),x,y,z]
theorem Gh {i:Int}{n:Nat}(h0:0<=i) (h1:i < n):seqIndex? i n=some i.toNat:=by
 unfold seqIndex?
 simp[h0,h1]
 try omega
theorem mz {α β:Type}(f:α->β):∀(l:List α) (k:Nat),(l.map f).eraseIdx k=(l.eraseIdx k).map f
 | [],_=>rfl
 | _ :: _,0=>rfl
 | a :: l,k+1=>by simp[mz f l k]
theorem JQ {s:Dj}{k:Int}{x y z:Option U}(hn:0 < s.names.length) (hn2:s.names.length<=8) (ht:s.tab.length<=100) (h3:0<=s.t.n) (h4:s.t.n < 900000) (hx:(x=none/\y=none/\z=none)\/∃a b c,x=some (.t a)/\y=some (.t b)/\z=some (.t c)):
  ∃a b c,(bName 4 (.int k) (j3 s x y z)).bind (eB mw dD)=some (.nx (j3 (cU s k) (some (.t a)) (some (.t b)) (some (.t c)))):=by
 have p1:=bC (t:=s.t) (m:=s.names.length) (by omega)
 have e1:=lF (t:=s.t) (m:=s.names.length) (by omega) (by omega) h3 (by omega)
 have e2:=lF (t:=bf s.t s.names.length) (m:=6) (by omega) (by omega) (by simp;omega) (by simp;omega)
 have e3:=Gh p1.1 p1.2
 have e4:(bA s.t s.names.length).toNat < s.names.length:=by omega
 have e5:-9223372036854775808<=bA s.t s.names.length:=by omega
 have e6:bA s.t s.names.length < 9223372036854775808:=by omega
 have e7:s.tab.length+1<=100000:=by omega
 refine⟨.int k,.str s.names[(bA s.t s.names.length).toNat],.int (wQ 5 (s.left - 4+k) (bA (bf s.t s.names.length) 6)),?_⟩
 rcases hx with⟨rfl,rfl,rfl⟩ | ⟨a,b,c,rfl,rfl,rfl⟩
 ·simp[eB,j3,iw,e1,e2,ni,e3,e4,e5,e6,e7,cU,wQ,mz]
 ·simp[eB,j3,iw,e1,e2,ni,e3,e4,e5,e6,e7,cU,wQ,mz]
theorem wR {s:Dj}{k:Int}(hn:0 < s.names.length):(cU s k).names.length+1=s.names.length:=by
 have p1:=bC (t:=s.t) (m:=s.names.length) (by omega)
 have:(bA s.t s.names.length).toNat < s.names.length:=by omega
 show(s.names.eraseIdx _).length+1=_
 rw[List.length_eraseIdx,if_pos this]
 omega
@[simp] theorem Q2 (s:Dj) (k:Int):(cU s k).t.n=s.t.n+2:=by
 show(bf (bf s.t _) 6).n=_
 simp;omega
@[simp] theorem JR (s:Dj) (k:Int):(cU s k).tab.length=s.tab.length+1:=by
 show(s.tab++[_]).length=_
 simp
theorem BP:∀(ks:List Int) (s:Dj) (x y z:Option U),ks.length<=s.names.length->s.names.length<=8->s.tab.length+ks.length<=100->0<=s.t.n->s.t.n+2 * ks.length < 900000->((x=none/\y=none/\z=none)\/∃a b c,x=some (.t a)/\y=some (.t b)/\z=some (.t c))->
    ∃x' y' z',loop (bName 4) (eB mw dD) (ks.map D.int) (j3 s x y z)=some (.nx (j3 (ks.foldl cU s) x' y' z'))
  | [],s,x,y,z,_,_,_,_,_,_=>⟨x,y,z,rfl⟩
  | k :: ks, s, x, y, z, h1, h2, h3, h4, h5, hx => by
    have l1:ks.length+1<=s.names.length:=h1
    have l3:s.tab.length+(ks.length+1)<=100:=h3
    have l5:s.t.n+2 * ((ks.length+1:Nat):Int) < 900000:=h5
    have hn:0 < s.names.length:=by omega
    obtain⟨a,b,c,e⟩:=JQ (k:=k) hn h2 (by omega) h4 (by omega) hx
    have n1:=wR (s:=s) (k:=k) hn
    obtain⟨x',y',z',ih⟩:=BP ks (cU s k) (some (.t a)) (some (.t b)) (some (.t c)) (by omega) (by omega) (by simp;omega) (by simp;omega) (by simp;omega) (.inr ⟨a,b,c,rfl,rfl,rfl⟩)
    refine⟨x',y',z',?_⟩
    show(bName 4 (.int k) (j3 s x y z)).bind (fun S1=>(eB mw dD S1).bind fun o=>match o with
      | .nx S2=>loop (bName 4) (eB mw dD) (ks.map D.int) S2
      | .ct S2=>loop (bName 4) (eB mw dD) (ks.map D.int) S2
      | .bk S2=>some (.nx S2)
      | .rt u S2=>some (.rt u S2))=_
    rw[<-Option.bind_assoc,e]
    exact ih
noncomputable def tabI (t:dz):Int:=([1,2,2,3,4]:List Int).getD (bA t 5).toNat 1
noncomputable def oK (t:dz):Nat:=(tabI t).toNat
noncomputable def upTo (n:Nat):List Int:=(List.range n).map fun(k:Nat)=>(k:Int)
noncomputable def iD (t:dz):Dj:=(upTo (oK t)).foldl cU ⟨fZ,[],12,bf t 5⟩
noncomputable def jd:FM
 | [.b (.dct kvs)]=>(oH kvs).bind fun t=>if 0<=t.n/\t.n < 800000 then some (.t (iw (iD t).tab),[.dct (cI (iD t).t)]) else none
 | _=>none
theorem BQ (n:Nat):nN 0 n=(upTo n).map D.int:=by
 unfold nN upTo
 simp
theorem EH (t:dz):1<=tabI t/\tabI t<=4:=by
 unfold tabI
 have p:=bC (t:=t) (m:=5) (by omega)
 generalize (bA t 5).toNat=i
 match i with
 | 0=>decide
 | 1=>decide
 | 2=>decide
 | 3=>decide
 | 4=>decide
 | _+5=>simp
theorem Ar (t:dz):1<=oK t/\oK t<=4:=by
 have:=EH t
 unfold oK
 omega
theorem JV {t:dz}:gj [D.int 1,D.int 2,D.int 2,D.int 3,D.int 4] (bA t 5)=some (.int (tabI t)):=by
 have p:=bC (t:=t) (m:=5) (by omega)
 unfold tabI
 generalize bA t 5=i at p
 obtain⟨h0,h1⟩:=p
 have:i=0\/i=1\/i=2\/i=3\/i=4:=by omega
 rcases this with rfl | rfl | rfl | rfl | rfl <;> rfl
theorem Gi:∀us r,jd us=some r->aL 7 (kH mw dD) us=some r:=by
 intro us r h
 unfold jd at h
 split at h
 ·rename_i kvs
  obtain⟨t,h1,h⟩:=ak h
  obtain⟨⟨h2,h3⟩,rfl⟩:=cJ h
  obtain rfl:=oJ h1
  have e1:=lF (t:=t) (m:=5) (by omega) (by omega) h2 (by omega)
  have b:=Ar t
  obtain⟨x,y,z,e2⟩:=BP (upTo (oK t)) ⟨fZ,[],12,bf t 5⟩ none none none (by simp[upTo,fZ];omega) (by simp[fZ]) (by simp[upTo];omega) (by simp;omega) (by simp[upTo];omega) (.inl ⟨rfl,rfl,rfl⟩)
  have bI:=EH t
  have e3:tabI t < 1000000:=by omega
  have e4:-1000000 < tabI t:=by omega
  rw[<-BQ] at e2
  simp only[j3] at e2
  have e0:mw []=some (.m (.lst (fZ.map D.str)),[]):=rfl
  have e5:iw []= .tup []:=rfl
  rw[e5] at e2
  unfold oK at e2
  simp[aL,kH,e0,e1,JV,e3,e4,e2,iD,oK]
 ·cases h
noncomputable def Q3:D->Option (Str×Int)
 | .tup [.str z,.int i]=>some (z,i)
 | _=>none
noncomputable def BR:List D->Option (List (Str×Int))
 | []=>some []
 | d :: ds=>(Q3 d).bind fun p=>(BR ds).map fun ps=>p :: ps
noncomputable def tabOf:D->Option (List (Str×Int))
 | .tup ds=>BR ds
 | _=>none
@[simp] theorem Gj (T:List (Str×Int)):BR (T.map fun p=>.tup [.str p.1,.int p.2])=some T:=by
 induction T with
 | nil=>rfl
 | cons p T ih=>simp[BR,Q3,ih]
@[simp] theorem XH (T:List (Str×Int)):tabOf (iw T)=some T:=Gj T
theorem wU:∀{ds:List D}{T:List (Str×Int)},BR ds=some T->ds=T.map fun p=>.tup [.str p.1,.int p.2]
  | [],T,h=>by cases h;rfl
  | d :: ds, T, h => by
    obtain⟨p,h1,h⟩:=ak h
    obtain⟨ps,h2,h⟩:=aC h
    subst h
    unfold Q3 at h1
    split at h1
    . cases h1
      rw[wU h2]
      rfl
    . cases h1
theorem Dk {d:D}{T:List (Str×Int)}(h:tabOf d=some T):d=iw T:=by
 unfold tabOf at h
 split at h
 ·rw[wU h];rfl
 ·cases h
noncomputable def gF (au:FM):GS:=
 (aQ (Qm (tN 2 (jf (bName 5) (jf (bName 6) vd))) (bR 1 (eF (aU au (cB (aj 0) (aK (jA 1) bG))))))
 (cG 3 (eP dB (aa (eF (aj 3)) (aa (eF (eP iA (aa (eF (eP iA (aa (eF (aj 5)) (aa (eF (aU au (cB (aj 0) (aK (eF (eP dB (aa (eF (aj 6)) (aa (eC (.int 1)) aq)))) bG)))) aq)))) aq))) aq)))))
noncomputable def nq (au:FM):GS:=
 (aQ (cG 3 (eP iA aq))
 (aQ (qd (bName 4) (lg (aa (eF (aU au (cB (aj 0) (aK (eF (eP dB (aa (eF (aj 2)) (aa (eC (.int 1)) aq)))) bG)))) aq)) (gF au))
 (cu (aj 3))))
noncomputable def dR (T:List (Str×Int)) (s:List (Str×Int)×dz) (_:Int):List (Str×Int)×dz:=
 let p:=T.getD (bA s.2 T.length).toNat ("",0)
 let t1:=bf s.2 T.length
 (s.1++[(p.1,bA t1 (p.2+1))],bf t1 (p.2+1))
noncomputable def j4 (T:List (Str×Int)) (most:D) (s:List (Str×Int)×dz) (x y z:Option U):SS:=[some (.b (.dct (cI s.2))),some (.t (iw T)),some (.t most),some (.t (iw s.1)),x,y,z]
structure oM (T:List (Str×Int)):Prop where
 pos:0 < T.length
 len:T.length<=10
 mst:∀p∈T,0<=p.2/\p.2<=10
theorem JX {T:List (Str×Int)}{most:D}{s:List (Str×Int)×dz}{k:Int}{x y z:Option U}(ok:oM T) (hr:s.1.length<=1000) (h3:0<=s.2.n) (h4:s.2.n < 900000) (hx:(x=none/\y=none/\z=none)\/∃a b c,x=some (.t a)/\y=some (.t b)/\z=some (.t c)):
  ∃a b c,(bName 4 (.int k) (j4 T most s x y z)).bind (gF dD)=some (.nx (j4 T most (dR T s k) (some (.t a)) (some (.t b)) (some (.t c)))):=by
 have p0:=ok.pos
 have p00:=ok.len
 have p1:=bC (t:=s.2) (m:=T.length) (by omega)
 have e1:=lF (t:=s.2) (m:=T.length) (by omega) (by omega) h3 (by omega)
 have e4:(bA s.2 T.length).toNat < T.length:=by omega
 have e5:T.getD (bA s.2 T.length).toNat ("",0)=T[(bA s.2 T.length).toNat]:=by simp[List.getD,e4]
 have hm:=ok.mst _ (List.getElem_mem e4)
 have e2:=lF (t:=bf s.2 T.length) (m:=T[(bA s.2 T.length).toNat].2+1) (by omega) (by omega) (by simp;omega) (by simp;omega)
 have e3:gj (T.map fun p=>D.tup [.str p.1,.int p.2]) (bA s.2 T.length)=some (.tup [.str T[(bA s.2 T.length).toNat].1,.int T[(bA s.2 T.length).toNat].2]):=Et _ (by rw[JP p1.1 p1.2])
 have e7:s.1.length+1<=100000:=by omega
 refine⟨.int k,.str T[(bA s.2 T.length).toNat].1,.int T[(bA s.2 T.length).toNat].2,?_⟩
 rcases hx with⟨rfl,rfl,rfl⟩ | ⟨a,b,c,rfl,rfl,rfl⟩
 ·simp[gF,j4,iw,e1,e2,e3,e7,dR,e4,tN,jf,vd]
 ·simp[gF,j4,iw,e1,e2,e3,e7,dR,e4,tN,jf,vd]
@[simp] theorem BS (T:List (Str×Int)) (s:List (Str×Int)×dz) (k:Int):(dR T s k).1.length=s.1.length+1:=by simp[dR]
@[simp] theorem Gk (T:List (Str×Int)) (s:List (Str×Int)×dz) (k:Int):(dR T s k).2.n=s.2.n+2:=by simp[dR];omega
theorem BU {T:List (Str×Int)}{most:D}(ok:oM T):∀(ks:List Int) (s:List (Str×Int)×dz) (x y z:Option U),s.1.length+ks.length<=1000->0<=s.2.n->s.2.n+2 * ks.length < 900000->((x=none/\y=none/\z=none)\/∃a b c,x=some (.t a)/\y=some (.t b)/\z=some (.t c))->
    ∃x' y' z',loop (bName 4) (gF dD) (ks.map D.int) (j4 T most s x y z)=some (.nx (j4 T most (ks.foldl (dR T) s) x' y' z'))
  | [],s,x,y,z,_,_,_,_=>⟨x,y,z,rfl⟩
  | k :: ks, s, x, y, z, h3, h4, h5, hx => by
    have l3:s.1.length+(ks.length+1)<=1000:=h3
    have l5:s.2.n+2 * ((ks.length+1:Nat):Int) < 900000:=h5
    obtain⟨a,b,c,e⟩:=JX (k:=k) (most:=most) ok (by omega) h4 (by omega) hx
    obtain⟨x',y',z',ih⟩:=BU ok ks (dR T s k) (some (.t a)) (some (.t b)) (some (.t c)) (by simp;omega) (by simp;omega) (by simp;omega) (.inr ⟨a,b,c,rfl,rfl,rfl⟩)
    refine⟨x',y',z',?_⟩
    show(bName 4 (.int k) (j4 T most s x y z)).bind (fun S1=>(gF dD S1).bind fun o=>match o with
      | .nx S2=>loop (bName 4) (gF dD) (ks.map D.int) S2
      | .ct S2=>loop (bName 4) (gF dD) (ks.map D.int) S2
      | .bk S2=>some (.nx S2)
      | .rt u S2=>some (.rt u S2))=_
    rw[<-Option.bind_assoc,e]
    exact ih
noncomputable def uc (t:dz) (T:List (Str×Int)) (most:Int):List (Str×Int)×dz:=(upTo (bA t (most+1)).toNat).foldl (dR T) ([],bf t (most+1))
noncomputable def Dl (T:List (Str×Int)):Bool:=decide (0 < T.length) && (decide (T.length<=10) && T.all fun p=>decide (0<=p.2) && decide (p.2<=10))
theorem wV {T:List (Str×Int)}:Dl T=true↔oM T:=by
 unfold Dl
 simp only[Bool.and_eq_true,decide_eq_true_eq,List.all_eq_true]
 exact⟨fun⟨a,b,c⟩=>⟨a,b,c⟩,fun⟨a,b,c⟩=>⟨a,b,c⟩⟩
noncomputable def rZ:FM
 | [.b (.dct kvs),.t td,.t (.int most)]=>(oH kvs).bind fun t=>(tabOf td).bind fun T=>if Dl T=true/\0<=most/\most<=100/\0<=t.n/\t.n < 700000 then some (.t (iw (uc t T most).1),[.dct (cI (uc t T most).2)]) else none
 | _=>none
theorem M0:∀us r,rZ us=some r->aL 7 (nq dD) us=some r:=by
 intro us r h
 unfold rZ at h
 split at h
 ·rename_i kvs td most
  obtain⟨t,h1,h⟩:=ak h
  obtain⟨T,h0,h⟩:=ak h
  obtain⟨⟨hT,h2,h3,h4,h5⟩,rfl⟩:=cJ h
  obtain rfl:=oJ h1
  obtain rfl:=Dk h0
  have ok:=wV.mp hT
  have e1:=lF (t:=t) (m:=most+1) (by omega) (by omega) h4 (by omega)
  have p:=bC (t:=t) (m:=most+1) (by omega)
  obtain⟨x,y,z,e2⟩:=BU (T:=T) (most:=.int most) ok (upTo (bA t (most+1)).toNat) ([],bf t (most+1)) none none none (by simp[upTo];omega) (by simp;omega) (by simp[upTo];omega) (.inl ⟨rfl,rfl,rfl⟩)
  have e3:bA t (most+1) < 1000000:=by omega
  have e4:-1000000 < bA t (most+1):=by omega
  rw[<-BQ] at e2
  simp only[j4] at e2
  have e5:iw []= .tup []:=rfl
  rw[e5] at e2
  simp[aL,nq,e1,e3,e4,e2,uc]
 ·cases h
noncomputable def aaw:List D:=[.dW,.bl true,.bl false,.int 0,.int (-1),.int 6,.int 10000000000000000000,.str "",.str "A",.str "a.b",.str "a1",.str "ninesigns",.tup [],.lst [],.tup [.str "a"],.lst [.str "a",.int 0],.tup [.str "a",.int 0]]
noncomputable def M1 (t:dz):D:=aaw.getD (bA t 17).toNat .dW
noncomputable def As (t:dz) (d:D):D×dz:=
 match d with
 | .tup ds=>if bA t 8 < 5 then
   (([.tup (cutD ds none (some (bA (bf t 8) (ds.length+1)))),.tup (ds++cutD ds (some (bA (bf t 8) (ds.length+1))) none),.tup (cutD ds none (some (bA (bf t 8) (ds.length+1)))++cutD ds (some (bA (bf t 8) (ds.length+1)+1)) none),.lst ds,.tup (ds++[.tup ds])]:List D).getD (bA t 8).toNat .dW,bf (bf t 8) (ds.length+1))
  else(M1 (bf t 8),bf (bf t 8) 17)
 | .int i=>if kY (.int i) 0 100000000000000000000=true/\bA t 8 < 5 then(([.int (i+1),.int (i - 1),.int 5,.int 9,.int 10]:List D).getD (bA t 8).toNat .dW,bf t 8) else(M1 (bf t 8),bf (bf t 8) 17)
 | .str z=>if bA t 8 < 6 then(([.str (z++("a":Str)),.str (Txt.slice z (some 1) none),.str (z++("A":Str)),.str "x",.str "now",.str "less"]:List D).getD (bA t 8).toNat .dW,bf t 8) else(M1 (bf t 8),bf (bf t 8) 17)
 | _=>(M1 (bf t 8),bf (bf t 8) 17)
noncomputable def EI:Nat->dz->D->D×dz
  | k + 1, t, .tup ds => if ds.length = 0 then As t (.tup ds) else if 0 < bA t 4 then
      (.tup (cutD ds none (some (bA (bf t 4) ds.length))++[(EI k (bf (bf t 4) ds.length) (ds.getD (bA (bf t 4) ds.length).toNat .dW)).1]++cutD ds (some (bA (bf t 4) ds.length+1)) none),(EI k (bf (bf t 4) ds.length) (ds.getD (bA (bf t 4) ds.length).toNat .dW)).2)
    else As (bf t 4) (.tup ds)
  | _,t,d=>As t d
open Classical in
noncomputable def aax (j:Nat):FM
 | [.b (.dct kvs),.t d,.t (.int k)]=>(oH kvs).bind fun t=>if 0<=k/\k < j/\Hq 5000 d/\0<=t.n/\t.n+2 * k < 600000 then some (.t (EI k.toNat t d).1,[.dct (cI (EI k.toNat t d).2)]) else none
 | _=>none
@[simp] theorem Vu (g:GD) (lo hi:Option GD) (S:SS):uP g lo hi S=(g S).bind fun p=>(gX lo p.2).bind fun l=>(gX hi l.2).bind fun h=>(Mz p.1 l.1 h.1).map fun u=>(u,h.2):=rfl
@[simp] theorem aay (S:SS):gX none S=some (none,S):=rfl
@[simp] theorem aaz (g:GD) (S:SS):gX (some g) S=(g S).bind fun p=>match p.1 with | .int i=>some (some i,p.2) | _=>none:=rfl
@[simp] theorem M4 (ds:List D) (lo hi:Option Int):Mz (.tup ds) lo hi=some (.t (.tup (cutD ds lo hi))):=rfl
@[simp] theorem M5 (ds:List D) (lo hi:Option Int):Mz (.lst ds) lo hi=some (.m (.lst (cutD ds lo hi))):=rfl
@[simp] theorem XI (z:Str) (lo hi:Option Int):Mz (.str z) lo hi=if z.length<=100000 then some (.t (.str (Txt.slice z lo hi))) else none:=rfl
theorem JY:∀(ts:List D) (S:SS),S.length=ts.length->aH (ts.map U.t) S=some []
 | [],S,_=>by cases S <;> rfl
 | d :: ts,[],h=>by cases h
 | d :: ts,x :: S,h=>by
  show aH (U.t d :: ts.map U.t) (x :: S)=_
  rw[EG]
  exact JY ts S (by simpa using h)
theorem OR (S:SS):∀ts:List D,cO S (ts.map U.t)=some (ts.map U.t)
 | []=>rfl
 | d :: ts=>by
  show(some (U.t d)).bind _=_
  rw[OR S ts]
  rfl
theorem Vv:∀ts:List D,slotsOf (ts.map U.t)=[]
 | []=>rfl
 | d :: ts=>Vv ts
theorem Vw:∀ts:List D,dh (ts.map U.t)=0
 | []=>rfl
 | d :: ts=>Vw ts
theorem Q4 (S:SS):∀ts:List D,wb (ts.map U.t) [] S=some S
 | []=>rfl
 | d :: ts=>Q4 S ts
theorem Au {cap:List Nat}{q:GT}{g:GD}{S:SS}{ts:List D}(hc:eZ S cap=some (ts.map U.t)) (p:D->Bool) (f:D->D):∀(ds acc:List D),
    (∀d∈ds,q (some (.t d) :: ts.map fun x=>some (.t x))=some (p d,some (.t d) :: ts.map fun x=>some (.t x)))->(∀d∈ds,p d=true->g (some (.t d) :: ts.map fun x=>some (.t x))=some (f d,some (.t d) :: ts.map fun x=>some (.t x)))->
    d9 cap q g ds S acc=some (acc++(ds.filter p).map f,S)
  | [],acc,_,_=>by simp[d9]
  | d :: ds, acc, hq, hg => by
    have em:(ts.map U.t).map some=ts.map fun x=>some (U.t x):=by simp
    have eo:aH (.t d :: ts.map U.t) (some (.t d) :: ts.map fun x=>some (.t x))=some []:=by rw[EG];exact JY ts _ (by simp)
    have q0:=hq d (List.mem_cons_self)
    unfold d9
    rw[hc]
    simp only[Option.bind_some]
    rw[if_pos ⟨by rw[Vv];exact List.nodup_nil,by rw[Vw];exact Nat.zero_le _⟩,OR]
    simp only[Option.bind_some]
    rw[em,q0]
    simp only[Option.bind_some]
    by_cases hp:p d=true
    . rw[if_pos hp,hg d List.mem_cons_self hp]
      simp only[Option.bind_some]
      rw[eo]
      simp only[Option.bind_some]
      rw[Q4]
      simp only[Option.bind_some]
      rw[Au hc p f ds (acc++[f d]) (fun e he=>hq e (List.mem_cons_of_mem _ he)) (fun e he=>hg e (List.mem_cons_of_mem _ he)),List.filter_cons_of_pos hp]
      simp
    . rw[if_neg hp,eo]
      simp only[Option.bind_some]
      rw[Q4]
      simp only[Option.bind_some]
      rw[Au hc p f ds acc (fun e he=>hq e (List.mem_cons_of_mem _ he)) (fun e he=>hg e (List.mem_cons_of_mem _ he)),List.filter_cons_of_neg hp]
theorem Gm {cap:List Nat}{g:GD}{S:SS}{ts:List D}(hc:eZ S cap=some (ts.map U.t)) (f:D->D) (ds acc:List D) (hg:∀d∈ds,g (some (.t d) :: ts.map fun x=>some (.t x))=some (f d,some (.t d) :: ts.map fun x=>some (.t x))):
  d9 cap dj g ds S acc=some (acc++ds.map f,S):=by
 rw[Au hc (fun _=>true) f ds acc (fun _ _=>rfl) (fun d hd _=>hg d hd),List.filter_eq_self.mpr (fun _ _=>rfl)]
@[simp] theorem M6 (cap:List Nat) (gi:GI) (q:GT) (g:GD) (S:SS):lu cap gi q g S=(gi S).bind fun p=>if p.1.length<=100000 then(d9 cap q g p.1 p.2 []).map fun r=>(.m (.lst r.1),r.2) else none:=rfl
theorem nu (g:GD) (S:SS):wB g S=(g S).bind fun p=>match p.1 with | .tup ds=>some (ds,p.2) | .lst ds=>some (ds,p.2) | .str z=>some (z.cps.toList.map fun c=>.str ⟨#[c]⟩,p.2) | _=>none:=rfl
noncomputable def gU (p:Str×Int):D:=.tup [.str p.1,.int p.2]
theorem ud {x:D}{z:Str}(h:lU (.str z) x=true):x= .str z:=by
 cases x <;> simp[lU] at h
 rw[h]
structure JZ (z:Str):Prop where
 len:z.length<=8
 chs:∀c∈z.cps.toList,c < 16 ^ 8
theorem J0:∀z∈fZ,JZ z:=by
 intro z hz
 have:z∈(["a","ab","abc","b","any","name","x","zzzzzzzz"]:List Str):=hz
 simp only[List.mem_cons,List.not_mem_nil,or_false] at this
 rcases this with rfl | rfl | rfl | rfl | rfl | rfl | rfl | rfl <;> exact⟨by decide,by decide⟩
structure nv (p:Str×Int):Prop where
 nm:JZ p.1
 lo:0<=p.2
 hi:p.2<=10
structure uR (k:Int) (s:Dj):Prop where
 nd:(s.tab.map (·.1)++s.names).Nodup
 sub:∀z∈s.names,z∈fZ
 ok:∀p∈s.tab,nv p/\p.2<=5
 left:4 - k<=s.left
theorem getD_mem {α:Type}{l:List α}{i:Nat}{x:α}(h:i < l.length):l.getD i x∈l:=by simp[List.getD,h]
theorem wW {α:Type}:∀(l:List α) (i:Nat) (h:i < l.length),(l[i] :: l.eraseIdx i).Perm l
 | a :: l,0,_=>List.Perm.refl _
 | a :: l,i+1,h=>(List.Perm.swap _ _ _).trans (List.Perm.cons a (wW l i (by simpa using h)))
theorem BV {α:Type}:∀{as l:List α}{i:Nat}{x:α},(as++l).Nodup->i < l.length->((as++[l.getD i x])++l.eraseIdx i).Nodup:=fun {as l i x} nd hi=>by
 have e:l.getD i x=l[i]:=by simp[List.getD,hi]
 rw[e]
 have p:(as++[l[i]]++l.eraseIdx i).Perm (as++l):=by
  rw[List.append_assoc]
  refine List.Perm.append_left as ?_
  show(l[i] :: l.eraseIdx i).Perm l
  exact wW l i hi
 exact p.nodup_iff.mpr nd
theorem M7 {k:Int}{s:Dj}(h:uR k s) (hk:k<=4) (hn:0 < s.names.length):uR (k+1) (cU s k):=by
 have p1:=bC (t:=s.t) (m:=s.names.length) (by omega)
 have hi:(bA s.t s.names.length).toNat < s.names.length:=by omega
 have p2:=bC (t:=bf s.t s.names.length) (m:=6) (by omega)
 have hl:=h.left
 have hm:0<=wQ 5 (s.left - 4+k) (bA (bf s.t s.names.length) 6)/\wQ 5 (s.left - 4+k) (bA (bf s.t s.names.length) 6)<=5/\wQ 5 (s.left - 4+k) (bA (bf s.t s.names.length) 6)<=s.left - 4+k:=by
  unfold wQ
  split <;> split <;> omega
 refine⟨?_,fun z hz=>?_,fun p hp=>?_,?_⟩
 ·show((s.tab++[((s.names.getD (bA s.t s.names.length).toNat "",wQ 5 (s.left - 4+k) (bA (bf s.t s.names.length) 6)):Str×Int)]).map (fun(p:Str×Int)=>p.1)++s.names.eraseIdx (bA s.t s.names.length).toNat).Nodup
  rw[List.map_append]
  exact BV h.nd hi
 ·exact h.sub z (List.mem_of_mem_eraseIdx hz)
 ·rcases List.mem_append.mp hp with hp | hp
  ·exact h.ok p hp
  ·have hp:=List.mem_singleton.mp hp
   subst hp
   exact⟨⟨J0 _ (h.sub _ (getD_mem hi)),hm.1,by show wQ _ _ _<=10;omega⟩,hm.2.1⟩
 ·show 4 - (k+1)<=s.left - wQ 5 (s.left - 4+k) (bA (bf s.t s.names.length) 6) - 1
  omega
theorem vD:∀(n:Nat) (s:Dj),n<=4->uR 0 s->n<=s.names.length->uR n ((upTo n).foldl cU s)/\((upTo n).foldl cU s).tab.length=s.tab.length+n/\((upTo n).foldl cU s).names.length+n=s.names.length/\((upTo n).foldl cU s).t.n=s.t.n+2 * n
  | 0,s,_,h,_=>⟨h,rfl,rfl,by simp[upTo]⟩
  | n + 1, s, hn, h, hl => by
    obtain⟨i1,i2,i3,i4⟩:=vD n s (by omega) h (by omega)
    have e:(upTo (n+1)).foldl cU s=cU ((upTo n).foldl cU s) n:=by
      unfold upTo
      rw[List.range_succ,List.map_append,List.foldl_append]
      rfl
    rw[e]
    have st:=M7 i1 (by omega) (by omega)
    refine⟨?_,?_,?_,?_⟩
    . have e2:((n+1:Nat):Int)=(n:Int)+1:=by omega
      rw[e2];exact st
    . rw[JR];omega
    . have:=wR (s:=(upTo n).foldl cU s) (k:=n) (by omega);omega
    . rw[Q2];omega
theorem BW (t:dz):((iD t).tab.map (·.1)).Nodup/\oM (iD t).tab/\(∀p∈(iD t).tab,nv p)/\(iD t).tab.length<=4/\t.n+1<=(iD t).t.n/\(iD t).t.n<=t.n+9:=by
 have b:=Ar t
 have h0:uR 0 ⟨fZ,[],12,bf t 5⟩:=⟨by show([]++fZ).Nodup;decide,fun z hz=>hz,(fun p hp=>by cases hp),by show(4:Int) - 0<=12;omega⟩
 obtain⟨i1,i2,i3,i4⟩:=vD (oK t) ⟨fZ,[],12,bf t 5⟩ b.2 h0 (by show oK t<=8;omega)
 have e:(upTo (oK t)).foldl cU ⟨fZ,[],12,bf t 5⟩=iD t:=rfl
 rw[e] at i1 i2 i3 i4
 have i2:(iD t).tab.length=0+oK t:=i2
 have i4:(iD t).t.n=(bf t 5).n+2 * (oK t:Int):=i4
 rw[fM] at i4
 refine⟨(List.nodup_append.mp i1.nd).1,⟨by omega,by omega,fun p hp=>⟨(i1.ok p hp).1.lo,(i1.ok p hp).1.hi⟩⟩,fun p hp=>(i1.ok p hp).1,by omega,by omega,by omega⟩
theorem BX {T : List (Str × Int)} (ok : oM T) (hp : ∀ p ∈ T, nv p) : ∀ (ks : List Int) (s : List (Str × Int) × dz), (∀ p ∈ s.1, nv p) -> (∀ p ∈ (ks.foldl (dR T) s).1, nv p) /\ (ks.foldl (dR T) s).1.length = s.1.length + ks.length /\ (ks.foldl (dR T) s).2.n = s.2.n + 2 * ks.length
  | [],s,h=>⟨h,rfl,by simp⟩
  | k :: ks, s, h => by
    have p0:=ok.pos
    have p1:=bC (t:=s.2) (m:=T.length) (by omega)
    have hi:(bA s.2 T.length).toNat < T.length:=by omega
    have hq:=hp _ (getD_mem (x:=(("":Str),(0:Int))) hi)
    obtain⟨i1,i2,i3⟩:=BX ok hp ks (dR T s k) (fun p hp'=>by
      rcases List.mem_append.mp (show p∈s.1++[_] from hp') with h1 | h1
      . exact h p h1
      . have h1:=List.mem_singleton.mp h1
        subst h1
        have a:=hq.lo
        have b:=hq.hi
        have r:=bC (t:=bf s.2 T.length) (m:=(T.getD (bA s.2 T.length).toNat ("",0)).2+1) (by omega)
        exact⟨hq.nm,r.1,by show bA _ _<=10;omega⟩)
    refine⟨i1,?_,?_⟩
    . show((ks.foldl (dR T) (dR T s k)).1).length=s.1.length+(ks.length+1)
      rw[i2,BS];omega
    . show((ks.foldl (dR T) (dR T s k)).2).n=s.2.n+2 * ((ks.length+1:Nat):Int)
      rw[i3,Gk];omega
theorem Gn {T:List (Str×Int)}(ok:oM T) (hp:∀p∈T,nv p) (t:dz){most:Int}(h0:0<=most):(∀p∈(uc t T most).1,nv p)/\((uc t T most).1.length:Int)<=most/\t.n+1<=(uc t T most).2.n/\(uc t T most).2.n<=t.n+1+2 * most:=by
 obtain⟨i1,i2,i3⟩:=BX ok hp (upTo (bA t (most+1)).toNat) ([],bf t (most+1)) (fun p hp=>by cases hp)
 have r:=bC (t:=t) (m:=most+1) (by omega)
 have e:(upTo (bA t (most+1)).toNat).length=(bA t (most+1)).toNat:=by simp[upTo]
 rw[e] at i2 i3
 have i2:(uc t T most).1.length=0+(bA t (most+1)).toNat:=i2
 have i3:(uc t T most).2.n=(bf t (most+1)).n+2 * ((bA t (most+1)).toNat:Int):=i3
 rw[fM] at i3
 exact⟨i1,by omega,by omega,by omega⟩
noncomputable def Dm (n:Nat):FM
 | [.s ns]=>if ns.length<=n then some (.t (.bl true),[]) else none
 | _=>none
theorem oN {P:Program}{w:World}{K:PySem.W.Frag}{mg:Str->Option Value}{base:Heap}{f:Addr}{fd:FuncData}{n k:Nat}{ps:List Str}{fm:FM}(h:∀us,fm us=none):cy P w K mg base fY n f fd ps (spT K k fm):=by
 have no:∀vs H Q E,¬spT K k fm vs H Q E:=fun vs H Q E ⟨_,F,us,r,outs,_,_,_,e,_⟩=>by rw[h us] at e;cases e
 exact⟨fun vs H Q E h=>absurd h (no vs H Q E),fun A outer s H args us vs Q E _ _ _ _ h=>absurd h (no vs H Q E)⟩
theorem Q5 {K:PySem.W.Frag}{H:Hp}{a:Addr}{ns:List Int}{n:Nat}{E:XK}(hl:ns.length<=n) (hO:Mh H) (hS:m6 K H a (ns.map V.int)):spT K 1 (Dm n) [.ref a] H (fun v _=>v= .bl true) E:=by
 have sc:Mp K H a ns:=by
  rcases hS with(h | h) | h
  ·rcases hO a with z | ⟨o,xs,z⟩
   ·rw[h] at z;cases z
   ·rw[h] at z;cases z
  ·exact .inl h
  ·exact .inr h
 exact⟨rfl,fun _=>none,[.s ns],.t (.bl true),[],(fun b o z=>by cases z),.cons ⟨a,rfl,sc⟩ .nil,List.nodup_nil,by simp[Dm,hl],fun v F' H' _ r=>mh r⟩
noncomputable def LET:Str:="abcdefghijklmnopqrstuvwxyz"
noncomputable def aaA (y:Str):Bool:=!(Builtin.Str.occurrences LET y 0 LET.length 1).isEmpty
noncomputable def signs (z:Str):List Str:=z.cps.toList.map fun c=>(⟨#[c]⟩:Str)
noncomputable def nameB:D->Bool
 | .str z=>decide (1<=z.length) && decide (z.length<=8) && (signs z).all aaA
 | _=>false
end Sw
end
section
namespace L2
open PySem PySem.Spec PyProof.Rows
section
variable (S:SS) (d:D) (i:Nat) (g ga gb gc:GD) (gA:GA)
@[simp] theorem XJ (k:Bool):vf [.bl k]=some (.t (.int (if k then 1 else 0))):=rfl
@[simp] theorem J1 (ds:List D) (k:Int):Ag [.lst ds,.int k]=if 0<=k/\k.toNat<=100000/\ds.length * k.toNat<=100000 then some (.m (.lst (List.replicate k.toNat ds).flatten)) else none:=rfl
@[simp] theorem XM:Jr gA S=(gA S).bind fun p=>match p.1 with
 | [d]=>(oF d).map fun q=>(qp q.2,p.2)
 | _=>none:=rfl
@[simp] theorem XN:zh gA S=(gA S).bind fun p=>match p.1 with
 | [d,e]=>(oF d).bind fun q=>(oF e).map fun r=>(List.zipWith (fun a b=>.tup [a,b]) q.2 r.2,p.2)
 | _=>none:=rfl
@[simp] theorem J2 (ds:List D):oF (.lst ds)=some (true,ds):=rfl
@[simp] theorem J3 (ds:List D):oF (.tup ds)=some (false,ds):=rfl
@[simp] theorem XO (x y:Int):U3 [.int x,.int y]=some (.t (.int (if y < x then y else x))):=rfl
end
end L2
namespace Sq
open PySem PySem.Spec PyProof.Rows L2 Sw
theorem Av {bd:GB}{body:GS}:∀(ds:List D) (I:List D->SS->Prop) (S:SS),I ds S->(∀d r S,I (d :: r) S->∃S1 S2,bd d S=some S1/\body S1=some (.nx S2)/\I r S2)->∃S',loop bd body ds S=some (.nx S')/\I [] S'
 | [],I,S,h,_=>⟨S,rfl,h⟩
 | d :: ds,I,S,h,k=>by
  obtain⟨S1,S2,e1,e2,h2⟩:=k d ds S h
  obtain⟨S',e,h'⟩:=Av ds I S2 h2 k
  refine⟨S',?_,h'⟩
  show((bd d S).bind fun S1=>(body S1).bind _)=_
  rw[e1,Option.bind_some,e2,Option.bind_some]
  exact e
theorem wX (cap : List Nat) (q : GT) (g : GD) (d : D) (ds : List D) (S : SS) (acc : List D) : d9 cap q g (d :: ds) S acc = (d9 cap q g [d] S acc).bind fun r => d9 cap q g ds r.2 r.1 := by
  simp only[d9]
  cases eZ S cap with
  | none=>rfl
  | some us =>
    simp only[Option.bind_some]
    split
    . cases cO S us with
      | none=>rfl
      | some ws =>
        simp only[Option.bind_some]
        cases q (some (.t d) :: ws.map some) with
        | none=>rfl
        | some p=>
          simp only[Option.bind_some]
          split
          . cases g p.2 with
            | none=>rfl
            | some r=>
              simp only[Option.bind_some]
              cases aH (.t d :: ws) r.2 with
              | none=>rfl
              | some outs=>
                simp only[Option.bind_some]
                cases wb us outs S with
                | none=>rfl
                | some S'=>rfl
          . cases aH (.t d :: ws) p.2 with
            | none=>rfl
            | some outs=>
              simp only[Option.bind_some]
              cases wb us outs S with
              | none=>rfl
              | some S'=>rfl
    . rfl
theorem ue {α:Type}{l:List α}{i:Int}{x:α}(h0:0<=i) (h:l[i.toNat]? =some x):gj l i=some x:=by
 have hl:=(List.getElem?_eq_some_iff.mp h).1
 unfold gj CS
 rw[if_pos h0,if_pos (by omega)]
 exact h
theorem Q6 {α:Type}{l:List α}{i:Int}(h0:0<=i) (h1:i < l.length):∃x,gj l i=some x/\l[i.toNat]? =some x:=by
 have h:i.toNat < l.length:=by omega
 exact⟨l[i.toNat],ue h0 (List.getElem?_eq_getElem h),List.getElem?_eq_getElem h⟩
theorem pT {gA:GA}{S S':SS}{j:Int}(h:gA S=some ([.int j],S')) (h1:j < 1000000) (h2:-1000000 < j):lg gA S=some (nN 0 j.toNat,S'):=by
 unfold lg
 rw[h]
 simp only[Option.bind_some]
 rw[if_pos ⟨h1,h2⟩]
noncomputable abbrev fd (c i l:Int):MO:=.lst [.int c,.int i,.int l]
end Sq
end
section
namespace L2
open PySem PySem.Spec PyProof.Rows
noncomputable def iU:Option U->Bool
 | some (.b _)=>true
 | _=>false
@[simp] theorem aeA:iU none=false:=rfl
@[simp] theorem aeB (d:D):iU (some (.t d))=false:=rfl
@[simp] theorem aeC (o:MO):iU (some (.m o))=false:=rfl
theorem fj (i:Nat) (u:U) (S:SS):rG i u S=(S[i]?).bind fun x=>if iU x then none else some (S.set i (some u)):=by
 unfold rG
 cases S[i]? with
 | none=>rfl
 | some x=>cases x with
  | none=>rfl
  | some u=>cases u <;> rfl
@[simp] theorem aaB (n:Nat) (bs:LJ) (ds:List D) (S:SS):tN n bs (.tup ds) S=if ds.length=n then bs ds S else none:=rfl
@[simp] theorem XQ (b:GB) (bs:LJ) (d:D) (r:List D) (S:SS):jf b bs (d :: r) S=(b d S).bind fun S1=>bs r S1:=rfl
@[simp] theorem aaC (S:SS):vd [] S=some S:=rfl
@[simp] theorem XR (S:SS):Js S=some (.m (.cS []),S):=rfl
@[simp] theorem XS (S:SS):BE S=some (.m (.dct []),S):=rfl
@[simp] theorem Q7 (kvs:List (D×D)) (k:D):qo (.b (.cS kvs)) k=(rR k).bind (bX kvs):=by cases k <;> rfl
@[simp] theorem To (kvs:List (D×D)) (k d:D):tX (.cS kvs) k d=(rR k).bind fun kk=>if kvs.length < 10000000 then some (.cS (putD kvs kk d)) else none:=by cases k <;> rfl
@[simp] theorem Vx (z:Str):wc (.str z)=true:=rfl
@[simp] theorem Vy (b:Bool):wc (.bl b)=true:=rfl
@[simp] theorem Vz (b:Int):wc (.int b)=true:=rfl
@[simp] theorem Vu (g:GD) (lo hi:Option GD) (S:SS):uP g lo hi S=(g S).bind fun p=>(gX lo p.2).bind fun l=>(gX hi l.2).bind fun h=>(Mz p.1 l.1 h.1).map fun u=>(u,h.2):=rfl
@[simp] theorem Tp (S:SS):gX none S=some (none,S):=rfl
@[simp] theorem Tq (g:GD) (S:SS):gX (some g) S=(g S).bind fun p=>match p.1 with | .int i=>some (some i,p.2) | _=>none:=rfl
@[simp] theorem M4 (ds:List D) (lo hi:Option Int):Mz (.tup ds) lo hi=some (.t (.tup (cutD ds lo hi))):=rfl
@[simp] theorem M5 (ds:List D) (lo hi:Option Int):Mz (.lst ds) lo hi=some (.m (.lst (cutD ds lo hi))):=rfl
@[simp] theorem Q8 (ds:List D):jo [] (.lst ds)=some (.dW,.lst ds.reverse):=rfl
theorem oO {bd:GB}{body:GS}(ds:List D) (I:Nat->SS->Prop) (S:SS) (h0:I 0 S) (hs:∀j d S,ds[j]? =some d->I j S->∃S1 S2,bd d S=some S1/\body S1=some (.nx S2)/\I (j+1) S2):∃S',loop bd body ds S=some (.nx S')/\I ds.length S':=by
 obtain⟨S',e,j,hr,hj,hI⟩:=Sq.Av (bd:=bd) (body:=body) ds (fun r S=>∃j,ds.drop j=r/\j<=ds.length/\I j S) S ⟨0,rfl,Nat.zero_le _,h0⟩ (by
  rintro d r S ⟨j,hr,hj,hI⟩
  have hlt:j < ds.length:=by
   have:=congrArg List.length hr
   rw[List.length_drop,List.length_cons] at this
   omega
  rw[List.drop_eq_getElem_cons hlt] at hr
  injection hr with h1 h2
  obtain⟨S1,S2,e1,e2,h3⟩:=hs j d S (by rw[List.getElem?_eq_getElem hlt,h1]) hI
  exact⟨S1,S2,e1,e2,j+1,h2,hlt,h3⟩)
 have:j=ds.length:=by
  have:=congrArg List.length hr
  rw[List.length_drop,List.length_nil] at this
  omega
 subst this
 exact⟨S',e,hI⟩
theorem comp_map {cap:List Nat}{g:GD}{S:SS}(f:D->D):∀(ds acc:List D),(∀d∈ds,∀acc,d9 cap dj g [d] S acc=some (acc++[f d],S))->d9 cap dj g ds S acc=some (acc++ds.map f,S)
 | [],acc,_=>by simp[d9]
 | d :: ds,acc,h=>by
  rw[Sq.wX,h d List.mem_cons_self,Option.bind_some,comp_map f ds (acc++[f d]) fun e he=>h e (List.mem_cons_of_mem _ he)]
  simp
theorem Aw {n j:Nat}{d:D}(h:(nN 0 n)[j]? =some d):j < n/\d= .int j:=by
 unfold nN at h
 rw[List.getElem?_map] at h
 cases e:(List.range n)[j]? with
 | none=>rw[e] at h;cases h
 | some k=>
  rw[e] at h
  obtain⟨h1,h2⟩:=List.getElem?_eq_some_iff.mp e
  rw[List.getElem_range] at h2
  rw[List.length_range] at h1
  subst h2
  refine⟨h1,?_⟩
  have:=Option.some.inj h
  rw[<-this]
  show D.int (0+(j:Int))=_
  rw[Int.zero_add]
end L2
end
section
namespace Ss
open PySem PySem.Spec PyProof.Rows L2 Sw
@[simp] theorem aaD (kvs:List (Str×Int)) (g:GD) (S:SS):MR kvs g S=(g S).bind fun p=>match p.1 with | .str z=>(nI kvs z).map fun i=>(.int i,p.2) | _=>none:=rfl
@[simp] theorem aaE (n:Bool) (zs:List Str) (g:GD) (S:SS):MT n zs g S=(g S).map fun p=>(.bl (n != inD p.1 (zs.map D.str)),p.2):=rfl
theorem cQ (a:D) (r:List D):gj (a :: r) 0=some a:=by
 unfold gj CS
 rw[if_pos (by decide),if_pos (by simp only[List.length_cons];omega)]
 rfl
theorem cC (a b:D) (r:List D):gj (a :: b :: r) 1=some b:=by
 unfold gj CS
 rw[if_pos (by decide),if_pos (by simp only[List.length_cons];omega)]
 rfl
theorem jc (a b c:D) (r:List D):gj (a :: b :: c :: r) 2=some c:=by
 unfold gj CS
 rw[if_pos (by decide),if_pos (by simp only[List.length_cons];omega)]
 rfl
theorem M8 (x:D) (zs:List Str):Hr [x,.tup (zs.map D.str)]=some (.t (.bl (inD x (zs.map D.str)))):=by
 have:cP (zs.map D.str)<=40:=by rw[L2.rW];omega
 cases x <;> simp[Hr,this]
noncomputable def yp:List Str:=["less","same","more"]
noncomputable def Tr:List Str:=["each","one"]
noncomputable def zz (bs:List Str):D->Bool
 | .tup [a]=>lU a (.str "any")
 | .tup [a,b]=>if lU a (.str "name") then nameB b else inD a (yp.map D.str) && (kY b 0 9 || inD b (bs.map D.str))
 | _=>false
noncomputable def LEN:List (Str×Int):=[("yes",1),("no",1),("now",2),("not",2),("both",3),("either",3),("next",2),("till",3),("within",3),("always",2),("some",2),("each",4),("one",4)]
noncomputable def XT:List (Str×Int):=[("yes",1),("no",1),("now",2),("not",1),("both",1),("either",1),("next",1),("till",1),("within",2),("always",1),("some",1),("each",3),("one",3)]
noncomputable def j5 (z:Str):Int:=(nI LEN z).getD 0
noncomputable def eO (z:Str):Nat:=((nI XT z).getD 0).toNat
noncomputable def fO (z:Str):Bool:=inD (.str z) (Tr.map D.str)
noncomputable def nJ:List Str:=["yes","no","now","not","both","either","next","till","within","always","some","each","one"]
theorem Ax {kvs:List (Str×Int)}{z:Str}(h:z∉kvs.map (·.1)):nI kvs z=none:=by
 unfold nI
 have:kvs.find? (fun p=>decide (p.1=z))=none:=List.find?_eq_none.mpr fun p hp q=>h (by rw[<-of_decide_eq_true q];exact List.mem_map_of_mem hp)
 rw[this]
 rfl
theorem Gp {z:Str}(h:z∉nJ):j5 z=0:=by unfold j5;rw[Ax (show z∉LEN.map (·.1) from h)];rfl
theorem BY {z:Str}(h:j5 z≠0):z∈nJ:=Classical.byContradiction fun q=>h (Gp q)
structure Ay (z:Str):Prop where
 wC:nI XT z=some ((eO z:Nat):Int)
 s1:1<=eO z
 s4:(eO z:Int)<=j5 z
 l4:j5 z<=4
 few:j5 z - eO z<=2
theorem nA:∀z∈nJ,Ay z:=by
 intro z hz
 simp only[nJ,List.mem_cons,List.not_mem_nil,or_false] at hz
 rcases hz with rfl | rfl | rfl | rfl | rfl | rfl | rfl | rfl | rfl | rfl | rfl | rfl | rfl <;> exact⟨by decide,by decide,by decide,by decide,by decide⟩
noncomputable def lG:GS:=
 (cu (uP (eF (aj 0)) (some (MR [("yes",1),("no",1),("now",2),("not",1),("both",1),("either",1),("next",1),("till",1),("within",2),("always",1),("some",1),("each",3),("one",3)] (bR 0 (eC (.int 0))))) none))
noncomputable def qM:FM:=aL 1 lG
theorem Gq:∀us r,qM us=some r->aL 1 lG us=some r:=fun _ _ h=>h
theorem wY (ds:List D) (k:Nat):L2.cutD ds (some (k:Int)) none=ds.drop k:=by
 unfold L2.cutD
 rw[HT.vX,HT.zR]
 by_cases h:k<=ds.length
 ·rw[Nat.min_eq_left h,List.take_of_length_le (by rw[List.length_drop];omega)]
 ·rw[Nat.min_eq_right (by omega),List.drop_of_length_le (Nat.le_refl _),List.drop_of_length_le (by omega),List.take_nil]
theorem J4 {z:Str}{r:List D}(h:Ay z):qM [.t (.tup (.str z :: r))]=some (.t (.tup ((.str z :: r).drop (eO z))),[]):=by
 have e:=h.wC
 unfold XT at e
 have c:=wY (.str z :: r) (eO z)
 simp[qM,aL,lG,cQ,e,c,aH]
noncomputable def gn (bs:List Str) (z:Str) (r:List D):Bool:=
 if j5 z=(r.length:Int)+1 then
  (match r with
  | []=>true
  | a :: r2=>if z="now" then zz bs a else if z="within" then kY a 0 5 else if fO z then(match r2 with | b :: _=>nameB a && nameB b | []=>false) else true)
 else false
noncomputable def strOf:D->Str
 | .str z=>z
 | _=>""
noncomputable def jr (bs:List Str) (z:Str) (r:List D):List Str:=if fO z=true then bs++[strOf (r.getD 1 .dW)] else bs
noncomputable def fB (z:Str) (r:List D):List D:=(.str z :: r).drop (eO z)
noncomputable def nB:Nat->List Str->D->Bool
 | 0,_,_=>false
 | n+1,bs,.tup (.str z :: r)=>gn bs z r && (fB z r).all (nB n (jr bs z r))
 | _+1,_,_=>false
theorem Dn {bs:List Str}{z:Str}{r:List D}(h:gn bs z r=true):j5 z=(r.length:Int)+1/\Ay z/\z∈nJ:=by
 unfold gn at h
 split at h
 ·rename_i c
  have:=BY (z:=z) (by omega)
  exact⟨c,nA z this,this⟩
 ·cases h
theorem oR {d:D}(h:nameB d=true):∃y,d= .str y:=by
 cases d with
 | str z=>exact⟨z,rfl⟩
 | _=>cases h
noncomputable def gD:Nat->D->List D
 | 0,_=>[]
 | n+1,.tup (.str z :: r)=>.tup (.str z :: r) :: (fB z r).flatMap (gD n)
 | _+1,d=>[d]
theorem Dp {n : Nat} {bs : List Str} {d : D} (h : nB (n + 1) bs d = true) : ∃ z r, d = .tup (.str z :: r) /\ gn bs z r = true /\ ∀ p ∈ fB z r, nB n (jr bs z r) p = true := by
  cases d with
  | tup ds =>
    cases ds with
    | nil=>cases h
    | cons a r=>
      cases a with
      | str z=>
        obtain⟨h1,h2⟩:=Bool.and_eq_true_iff.mp (show(gn bs z r && (fB z r).all (nB n (jr bs z r)))=true from h)
        exact⟨z,r,rfl,h1,fun p hp=>List.all_eq_true.mp h2 p hp⟩
      | _=>cases h
  | _=>cases h
noncomputable def se (n:Nat) (d:D):Nat:=(gD n d).length
noncomputable def oU:D->Bool
 | .tup (.str z :: _)=>fO z
 | _=>false
noncomputable def Az (n:Nat) (d:D):Nat:=((gD n d).filter oU).length
@[simp] theorem M9 (vB:List (Str×GD)) (S:SS):wJ vB S=(jD vB S).map fun p=>(.m (.dct (mq [] p.1)),p.2):=rfl
@[simp] theorem AA (S:SS):jD [] S=some ([],S):=rfl
@[simp] theorem yq (z:Str) (g:GD) (r:List (Str×GD)) (S:SS):jD ((z,g) :: r) S=(g S).bind fun p=>(jD r p.2).map fun q=>((.inr z,p.1) :: q.1,q.2):=rfl
@[simp] theorem XU (i:Nat) (ge:GE) (S:SS):Vd i ge S=match S[i]? with
 | some (some u)=>if qq u then(ge S).bind fun p=>match p.1 with
  | .m (.dct more)=>Ab p.2 i fun o=>match o with
   | .dct kvs=>if kvs.length+more.length<=100000 then some (.dW,.dct (mq kvs more)) else none
   | _=>none
  | _=>none
  else none
 | _=>none:=rfl
@[simp] theorem Na (i:Nat) (gk gd:GD) (S:SS):BF i gk gd S=match S[i]? with
 | some (some u)=>if qq u then(gk S).bind fun p=>(gd p.2).bind fun q=>match q.2[i]? with
  | some (some u2)=>(wM u2 p.1).map fun o=>(o.getD q.1,q.2)
  | _=>none
  else none
 | _=>none:=rfl
@[simp] theorem Nb (kvs:List (Key×D)):qq (.m (.dct kvs))=true:=rfl
@[simp] theorem Q9 (kvs:List (Key×D)) (k:D):wM (.m (.dct kvs)) k=(keyOf k).map (bX kvs):=rfl
section
variable {f1 f2 f3 f4 f5:FM}{z:Str}{r:List D}{vs dp:D}{c0 c1:Int}
theorem Nc (z:Str):Hr [.str z,.tup [.str "each",.str "one"]]=some (.t (.bl (fO z))):=M8 (.str z) Tr
end
theorem EJ:j5 "now" =2/\j5 "within" =3:=by decide
theorem wZ (n:Nat) (z:Str) (r:List D):(se (n+1) (.tup (.str z :: r)):Int)=1+(((fB z r).flatMap (gD n)).length:Int):=by
 unfold se
 show(((.tup (.str z :: r):D) :: (fB z r).flatMap (gD n)).length:Int)=_
 rw[List.length_cons]
 push_cast
 omega
theorem AB (n:Nat) (z:Str) (r:List D):(Az (n+1) (.tup (.str z :: r)):Int)=(if fO z=true then 1 else 0)+((((fB z r).flatMap (gD n)).filter oU).length:Int):=by
 unfold Az
 show((((.tup (.str z :: r):D) :: (fB z r).flatMap (gD n)).filter oU).length:Int)=_
 by_cases h:fO z=true
 ·rw[List.filter_cons_of_pos (by exact h),if_pos h,List.length_cons]
  push_cast
  omega
 ·rw[List.filter_cons_of_neg (by exact h),if_neg h]
  omega
theorem qN (n:Nat) (bs:List Str) (z:Str) (r:List D):nB (n+1) bs (.tup (.str z :: r))=true↔gn bs z r=true/\∀p∈fB z r,nB n (jr bs z r) p=true:=by
 show(gn bs z r && (fB z r).all (nB n (jr bs z r)))=true↔_
 rw[Bool.and_eq_true_iff,List.all_eq_true]
theorem BZ {bs:List Str}{z:Str}{r:List D}(c:j5 z=(r.length:Int)+1) (n1:¬z="now") (n2:¬(z="within"/\kY (r.getD 0 .dW) 0 5=false)) (hb:fO z=false):gn bs z r=true:=by
 unfold gn
 rw[if_pos c]
 cases r with
 | nil=>rfl
 | cons a q=>
  simp only[n1,if_false,hb]
  by_cases k:z="within"
  ·rw[if_pos k]
   cases w:kY a 0 5 with
   | true=>rfl
   | false=>exact absurd ⟨k,w⟩ n2
  ·rw[if_neg k]
   rfl
end Ss
end
section
namespace Sd
open PySem PySem.Spec PyProof.Rows L2 Sw Ss
@[simp] theorem M9 (vB:List (Str×GD)) (S:SS):wJ vB S=(jD vB S).map fun p=>(.m (.dct (mq [] p.1)),p.2):=rfl
@[simp] theorem AA (S:SS):jD [] S=some ([],S):=rfl
@[simp] theorem yq (z:Str) (g:GD) (r:List (Str×GD)) (S:SS):jD ((z,g) :: r) S=(g S).bind fun p=>(jD r p.2).map fun q=>((.inr z,p.1) :: q.1,q.2):=rfl
@[simp] theorem Na (i:Nat) (gk gd:GD) (S:SS):BF i gk gd S=match S[i]? with
 | some (some u)=>if qq u then(gk S).bind fun p=>(gd p.2).bind fun q=>match q.2[i]? with
  | some (some u2)=>(wM u2 p.1).map fun o=>(o.getD q.1,q.2)
  | _=>none
  else none
 | _=>none:=rfl
@[simp] theorem Nb (kvs:List (Key×D)):qq (.m (.dct kvs))=true:=rfl
@[simp] theorem Q9 (kvs:List (Key×D)) (k:D):wM (.m (.dct kvs)) k=(keyOf k).map (bX kvs):=rfl
end Sd
end
section
namespace Sn
open PySem PySem.Spec PyProof.Rows L2 Sw Ss
structure Dr (deep:Nat) (bs:List Str) (room:Nat) (bin:Nat) (d:D):Prop where
 fm:nB deep bs d=true
 sz:se deep d<=room
 bn:Az deep d=bin
 fit:Hq 8 d
 dep:gC d<=deep+1
class Dq (nms:List Str):Prop where
 ok:∀z∈nms,nameB (.str z)=true/\z.length<=8
 pos:0 < nms.length
 few:nms.length < 900
noncomputable def vg (nms:List Str):List D:=nms.map D.str
theorem sf (nms:List Str):(vg nms).length=nms.length:=by unfold vg;rw[List.length_map]
noncomputable def EK (nms:List Str) (b:Int):List (Key×D):=[(.inr "names",.lst (vg nms)),(.inr "binders",.int b)]
theorem OS (nms:List Str) (b:Int):bX (EK nms b) (.inr "names")=some (.lst (vg nms)):=rfl
theorem OT (nms:List Str) (b:Int):bX (EK nms b) (.inr "binders")=some (.int b):=rfl
theorem VA (nms:List Str) (b x:Int):putD (EK nms b) (.inr "binders") (.int x)=EK nms x:=rfl
theorem OU {nms:List Str} [hn:Dq nms] {i:Int}(h0:0<=i) (h1:i < nms.length):∃z,gj (vg nms) i=some (.str z)/\nameB (.str z)=true/\z.length<=8:=by
 have h:i.toNat < nms.length:=by omega
 refine⟨nms[i.toNat],Sq.ue h0 (by unfold vg;rw[List.getElem?_map,List.getElem?_eq_getElem h];rfl),?_⟩
 exact hn.ok _ (List.getElem_mem h)
noncomputable abbrev tp (t:dz):MO:=.dct (cI t)
theorem gJ {t:dz}{m:Int}(h1:0 < m) (h2:m < 1000) (h3:0<=t.n) (h4:t.n < 900000):dD [.b (tp t),.t (.int m)]=some (.t (.int (bA t m)),[tp (bf t m)]):=lF h1 (by omega) h3 (by omega)
noncomputable def fP (au:FM):GS:=
 (aQ (cG 3 (aU au (cB (aj 0) (aK (eC (.int 5)) bG))))
 (aQ (gT (qB (eF (eP dY (aa (eF (aj 3)) (aa (eC (.int 0)) aq))))) (cu (eP iA (aa (eC (.str "any")) aq))) cF)
 (aQ (gT (qB (eF (eP dY (aa (eF (aj 3)) (aa (eC (.int 1)) aq))))) (cu (eP iA (aa (eC (.str "name")) (aa (bR 1 (eF (aU au (cB (aj 0) (aK (jA 1) bG))))) aq)))) cF)
 (aQ (cG 4 (eP tM (aa (eF (eP gB (aa (eC (.int 0)) (aa (eC (.int 1)) (aa (eC (.int 2)) (aa (eC (.int 3)) (aa (eC (.int 5)) (aa (eC (.int 9)) aq)))))))) (aa (eF (aU au (cB (aj 0) (aK (eC (.int 6)) bG)))) aq))))
 (aQ (gT (mH (qB (eF (eP A5 (aa (eF (aj 2)) (aa (eF (eP iA aq)) aq))))) (qB (eF (eP Ql (aa (eF (aU au (cB (aj 0) (aK (eC (.int 3)) bG)))) (aa (eC (.int 0)) aq)))))) (cG 4 (eT (bR 2 (eF (aU au (cB (aj 0) (aK (jA 2) bG))))))) cF)
 (cu (eP iA (aa (eF (eP tM (aa (eF (eP gB (aa (eC (.str "less")) (aa (eC (.str "same")) (aa (eC (.str "more")) aq))))) (aa (eF (eP p9 (aa (eF (aj 3)) (aa (eC (.int 2)) aq)))) aq)))) (aa (eF (aj 4)) aq)))))))))
noncomputable def lH:FM:=aL 5 (fP dD)
theorem Gr:∀us r,lH us=some r->aL 5 (fP dD) us=some r:=fun _ _ h=>h
theorem uS {x:D}{l:List D}{i:Int}(h0:0<=i) (h1:i < l.length):∃y,gj l i=some y/\y∈l:=by
 obtain⟨y,a,b⟩:=Sq.Q6 (l:=l) h0 h1
 exact⟨y,a,List.mem_of_getElem? b⟩
theorem B0 (bs:List Str) (a b:D):zz bs (.tup [a,b])=if lU a (.str "name")=true then nameB b else inD a (yp.map D.str) && (kY b 0 9 || inD b (bs.map D.str)):=rfl
theorem J5 {nms : List Str} [hn : Dq nms] {t : dz} {bs : List Str} (h0 : 0 <= t.n) (h1 : t.n < 800000) (hb : bs.length < 900) (hs : ∀ z ∈ bs, z.length <= 8) :
    ∃d t',lH [.b (tp t),.t (.lst (vg nms)),.t (.tup (bs.map D.str))]=some (.t d,[tp t'])/\zz bs d=true/\Hq 8 d/\gC d<=1/\t.n<=t'.n/\t'.n<=t.n+4:=by
  have p1:=gJ (t:=t) (m:=5) (by omega) (by omega) h0 (by omega)
  obtain⟨w0,w1⟩:=bC (t:=t) (m:=5) (by omega)
  generalize hw:bA t 5=w at *
  have t1n:(bf t 5).n=t.n+1:=fM t 5
  generalize bf t 5=t1 at *
  by_cases c0:w=0
  . subst c0
    exact⟨.tup [.str "any"],t1,by simp[lH,aL,fP,p1,aH],rfl,⟨(by show 1<=8;omega),(by show 3<=8;omega),True.intro⟩,by decide,by omega,by omega⟩
  . by_cases c1:w=1
    . subst c1
      have q1:=hn.pos
      have q2:=hn.few
      have q3:=sf nms
      have p2:=gJ (t:=t1) (m:=((vg nms).length:Nat)) (by omega) (by omega) (by omega) (by omega)
      obtain⟨v0,v1⟩:=bC (t:=t1) (m:=((vg nms).length:Nat)) (by omega)
      have Tt:(bf t1 ((vg nms).length:Nat)).n=t1.n+1:=fM t1 _
      generalize bA t1 ((vg nms).length:Nat)=v at *
      generalize bf t1 ((vg nms).length:Nat)=t2 at *
      obtain⟨z,a1,a2,a3⟩:=OU (nms:=nms) v0 (by rw[<-q3];exact v1)
      refine⟨.tup [.str "name",.str z],t2,by simp[lH,aL,fP,p1,aH,p2,a1],?_,⟨(by show 2<=8;omega),(by show 4<=8;omega),a3,True.intro⟩,by show max 0 (max 0 0)+1<=1;omega,by omega,by omega⟩
      rw[B0,if_pos (rN _)]
      exact a2
    . have p2:=gJ (t:=t1) (m:=6) (by omega) (by omega) (by omega) (by omega)
      obtain⟨v0,v1⟩:=bC (t:=t1) (m:=6) (by omega)
      generalize bA t1 6=v at *
      have Tt:(bf t1 6).n=t1.n+1:=fM t1 6
      generalize bf t1 6=t2 at *
      obtain⟨nb,b1,b2⟩:=uS (x:=.dW) (l:=[.int 0,.int 1,.int 2,.int 3,.int 5,.int 9]) v0 v1
      have hnb:kY nb 0 9=true/\Hq 8 nb/\gC nb=0:=by
        simp only[List.mem_cons,List.not_mem_nil,or_false] at b2
        rcases b2 with rfl | rfl | rfl | rfl | rfl | rfl <;> exact⟨by decide,True.intro,rfl⟩
      obtain⟨hd,d1,d2⟩:=uS (x:=.dW) (l:=[.str "less",.str "same",.str "more"]) (i:=w - 2) (by omega) (by simp only[List.length_cons,List.length_nil];omega)
      have XW:inD hd (yp.map D.str)=true/\lU hd (.str "name")=false/\Hq 8 hd/\gC hd=0:=by
        simp only[List.mem_cons,List.not_mem_nil,or_false] at d2
        rcases d2 with rfl | rfl | rfl <;> exact⟨by decide,by decide,(by show _<=8;decide),rfl⟩
      have fin:∀x:D,(kY x 0 9=true\/inD x (bs.map D.str)=true)->Hq 8 x->gC x=0->zz bs (.tup [hd,x])=true/\Hq 8 (.tup [hd,x])/\gC (.tup [hd,x])<=1:=fun x h1 h2 h3=>by
        refine⟨?_,⟨(by show 2<=8;omega),XW.2.2.1,h2,True.intro⟩,by show max (gC hd) (max (gC x) 0)+1<=1;rw[XW.2.2.2,h3];decide⟩
        rw[B0,XW.2.1,XW.1]
        rcases h1 with q | q
        . rw[q];rfl
        . rw[q];simp
      have dv:gC (.tup (bs.map D.str))<=40:=by show cP (bs.map D.str)+1<=40;rw[L2.rW];omega
      cases bs with
      | nil=>
        obtain⟨f1,f2,f3⟩:=fin nb (.inl hnb.1) hnb.2.1 hnb.2.2
        refine⟨.tup [hd,nb],t2,?_,f1,f2,f3,by omega,by omega⟩
        have q:lU (.tup []) (.tup [])=true:=rfl
        simp only[List.map_nil] at dv ⊢
        simp[lH,aL,fP,p1,aH,c0,c1,p2,b1,dv,q,d1]
      | cons y ys=>
        have q:lU (.tup ((y :: ys).map D.str)) (.tup [])=false:=rfl
        have p3:=gJ (t:=t2) (m:=3) (by omega) (by omega) (by omega) (by omega)
        have t3n:(bf t2 3).n=t2.n+1:=fM t2 3
        generalize bA t2 3=u at *
        generalize bf t2 3=t3 at *
        by_cases c3:0 < u
        . have p4:=gJ (t:=t3) (m:=((y :: ys).map D.str).length) (by rw[List.length_map];simp only[List.length_cons];omega) (by rw[List.length_map];omega) (by omega) (by omega)
          have t4n:(bf t3 ((y :: ys).map D.str).length).n=t3.n+1:=fM t3 _
          obtain⟨x0,x1⟩:=bC (t:=t3) (m:=((y :: ys).map D.str).length) (by rw[List.length_map];simp only[List.length_cons];omega)
          obtain⟨vv,g1,g2⟩:=uS (x:=.dW) (l:=(y :: ys).map D.str) x0 x1
          generalize bf t3 ((y :: ys).map D.str).length=t4 at *
          generalize bA t3 ((y :: ys).map D.str).length=x at *
          obtain⟨vs,m1,rfl⟩:=List.mem_map.mp g2
          have iv:inD (.str vs) ((y :: ys).map D.str)=true:=by
            unfold inD
            exact List.any_eq_true.mpr ⟨.str vs,g2,rN _⟩
          obtain⟨f1,f2,f3⟩:=fin (.str vs) (.inr iv) (hs vs m1) rfl
          refine⟨.tup [hd,.str vs],t4,?_,f1,f2,f3,by omega,by omega⟩
          generalize (y :: ys).map D.str=L at *
          simp[lH,aL,fP,p1,aH,c0,c1,p2,b1,dv,q,p3,c3,p4,g1,d1]
        . obtain⟨f1,f2,f3⟩:=fin nb (.inl hnb.1) hnb.2.1 hnb.2.2
          refine⟨.tup [hd,nb],t3,?_,f1,f2,f3,by omega,by omega⟩
          generalize (y :: ys).map D.str=L at *
          simp[lH,aL,fP,p1,aH,c0,c1,p2,b1,dv,q,p3,c3,d1]
theorem dr0 {n room:Nat}{bs:List Str}{z:Str}{r:List D}(sh:gn bs z r=true) (pl:fB z r=[]) (nb:fO z=false) (hr:1<=room) (fit:Hq 8 (.tup (.str z :: r))) (dep:gC (.tup (.str z :: r))<=n+2):Dr (n+1) bs room 0 (.tup (.str z :: r)):=by
 have es:=wZ n z r
 have eb:=AB n z r
 rw[pl] at es eb
 rw[nb] at eb
 simp at es eb
 exact⟨(qN n bs z r).mpr ⟨sh,by rw[pl];simp⟩,by omega,by omega,fit,dep⟩
theorem dr1 {n room b:Nat}{bs:List Str}{z:Str}{r:List D}{p:D}(sh:gn bs z r=true) (pl:fB z r=[p]) (h:Dr n (jr bs z r) room b p) (fit:Hq 8 (.tup (.str z :: r))) (dep:gC (.tup (.str z :: r))<=n+2):Dr (n+1) bs (room+1) ((if fO z=true then 1 else 0)+b) (.tup (.str z :: r)):=by
 have es:=wZ n z r
 have eb:=AB n z r
 rw[pl] at es eb
 have e1:([p].flatMap (gD n)).length=se n p:=by simp[se]
 have e2:(([p].flatMap (gD n)).filter oU).length=Az n p:=by simp[Az]
 rw[e1] at es
 rw[e2] at eb
 have:=h.sz
 have:=h.bn
 refine⟨(qN n bs z r).mpr ⟨sh,by rw[pl];intro q hq;rw[show q=p by simpa using hq];exact h.fm⟩,by omega,?_,fit,dep⟩
 by_cases hb:fO z=true
 ·rw[if_pos hb] at eb ⊢;omega
 ·rw[if_neg hb] at eb ⊢;omega
theorem dr2 {n r1 r2 b1 b2:Nat}{bs:List Str}{z:Str}{r:List D}{p q:D}(sh:gn bs z r=true) (pl:fB z r=[p,q]) (nb:fO z=false) (h1:Dr n bs r1 b1 p) (h2:Dr n bs r2 b2 q) (fit:Hq 8 (.tup (.str z :: r))) (dep:gC (.tup (.str z :: r))<=n+2):Dr (n+1) bs (r1+r2+1) (b1+b2) (.tup (.str z :: r)):=by
 have es:=wZ n z r
 have eb:=AB n z r
 rw[pl] at es eb
 have e1:([p,q].flatMap (gD n)).length=se n p+se n q:=by simp[se]
 have e2:(([p,q].flatMap (gD n)).filter oU).length=Az n p+Az n q:=by simp[Az]
 rw[e1] at es
 rw[e2,nb] at eb
 simp at eb
 have:=h1.sz
 have:=h1.bn
 have:=h2.sz
 have:=h2.bn
 have ib:jr bs z r=bs:=by unfold jr;rw[if_neg (by rw[nb];simp)]
 refine⟨(qN n bs z r).mpr ⟨sh,by rw[pl,ib];intro x hx;simp at hx;rcases hx with rfl | rfl;exact h1.fm;exact h2.fm⟩,by omega,by omega,fit,dep⟩
theorem Dr.more {n room OV b:Nat}{bs:List Str}{d:D}(h:Dr n bs room b d) (hr:room<=OV):Dr n bs OV b d:=⟨h.fm,Nat.le_trans h.sz hr,h.bn,h.fit,h.dep⟩
noncomputable def bZ (au:FM) (lI:FM) (bY:FM) (j6:FM):GS:=
 (aQ (cG 5 (aU au (cB (aj 0) (aK (eC (.int 9)) bG))))
 (aQ (gT (wj (qB (eF (eP z5 (aa (eF (aj 3)) (aa (eC (.int 2)) aq))))) (wj (qB (eF (eP z5 (aa (eF (aj 4)) (aa (eC (.int 2)) aq))))) (qB (eF (eP dY (aa (eF (aj 5)) (aa (eC (.int 0)) aq))))))) (aQ (gT (qB (eF (eP dY (aa (eF (eP oq (aa (eF (aj 5)) (aa (eC (.int 5)) aq)))) (aa (eC (.int 4)) aq))))) (cu (eP iA (aa (eF (eP tM (aa (eF (eP gB (aa (eC (.str "yes")) (aa (eC (.str "no")) aq)))) (aa (eF (aU au (cB (aj 0) (aK (eC (.int 2)) bG)))) aq)))) aq))) cF)
 (cu (eP iA (aa (eC (.str "now")) (aa (eF (aU lI (cB (aj 0) (aK (bR 1 (eC (.str "names"))) (aK (eF (aj 2)) bG))))) aq))))) cF)
 (aQ (gT (mH (qB (eF (eP z5 (aa (eF (aj 5)) (aa (eC (.int 5)) aq))))) (qB (eF (eP Ql (aa (eF (aj 3)) (aa (eC (.int 2)) aq)))))) (aQ (cG 6 (eP dB (aa (eC (.int 1)) (aa (eF (aU au (cB (aj 0) (aK (eF (eP p9 (aa (eF (aj 3)) (aa (eC (.int 2)) aq)))) bG)))) aq))))
 (aQ (cG 7 (aU bY (cB (aj 0) (cB (aj 1) (aK (eF (aj 2)) (aK (eF (aj 6)) (aK (eF (eP p9 (aa (eF (aj 4)) (aa (eC (.int 1)) aq)))) bG)))))))
 (aQ (cG 8 (aU bY (cB (aj 0) (cB (aj 1) (aK (eF (aj 2)) (aK (eF (eP p9 (aa (eF (eP p9 (aa (eF (aj 3)) (aa (eC (.int 1)) aq)))) (aa (eF (aj 6)) aq)))) (aK (eF (eP p9 (aa (eF (aj 4)) (aa (eC (.int 1)) aq)))) bG)))))))
 (cu (eP iA (aa (eF (eP tM (aa (eF (eP gB (aa (eC (.str "both")) (aa (eC (.str "either")) (aa (eC (.str "till")) (aa (eC (.str "till")) aq)))))) (aa (eF (eP p9 (aa (eF (aj 5)) (aa (eC (.int 1)) aq)))) aq)))) (aa (eF (aj 7)) (aa (eF (aj 8)) aq)))))))) cF)
 (cu (aU j6 (cB (aj 0) (cB (aj 1) (aK (eF (aj 2)) (aK (eF (aj 3)) (aK (eF (aj 4)) bG))))))))))
noncomputable def cV (au:FM) (bY:FM):GS:=
 (aQ (cG 5 (aU au (cB (aj 0) (aK (eC (.int 8)) bG))))
 (aQ (gT (mH (qB (eF (eP z5 (aa (eF (aj 5)) (aa (eC (.int 3)) aq))))) (qB (eF (eP z5 (aa (bR 1 (eC (.str "binders"))) (aa (eC (.int 3)) aq)))))) (aQ (C4 1 (eC (.str "binders")) (eF (eP dB (aa (bR 1 (eC (.str "binders"))) (aa (eC (.int 1)) aq)))))
 (aQ (cG 6 (eT (bR 1 (eC (.str "names")))))
 (aQ (cG 7 (eP tM (aa (eF (eP gB (aa (eC (.str "x")) (aa (eC (.str "k")) (aa (eC (.str "a")) (aa (eC (.str "ab")) aq)))))) (aa (eF (aU au (cB (aj 0) (aK (eC (.int 4)) bG)))) aq))))
 (aQ (cG 8 (eP iA (aa (eF (eP tM (aa (eF (eP gB (aa (eC (.str "each")) (aa (eC (.str "one")) aq)))) (aa (eF (eP oq (aa (eF (aj 5)) (aa (eC (.int 2)) aq)))) aq)))) (aa (bR 6 (eF (aU au (cB (aj 0) (aK (jA 6) bG))))) (aa (eF (aj 7)) aq)))))
 (cu (eP dB (aa (eF (aj 8)) (aa (eF (eP iA (aa (eF (aU bY (cB (aj 0) (cB (aj 1) (aK (eF (eP dB (aa (eF (aj 2)) (aa (eF (eP iA (aa (eF (aj 7)) aq))) aq)))) (aK (eF (eP p9 (aa (eF (aj 3)) (aa (eC (.int 1)) aq)))) (aK (eF (eP p9 (aa (eF (aj 4)) (aa (eC (.int 1)) aq)))) bG))))))) aq))) aq)))))))) cF)
 (aQ (cG 8 (eP iA (aa (eF (eP tM (aa (eF (eP gB (aa (eC (.str "not")) (aa (eC (.str "next")) (aa (eC (.str "always")) (aa (eC (.str "some")) aq)))))) (aa (eF (eP oq (aa (eF (aj 5)) (aa (eC (.int 4)) aq)))) aq)))) aq)))
 (aQ (gT (qB (eF (eP dY (aa (eF (aj 5)) (aa (eC (.int 3)) aq))))) (cG 8 (eP iA (aa (eC (.str "within")) (aa (eF (aU au (cB (aj 0) (aK (eC (.int 6)) bG)))) aq)))) cF)
 (cu (eP dB (aa (eF (aj 8)) (aa (eF (eP iA (aa (eF (aU bY (cB (aj 0) (cB (aj 1) (aK (eF (aj 2)) (aK (eF (eP p9 (aa (eF (aj 3)) (aa (eC (.int 1)) aq)))) (aK (eF (eP p9 (aa (eF (aj 4)) (aa (eC (.int 1)) aq)))) bG))))))) aq))) aq))))))))
section
variable {f1 f2 f3 f4:FM}{T0 T1 T2 T3 T4:MO}{ws FW Nd:List (Key×D)}{vs nd d1 d2:D}{room deep w:Int}
theorem Rb {v:Int}{y:D}(p1:f1 [.b T0,.t (.int 9)]=some (.t (.int w),[T1])) (h:room < 2\/deep < 2\/w=0) (h5:w % 5=4) (p2:f1 [.b T1,.t (.int 2)]=some (.t (.int v),[T2])) (hy:gj [.str "yes",.str "no"] v=some y):
  aL 9 (bZ f1 f2 f3 f4) [.b T0,.b (.dct ws),.t vs,.t (.int room),.t (.int deep)]=some (.t (.tup [y]),[T2,.dct ws]):=by
 by_cases a:room < 2
 ·simp[aL,bZ,p1,a,h5,p2,hy,aH]
 ·by_cases b:deep < 2
  ·simp[aL,bZ,p1,a,b,h5,p2,hy,aH]
  ·have c:w=0:=by rcases h with h | h | h;exact absurd h a;exact absurd h b;exact h
   subst c
   exact absurd h5 (by decide)
theorem Rc {d:D}(p1:f1 [.b T0,.t (.int 9)]=some (.t (.int w),[T1])) (h:room < 2\/deep < 2\/w=0) (h5:¬w % 5=4) (hn:bX ws (.inr "names")=some nd) (p2:f2 [.b T1,.t nd,.t vs]=some (.t d,[T2])):
  aL 9 (bZ f1 f2 f3 f4) [.b T0,.b (.dct ws),.t vs,.t (.int room),.t (.int deep)]=some (.t (.tup [.str "now",d]),[T2,.dct ws]):=by
 by_cases a:room < 2
 ·simp[aL,bZ,p1,a,h5,hn,p2,aH]
 ·by_cases b:deep < 2
  ·simp[aL,bZ,p1,a,b,h5,hn,p2,aH]
  ·have c:w=0:=by rcases h with h | h | h;exact absurd h a;exact absurd h b;exact h
   subst c
   simp[aL,bZ,p1,a,b,hn,p2,aH]
theorem Rf {fi:Int}{y:D}(p1:f1 [.b T0,.t (.int 9)]=some (.t (.int w),[T1])) (ha:¬room < 2) (hb:¬deep < 2) (hc:¬w=0) (h5:w < 5) (h2:2 < room) (p2:f1 [.b T1,.t (.int (room - 2))]=some (.t (.int fi),[T2]))
  (p3:f3 [.b T2,.b (.dct ws),.t vs,.t (.int (1+fi)),.t (.int (deep - 1))]=some (.t d1,[T3,.dct FW])) (p4:f3 [.b T3,.b (.dct FW),.t vs,.t (.int (room - 1 - (1+fi))),.t (.int (deep - 1))]=some (.t d2,[T4,.dct Nd])) (hy:gj [.str "both",.str "either",.str "till",.str "till"] (w - 1)=some y):
  aL 9 (bZ f1 f2 f3 f4) [.b T0,.b (.dct ws),.t vs,.t (.int room),.t (.int deep)]=some (.t (.tup [y,d1,d2]),[T4,.dct Nd]):=by
 simp[aL,bZ,p1,ha,hb,hc,h5,h2,p2,p3,p4,hy,aH]
theorem VB (p1:f1 [.b T0,.t (.int 9)]=some (.t (.int w),[T1])) (ha:¬room < 2) (hb:¬deep < 2) (hc:¬w=0) (h:¬(w < 5/\2 < room)) (p2:f4 [.b T1,.b (.dct ws),.t vs,.t (.int room),.t (.int deep)]=some (.t d1,[T2,.dct FW])):
  aL 9 (bZ f1 f2 f3 f4) [.b T0,.b (.dct ws),.t vs,.t (.int room),.t (.int deep)]=some (.t d1,[T2,.dct FW]):=by
 by_cases a:w < 5
 ·have b:¬2 < room:=fun q=>h ⟨a,q⟩
  simp[aL,bZ,p1,ha,hb,hc,a,b,p2,aH]
 ·simp[aL,bZ,p1,ha,hb,hc,a,p2,aH]
theorem Rg {b x n:Int}{bl nl:List D}{xd hd nm:D}(p1:f1 [.b T0,.t (.int 8)]=some (.t (.int w),[T1])) (h3:w < 3) (hb:bX ws (.inr "binders")=some (.int b)) (b3:b < 3) (hl:ws.length < 100000) (hp:putD ws (.inr "binders") (.int (b+1))=FW) (hn:bX FW (.inr "names")=some (.lst nl))
  (p2:f1 [.b T1,.t (.int 4)]=some (.t (.int x),[T2])) (hx:gj [.str "x",.str "k",.str "a",.str "ab"] x=some xd) (hh:gj [.str "each",.str "one"] (w % 2)=some hd) (p3:f1 [.b T2,.t (.int (nl.length:Nat))]=some (.t (.int n),[T3])) (hm:gj nl n=some nm) (hv:bl.length+1<=100000)
  (p4:f2 [.b T3,.b (.dct FW),.t (.tup (bl++[xd])),.t (.int (room - 1)),.t (.int (deep - 1))]=some (.t d1,[T4,.dct Nd])):
  aL 9 (cV f1 f2) [.b T0,.b (.dct ws),.t (.tup bl),.t (.int room),.t (.int deep)]=some (.t (.tup [hd,nm,xd,d1]),[T4,.dct Nd]):=by
 simp[aL,cV,p1,h3,hb,b3,hl,hp,hn,p2,hx,hh,p3,hm,hv,p4,aH]
theorem Rh {b:Int}{hd:D}(p1:f1 [.b T0,.t (.int 8)]=some (.t (.int w),[T1])) (hb:bX ws (.inr "binders")=some (.int b)) (h3:¬(w < 3/\b < 3)) (hw:¬w=3) (hh:gj [.str "not",.str "next",.str "always",.str "some"] (w % 4)=some hd)
  (p4:f2 [.b T1,.b (.dct ws),.t vs,.t (.int (room - 1)),.t (.int (deep - 1))]=some (.t d1,[T4,.dct Nd])):
  aL 9 (cV f1 f2) [.b T0,.b (.dct ws),.t vs,.t (.int room),.t (.int deep)]=some (.t (.tup [hd,d1]),[T4,.dct Nd]):=by
 by_cases a:w < 3
 ·have b:¬b < 3:=fun q=>h3 ⟨a,q⟩
  simp[aL,cV,p1,a,hb,b,hw,hh,p4,aH]
 ·simp[aL,cV,p1,a,hw,hh,p4,aH]
theorem Gs {k:Int}(p1:f1 [.b T0,.t (.int 8)]=some (.t (.int 3),[T1])) (p2:f1 [.b T1,.t (.int 6)]=some (.t (.int k),[T2]))
  (p4:f2 [.b T2,.b (.dct ws),.t vs,.t (.int (room - 1)),.t (.int (deep - 1))]=some (.t d1,[T4,.dct Nd])):
  aL 9 (cV f1 f2) [.b T0,.b (.dct ws),.t vs,.t (.int room),.t (.int deep)]=some (.t (.tup [.str "within",.int k,d1]),[T4,.dct Nd]):=by
 have hh:gj [D.str "not",.str "next",.str "always",.str "some"] 3=some (.str "some"):=rfl
 simp[aL,cV,p1,p2,hh,p4,aH]
end
noncomputable def VC:Nat->FM×FM
 | 0=>(fun _=>none,fun _=>none)
 | j+1=>(aL 9 (bZ dD lH (VC j).1 (VC j).2),aL 9 (cV dD (VC j).1))
noncomputable def uf (j:Nat):FM:=(VC j).1
noncomputable def J6 (j:Nat):FM:=(VC j).2
theorem Nf (j:Nat):∀us r,uf (j+1) us=some r->aL 9 (bZ dD lH (uf j) (J6 j)) us=some r:=fun _ _ h=>h
theorem Ng (j:Nat):∀us r,J6 (j+1) us=some r->aL 9 (cV dD (uf j)) us=some r:=fun _ _ h=>h
theorem Gu (us:List U):uf 0 us=none:=rfl
theorem Gv (us:List U):J6 0 us=none:=rfl
noncomputable def J7 (nms:List Str) (f:FM) (deep room:Nat):Prop:=∀(t:dz) (bs:List Str) (b:Nat),0<=t.n->t.n+8 * room < 700000->bs.length+deep < 800->(∀z∈bs,z.length<=8)->b<=3->
 ∃(d:D) (t':dz) (bin:Nat),f [.b (tp t),.b (.dct (EK nms b)),.t (.tup (bs.map D.str)),.t (.int room),.t (.int deep)]=some (.t d,[tp t',.dct (EK nms ((b+bin:Nat):Int))])/\Dr deep bs room bin d/\b+bin<=3/\t.n<=t'.n/\t'.n<=t.n+8 * room
theorem Gw {z:Str}(h:z.length<=8):Hq 8 (.str z):=h
theorem w4 {bs:List Str}{z:Str}{r:List D}(c:j5 z=(r.length:Int)+1) (n1:z≠"now") (n2:z≠"within") (hb:fO z=false):gn bs z r=true:=BZ c n1 (fun q=>n2 q.1) hb
theorem J8 {nms:List Str} [hn:Dq nms] {f:FM}{deep room:Nat}(hr:2<=room) (hd:2<=deep) (ih:J7 nms f (deep - 1) (room - 1)):
  ∀(t:dz) (bs:List Str) (b:Nat),0<=t.n->t.n+8 * room < 700002->bs.length+deep < 800->(∀z∈bs,z.length<=8)->b<=3->
  ∃(d:D) (t':dz) (bin:Nat),aL 9 (cV dD f) [.b (tp t),.b (.dct (EK nms b)),.t (.tup (bs.map D.str)),.t (.int room),.t (.int deep)]=some (.t d,[tp t',.dct (EK nms ((b+bin:Nat):Int))])/\Dr deep bs room bin d/\b+bin<=3/\t.n<=t'.n/\t'.n+1<=t.n+8 * room:=by
 intro t bs b t0 t1 hl hs hb
 obtain⟨n,rfl⟩:∃n,deep=n+1:=⟨deep - 1,by omega⟩
 obtain⟨rm,rfl⟩:∃m,room=m+1:=⟨room - 1,by omega⟩
 have ih:J7 nms f n rm:=ih
 have er:(((rm+1:Nat):Int) - 1)=(rm:Int):=by omega
 have ed:(((n+1:Nat):Int) - 1)=(n:Int):=by omega
 have p1:=gJ (t:=t) (m:=8) (by omega) (by omega) t0 (by omega)
 obtain⟨w0,w1⟩:=bC (t:=t) (m:=8) (by omega)
 have t1n:(bf t 8).n=t.n+1:=fM t 8
 generalize bA t 8=w at *
 generalize bf t 8=ta at *
 by_cases c:w < 3/\(b:Int) < 3
 ·have p2:=gJ (t:=ta) (m:=4) (by omega) (by omega) (by omega) (by omega)
  obtain⟨x0,x1⟩:=bC (t:=ta) (m:=4) (by omega)
  have Tt:(bf ta 4).n=ta.n+1:=fM ta 4
  generalize bA ta 4=x at *
  generalize bf ta 4=tb at *
  have q1:=hn.pos
  have q2:=hn.few
  have p3:=gJ (t:=tb) (m:=((vg nms).length:Nat)) (by rw[(sf nms)];omega) (by rw[(sf nms)];omega) (by omega) (by omega)
  obtain⟨m0,m1⟩:=bC (t:=tb) (m:=((vg nms).length:Nat)) (by rw[(sf nms)];omega)
  have t3n:(bf tb ((vg nms).length:Nat)).n=tb.n+1:=fM tb _
  generalize bA tb ((vg nms).length:Nat)=m at *
  generalize bf tb ((vg nms).length:Nat)=tc at *
  obtain⟨nm,a1,a2,a3⟩:=OU m0 (by rw[(sf nms)] at m1;exact m1)
  obtain⟨xd,b1,b2⟩:=uS (x:=.dW) (l:=[.str "x",.str "k",.str "a",.str "ab"]) x0 x1
  obtain⟨hd,d1,d2⟩:=uS (x:=.dW) (l:=[.str "each",.str "one"]) (i:=w % 2) (Int.emod_nonneg _ (by decide)) (Int.emod_lt_of_pos _ (by decide))
  obtain⟨xs,rfl,xn,xl⟩:∃xs,xd= .str xs/\nameB (.str xs)=true/\xs.length<=8:=by
   simp only[List.mem_cons,List.not_mem_nil,or_false] at b2
   rcases b2 with rfl | rfl | rfl | rfl <;> exact⟨_,rfl,by decide +kernel,by decide⟩
  obtain⟨hs2,rfl,hbn,hhl,Jk⟩:∃z,hd= .str z/\fO z=true/\z.length<=8/\j5 z=4/\eO z=3/\z≠"now"/\z≠"within":=by
   simp only[List.mem_cons,List.not_mem_nil,or_false] at d2
   rcases d2 with rfl | rfl <;> exact⟨_,rfl,by decide,by decide,by decide,by decide,by decide,by decide⟩
  obtain⟨l4,s3,n1,n2⟩:=Jk
  obtain⟨d,t',bin,g1,g2,g3,g4,g5⟩:=ih tc (bs++[xs]) (b+1) (by omega) (by omega) (by rw[List.length_append,List.length_singleton];omega) (by
   intro z hz
   rcases List.mem_append.mp hz with q | q
   ·exact hs z q
   ·rw[show z=xs by simpa using q];exact xl) (by omega)
  have ev:(bs++[xs]).map D.str=bs.map D.str++[.str xs]:=by rw[List.map_append];rfl
  have eb1:((b+1:Nat):Int)=(b:Int)+1:=by omega
  rw[ev,eb1] at g1
  have sh:gn bs hs2 [.str nm,.str xs,d]=true:=by
   unfold gn
   rw[if_pos (by rw[l4];rfl)]
   simp only[n1,n2,if_false,hbn,if_true,a2,xn]
   rfl
  have pl:fB hs2 [.str nm,.str xs,d]=[d]:=by unfold fB;rw[s3];rfl
  have ib:jr bs hs2 [.str nm,.str xs,d]=bs++[xs]:=by unfold jr;rw[if_pos hbn];rfl
  have dr:=dr1 (n:=n) (room:=rm) (b:=bin) (bs:=bs) (z:=hs2) (r:=[.str nm,.str xs,d]) sh pl (by rw[ib];exact g2) ⟨(by show 4<=8;omega),Gw hhl,Gw a3,Gw xl,g2.fit,True.intro⟩ (by
   have:=g2.dep
   show max 0 (max 0 (max 0 (max (gC d) 0)))+1<=n+2
   omega)
  rw[if_pos hbn] at dr
  refine⟨_,t',1+bin,?_,dr,by omega,by omega,by omega⟩
  have ebb:((b+(1+bin):Nat):Int)=((b+1+bin:Nat):Int):=by omega
  rw[ebb]
  exact Rg (f1:=dD) (f2:=f) (ws:=EK nms b) (FW:=EK nms ((b:Int)+1)) (Nd:=EK nms ((b+1+bin:Nat):Int)) p1 c.1 (OT nms b) c.2 (by show 2 < 100000;omega) (VA nms b _) (OS nms _) p2 b1 d1 p3 a1 (by rw[List.length_map];omega) (by rw[er,ed];exact g1)
 ·by_cases cw:w=3
  ·subst cw
   have p2:=gJ (t:=ta) (m:=6) (by omega) (by omega) (by omega) (by omega)
   obtain⟨x0,x1⟩:=bC (t:=ta) (m:=6) (by omega)
   have Tt:(bf ta 6).n=ta.n+1:=fM ta 6
   generalize bA ta 6=x at *
   generalize bf ta 6=tb at *
   obtain⟨d,t',bin,g1,g2,g3,g4,g5⟩:=ih tb bs b (by omega) (by omega) (by omega) hs hb
   have sh:gn bs "within" [.int x,d]=true:=by
    unfold gn
    rw[if_pos (by rw[EJ.2];rfl)]
    simp only[show ¬(("within":Str)="now") by decide,if_false,if_true]
    show(decide (0<=x) && decide (x<=5))=true
    simp only[Bool.and_eq_true,decide_eq_true_eq]
    omega
   have pl:fB "within" [.int x,d]=[d]:=by unfold fB;rw[show eO "within" =2 by decide];rfl
   have nb:fO "within" =false:=by decide
   have ib:jr bs "within" [.int x,d]=bs:=by unfold jr;rw[if_neg (by rw[nb];simp)]
   have dr:=dr1 (n:=n) (room:=rm) (b:=bin) (bs:=bs) (z:="within") (r:=[.int x,d]) sh pl (by rw[ib];exact g2) ⟨(by show 3<=8;omega),(by show 6<=8;omega),True.intro,g2.fit,True.intro⟩ (by
    have:=g2.dep
    show max 0 (max 0 (max (gC d) 0))+1<=n+2
    omega)
   rw[if_neg (by rw[nb];simp),Nat.zero_add] at dr
   exact⟨_,t',bin,Gs p1 p2 (by rw[er,ed];exact g1),dr,g3,by omega,by omega⟩
  ·obtain⟨d,t',bin,g1,g2,g3,g4,g5⟩:=ih ta bs b (by omega) (by omega) (by omega) hs hb
   obtain⟨hd,d1,d2⟩:=uS (x:=.dW) (l:=[.str "not",.str "next",.str "always",.str "some"]) (i:=w % 4) (Int.emod_nonneg _ (by decide)) (Int.emod_lt_of_pos _ (by decide))
   obtain⟨z,rfl,nb,zl,l2,s1,n1,n2⟩:∃z,hd= .str z/\fO z=false/\z.length<=8/\j5 z=2/\eO z=1/\z≠"now"/\z≠"within":=by
    simp only[List.mem_cons,List.not_mem_nil,or_false] at d2
    rcases d2 with rfl | rfl | rfl | rfl <;> exact⟨_,rfl,by decide,by decide,by decide,by decide,by decide,by decide⟩
   have sh:gn bs z [d]=true:=w4 (by rw[l2];rfl) n1 n2 nb
   have pl:fB z [d]=[d]:=by unfold fB;rw[s1];rfl
   have ib:jr bs z [d]=bs:=by unfold jr;rw[if_neg (by rw[nb];simp)]
   have dr:=dr1 (n:=n) (room:=rm) (b:=bin) (bs:=bs) (z:=z) (r:=[d]) sh pl (by rw[ib];exact g2) ⟨(by show 2<=8;omega),Gw zl,g2.fit,True.intro⟩ (by
    have:=g2.dep
    show max 0 (max (gC d) 0)+1<=n+2
    omega)
   rw[if_neg (by rw[nb];simp),Nat.zero_add] at dr
   exact⟨_,t',bin,Rh p1 (OT nms b) c cw d1 (by rw[er,ed];exact g1),dr,g3,by omega,by omega⟩
theorem Ri {nms : List Str} [hn : Dq nms] : ∀ (deep : Nat), 1 <= deep -> ∀ (j room : Nat), 2 * deep <= j -> 1 <= room -> room <= 100 -> J7 nms (uf j) deep room := by
  intro deep
  induction deep with
  | zero=>intro h;omega
  | succ n ih=>
    intro _ j room hj hr hr9 t bs b t0 t1 hl hs hb
    obtain⟨i,rfl⟩:∃i,j=i+2:=⟨j - 2,by omega⟩
    have p1:=gJ (t:=t) (m:=9) (by omega) (by omega) t0 (by omega)
    obtain⟨w0,w1⟩:=bC (t:=t) (m:=9) (by omega)
    have t1n:(bf t 9).n=t.n+1:=fM t 9
    generalize bA t 9=w at *
    generalize bf t 9=ta at *
    show ∃d t' bin,aL 9 (bZ dD lH (uf (i+1)) (J6 (i+1))) _=_/\_
    by_cases c:(room:Int) < 2\/((n+1:Nat):Int) < 2\/w=0
    . by_cases c5:w % 5=4
      . have p2:=gJ (t:=ta) (m:=2) (by omega) (by omega) (by omega) (by omega)
        obtain⟨v0,v1⟩:=bC (t:=ta) (m:=2) (by omega)
        have Tt:(bf ta 2).n=ta.n+1:=fM ta 2
        generalize bA ta 2=v at *
        generalize bf ta 2=tb at *
        obtain⟨y,y1,y2⟩:=uS (x:=.dW) (l:=[.str "yes",.str "no"]) v0 v1
        obtain⟨z,rfl,nb,zl,l2,s1,n1,n2⟩:∃z,y= .str z/\fO z=false/\z.length<=8/\j5 z=1/\eO z=1/\z≠"now"/\z≠"within":=by
          simp only[List.mem_cons,List.not_mem_nil,or_false] at y2
          rcases y2 with rfl | rfl <;> exact⟨_,rfl,by decide,by decide,by decide,by decide,by decide,by decide⟩
        refine⟨_,tb,0,Rb p1 c c5 p2 y1,dr0 (w4 (by rw[l2];rfl) n1 n2 nb) (by unfold fB;rw[s1];rfl) nb hr ⟨(by show 1<=8;omega),Gw zl,True.intro⟩ (by show max 0 0+1<=n+2;omega),hb,by omega,by omega⟩
      . obtain⟨d,t',g1,g2,g3,g4,g5,g6⟩:=J5 (nms:=nms) (t:=ta) (bs:=bs) (by omega) (by omega) (by omega) hs
        refine⟨_,t',0,Rc p1 c c5 (OS nms b) g1,dr0 (z:="now") (r:=[d]) ?_ (by unfold fB;rw[show eO "now" =2 by decide];rfl) (by decide) hr ⟨(by show 2<=8;omega),(by show 3<=8;omega),g3,True.intro⟩ (by show max 0 (max (gC d) 0)+1<=n+2;omega),hb,by omega,by omega⟩
        unfold gn
        rw[if_pos (by rw[EJ.1];rfl)]
        simp only[if_true]
        exact g2
    . have c1:¬(room:Int) < 2:=fun q=>c (.inl q)
      have c2:¬((n+1:Nat):Int) < 2:=fun q=>c (.inr (.inl q))
      have c3:¬w=0:=fun q=>c (.inr (.inr q))
      have ed:(((n+1:Nat):Int) - 1)=(n:Int):=by omega
      by_cases c4:w < 5/\2 < (room:Int)
      . have p2:=gJ (t:=ta) (m:=(room:Int) - 2) (by omega) (by omega) (by omega) (by omega)
        obtain⟨v0,v1⟩:=bC (t:=ta) (m:=(room:Int) - 2) (by omega)
        have Tt:(bf ta ((room:Int) - 2)).n=ta.n+1:=fM ta _
        generalize bA ta ((room:Int) - 2)=v at *
        generalize bf ta ((room:Int) - 2)=tb at *
        obtain⟨r1,hr1⟩:∃r1:Nat,(r1:Int)=1+v:=⟨(1+v).toNat,by omega⟩
        obtain⟨r2,hr2⟩:∃r2:Nat,(r2:Int)=(room:Int) - 1 - (1+v):=⟨((room:Int) - 1 - (1+v)).toNat,by omega⟩
        obtain⟨d1,ta1,b1,g1,g2,g3,g4,g5⟩:=ih (by omega) (i+1) r1 (by omega) (by omega) (by omega) tb bs b (by omega) (by omega) (by omega) hs hb
        obtain⟨d2,ta2,b2,k1,k2,k3,k4,k5⟩:=ih (by omega) (i+1) r2 (by omega) (by omega) (by omega) ta1 bs (b+b1) (by omega) (by omega) (by omega) hs g3
        obtain⟨y,y1,y2⟩:=uS (x:=.dW) (l:=[.str "both",.str "either",.str "till",.str "till"]) (i:=w - 1) (by omega) (by simp only[List.length_cons,List.length_nil];omega)
        obtain⟨z,rfl,nb,zl,l2,s1,n1,n2⟩:∃z,y= .str z/\fO z=false/\z.length<=8/\j5 z=3/\eO z=1/\z≠"now"/\z≠"within":=by
          simp only[List.mem_cons,List.not_mem_nil,or_false] at y2
          rcases y2 with rfl | rfl | rfl | rfl <;> exact⟨_,rfl,by decide,by decide,by decide,by decide,by decide,by decide⟩
        have dr:=dr2 (n:=n) (bs:=bs) (z:=z) (r:=[d1,d2]) (w4 (by rw[l2];rfl) n1 n2 nb) (by unfold fB;rw[s1];rfl) nb g2 k2 ⟨(by show 3<=8;omega),Gw zl,g2.fit,k2.fit,True.intro⟩ (by
          have:=g2.dep
          have:=k2.dep
          show max 0 (max (gC d1) (max (gC d2) 0))+1<=n+2
          omega)
        have ebb:((b+(b1+b2):Nat):Int)=((b+b1+b2:Nat):Int):=by omega
        refine⟨_,ta2,b1+b2,?_,dr.more (by omega),by omega,by omega,by omega⟩
        rw[ebb]
        rw[hr1] at g1
        rw[hr2] at k1
        exact Rf p1 c1 c2 c3 c4.1 c4.2 p2 (by rw[ed];exact g1) (by rw[ed];exact k1) y1
      . obtain⟨d,t',bin,g1,g2,g3,g4,g5⟩:=J8 (f:=uf i) (deep:=n+1) (room:=room) (by omega) (by omega) (ih (by omega) i (room - 1) (by omega) (by omega) (by omega)) ta bs b (by omega) (by omega) hl hs hb
        exact⟨d,t',bin,VB p1 c1 c2 c3 c4 g1,g2,g3,by omega,by omega⟩
theorem J9 (n:Nat):(nN 0 n).length=n:=by unfold nN;rw[List.length_map,List.length_range]
noncomputable def iN (bY:FM):GS:=
 (cu (aU bY (cB (aj 0) (cB (wJ [("names",(eF (aj 1))),("binders",(eC (.int 0)))]) (aK (eF (eP iA aq)) (aK (eF (aj 2)) (aK (eF (aj 3)) bG)))))))
noncomputable def jG:FM:=aL 4 (iN (uf 17))
theorem Ds:∀us r,jG us=some r->aL 4 (iN (uf 17)) us=some r:=fun _ _ h=>h
theorem VD (nms:List Str):mq [] [((.inr "names":Key),D.lst (vg nms)),(.inr "binders",.int 0)]=EK nms 0:=rfl
theorem Ka {nms:List Str} [hn:Dq nms] {t:dz}{room deep:Nat}(h0:0<=t.n) (h1:t.n < 600000) (r1:1<=room) (r2:room<=16) (d1:1<=deep) (d2:deep<=8):
  ∃d t' bin,jG [.b (tp t),.t (.lst (vg nms)),.t (.int room),.t (.int deep)]=some (.t d,[tp t'])/\Dr deep [] room bin d/\bin<=3/\t.n<=t'.n/\t'.n<=t.n+128:=by
 obtain⟨d,t',bin,g1,g2,g3,g4,g5⟩:=Ri (nms:=nms) deep d1 17 room (by omega) r1 (by omega) t [] 0 h0 (by omega) (by simp only[List.length_nil];omega) (by simp) (by omega)
 refine⟨d,t',bin,?_,g2,by omega,g4,by omega⟩
 have g1:uf 17 [.b (tp t),.b (.dct (EK nms 0)),.t (.tup []),.t (.int room),.t (.int deep)]=some (.t d,[tp t',.dct (EK nms ((0+bin:Nat):Int))]):=g1
 have w0:=VD nms
 show aL 4 (iN (uf 17)) _=_
 generalize uf 17=f at *
 simp[aL,iN,aH,w0,g1]
end Sn
end
section
namespace Sp
open PySem PySem.Spec PyProof.Rows L2 Sw Ss Sn
noncomputable def Rj:List Str:=["not","next","always","some"]
noncomputable def Rk:List Str:=["both","either","till"]
inductive Ts (bs:List Str):D->Prop where
 | any:Ts bs (.tup [.str "any"])
 | name {a:Str}:nameB (.str a)=true->Ts bs (.tup [.str "name",.str a])
 | num {o:Str}{k:Int}:o∈yp->0<=k->k<=9->Ts bs (.tup [.str o,.int k])
 | var {o y:Str}:o∈yp->y∈bs->Ts bs (.tup [.str o,.str y])
inductive Sy:Nat->List Str->D->Prop where
 | leaf {n:Nat}{bs:List Str}{z:Str}:z="yes"\/z="no"->Sy (n+1) bs (.tup [.str z])
 | now {n:Nat}{bs:List Str}{t:D}:Ts bs t->Sy (n+1) bs (.tup [.str "now",t])
 | one {n:Nat}{bs:List Str}{z:Str}{p:D}:z∈Rj->Sy n bs p->Sy (n+1) bs (.tup [.str z,p])
 | two {n:Nat}{bs:List Str}{z:Str}{p q:D}:z∈Rk->Sy n bs p->Sy n bs q->Sy (n+1) bs (.tup [.str z,p,q])
 | Gx {n:Nat}{bs:List Str}{k:Int}{p:D}:0<=k->k<=5->Sy n bs p->Sy (n+1) bs (.tup [.str "within",.int k,p])
 | bnd {n:Nat}{bs:List Str}{z a y:Str}{p:D}:z="each"\/z="one"->nameB (.str a)=true->nameB (.str y)=true->Sy n (bs++[y]) p->Sy (n+1) bs (.tup [.str z,.str a,.str y,p])
theorem EL {x:D}{zs:List Str}(h:inD x (zs.map D.str)=true):∃z∈zs,x= .str z:=by
 unfold inD at h
 rw[List.any_map,List.any_eq_true] at h
 obtain⟨z,hz,e⟩:=h
 exact⟨z,hz,ud (show lU (.str z) x=true from e)⟩
theorem zA {b:D}{m:Int}(h:kY b 0 m=true):∃k,b= .int k/\0<=k/\k<=m:=by
 cases b with
 | int k=>simp only[kY,Bool.and_eq_true,decide_eq_true_eq] at h;exact⟨k,rfl,h.1,h.2⟩
 | _=>cases h
theorem Ts.of {bs : List Str} {t : D} (h : zz bs t = true) : Ts bs t := by
  unfold zz at h
  split at h
  . rename_i a
    have:lU (.str "any") a=true:=by cases a <;> simp[lU] at h ⊢;exact h.symm
    rw[ud this]
    exact .any
  . rename_i a b
    split at h
    . rename_i c
      have:lU (.str "name") a=true:=by cases a <;> simp[lU] at c ⊢;exact c.symm
      rw[ud this]
      obtain⟨y,rfl⟩:=oR h
      exact .name h
    . obtain⟨h1,h2⟩:=Bool.and_eq_true_iff.mp h
      obtain⟨o,ho,rfl⟩:=EL h1
      rcases Bool.or_eq_true_iff.mp h2 with q | q
      . obtain⟨k,rfl,k0,k1⟩:=zA q
        exact .num ho k0 k1
      . obtain⟨y,hy,rfl⟩:=EL q
        exact .var ho hy
  . cases h
theorem nC {o:Str}(h:o∈yp):o≠"name"/\o≠"any":=by
 simp only[yp,List.mem_cons,List.not_mem_nil,or_false] at h
 rcases h with rfl | rfl | rfl <;> decide
theorem Sy.of:∀{n:Nat}{bs:List Str}{d:D},nB n bs d=true->Sy n bs d
  | 0,_,_,h=>by cases h
  | n + 1, bs, d, h => by
    obtain⟨z,r,rfl,hs,hp⟩:=Dp h
    obtain⟨c,hh,hz⟩:=Dn hs
    unfold gn at hs
    rw[if_pos c] at hs
    simp only[nJ,List.mem_cons,List.not_mem_nil,or_false] at hz
    have two:∀{k:Nat},j5 z=(k:Int)+1->r.length=k:=fun e=>by omega
    have l0:r.length=0->r=[]:=List.eq_nil_of_length_eq_zero
    have l1:r.length=1->∃a,r=[a]:=fun e=>by match r,e with | [a],_=>exact⟨a,rfl⟩
    have l2:r.length=2->∃a b,r=[a,b]:=fun e=>by match r,e with | [a,b],_=>exact⟨a,b,rfl⟩
    have l3:r.length=3->∃a b p,r=[a,b,p]:=fun e=>by match r,e with | [a,b,p],_=>exact⟨a,b,p,rfl⟩
    rcases hz with rfl | rfl | rfl | rfl | rfl | rfl | rfl | rfl | rfl | rfl | rfl | rfl | rfl
    . rw[l0 (two (k:=0) (by decide))];exact .leaf (.inl rfl)
    . rw[l0 (two (k:=0) (by decide))];exact .leaf (.inr rfl)
    . obtain⟨a,rfl⟩:=l1 (two (k:=1) (by decide));exact .now (.of hs)
    . obtain⟨a,rfl⟩:=l1 (two (k:=1) (by decide));exact .one (by decide) (Sy.of (hp a (by show a∈[a];simp)))
    . obtain⟨a,b,rfl⟩:=l2 (two (k:=2) (by decide));exact .two (by decide) (Sy.of (hp a (by show a∈[a,b];simp))) (Sy.of (hp b (by show b∈[a,b];simp)))
    . obtain⟨a,b,rfl⟩:=l2 (two (k:=2) (by decide));exact .two (by decide) (Sy.of (hp a (by show a∈[a,b];simp))) (Sy.of (hp b (by show b∈[a,b];simp)))
    . obtain⟨a,rfl⟩:=l1 (two (k:=1) (by decide));exact .one (by decide) (Sy.of (hp a (by show a∈[a];simp)))
    . obtain⟨a,b,rfl⟩:=l2 (two (k:=2) (by decide));exact .two (by decide) (Sy.of (hp a (by show a∈[a,b];simp))) (Sy.of (hp b (by show b∈[a,b];simp)))
    . obtain⟨a,b,rfl⟩:=l2 (two (k:=2) (by decide));obtain⟨k,rfl,k0,k1⟩:=zA (m:=5) hs;exact .Gx k0 k1 (Sy.of (hp b (by show b∈[b];simp)))
    . obtain⟨a,rfl⟩:=l1 (two (k:=1) (by decide));exact .one (by decide) (Sy.of (hp a (by show a∈[a];simp)))
    . obtain⟨a,rfl⟩:=l1 (two (k:=1) (by decide));exact .one (by decide) (Sy.of (hp a (by show a∈[a];simp)))
    . obtain⟨a,b,p,rfl⟩:=l3 (two (k:=3) (by decide))
      obtain⟨h1,h2⟩:=Bool.and_eq_true_iff.mp (show(nameB a && nameB b)=true from hs)
      obtain⟨x,rfl⟩:=oR h1;obtain⟨y,rfl⟩:=oR h2
      exact .bnd (.inl rfl) h1 h2 (Sy.of (hp p (by show p∈[p];simp)))
    . obtain⟨a,b,p,rfl⟩:=l3 (two (k:=3) (by decide))
      obtain⟨h1,h2⟩:=Bool.and_eq_true_iff.mp (show(nameB a && nameB b)=true from hs)
      obtain⟨x,rfl⟩:=oR h1;obtain⟨y,rfl⟩:=oR h2
      exact .bnd (.inr rfl) h1 h2 (Sy.of (hp p (by show p∈[p];simp)))
theorem jH {z:Str}(h:z∈Rj):z="not"\/z="next"\/z="always"\/z="some":=by simpa[Rj] using h
theorem jI {z:Str}(h:z∈Rk):z="both"\/z="either"\/z="till":=by simpa[Rk] using h
theorem Ts.mono {bs cs:List Str}{t:D}(h:Ts bs t) (k:∀y∈bs,y∈cs):Ts cs t:=by
 cases h with
 | any=>exact .any
 | name h=>exact .name h
 | num a b c=>exact .num a b c
 | var a b=>exact .var a (k _ b)
theorem Sy.mono {n:Nat}{bs:List Str}{d:D}(h:Sy n bs d):∀{cs:List Str},(∀y∈bs,y∈cs)->Sy n cs d:=by
 induction h with
 | leaf h=>exact fun _=>.leaf h
 | now h=>exact fun k=>.now (h.mono k)
 | one hz _ ih=>exact fun k=>.one hz (ih k)
 | two hz _ _ i1 i2=>exact fun k=>.two hz (i1 k) (i2 k)
 | Gx a b _ ih=>exact fun k=>.Gx a b (ih k)
 | bnd hz a b _ ih=>exact fun k=>.bnd hz a b (ih fun y hy=>by
   rcases List.mem_append.mp hy with q | q
   ·exact List.mem_append.mpr (.inl (k y q))
   ·exact List.mem_append.mpr (.inr q))
noncomputable def qh (xs:List Str) (k:D):D->D
 | .tup [.str o,.str y]=>if o≠"name"/\y∈xs then .tup [.str o,k] else .tup [.str o,.str y]
 | t=>t
noncomputable def jB:Nat->List Str->D->D->D
 | n+1,xs,k,.tup [.str z,p]=>if z="now" then .tup [.str z,qh xs k p] else .tup [.str z,jB n xs k p]
 | n+1,xs,k,.tup [.str z,p,q]=>if z="within" then .tup [.str z,p,jB n xs k q] else .tup [.str z,jB n xs k p,jB n xs k q]
 | n+1,xs,k,.tup [.str z,a,.str y,p]=>.tup [.str z,a,.str y,jB n (xs.filter fun x=>decide (x≠y)) k p]
 | _,_,_,d=>d
theorem Kc {z:Str}(h:z∈Rj):z≠"now":=by rcases jH h with rfl | rfl | rfl | rfl <;> decide
theorem Ke {z:Str}(h:z∈Rk):z≠"within":=by rcases jI h with rfl | rfl | rfl <;> decide
section
variable {n:Nat}{xs:List Str}{k:D}
theorem oV {z:Str}:jB n xs k (.tup [.str z])= .tup [.str z]:=by cases n <;> rfl
theorem sr {t:D}:jB (n+1) xs k (.tup [.str "now",t])= .tup [.str "now",qh xs k t]:=by show(if _ then _ else _)=_;rw[if_pos rfl]
theorem su {z:Str}{p:D}(h:z∈Rj):jB (n+1) xs k (.tup [.str z,p])= .tup [.str z,jB n xs k p]:=by show(if _ then _ else _)=_;rw[if_neg (Kc h)]
theorem sA {z:Str}{p q:D}(h:z∈Rk):jB (n+1) xs k (.tup [.str z,p,q])= .tup [.str z,jB n xs k p,jB n xs k q]:=by show(if _ then _ else _)=_;rw[if_neg (Ke h)]
theorem sC {p q:D}:jB (n+1) xs k (.tup [.str "within",p,q])= .tup [.str "within",p,jB n xs k q]:=by show(if _ then _ else _)=_;rw[if_pos rfl]
theorem sD {z y:Str}{a p:D}:jB (n+1) xs k (.tup [.str z,a,.str y,p])= .tup [.str z,a,.str y,jB n (xs.filter fun x=>decide (x≠y)) k p]:=rfl
end
theorem Nh {bs xs:List Str}{k t:D}(h:Ts bs t) (hx:∀x∈xs,x∉bs):qh xs k t=t:=by
 cases h with
 | any=>rfl
 | name h=>simp[qh]
 | num a b c=>rfl
 | var a b=>show(if _ then _ else _)=_;rw[if_neg (fun q=>hx _ q.2 b)]
theorem Kf {n:Nat}{bs:List Str}{k d:D}(h:Sy n bs d):∀{xs:List Str},(∀x∈xs,x∉bs)->jB n xs k d=d:=by
 induction h with
 | leaf h=>exact fun _=>oV
 | now h=>intro xs hx;rw[sr,Nh h hx]
 | one hz _ ih=>intro xs hx;rw[su hz,ih hx]
 | two hz _ _ i1 i2=>intro xs hx;rw[sA hz,i1 hx,i2 hx]
 | Gx a b _ ih=>intro xs hx;rw[sC,ih hx]
 | bnd hz a b _ ih=>
  intro xs hx
  rw[sD,ih fun x hx'=>?_]
  obtain⟨h1,h2⟩:=List.mem_filter.mp hx'
  intro q
  rcases List.mem_append.mp q with q | q
  ·exact hx x h1 q
  ·exact of_decide_eq_true h2 (List.mem_singleton.mp q)
theorem Ni {bs xs:List Str}{i:Int}{t:D}(h:Ts bs t) (h0:0<=i) (h9:i<=9):Ts (bs.filter fun y=>decide (y∉xs)) (qh xs (.int i) t):=by
 cases h with
 | any=>exact .any
 | name h=>simp[qh];exact .name h
 | num a b c=>exact .num a b c
 | @var o y a b=>
  show Ts _ (if _ then _ else _)
  split
  ·exact .num a h0 h9
  ·rename_i q
   exact .var a (List.mem_filter.mpr ⟨b,decide_eq_true fun z=>q ⟨(nC a).1,z⟩⟩)
theorem Rl {n:Nat}{bs:List Str}{i:Int}{d:D}(h:Sy n bs d) (h0:0<=i) (h9:i<=9):∀(xs:List Str),Sy n (bs.filter fun y=>decide (y∉xs)) (jB n xs (.int i) d):=by
 induction h with
 | leaf h=>intro xs;rw[oV];exact .leaf h
 | now h=>intro xs;rw[sr];exact .now (Ni h h0 h9)
 | one hz _ ih=>intro xs;rw[su hz];exact .one hz (ih xs)
 | two hz _ _ i1 i2=>intro xs;rw[sA hz];exact .two hz (i1 xs) (i2 xs)
 | Gx a b _ ih=>intro xs;rw[sC];exact .Gx a b (ih xs)
 | @bnd n bs z a y p hz ha hb _ ih=>
  intro xs
  rw[sD]
  refine .bnd hz ha hb ((ih _).mono fun w hw=>?_)
  obtain⟨h1,h2⟩:=List.mem_filter.mp hw
  have h2:=of_decide_eq_true h2
  rcases List.mem_append.mp h1 with q | q
  ·by_cases e:w=y
   ·exact List.mem_append.mpr (.inr (by rw[e];simp))
   ·exact List.mem_append.mpr (.inl (List.mem_filter.mpr ⟨q,decide_eq_true fun z=>h2 (List.mem_filter.mpr ⟨z,decide_eq_true e⟩)⟩))
  ·exact List.mem_append.mpr (.inr q)
noncomputable def dN:GS:=
 (cu (eT (eQ (mH (qB (eF (eP dY (aa (jA 0) (aa (eC (.int 2)) aq))))) (mH (qB (eF (eP A5 (aa (bR 0 (eC (.int 0))) (aa (eC (.str "name")) aq))))) (qB (SY ["str"] (bR 0 (eC (.int 1))))))))))
noncomputable def dG (iZ:FM) (mT:FM) (gq:FM):GS:=
 (aQ (gT (qB (eF (eP dY (aa (bR 0 (eC (.int 0))) (aa (eC (.str "now")) aq))))) (aQ (gT (mH (qB (eF (aU iZ (aK (bR 0 (eC (.int 1))) bG)))) (qB (eF (eP dY (aa (eF (eP tM (aa (bR 0 (eC (.int 1))) (aa (eC (.int 1)) aq)))) (aa (eF (aj 1)) aq)))))) (cu (eP iA (aa (eC (.str "now")) (aa (eF (eP iA (aa (eF (eP tM (aa (bR 0 (eC (.int 1))) (aa (eC (.int 0)) aq)))) (aa (eF (aj 2)) aq)))) aq)))) cF)
 (cu (aj 0))) cF)
 (aQ (gT (mH (qB (MT false ["each","one"] (bR 0 (eC (.int 0))))) (qB (eF (eP dY (aa (bR 0 (eC (.int 2))) (aa (eF (aj 1)) aq)))))) (cu (aj 0)) cF)
 (cu (eP dB (aa (eF (uP (eF (aj 0)) none (some (MR [("yes",1),("no",1),("now",2),("not",1),("both",1),("either",1),("next",1),("till",1),("within",2),("always",1),("some",1),("each",3),("one",3)] (bR 0 (eC (.int 0))))))) (aa (eF (eP qJ (aa (eF (lu [2,1] (wB (eF (aU mT (aK (eF (aj 0)) bG)))) dj (eF (aU gq (aK (eF (aj 0)) (aK (eF (aj 2)) (aK (eF (aj 1)) bG))))))) aq))) aq))))))
noncomputable def EM:FM:=aL 1 dN
theorem Rm:∀us r,EM us=some r->aL 1 dN us=some r:=fun _ _ h=>h
noncomputable def OW:D->Bool
 | .tup [.str o,.str _]=>decide (o≠"name")
 | _=>false
theorem VE {bs:List Str}{t:D}(h:Ts bs t):EM [.t t]=some (.t (.bl (OW t)),[]):=by
 cases h with
 | any=>simp[EM,aL,dN,aH,OW]
 | @name a h=>simp[EM,aL,dN,aH,OW,cQ]
 | @num o k a b c=>have n:=(nC a).1;simp[EM,aL,dN,aH,OW,cQ,cC,n,rQ,yi,zZ]
 | @var o y a b=>have n:=(nC a).1;simp[EM,aL,dN,aH,OW,cQ,cC,n,rQ,yi,zZ]
theorem sE {z:Str}{r:List D}(hz:z∈nJ){pl:List D}(h:(.str z :: r).drop (eO z)=pl):qM [.t (.tup (.str z :: r))]=some (.t (.tup pl),[]):=by rw[J4 (nA z hz),h]
theorem Kg {z:Str}(h:z∈Rj):z∈nJ/\eO z=1/\fO z=false/\z≠"now":=by rcases jH h with rfl | rfl | rfl | rfl <;> decide
theorem Kh {z:Str}(h:z∈Rk):z∈nJ/\eO z=1/\fO z=false/\z≠"now":=by rcases jI h with rfl | rfl | rfl <;> decide
theorem Gy {z:Str}(h:z="yes"\/z="no"):z∈nJ/\eO z=1/\fO z=false/\z≠"now":=by rcases h with rfl | rfl <;> decide
theorem Kl:("within":Str)∈nJ/\eO "within" =2/\fO "within" =false/\("within":Str)≠"now":=by decide
theorem Km {z:Str}(h:z="each"\/z="one"):z∈nJ/\eO z=3/\fO z=true/\z≠"now":=by rcases h with rfl | rfl <;> decide
theorem Ko (ds:List D) (k:Nat):L2.cutD ds none (some (k:Int))=ds.take k:=by
 unfold L2.cutD
 rw[HT.vX,HT.zR,List.drop_zero,Nat.sub_zero]
 by_cases h:k<=ds.length
 ·rw[Nat.min_eq_left h]
 ·rw[Nat.min_eq_right (by omega),List.take_of_length_le (Nat.le_refl _),List.take_of_length_le (by omega)]
section
variable {f1 f2 f3:FM}{t k:D}{x z:Str}{r pl ql:List D}
theorem Nj (hz:z≠"now") (hb:fO z=true){a:D}(hr:r=a :: .str x :: pl):aL 3 (dG f1 f2 f3) [.t (.tup (.str z :: r)),.t (.str x),.t k]=some (.t (.tup (.str z :: r)),[]):=by
 subst hr
 unfold fO Tr at hb
 simp only[List.map_cons,List.map_nil] at hb
 simp[aL,dG,aH,cQ,jc,hz,hb]
theorem vE {b:Bool}(e1:f1 [.t t]=some (.t (.bl b),[])) (h:b=true->∃o y:Str,t= .tup [.str o,.str y]/\y≠x):aL 3 (dG f1 f2 f3) [.t (.tup [.str "now",t]),.t (.str x),.t k]=some (.t (.tup [.str "now",t]),[]):=by
 cases b with
 | false=>simp[aL,dG,aH,cQ,cC,e1]
 | true=>
  obtain⟨o,y,rfl,hn⟩:=h rfl
  simp[aL,dG,aH,cQ,cC,e1,hn]
theorem Nk {o:Str}(e1:f1 [.t (.tup [.str o,.str x])]=some (.t (.bl true),[])):aL 3 (dG f1 f2 f3) [.t (.tup [.str "now",.tup [.str o,.str x]]),.t (.str x),.t k]=some (.t (.tup [.str "now",.tup [.str o,k]]),[]):=by
 simp[aL,dG,aH,cQ,cC,e1]
theorem B3 (hz:z≠"now") (hh:Ay z) (hb:fO z=false\/∃(a:D) (y:Str) (q:List D),r=a :: .str y :: q/\y≠x) (e2:f2 [.t (.tup (.str z :: r))]=some (.t (.tup pl),[])) (hl:pl.length<=2) (g:D->D) (e3:∀p∈pl,f3 [.t p,.t (.str x),.t k]=some (.t (g p),[])):
  aL 3 (dG f1 f2 f3) [.t (.tup (.str z :: r)),.t (.str x),.t k]=some (.t (.tup ((.str z :: r).take (eO z)++pl.map g)),[]):=by
 have e:=hh.wC
 unfold XT at e
 have c:=Ko (.str z :: r) (eO z)
 have e4:=Gm (cap:=[2,1]) (g:=eF (aU f3 (aK (eF (aj 0)) (aK (eF (aj 2)) (aK (eF (aj 1)) bG))))) (S:=[some (.t (.tup (.str z :: r))),some (.t (.str x)),some (.t k)]) (ts:=[k,.str x]) rfl g pl [] (by
  intro p hp
  simp[e3 p hp])
 rw[List.nil_append] at e4
 have l1:pl.length<=100000:=by omega
 have l2:((.str z :: r).take (eO z)).length<=4:=by rw[List.length_take];have:=hh.s4;have:=hh.l4;omega
 have l3:((D.str z :: r).take (eO z)).length+pl.length<=100000:=by omega
 have i1:=Nc z
 rcases hb with hb | ⟨a,y,q,rfl,hy⟩
 ·unfold fO Tr at hb
  simp only[List.map_cons,List.map_nil] at hb
  simp[-List.length_take,aL,dG,aH,cQ,jc,hz,hb,e,nu,e2,e4,l1,c,l3]
 ·cases hb:fO z with
  | false=>
   unfold fO Tr at hb
   simp only[List.map_cons,List.map_nil] at hb
   simp[-List.length_take,aL,dG,aH,cQ,jc,hz,hb,e,nu,e2,e4,l1,c,l3]
  | true=>
   unfold fO Tr at hb
   simp only[List.map_cons,List.map_nil] at hb
   simp[-List.length_take,aL,dG,aH,cQ,jc,hz,hb,e,nu,e2,e4,l1,c,l3,hy]
end
noncomputable def qi:Nat->FM
 | 0=>fun _=>none
 | j+1=>aL 3 (dG EM qM (qi j))
theorem Nl (j:Nat):∀us r,qi (j+1) us=some r->aL 3 (dG EM qM (qi j)) us=some r:=fun _ _ h=>h
theorem Gz (us:List U):qi 0 us=none:=rfl
theorem Nm {n : Nat} {bs : List Str} {d : D} (h : Sy n bs d) (x : Str) (k : D) : ∀ {j : Nat}, n <= j -> qi j [.t d, .t (.str x), .t k] = some (.t (jB n [x] k d), []) := by
  induction h with
  | @leaf n bs z h=>
    intro j hj
    obtain⟨j,rfl⟩:∃i,j=i+1:=⟨j - 1,by omega⟩
    obtain⟨h1,h2,h3,h4⟩:=Gy h
    have e:=B3 (f1:=EM) (f3:=qi j) (x:=x) (k:=k) h4 (nA z h1) (.inl h3) (sE (r:=[]) (pl:=[]) h1 (by rw[h2] <;> rfl)) (by decide) id (fun p hp=>by cases hp)
    rw[h2] at e
    rw[oV]
    exact e
  | @now n bs t h=>
    intro j hj
    obtain⟨j,rfl⟩:∃i,j=i+1:=⟨j - 1,by omega⟩
    rw[sr]
    have hv:=VE h
    cases h with
    | any=>exact vE hv (fun q=>by cases q)
    | @name a h=>rw[show qh [x] k (.tup [.str "name",.str a])= .tup [.str "name",.str a] by simp[qh]];exact vE hv (fun q=>absurd q (by simp[OW]))
    | num a b c=>exact vE hv (fun q=>by cases q)
    | @var o y a b=>
      have n:=(nC a).1
      by_cases e:y=x
      . subst e
        rw[show qh [y] k (.tup [.str o,.str y])= .tup [.str o,k] by simp[qh,n]]
        rw[show OW (.tup [.str o,.str y])=true by simp[OW,n]] at hv
        exact Nk hv
      . rw[show qh [x] k (.tup [.str o,.str y])= .tup [.str o,.str y] by simp[qh,e]]
        exact vE hv (fun _=>⟨o,y,rfl,e⟩)
  | @one n bs z p hz _ ih=>
    intro j hj
    obtain⟨j,rfl⟩:∃i,j=i+1:=⟨j - 1,by omega⟩
    obtain⟨h1,h2,h3,h4⟩:=Kg hz
    have e:=B3 (f1:=EM) (f3:=qi j) (x:=x) (k:=k) h4 (nA z h1) (.inl h3) (sE (r:=[p]) (pl:=[p]) h1 (by rw[h2] <;> rfl)) (by simp) (jB n [x] k) (fun p hp=>by rw[List.mem_singleton.mp hp];exact ih (by omega))
    rw[h2] at e
    rw[su hz]
    exact e
  | @two n bs z p q hz _ _ i1 i2=>
    intro j hj
    obtain⟨j,rfl⟩:∃i,j=i+1:=⟨j - 1,by omega⟩
    obtain⟨h1,h2,h3,h4⟩:=Kh hz
    have e:=B3 (f1:=EM) (f3:=qi j) (x:=x) (k:=k) h4 (nA z h1) (.inl h3) (sE (r:=[p,q]) (pl:=[p,q]) h1 (by rw[h2] <;> rfl)) (by simp) (jB n [x] k) (fun w hw=>by
      rcases List.mem_cons.mp hw with e | e
      . rw[e];exact i1 (by omega)
      . rw[List.mem_singleton.mp e];exact i2 (by omega))
    rw[h2] at e
    rw[sA hz]
    exact e
  | @Gx n bs i p _ _ _ ih=>
    intro j hj
    obtain⟨j,rfl⟩:∃i,j=i+1:=⟨j - 1,by omega⟩
    obtain⟨h1,h2,h3,h4⟩:=Kl
    have e:=B3 (f1:=EM) (f3:=qi j) (x:=x) (k:=k) h4 (nA _ h1) (.inl h3) (sE (r:=[.int i,p]) (pl:=[p]) h1 rfl) (by simp) (jB n [x] k) (fun p hp=>by rw[List.mem_singleton.mp hp];exact ih (by omega))
    rw[h2] at e
    rw[sC]
    exact e
  | @bnd n bs z a y p hz _ _ hp ih=>
    intro j hj
    obtain⟨j,rfl⟩:∃i,j=i+1:=⟨j - 1,by omega⟩
    obtain⟨h1,h2,h3,h4⟩:=Km hz
    rw[sD]
    by_cases e:x=y
    . subst e
      rw[List.filter_cons_of_neg (by simp),List.filter_nil,Kf hp fun x hx=>by cases hx]
      exact Nj h4 h3 rfl
    . rw[List.filter_cons_of_pos (by simpa using e),List.filter_nil]
      have e:=B3 (f1:=EM) (f3:=qi j) (x:=x) (k:=k) h4 (nA z h1) (.inr ⟨.str a,y,[p],rfl,fun q=>e q.symm⟩) (sE (r:=[.str a,.str y,p]) (pl:=[p]) h1 (by rw[h2] <;> rfl)) (by simp) (jB n [x] k) (fun p hp=>by rw[List.mem_singleton.mp hp];exact ih (by omega))
      rw[h2] at e
      exact e
end Sp
end
section
namespace Sh
open PySem PySem.Spec PyProof.Rows L2 Sw Ss Sn Sp
noncomputable abbrev Row:=List (Str×Int)
noncomputable abbrev Ev:=Str->Option Int
noncomputable def sF (e:Ev) (y:Str) (m:Int):Ev:=fun x=>if x=y then some m else e x
noncomputable def nQ:Ev:=fun _=>none
noncomputable def sG (e:Ev):D->Int
 | .int k=>k
 | .str y=>(e y).getD 0
 | _=>0
noncomputable def EN (e:Ev) (h:Str×Int):D->Bool
 | .tup [.str o,v]=>if o="name" then(match v with | .str a=>decide (h.1=a) | _=>false) else if o="less" then decide (h.2 < sG e v) else if o="same" then decide (h.2=sG e v) else decide (sG e v < h.2)
 | .tup [_]=>true
 | _=>false
noncomputable def aaI:D->Nat
 | .int n=>n.toNat
 | _=>0
noncomputable def iO (n:Nat) (f:Nat->Bool):Bool:=(List.range n).any f
noncomputable def iX (n:Nat) (f:Nat->Bool):Bool:=(List.range n).all f
noncomputable def ev (R:Row) (e:Ev) (d:D) (i:Nat):Bool:=
 match d with
 | .tup [.str z]=>decide (z="yes")
 | .tup [.str z,p]=>
  if z="now" then(match R[i]? with | some h=>EN e h p | none=>false)
  else if z="not" then !ev R e p i
  else if z="next" then decide (i < R.length) && ev R e p (i+1)
  else if z="always" then iX (R.length - i) fun k=>ev R e p (i+k)
  else iO (R.length - i) fun k=>ev R e p (i+k)
 | .tup [.str z,a,q]=>
  if z="within" then(iO (min (R.length - i) (aaI a)) fun k=>ev R e q (i+k))
  else if z="both" then ev R e a i && ev R e q i
  else if z="either" then ev R e a i || ev R e q i
  else iO (R.length - i) fun k=>ev R e q (i+k) && iX k fun j=>ev R e a (i+j)
 | .tup [.str z,.str a,.str y,p]=>
  if z="each" then iX (R.length - i) fun k=>match R[i+k]? with | some h=>if h.1=a then ev R (sF e y h.2) p (i+k) else true | none=>true
  else iO (R.length - i) fun k=>match R[i+k]? with | some h=>if h.1=a then ev R (sF e y h.2) p (i+k) else false | none=>false
 | _=>false
termination_by sizeOf d
section
variable (R:Row) (e:Ev) (i:Nat)
theorem vF (z:Str):ev R e (.tup [.str z]) i=decide (z="yes"):=by rw[ev]
theorem w5 (t:D):ev R e (.tup [.str "now",t]) i=(match R[i]? with | some h=>EN e h t | none=>false):=by rw[ev,if_pos rfl]
theorem AD (p:D):ev R e (.tup [.str "not",p]) i=!ev R e p i:=by rw[ev,if_neg (by decide),if_pos rfl]
theorem vG (p:D):ev R e (.tup [.str "next",p]) i=(decide (i < R.length) && ev R e p (i+1)):=by rw[ev,if_neg (by decide),if_neg (by decide),if_pos rfl]
theorem pU (p:D):ev R e (.tup [.str "always",p]) i=iX (R.length - i) fun k=>ev R e p (i+k):=by rw[ev,if_neg (by decide),if_neg (by decide),if_neg (by decide),if_pos rfl]
theorem vH (p:D):ev R e (.tup [.str "some",p]) i=iO (R.length - i) fun k=>ev R e p (i+k):=by rw[ev,if_neg (by decide),if_neg (by decide),if_neg (by decide),if_neg (by decide)]
theorem pW (n:Int) (p:D):ev R e (.tup [.str "within",.int n,p]) i=iO (min (R.length - i) n.toNat) fun k=>ev R e p (i+k):=by rw[ev,if_pos rfl];rfl
theorem vI (p q:D):ev R e (.tup [.str "both",p,q]) i=(ev R e p i && ev R e q i):=by rw[ev,if_neg (by decide),if_pos rfl]
theorem pX (p q:D):ev R e (.tup [.str "either",p,q]) i=(ev R e p i || ev R e q i):=by rw[ev,if_neg (by decide),if_neg (by decide),if_pos rfl]
theorem vJ (p q:D):ev R e (.tup [.str "till",p,q]) i=iO (R.length - i) fun k=>ev R e q (i+k) && iX k fun j=>ev R e p (i+j):=by rw[ev,if_neg (by decide),if_neg (by decide),if_neg (by decide)]
theorem vK (a y:Str) (p:D):ev R e (.tup [.str "each",.str a,.str y,p]) i=iX (R.length - i) fun k=>match R[i+k]? with | some h=>if h.1=a then ev R (sF e y h.2) p (i+k) else true | none=>true:=by rw[ev,if_pos rfl]
theorem AE (a y:Str) (p:D):ev R e (.tup [.str "one",.str a,.str y,p]) i=iO (R.length - i) fun k=>match R[i+k]? with | some h=>if h.1=a then ev R (sF e y h.2) p (i+k) else false | none=>false:=by rw[ev,if_neg (by decide)]
end
theorem Rn (e:Ev) (y:Str) (m n:Int):sF (sF e y m) y n=sF e y n:=by funext x;unfold sF;split <;> rfl
theorem Kp (e:Ev){x y:Str}(h:x≠y) (m n:Int):sF (sF e x m) y n=sF (sF e y n) x m:=by
 funext w;unfold sF
 by_cases a:w=y
 ·subst a
  have:¬w=x:=fun q=>h q.symm
  simp[this]
 ·simp[a]
theorem kI (e:Ev) (hp:Str×Int){o:Str}(n:o≠"name") (v:D):EN e hp (.tup [.str o,v])=if o="less" then decide (hp.2 < sG e v) else if o="same" then decide (hp.2=sG e v) else decide (sG e v < hp.2):=by show(if o="name" then _ else _)=_;rw[if_neg n]
theorem sH (e:Ev) (hp:Str×Int) (a:Str):EN e hp (.tup [.str "name",.str a])=decide (hp.1=a):=by simp[EN]
theorem Nn {bs:List Str}{t:D}(h:Ts bs t) (e:Ev) (hp:Str×Int) (x:Str) (m:Int):EN e hp (qh [x] (.int m) t)=EN (sF e x m) hp t:=by
 cases h with
 | any=>rfl
 | @name a h=>
  have z:qh [x] (.int m) (.tup [.str "name",.str a])= .tup [.str "name",.str a]:=by simp[qh]
  rw[z,sH,sH]
 | @num o k a b c=>
  have n:=(nC a).1
  show EN e hp (.tup [.str o,.int k])=_
  rw[kI _ _ n,kI _ _ n]
  rfl
 | @var o y a b=>
  have n:=(nC a).1
  have z:qh [x] (.int m) (.tup [.str o,.str y])=if o≠"name"/\y∈[x] then .tup [.str o,.int m] else .tup [.str o,.str y]:=rfl
  rw[z]
  by_cases q:y=x
  ·subst q
   have u:sG (sF e y m) (.str y)=m:=by simp[sG,sF]
   rw[if_pos ⟨n,List.mem_singleton.mpr rfl⟩,kI _ _ n,kI _ _ n,u]
   rfl
  ·have u:sG (sF e x m) (.str y)=sG e (.str y):=by simp[sG,sF,q]
   rw[if_neg (fun w=>q (List.mem_singleton.mp w.2)),kI _ _ n,kI _ _ n,u]
theorem Ro (R : Row) {n : Nat} {bs : List Str} {d : D} (h : Sy n bs d) : ∀ (e : Ev) (x : Str) (m : Int) (i : Nat), ev R e (jB n [x] (.int m) d) i = ev R (sF e x m) d i := by
  induction h with
  | leaf h=>intro e x m i;rw[oV,vF,vF]
  | now h=>
    intro e x m i
    rw[sr,w5,w5]
    cases R[i]? with
    | none=>rfl
    | some hp=>exact Nn h e hp x m
  | @one n bs z p hz _ ih=>
    intro e x m i
    rw[su hz]
    rcases jH hz with rfl | rfl | rfl | rfl
    . rw[AD,AD,ih]
    . rw[vG,vG,ih]
    . rw[pU,pU];congr 1;funext k;exact ih ..
    . rw[vH,vH];congr 1;funext k;exact ih ..
  | @two n bs z p q hz _ _ i1 i2=>
    intro e x m i
    rw[sA hz]
    rcases jI hz with rfl | rfl | rfl
    . rw[vI,vI,i1,i2]
    . rw[pX,pX,i1,i2]
    . rw[vJ,vJ];congr 1;funext k;rw[i2];congr 2;funext j;exact i1 ..
  | @Gx n bs k p a b _ ih=>intro e x m i;rw[sC,pW,pW];congr 1;funext k;exact ih ..
  | @bnd n bs z a y p hz ha hb hp ih=>
    intro e x m i
    rw[sD]
    have key:∀(v:Int) (j:Nat),ev R (sF e y v) (jB n ([x].filter fun w=>decide (w≠y)) (.int m) p) j=ev R (sF (sF e x m) y v) p j:=fun v j=>by
      by_cases q:x=y
      . subst q
        rw[List.filter_cons_of_neg (by simp),List.filter_nil,Kf hp (fun w hw=>by cases hw),Rn]
      . rw[List.filter_cons_of_pos (by simpa using q),List.filter_nil,ih,Kp e q]
    rcases hz with rfl | rfl
    . rw[vK,vK];congr 1;funext k
      cases R[i+k]? with
      | none=>rfl
      | some h=>simp only[key]
    . rw[AE,AE];congr 1;funext k
      cases R[i+k]? with
      | none=>rfl
      | some h=>simp only[key]
noncomputable def cost (r:Nat) (d:D):Nat:=
 match d with
 | .tup [.str z,p]=>if z="now" then 1 else 1+cost r p
 | .tup [.str z,a,q]=>if z="within" then 1+cost r q else 1+cost r a+cost r q
 | .tup [.str z,.str a,.str y,p]=>1+r * cost r p
 | _=>1
termination_by sizeOf d
section
variable (r:Nat)
theorem zB (z:Str):cost r (.tup [.str z])=1:=by unfold cost;rfl
theorem sI (t:D):cost r (.tup [.str "now",t])=1:=by rw[cost,if_pos rfl]
theorem sJ {z:Str}(hz:z∈Rj) (p:D):cost r (.tup [.str z,p])=1+cost r p:=by rw[cost,if_neg (Kc hz)]
theorem sL {z:Str}(hz:z∈Rk) (p q:D):cost r (.tup [.str z,p,q])=1+cost r p+cost r q:=by rw[cost,if_neg (Ke hz)]
theorem sM (k p:D):cost r (.tup [.str "within",k,p])=1+cost r p:=by rw[cost,if_pos rfl]
theorem sN (z a y:Str) (p:D):cost r (.tup [.str z,.str a,.str y,p])=1+r * cost r p:=by rw[cost]
theorem Kq {n:Nat}{bs:List Str}{d:D}(h:Sy n bs d):∀(xs:List Str) (k:D),cost r (jB n xs k d)=cost r d:=by
 induction h with
 | leaf h=>intro xs k;rw[oV]
 | now h=>intro xs k;rw[sr,sI,sI]
 | one hz _ ih=>intro xs k;rw[su hz,sJ r hz,sJ r hz,ih]
 | two hz _ _ i1 i2=>intro xs k;rw[sA hz,sL r hz,sL r hz,i1,i2]
 | Gx a b _ ih=>intro xs k;rw[sC,sM,sM,ih]
 | bnd hz a b _ ih=>intro xs k;rw[sD,sN,sN,ih]
end
theorem ug (r b:Nat):1<=(r+1) ^ b:=Nat.one_le_pow _ _ (by omega)
theorem Np (r:Nat){n:Nat}{bs:List Str}{d:D}(h:Sy n bs d):cost r d<=(gD n d).length * (r+1) ^ ((gD n d).filter oU).length:=by
 induction h with
 | @leaf n bs z h=>
  rw[zB]
  have l:1<=(gD (n+1) (.tup [.str z])).length:=by simp[gD]
  exact Nat.mul_le_mul l (ug r _)
 | @now n bs t h=>
  rw[sI]
  have l:1<=(gD (n+1) (.tup [.str "now",t])).length:=by simp[gD]
  exact Nat.mul_le_mul l (ug r _)
 | @one n bs z p hz _ ih=>
  rw[sJ r hz]
  have e:gD (n+1) (.tup [.str z,p])= .tup [.str z,p] :: gD n p:=by rcases jH hz with rfl | rfl | rfl | rfl <;> exact congrArg _ (List.append_nil _)
  have b:oU (.tup [.str z,p])=false:=by rcases jH hz with rfl | rfl | rfl | rfl <;> rfl
  rw[e,List.length_cons,List.filter_cons_of_neg (by rw[b];decide),Nat.add_mul,Nat.one_mul]
  have:=ug r ((gD n p).filter oU).length
  omega
 | @two n bs z p q hz _ _ ip iq=>
  rw[sL r hz]
  have e:gD (n+1) (.tup [.str z,p,q])= .tup [.str z,p,q] :: (gD n p++gD n q):=by rcases jI hz with rfl | rfl | rfl <;> exact congrArg (fun l=>D.tup _ :: (gD n p++l)) (List.append_nil _)
  have b:oU (.tup [.str z,p,q])=false:=by rcases jI hz with rfl | rfl | rfl <;> rfl
  rw[e,List.length_cons,List.filter_cons_of_neg (by rw[b];decide),List.filter_append,List.length_append,List.length_append,Nat.add_mul,Nat.one_mul,Nat.add_mul]
  generalize ((gD n p).filter oU).length=b1 at *
  generalize ((gD n q).filter oU).length=b2 at *
  have h1:(r+1) ^ b1<=(r+1) ^ (b1+b2):=Nat.pow_le_pow_right (by omega) (by omega)
  have h2:(r+1) ^ b2<=(r+1) ^ (b1+b2):=Nat.pow_le_pow_right (by omega) (by omega)
  have h3:=Nat.mul_le_mul_left (gD n p).length h1
  have h4:=Nat.mul_le_mul_left (gD n q).length h2
  have:=ug r (b1+b2)
  omega
 | @Gx n bs k p _ _ _ ih=>
  rw[sM]
  have e:gD (n+1) (.tup [.str "within",.int k,p])= .tup [.str "within",.int k,p] :: gD n p:=congrArg _ (List.append_nil _)
  rw[e,List.length_cons,List.filter_cons_of_neg (fun h=>Bool.noConfusion (show false=true from h)),Nat.add_mul,Nat.one_mul]
  have:=ug r ((gD n p).filter oU).length
  omega
 | @bnd n bs z a y p hz ha hb hp ih=>
  rw[sN]
  have e:gD (n+1) (.tup [.str z,.str a,.str y,p])= .tup [.str z,.str a,.str y,p] :: gD n p:=by rcases hz with rfl | rfl <;> exact congrArg _ (List.append_nil _)
  have b:oU (.tup [.str z,.str a,.str y,p])=true:=by rcases hz with rfl | rfl <;> rfl
  rw[e,List.length_cons,List.filter_cons_of_pos b,List.length_cons,Nat.add_mul,Nat.one_mul,Nat.pow_succ]
  generalize ((gD n p).filter oU).length=b1 at *
  generalize (gD n p).length=s1 at *
  have h1:=ug r b1
  generalize (r+1) ^ b1=w at *
  have h2:r * cost r p<=r * (s1 * w):=Nat.mul_le_mul_left r ih
  have h3:s1 * (w * (r+1))=r * (s1 * w)+s1 * w:=by rw[Nat.mul_add,Nat.mul_one,Nat.mul_add,<-Nat.mul_assoc,<-Nat.mul_assoc r,Nat.mul_comm r s1,Nat.mul_assoc s1 r w,Nat.mul_comm r w,Nat.mul_assoc]
  have h4:1<=w * (r+1):=Nat.mul_le_mul h1 (by omega:1<=r+1)
  omega
theorem uh:∀{n m:Nat}(d:D),n<=m->gW n d=true->gW m d=true
 | n,m,.int _,_,_=>by cases m <;> rfl
 | n,m,.str _,_,_=>by cases m <;> rfl
 | n,m,.dW,_,h=>by cases n <;> cases h
 | n,m,.bl _,_,h=>by cases n <;> cases h
 | n,m,.lst _,_,h=>by cases n <;> cases h
 | 0,m,.tup _,_,h=>by cases h
 | n+1,0,.tup _,hm,h=>by omega
 | n+1,m+1,.tup ds,hm,h=>by
  have h:ds.all (gW n)=true:=h
  show ds.all (gW m)=true
  rw[List.all_eq_true] at h ⊢
  intro x hx
  exact uh x (by omega) (h x hx)
theorem VF {bs:List Str}{t:D}(h:Ts bs t):gW 1 t=true:=by
 cases h <;> rfl
theorem VG {n:Nat}{bs:List Str}{d:D}(h:Sy n bs d):gW (n+1) d=true:=by
 induction h with
 | leaf h=>rfl
 | @now n bs t h=>have:=uh t (by omega:1<=n+1) (VF h);show List.all [D.str "now",t] (gW (n+1))=true;simp[this];rfl
 | @one n bs z p hz _ ih=>show List.all [D.str z,p] (gW (n+1))=true;simp[ih];rfl
 | @two n bs z p q hz _ _ i1 i2=>show List.all [D.str z,p,q] (gW (n+1))=true;simp[i1,i2];rfl
 | @Gx n bs k p a b _ ih=>show List.all [D.str "within",.int k,p] (gW (n+1))=true;simp[ih];exact⟨rfl,rfl⟩
 | @bnd n bs z a y p hz ha hb _ ih=>show List.all [D.str z,.str a,.str y,p] (gW (n+1))=true;simp[ih];exact⟨rfl,rfl,rfl⟩
theorem Rp {n:Nat}{bs:List Str}{d:D}(h:Sy n bs d):∃ds,d= .tup ds:=by cases h <;> exact⟨_,rfl⟩
theorem Nq {n:Nat}{bs:List Str}{d:D}(h:Sy n bs d) (hn:n<=7):rR d=some d:=by
 obtain⟨ds,rfl⟩:=Rp h
 show(if gW 8 (.tup ds)=true then some (D.tup ds) else none)=_
 rw[if_pos (uh _ (by omega) (VG h))]
@[simp] theorem VH (cap:List Nat) (gi:GI) (q:GT) (g:GD) (S:SS):jE cap gi q g S=(gi S).bind fun p=>if p.1.length<=100000 then(fy cap q g p.1 p.2 []).map fun r=>(.m (.lst r.1),r.2) else none:=rfl
@[simp] theorem aaJ (gA:GA) (S:SS):QL gA S=(gA S).bind fun p=>match p.1 with
 | [.lst ds]=>some (ds.reverse,p.2)
 | _=>none:=rfl
@[simp] theorem XX (d e:D):zx [d,e]=(oF d).bind fun q=>(oF e).map fun r=>.m (.lst (Aq q.2 r.2)):=rfl
@[simp] theorem J2 (ds:List D):oF (.lst ds)=some (true,ds):=rfl
@[simp] theorem J3 (ds:List D):oF (.tup ds)=some (false,ds):=rfl
noncomputable def bl (l:List Bool):List D:=l.map D.bl
theorem mC (l:List Bool):(bl l).length=l.length:=List.length_map ..
theorem B4:∀l:List Bool,lC (bl l)=some l
 | []=>rfl
 | b :: l=>by show(lC (bl l)).map _=_;rw[B4 l];rfl
theorem Kr (ds:List D) (d:D):gj (ds++[d]) (-1)=some d:=by
 unfold gj CS
 rw[List.length_append,List.length_singleton]
 have h1:¬(0:Int)<=-1:=by decide
 rw[if_neg h1]
 have h2:(-(((ds.length+1:Nat)):Int)<=-1):=by omega
 rw[if_pos h2,Option.bind_some]
 have h3:((-1:Int)+((ds.length+1:Nat):Int)).toNat=ds.length:=by omega
 have h4:((((ds.length+1:Nat):Int))+(-1)).toNat=ds.length:=by omega
 first | rw[h3] | rw[h4]
 simp
theorem oW (ds:List D):L2.cutD ds none (some (-1))=ds.take (ds.length - 1):=by
 unfold L2.cutD HT.iz
 simp only[List.drop_zero]
 congr 1
 simp
 omega
theorem Nr {ds:List D}{p n:Nat}(h:p<=ds.length):L2.cutD ds (some (p:Int)) (some ((p:Int)+(n:Int)))=(ds.drop p).take n:=by
 unfold L2.cutD HT.iz
 have e1:¬((p:Int) < 0):=by omega
 have e2:¬((p:Int)+(n:Int) < 0):=by omega
 simp only[e1,e2,if_false]
 have e3:min (p:Int).toNat ds.length=p:=by omega
 have e4:((p:Int)+(n:Int)).toNat=p+n:=by omega
 rw[e3,e4]
 apply List.ext_getElem?
 intro i
 rw[List.getElem?_take,List.getElem?_take]
 by_cases c:i < n
 ·by_cases c2:i < min (p+n) ds.length - p
  ·rw[if_pos c,if_pos c2]
  ·rw[if_pos c,if_neg c2,List.getElem?_eq_none (by rw[List.length_drop];omega)]
 ·rw[if_neg c,if_neg (by omega)]
noncomputable def gY:GS:=
 (cu (lu [] (wB (eF (aj 0))) dj (eQ (wg (qB (eF (aj 0)))))))
noncomputable def turnF:FM:=aL 1 gY
theorem Ks:∀us r,turnF us=some r->aL 1 gY us=some r:=fun _ _ h=>h
theorem GC (l:List Bool) (S:SS):d9 [] dj (eQ (wg (qB (eF (aj 0))))) (bl l) S []=some (bl (l.map fun b=>!b),S):=by
 have:=comp_map (cap:=[]) (g:=eQ (wg (qB (eF (aj 0))))) (S:=S) (fun d=>match d with | .bl b=>.bl (!b) | d=>d) (bl l) [] (fun d hd acc=>by
  obtain⟨b,_,rfl⟩:=List.mem_map.mp hd
  simp[d9,eZ,slotsOf,dh,cO,dj,aH,wb])
 rw[this,List.nil_append]
 congr 2
 unfold bl
 rw[List.map_map,List.map_map]
 rfl
theorem xg {l:List Bool}(h:l.length<=100000):turnF [.t (.lst (bl l))]=some (.m (.lst (bl (l.map fun b=>!b))),[]):=by
 have e:=GC l [some (.t (.lst (bl l)))]
 have hl:=mC l
 simp[turnF,aL,gY,nu,hl,h,e,aH]
noncomputable def jJ:GS:=
 (wA (eT (eM 2 hAppend (aa (eQ (wj (qB (eF (aj 4))) (qB (eQ (mH (qB (eF (aj 3))) (qB (bR 2 (eF (eP qb (aa (eC (.int 1)) aq)))))))))) aq))))
noncomputable def mU:GS:=
 (aQ (cG 2 (eP gB (aa (eC (.bl false)) aq)))
 (aQ (qd (tN 2 (jf (bName 3) (jf (bName 4) vd))) (QL (aa (eF (eP zx (aa (eF (aj 0)) (aa (eF (aj 1)) aq)))) aq)) (jJ))
 (aQ (wA (eT (eM 2 jo aq)))
 (cu (aj 2)))))
noncomputable def oX:FM:=aL 5 mU
theorem Ku:∀us r,oX us=some r->aL 5 mU us=some r:=fun _ _ h=>h
noncomputable def iV:List (Bool×Bool)->List Bool
 | []=>[false]
 | p :: ps=>(p.2 || (p.1 && (iV ps).headD false)) :: iV ps
theorem Kv:∀ps,∃h t,iV ps=h :: t
 | []=>⟨_,_,rfl⟩
 | _ :: _=>⟨_,_,rfl⟩
theorem uo:∀ps,(iV ps).length=ps.length+1
 | []=>rfl
 | _ :: ps=>by show(iV ps).length+1=_;rw[uo ps];rfl
noncomputable def pd (p:Bool×Bool):D:=.tup [.bl p.1,.bl p.2]
theorem GF (a b : D) (ps : List (Bool × Bool)) (hb : ps.length < 99999) : ∃ x3 x4, loop (tN 2 (jf (bName 3) (jf (bName 4) vd))) jJ (ps.map pd).reverse [some (.t a), some (.t b), some (.m (.lst [.bl false])), none, none] =
    some (.nx [some (.t a),some (.t b),some (.m (.lst (bl (iV ps).reverse))),x3,x4]):=by
  obtain⟨S',e,qs,ps',x3,x4,h1,h2,h3,rfl⟩:=Sq.Av (bd:=tN 2 (jf (bName 3) (jf (bName 4) vd))) (body:=jJ) (ps.map pd).reverse
    (fun r S=>∃(qs ps':List (Bool×Bool)) (x3 x4:Option U),r=(qs.map pd).reverse/\qs++ps'=ps/\(iU x3=false/\iU x4=false)/\S=[some (.t a),some (.t b),some (.m (.lst (bl (iV ps').reverse))),x3,x4]) _ ⟨ps,[],none,none,rfl,List.append_nil _,⟨rfl,rfl⟩,rfl⟩ (by
      rintro d r S ⟨qs,ps',x3,x4,h1,h2,⟨h3,h4⟩,rfl⟩
      rcases List.eq_nil_or_concat qs with rfl | ⟨W9,q,rfl⟩
      . cases h1
      . rw[List.concat_eq_append,List.map_append,List.reverse_append] at h1
        have h1:d :: r=pd q :: (W9.map pd).reverse:=h1
        injection h1 with h1 hr
        subst h1
        obtain⟨hd,tl,hc⟩:=Kv ps'
        have el:bl (iV ps').reverse=bl tl.reverse++[.bl hd]:=by rw[hc];simp[bl]
        have ea:=Kr (bl tl.reverse) (.bl hd)
        rw[<-el] at ea
        have hlen:(bl (iV ps').reverse).length < 100000:=by
          have z:=congrArg List.length h2
          rw[List.length_append] at z
          rw[mC,List.length_reverse,uo]
          omega
        have ew:bl (iV (q :: ps')).reverse=bl (iV ps').reverse++[.bl (q.2 || (q.1 && hd))]:=by simp[iV,hc,bl]
        refine⟨[some (.t a),some (.t b),some (.m (.lst (bl (iV ps').reverse))),some (.t (.bl q.1)),some (.t (.bl q.2))],[some (.t a),some (.t b),some (.m (.lst (bl (iV (q :: ps')).reverse))),some (.t (.bl q.1)),some (.t (.bl q.2))],?_,?_,W9,q :: ps',_,_,hr,by rw[<-h2,List.concat_eq_append];simp,⟨rfl,rfl⟩,rfl⟩
        . simp[-ia,fj,pd,h3,h4]
        . obtain⟨q1,q2⟩:=q
          rw[ew]
          cases q2 with
          | true=>simp[jJ,hlen]
          | false=>
            cases q1 with
            | false=>simp[jJ,hlen]
            | true=>simp[jJ,ea,hlen])
  have:qs=[]:=by
    have:=congrArg List.length h1
    simpa using this.symm
  subst this
  rw[List.nil_append] at h2
  subst h2
  exact⟨x3,x4,e⟩
theorem EO (s c:List Bool):Aq (bl s) (bl c)=(s.zip c).map pd:=by
 unfold Aq bl
 rw[List.zipWith_map,List.zip_eq_zipWith,List.map_zipWith]
 rfl
theorem B5 (s c:List Bool) (h:c.length < 99999):oX [.t (.lst (bl s)),.t (.lst (bl c))]=some (.m (.lst (bl (iV (s.zip c)))),[]):=by
 obtain⟨x3,x4,e⟩:=GF (.lst (bl s)) (.lst (bl c)) (s.zip c) (by rw[List.length_zip];omega)
 rw[<-EO] at e
 have er:(bl (iV (s.zip c)).reverse).reverse=bl (iV (s.zip c)):=by simp[bl]
 simp[oX,aL,mU,e,er,aH]
noncomputable def kP (bz:FM):GS:=
 (cu (aU bz (aK (eF (eP Ag (aa (eF (eP gB (aa (eC (.bl true)) aq))) (aa (jA 0) aq)))) (aK (eF (aj 0)) bG))))
noncomputable def mV (aB:FM) (bu:FM):GS:=
 (cu (aU aB (aK (eF (aU bu (aK (eF (aU aB (aK (eF (aj 0)) bG))) bG))) bG)))
noncomputable def qu:FM:=aL 1 (kP oX)
noncomputable def GG:FM:=aL 1 (mV turnF qu)
theorem Kw:∀us r,qu us=some r->aL 1 (kP oX) us=some r:=fun _ _ h=>h
theorem Nt:∀us r,GG us=some r->aL 1 (mV turnF qu) us=some r:=fun _ _ h=>h
theorem Nu (n:Nat):(List.replicate n [D.bl true]).flatten=bl (List.replicate n true):=by
 induction n with
 | zero=>rfl
 | succ n ih=>rw[List.replicate_succ,List.flatten_cons,ih,List.replicate_succ];rfl
noncomputable def uT (c:List Bool):List Bool:=iV ((List.replicate c.length true).zip c)
noncomputable def ER (c:List Bool):List Bool:=(uT (c.map fun b=>!b)).map fun b=>!b
theorem GH (c:List Bool):(uT c).length=c.length+1:=by unfold uT;rw[uo,List.length_zip,List.length_replicate,Nat.min_self]
theorem xh {c:List Bool}(h:c.length < 99999):qu [.t (.lst (bl c))]=some (.m (.lst (bl (uT c))),[]):=by
 have e:=B5 (List.replicate c.length true) c h
 have h':c.length<=100000:=by omega
 have er:=Nu c.length
 have hl:=mC c
 show aL 1 (kP oX) _=_
 generalize oX=f at *
 simp[aL,kP,hl,h',er,e,aH,uT]
theorem ES {c:List Bool}(h:c.length < 99999):GG [.t (.lst (bl c))]=some (.m (.lst (bl (ER c))),[]):=by
 have e1:=xg (l:=c) (by omega)
 have e2:=xh (c:=c.map fun b=>!b) (by rw[List.length_map];exact h)
 have e3:=xg (l:=uT (c.map fun b=>!b)) (by rw[GH,List.length_map];omega)
 show aL 1 (mV turnF qu) _=_
 generalize turnF=f at *
 generalize qu=g at *
 simp[aL,mV,e1,e2,e3,aH,ER]
noncomputable def AF:GS:=
 (cu (lu [0,1] (lg (aa (eF (eP dB (aa (jA 1) (aa (eC (.int 1)) aq)))) aq)) dj (eF (eP Bv (aa (eF (uP (eF (aj 2)) (some (eF (aj 0))) (some (eF (eP dB (aa (eF (aj 0)) (aa (eF (aj 1)) aq))))))) aq)))))
noncomputable def zC:FM:=aL 2 AF
theorem Ky:∀us r,zC us=some r->aL 2 AF us=some r:=fun _ _ h=>h
noncomputable def zD (n:Nat) (c:List Bool):List Bool:=(List.range (c.length+1)).map fun p=>((c.drop p).take n).any id
theorem GJ {c:List Bool}{n:Nat}:d9 [0,1] dj (eF (eP Bv (aa (eF (uP (eF (aj 2)) (some (eF (aj 0))) (some (eF (eP dB (aa (eF (aj 0)) (aa (eF (aj 1)) aq))))))) aq))) (nN 0 (c.length+1)) [some (.t (.int n)),some (.t (.lst (bl c)))] []=
  some (bl (zD n c),[some (.t (.int n)),some (.t (.lst (bl c)))]):=by
 have:=comp_map (cap:=[0,1]) (g:=eF (eP Bv (aa (eF (uP (eF (aj 2)) (some (eF (aj 0))) (some (eF (eP dB (aa (eF (aj 0)) (aa (eF (aj 1)) aq))))))) aq))) (S:=[some (.t (.int n)),some (.t (.lst (bl c)))])
  (fun d=>match d with | .int p=>.bl (((c.drop p.toNat).take n).any id) | d=>d) (nN 0 (c.length+1)) [] (fun d hd acc=>by
   unfold nN at hd
   obtain⟨p,hp,rfl⟩:=List.mem_map.mp hd
   have hp:p < c.length+1:=List.mem_range.mp hp
   have e0:(0:Int)+(p:Int)=(p:Int):=by omega
   have e1:=Nr (ds:=bl c) (p:=p) (n:=n) (by rw[mC];omega)
   have e2:((bl c).drop p).take n=bl ((c.drop p).take n):=by unfold bl;rw[<-List.map_drop,<-List.map_take]
   have e3:=B4 ((c.drop p).take n)
   rw[e0]
   rw[e2] at e1
   have e4:(p:Int).toNat=p:=by omega
   simp[d9,eZ,qH,aH,e1,e3,gX])
 rw[this,List.nil_append]
 congr 2
 unfold bl zD nN
 rw[List.map_map,List.map_map]
 apply List.map_congr_left
 intro p _
 simp
theorem Kz {c:List Bool}{n:Nat}(h:c.length < 90000):zC [.t (.int n),.t (.lst (bl c))]=some (.m (.lst (bl (zD n c))),[]):=by
 have e:=GJ (c:=c) (n:=n)
 have hl:=mC c
 have a1:(aa (eF (eP dB (aa (jA 1) (aa (eC (.int 1)) aq)))) aq) [some (.t (.int n)),some (.t (.lst (bl c)))]=some ([.int ((c.length:Int)+1)],[some (.t (.int n)),some (.t (.lst (bl c)))]):=by simp[hl]
 have eg:=Sq.pT a1 (by omega) (by omega)
 have h3:((c.length:Int)+1).toNat=c.length+1:=by omega
 rw[h3] at eg
 have h4:(nN 0 (c.length+1)).length<=100000:=by rw[J9];omega
 have ec:lu [0,1] (lg (aa (eF (eP dB (aa (jA 1) (aa (eC (.int 1)) aq)))) aq)) dj (eF (eP Bv (aa (eF (uP (eF (aj 2)) (some (eF (aj 0))) (some (eF (eP dB (aa (eF (aj 0)) (aa (eF (aj 1)) aq))))))) aq))) [some (.t (.int n)),some (.t (.lst (bl c)))]=some (.m (.lst (bl (zD n c))),[some (.t (.int n)),some (.t (.lst (bl c)))]):=by
  rw[M6,eg,Option.bind_some,if_pos h4,e]
  rfl
 show aL 2 (cu (lu _ _ _ _)) _=_
 generalize lu [0,1] (lg (aa (eF (eP dB (aa (jA 1) (aa (eC (.int 1)) aq)))) aq)) dj (eF (eP Bv (aa (eF (uP (eF (aj 2)) (some (eF (aj 0))) (some (eF (eP dB (aa (eF (aj 0)) (aa (eF (aj 1)) aq))))))) aq)))=g at *
 simp[aL,ec,aH]
theorem uq (f:Nat->Bool):iX 0 f=true:=rfl
theorem zE (n:Nat) (f:Nat->Bool):iO (n+1) f=(f 0 || iO n fun k=>f (k+1)):=by
 unfold iO;rw[List.range_succ_eq_map,List.any_cons,List.any_map];rfl
theorem ur (n:Nat) (f:Nat->Bool):iX (n+1) f=(f 0 && iX n fun k=>f (k+1)):=by
 unfold iX;rw[List.range_succ_eq_map,List.all_cons,List.all_map];rfl
theorem B6 (n:Nat) (b:Bool) (f:Nat->Bool):iO n (fun k=>b && f k)=(b && iO n f):=by
 cases b with
 | true=>simp
 | false=>unfold iO;simp
theorem KA (n:Nat) (f:Nat->Bool):(!iO n fun k=>!f k)=iX n f:=by
 unfold iO iX
 induction List.range n with
 | nil=>rfl
 | cons a l ih=>rw[List.any_cons,List.all_cons,Bool.not_or,Bool.not_not,ih]
theorem xj {n:Nat}{f g:Nat->Bool}(h:∀k,k < n->f k=g k):iO n f=iO n g:=by
 unfold iO
 rw[Bool.eq_iff_iff]
 simp only[List.any_eq_true,List.mem_range]
 exact⟨fun⟨k,a,b⟩=>⟨k,a,by rw[<-h k a];exact b⟩,fun⟨k,a,b⟩=>⟨k,a,by rw[h k a];exact b⟩⟩
theorem qO {n:Nat}{f g:Nat->Bool}(h:∀k,k < n->f k=g k):iX n f=iX n g:=by
 unfold iX
 rw[Bool.eq_iff_iff]
 simp only[List.all_eq_true,List.mem_range]
 exact⟨fun z k a=>by rw[<-h k a];exact z k a,fun z k a=>by rw[h k a];exact z k a⟩
noncomputable def UN (S C:Nat->Bool) (n i:Nat):Bool:=iO (n - i) fun k=>C (i+k) && iX k fun j=>S (i+j)
theorem Nv (S C:Nat->Bool) (n:Nat):UN S C (n+1) 0=(C 0 || (S 0 && UN (fun k=>S (k+1)) (fun k=>C (k+1)) n 0)):=by
 unfold UN
 rw[Nat.sub_zero,zE]
 simp only[Nat.zero_add,uq,Bool.and_true,Nat.sub_zero]
 congr 1
 rw[<-B6]
 congr 1
 funext k
 rw[ur]
 cases S 0 <;> simp
theorem Nx (S C:Nat->Bool) (n i:Nat):UN S C (n+1) (i+1)=UN (fun k=>S (k+1)) (fun k=>C (k+1)) n i:=by
 unfold UN
 rw[Nat.add_sub_add_right]
 congr 1
 funext k
 rw[Nat.add_right_comm i 1 k]
 congr 2
 funext j
 rw[Nat.add_right_comm i 1 j]
theorem uu {α:Type}(n:Nat) (f:Nat->α):(List.range (n+1)).map f=f 0 :: (List.range n).map fun k=>f (k+1):=by
 rw[List.range_succ_eq_map,List.map_cons,List.map_map];rfl
theorem uU:∀(n:Nat) (S C:Nat->Bool),iV ((List.range n).map fun i=>(S i,C i))=(List.range (n+1)).map (UN S C n)
 | 0,S,C=>rfl
 | n+1,S,C=>by
  have ih:=uU n (fun k=>S (k+1)) (fun k=>C (k+1))
  rw[uu n,uu (n+1)]
  show(C 0 || (S 0 && (iV ((List.range n).map fun k=>(S (k+1),C (k+1)))).headD false)) :: iV ((List.range n).map fun k=>(S (k+1),C (k+1)))=_
  rw[ih,Nv]
  congr 1
  ·rw[uu n];rfl
  ·exact List.map_congr_left fun i _=>(Nx S C n i).symm
noncomputable def tl (n:Nat) (f:Nat->Bool):List Bool:=(List.range n).map f
theorem ju (n:Nat) (f:Nat->Bool):(tl n f).length=n:=by unfold tl;rw[List.length_map,List.length_range]
theorem Dt (n:Nat) (S C:Nat->Bool):(tl n S).zip (tl n C)=(List.range n).map fun i=>(S i,C i):=by
 unfold tl
 rw[List.zip_map']
theorem ET (n:Nat) (S C:Nat->Bool):iV ((tl n S).zip (tl n C))=tl (n+1) (UN S C n):=by rw[Dt,uU];rfl
theorem AG (n:Nat) (C:Nat->Bool):uT (tl n C)=tl (n+1) fun i=>iO (n - i) fun k=>C (i+k):=by
 unfold uT
 have:List.replicate (tl n C).length true=tl n fun _=>true:=by
  rw[ju];unfold tl;rw[List.map_const',List.length_range]
 rw[this,ET]
 congr 1
 funext i
 unfold UN
 congr 1
 funext k
 have:(iX k fun _=>true)=true:=by unfold iX;simp
 rw[this,Bool.and_true]
theorem Du (n:Nat) (f:Nat->Bool):(tl n f).map (fun b=>!b)=tl n fun i=>!f i:=by unfold tl;rw[List.map_map];rfl
theorem KC (n:Nat) (C:Nat->Bool):ER (tl n C)=tl (n+1) fun i=>iX (n - i) fun k=>C (i+k):=by
 unfold ER
 rw[Du,AG,Du]
 congr 1
 funext i
 exact KA _ _
theorem oY {n i:Nat}(f:Nat->Bool) (h:i < n):(tl n f)[i]? =some (f i):=by unfold tl;rw[List.getElem?_map,List.getElem?_range h];rfl
theorem AH (n p k:Nat) (f:Nat->Bool):(((tl n f).drop p).take k).any id=iO (min (n - p) k) fun j=>f (p+j):=by
 have:((tl n f).drop p).take k=(List.range (min (n - p) k)).map fun j=>f (p+j):=by
  apply List.ext_getElem?
  intro j
  rw[List.getElem?_take,List.getElem?_drop]
  by_cases c:j < min (n - p) k
  ·rw[if_pos (by omega),oY f (by omega),List.getElem?_map,List.getElem?_range c];rfl
  ·rw[List.getElem?_eq_none (l:=(List.range _).map _) (by rw[List.length_map,List.length_range];omega)]
   split
   ·rw[List.getElem?_eq_none (by rw[ju];omega)]
   ·rfl
 rw[this,List.any_map]
 rfl
theorem Ny (n k:Nat) (C:Nat->Bool):zD k (tl n C)=tl (n+1) fun i=>iO (min (n - i) k) fun j=>C (i+j):=by
 unfold zD
 rw[ju]
 exact List.map_congr_left fun i _=>AH n i k C
theorem Nz (n:Nat) (f:Nat->Bool):(bl (tl (n+1) f)).take ((bl (tl (n+1) f)).length - 1)=bl (tl n f):=by
 rw[mC,ju]
 unfold bl tl
 rw[<-List.map_take,<-List.map_take,List.take_range]
 congr 3
 omega
theorem NB (n : Nat) (f : Nat -> Bool) : (bl (tl (n + 1) f)).drop 1 ++ [.bl false] = bl (tl (n + 1) fun i => decide (i < n) && f (i + 1)) := by
  have:tl (n+1) (fun i=>decide (i < n) && f (i+1))=(tl (n+1) f).drop 1++[false]:=by
    apply List.ext_getElem?
    intro i
    by_cases c:i < n
    . rw[oY _ (by omega),List.getElem?_append_left (by rw[List.length_drop,ju];omega),List.getElem?_drop,oY _ (by omega),decide_eq_true c,Nat.add_comm 1 i];rfl
    . by_cases c2:i=n
      . subst c2
        rw[oY _ (by omega),List.getElem?_append_right (by rw[List.length_drop,ju];omega),List.length_drop,ju,decide_eq_false c]
        simp
      . rw[List.getElem?_eq_none (by rw[ju];omega),List.getElem?_eq_none (by rw[List.length_append,List.length_drop,ju];simp;omega)]
  rw[this]
  unfold bl
  rw[List.map_append,List.map_drop]
  rfl
theorem uV:∀{a b:List Char},a.map Char.toNat=b.map Char.toNat->a=b
 | [],[],_=>rfl
 | [],_ :: _,h=>by simp at h
 | _ :: _,[],h=>by simp at h
 | x :: xs,y :: ys,h=>by
  rw[List.map_cons,List.map_cons] at h
  injection h with h1 h2
  rw[uV h2]
  congr 1
  exact Char.ext (UInt32.toNat_inj.mp h1)
@[simp] theorem lit_eq (s t:String):(Str.ofString s=Str.ofString t)↔s=t:=by
 constructor
 ·intro h
  rw[Str.ofString_eq_toList,Str.ofString_eq_toList] at h
  have h1:(s.toList.map Char.toNat).toArray=(t.toList.map Char.toNat).toArray:=congrArg Str.cps h
  have h2:s.toList.map Char.toNat=t.toList.map Char.toNat:=by simpa using congrArg Array.toList h1
  have h3:=uV h2
  exact String.toList_inj.mp h3
 ·intro h;rw[h]
noncomputable def i6:GS:=
 (aQ (cG 2 (eT (bR 0 (eC (.int 0)))))
 (aQ (gT (qB (eF (eP dY (aa (eF (aj 2)) (aa (eC (.str "any")) aq))))) (cu (eT (eC (.bl true)))) cF)
 (aQ (gT (qB (eF (eP dY (aa (eF (aj 2)) (aa (eC (.str "name")) aq))))) (cu (eP dY (aa (bR 1 (eC (.int 0))) (aa (bR 0 (eC (.int 1))) aq)))) cF)
 (aQ (gT (qB (eF (eP dY (aa (eF (aj 2)) (aa (eC (.str "less")) aq))))) (cu (eP z5 (aa (bR 1 (eC (.int 1))) (aa (bR 0 (eC (.int 1))) aq)))) cF)
 (aQ (gT (qB (eF (eP dY (aa (eF (aj 2)) (aa (eC (.str "same")) aq))))) (cu (eP dY (aa (bR 1 (eC (.int 1))) (aa (bR 0 (eC (.int 1))) aq)))) cF)
 (cu (eP Ql (aa (bR 1 (eC (.int 1))) (aa (bR 0 (eC (.int 1))) aq)))))))))
noncomputable def nK:FM:=aL 3 i6
theorem KD:∀us r,nK us=some r->aL 3 i6 us=some r:=fun _ _ h=>h
theorem KG {t:D}(h:Ts [] t) (p:Str×Int):nK [.t t,.t (gU p)]=some (.t (.bl (EN nQ p t)),[]):=by
 obtain⟨a,k⟩:=p
 have pr:gU (a,k)= .tup [.str a,.int k]:=rfl
 rw[pr]
 cases h with
 | any=>simp[nK,aL,i6,aH,EN,cQ]
 | @name b h=>
  rw[sH]
  by_cases c:a=b
  ·subst c;simp[nK,aL,i6,aH,cQ,cC]
  ·simp[nK,aL,i6,aH,cQ,cC,c]
 | @num o m ho b c=>
  have n:=(nC ho).1
  rw[kI _ _ n]
  simp only[yp,List.mem_cons,List.not_mem_nil,or_false] at ho
  have en:sG nQ (.int m)=m:=rfl
  rw[en]
  rcases ho with rfl | rfl | rfl
  ·simp[nK,aL,i6,aH,cQ,cC]
  ·rw[if_neg (by decide)];by_cases q:k=m <;> simp[nK,aL,i6,aH,cQ,cC,q]
  ·rw[if_neg (by decide),if_neg (by decide)];simp[nK,aL,i6,aH,cQ,cC]
 | var a b=>cases b
noncomputable def fQ (gZ:FM):GS:=
 (aQ (gT (qB (FY true 2 (eF (aj 0)))) (C4 2 (eF (aj 0)) (eF (aU gZ (aK (eF (aj 0)) (aK (eF (aj 1)) (cB (aj 2) bG)))))) cF)
 (cu (eT (bR 2 (eF (aj 0))))))
noncomputable def bg (cg:FM) (bV:FM) (aF:FM) (bu:FM) (aI:FM) (aB:FM) (bD:FM) (bz:FM):GS:=
 (aQ (cG 3 (eT (bR 0 (eC (.int 0)))))
 (aQ (gT (wj (qB (eF (eP dY (aa (eF (aj 3)) (aa (eC (.str "yes")) aq))))) (qB (eF (eP dY (aa (eF (aj 3)) (aa (eC (.str "no")) aq)))))) (cu (eP Ag (aa (eF (eP gB (aa (eF (eP dY (aa (eF (aj 3)) (aa (eC (.str "yes")) aq)))) aq))) (aa (eF (eP dB (aa (jA 1) (aa (eC (.int 1)) aq)))) aq)))) cF)
 (aQ (gT (qB (eF (eP dY (aa (eF (aj 3)) (aa (eC (.str "now")) aq))))) (cu (eP dB (aa (eF (lu [0] (wB (eF (aj 1))) dj (eF (aU cg (aK (bR 1 (eC (.int 1))) (aK (eF (aj 0)) bG)))))) (aa (eF (eP gB (aa (eC (.bl false)) aq))) aq)))) cF)
 (aQ (gT (qB (eF (eP dY (aa (eF (aj 3)) (aa (eC (.str "each")) aq))))) (cu (aU bV (aK (eF (aU aF (aK (eF (aj 0)) (aK (eF (aj 1)) (cB (aj 2) bG))))) bG))) cF)
 (aQ (gT (qB (eF (eP dY (aa (eF (aj 3)) (aa (eC (.str "one")) aq))))) (cu (aU bu (aK (eF (aU aF (aK (eF (aj 0)) (aK (eF (aj 1)) (cB (aj 2) bG))))) bG))) cF)
 (aQ (cG 4 (aU aI (aK (bR 0 (eF (eP qb (aa (eC (.int 1)) aq)))) (aK (eF (aj 1)) (cB (aj 2) bG)))))
 (aQ (gT (qB (eF (eP dY (aa (eF (aj 3)) (aa (eC (.str "not")) aq))))) (cu (aU aB (aK (eF (aj 4)) bG))) cF)
 (aQ (gT (qB (eF (eP dY (aa (eF (aj 3)) (aa (eC (.str "next")) aq))))) (cu (eP dB (aa (eF (uP (eF (aj 4)) (some (eC (.int 1))) none)) (aa (eF (eP gB (aa (eC (.bl false)) aq))) aq)))) cF)
 (aQ (gT (qB (eF (eP dY (aa (eF (aj 3)) (aa (eC (.str "always")) aq))))) (cu (aU bV (aK (eF (uP (eF (aj 4)) none (some (eF (eP qb (aa (eC (.int 1)) aq)))))) bG))) cF)
 (aQ (gT (qB (eF (eP dY (aa (eF (aj 3)) (aa (eC (.str "some")) aq))))) (cu (aU bu (aK (eF (uP (eF (aj 4)) none (some (eF (eP qb (aa (eC (.int 1)) aq)))))) bG))) cF)
 (aQ (gT (qB (eF (eP dY (aa (eF (aj 3)) (aa (eC (.str "within")) aq))))) (cu (aU bD (aK (bR 0 (eC (.int 1))) (aK (eF (uP (eF (aj 4)) none (some (eF (eP qb (aa (eC (.int 1)) aq)))))) bG)))) cF)
 (aQ (cG 5 (aU aI (aK (bR 0 (eC (.int 1))) (aK (eF (aj 1)) (cB (aj 2) bG)))))
 (aQ (gT (qB (eF (eP dY (aa (eF (aj 3)) (aa (eC (.str "both")) aq))))) (cu (jE [] (zh (aa (eF (aj 5)) (aa (eF (aj 4)) aq))) dj (eQ (mH (qB (eF (aj 0))) (qB (eF (aj 1))))))) cF)
 (aQ (gT (qB (eF (eP dY (aa (eF (aj 3)) (aa (eC (.str "either")) aq))))) (cu (jE [] (zh (aa (eF (aj 5)) (aa (eF (aj 4)) aq))) dj (eQ (wj (qB (eF (aj 0))) (qB (eF (aj 1))))))) cF)
 (cu (aU bz (aK (eF (uP (eF (aj 5)) none (some (eF (eP qb (aa (eC (.int 1)) aq)))))) (aK (eF (uP (eF (aj 4)) none (some (eF (eP qb (aa (eC (.int 1)) aq)))))) bG))))))))))))))))))
noncomputable def cZ (gq:FM) (aI:FM):GS:=
 (gT (qB (eF (eP dY (aa (bR 5 (eC (.int 0))) (aa (bR 0 (eC (.int 1))) aq))))) (aQ (cG 6 (aU gq (aK (bR 0 (eC (.int 3))) (aK (bR 0 (eC (.int 2))) (aK (bR 5 (eC (.int 1))) bG)))))
 (wA (eT (eM 3 hAppend (aa (eF (eP tM (aa (eF (aU aI (aK (eF (aj 6)) (aK (eF (aj 1)) (cB (aj 2) bG))))) (aa (eF (aj 4)) aq)))) aq))))) (wA (eT (eM 3 hAppend (aa (eF (eP dY (aa (bR 0 (eC (.int 0))) (aa (eC (.str "each")) aq)))) aq)))))
noncomputable def cW (gq:FM) (aI:FM):GS:=
 (aQ (cG 3 (eP gB aq))
 (aQ (qd (tN 2 (jf (bName 4) (jf (bName 5) vd))) (Jr (aa (eF (aj 1)) aq)) (cZ gq aI))
 (cu (aj 3))))
noncomputable def th0 (cg:FM) (bV:FM) (aF:FM) (bu:FM) (aI:FM) (aB:FM) (bD:FM) (bz:FM):GS:=
 (cG 3 (eT (bR 0 (eC (.int 0)))))
noncomputable def th1 (cg:FM) (bV:FM) (aF:FM) (bu:FM) (aI:FM) (aB:FM) (bD:FM) (bz:FM):GS:=
 (gT (wj (qB (eF (eP dY (aa (eF (aj 3)) (aa (eC (.str "yes")) aq))))) (qB (eF (eP dY (aa (eF (aj 3)) (aa (eC (.str "no")) aq)))))) (cu (eP Ag (aa (eF (eP gB (aa (eF (eP dY (aa (eF (aj 3)) (aa (eC (.str "yes")) aq)))) aq))) (aa (eF (eP dB (aa (jA 1) (aa (eC (.int 1)) aq)))) aq)))) cF)
noncomputable def th2 (cg:FM) (bV:FM) (aF:FM) (bu:FM) (aI:FM) (aB:FM) (bD:FM) (bz:FM):GS:=
 (gT (qB (eF (eP dY (aa (eF (aj 3)) (aa (eC (.str "now")) aq))))) (cu (eP dB (aa (eF (lu [0] (wB (eF (aj 1))) dj (eF (aU cg (aK (bR 1 (eC (.int 1))) (aK (eF (aj 0)) bG)))))) (aa (eF (eP gB (aa (eC (.bl false)) aq))) aq)))) cF)
noncomputable def th3 (cg:FM) (bV:FM) (aF:FM) (bu:FM) (aI:FM) (aB:FM) (bD:FM) (bz:FM):GS:=
 (gT (qB (eF (eP dY (aa (eF (aj 3)) (aa (eC (.str "each")) aq))))) (cu (aU bV (aK (eF (aU aF (aK (eF (aj 0)) (aK (eF (aj 1)) (cB (aj 2) bG))))) bG))) cF)
noncomputable def th4 (cg:FM) (bV:FM) (aF:FM) (bu:FM) (aI:FM) (aB:FM) (bD:FM) (bz:FM):GS:=
 (gT (qB (eF (eP dY (aa (eF (aj 3)) (aa (eC (.str "one")) aq))))) (cu (aU bu (aK (eF (aU aF (aK (eF (aj 0)) (aK (eF (aj 1)) (cB (aj 2) bG))))) bG))) cF)
noncomputable def XY (cg:FM) (bV:FM) (aF:FM) (bu:FM) (aI:FM) (aB:FM) (bD:FM) (bz:FM):GS:=
 (cG 4 (aU aI (aK (bR 0 (eF (eP qb (aa (eC (.int 1)) aq)))) (aK (eF (aj 1)) (cB (aj 2) bG)))))
noncomputable def th6 (cg:FM) (bV:FM) (aF:FM) (bu:FM) (aI:FM) (aB:FM) (bD:FM) (bz:FM):GS:=
 (gT (qB (eF (eP dY (aa (eF (aj 3)) (aa (eC (.str "not")) aq))))) (cu (aU aB (aK (eF (aj 4)) bG))) cF)
noncomputable def th7 (cg:FM) (bV:FM) (aF:FM) (bu:FM) (aI:FM) (aB:FM) (bD:FM) (bz:FM):GS:=
 (gT (qB (eF (eP dY (aa (eF (aj 3)) (aa (eC (.str "next")) aq))))) (cu (eP dB (aa (eF (uP (eF (aj 4)) (some (eC (.int 1))) none)) (aa (eF (eP gB (aa (eC (.bl false)) aq))) aq)))) cF)
noncomputable def th8 (cg:FM) (bV:FM) (aF:FM) (bu:FM) (aI:FM) (aB:FM) (bD:FM) (bz:FM):GS:=
 (gT (qB (eF (eP dY (aa (eF (aj 3)) (aa (eC (.str "always")) aq))))) (cu (aU bV (aK (eF (uP (eF (aj 4)) none (some (eF (eP qb (aa (eC (.int 1)) aq)))))) bG))) cF)
noncomputable def th9 (cg:FM) (bV:FM) (aF:FM) (bu:FM) (aI:FM) (aB:FM) (bD:FM) (bz:FM):GS:=
 (gT (qB (eF (eP dY (aa (eF (aj 3)) (aa (eC (.str "some")) aq))))) (cu (aU bu (aK (eF (uP (eF (aj 4)) none (some (eF (eP qb (aa (eC (.int 1)) aq)))))) bG))) cF)
noncomputable def VI (cg:FM) (bV:FM) (aF:FM) (bu:FM) (aI:FM) (aB:FM) (bD:FM) (bz:FM):GS:=
 (gT (qB (eF (eP dY (aa (eF (aj 3)) (aa (eC (.str "within")) aq))))) (cu (aU bD (aK (bR 0 (eC (.int 1))) (aK (eF (uP (eF (aj 4)) none (some (eF (eP qb (aa (eC (.int 1)) aq)))))) bG)))) cF)
noncomputable def NC (cg:FM) (bV:FM) (aF:FM) (bu:FM) (aI:FM) (aB:FM) (bD:FM) (bz:FM):GS:=
 (cG 5 (aU aI (aK (bR 0 (eC (.int 1))) (aK (eF (aj 1)) (cB (aj 2) bG)))))
noncomputable def Rq (cg:FM) (bV:FM) (aF:FM) (bu:FM) (aI:FM) (aB:FM) (bD:FM) (bz:FM):GS:=
 (gT (qB (eF (eP dY (aa (eF (aj 3)) (aa (eC (.str "both")) aq))))) (cu (jE [] (zh (aa (eF (aj 5)) (aa (eF (aj 4)) aq))) dj (eQ (mH (qB (eF (aj 0))) (qB (eF (aj 1))))))) cF)
noncomputable def Rr (cg:FM) (bV:FM) (aF:FM) (bu:FM) (aI:FM) (aB:FM) (bD:FM) (bz:FM):GS:=
 (gT (qB (eF (eP dY (aa (eF (aj 3)) (aa (eC (.str "either")) aq))))) (cu (jE [] (zh (aa (eF (aj 5)) (aa (eF (aj 4)) aq))) dj (eQ (wj (qB (eF (aj 0))) (qB (eF (aj 1))))))) cF)
noncomputable def ND (cg:FM) (bV:FM) (aF:FM) (bu:FM) (aI:FM) (aB:FM) (bD:FM) (bz:FM):GS:=
 (cu (aU bz (aK (eF (uP (eF (aj 5)) none (some (eF (eP qb (aa (eC (.int 1)) aq)))))) (aK (eF (uP (eF (aj 4)) none (some (eF (eP qb (aa (eC (.int 1)) aq)))))) bG))))
theorem VJ (cg:FM) (bV:FM) (aF:FM) (bu:FM) (aI:FM) (aB:FM) (bD:FM) (bz:FM):bg cg bV aF bu aI aB bD bz=aQ (th0 cg bV aF bu aI aB bD bz) (aQ (th1 cg bV aF bu aI aB bD bz) (aQ (th2 cg bV aF bu aI aB bD bz) (aQ (th3 cg bV aF bu aI aB bD bz) (aQ (th4 cg bV aF bu aI aB bD bz) (aQ (XY cg bV aF bu aI aB bD bz) (aQ (th6 cg bV aF bu aI aB bD bz) (aQ (th7 cg bV aF bu aI aB bD bz) (aQ (th8 cg bV aF bu aI aB bD bz) (aQ (th9 cg bV aF bu aI aB bD bz) (aQ (VI cg bV aF bu aI aB bD bz) (aQ (NC cg bV aF bu aI aB bD bz) (aQ (Rq cg bV aF bu aI aB bD bz) (aQ (Rr cg bV aF bu aI aB bD bz) (ND cg bV aF bu aI aB bD bz)))))))))))))):=rfl
theorem EU (a b:D):gj [a,b] (-1)=some b:=rfl
theorem OX (a b c:D):gj [a,b,c] (-1)=some c:=rfl
theorem NF (a b c:D):gj [a,b,c] 1=some b:=rfl
theorem je {a b:GS}{S S1:SS}(h:a S=some (.nx S1)):aQ a b S=b S1:=by unfold aQ;rw[h];rfl
theorem xm {a b:GS}{S S1:SS}{u:U}(h:a S=some (.rt u S1)):aQ a b S=some (.rt u S1):=by unfold aQ;rw[h];rfl
theorem fq {S:SS}{z:Str}(h:S[3]? =some (some (.t (.str z)))) (lit:Str):qB (eF (eP dY (aa (eF (aj 3)) (aa (eC (.str lit)) aq)))) S=some (decide (z=lit),S):=by
 by_cases c:z=lit
 ·subst c;simp[h]
 ·simp[h,c]
theorem kJ {S:SS}{z lit:Str}{A:GS}(h:S[3]? =some (some (.t (.str z)))) (hn:z≠lit):gT (qB (eF (eP dY (aa (eF (aj 3)) (aa (eC (.str lit)) aq))))) A cF S=some (.nx S):=by
 have e:=fq h lit
 rw[decide_eq_false hn] at e
 simp only[JK,e]
 rfl
theorem qw {S:SS}{z:Str}{A:GS}(h:S[3]? =some (some (.t (.str z)))):gT (qB (eF (eP dY (aa (eF (aj 3)) (aa (eC (.str z)) aq))))) A cF S=A S:=by
 have e:=fq h z
 rw[decide_eq_true rfl] at e
 simp only[JK,e]
 rfl
theorem NG {S:SS}{z:Str}{A:GS}(h:S[3]? =some (some (.t (.str z)))) (h1:z≠"yes") (h2:z≠"no"):gT (wj (qB (eF (eP dY (aa (eF (aj 3)) (aa (eC (.str "yes")) aq))))) (qB (eF (eP dY (aa (eF (aj 3)) (aa (eC (.str "no")) aq)))))) A cF S=some (.nx S):=by
 have e:=fq h "yes"
 have e':=fq h "no"
 rw[decide_eq_false h1] at e
 rw[decide_eq_false h2] at e'
 simp only[JK,Vg,e,e',Option.bind_some,Bool.false_eq_true,if_false]
 rfl
theorem aaM {g:GS}{a b:D}{kvs kvs':List (D×D)}{u:MO}{x y z v w:Option U}(h:g [some (.t a),some (.t b),some (.b (.cS kvs)),none,none,none]=some (.rt (.m u) [x,y,some (.b (.cS kvs')),z,v,w])):aL 6 g [.t a,.t b,.b (.cS kvs)]=some (.m u,[.cS kvs']):=by
 unfold aL
 show(g [some (.t a),some (.t b),some (.b (.cS kvs)),none,none,none]).bind _=_
 rw[h]
 simp[aH]
section
variable {fp gg fC cY ft dc bD dg:FM}{p q r:D}{kvs kvs' ve:List (D×D)}{o:MO}{l l2:List D}{rs ds:List D}{z:Str}
noncomputable abbrev SA (z:Str) (ds:List D) (r:D) (kvs:List (D×D)):SS:=[some (.t (.tup (.str z :: ds))),some (.t r),some (.b (.cS kvs)),some (.t (.str z)),none,none]
noncomputable abbrev SB (z:Str) (ds:List D) (r:D) (kvs:List (D×D)) (l:List D):SS:=[some (.t (.tup (.str z :: ds))),some (.t r),some (.b (.cS kvs)),some (.t (.str z)),some (.t (.lst l)),none]
noncomputable abbrev SC (z:Str) (ds:List D) (r:D) (kvs:List (D×D)) (l l2:List D):SS:=[some (.t (.tup (.str z :: ds))),some (.t r),some (.b (.cS kvs)),some (.t (.str z)),some (.t (.lst l)),some (.t (.lst l2))]
theorem ta0:th0 fp gg fC cY ft dc bD dg [some (.t (.tup (.str z :: ds))),some (.t r),some (.b (.cS kvs)),none,none,none]=some (.nx (SA z ds r kvs)):=by
 simp[th0,cQ]
theorem ta5 (hl:gj (.str z :: ds) (-1)=some p) (e:ft [.t p,.t r,.b (.cS kvs)]=some (.t (.lst l),[.cS kvs'])):XY fp gg fC cY ft dc bD dg (SA z ds r kvs)=some (.nx (SB z ds r kvs' l)):=by
 simp[XY,hl,e]
theorem aaN (hl:gj (.str z :: ds) 1=some p) (e:ft [.t p,.t r,.b (.cS kvs)]=some (.t (.lst l2),[.cS kvs'])):NC fp gg fC cY ft dc bD dg (SB z ds r kvs l)=some (.nx (SC z ds r kvs' l l2)):=by
 simp[NC,hl,e]
noncomputable abbrev OY (fp gg fC cY ft dc bD dg:FM):GS:=aQ (th6 fp gg fC cY ft dc bD dg) (aQ (th7 fp gg fC cY ft dc bD dg) (aQ (th8 fp gg fC cY ft dc bD dg) (aQ (th9 fp gg fC cY ft dc bD dg) (aQ (VI fp gg fC cY ft dc bD dg) (aQ (NC fp gg fC cY ft dc bD dg) (aQ (Rq fp gg fC cY ft dc bD dg) (aQ (Rr fp gg fC cY ft dc bD dg) (ND fp gg fC cY ft dc bD dg))))))))
noncomputable abbrev VL (fp gg fC cY ft dc bD dg:FM):GS:=aQ (th1 fp gg fC cY ft dc bD dg) (aQ (th2 fp gg fC cY ft dc bD dg) (aQ (th3 fp gg fC cY ft dc bD dg) (aQ (th4 fp gg fC cY ft dc bD dg) (aQ (XY fp gg fC cY ft dc bD dg) (OY fp gg fC cY ft dc bD dg)))))
theorem tb_start {x y v w u:Option U}(h:VL fp gg fC cY ft dc bD dg (SA z ds r kvs)=some (.rt (.m o) [x,y,some (.b (.cS kvs')),v,w,u])):aL 6 (bg fp gg fC cY ft dc bD dg) [.t (.tup (.str z :: ds)),.t r,.b (.cS kvs)]=some (.m o,[.cS kvs']):=by
 refine aaM (x:=x) (y:=y) (z:=v) (v:=w) (w:=u) ?_
 rw[VJ]
 exact(je ta0).trans h
structure Inner (z:Str):Prop where
 n1:z≠"yes"
 n2:z≠"no"
 n3:z≠"now"
 n4:z≠"each"
 n5:z≠"one"
theorem mW {x y v w u:Option U}(hz:Inner z) (hl:gj (.str z :: ds) (-1)=some p) (e:ft [.t p,.t r,.b (.cS kvs)]=some (.t (.lst l),[.cS kvs'])) (h:OY fp gg fC cY ft dc bD dg (SB z ds r kvs' l)=some (.rt (.m o) [x,y,some (.b (.cS ve)),v,w,u])):aL 6 (bg fp gg fC cY ft dc bD dg) [.t (.tup (.str z :: ds)),.t r,.b (.cS kvs)]=some (.m o,[.cS ve]):=
 tb_start (x:=x) (y:=y) (v:=v) (w:=w) (u:=u) ((je (NG rfl hz.n1 hz.n2)).trans ((je (kJ rfl hz.n3)).trans ((je (kJ rfl hz.n4)).trans ((je (kJ rfl hz.n5)).trans ((je (ta5 hl e)).trans h)))))
theorem EV (hz:z="yes"\/z="no"){n:Nat}(hn:n < 90000) (hr:r= .tup rs\/r= .lst rs) (hl:rs.length=n):
  aL 6 (bg fp gg fC cY ft dc bD dg) [.t (.tup [.str z]),.t r,.b (.cS kvs)]=some (.m (.lst (List.replicate (n+1) (.bl (decide (z="yes"))))),[.cS kvs]):=by
 have h1:((n:Int)+1).toNat=n+1:=by omega
 have h2:(0:Int)<=(n:Int)+1:=by omega
 have h3:n+1<=100000:=by omega
 have e:∀b:D,(List.replicate (n+1) [b]).flatten=List.replicate (n+1) b:=fun b=>by
  induction (n+1) with
  | zero=>rfl
  | succ m ih=>rw[List.replicate_succ,List.flatten_cons,ih,List.replicate_succ];rfl
 refine tb_start (x:=some (.t (.tup [.str z]))) (y:=some (.t r)) (v:=some (.t (.str z))) (w:=none) (u:=none) (xm ?_)
 rcases hz with rfl | rfl <;> rcases hr with rfl | rfl <;> simp[th1,hl,h1,h2,h3,e]
theorem Rt (e:ft [.t p,.t r,.b (.cS kvs)]=some (.t (.lst l),[.cS kvs'])) (e2:dc [.t (.lst l)]=some (.m o,[])):
  aL 6 (bg fp gg fC cY ft dc bD dg) [.t (.tup [.str "not",p]),.t r,.b (.cS kvs)]=some (.m o,[.cS kvs']):=
 mW (⟨by decide,by decide,by decide,by decide,by decide⟩) (EU _ _) e (xm ((qw rfl).trans (by simp[e2];exact⟨rfl,rfl,rfl,rfl,rfl⟩)))
theorem NH (e:ft [.t p,.t r,.b (.cS kvs)]=some (.t (.lst l),[.cS kvs'])) (hl:(l.drop 1).length < 90000):
  aL 6 (bg fp gg fC cY ft dc bD dg) [.t (.tup [.str "next",p]),.t r,.b (.cS kvs)]=some (.m (.lst (l.drop 1++[.bl false])),[.cS kvs']):=by
 have c:L2.cutD l (some 1) none=l.drop 1:=wY l 1
 have h:(l.drop 1).length+1<=100000:=by omega
 exact mW (⟨by decide,by decide,by decide,by decide,by decide⟩) (EU _ _) e ((je (kJ rfl (by decide))).trans (xm ((qw rfl).trans (by simp[-List.drop_one,-List.length_drop,c,gX,h];exact⟨rfl,rfl,rfl,rfl,rfl⟩))))
theorem GK (e:ft [.t p,.t r,.b (.cS kvs)]=some (.t (.lst l),[.cS kvs'])) (hc:l.take (l.length - 1)=l2) (e2:gg [.t (.lst l2)]=some (.m o,[])):
  aL 6 (bg fp gg fC cY ft dc bD dg) [.t (.tup [.str "always",p]),.t r,.b (.cS kvs)]=some (.m o,[.cS kvs']):=by
 have c:=(oW l).trans hc
 exact mW (⟨by decide,by decide,by decide,by decide,by decide⟩) (EU _ _) e ((je (kJ rfl (by decide))).trans ((je (kJ rfl (by decide))).trans (xm ((qw rfl).trans (by simp[c,gX,e2];exact⟨rfl,rfl,rfl,rfl,rfl⟩)))))
theorem NI (e:ft [.t p,.t r,.b (.cS kvs)]=some (.t (.lst l),[.cS kvs'])) (hc:l.take (l.length - 1)=l2) (e2:cY [.t (.lst l2)]=some (.m o,[])):
  aL 6 (bg fp gg fC cY ft dc bD dg) [.t (.tup [.str "some",p]),.t r,.b (.cS kvs)]=some (.m o,[.cS kvs']):=by
 have c:=(oW l).trans hc
 exact mW (⟨by decide,by decide,by decide,by decide,by decide⟩) (EU _ _) e ((je (kJ rfl (by decide))).trans ((je (kJ rfl (by decide))).trans ((je (kJ rfl (by decide))).trans (xm ((qw rfl).trans (by simp[c,gX,e2];exact⟨rfl,rfl,rfl,rfl,rfl⟩))))))
theorem GL {k:D}(e:ft [.t p,.t r,.b (.cS kvs)]=some (.t (.lst l),[.cS kvs'])) (hc:l.take (l.length - 1)=l2) (e2:bD [.t k,.t (.lst l2)]=some (.m o,[])):
  aL 6 (bg fp gg fC cY ft dc bD dg) [.t (.tup [.str "within",k,p]),.t r,.b (.cS kvs)]=some (.m o,[.cS kvs']):=by
 have c:=(oW l).trans hc
 exact mW (⟨by decide,by decide,by decide,by decide,by decide⟩) (OX _ _ _) e ((je (kJ rfl (by decide))).trans ((je (kJ rfl (by decide))).trans ((je (kJ rfl (by decide))).trans ((je (kJ rfl (by decide))).trans (xm ((qw rfl).trans (by simp[NF,c,gX,e2];exact⟨rfl,rfl,rfl,rfl,rfl⟩)))))))
theorem NJ {a y:D}(e:fC [.t (.tup [.str "each",a,y,p]),.t r,.b (.cS kvs)]=some (.m (.lst l),[.cS kvs'])) (e2:gg [.t (.lst l)]=some (.m o,[])):
  aL 6 (bg fp gg fC cY ft dc bD dg) [.t (.tup [.str "each",a,y,p]),.t r,.b (.cS kvs)]=some (.m o,[.cS kvs']):=
 tb_start ((je (NG rfl (by decide) (by decide))).trans ((je (kJ rfl (by decide))).trans (xm ((qw rfl).trans (by simp[e,e2];exact⟨rfl,rfl,rfl,rfl,rfl⟩)))))
theorem Ru {a y:D}(e:fC [.t (.tup [.str "one",a,y,p]),.t r,.b (.cS kvs)]=some (.m (.lst l),[.cS kvs'])) (e2:cY [.t (.lst l)]=some (.m o,[])):
  aL 6 (bg fp gg fC cY ft dc bD dg) [.t (.tup [.str "one",a,y,p]),.t r,.b (.cS kvs)]=some (.m o,[.cS kvs']):=
 tb_start ((je (NG rfl (by decide) (by decide))).trans ((je (kJ rfl (by decide))).trans ((je (kJ rfl (by decide))).trans (xm ((qw rfl).trans (by simp[e,e2];exact⟨rfl,rfl,rfl,rfl,rfl⟩))))))
structure aaO (z:Str):Prop where
 in0:Inner z
 m1:z≠"not"
 m2:z≠"next"
 m3:z≠"always"
 m4:z≠"some"
 m5:z≠"within"
theorem AI {x y v w u:Option U}(hz:aaO z) (e:ft [.t q,.t r,.b (.cS kvs)]=some (.t (.lst l),[.cS kvs'])) (e1:ft [.t p,.t r,.b (.cS kvs')]=some (.t (.lst l2),[.cS ve]))
  (h:aQ (Rq fp gg fC cY ft dc bD dg) (aQ (Rr fp gg fC cY ft dc bD dg) (ND fp gg fC cY ft dc bD dg)) (SC z [p,q] r ve l l2)=some (.rt (.m o) [x,y,some (.b (.cS ve)),v,w,u])):
  aL 6 (bg fp gg fC cY ft dc bD dg) [.t (.tup [.str z,p,q]),.t r,.b (.cS kvs)]=some (.m o,[.cS ve]):=
 mW (x:=x) (y:=y) (v:=v) (w:=w) (u:=u) hz.in0 (OX _ _ _) e ((je (kJ rfl hz.m1)).trans ((je (kJ rfl hz.m2)).trans ((je (kJ rfl hz.m3)).trans ((je (kJ rfl hz.m4)).trans ((je (kJ rfl hz.m5)).trans ((je (aaN (NF _ _ _) e1)).trans h))))))
theorem NK {l3 l4:List D}(e:ft [.t q,.t r,.b (.cS kvs)]=some (.t (.lst l),[.cS kvs'])) (e1:ft [.t p,.t r,.b (.cS kvs')]=some (.t (.lst l2),[.cS ve])) (hc:l.take (l.length - 1)=l3) (hc2:l2.take (l2.length - 1)=l4) (e2:dg [.t (.lst l4),.t (.lst l3)]=some (.m o,[])):
  aL 6 (bg fp gg fC cY ft dc bD dg) [.t (.tup [.str "till",p,q]),.t r,.b (.cS kvs)]=some (.m o,[.cS ve]):=by
 have c:=(oW l).trans hc
 have c2:=(oW l2).trans hc2
 exact AI (⟨⟨by decide,by decide,by decide,by decide,by decide⟩,by decide,by decide,by decide,by decide,by decide⟩) e e1 ((je (kJ rfl (by decide))).trans ((je (kJ rfl (by decide))).trans (by simp[ND,c,c2,gX,e2];exact⟨rfl,rfl,rfl,rfl,rfl⟩)))
theorem xq (g:GD) (f:Bool->Bool->Bool) (hg:∀a b,g [some (.t (.bl a)),some (.t (.bl b))]=some (.bl (f a b),[some (.t (.bl a)),some (.t (.bl b))])) (S:SS):∀(ps:List (Bool×Bool)) (acc:List D),fy [] dj g (ps.map pd) S acc=some (acc++bl (ps.map fun p=>f p.1 p.2),S)
 | [],acc=>by simp[fy,bl]
 | p :: ps,acc=>by
  have ih:=xq g f hg S ps (acc++[.bl (f p.1 p.2)])
  show fy [] dj g (.tup [.bl p.1,.bl p.2] :: ps.map pd) S acc=_
  have e:=hg p.1 p.2
  simp[fy,eZ,slotsOf,dh,cO,dj,e,aH,wb,ih]
  simp[bl]
theorem KH {f:Bool->Bool->Bool}(hz:(z="both"/\f=fun a b=>a && b)\/(z="either"/\f=fun a b=>a || b)){s c:List Bool}(hl:s.length < 90000) (e:ft [.t q,.t r,.b (.cS kvs)]=some (.t (.lst (bl c)),[.cS kvs'])) (e1:ft [.t p,.t r,.b (.cS kvs')]=some (.t (.lst (bl s)),[.cS ve])):
  aL 6 (bg fp gg fC cY ft dc bD dg) [.t (.tup [.str z,p,q]),.t r,.b (.cS kvs)]=some (.m (.lst (bl ((s.zip c).map fun p=>f p.1 p.2))),[.cS ve]):=by
 have hz2:List.zipWith (fun a b:D=>D.tup [a,b]) (bl s) (bl c)=(s.zip c).map pd:=EO s c
 have hl2:((s.zip c).map pd).length<=100000:=by rw[List.length_map,List.length_zip];omega
 have e3:=xq (eQ (mH (qB (eF (aj 0))) (qB (eF (aj 1))))) (fun a b=>a && b) (fun a b=>by cases a <;> simp)
 have e4:=xq (eQ (wj (qB (eF (aj 0))) (qB (eF (aj 1))))) (fun a b=>a || b) (fun a b=>by cases a <;> simp)
 rcases hz with⟨rfl,rfl⟩ | ⟨rfl,rfl⟩
 ·exact AI (⟨⟨by decide,by decide,by decide,by decide,by decide⟩,by decide,by decide,by decide,by decide,by decide⟩) e e1 (xm ((qw rfl).trans (by simp[-List.length_map,-List.length_zip,hz2,hl2,e3];exact⟨rfl,rfl,rfl,rfl,rfl⟩)))
 ·exact AI (⟨⟨by decide,by decide,by decide,by decide,by decide⟩,by decide,by decide,by decide,by decide,by decide⟩) e e1 ((je (kJ rfl (by decide))).trans (xm ((qw rfl).trans (by simp[-List.length_map,-List.length_zip,hz2,hl2,e4];exact⟨rfl,rfl,rfl,rfl,rfl⟩))))
end
noncomputable def Rw (R:Row) (r:D):Prop:=r= .tup (R.map gU)\/r= .lst (R.map gU)
section
variable {fp gg fC cY ft dc bD dg Dv:FM}{p q r t:D}{kvs kvs' ve:List (D×D)}{o:MO}{l l2:List D}{R:Row}
theorem KI {S1 : SS} (d : D) (hd : d = .tup [.str "now", t]) (b : Str × Int -> Bool) (hp : ∀ h ∈ R, fp [.t t, .t (gU h)] = some (.t (.bl (b h)), [])) (hS : S1[0]? = some (some (.t d))) :
    d9 [0] dj (eF (aU fp (aK (bR 1 (eC (.int 1))) (aK (eF (aj 0)) bG)))) (R.map gU) S1 []=some (bl (R.map b),S1):=by
  subst hd
  have:∀(R':Row) (acc:List D),(∀h∈R',h∈R)->d9 [0] dj (eF (aU fp (aK (bR 1 (eC (.int 1))) (aK (eF (aj 0)) bG)))) (R'.map gU) S1 acc=some (acc++bl (R'.map b),S1):=by
    intro R'
    induction R' with
    | nil=>intro acc _;simp[d9,bl]
    | cons h R' ih=>
      intro acc hm
      have e:=hp h (hm h List.mem_cons_self)
      rw[List.map_cons,Sq.wX]
      have e1:d9 [0] dj (eF (aU fp (aK (bR 1 (eC (.int 1))) (aK (eF (aj 0)) bG)))) [gU h] S1 acc=some (acc++[.bl (b h)],S1):=by
        simp[d9,eZ,qH,hS,aH,cC,e]
      rw[e1,Option.bind_some,ih _ fun x hx=>hm x (List.mem_cons_of_mem _ hx)]
      simp[bl]
  simpa using this R [] fun _ h=>h
theorem Rv (b:Str×Int->Bool) (hp:∀h∈R,fp [.t t,.t (gU h)]=some (.t (.bl (b h)),[])) (hr:Rw R r) (hl:R.length < 90000):
  aL 6 (bg fp gg fC cY ft dc bD dg) [.t (.tup [.str "now",t]),.t r,.b (.cS kvs)]=some (.m (.lst (bl (R.map b++[false]))),[.cS kvs]):=by
 have e:=fun S1 hS=>KI (S1:=S1) (.tup [.str "now",t]) rfl b hp hS
 have h1:(R.map gU).length<=100000:=by rw[List.length_map];omega
 have h2:(bl (R.map b)).length+1<=100000:=by rw[mC,List.length_map];omega
 have e2:bl (R.map b)++[.bl false]=bl (R.map b++[false]):=by simp[bl]
 refine tb_start (x:=some (.t (.tup [.str "now",t]))) (y:=some (.t r)) (v:=some (.t (.str "now"))) (w:=none) (u:=none) ((je (NG rfl (by decide) (by decide))).trans (xm ((qw rfl).trans ?_)))
 rcases hr with rfl | rfl <;> simp[-List.length_map,nu,h1,h2,e,e2]
theorem Rx {z a y x:Str}{m:Int}{i:Nat}{part:D}{acc:List D}{b:Bool}{x4 x5 x6:Option U}(h6:iU x6=false) (hx:x=a) (e1:Dv [.t p,.t (.str y),.t (.int m)]=some (.t part,[])) (e2:ft [.t part,.t r,.b (.cS kvs)]=some (.t (.lst l),[.cS kvs'])) (e3:gj l (i:Int)=some (.bl b)) (ha:acc.length < 100000):
  cZ Dv ft [some (.t (.tup [.str z,.str a,.str y,p])),some (.t r),some (.b (.cS kvs)),some (.m (.lst acc)),some (.t (.int i)),some (.t (.tup [.str x,.int m])),x6]=
   some (.nx [some (.t (.tup [.str z,.str a,.str y,p])),some (.t r),some (.b (.cS kvs')),some (.m (.lst (acc++[.bl b]))),some (.t (.int i)),some (.t (.tup [.str x,.int m])),some (.t part)]):=by
 subst hx
 have t3:gj [D.str z,.str x,.str y,p] 3=some p:=rfl
 simp[-ia,fj,h6,cZ,cQ,cC,jc,t3,e1,e2,e3,ha]
theorem NL {z a y x:Str}{m:Int}{i:Nat}{acc:List D}{x4 x5 x6:Option U}(hx:¬x=a) (ha:acc.length < 100000):
  cZ Dv ft [some (.t (.tup [.str z,.str a,.str y,p])),some (.t r),some (.b (.cS kvs)),some (.m (.lst acc)),some (.t (.int i)),some (.t (.tup [.str x,.int m])),x6]=
   some (.nx [some (.t (.tup [.str z,.str a,.str y,p])),some (.t r),some (.b (.cS kvs)),some (.m (.lst (acc++[.bl (decide (z="each"))]))),some (.t (.int i)),some (.t (.tup [.str x,.int m])),x6]):=by
 by_cases hz:z="each"
 ·subst hz;simp[cZ,cQ,cC,jc,hx,ha]
 ·simp[cZ,cQ,cC,jc,hx,ha,hz]
theorem KJ {R:Row}{j:Nat}{d:D}(h:(qp (R.map gU))[j]? =some d):∃x,R[j]? =some x/\d= .tup [.int j,gU x]:=by
 unfold qp at h
 rw[List.getElem?_mapIdx,List.getElem?_map] at h
 cases e:R[j]? with
 | none=>rw[e] at h;cases h
 | some x=>rw[e] at h;cases h;exact⟨x,rfl,rfl⟩
theorem KL (R:Row):(qp (R.map gU)).length=R.length:=by unfold qp;rw[List.length_mapIdx,List.length_map]
theorem Ry {z a y : Str} {Kn : List (D × D) -> Prop} {C : Nat} (hr : Rw R r) (hl : R.length < 90000) (b : Nat -> Bool) (hk : Kn kvs)
    (step:∀(i:Nat) (h:Str×Int) (ks:List (D×D)),R[i]? =some h->Kn ks->ks.length<=kvs.length+i * C->h.1=a->∃part l ks',Dv [.t p,.t (.str y),.t (.int h.2)]=some (.t part,[])/\ft [.t part,.t r,.b (.cS ks)]=some (.t (.lst l),[.cS ks'])/\gj l (i:Int)=some (.bl (b i))/\Kn ks'/\ks'.length<=ks.length+C)
    (hb:∀(i:Nat) (h:Str×Int),R[i]? =some h->¬h.1=a->b i=decide (z="each")):
    ∃kvs',aL 7 (cW Dv ft) [.t (.tup [.str z,.str a,.str y,p]),.t r,.b (.cS kvs)]=some (.m (.lst (bl (tl R.length b))),[.cS kvs'])/\Kn kvs'/\kvs'.length<=kvs.length+R.length * C:=by
  obtain⟨S',e,ks,x4,x5,x6,h1,h2,hh,rfl⟩:=oO (bd:=tN 2 (jf (bName 4) (jf (bName 5) vd))) (body:=cZ Dv ft) (qp (R.map gU))
    (fun j S=>∃(ks:List (D×D)) (x4 x5 x6:Option U),Kn ks/\ks.length<=kvs.length+j * C/\(iU x4=false/\iU x5=false/\iU x6=false)/\S=[some (.t (.tup [.str z,.str a,.str y,p])),some (.t r),some (.b (.cS ks)),some (.m (.lst (bl (tl j b)))),x4,x5,x6])
    [some (.t (.tup [.str z,.str a,.str y,p])),some (.t r),some (.b (.cS kvs)),some (.m (.lst [])),none,none,none] ⟨kvs,none,none,none,hk,by omega,⟨rfl,rfl,rfl⟩,rfl⟩ (by
      rintro j d S hd ⟨ks,x4,x5,x6,k1,k2,⟨b4,b5,b6⟩,rfl⟩
      obtain⟨h,hj,rfl⟩:=KJ hd
      have jl:j < R.length:=(List.getElem?_eq_some_iff.mp hj).1
      have ha:(bl (tl j b)).length < 100000:=by rw[mC,ju];omega
      have et:bl (tl (j+1) b)=bl (tl j b)++[.bl (b j)]:=by unfold bl tl;rw[List.range_succ,List.map_append,List.map_append];rfl
      have ej:(j+1) * C=j * C+C:=by rw[Nat.add_mul,Nat.one_mul]
      obtain⟨x,m⟩:=h
      have bind:tN 2 (jf (bName 4) (jf (bName 5) vd)) (.tup [.int j,gU (x,m)]) [some (.t (.tup [.str z,.str a,.str y,p])),some (.t r),some (.b (.cS ks)),some (.m (.lst (bl (tl j b)))),x4,x5,x6]=some [some (.t (.tup [.str z,.str a,.str y,p])),some (.t r),some (.b (.cS ks)),some (.m (.lst (bl (tl j b)))),some (.t (.int j)),some (.t (.tup [.str x,.int m])),x6]:=by
        simp[-ia,fj,b4,b5,gU]
      by_cases c:x=a
      . obtain⟨part,l,ks',e1,e2,e3,e4,e5⟩:=step j (x,m) ks hj k1 k2 c
        exact⟨_,_,bind,Rx (x4:=x4) (x5:=x5) b6 c e1 e2 e3 ha,ks',some (.t (.int j)),some (.t (.tup [.str x,.int m])),some (.t part),e4,by omega,⟨rfl,rfl,rfl⟩,by rw[et]⟩
      . have hbj:=hb j (x,m) hj c
        exact⟨_,_,bind,NL (x4:=x4) (x5:=x5) c ha,ks,some (.t (.int j)),some (.t (.tup [.str x,.int m])),x6,k1,by omega,⟨rfl,rfl,b6⟩,by rw[et,hbj]⟩)
  rw[KL] at h2 e
  refine⟨ks,?_,h1,h2⟩
  have e':loop (tN 2 (jf (bName 4) (jf (bName 5) vd))) (cZ Dv ft) (qp (R.map gU)) [some (.t (.tup [.str z,.str a,.str y,p])),some (.t r),some (.b (.cS kvs)),some (.m (.lst [])),none,none,none]=_:=e
  rcases hr with rfl | rfl <;> simp[aL,cW,aH,e']
theorem KN {d v:D}(hk:rR d=some d) (h:bX kvs d=some v):aL 3 (fQ fC) [.t d,.t r,.b (.cS kvs)]=some (.t v,[.cS kvs]):=by
 simp[aL,fQ,aH,FY,Jt,hk,h]
theorem Rz {d:D}(hk:rR d=some d) (h:bX kvs d=none) (e:fC [.t d,.t r,.b (.cS kvs)]=some (.m (.lst l),[.cS kvs'])) (hl:kvs'.length < 10000000) (h2:bX (putD kvs' d (.lst l)) d=some (.lst l)):
  aL 3 (fQ fC) [.t d,.t r,.b (.cS kvs)]=some (.t (.lst l),[.cS (putD kvs' d (.lst l))]):=by
 simp[aL,fQ,aH,FY,Jt,hk,h,e,hl,h2]
end
theorem jX {κ : Type} [DecidableEq κ] (kvs : List (κ × D)) (k : κ) (v : D) : bX (putD kvs k v) k = some v := by
  unfold putD
  split
  . rename_i h
    induction kvs with
    | nil=>simp at h
    | cons p ps ih=>
      by_cases e:p.1=k
      . simp[bX,List.find?_cons,e]
      . have h':(ps.any fun kv=>decide (kv.1=k))=true:=by simpa[List.any_cons,e] using h
        have:=ih h'
        simpa[bX,List.find?_cons,e] using this
  . rename_i h
    induction kvs with
    | nil=>simp[bX]
    | cons p ps ih=>
      have e:¬p.1=k:=fun q=>h (by simp[List.any_cons,q])
      have h':¬(ps.any fun kv=>decide (kv.1=k))=true:=fun q=>h (by simp[List.any_cons,q])
      have:=ih h'
      simpa[bX,List.find?_cons,e] using this
theorem lX {κ : Type} [DecidableEq κ] (kvs : List (κ × D)) {k k' : κ} (v : D) (hn : k' ≠ k) : bX (putD kvs k v) k' = bX kvs k' := by
  unfold putD
  split
  . rename_i h
    clear h
    induction kvs with
    | nil=>rfl
    | cons p ps ih=>
      by_cases e:p.1=k
      . have:¬p.1=k':=fun q=>hn (q.symm.trans e)
        have e2:¬k=k':=fun q=>hn q.symm
        simpa[bX,List.find?_cons,e,e2] using ih
      . by_cases e2:p.1=k'
        . simp[bX,List.find?_cons,e,e2,hn]
        . simpa[bX,List.find?_cons,e,e2] using ih
  . have e2:¬k=k':=fun q=>hn q.symm
    simp[bX,List.find?_append,e2]
theorem xr {κ:Type} [DecidableEq κ] (kvs:List (κ×D)) (k:κ) (v:D):(putD kvs k v).length<=kvs.length+1:=by
 unfold putD
 split
 ·rw[List.length_map];omega
 ·simp
noncomputable def RA:Nat->FM×FM×FM
 | 0=>(fun _=>none,fun _=>none,fun _=>none)
 | j+1=>(aL 3 (fQ (RA j).2.1),aL 6 (bg nK GG (RA j).2.2 qu (RA j).1 turnF zC oX),aL 7 (cW (qi 9) (RA j).1))
noncomputable def LL (j:Nat):FM:=(RA j).1
noncomputable def VM (j:Nat):FM:=(RA j).2.1
noncomputable def VN (j:Nat):FM:=(RA j).2.2
theorem RB (j:Nat):∀us r,LL (j+1) us=some r->aL 3 (fQ (VM j)) us=some r:=fun _ _ h=>h
theorem RC (j:Nat):∀us r,VM (j+1) us=some r->aL 6 (bg nK GG (VN j) qu (LL j) turnF zC oX) us=some r:=fun _ _ h=>h
theorem RD (j:Nat):∀us r,VN (j+1) us=some r->aL 7 (cW (qi 9) (LL j)) us=some r:=fun _ _ h=>h
theorem KO (us:List U):LL 0 us=none:=rfl
theorem KP (us:List U):VM 0 us=none:=rfl
theorem KQ (us:List U):VN 0 us=none:=rfl
noncomputable def Hu (R:Row) (d:D):List D:=bl (tl (R.length+1) (ev R nQ d))
noncomputable def Kn (R:Row) (kvs:List (D×D)):Prop:=∀k v,bX kvs k=some v->v= .lst (Hu R k)
theorem Kn.put {R:Row}{kvs:List (D×D)}{d:D}(h:Kn R kvs):Kn R (putD kvs d (.lst (Hu R d))):=fun k v e=>by
 by_cases c:k=d
 ·subst c
  rw[jX] at e
  cases e
  rfl
 ·rw[lX _ _ c] at e
  exact h k v e
noncomputable def NN (R:Row) (f:FM) (r:D) (n:Nat):Prop:=∀(d:D) (kvs:List (D×D)),Sy n [] d->Kn R kvs->kvs.length+cost R.length d < 10000000->
 ∃kvs',f [.t d,.t r,.b (.cS kvs)]=some (.t (.lst (Hu R d)),[.cS kvs'])/\Kn R kvs'/\kvs'.length<=kvs.length+cost R.length d
theorem KR (R:Row) (t:D):R.map (fun h=>EN nQ h t)++[false]=tl (R.length+1) (ev R nQ (.tup [.str "now",t])):=by
 apply List.ext_getElem?
 intro i
 by_cases c:i < R.length
 ·rw[oY _ (by omega),w5,List.getElem?_append_left (by rw[List.length_map];exact c),List.getElem?_map,List.getElem?_eq_getElem c];rfl
 ·by_cases c2:i=R.length
  ·subst c2
   rw[oY _ (by omega),w5,List.getElem?_append_right (by rw[List.length_map];omega),List.length_map,List.getElem?_eq_none (l:=R) (by omega)]
   simp
  ·rw[List.getElem?_eq_none (by rw[List.length_append,List.length_map];simp;omega),List.getElem?_eq_none (by rw[ju];omega)]
theorem i7 {n:Nat}{f g:Nat->Bool}(h:∀i,i < n->f i=g i):tl n f=tl n g:=List.map_congr_left fun i hi=>h i (List.mem_range.mp hi)
theorem sO (n:Nat) (f:Nat->Bool):(bl (tl (n+1) f)).take ((bl (tl (n+1) f)).length - 1)=bl (tl n f):=Nz n f
theorem zF (R:Row) (z:Str):List.replicate (R.length+1) (D.bl (decide (z="yes")))=Hu R (.tup [.str z]):=by
 unfold Hu bl tl
 rw[List.map_map]
 apply List.ext_getElem?
 intro i
 by_cases c:i < R.length+1
 ·rw[List.getElem?_replicate,if_pos c,List.getElem?_map,List.getElem?_range c];simp[vF]
 ·rw[List.getElem?_eq_none (by rw[List.length_replicate];omega),List.getElem?_eq_none (by rw[List.length_map,List.length_range];omega)]
section
variable {R:Row}{r:D}
theorem VO {n:Nat}{f fh:FM}{d:D}{kvs:List (D×D)}(hr:Rw R r) (hl:R.length < 80000) (hR:∀h∈R,0<=h.2/\h.2<=9) (h9:n<=9) (ih:NN R f r n) (eh:fh=aL 7 (cW (qi 9) f)\/∃f2,NN R f2 r n/\fh=aL 7 (cW (qi 9) f2))
  (hd:Sy (n+1) [] d) (hk:Kn R kvs) (hc:kvs.length+cost R.length d < 10000000):
  ∃kvs',aL 6 (bg nK GG fh qu f turnF zC oX) [.t d,.t r,.b (.cS kvs)]=some (.m (.lst (Hu R d)),[.cS kvs'])/\Kn R kvs'/\kvs'.length+1<=kvs.length+cost R.length d:=by
 have RE:∀g:Nat->Bool,(tl (R.length+1) g).length < 90000:=fun g=>by rw[ju];omega
 have zG:∀g:Nat->Bool,(tl R.length g).length < 90000:=fun g=>by rw[ju];omega
 cases hd with
 | @leaf _ _ z h=>
  rw[zB]
  refine⟨kvs,?_,hk,by omega⟩
  rcases hr with rfl | rfl
  ·rw[EV h (n:=R.length) (rs:=R.map gU) (by omega) (.inl rfl) (List.length_map ..),zF]
  ·rw[EV h (n:=R.length) (rs:=R.map gU) (by omega) (.inr rfl) (List.length_map ..),zF]
 | @now _ _ t h=>
  rw[sI]
  refine⟨kvs,?_,hk,by omega⟩
  rw[Rv (fun h=>EN nQ h t) (fun x _=>KG h x) hr (by omega),KR]
  rfl
 | @one _ _ z p hz hp=>
  rw[sJ _ hz] at hc ⊢
  obtain⟨ks,e1,e2,e3⟩:=ih p kvs hp hk (by omega)
  rcases jH hz with rfl | rfl | rfl | rfl
  ·refine⟨ks,?_,e2,by omega⟩
   have:=xg (l:=tl (R.length+1) (ev R nQ p)) (by have:=RE (ev R nQ p);omega)
   rw[Rt e1 this,Du]
   congr 4
   exact congrArg bl (i7 fun i _=>(AD R nQ i p).symm)
  ·refine⟨ks,?_,e2,by omega⟩
   rw[NH e1 (by unfold Hu;rw[List.length_drop,mC,ju];omega)]
   unfold Hu
   rw[NB]
   congr 4
   exact congrArg bl (i7 fun i _=>(vG R nQ i p).symm)
  ·refine⟨ks,?_,e2,by omega⟩
   rw[GK e1 (sO _ _) (ES (c:=tl R.length (ev R nQ p)) (by have:=zG (ev R nQ p);omega)),KC]
   congr 4
   exact congrArg bl (i7 fun i _=>(pU R nQ i p).symm)
  ·refine⟨ks,?_,e2,by omega⟩
   rw[NI e1 (sO _ _) (xh (c:=tl R.length (ev R nQ p)) (by have:=zG (ev R nQ p);omega)),AG]
   congr 4
   exact congrArg bl (i7 fun i _=>(vH R nQ i p).symm)
 | @two _ _ z p q hz hp hq=>
  rw[sL _ hz] at hc ⊢
  obtain⟨ks,e1,e2,e3⟩:=ih q kvs hq hk (by omega)
  obtain⟨ks2,g1,g2,g3⟩:=ih p ks hp e2 (by omega)
  rcases jI hz with rfl | rfl | rfl
  ·refine⟨ks2,?_,g2,by omega⟩
   rw[KH (.inl ⟨rfl,rfl⟩) (RE _) e1 g1,Dt,List.map_map]
   congr 4
   exact congrArg bl (i7 (n:=R.length+1) fun i _=>(vI R nQ i p q).symm)
  ·refine⟨ks2,?_,g2,by omega⟩
   rw[KH (.inr ⟨rfl,rfl⟩) (RE _) e1 g1,Dt,List.map_map]
   congr 4
   exact congrArg bl (i7 (n:=R.length+1) fun i _=>(pX R nQ i p q).symm)
  ·refine⟨ks2,?_,g2,by omega⟩
   rw[NK e1 g1 (sO _ _) (sO _ _) (B5 (tl R.length (ev R nQ p)) (tl R.length (ev R nQ q)) (by have:=zG (ev R nQ q);omega)),ET]
   congr 4
   exact congrArg bl (i7 fun i _=>(vJ R nQ i p q).symm)
 | @Gx _ _ k p k0 k5 hp=>
  rw[sM] at hc ⊢
  obtain⟨ks,e1,e2,e3⟩:=ih p kvs hp hk (by omega)
  refine⟨ks,?_,e2,by omega⟩
  have ek:(k.toNat:Int)=k:=by omega
  have es:=Kz (c:=tl R.length (ev R nQ p)) (n:=k.toNat) (zG _)
  rw[ek] at es
  rw[GL e1 (sO _ _) es,Ny]
  exact congrArg (fun l=>some (U.m (MO.lst (bl l)),[MO.cS ks])) (i7 fun i _=>(pW R nQ i k p).symm)
 | @bnd _ _ z a y p hz ha hb hp=>
  rw[sN] at hc ⊢
  have hp:Sy n [y] p:=hp
  have core:∀f2:FM,NN R f2 r n->∃ks,aL 7 (cW (qi 9) f2) [.t (.tup [.str z,.str a,.str y,p]),.t r,.b (.cS kvs)]=some (.m (.lst (bl (tl R.length fun i=>match R[i]? with | some h=>if h.1=a then ev R (sF nQ y h.2) p i else decide (z="each") | none=>decide (z="each")))),[.cS ks])/\Kn R ks/\ks.length<=kvs.length+R.length * cost R.length p:=fun f2 ih2=>by
   refine Ry (Kn:=Kn R) hr (by omega) _ hk (fun i h ks hi k1 k2 c=>?_) (fun i h hi c=>?_)
   ·have hm:=hR h (List.mem_of_getElem? hi)
    have il:i < R.length:=(List.getElem?_eq_some_iff.mp hi).1
    have sp:Sy n [] (jB n [y] (.int h.2) p):=by
     have:=Rl hp hm.1 hm.2 [y]
     simpa using this
    have cp:=Kq R.length hp [y] (.int h.2)
    have hi2:i * cost R.length p+cost R.length p<=R.length * cost R.length p:=by
     rw[<-Nat.succ_mul];exact Nat.mul_le_mul_right _ il
    obtain⟨ks',e1,e2,e3⟩:=ih2 (jB n [y] (.int h.2) p) ks sp k1 (by rw[cp];omega)
    refine⟨_,_,ks',Nm hp y (.int h.2) h9,e1,?_,e2,by rw[cp] at e3;exact e3⟩
    unfold Hu
    refine Sq.ue (by omega) ?_
    unfold bl
    rw[List.getElem?_map]
    have:(i:Int).toNat=i:=by omega
    rw[this,oY _ (by omega),Ro R hp,hi]
    simp[c]
   ·rw[hi];simp[c]
  obtain⟨ks,e1,e2,e3⟩:∃ks,fh [.t (.tup [.str z,.str a,.str y,p]),.t r,.b (.cS kvs)]=some (.m (.lst (bl (tl R.length fun i=>match R[i]? with | some h=>if h.1=a then ev R (sF nQ y h.2) p i else decide (z="each") | none=>decide (z="each")))),[.cS ks])/\Kn R ks/\ks.length<=kvs.length+R.length * cost R.length p:=by
   rcases eh with rfl | ⟨f2,ih2,rfl⟩
   ·exact core f ih
   ·exact core f2 ih2
  refine⟨ks,?_,e2,by omega⟩
  rcases hz with rfl | rfl
  ·rw[NJ e1 (ES (by have:=zG (fun i=>match R[i]? with | some h=>if h.1=a then ev R (sF nQ y h.2) p i else decide (("each":Str)="each") | none=>decide (("each":Str)="each"));omega)),KC]
   congr 4
   refine congrArg bl (i7 fun i _=>?_)
   rw[vK]
   try congr 1
  ·rw[Ru e1 (xh (by have:=zG (fun i=>match R[i]? with | some h=>if h.1=a then ev R (sF nQ y h.2) p i else decide (("one":Str)="each") | none=>decide (("one":Str)="each"));omega)),AG]
   congr 4
   refine congrArg bl (i7 fun i _=>?_)
   rw[AE]
   have lit:decide (("one":Str)="each")=false:=by decide
   simp only[lit]
   try congr 1
theorem KS (hr:Rw R r) (hl:R.length < 80000) (hR:∀h∈R,0<=h.2/\h.2<=9):∀(n:Nat),n<=7->∀j,3 * n<=j->NN R (LL j) r n
  | 0,_,_,_=>fun d kvs h=>by cases h
  | n + 1, hn, j, hj => fun d kvs hd hk hc => by
    obtain⟨i,rfl⟩:∃i,j=i+3:=⟨j - 3,by omega⟩
    show ∃kvs',aL 3 (fQ (VM (i+2))) _=_/\_
    have kd:=Nq hd hn
    cases e:bX kvs d with
    | some v=>
      have:=hk d v e
      subst this
      exact⟨kvs,KN kd e,hk,by omega⟩
    | none=>
      obtain⟨ks,e1,e2,e3⟩:=VO (f:=LL (i+1)) (fh:=VN (i+1)) hr hl hR (by omega) (KS hr hl hR n (by omega) (i+1) (by omega)) (.inr ⟨LL i,KS hr hl hR n (by omega) i (by omega),rfl⟩) hd hk hc
      have:=xr ks d (.lst (Hu R d))
      exact⟨_,Rz kd e e1 (by omega) (jX ..),e2.put,by omega⟩
end
noncomputable def pY (aI:FM):GS:=
 (cu (eP tM (aa (eF (aU aI (aK (eF (aj 0)) (aK (eF (aj 1)) (cB Js bG))))) (aa (eF (aj 2)) aq))))
noncomputable def uv (cA:FM):GS:=
 (cu (aU cA (aK (eF (aj 0)) (aK (eF (aj 1)) (aK (eC (.int 0)) bG)))))
noncomputable def ku:FM:=aL 3 (pY (LL 24))
noncomputable def mX:FM:=aL 2 (uv ku)
theorem KU:∀us r,ku us=some r->aL 3 (pY (LL 24)) us=some r:=fun _ _ h=>h
theorem KW:∀us r,mX us=some r->aL 2 (uv ku) us=some r:=fun _ _ h=>h
theorem Kn.nil (R:Row):Kn R []:=fun k v h=>by cases h
theorem GN {f:FM}{d r:D}{l:List D}{kvs':List (D×D)}{i:Int}{b:Bool}(e:f [.t d,.t r,.b (.cS [])]=some (.t (.lst l),[.cS kvs'])) (ei:gj l i=some (.bl b)):aL 3 (pY f) [.t d,.t r,.t (.int i)]=some (.t (.bl b),[]):=by
 simp[aL,pY,aH,e,ei]
theorem GO {f:FM}{d r:D}{b:Bool}(e:f [.t d,.t r,.t (.int 0)]=some (.t (.bl b),[])):aL 2 (uv f) [.t d,.t r]=some (.t (.bl b),[]):=by
 simp[aL,uv,aH,e]
theorem RG (R:Row) (d:D){i:Nat}(h:i<=R.length):gj (Hu R d) (i:Int)=some (.bl (ev R nQ d i)):=by
 refine Sq.ue (by omega) ?_
 unfold Hu bl
 have:(i:Int).toNat=i:=by omega
 rw[List.getElem?_map,this,oY _ (by omega)]
 rfl
theorem B7 {R:Row}{r d:D}{n i:Nat}(hr:Rw R r) (hl:R.length < 80000) (hR:∀h∈R,0<=h.2/\h.2<=9) (hn:n<=7) (hd:Sy n [] d) (hc:cost R.length d < 10000000) (hi:i<=R.length):ku [.t d,.t r,.t (.int i)]=some (.t (.bl (ev R nQ d i)),[]):=by
 obtain⟨ks,e1,_,_⟩:=KS hr hl hR n hn 24 (by omega) d [] hd (Kn.nil R) (by simpa using hc)
 exact GN e1 (RG R d hi)
theorem KY {R:Row}{r d:D}{n:Nat}(hr:Rw R r) (hl:R.length < 80000) (hR:∀h∈R,0<=h.2/\h.2<=9) (hn:n<=7) (hd:Sy n [] d) (hc:cost R.length d < 10000000):mX [.t d,.t r]=some (.t (.bl (ev R nQ d 0)),[]):=
 GO (B7 (i:=0) hr hl hR hn hd hc (Nat.zero_le _))
noncomputable def qP (kvs:List (Key×D)):Ev:=fun x=>match bX kvs (.inr x) with
 | some (.int m)=>some m
 | _=>none
structure yr (bs:List Str) (kvs:List (Key×D)):Prop where
 all:∀y∈bs,∃m,bX kvs (.inr y)=some (.int m)
 noi:∀k:Int,bX kvs (.inl k)=none
 few:kvs.length<=bs.length
theorem yr.nil:yr [] []:=⟨fun y h=>(by cases h),fun _=>rfl,Nat.le_refl _⟩
theorem yr.put {bs : List Str} {kvs : List (Key × D)} (h : yr bs kvs) (y : Str) (m : Int) : yr (bs ++ [y]) (putD kvs (.inr y) (.int m)) := by
  refine⟨fun w hw=>?_,fun k=>?_,?_⟩
  . by_cases c:w=y
    . subst c;exact⟨m,jX ..⟩
    . rcases List.mem_append.mp hw with q | q
      . obtain⟨v,hv⟩:=h.all w q
        exact⟨v,by rw[lX _ _ (fun z=>c (Sum.inr.inj z))];exact hv⟩
      . exact absurd (List.mem_singleton.mp q) c
  . rw[lX _ _ (fun z=>by cases z)];exact h.noi k
  . have:=xr kvs (.inr y) (.int m);have:=h.few;rw[List.length_append];simp;omega
theorem KZ (kvs:List (Key×D)) (y:Str) (m:Int):qP (putD kvs (.inr y) (.int m))=sF (qP kvs) y m:=by
 funext x
 unfold qP sF
 by_cases c:x=y
 ·subst c;rw[jX,if_pos rfl]
 ·rw[lX _ _ (fun z=>c (Sum.inr.inj z)),if_neg c]
theorem K0:qP []=nQ:=rfl
noncomputable def cT:GS:=
 (aQ (gT (qB (eF (eP dY (aa (bR 0 (eC (.int 0))) (aa (eC (.str "any")) aq))))) (cu (eT (eC (.bl true)))) cF)
 (aQ (gT (qB (eF (eP dY (aa (bR 0 (eC (.int 0))) (aa (eC (.str "name")) aq))))) (cu (eP dY (aa (bR 1 (eC (.int 0))) (aa (bR 0 (eC (.int 1))) aq)))) cF)
 (aQ (cG 3 (eT (BF 2 (bR 0 (eC (.int 1))) (bR 0 (eC (.int 1))))))
 (aQ (gT (qB (eF (eP dY (aa (bR 0 (eC (.int 0))) (aa (eC (.str "less")) aq))))) (cu (eP z5 (aa (bR 1 (eC (.int 1))) (aa (eF (aj 3)) aq)))) cF)
 (cu (Qk (qB (eF (eP dY (aa (bR 0 (eC (.int 0))) (aa (eC (.str "same")) aq))))) (eP dY (aa (bR 1 (eC (.int 1))) (aa (eF (aj 3)) aq))) (eP Ql (aa (bR 1 (eC (.int 1))) (aa (eF (aj 3)) aq)))))))))
noncomputable def kh:FM:=aL 4 cT
theorem GP:∀us r,kh us=some r->aL 4 cT us=some r:=fun _ _ h=>h
theorem NO {bs:List Str}{kvs:List (Key×D)}(h:yr bs kvs) (m:Int):wM (.b (.dct kvs)) (.int m)=some none:=by
 show(keyOf (.int m)).map (bX kvs)=_
 show some (bX kvs (.inl m))=_
 rw[h.noi]
theorem NP {kvs:List (Key×D)}{y:Str}{m:Int}(h:bX kvs (.inr y)=some (.int m)):wM (.b (.dct kvs)) (.str y)=some (some (.int m)):=by
 show some (bX kvs (.inr y))=_
 rw[h]
theorem K1 {a o:Str}{k m:Int}{v:D}{kvs:List (Key×D)}(ho:o∈yp) (e:(wM (.b (.dct kvs)) v).map (fun w=>w.getD v)=some (.int m)):
  aL 4 cT [.t (.tup [.str o,v]),.t (.tup [.str a,.int k]),.b (.dct kvs)]=some (.t (.bl (if o="less" then decide (k < m) else if o="same" then decide (k=m) else decide (m < k))),[.dct kvs]):=by
 cases hg:wM (.b (.dct kvs)) v with
 | none=>rw[hg] at e;cases e
 | some w=>
  rw[hg] at e
  have e:w.getD v= .int m:=Option.some.inj e
  have di:qq (.b (.dct kvs))=true:=rfl
  simp only[yp,List.mem_cons,List.not_mem_nil,or_false] at ho
  rcases ho with rfl | rfl | rfl
  ·simp[aL,cT,aH,cQ,cC,di,hg,e]
  ·by_cases q:k=m <;> simp[aL,cT,aH,cQ,cC,di,hg,e,q]
  ·simp[aL,cT,aH,cQ,cC,di,hg,e]
theorem GQ {bs:List Str}{t:D}{kvs:List (Key×D)}(h:Ts bs t) (hk:yr bs kvs) (p:Str×Int):kh [.t t,.t (gU p),.b (.dct kvs)]=some (.t (.bl (EN (qP kvs) p t)),[.dct kvs]):=by
 obtain⟨a,k⟩:=p
 have pr:gU (a,k)= .tup [.str a,.int k]:=rfl
 rw[pr]
 cases h with
 | any=>simp[kh,aL,cT,aH,EN,cQ]
 | @name b h=>
  rw[sH]
  by_cases c:a=b
  ·subst c;simp[kh,aL,cT,aH,cQ,cC]
  ·simp[kh,aL,cT,aH,cQ,cC,c]
 | @num o m ho b c=>
  rw[kI _ _ (nC ho).1]
  exact K1 ho (by rw[NO hk];rfl)
 | @var o y ho hy=>
  obtain⟨m,hm⟩:=hk.all y hy
  rw[kI _ _ (nC ho).1]
  have en:sG (qP kvs) (.str y)=m:=by simp[sG,qP,hm]
  rw[en]
  exact K1 ho (by rw[NP hm];rfl)
noncomputable def gK (ao:FM):GS:=
 (cu (lu [3,1,0] (wB (eF (aj 2))) (qB (eF (aU ao (aK (eF (aj 3)) (aK (eF (aj 2)) (aK (eF (aj 0)) (cB (aj 1) bG))))))) (eF (aj 0))))
noncomputable def iL (ks:List Nat):List D:=ks.map fun(k:Nat)=>D.int (k:Int)
theorem Dw {f : FM} {d r : D} {kvs : List (Key × D)} {P : Nat -> Bool} {S : SS} (ks : List Nat) (hf : ∀ k ∈ ks, f [.t d, .t r, .t (.int k), .b (.dct kvs)] = some (.t (.bl (P k)), [.dct kvs]))
    (h0:S[0]? =some (some (.t d))) (h1:S[1]? =some (some (.t r))) (h3:S[3]? =some (some (.b (.dct kvs)))) (hS:S.set 3 (some (.b (.dct kvs)))=S):
    d9 [3,1,0] (qB (eF (aU f (aK (eF (aj 3)) (aK (eF (aj 2)) (aK (eF (aj 0)) (cB (aj 1) bG))))))) (eF (aj 0)) (iL ks) S []=some (iL (ks.filter P),S):=by
  have:∀(ks':List Nat) (acc:List D),(∀k∈ks',k∈ks)->d9 [3,1,0] (qB (eF (aU f (aK (eF (aj 3)) (aK (eF (aj 2)) (aK (eF (aj 0)) (cB (aj 1) bG))))))) (eF (aj 0)) (iL ks') S acc=some (acc++iL (ks'.filter P),S):=by
    intro ks'
    induction ks' with
    | nil=>intro acc _;simp[d9,iL]
    | cons k ks' ih=>
      intro acc hm
      have e:=hf k (hm k List.mem_cons_self)
      have ih':=fun acc=>ih acc fun x hx=>hm x (List.mem_cons_of_mem _ hx)
      have ec:iL (k :: ks')= .int k :: iL ks':=rfl
      rw[ec]
      cases hp:P k with
      | true=>
        rw[hp] at e
        have:iL ((k :: ks').filter P)= .int k :: iL (ks'.filter P):=by rw[List.filter_cons_of_pos hp];rfl
        rw[this]
        simp[d9,eZ,qH,h0,h1,h3,aH,e,hS,ih']
      | false=>
        rw[hp] at e
        have:iL ((k :: ks').filter P)=iL (ks'.filter P):=by rw[List.filter_cons_of_neg (by rw[hp];decide)]
        rw[this]
        simp[d9,eZ,qH,h0,h1,h3,aH,e,hS,ih']
  simpa using this ks [] fun _ h=>h
theorem K2 {f:FM}{d r:D}{kvs:List (Key×D)}{P:Nat->Bool}(ks:List Nat) (hl:ks.length<=90000) (hf:∀k∈ks,f [.t d,.t r,.t (.int k),.b (.dct kvs)]=some (.t (.bl (P k)),[.dct kvs])):
  aL 4 (gK f) [.t d,.t r,.t (.lst (iL ks)),.b (.dct kvs)]=some (.m (.lst (iL (ks.filter P))),[.dct kvs]):=by
 have e:=Dw (S:=[some (.t d),some (.t r),some (.t (.lst (iL ks))),some (.b (.dct kvs))]) ks hf rfl rfl rfl rfl
 have h:(iL ks).length<=100000:=by unfold iL;rw[List.length_map];omega
 simp[aL,gK,nu,h,e,aH]
noncomputable def eG (aN:FM) (ao:FM) (aJ:FM):GS:=
 (gT (qB (eF (eP dY (aa (eF (eP tM (aa (bR 1 (eF (aj 9))) (aa (eC (.int 0)) aq)))) (aa (bR 0 (eC (.int 1))) aq))))) (aQ (cG 10 (tZ 3))
 (aQ (C4 10 (bR 0 (eC (.int 2))) (eF (eP tM (aa (bR 1 (eF (aj 9))) (aa (eC (.int 1)) aq)))))
 (wA (eT (eM 6 hAppend (aa (eF (aU ao (aK (bR 0 (eC (.int 3))) (aK (eF (aj 1)) (aK (eF (aj 9)) (cB (aj 10) bG)))))) aq)))))) cF)
noncomputable def bH (aN:FM) (ao:FM) (aJ:FM):GS:=
 (aQ (cG 4 (eT (bR 0 (eC (.int 0)))))
 (aQ (cG 5 (eP lD (aa (eF (aj 2)) (aa (jA 1) aq))))
 (aQ (gT (qB (eF (eP Hr (aa (eF (aj 4)) (aa (eF (eP iA (aa (eC (.str "yes")) (aa (eC (.str "no")) aq)))) aq))))) (cu (eP dY (aa (eF (aj 4)) (aa (eC (.str "yes")) aq)))) cF)
 (aQ (gT (qB (eF (eP dY (aa (eF (aj 4)) (aa (eC (.str "now")) aq))))) (cu (eT (eQ (mH (qB (eF (eP z5 (aa (eF (aj 2)) (aa (jA 1) aq))))) (qB (eF (aU aN (aK (bR 0 (eC (.int 1))) (aK (bR 1 (eF (aj 2))) (cB (aj 3) bG)))))))))) cF)
 (aQ (gT (qB (eF (eP dY (aa (eF (aj 4)) (aa (eC (.str "not")) aq))))) (cu (eT (eQ (wg (qB (eF (aU ao (aK (bR 0 (eC (.int 1))) (aK (eF (aj 1)) (aK (eF (aj 2)) (cB (aj 3) bG))))))))))) cF)
 (aQ (gT (wj (qB (eF (eP dY (aa (eF (aj 4)) (aa (eC (.str "both")) aq))))) (qB (eF (eP dY (aa (eF (aj 4)) (aa (eC (.str "either")) aq)))))) (aQ (cG 6 (lu [2,3,1] (wB (eF (uP (eF (aj 0)) (some (eC (.int 1))) none))) dj (eF (aU ao (aK (eF (aj 0)) (aK (eF (aj 3)) (aK (eF (aj 1)) (cB (aj 2) bG))))))))
 (cu (Qk (qB (eF (eP dY (aa (eF (aj 4)) (aa (eC (.str "both")) aq))))) (eT (eQ (mH (qB (bR 6 (eC (.int 0)))) (qB (bR 6 (eC (.int 1))))))) (eT (eQ (wj (qB (bR 6 (eC (.int 0)))) (qB (bR 6 (eC (.int 1)))))))))) cF)
 (aQ (gT (qB (eF (eP dY (aa (eF (aj 4)) (aa (eC (.str "next")) aq))))) (cu (eT (eQ (mH (qB (eF (eP z5 (aa (eF (aj 2)) (aa (jA 1) aq))))) (qB (eF (aU ao (aK (bR 0 (eC (.int 1))) (aK (eF (aj 1)) (aK (eF (eP dB (aa (eF (aj 2)) (aa (eC (.int 1)) aq)))) (cB (aj 3) bG))))))))))) cF)
 (aQ (gT (qB (eF (eP dY (aa (eF (aj 4)) (aa (eC (.str "till")) aq))))) (aQ (cG 7 (aU aJ (aK (bR 0 (eC (.int 2))) (aK (eF (aj 1)) (aK (eF (aj 5)) (cB (aj 3) bG))))))
 (aQ (gT (qB (eF (eP dY (aa (eF (aj 7)) (aa (eF (eP gB aq)) aq))))) (cu (eT (eC (.bl false)))) cF)
 (aQ (cG 8 (eP lD (aa (eF (aj 2)) (aa (bR 7 (eC (.int 0))) aq))))
 (cu (eP dY (aa (eF (aU aJ (aK (bR 0 (eC (.int 1))) (aK (eF (aj 1)) (aK (eF (aj 8)) (cB (aj 3) bG)))))) (aa (eF (aj 8)) aq))))))) cF)
 (aQ (gT (qB (eF (eP dY (aa (eF (aj 4)) (aa (eC (.str "within")) aq))))) (cu (eP A5 (aa (eF (aU aJ (aK (bR 0 (eC (.int 2))) (aK (eF (aj 1)) (aK (eF (uP (eF (aj 5)) none (some (bR 0 (eC (.int 1)))))) (cB (aj 3) bG)))))) (aa (eF (eP gB aq)) aq)))) cF)
 (aQ (gT (qB (eF (eP dY (aa (eF (aj 4)) (aa (eC (.str "always")) aq))))) (cu (eP dY (aa (eF (aU aJ (aK (bR 0 (eC (.int 1))) (aK (eF (aj 1)) (aK (eF (aj 5)) (cB (aj 3) bG)))))) (aa (eF (aj 5)) aq)))) cF)
 (aQ (gT (qB (eF (eP dY (aa (eF (aj 4)) (aa (eC (.str "some")) aq))))) (cu (eP A5 (aa (eF (aU aJ (aK (bR 0 (eC (.int 1))) (aK (eF (aj 1)) (aK (eF (aj 5)) (cB (aj 3) bG)))))) (aa (eF (eP gB aq)) aq)))) cF)
 (aQ (cG 6 (eP gB aq))
 (aQ (qd (bName 9) (wB (eF (aj 5))) (eG aN ao aJ))
 (cu (Qk (qB (eF (eP dY (aa (eF (aj 4)) (aa (eC (.str "each")) aq))))) (eT (Af true 6 (eC (.bl false)))) (eT (Af false 6 (eC (.bl true)))))))))))))))))))
noncomputable def XZ (aN:FM) (ao:FM) (aJ:FM):GS:=
 (cG 4 (eT (bR 0 (eC (.int 0)))))
noncomputable def X0 (aN:FM) (ao:FM) (aJ:FM):GS:=
 (cG 5 (eP lD (aa (eF (aj 2)) (aa (jA 1) aq))))
noncomputable def lh2 (aN:FM) (ao:FM) (aJ:FM):GS:=
 (gT (qB (eF (eP Hr (aa (eF (aj 4)) (aa (eF (eP iA (aa (eC (.str "yes")) (aa (eC (.str "no")) aq)))) aq))))) (cu (eP dY (aa (eF (aj 4)) (aa (eC (.str "yes")) aq)))) cF)
noncomputable def lh3 (aN:FM) (ao:FM) (aJ:FM):GS:=
 (gT (qB (eF (eP dY (aa (eF (aj 4)) (aa (eC (.str "now")) aq))))) (cu (eT (eQ (mH (qB (eF (eP z5 (aa (eF (aj 2)) (aa (jA 1) aq))))) (qB (eF (aU aN (aK (bR 0 (eC (.int 1))) (aK (bR 1 (eF (aj 2))) (cB (aj 3) bG)))))))))) cF)
noncomputable def lh4 (aN:FM) (ao:FM) (aJ:FM):GS:=
 (gT (qB (eF (eP dY (aa (eF (aj 4)) (aa (eC (.str "not")) aq))))) (cu (eT (eQ (wg (qB (eF (aU ao (aK (bR 0 (eC (.int 1))) (aK (eF (aj 1)) (aK (eF (aj 2)) (cB (aj 3) bG))))))))))) cF)
noncomputable def VP (aN:FM) (ao:FM) (aJ:FM):GS:=
 (gT (wj (qB (eF (eP dY (aa (eF (aj 4)) (aa (eC (.str "both")) aq))))) (qB (eF (eP dY (aa (eF (aj 4)) (aa (eC (.str "either")) aq)))))) (aQ (cG 6 (lu [2,3,1] (wB (eF (uP (eF (aj 0)) (some (eC (.int 1))) none))) dj (eF (aU ao (aK (eF (aj 0)) (aK (eF (aj 3)) (aK (eF (aj 1)) (cB (aj 2) bG))))))))
 (cu (Qk (qB (eF (eP dY (aa (eF (aj 4)) (aa (eC (.str "both")) aq))))) (eT (eQ (mH (qB (bR 6 (eC (.int 0)))) (qB (bR 6 (eC (.int 1))))))) (eT (eQ (wj (qB (bR 6 (eC (.int 0)))) (qB (bR 6 (eC (.int 1)))))))))) cF)
noncomputable def lh6 (aN:FM) (ao:FM) (aJ:FM):GS:=
 (gT (qB (eF (eP dY (aa (eF (aj 4)) (aa (eC (.str "next")) aq))))) (cu (eT (eQ (mH (qB (eF (eP z5 (aa (eF (aj 2)) (aa (jA 1) aq))))) (qB (eF (aU ao (aK (bR 0 (eC (.int 1))) (aK (eF (aj 1)) (aK (eF (eP dB (aa (eF (aj 2)) (aa (eC (.int 1)) aq)))) (cB (aj 3) bG))))))))))) cF)
noncomputable def X3 (aN:FM) (ao:FM) (aJ:FM):GS:=
 (gT (qB (eF (eP dY (aa (eF (aj 4)) (aa (eC (.str "till")) aq))))) (aQ (cG 7 (aU aJ (aK (bR 0 (eC (.int 2))) (aK (eF (aj 1)) (aK (eF (aj 5)) (cB (aj 3) bG))))))
 (aQ (gT (qB (eF (eP dY (aa (eF (aj 7)) (aa (eF (eP gB aq)) aq))))) (cu (eT (eC (.bl false)))) cF)
 (aQ (cG 8 (eP lD (aa (eF (aj 2)) (aa (bR 7 (eC (.int 0))) aq))))
 (cu (eP dY (aa (eF (aU aJ (aK (bR 0 (eC (.int 1))) (aK (eF (aj 1)) (aK (eF (aj 8)) (cB (aj 3) bG)))))) (aa (eF (aj 8)) aq))))))) cF)
noncomputable def lh8 (aN:FM) (ao:FM) (aJ:FM):GS:=
 (gT (qB (eF (eP dY (aa (eF (aj 4)) (aa (eC (.str "within")) aq))))) (cu (eP A5 (aa (eF (aU aJ (aK (bR 0 (eC (.int 2))) (aK (eF (aj 1)) (aK (eF (uP (eF (aj 5)) none (some (bR 0 (eC (.int 1)))))) (cB (aj 3) bG)))))) (aa (eF (eP gB aq)) aq)))) cF)
noncomputable def lh9 (aN:FM) (ao:FM) (aJ:FM):GS:=
 (gT (qB (eF (eP dY (aa (eF (aj 4)) (aa (eC (.str "always")) aq))))) (cu (eP dY (aa (eF (aU aJ (aK (bR 0 (eC (.int 1))) (aK (eF (aj 1)) (aK (eF (aj 5)) (cB (aj 3) bG)))))) (aa (eF (aj 5)) aq)))) cF)
noncomputable def RH (aN:FM) (ao:FM) (aJ:FM):GS:=
 (gT (qB (eF (eP dY (aa (eF (aj 4)) (aa (eC (.str "some")) aq))))) (cu (eP A5 (aa (eF (aU aJ (aK (bR 0 (eC (.int 1))) (aK (eF (aj 1)) (aK (eF (aj 5)) (cB (aj 3) bG)))))) (aa (eF (eP gB aq)) aq)))) cF)
noncomputable def NQ (aN:FM) (ao:FM) (aJ:FM):GS:=
 (cG 6 (eP gB aq))
noncomputable def NR (aN:FM) (ao:FM) (aJ:FM):GS:=
 (qd (bName 9) (wB (eF (aj 5))) (eG aN ao aJ))
noncomputable def NS (aN:FM) (ao:FM) (aJ:FM):GS:=
 (cu (Qk (qB (eF (eP dY (aa (eF (aj 4)) (aa (eC (.str "each")) aq))))) (eT (Af true 6 (eC (.bl false)))) (eT (Af false 6 (eC (.bl true))))))
theorem VQ (aN:FM) (ao:FM) (aJ:FM):bH aN ao aJ=aQ (XZ aN ao aJ) (aQ (X0 aN ao aJ) (aQ (lh2 aN ao aJ) (aQ (lh3 aN ao aJ) (aQ (lh4 aN ao aJ) (aQ (VP aN ao aJ) (aQ (lh6 aN ao aJ) (aQ (X3 aN ao aJ) (aQ (lh8 aN ao aJ) (aQ (lh9 aN ao aJ) (aQ (RH aN ao aJ) (aQ (NQ aN ao aJ) (aQ (NR aN ao aJ) (NS aN ao aJ))))))))))))):=rfl
noncomputable def ie (i n:Nat):List Nat:=(List.range (n - i)).map fun k=>i+k
theorem AJ (i n:Nat):(ie i n).length=n - i:=by unfold ie;rw[List.length_map,List.length_range]
theorem AK {i n k:Nat}(h:k∈ie i n):i<=k/\k < n:=by
 unfold ie at h
 obtain⟨j,hj,rfl⟩:=List.mem_map.mp h
 have:=List.mem_range.mp hj
 omega
theorem VR {a b:Int}(h1:a < 1000000) (h2:-1000000 < a) (h3:b < 1000000) (h4:-1000000 < b):lD [.int a,.int b]=some (.m (.lst (nN a (b - a).toNat))):=by
 show(if a < 1000000/\-1000000 < a/\b < 1000000/\-1000000 < b then some (U.m (MO.lst (nN a (b - a).toNat))) else none)=_
 rw[if_pos ⟨h1,h2,h3,h4⟩]
theorem RI (i n:Nat):nN (i:Int) (n - i)=iL (ie i n):=by
 unfold nN iL ie
 rw[List.map_map]
 apply List.map_congr_left
 intro k _
 show D.int ((i:Int)+(k:Int))=D.int (((i+k:Nat)):Int)
 rw[Int.natCast_add]
theorem VS {i n:Nat}(hi:i < 900000) (hn:n < 900000):lD [.int i,.int n]=some (.m (.lst (iL (ie i n)))):=by
 rw[VR (by omega) (by omega) (by omega) (by omega)]
 have e:((n:Int) - (i:Int)).toNat=n - i:=by omega
 rw[e,RI]
theorem K3 (ks:List Nat):cP (iL ks)=0:=by
 induction ks with
 | nil=>rfl
 | cons k ks ih=>show max 0 (cP (iL ks))=0;rw[ih];rfl
theorem xu (ks:List Nat):gC (.lst (iL ks))<=40:=by show cP (iL ks)+1<=40;rw[K3];omega
theorem K4:∀(a b:List Nat),nj (iL a) (iL b)=decide (a=b)
  | [],[]=>rfl
  | [],_ :: _=>rfl
  | _ :: _,[]=>rfl
  | x :: xs, y :: ys => by
    show(lU (.int x) (.int y) && nj (iL xs) (iL ys))=_
    rw[K4 xs ys]
    by_cases c:x=y
    . subst c;simp[lU]
    . have:¬(x:Int)=(y:Int):=by omega
      simp[lU,c,this]
theorem filter_all {P:Nat->Bool}:∀(ks:List Nat),decide (ks.filter P=ks)=ks.all P
  | []=>rfl
  | k :: ks => by
    cases h:P k with
    | true=>rw[List.filter_cons_of_pos h,List.all_cons,h,Bool.true_and,<-filter_all ks];simp
    | false=>
      rw[List.filter_cons_of_neg (by rw[h];decide),List.all_cons,h,Bool.false_and]
      refine decide_eq_false fun q=>?_
      have:=List.length_filter_le P ks
      rw[q] at this
      simp at this
      omega
theorem filter_nil {P:Nat->Bool}:∀(ks:List Nat),(!decide (ks.filter P=[]))=ks.any P
 | []=>rfl
 | k :: ks=>by
  cases h:P k with
  | true=>rw[List.filter_cons_of_pos h,List.any_cons,h,Bool.true_or];simp
  | false=>rw[List.filter_cons_of_neg (by rw[h];decide),List.any_cons,h,Bool.false_or,filter_nil ks]
theorem K5 (i n:Nat) (P:Nat->Bool):(ie i n).all P=iX (n - i) fun k=>P (i+k):=by unfold ie iX;rw[List.all_map];rfl
theorem RJ (i n:Nat) (P:Nat->Bool):(ie i n).any P=iO (n - i) fun k=>P (i+k):=by unfold ie iO;rw[List.any_map];rfl
theorem NT (i n m:Nat) (P:Nat->Bool):((ie i n).take m).any P=iO (min (n - i) m) fun k=>P (i+k):=by
 unfold ie iO
 rw[<-List.map_take,List.take_range,List.any_map,Nat.min_comm]
 rfl
theorem bx {a b:GS}{S S1:SS}(h:a S=some (.nx S1)):aQ a b S=b S1:=by unfold aQ;rw[h];rfl
theorem ki {a b:GS}{S S1:SS}{u:U}(h:a S=some (.rt u S1)):aQ a b S=some (.rt u S1):=by unfold aQ;rw[h];rfl
theorem RK {n:Nat}{g:GS}{us:List U}{d:D}{S':SS}{os:List MO}(h:g (us.map some++List.replicate (n - us.length) none)=some (.rt (.t d) S')) (ho:aH us S'=some os):aL n g us=some (.t d,os):=by
 unfold aL;rw[h];simp[ho]
theorem sP {q:GT}{A:GS}{S:SS}(h:q S=some (false,S)):gT q A cF S=some (.nx S):=by simp[h]
theorem lJ {q:GT}{A B:GS}{S:SS}(h:q S=some (true,S)):gT q A B S=A S:=by simp[h]
theorem hq {S:SS}{z:Str}(h:S[4]? =some (some (.t (.str z)))) (lit:Str):qB (eF (eP dY (aa (eF (aj 4)) (aa (eC (.str lit)) aq)))) S=some (decide (z=lit),S):=by
 by_cases c:z=lit
 ·subst c;simp[h]
 ·simp[h,c]
theorem AL {S:SS}{z lit:Str}(h:S[4]? =some (some (.t (.str z)))) (hn:z≠lit):qB (eF (eP dY (aa (eF (aj 4)) (aa (eC (.str lit)) aq)))) S=some (false,S):=by rw[hq h,decide_eq_false hn]
theorem qx {S:SS}{z:Str}(h:S[4]? =some (some (.t (.str z)))):qB (eF (eP dY (aa (eF (aj 4)) (aa (eC (.str z)) aq)))) S=some (true,S):=by rw[hq h,decide_eq_true rfl]
section
variable {fp fh fw:FM}{p q:D}{kvs:List (Key×D)}{i n:Nat}{rs ds L:List D}{z:Str}
noncomputable abbrev S1 (z:Str) (ds rs:List D) (i:Nat) (kvs:List (Key×D)) (L:List D):SS:=[some (.t (.tup (.str z :: ds))),some (.t (.tup rs)),some (.t (.int i)),some (.b (.dct kvs)),some (.t (.str z)),some (.m (.lst L)),none,none,none,none,none]
theorem VT:XZ fp fh fw [some (.t (.tup (.str z :: ds))),some (.t (.tup rs)),some (.t (.int i)),some (.b (.dct kvs)),none,none,none,none,none,none,none]=some (.nx [some (.t (.tup (.str z :: ds))),some (.t (.tup rs)),some (.t (.int i)),some (.b (.dct kvs)),some (.t (.str z)),none,none,none,none,none,none]):=by
 simp[XZ,cQ]
theorem VU {a b:Int}(hl:(rs.length:Int)=b) (eR:lD [.int a,.int b]=some (.m (.lst L))):X0 fp fh fw [some (.t (.tup (.str z :: ds))),some (.t (.tup rs)),some (.t (.int a)),some (.b (.dct kvs)),some (.t (.str z)),none,none,none,none,none,none]=some (.nx [some (.t (.tup (.str z :: ds))),some (.t (.tup rs)),some (.t (.int a)),some (.b (.dct kvs)),some (.t (.str z)),some (.m (.lst L)),none,none,none,none,none]):=by
 simp[X0,hl,eR]
theorem NU {S':SS}(h3:S'[3]? =some (some (.b (.dct kvs)))) (a b c:D):aH [U.t a,.t b,.t c,.b (.dct kvs)] S'=some [.dct kvs]:=by
 match S',h3 with
 | x :: y :: w :: d :: t,h3=>
  have h3:some d=some (some (.b (.dct kvs))):=h3
  cases h3
  rfl
noncomputable abbrev lhR (fp fh fw:FM):GS:=aQ (lh2 fp fh fw) (aQ (lh3 fp fh fw) (aQ (lh4 fp fh fw) (aQ (VP fp fh fw) (aQ (lh6 fp fh fw) (aQ (X3 fp fh fw) (aQ (lh8 fp fh fw) (aQ (lh9 fp fh fw) (aQ (RH fp fh fw) (aQ (NQ fp fh fw) (aQ (NR fp fh fw) (NS fp fh fw)))))))))))
theorem VW (hl:rs.length=n) (eR:lD [.int i,.int n]=some (.m (.lst L))){b:Bool}{S':SS}(h3:S'[3]? =some (some (.b (.dct kvs)))) (h:lhR fp fh fw (S1 z ds rs i kvs L)=some (.rt (.t (.bl b)) S')):
  aL 11 (bH fp fh fw) [.t (.tup (.str z :: ds)),.t (.tup rs),.t (.int i),.b (.dct kvs)]=some (.t (.bl b),[.dct kvs]):=by
 refine RK (S':=S') ?_ (NU h3 _ _ _)
 rw[VQ]
 show aQ (XZ fp fh fw) (aQ (X0 fp fh fw) (lhR fp fh fw)) [some (.t (.tup (.str z :: ds))),some (.t (.tup rs)),some (.t (.int i)),some (.b (.dct kvs)),none,none,none,none,none,none,none]=_
 rw[bx VT,bx (VU (by rw[hl]) eR)]
 exact h
theorem gr (hi:i < 900000) (hl:rs.length=n) (hn:n < 900000){b:Bool}{S':SS}(h3:S'[3]? =some (some (.b (.dct kvs)))) (h:lhR fp fh fw (S1 z ds rs i kvs (iL (ie i n)))=some (.rt (.t (.bl b)) S')):
  aL 11 (bH fp fh fw) [.t (.tup (.str z :: ds)),.t (.tup rs),.t (.int i),.b (.dct kvs)]=some (.t (.bl b),[.dct kvs]):=VW hl (VS hi hn) h3 h
theorem VX (z : Str) (S : SS) (h : S[4]? = some (some (.t (.str z)))) : qB (eF (eP Hr (aa (eF (aj 4)) (aa (eF (eP iA (aa (eC (.str "yes")) (aa (eC (.str "no")) aq)))) aq)))) S = some (decide (z = "yes" \/ z = "no"), S) := by
  have e:Hr [.str z,.tup [.str "yes",.str "no"]]=some (.t (.bl (decide (z="yes"\/z="no")))):=by
    show(if cP [D.str "yes",.str "no"]<=40 then some (U.t (.bl (inD (.str z) [.str "yes",.str "no"]))) else none)=_
    rw[if_pos (by decide)]
    congr 3
    by_cases a:z="yes"
    . subst a;rfl
    . by_cases b:z="no"
      . subst b;rfl
      . have a':¬"yes" =z:=fun q=>a q.symm
        have b':¬"no" =z:=fun q=>b q.symm
        simp[inD,lU,a,b,a',b']
  simp[h,e]
theorem k2 (h:z≠"yes") (h':z≠"no"):lh2 fp fh fw (S1 z ds rs i kvs L)=some (.nx (S1 z ds rs i kvs L)):=sP (by rw[VX z _ rfl,decide_eq_false (by rintro(q | q);exact h q;exact h' q)])
theorem k3 (h:z≠"now"):lh3 fp fh fw (S1 z ds rs i kvs L)=some (.nx (S1 z ds rs i kvs L)):=sP (AL rfl h)
theorem k4 (h:z≠"not"):lh4 fp fh fw (S1 z ds rs i kvs L)=some (.nx (S1 z ds rs i kvs L)):=sP (AL rfl h)
theorem k5 (h:z≠"both") (h':z≠"either"):VP fp fh fw (S1 z ds rs i kvs L)=some (.nx (S1 z ds rs i kvs L)):=sP (by
 have a:=AL (S:=S1 z ds rs i kvs L) rfl h
 have b:=AL (S:=S1 z ds rs i kvs L) rfl h'
 show(wj _ _) _=_
 unfold wj
 rw[a]
 exact b)
theorem k6 (h:z≠"next"):lh6 fp fh fw (S1 z ds rs i kvs L)=some (.nx (S1 z ds rs i kvs L)):=sP (AL rfl h)
theorem k7 (h:z≠"till"):X3 fp fh fw (S1 z ds rs i kvs L)=some (.nx (S1 z ds rs i kvs L)):=sP (AL rfl h)
theorem k8 (h:z≠"within"):lh8 fp fh fw (S1 z ds rs i kvs L)=some (.nx (S1 z ds rs i kvs L)):=sP (AL rfl h)
theorem k9 (h:z≠"always"):lh9 fp fh fw (S1 z ds rs i kvs L)=some (.nx (S1 z ds rs i kvs L)):=sP (AL rfl h)
theorem RL (h:z≠"some"):RH fp fh fw (S1 z ds rs i kvs L)=some (.nx (S1 z ds rs i kvs L)):=sP (AL rfl h)
end
section
variable {fp fh fw:FM}{p q:D}{kvs:List (Key×D)}{i n:Nat}{rs ds L:List D}{z:Str}
theorem NV (hz:z="yes"\/z="no") (hi:i < 900000) (hl:rs.length=n) (hn:n < 900000):
  aL 11 (bH fp fh fw) [.t (.tup [.str z]),.t (.tup rs),.t (.int i),.b (.dct kvs)]=some (.t (.bl (decide (z="yes"))),[.dct kvs]):=by
 refine gr hi hl hn (S':=S1 z [] rs i kvs (iL (ie i n))) rfl ?_
 refine ki ?_
 refine(lJ (by rw[VX z _ rfl,decide_eq_true hz])).trans ?_
 generalize iL (ie i n)=L
 rcases hz with rfl | rfl <;> simp
theorem NW {t h:D}{b:Bool}(hin:i < n) (hl:rs.length=n) (hn:n < 900000) (hh:gj rs (i:Int)=some h) (e:fp [.t t,.t h,.b (.dct kvs)]=some (.t (.bl b),[.dct kvs])):
  aL 11 (bH fp fh fw) [.t (.tup [.str "now",t]),.t (.tup rs),.t (.int i),.b (.dct kvs)]=some (.t (.bl b),[.dct kvs]):=by
 refine gr (by omega) hl hn (S':=S1 "now" [t] rs i kvs (iL (ie i n))) rfl ?_
 refine(bx (k2 (by decide) (by decide))).trans (ki ?_)
 refine(lJ (qx rfl)).trans ?_
 generalize iL (ie i n)=L
 simp[cC,hl,hin,hh,e]
theorem NX {t:D}(hin:¬i < n) (hi:i < 900000) (hl:rs.length=n) (hn:n < 900000):
  aL 11 (bH fp fh fw) [.t (.tup [.str "now",t]),.t (.tup rs),.t (.int i),.b (.dct kvs)]=some (.t (.bl false),[.dct kvs]):=by
 refine gr hi hl hn (S':=S1 "now" [t] rs i kvs (iL (ie i n))) rfl ?_
 refine(bx (k2 (by decide) (by decide))).trans (ki ?_)
 refine(lJ (qx rfl)).trans ?_
 generalize iL (ie i n)=L
 simp[cC,hl,hin]
theorem RM {b:Bool}(hi:i < 900000) (hl:rs.length=n) (hn:n < 900000) (e:fh [.t p,.t (.tup rs),.t (.int i),.b (.dct kvs)]=some (.t (.bl b),[.dct kvs])):
  aL 11 (bH fp fh fw) [.t (.tup [.str "not",p]),.t (.tup rs),.t (.int i),.b (.dct kvs)]=some (.t (.bl (!b)),[.dct kvs]):=by
 refine gr hi hl hn (S':=S1 "not" [p] rs i kvs (iL (ie i n))) rfl ?_
 refine(bx (k2 (by decide) (by decide))).trans ((bx (k3 (by decide))).trans (ki ?_))
 refine(lJ (qx rfl)).trans ?_
 generalize iL (ie i n)=L
 simp[cC,e]
theorem K6 {a b:Bool}{S:SS}(e1:fh [.t p,.t (.tup rs),.t (.int i),.b (.dct kvs)]=some (.t (.bl a),[.dct kvs])) (e2:fh [.t q,.t (.tup rs),.t (.int i),.b (.dct kvs)]=some (.t (.bl b),[.dct kvs]))
  (h1:S[1]? =some (some (.t (.tup rs)))) (h2:S[2]? =some (some (.t (.int i)))) (h3:S[3]? =some (some (.b (.dct kvs)))) (hS:S.set 3 (some (.b (.dct kvs)))=S):
  d9 [2,3,1] dj (eF (aU fh (aK (eF (aj 0)) (aK (eF (aj 3)) (aK (eF (aj 1)) (cB (aj 2) bG)))))) [p,q] S []=some ([.bl a,.bl b],S):=by
 simp[d9,eZ,qH,h1,h2,h3,aH,e1,e2,hS]
theorem K7 {a b:Bool}{f:Bool->Bool->Bool}(hz:(z="both"/\f=fun a b=>a && b)\/(z="either"/\f=fun a b=>a || b)) (hi:i < 900000) (hl:rs.length=n) (hn:n < 900000) (e1:fh [.t p,.t (.tup rs),.t (.int i),.b (.dct kvs)]=some (.t (.bl a),[.dct kvs])) (e2:fh [.t q,.t (.tup rs),.t (.int i),.b (.dct kvs)]=some (.t (.bl b),[.dct kvs])):
  aL 11 (bH fp fh fw) [.t (.tup [.str z,p,q]),.t (.tup rs),.t (.int i),.b (.dct kvs)]=some (.t (.bl (f a b)),[.dct kvs]):=by
 have n2:z≠"yes"/\z≠"no"/\z≠"now"/\z≠"not":=by rcases hz with⟨rfl,_⟩ | ⟨rfl,_⟩ <;> decide
 refine gr hi hl hn (S':=(S1 z [p,q] rs i kvs (iL (ie i n))).set 6 (some (.m (.lst [.bl a,.bl b])))) rfl ?_
 refine(bx (k2 n2.1 n2.2.1)).trans ((bx (k3 n2.2.2.1)).trans ((bx (k4 n2.2.2.2)).trans (ki ?_)))
 have c:L2.cutD [.str z,p,q] (some 1) none=[p,q]:=wY _ 1
 generalize iL (ie i n)=L
 have ec:=K6 (S:=S1 z [p,q] rs i kvs L) e1 e2 rfl rfl rfl rfl
 rcases hz with⟨rfl,rfl⟩ | ⟨rfl,rfl⟩
 ·cases a <;> simp[VP,c,gX,nu,ec,cQ,cC]
 ·cases a <;> simp[VP,c,gX,nu,ec,cQ,cC]
theorem K8 {b:Bool}(hin:i < n) (hl:rs.length=n) (hn:n < 900000) (e:fh [.t p,.t (.tup rs),.t (.int ((i:Int)+1)),.b (.dct kvs)]=some (.t (.bl b),[.dct kvs])):
  aL 11 (bH fp fh fw) [.t (.tup [.str "next",p]),.t (.tup rs),.t (.int i),.b (.dct kvs)]=some (.t (.bl b),[.dct kvs]):=by
 refine gr (by omega) hl hn (S':=S1 "next" [p] rs i kvs (iL (ie i n))) rfl ?_
 refine(bx (k2 (by decide) (by decide))).trans ((bx (k3 (by decide))).trans ((bx (k4 (by decide))).trans ((bx (k5 (by decide) (by decide))).trans (ki ?_))))
 refine(lJ (qx rfl)).trans ?_
 generalize iL (ie i n)=L
 simp[cC,hl,hin,e]
theorem K9 (hin:¬i < n) (hi:i < 900000) (hl:rs.length=n) (hn:n < 900000):
  aL 11 (bH fp fh fw) [.t (.tup [.str "next",p]),.t (.tup rs),.t (.int i),.b (.dct kvs)]=some (.t (.bl false),[.dct kvs]):=by
 refine gr hi hl hn (S':=S1 "next" [p] rs i kvs (iL (ie i n))) rfl ?_
 refine(bx (k2 (by decide) (by decide))).trans ((bx (k3 (by decide))).trans ((bx (k4 (by decide))).trans ((bx (k5 (by decide) (by decide))).trans (ki ?_))))
 refine(lJ (qx rfl)).trans ?_
 generalize iL (ie i n)=L
 simp[cC,hl,hin]
theorem nil_eq (ks:List Nat):lU (.lst (iL ks)) (.lst [])=decide (ks=[]):=by show nj _ (iL [])=_;exact K4 _ _
theorem EW (a b:List Nat):lU (.lst (iL a)) (.lst (iL b))=decide (a=b):=by show nj _ _=_;exact K4 _ _
theorem RN {a b:D}(h:gC a<=40):dY [a,b]=some (.t (.bl (lU a b))):=by show(if _ then _ else _)=_;rw[if_pos h]
theorem RO {a b:D}(h:gC a<=40):A5 [a,b]=some (.t (.bl (!lU a b))):=by show(if _ then _ else _)=_;rw[if_pos h]
theorem La (hi:i < 900000) (hl:rs.length=n) (hn:n < 900000) (e:fw [.t q,.t (.tup rs),.t (.lst (iL (ie i n))),.b (.dct kvs)]=some (.m (.lst []),[.dct kvs])):
  aL 11 (bH fp fh fw) [.t (.tup [.str "till",p,q]),.t (.tup rs),.t (.int i),.b (.dct kvs)]=some (.t (.bl false),[.dct kvs]):=by
 refine gr hi hl hn (S':=((S1 "till" [p,q] rs i kvs (iL (ie i n))).set 5 (some (.t (.lst (iL (ie i n)))))).set 7 (some (.t (.lst [])))) rfl ?_
 refine(bx (k2 (by decide) (by decide))).trans ((bx (k3 (by decide))).trans ((bx (k4 (by decide))).trans ((bx (k5 (by decide) (by decide))).trans ((bx (k6 (by decide))).trans (ki ?_)))))
 refine(lJ (qx rfl)).trans ?_
 generalize iL (ie i n)=L at *
 have h1:dY [.lst [],.lst []]=some (.t (.bl true)):=rfl
 simp[-JL,jc,e,h1]
noncomputable abbrev S1i (z:Str) (ds rs:List D) (ii:Int) (kvs:List (Key×D)) (L:List D):SS:=[some (.t (.tup (.str z :: ds))),some (.t (.tup rs)),some (.t (.int ii)),some (.b (.dct kvs)),some (.t (.str z)),some (.m (.lst L)),none,none,none,none,none]
theorem GR {M L1 M2 M3:List D}{ii kk:Int}{bb:Bool}(e:fw [.t q,.t (.tup rs),.t (.lst M),.b (.dct kvs)]=some (.m (.lst M2),[.dct kvs])) (h1:dY [.lst M2,.lst []]=some (.t (.bl false))) (h3:gj M2 0=some (.int kk)) (eR:lD [.int ii,.int kk]=some (.m (.lst L1)))
  (e2:fw [.t p,.t (.tup rs),.t (.lst L1),.b (.dct kvs)]=some (.m (.lst M3),[.dct kvs])) (h2:dY [.lst M3,.lst L1]=some (.t (.bl bb))):
  X3 fp fh fw (S1i "till" [p,q] rs ii kvs M)=some (.rt (.t (.bl bb)) ((((S1i "till" [p,q] rs ii kvs M).set 5 (some (.t (.lst M)))).set 7 (some (.t (.lst M2)))).set 8 (some (.t (.lst L1))))):=by
 refine(lJ (qx rfl)).trans ?_
 simp[-JL,jc,cC,NF,e,h1,h3,eR,e2,h2]
theorem Lb {k0:Nat}{sp:List Nat}{ks:List Nat}(hi:i < 900000) (hl:rs.length=n) (hn:n < 900000) (hk:k0 < 900000) (e:fw [.t q,.t (.tup rs),.t (.lst (iL (ie i n))),.b (.dct kvs)]=some (.m (.lst (iL (k0 :: sp))),[.dct kvs]))
  (e2:fw [.t p,.t (.tup rs),.t (.lst (iL (ie i k0))),.b (.dct kvs)]=some (.m (.lst (iL ks)),[.dct kvs])):
  aL 11 (bH fp fh fw) [.t (.tup [.str "till",p,q]),.t (.tup rs),.t (.int i),.b (.dct kvs)]=some (.t (.bl (decide (ks=ie i k0))),[.dct kvs]):=by
 refine gr hi hl hn (S':=(((S1 "till" [p,q] rs i kvs (iL (ie i n))).set 5 (some (.t (.lst (iL (ie i n)))))).set 7 (some (.t (.lst (iL (k0 :: sp)))))).set 8 (some (.t (.lst (iL (ie i k0)))))) rfl ?_
 refine(bx (k2 (by decide) (by decide))).trans ((bx (k3 (by decide))).trans ((bx (k4 (by decide))).trans ((bx (k5 (by decide) (by decide))).trans ((bx (k6 (by decide))).trans (ki ?_)))))
 have h1:dY [.lst (iL (k0 :: sp)),.lst []]=some (.t (.bl false)):=by rw[RN (xu _),nil_eq];rfl
 have h2:dY [.lst (iL ks),.lst (iL (ie i k0))]=some (.t (.bl (decide (ks=ie i k0)))):=by rw[RN (xu _),EW]
 have h3:gj (iL (k0 :: sp)) 0=some (.int k0):=by show gj (D.int (k0:Int) :: iL sp) 0=_;simp[cQ]
 exact GR (ii:=(i:Int)) e h1 h3 (VS hi hk) e2 h2
theorem GV {ks m:List Nat}{w:Nat}(hi:i < 900000) (hl:rs.length=n) (hn:n < 900000) (hm:(ie i n).take w=m) (e:fw [.t p,.t (.tup rs),.t (.lst (iL m)),.b (.dct kvs)]=some (.m (.lst (iL ks)),[.dct kvs])):
  aL 11 (bH fp fh fw) [.t (.tup [.str "within",.int w,p]),.t (.tup rs),.t (.int i),.b (.dct kvs)]=some (.t (.bl (!decide (ks=[]))),[.dct kvs]):=by
 refine gr hi hl hn (S':=(S1 "within" [.int w,p] rs i kvs (iL (ie i n))).set 5 (some (.t (.lst (iL (ie i n)))))) rfl ?_
 refine(bx (k2 (by decide) (by decide))).trans ((bx (k3 (by decide))).trans ((bx (k4 (by decide))).trans ((bx (k5 (by decide) (by decide))).trans ((bx (k6 (by decide))).trans ((bx (k7 (by decide))).trans (ki ?_))))))
 refine(lJ (qx rfl)).trans ?_
 have c:L2.cutD (iL (ie i n)) none (some (w:Int))=iL m:=by
  unfold L2.cutD
  rw[HT.vX,HT.zR,List.drop_zero,Nat.sub_zero,<-hm]
  unfold iL
  rw[List.map_take,List.length_map]
  apply List.ext_getElem?
  intro j
  rw[List.getElem?_take,List.getElem?_take]
  by_cases c:j < w
  ·by_cases c2:j < (ie i n).length
   ·rw[if_pos (by omega),if_pos c]
   ·rw[if_neg (by omega),if_pos c,List.getElem?_eq_none (by rw[List.length_map];omega)]
  ·rw[if_neg (by omega),if_neg c]
 have h2:A5 [.lst (iL ks),.lst []]=some (.t (.bl (!decide (ks=[])))):=by rw[RO (xu _),nil_eq]
 generalize decide (ks=[])=bb at *
 generalize iL (ie i n)=L at *
 generalize iL m=L1 at *
 generalize iL ks=L3 at *
 simp[-EF,jc,cC,NF,gX,c,e,h2]
theorem GW {ks:List Nat}(hi:i < 900000) (hl:rs.length=n) (hn:n < 900000) (e:fw [.t p,.t (.tup rs),.t (.lst (iL (ie i n))),.b (.dct kvs)]=some (.m (.lst (iL ks)),[.dct kvs])):
  aL 11 (bH fp fh fw) [.t (.tup [.str "always",p]),.t (.tup rs),.t (.int i),.b (.dct kvs)]=some (.t (.bl (decide (ks=ie i n))),[.dct kvs]):=by
 refine gr hi hl hn (S':=(S1 "always" [p] rs i kvs (iL (ie i n))).set 5 (some (.t (.lst (iL (ie i n)))))) rfl ?_
 refine(bx (k2 (by decide) (by decide))).trans ((bx (k3 (by decide))).trans ((bx (k4 (by decide))).trans ((bx (k5 (by decide) (by decide))).trans ((bx (k6 (by decide))).trans ((bx (k7 (by decide))).trans ((bx (k8 (by decide))).trans (ki ?_)))))))
 refine(lJ (qx rfl)).trans ?_
 have h2:dY [.lst (iL ks),.lst (iL (ie i n))]=some (.t (.bl (decide (ks=ie i n)))):=by rw[RN (xu _),EW]
 generalize decide (ks=ie i n)=bb at *
 generalize iL (ie i n)=L at *
 generalize iL ks=L3 at *
 simp[-JL,cC,e,h2]
theorem NY {ks:List Nat}(hi:i < 900000) (hl:rs.length=n) (hn:n < 900000) (e:fw [.t p,.t (.tup rs),.t (.lst (iL (ie i n))),.b (.dct kvs)]=some (.m (.lst (iL ks)),[.dct kvs])):
  aL 11 (bH fp fh fw) [.t (.tup [.str "some",p]),.t (.tup rs),.t (.int i),.b (.dct kvs)]=some (.t (.bl (!decide (ks=[]))),[.dct kvs]):=by
 refine gr hi hl hn (S':=(S1 "some" [p] rs i kvs (iL (ie i n))).set 5 (some (.t (.lst (iL (ie i n)))))) rfl ?_
 refine(bx (k2 (by decide) (by decide))).trans ((bx (k3 (by decide))).trans ((bx (k4 (by decide))).trans ((bx (k5 (by decide) (by decide))).trans ((bx (k6 (by decide))).trans ((bx (k7 (by decide))).trans ((bx (k8 (by decide))).trans ((bx (k9 (by decide))).trans (ki ?_))))))))
 refine(lJ (qx rfl)).trans ?_
 have h2:A5 [.lst (iL ks),.lst []]=some (.t (.bl (!decide (ks=[])))):=by rw[RO (xu _),nil_eq]
 generalize decide (ks=[])=bb at *
 generalize iL (ie i n)=L at *
 generalize iL ks=L3 at *
 simp[-EF,cC,e,h2]
end
@[simp] theorem Qw (nb:Bool) (i:Nat) (g:GD) (S:SS):Af nb i g S=(g S).bind fun p=>match p.2[i]? with
 | some (some u)=>(rS u).bind fun ds=>if cP ds<=40 then some (.bl (nb != inD p.1 ds),p.2) else none
 | _=>none:=rfl
@[simp] theorem RP {kvs:List (Key×D)}(i:Nat) (S:SS) (h:S[i]? =some (some (.b (.dct kvs)))):tZ i S=some (.m (.dct kvs),S):=by unfold tZ;rw[h]
theorem Lc (l:List Bool):cP (bl l)<=40:=by
 have:cP (bl l)=0:=by
  induction l with
  | nil=>rfl
  | cons b l ih=>show max 0 (cP (bl l))=0;rw[ih];rfl
 omega
theorem Ld (b:Bool) (l:List Bool):inD (.bl b) (bl l)=l.any fun x=>x == b:=by
 unfold inD bl
 rw[List.any_map]
 congr 1
section
variable {fp fh fw:FM}{p:D}{kvs:List (Key×D)}{R:Row}{z a y:Str}
noncomputable abbrev S2 (z a y:Str) (p:D) (R:Row) (i:Nat) (kvs:List (Key×D)) (L:List D) (fl:List Bool) (x9 gG:Option U):SS:=[some (.t (.tup [.str z,.str a,.str y,p])),some (.t (.tup (R.map gU))),some (.t (.int i)),some (.b (.dct kvs)),some (.t (.str z)),some (.t (.lst L)),some (.m (.lst (bl fl))),none,none,x9,gG]
theorem VY {i k:Nat}{x:Str}{m:Int}{b:Bool}{L:List D}{fl:List Bool}{gG:Option U}(h10:iU gG=false) (hk:gj (R.map gU) (k:Int)=some (.tup [.str x,.int m])) (hx:x=a) (hl:kvs.length < 100000) (hf:fl.length < 90000) (e:fh [.t p,.t (.tup (R.map gU)),.t (.int k),.b (.dct (putD kvs (.inr y) (.int m)))]=some (.t (.bl b),[.dct (putD kvs (.inr y) (.int m))])):
  eG fp fh fw (S2 z a y p R i kvs L fl (some (.t (.int k))) gG)=some (.nx (S2 z a y p R i kvs L (fl++[b]) (some (.t (.int k))) (some (.m (.dct (putD kvs (.inr y) (.int m))))))):=by
 subst hx
 have t3:gj [D.str z,.str x,.str y,p] 3=some p:=rfl
 have h1:(bl fl).length < 100000:=by rw[mC];omega
 have h2:bl fl++[.bl b]=bl (fl++[b]):=by simp[bl]
 simp[-ia,fj,h10,eG,cQ,cC,jc,t3,hk,hl,e,h1,h2]
theorem RQ {i k:Nat}{x:Str}{m:Int}{L:List D}{fl:List Bool}{gG:Option U}(hk:gj (R.map gU) (k:Int)=some (.tup [.str x,.int m])) (hx:¬x=a):
  eG fp fh fw (S2 z a y p R i kvs L fl (some (.t (.int k))) gG)=some (.nx (S2 z a y p R i kvs L fl (some (.t (.int k))) gG)):=by
 simp[eG,cQ,cC,jc,hk,hx]
noncomputable def B8 (R:Row) (i:Nat) (a:Str) (b:Nat->Bool) (j:Nat):List Bool:=(List.range j).filterMap fun k=>match R[i+k]? with
 | some h=>if h.1=a then some (b (i+k)) else none
 | none=>none
theorem xw (R:Row) (i:Nat) (a:Str) (b:Nat->Bool) (j:Nat){h:Str×Int}(hj:R[i+j]? =some h):B8 R i a b (j+1)=B8 R i a b j++if h.1=a then [b (i+j)] else []:=by
 unfold B8
 rw[List.range_succ,List.filterMap_append]
 congr 1
 simp only[List.filterMap_cons,List.filterMap_nil,hj]
 split <;> rename_i q <;> split at q <;> simp_all
theorem NZ (R:Row) (i:Nat) (a:Str) (b:Nat->Bool) (j:Nat):(B8 R i a b j).length<=j:=by
 unfold B8
 exact Nat.le_trans (List.length_filterMap_le ..) (by rw[List.length_range];exact Nat.le_refl _)
theorem EX (R:Row) (i:Nat) (a:Str) (b:Nat->Bool):∀j:Nat,i+j<=R.length->(!(B8 R i a b j).any fun x=>x == false)=iX j fun k=>match R[i+k]? with | some h=>if h.1=a then b (i+k) else true | none=>true
  | 0,_=>rfl
  | j + 1, hj => by
    have hlt:i+j < R.length:=by omega
    have he:=List.getElem?_eq_getElem hlt
    rw[xw R i a b j he]
    have ih:=EX R i a b j (by omega)
    have:(iX (j+1) fun k=>match R[i+k]? with | some h=>if h.1=a then b (i+k) else true | none=>true)=((iX j fun k=>match R[i+k]? with | some h=>if h.1=a then b (i+k) else true | none=>true) && (match R[i+j]? with | some h=>if h.1=a then b (i+j) else true | none=>true)):=by
      unfold iX;rw[List.range_succ,List.all_append];simp
    rw[this,<-ih,he,List.any_append,Bool.not_or]
    congr 1
    by_cases c:R[i+j].1=a
    . simp only[c,if_true];cases b (i+j) <;> rfl
    . simp only[c,if_false];rfl
theorem EY (R:Row) (i:Nat) (a:Str) (b:Nat->Bool):∀j:Nat,i+j<=R.length->((B8 R i a b j).any fun x=>x == true)=iO j fun k=>match R[i+k]? with | some h=>if h.1=a then b (i+k) else false | none=>false
  | 0,_=>rfl
  | j + 1, hj => by
    have hlt:i+j < R.length:=by omega
    have he:=List.getElem?_eq_getElem hlt
    rw[xw R i a b j he]
    have ih:=EY R i a b j (by omega)
    have:(iO (j+1) fun k=>match R[i+k]? with | some h=>if h.1=a then b (i+k) else false | none=>false)=((iO j fun k=>match R[i+k]? with | some h=>if h.1=a then b (i+k) else false | none=>false) || (match R[i+j]? with | some h=>if h.1=a then b (i+j) else false | none=>false)):=by
      unfold iO;rw[List.range_succ,List.any_append];simp
    rw[this,<-ih,he,List.any_append]
    congr 1
    by_cases c:R[i+j].1=a
    . simp only[c,if_true];cases b (i+j) <;> rfl
    . simp only[c,if_false];rfl
theorem RS {i : Nat} {b : Nat -> Bool} (hz : z = "each" \/ z = "one") (hi : i <= R.length) (hn : R.length < 80000) (hl : kvs.length < 100000)
    (step:∀(k:Nat) (h:Str×Int),R[k]? =some h->h.1=a->fh [.t p,.t (.tup (R.map gU)),.t (.int k),.b (.dct (putD kvs (.inr y) (.int h.2)))]=some (.t (.bl (b k)),[.dct (putD kvs (.inr y) (.int h.2))])):
    aL 11 (bH fp fh fw) [.t (.tup [.str z,.str a,.str y,p]),.t (.tup (R.map gU)),.t (.int i),.b (.dct kvs)]=
      some (.t (.bl (if z="each" then !(B8 R i a b (R.length - i)).any fun x=>x == false else(B8 R i a b (R.length - i)).any fun x=>x == true)),[.dct kvs]):=by
  have nn:z≠"yes"/\z≠"no"/\z≠"now"/\z≠"not"/\z≠"both"/\z≠"either"/\z≠"next"/\z≠"till"/\z≠"within"/\z≠"always"/\z≠"some":=by rcases hz with rfl | rfl <;> decide
  obtain⟨n1,n2,n3,n4,n5,n6,n7,n8,n9,X4,X5⟩:=nn
  obtain⟨S',e,x9,gG,h9,h10,rfl⟩:=oO (bd:=bName 9) (body:=eG fp fh fw) (iL (ie i R.length))
    (fun j S=>∃(x9 gG:Option U),iU x9=false/\iU gG=false/\S=S2 z a y p R i kvs (iL (ie i R.length)) (B8 R i a b j) x9 gG) (S2 z a y p R i kvs (iL (ie i R.length)) [] none none) ⟨none,none,rfl,rfl,rfl⟩ (by
      rintro j d S hd ⟨x9,gG,h9,h10,rfl⟩
      have hd:(iL (ie i R.length))[j]? =some d:=hd
      unfold iL ie at hd
      rw[List.map_map,List.getElem?_map] at hd
      have hj:j < R.length - i:=by
        cases e:(List.range (R.length - i))[j]? with
        | none=>rw[e] at hd;cases hd
        | some w=>have:=(List.getElem?_eq_some_iff.mp e).1;simpa using this
      rw[List.getElem?_range hj] at hd
      obtain rfl:d= .int ((i+j:Nat):Int):=(Option.some.inj hd).symm
      have hlt:i+j < R.length:=by omega
      have he:=List.getElem?_eq_getElem hlt
      generalize R[i+j]=h at he
      obtain⟨x,m⟩:=h
      have hk:gj (R.map gU) ((i+j:Nat):Int)=some (.tup [.str x,.int m]):=Sq.ue (by omega) (by
        have:(((i+j:Nat):Int)).toNat=i+j:=by omega
        rw[this,List.getElem?_map,he];rfl)
      have bind:bName 9 (.int ((i+j:Nat):Int)) (S2 z a y p R i kvs (iL (ie i R.length)) (B8 R i a b j) x9 gG)=some (S2 z a y p R i kvs (iL (ie i R.length)) (B8 R i a b j) (some (.t (.int ((i+j:Nat):Int)))) gG):=by
        generalize ((i+j:Nat):Int)=kk
        generalize iL (ie i R.length)=L
        simp[-ia,fj,h9]
      have fs:=xw R i a b j he
      by_cases c:x=a
      . have st:=step (i+j) (x,m) he c
        have fl:=NZ R i a b j
        rw[if_pos c] at fs
        exact⟨_,_,bind,VY h10 hk c hl (by omega) st,_,_,rfl,rfl,by rw[fs]⟩
      . rw[if_neg c,List.append_nil] at fs
        exact⟨_,_,bind,RQ hk c,_,gG,rfl,h10,by rw[fs]⟩)
  have el:(iL (ie i R.length)).length=R.length - i:=by unfold iL;rw[List.length_map,AJ]
  rw[el] at e
  refine gr (by omega) (List.length_map ..) (n:=R.length) (by omega) (S':=S2 z a y p R i kvs (iL (ie i R.length)) (B8 R i a b (R.length - i)) x9 gG) rfl ?_
  refine(bx (k2 n1 n2)).trans ((bx (k3 n3)).trans ((bx (k4 n4)).trans ((bx (k5 n5 n6)).trans ((bx (k6 n7)).trans ((bx (k7 n8)).trans ((bx (k8 n9)).trans ((bx (k9 X4)).trans ((bx (RL X5)).trans ?_))))))))
  have hdp:=Lc (B8 R i a b (R.length - i))
  have hi1:=Ld false (B8 R i a b (R.length - i))
  have hi2:=Ld true (B8 R i a b (R.length - i))
  generalize B8 R i a b (R.length - i)=F at *
  generalize iL (ie i R.length)=L at *
  have e11:NQ fp fh fw (S1 z [.str a,.str y,p] (R.map gU) i kvs L)=some (.nx ((S1 z [.str a,.str y,p] (R.map gU) i kvs L).set 6 (some (.m (.lst []))))):=by simp[NQ]
  have e12:NR fp fh fw ((S1 z [.str a,.str y,p] (R.map gU) i kvs L).set 6 (some (.m (.lst []))))=some (.nx (S2 z a y p R i kvs L F x9 gG)):=by
    have e':loop (bName 9) (eG fp fh fw) L [some (.t (.tup [.str z,.str a,.str y,p])),some (.t (.tup (R.map gU))),some (.t (.int i)),some (.b (.dct kvs)),some (.t (.str z)),some (.t (.lst L)),some (.m (.lst [])),none,none,none,none]=_:=e
    simp[NR,nu,e']
  refine(bx e11).trans ((bx e12).trans ?_)
  rcases hz with rfl | rfl
  . simp[NS,hdp,hi1,rS]
  . simp[NS,hdp,hi2,rS]
end
noncomputable def Dy (i m:Nat):List Nat:=(List.range m).map fun k=>i+k
theorem GX (i m:Nat):Dy i (m+1)=i :: Dy (i+1) m:=by
 unfold Dy
 rw[List.range_succ_eq_map,List.map_cons,List.map_map]
 congr 1
 apply List.map_congr_left
 intro k _
 show i+(k+1)=i+1+k
 omega
theorem N1 {i m k:Nat}(h:k∈Dy i m):i<=k:=by
 obtain⟨j,_,rfl⟩:=List.mem_map.mp h
 omega
theorem EZ (P Q : Nat -> Bool) : ∀ (m i : Nat), (iO m fun k => Q (i + k) && iX k fun j => P (i + j)) = match (Dy i m).filter Q with
    | []=>false
    | k0 :: _=>iX (k0 - i) fun j=>P (i+j)
  | 0,i=>rfl
  | m + 1, i => by
    have ih:=EZ P Q m (i+1)
    rw[GX,zE]
    simp only[Nat.add_zero,uq,Bool.and_true]
    cases hq:Q i with
    | true=>
      rw[List.filter_cons_of_pos hq]
      simp[uq]
    | false=>
      rw[List.filter_cons_of_neg (by rw[hq];decide),Bool.false_or]
      have e:(iO m fun k=>Q (i+(k+1)) && iX (k+1) fun j=>P (i+j))=(P i && iO m fun k=>Q (i+1+k) && iX k fun j=>P (i+1+j)):=by
        rw[<-B6]
        refine xj fun k _=>?_
        have e1:i+(k+1)=i+1+k:=by omega
        have e2:(iX (k+1) fun j=>P (i+j))=(P i && iX k fun j=>P (i+1+j)):=by
          rw[ur]
          congr 1
          refine qO fun j _=>?_
          have:i+(j+1)=i+1+j:=by omega
          rw[this]
        rw[e1,e2]
        cases P i <;> simp
      rw[e,ih]
      cases hf:(Dy (i+1) m).filter Q with
      | nil=>simp
      | cons k0 sp=>
        have hk:i+1<=k0:=N1 (m:=m) (List.mem_filter (p:=Q) |>.mp (by rw[hf];exact List.mem_cons_self)).1
        show(P i && iX (k0 - (i+1)) fun j=>P (i+1+j))=iX (k0 - i) fun j=>P (i+j)
        have e3:k0 - i=(k0 - (i+1))+1:=by omega
        rw[e3,ur]
        congr 1
        refine qO fun j _=>?_
        have:i+(j+1)=i+1+j:=by omega
        rw[this]
noncomputable def VZ:Nat->FM×FM
 | 0=>(fun _=>none,fun _=>none)
 | j+1=>(aL 11 (bH kh (VZ j).1 (VZ j).2),aL 4 (gK (VZ j).1))
noncomputable def yt (j:Nat):FM:=(VZ j).1
noncomputable def RU (j:Nat):FM:=(VZ j).2
theorem RV (j:Nat):∀us r,yt (j+1) us=some r->aL 11 (bH kh (yt j) (RU j)) us=some r:=fun _ _ h=>h
theorem RW (j:Nat):∀us r,RU (j+1) us=some r->aL 4 (gK (yt j)) us=some r:=fun _ _ h=>h
theorem Le (us:List U):yt 0 us=none:=rfl
theorem Lf (us:List U):RU 0 us=none:=rfl
noncomputable def V0 (R:Row) (f:FM) (n:Nat):Prop:=∀(d:D) (bs:List Str) (kvs:List (Key×D)) (i:Nat),Sy n bs d->yr bs kvs->bs.length+n<=100->i<=R.length->
 f [.t d,.t (.tup (R.map gU)),.t (.int i),.b (.dct kvs)]=some (.t (.bl (ev R (qP kvs) d i)),[.dct kvs])
theorem V1 {R:Row}{f:FM}{n:Nat}(ih:V0 R f n){d:D}{bs:List Str}{kvs:List (Key×D)}(hd:Sy n bs d) (hk:yr bs kvs) (hb:bs.length+n<=100) (ks:List Nat) (hl:ks.length<=90000) (hm:∀k∈ks,k<=R.length):
  aL 4 (gK f) [.t d,.t (.tup (R.map gU)),.t (.lst (iL ks)),.b (.dct kvs)]=some (.m (.lst (iL (ks.filter fun k=>ev R (qP kvs) d k))),[.dct kvs]):=
 K2 ks hl fun k hk'=>ih d bs kvs k hd hk hb (hm k hk')
theorem Lg {R : Row} (hn : R.length < 80000) : ∀ (n j : Nat), 2 * n <= j -> V0 R (yt j) n
  | 0,_,_=>fun d bs kvs i h=>by cases h
  | n + 1, j, hj => fun d bs kvs i hd hk hb hi => by
    obtain⟨q,rfl⟩:∃q,j=q+2:=⟨j - 2,by omega⟩
    have ih:=Lg hn n (q+1) (by omega)
    have ihw:=Lg hn n q (by omega)
    have hl:(R.map gU).length=R.length:=List.length_map ..
    have i9:i < 900000:=by omega
    have n9:R.length < 900000:=by omega
    show aL 11 (bH kh (yt (q+1)) (RU (q+1))) _=_
    have wh:∀{p:D}(hp:Sy n bs p) (ks:List Nat),ks.length<=90000->(∀k∈ks,k<=R.length)->RU (q+1) [.t p,.t (.tup (R.map gU)),.t (.lst (iL ks)),.b (.dct kvs)]=some (.m (.lst (iL (ks.filter fun k=>ev R (qP kvs) p k))),[.dct kvs]):=
      fun hp ks h1 h2=>V1 ihw hp hk (by omega) ks h1 h2
    have ul:(ie i R.length).length<=90000:=by rw[AJ];omega
    have um:∀k∈ie i R.length,k<=R.length:=fun k h=>by have:=AK h;omega
    cases hd with
    | @leaf _ _ z h=>rw[vF];exact NV h i9 hl n9
    | @now _ _ t h=>
      rw[w5]
      by_cases c:i < R.length
      . have he:=List.getElem?_eq_getElem c
        rw[he]
        exact NW c hl n9 (Sq.ue (by omega) (by
          have:(i:Int).toNat=i:=by omega
          rw[this,List.getElem?_map,he];rfl)) (GQ h hk _)
      . rw[List.getElem?_eq_none (by omega)]
        exact NX c i9 hl n9
    | @one _ _ z p hz hp=>
      have e:=ih p bs kvs i hp hk (by omega) hi
      rcases jH hz with rfl | rfl | rfl | rfl
      . rw[AD];exact RM i9 hl n9 e
      . rw[vG]
        by_cases c:i < R.length
        . rw[decide_eq_true c,Bool.true_and]
          have e':=ih p bs kvs (i+1) hp hk (by omega) (by omega)
          exact K8 c hl n9 (by rw[show((i:Int)+1)=((i+1:Nat):Int) by omega];exact e')
        . rw[decide_eq_false c,Bool.false_and]
          exact K9 c i9 hl n9
      . rw[pU,<-K5,<-filter_all]
        exact GW i9 hl n9 (wh hp _ ul um)
      . rw[vH,<-RJ,<-filter_nil]
        exact NY i9 hl n9 (wh hp _ ul um)
    | @two _ _ z p r hz hp hr=>
      have e1:=ih p bs kvs i hp hk (by omega) hi
      have e2:=ih r bs kvs i hr hk (by omega) hi
      rcases jI hz with rfl | rfl | rfl
      . rw[vI];exact K7 (f:=fun a b=>a && b) (.inl ⟨rfl,rfl⟩) i9 hl n9 e1 e2
      . rw[pX];exact K7 (f:=fun a b=>a || b) (.inr ⟨rfl,rfl⟩) i9 hl n9 e1 e2
      . rw[vJ,EZ (fun k=>ev R (qP kvs) p k) (fun k=>ev R (qP kvs) r k)]
        have w1:=wh hr _ ul um
        have eu:Dy i (R.length - i)=ie i R.length:=rfl
        rw[eu]
        cases hf:(ie i R.length).filter (fun k=>ev R (qP kvs) r k) with
        | nil=>rw[hf] at w1;exact La i9 hl n9 w1
        | cons k0 sp=>
          rw[hf] at w1
          have hk0:=AK (List.mem_filter (p:=fun k=>ev R (qP kvs) r k) |>.mp (by rw[hf];exact List.mem_cons_self)).1
          have w2:=wh hp (ie i k0) (by rw[AJ];omega) (fun k h=>by have:=AK h;omega)
          have:=Lb (fp:=kh) (fh:=yt (q+1)) i9 hl n9 (by omega) w1 w2
          rw[filter_all,K5] at this
          exact this
    | @Gx _ _ k p k0 k5 hp=>
      rw[pW,<-NT,<-filter_nil]
      have ek:((k.toNat:Nat):Int)=k:=by omega
      have w1:=wh hp ((ie i R.length).take k.toNat) (by rw[List.length_take];omega) (fun x h=>um x (List.mem_of_mem_take h))
      have:=GV (fp:=kh) (fh:=yt (q+1)) (w:=k.toNat) i9 hl n9 rfl w1
      rw[ek] at this
      exact this
    | @bnd _ _ z a y p hz ha hb' hp=>
      have kl:kvs.length < 100000:=by have:=hk.few;omega
      have:=RS (fp:=kh) (fw:=RU (q+1)) (fh:=yt (q+1)) (b:=fun k=>match R[k]? with | some h=>ev R (sF (qP kvs) y h.2) p k | none=>false) (a:=a) (y:=y) (p:=p) hz hi hn kl (fun k h hh hx=>by
        have e:=ih p (bs++[y]) (putD kvs (.inr y) (.int h.2)) k hp (hk.put y h.2) (by rw[List.length_append];simp;omega) (by have:=(List.getElem?_eq_some_iff.mp hh).1;omega)
        rw[KZ] at e
        rw[hh]
        exact e)
      rw[this]
      refine congrArg (fun b=>some (U.t (D.bl b),[MO.dct kvs])) ?_
      rcases hz with rfl | rfl
      . rw[if_pos rfl,EX R i a _ _ (by omega),vK]
        refine qO fun k _=>?_
        cases R[i+k]? <;> rfl
      . rw[if_neg (by decide),EY R i a _ _ (by omega),AE]
        refine xj fun k _=>?_
        cases R[i+k]? <;> rfl
theorem Lh {ns:List Int}{k:Int}(h:0<=k) (h1:k < 1000000) (h2:ns.length < 1000000):lE [.s ns,.t (.int k)]=some (.m (.dct (cI (BO ns k))),[]):=by simp[lE,h,h1,h2]
theorem GY {t:dz}(h:0<=t.n) (h1:t.n < 800000):jd [.b (.dct (cI t))]=some (.t (iw (iD t).tab),[.dct (cI (iD t).t)]):=by simp[jd,h,h1]
theorem N2 {t:dz}{T:List (Str×Int)}{most:Int}(ok:oM T) (h0:0<=most) (h1:most<=100) (h:0<=t.n) (h2:t.n < 700000):rZ [.b (.dct (cI t)),.t (iw T),.t (.int most)]=some (.t (iw (uc t T most).1),[.dct (cI (uc t T most).2)]):=by
 simp[rZ,wV.mpr ok,h0,h1,h,h2]
structure X6 (s:Dj):Prop where
 nm:∀p∈s.tab,p.1∈fZ
theorem Li {k:Int}{s:Dj}(h:uR k s) (h2:X6 s) (hn:0 < s.names.length):X6 (cU s k):=by
 have p1:=bC (t:=s.t) (m:=s.names.length) (by omega)
 have hi:(bA s.t s.names.length).toNat < s.names.length:=by omega
 refine⟨fun p hp=>?_⟩
 rcases List.mem_append.mp (show p∈s.tab++[_] from hp) with hp | hp
 ·exact h2.nm p hp
 ·have hp:=List.mem_singleton.mp hp
  subst hp
  exact h.sub _ (getD_mem hi)
theorem B9:∀(n:Nat) (s:Dj),n<=4->uR 0 s->n<=s.names.length->X6 s->X6 ((Sw.upTo n).foldl cU s)
  | 0,s,_,_,_,h=>h
  | n + 1, s, hn, h, hl, h2 => by
    obtain⟨i1,i2,i3,i4⟩:=vD n s (by omega) h (by omega)
    have e:(Sw.upTo (n+1)).foldl cU s=cU ((Sw.upTo n).foldl cU s) n:=by
      unfold Sw.upTo
      rw[List.range_succ,List.map_append,List.foldl_append]
      rfl
    rw[e]
    exact Li i1 (B9 n s (by omega) h (by omega) h2) (by omega)
structure Hv (p:Str×Int):Prop where
 nm:p.1∈fZ
 lo:0<=p.2
 hi:p.2<=5
theorem N3 (t:dz):∀p∈(iD t).tab,Hv p:=by
 have b:=Ar t
 have h0:uR 0 ⟨fZ,[],12,bf t 5⟩:=⟨by show([]++fZ).Nodup;decide,fun z hz=>hz,(fun p hp=>by cases hp),by show(4:Int) - 0<=12;omega⟩
 obtain⟨i1,i2,i3,i4⟩:=vD (oK t) ⟨fZ,[],12,bf t 5⟩ b.2 h0 (by show oK t<=8;omega)
 have j:=B9 (oK t) ⟨fZ,[],12,bf t 5⟩ b.2 h0 (by show oK t<=8;omega) ⟨(fun p hp=>by cases hp)⟩
 have e:(Sw.upTo (oK t)).foldl cU ⟨fZ,[],12,bf t 5⟩=iD t:=rfl
 rw[e] at i1 j
 exact fun p hp=>⟨j.nm p hp,(i1.ok p hp).1.lo,(i1.ok p hp).2⟩
structure In (T:List (Str×Int)) (p:Str×Int):Prop where
 ex:∃q∈T,p.1=q.1/\0<=p.2/\p.2<=q.2
theorem Lj {T:List (Str×Int)}(ok:oM T):∀(ks:List Int) (s:List (Str×Int)×dz),(∀p∈s.1,In T p)->∀p∈(ks.foldl (dR T) s).1,In T p
  | [],s,h=>h
  | k :: ks, s, h => Lj ok ks (dR T s k) fun p hp => by
    have p0:=ok.pos
    have p1:=bC (t:=s.2) (m:=T.length) (by omega)
    have hi:(bA s.2 T.length).toNat < T.length:=by omega
    have hm:=getD_mem (x:=(("":Str),(0:Int))) hi
    rcases List.mem_append.mp (show p∈s.1++[_] from hp) with h1 | h1
    . exact h p h1
    . have h1:=List.mem_singleton.mp h1
      subst h1
      have a:=(ok.mst _ hm).1
      have r:=bC (t:=bf s.2 T.length) (m:=(T.getD (bA s.2 T.length).toNat ("",0)).2+1) (by omega)
      exact⟨_,hm,rfl,r.1,by show bA _ _<=_;omega⟩
theorem N4 {T:List (Str×Int)}(ok:oM T) (t:dz) (most:Int):∀p∈(uc t T most).1,In T p:=Lj ok _ _ fun p hp=>by cases hp
theorem aaX {T:List (Str×Int)}{p:Str×Int}(hT:∀q∈T,Hv q) (h:In T p):Hv p:=by
 obtain⟨q,hq,e,a,b⟩:=h.ex
 have w:=hT q hq
 have:=w.hi
 exact⟨e▸w.nm,a,by omega⟩
noncomputable def oZ (T:List (Str×Int)):List Str:=(List.replicate 3 (T.map (·.1))).flatten++(["strange"]:List Str)
theorem Ca:∀z∈fZ,nameB (.str z)=true/\z.length<=8:=by decide +kernel
theorem RX {T:List (Str×Int)}(hT:∀q∈T,Hv q) (hl:T.length<=10):Dq (oZ T) where
 ok:=fun z hz=>by
  rcases List.mem_append.mp hz with h | h
  ·obtain⟨l,hl,hz⟩:=List.mem_flatten.mp h
   rw[List.eq_of_mem_replicate hl] at hz
   obtain⟨p,hp,rfl⟩:=List.mem_map.mp hz
   exact Ca _ (hT p hp).nm
  ·rw[List.mem_singleton.mp h];decide +kernel
 pos:=by unfold oZ;rw[List.length_append];simp
 few:=by unfold oZ;rw[List.length_append];simp[List.length_flatten];omega
theorem Lk (T:List (Str×Int)) (S:SS):fy [] dj (eF (aj 0)) (T.map gU) S []=some ((T.map (·.1)).map D.str,S):=by
 have:∀(T':List (Str×Int)) (acc:List D),fy [] dj (eF (aj 0)) (T'.map gU) S acc=some (acc++(T'.map (·.1)).map D.str,S):=by
  intro T'
  induction T' with
  | nil=>intro acc;simp[fy]
  | cons p T' ih=>
   intro acc
   show fy [] dj (eF (aj 0)) (.tup [.str p.1,.int p.2] :: T'.map gU) S acc=_
   simp[fy,eZ,slotsOf,dh,cO,dj,aH,wb,ih]
 simpa using this T []
theorem Ll (T:List (Str×Int)):(List.replicate 3 ((T.map (·.1)).map D.str)).flatten++[.str "strange"]=vg (oZ T):=by
 unfold vg oZ
 rw[List.map_append,List.map_flatten,List.map_replicate]
 rfl
noncomputable def tw (p:Str×Int):Str×Int:=(if p.2 < 3 then p.1 else "strange",(p.2 * 2+1) % 10)
theorem N5 (T:List (Str×Int)) (hT:∀p∈T,Hv p) (S:SS):fy [] dj (eF (eP iA (aa (eF (eP tM (aa (eF (eP gB (aa (eC (.str "strange")) (aa (eF (aj 0)) aq)))) (aa (eF (eP vf (aa (eF (eP z5 (aa (eF (aj 1)) (aa (eC (.int 3)) aq)))) aq))) aq)))) (aa (eF (eP oq (aa (eF (eP dB (aa (eF (eP rF (aa (eF (aj 1)) (aa (eC (.int 2)) aq)))) (aa (eC (.int 1)) aq)))) (aa (eC (.int 10)) aq)))) aq)))) (T.map gU) S []=some ((T.map tw).map gU,S):=by
 have el:∀p:Str×Int,Hv p->(eF (eP iA (aa (eF (eP tM (aa (eF (eP gB (aa (eC (.str "strange")) (aa (eF (aj 0)) aq)))) (aa (eF (eP vf (aa (eF (eP z5 (aa (eF (aj 1)) (aa (eC (.int 3)) aq)))) aq))) aq)))) (aa (eF (eP oq (aa (eF (eP dB (aa (eF (eP rF (aa (eF (aj 1)) (aa (eC (.int 2)) aq)))) (aa (eC (.int 1)) aq)))) (aa (eC (.int 10)) aq)))) aq)))) [some (.t (.str p.1)),some (.t (.int p.2))]=some (gU (tw p),[some (.t (.str p.1)),some (.t (.int p.2))]):=fun p w=>by
  obtain⟨a,m⟩:=p
  have lo:0<=m:=w.lo
  have hi:m<=5:=w.hi
  have i0:∀x y:D,gj [x,y] 0=some x:=fun _ _=>rfl
  have i1:∀x y:D,gj [x,y] 1=some y:=fun _ _=>rfl
  by_cases c:m < 3
  ·simp[gU,tw,c,i1,vf]
  ·simp[gU,tw,c,i0,vf]
 have:∀(T':List (Str×Int)) (acc:List D),(∀p∈T',Hv p)->fy [] dj (eF (eP iA (aa (eF (eP tM (aa (eF (eP gB (aa (eC (.str "strange")) (aa (eF (aj 0)) aq)))) (aa (eF (eP vf (aa (eF (eP z5 (aa (eF (aj 1)) (aa (eC (.int 3)) aq)))) aq))) aq)))) (aa (eF (eP oq (aa (eF (eP dB (aa (eF (eP rF (aa (eF (aj 1)) (aa (eC (.int 2)) aq)))) (aa (eC (.int 1)) aq)))) (aa (eC (.int 10)) aq)))) aq)))) (T'.map gU) S acc=some (acc++(T'.map tw).map gU,S):=by
  intro T'
  induction T' with
  | nil=>intro acc _;simp[fy]
  | cons p T' ih=>
   intro acc h
   have e:=el p (h p List.mem_cons_self)
   have ih':=fun acc=>ih acc fun q hq=>h q (List.mem_cons_of_mem _ hq)
   generalize (eF (eP iA (aa (eF (eP tM (aa (eF (eP gB (aa (eC (.str "strange")) (aa (eF (aj 0)) aq)))) (aa (eF (eP vf (aa (eF (eP z5 (aa (eF (aj 1)) (aa (eC (.int 3)) aq)))) aq))) aq)))) (aa (eF (eP oq (aa (eF (eP dB (aa (eF (eP rF (aa (eF (aj 1)) (aa (eC (.int 2)) aq)))) (aa (eC (.int 1)) aq)))) (aa (eC (.int 10)) aq)))) aq))))=g at *
   show fy [] dj g (.tup [.str p.1,.int p.2] :: T'.map gU) S acc=_
   simp[fy,eZ,slotsOf,dh,cO,dj,aH,wb,e,ih']
 simpa using this T [] hT
theorem V2 {p:Str×Int}(w:Hv p):0<=(tw p).2/\(tw p).2<=9:=by
 have:=w.lo
 have:=w.hi
 show 0<=(p.2 * 2+1) % 10/\(p.2 * 2+1) % 10<=9
 omega
noncomputable def uw (aW:FM) (aO:FM) (aP:FM) (au:FM) (br:FM) (cA:FM) (ao:FM) (dm:FM):GS:=
 (aQ (cG 10 (aU cA (aK (eF (aj 5)) (aK (eF (aj 8)) (aK (eF (aj 9)) bG)))))
 (gT (wj (wg (qB (SY ["bool"] (eF (aj 10))))) (qB (eF (eP A5 (aa (eF (aj 10)) (aa (eF (aU ao (aK (eF (aj 5)) (aK (eF (aj 7)) (aK (eF (aj 9)) (cB BE bG)))))) aq)))))) (cu (eT (eC (.bl false)))) cF))
noncomputable def qQ (aW:FM) (aO:FM) (aP:FM) (au:FM) (br:FM) (cA:FM) (ao:FM) (dm:FM):GS:=
 (aQ (cG 7 (aU br (cB (aj 2) (aK (eF (aj 3)) (aK (eC (.int 6)) bG)))))
 (aQ (gT (qB (eF (eP dY (aa (eF (aU au (cB (aj 2) (aK (eC (.int 2)) bG)))) (aa (eC (.int 0)) aq))))) (cG 7 (eP qJ (aa (eF (jE [] (yf (eF (aj 7))) dj (eF (eP iA (aa (eF (eP tM (aa (eF (eP gB (aa (eC (.str "strange")) (aa (eF (aj 0)) aq)))) (aa (eF (eP vf (aa (eF (eP z5 (aa (eF (aj 1)) (aa (eC (.int 3)) aq)))) aq))) aq)))) (aa (eF (eP oq (aa (eF (eP dB (aa (eF (eP rF (aa (eF (aj 1)) (aa (eC (.int 2)) aq)))) (aa (eC (.int 1)) aq)))) (aa (eC (.int 10)) aq)))) aq)))))) aq))) cF)
 (aQ (cG 8 (eP tM (aa (eF (eP gB (aa (eF (aj 7)) (aa (eF (eP qm (aa (eF (aj 7)) aq))) aq)))) (aa (eF (aj 6)) aq))))
 (aQ (qd (bName 9) (lg (aa (eF (eP dB (aa (jA 7) (aa (eC (.int 1)) aq)))) aq)) (uw aW aO aP au br cA ao dm))
 (aQ (cG 10 (aU dm (aK (eF (aj 5)) (aK (eF (aj 8)) bG))))
 (gT (wj (wg (qB (SY ["bool"] (eF (aj 10))))) (wj (qB (eF (eP A5 (aa (eF (aj 10)) (aa (eF (aU ao (aK (eF (aj 5)) (aK (eF (aj 7)) (aK (eC (.int 0)) (cB BE bG)))))) aq))))) (qB (eF (eP A5 (aa (eF (eP qm (aa (eF (aj 8)) aq))) (aa (eF (eP qm (aa (eF (aj 7)) aq))) aq))))))) (cu (eT (eC (.bl false)))) cF))))))
noncomputable def ux (aW:FM) (aO:FM) (aP:FM) (au:FM) (br:FM) (cA:FM) (ao:FM) (dm:FM):GS:=
 (aQ (cG 2 (aU aW (cB (aj 0) (aK (eF (aj 1)) bG))))
 (aQ (cG 3 (aU aO (cB (aj 2) bG)))
 (aQ (cG 4 (eP dB (aa (eF (eP Ag (aa (eF (jE [] (yf (eF (aj 3))) dj (eF (aj 0)))) (aa (eC (.int 3)) aq)))) (aa (eF (eP gB (aa (eC (.str "strange")) aq))) aq))))
 (aQ (cG 5 (aU aP (cB (aj 2) (aK (eF (aj 4)) (aK (eF (eP dB (aa (eC (.int 1)) (aa (eF (aU au (cB (aj 2) (aK (eC (.int 9)) bG)))) aq)))) (aK (eF (eP dB (aa (eC (.int 1)) (aa (eF (aU au (cB (aj 2) (aK (eC (.int 5)) bG)))) aq)))) bG))))))
 (qd (bName 6) (lg (aa (eC (.int 2)) aq)) (qQ aW aO aP au br cA ao dm))))))
noncomputable def Cb (aW:FM) (aO:FM) (aP:FM) (au:FM) (br:FM) (cA:FM) (ao:FM) (dm:FM):GS:=
 (aQ (qd (bName 1) (lg (aa (eF (eP dB (aa (eC (.int 1)) (aa (eF (eP Bo (aa (eF (Jg 0 none (some (eC (.int 4))))) aq))) aq)))) aq)) (ux aW aO aP au br cA ao dm))
 (cu (eT (eC (.bl true)))))
noncomputable def vb0 (aW:FM) (aO:FM) (aP:FM) (au:FM) (br:FM) (cA:FM) (ao:FM) (dm:FM):GS:=
 (cG 7 (aU br (cB (aj 2) (aK (eF (aj 3)) (aK (eC (.int 6)) bG)))))
noncomputable def Tu (aW:FM) (aO:FM) (aP:FM) (au:FM) (br:FM) (cA:FM) (ao:FM) (dm:FM):GS:=
 (gT (qB (eF (eP dY (aa (eF (aU au (cB (aj 2) (aK (eC (.int 2)) bG)))) (aa (eC (.int 0)) aq))))) (cG 7 (eP qJ (aa (eF (jE [] (yf (eF (aj 7))) dj (eF (eP iA (aa (eF (eP tM (aa (eF (eP gB (aa (eC (.str "strange")) (aa (eF (aj 0)) aq)))) (aa (eF (eP vf (aa (eF (eP z5 (aa (eF (aj 1)) (aa (eC (.int 3)) aq)))) aq))) aq)))) (aa (eF (eP oq (aa (eF (eP dB (aa (eF (eP rF (aa (eF (aj 1)) (aa (eC (.int 2)) aq)))) (aa (eC (.int 1)) aq)))) (aa (eC (.int 10)) aq)))) aq)))))) aq))) cF)
noncomputable def X7 (aW:FM) (aO:FM) (aP:FM) (au:FM) (br:FM) (cA:FM) (ao:FM) (dm:FM):GS:=
 (cG 8 (eP tM (aa (eF (eP gB (aa (eF (aj 7)) (aa (eF (eP qm (aa (eF (aj 7)) aq))) aq)))) (aa (eF (aj 6)) aq))))
noncomputable def vb3 (aW:FM) (aO:FM) (aP:FM) (au:FM) (br:FM) (cA:FM) (ao:FM) (dm:FM):GS:=
 (qd (bName 9) (lg (aa (eF (eP dB (aa (jA 7) (aa (eC (.int 1)) aq)))) aq)) (uw aW aO aP au br cA ao dm))
noncomputable def vb4 (aW:FM) (aO:FM) (aP:FM) (au:FM) (br:FM) (cA:FM) (ao:FM) (dm:FM):GS:=
 (cG 10 (aU dm (aK (eF (aj 5)) (aK (eF (aj 8)) bG))))
noncomputable def vb5 (aW:FM) (aO:FM) (aP:FM) (au:FM) (br:FM) (cA:FM) (ao:FM) (dm:FM):GS:=
 (gT (wj (wg (qB (SY ["bool"] (eF (aj 10))))) (wj (qB (eF (eP A5 (aa (eF (aj 10)) (aa (eF (aU ao (aK (eF (aj 5)) (aK (eF (aj 7)) (aK (eC (.int 0)) (cB BE bG)))))) aq))))) (qB (eF (eP A5 (aa (eF (eP qm (aa (eF (aj 8)) aq))) (aa (eF (eP qm (aa (eF (aj 7)) aq))) aq))))))) (cu (eT (eC (.bl false)))) cF)
theorem V3 (aW:FM) (aO:FM) (aP:FM) (au:FM) (br:FM) (cA:FM) (ao:FM) (dm:FM):qQ aW aO aP au br cA ao dm=aQ (vb0 aW aO aP au br cA ao dm) (aQ (Tu aW aO aP au br cA ao dm) (aQ (X7 aW aO aP au br cA ao dm) (aQ (vb3 aW aO aP au br cA ao dm) (aQ (vb4 aW aO aP au br cA ao dm) (vb5 aW aO aP au br cA ao dm))))):=rfl
noncomputable def vc0 (aW:FM) (aO:FM) (aP:FM) (au:FM) (br:FM) (cA:FM) (ao:FM) (dm:FM):GS:=
 (cG 2 (aU aW (cB (aj 0) (aK (eF (aj 1)) bG))))
noncomputable def vc1 (aW:FM) (aO:FM) (aP:FM) (au:FM) (br:FM) (cA:FM) (ao:FM) (dm:FM):GS:=
 (cG 3 (aU aO (cB (aj 2) bG)))
noncomputable def vc2 (aW:FM) (aO:FM) (aP:FM) (au:FM) (br:FM) (cA:FM) (ao:FM) (dm:FM):GS:=
 (cG 4 (eP dB (aa (eF (eP Ag (aa (eF (jE [] (yf (eF (aj 3))) dj (eF (aj 0)))) (aa (eC (.int 3)) aq)))) (aa (eF (eP gB (aa (eC (.str "strange")) aq))) aq))))
noncomputable def vc3 (aW:FM) (aO:FM) (aP:FM) (au:FM) (br:FM) (cA:FM) (ao:FM) (dm:FM):GS:=
 (cG 5 (aU aP (cB (aj 2) (aK (eF (aj 4)) (aK (eF (eP dB (aa (eC (.int 1)) (aa (eF (aU au (cB (aj 2) (aK (eC (.int 9)) bG)))) aq)))) (aK (eF (eP dB (aa (eC (.int 1)) (aa (eF (aU au (cB (aj 2) (aK (eC (.int 5)) bG)))) aq)))) bG))))))
noncomputable def vc4 (aW:FM) (aO:FM) (aP:FM) (au:FM) (br:FM) (cA:FM) (ao:FM) (dm:FM):GS:=
 (qd (bName 6) (lg (aa (eC (.int 2)) aq)) (qQ aW aO aP au br cA ao dm))
theorem V4 (aW:FM) (aO:FM) (aP:FM) (au:FM) (br:FM) (cA:FM) (ao:FM) (dm:FM):ux aW aO aP au br cA ao dm=aQ (vc0 aW aO aP au br cA ao dm) (aQ (vc1 aW aO aP au br cA ao dm) (aQ (vc2 aW aO aP au br cA ao dm) (aQ (vc3 aW aO aP au br cA ao dm) (vc4 aW aO aP au br cA ao dm)))):=rfl
noncomputable abbrev LM (g:FM->FM->FM->FM->FM->FM->FM->FM->GS):GS:=g lE jd jG dD rZ ku (yt 16) mX
theorem Lm (b:Bool):A5 [.bl b,.bl b]=some (.t (.bl false)):=by cases b <;> rfl
theorem N6 {q:GT}{A B:GS}{S S':SS}(h:q S=some (true,S')):gT q A B S=A S':=by simp[h]
section
variable {fa ft fw fp fr fh fl ff:FM}{s0 s1 s2 s3 s4 s6 gG:Option U}{d r r0:D}
theorem N7 {kk:Int}{b:Bool}{x9:Option U}(h10:iU gG=false) (e1:fh [.t d,.t r,.t (.int kk)]=some (.t (.bl b),[])) (e2:fl [.t d,.t r0,.t (.int kk),.b (.dct [])]=some (.t (.bl b),[.dct []])):
  uw fa ft fw fp fr fh fl ff [s0,s1,s2,s3,s4,some (.t d),s6,some (.t r0),some (.t r),some (.t (.int kk)),gG]=some (.nx [s0,s1,s2,s3,s4,some (.t d),s6,some (.t r0),some (.t r),some (.t (.int kk)),some (.t (.bl b))]):=by
 have e3:=Lm b
 simp[-ia,fj,-EF,uw,h10,e1,e2,e3,rQ,yi,Ei]
theorem N8 {n:Nat}{b:Nat->Bool}{x9:Option U}(h9:iU x9=false) (h10:iU gG=false) (e1:∀i,i < n->fh [.t d,.t r,.t (.int i)]=some (.t (.bl (b i)),[])) (e2:∀i,i < n->fl [.t d,.t r0,.t (.int i),.b (.dct [])]=some (.t (.bl (b i)),[.dct []])):
  ∃y9 qy,iU y9=false/\iU qy=false/\loop (bName 9) (uw fa ft fw fp fr fh fl ff) (nN 0 n) [s0,s1,s2,s3,s4,some (.t d),s6,some (.t r0),some (.t r),x9,gG]=some (.nx [s0,s1,s2,s3,s4,some (.t d),s6,some (.t r0),some (.t r),y9,qy]):=by
 obtain⟨S',e,y9,qy,q9,v7,rfl⟩:=oO (bd:=bName 9) (body:=uw fa ft fw fp fr fh fl ff) (nN 0 n)
  (fun _ S=>∃y9 qy,iU y9=false/\iU qy=false/\S=[s0,s1,s2,s3,s4,some (.t d),s6,some (.t r0),some (.t r),y9,qy]) _ ⟨x9,gG,h9,h10,rfl⟩ (by
   rintro j dd S hd ⟨y9,qy,q9,v7,rfl⟩
   obtain⟨hj,rfl⟩:=Aw hd
   refine⟨_,_,?_,N7 (x9:=y9) v7 (e1 j hj) (e2 j hj),_,_,rfl,rfl,rfl⟩
   generalize ((j:Nat):Int)=jj
   simp[-ia,fj,q9])
 exact⟨y9,qy,q9,v7,e⟩
theorem RY {n:Nat}{b:Nat->Bool}{x9:Option U}{rs:List D}(hr0:r0= .tup rs) (hl:rs.length=n) (hn:n < 80000) (h9:iU x9=false) (h10:iU gG=false) (e1:∀i,i < n+1->fh [.t d,.t r,.t (.int i)]=some (.t (.bl (b i)),[])) (e2:∀i,i < n+1->fl [.t d,.t r0,.t (.int i),.b (.dct [])]=some (.t (.bl (b i)),[.dct []])):
  ∃y9 qy,iU y9=false/\iU qy=false/\vb3 fa ft fw fp fr fh fl ff [s0,s1,s2,s3,s4,some (.t d),s6,some (.t r0),some (.t r),x9,gG]=some (.nx [s0,s1,s2,s3,s4,some (.t d),s6,some (.t r0),some (.t r),y9,qy]):=by
 obtain⟨y9,qy,q9,v7,e⟩:=N8 (s0:=s0) (s1:=s1) (s2:=s2) (s3:=s3) (s4:=s4) (s6:=s6) (fa:=fa) (ft:=ft) (fw:=fw) (fp:=fp) (fr:=fr) (ff:=ff) h9 h10 e1 e2
 refine⟨y9,qy,q9,v7,?_⟩
 have a1:(aa (eF (eP dB (aa (jA 7) (aa (eC (.int 1)) aq)))) aq) [s0,s1,s2,s3,s4,some (.t d),s6,some (.t r0),some (.t r),x9,gG]=some ([.int ((n:Int)+1)],[s0,s1,s2,s3,s4,some (.t d),s6,some (.t r0),some (.t r),x9,gG]):=by subst hr0;simp[hl]
 have eg:=Sq.pT a1 (by omega) (by omega)
 have h3:((n:Int)+1).toNat=n+1:=by omega
 rw[h3] at eg
 show qd _ _ _ _=_
 rw[Di,eg,Option.bind_some]
 exact e
theorem RZ {T0 T1:MO}{td:D}{x5 x6 x7 x8 x9:Option U}(h7:iU x7=false) (e:fr [.b T0,.t td,.t (.int 6)]=some (.t r0,[T1])):
  vb0 fa ft fw fp fr fh fl ff [s0,s1,some (.m T0),some (.t td),s4,x5,x6,x7,x8,x9,gG]=some (.nx [s0,s1,some (.m T1),some (.t td),s4,x5,x6,some (.t r0),x8,x9,gG]):=by
 simp[-ia,fj,vb0,h7,e]
theorem R5 {T0 T1:MO}{v:Int}{x5 x6 x8 x9:Option U}(hv:¬v=0) (e:fp [.b T0,.t (.int 2)]=some (.t (.int v),[T1])):
  Tu fa ft fw fp fr fh fl ff [s0,s1,some (.m T0),s3,s4,x5,x6,some (.t r0),x8,x9,gG]=some (.nx [s0,s1,some (.m T1),s3,s4,x5,x6,some (.t r0),x8,x9,gG]):=by
 simp[Tu,e,hv]
theorem N9 {T0 T1:MO}{R:Row}{x5 x6 x8 x9:Option U}(hR:∀p∈R,Hv p) (hl:R.length<=90000) (e:fp [.b T0,.t (.int 2)]=some (.t (.int 0),[T1])):
  Tu fa ft fw fp fr fh fl ff [s0,s1,some (.m T0),s3,s4,x5,x6,some (.t (.tup (R.map gU))),x8,x9,gG]=some (.nx [s0,s1,some (.m T1),s3,s4,x5,x6,some (.t (.tup ((R.map tw).map gU))),x8,x9,gG]):=by
 have ec:=fun S=>N5 R hR S
 have h1:(R.map gU).length<=100000:=by rw[List.length_map];omega
 have e0:∀S:SS,S[7]? =some (some (.t (.tup (R.map gU))))->yf (eF (aj 7)) S=some (R.map gU,S):=fun S h=>by simp[yf,h]
 unfold Tu
 refine(N6 (S':=[s0,s1,some (.m T1),s3,s4,x5,x6,some (.t (.tup (R.map gU))),x8,x9,gG]) (by simp[e])).trans ?_
 generalize (eF (eP iA (aa (eF (eP tM (aa (eF (eP gB (aa (eC (.str "strange")) (aa (eF (aj 0)) aq)))) (aa (eF (eP vf (aa (eF (eP z5 (aa (eF (aj 1)) (aa (eC (.int 3)) aq)))) aq))) aq)))) (aa (eF (eP oq (aa (eF (eP dB (aa (eF (eP rF (aa (eF (aj 1)) (aa (eC (.int 2)) aq)))) (aa (eC (.int 1)) aq)))) (aa (eC (.int 10)) aq)))) aq))))=g at *
 simp[-ia,fj,-List.length_map,e0,h1,ec]
theorem R6 {k:Nat}{R:Row}{x5 x8 x9:Option U}(h8:iU x8=false) (hk:k=0\/k=1):
  X7 fa ft fw fp fr fh fl ff [s0,s1,s2,s3,s4,x5,some (.t (.int k)),some (.t (.tup (R.map gU))),x8,x9,gG]=some (.nx [s0,s1,s2,s3,s4,x5,some (.t (.int k)),some (.t (.tup (R.map gU))),some (.t (if k=0 then .tup (R.map gU) else .lst (R.map gU))),x9,gG]):=by
 have i0:∀x y:D,gj [x,y] 0=some x:=fun _ _=>rfl
 have i1:∀x y:D,gj [x,y] 1=some y:=fun _ _=>rfl
 rcases hk with rfl | rfl
 ·simp[-ia,fj,X7,h8,i0]
 ·simp[-ia,fj,X7,h8,i1]
theorem Oa (R:Row):gC (.lst (R.map gU))<=40:=by
 have:∀R':Row,cP (R'.map gU)<=1:=by
  intro R'
  induction R' with
  | nil=>exact Nat.zero_le _
  | cons p R' ih=>show max (gC (gU p)) (cP (R'.map gU))<=1;exact Nat.max_le.mpr ⟨by show max 0 (max 0 0)+1<=1;omega,ih⟩
 show cP (R.map gU)+1<=40
 have:=this R
 omega
theorem Ob (R:Row):A5 [.lst (R.map gU),.lst (R.map gU)]=some (.t (.bl false)):=by rw[RO (Oa R),rN];rfl
theorem Oc {b:Bool}{R:Row}{x9:Option U}(h10:iU gG=false) (hr:Rw R r) (hr0:r0= .tup (R.map gU)) (e1:ff [.t d,.t r]=some (.t (.bl b),[])) (e2:fl [.t d,.t r0,.t (.int 0),.b (.dct [])]=some (.t (.bl b),[.dct []])):
  aQ (vb4 fa ft fw fp fr fh fl ff) (vb5 fa ft fw fp fr fh fl ff) [s0,s1,s2,s3,s4,some (.t d),s6,some (.t r0),some (.t r),x9,gG]=some (.nx [s0,s1,s2,s3,s4,some (.t d),s6,some (.t r0),some (.t r),x9,some (.t (.bl b))]):=by
 have e3:=Lm b
 have e4:=Ob R
 subst hr0
 rcases hr with rfl | rfl <;> simp[-ia,fj,-EF,vb4,vb5,h10,e1,e2,e3,e4,rQ,yi,Ei]
end
theorem Od (T:List (Str×Int)):iw T= .tup (T.map gU):=rfl
structure Short (d:D):Prop where
 ex:∃n,n<=7/\Sy n [] d/\(gD n d).length<=16/\((gD n d).filter oU).length<=3
theorem Dz {R:Row}{n:Nat}{d:D}(h:Sy n [] d) (h1:(gD n d).length<=16) (h2:((gD n d).filter oU).length<=3) (hl:R.length<=80):cost R.length d < 10000000:=by
 have c:=Np R.length h
 have p:(R.length+1) ^ ((gD n d).filter oU).length<=81 ^ 3:=Nat.le_trans (Nat.pow_le_pow_right (by omega) h2) (Nat.pow_le_pow_left (by omega) 3)
 have m:=Nat.mul_le_mul h1 p
 have:16 * 81 ^ 3 < 10000000:=by decide
 omega
theorem V5 {ns:List Int}{s1 s4 x7 x8 x9 gG:Option U}{t:dz}{T:List (Str×Int)}{d:D}{k:Nat}(hk:k=0\/k=1) (hT:oM T) (hp:∀p∈T,nv p) (hw:∀p∈T,Hv p) (sh:Short d) (t0:0<=t.n) (t1:t.n < 600000) (h7:iU x7=false) (h8:iU x8=false) (h9:iU x9=false) (h10:iU gG=false):
  ∃t' y7 y8 y9 qy,iU y7=false/\iU y8=false/\iU y9=false/\iU qy=false/\0<=t'.n/\t'.n<=t.n+100/\
   LM qQ [some (.s ns),s1,some (.m (tp t)),some (.t (iw T)),s4,some (.t d),some (.t (.int k)),x7,x8,x9,gG]=some (.nx [some (.s ns),s1,some (.m (tp t')),some (.t (iw T)),s4,some (.t d),some (.t (.int k)),y7,y8,y9,qy]):=by
 obtain⟨n,n7,sy,sz,bn⟩:=sh.ex
 have e0:=N2 (t:=t) (T:=T) (most:=6) hT (by omega) (by omega) t0 (by omega)
 have G:=Gn hT hp t (most:=6) (by omega)
 have In':=N4 hT t 6
 generalize uc t T 6=rr at e0 G In'
 obtain⟨R0,ta⟩:=rr
 dsimp only at e0 G In'
 obtain⟨g1,g2,g3,g4⟩:=G
 have w0:∀p∈R0,Hv p:=fun p hp=>aaX hw (In' p hp)
 have p1:=gJ (t:=ta) (m:=2) (by omega) (by omega) (by omega) (by omega)
 have tn:(bf ta 2).n=ta.n+1:=fM ta 2
 generalize bA ta 2=v at p1
 generalize bf ta 2=tb at p1 tn
 have fin:∀R:Row,R.length<=60->(∀h∈R,0<=h.2/\h.2<=9)->LM Tu [some (.s ns),s1,some (.m (tp ta)),some (.t (iw T)),s4,some (.t d),some (.t (.int k)),some (.t (iw R0)),x8,x9,gG]=some (.nx [some (.s ns),s1,some (.m (tp tb)),some (.t (iw T)),s4,some (.t d),some (.t (.int k)),some (.t (.tup (R.map gU))),x8,x9,gG])->
   ∃t' y7 y8 y9 qy,iU y7=false/\iU y8=false/\iU y9=false/\iU qy=false/\0<=t'.n/\t'.n<=t.n+100/\
   LM qQ [some (.s ns),s1,some (.m (tp t)),some (.t (iw T)),s4,some (.t d),some (.t (.int k)),x7,x8,x9,gG]=some (.nx [some (.s ns),s1,some (.m (tp t')),some (.t (iw T)),s4,some (.t d),some (.t (.int k)),y7,y8,y9,qy]):=fun R rl rm e1=>by
  have a0:=RZ (fa:=lE) (ft:=jd) (fw:=jG) (fp:=dD) (fh:=ku) (fl:=yt 16) (ff:=mX) (s0:=some (.s ns)) (s1:=s1) (s4:=s4) (x5:=some (.t d)) (x6:=some (.t (.int k))) (x8:=x8) (x9:=x9) (gG:=gG) h7 e0
  have a2:=R6 (fa:=lE) (ft:=jd) (fw:=jG) (fp:=dD) (fr:=rZ) (fh:=ku) (fl:=yt 16) (ff:=mX) (s0:=some (.s ns)) (s1:=s1) (s2:=some (.m (tp tb))) (s3:=some (.t (iw T))) (s4:=s4) (x5:=some (.t d)) (x9:=x9) (gG:=gG) (R:=R) h8 hk
  have rw':Rw R (if k=0 then .tup (R.map gU) else .lst (R.map gU)):=by rcases hk with rfl | rfl;exact .inl rfl;exact .inr rfl
  generalize (if k=0 then D.tup (R.map gU) else .lst (R.map gU))=r at a2 rw'
  have cc:=Dz (R:=R) sy sz bn (by omega)
  have hh:∀i,i < R.length+1->ku [.t d,.t r,.t (.int i)]=some (.t (.bl (ev R nQ d i)),[]):=fun i hi=>B7 rw' (by omega) rm n7 sy cc (by omega)
  have hf:=KY rw' (by omega) rm n7 sy cc
  have hl:∀i,i < R.length+1->yt 16 [.t d,.t (.tup (R.map gU)),.t (.int i),.b (.dct [])]=some (.t (.bl (ev R nQ d i)),[.dct []]):=fun i hi=>by
   have:=Lg (R:=R) (by omega) n 16 (by omega) d [] [] i sy yr.nil (by simp;omega) (by omega)
   rw[K0] at this
   exact this
  obtain⟨y9,qy,q9,v7,a3⟩:=RY (fa:=lE) (ft:=jd) (fw:=jG) (fp:=dD) (fr:=rZ) (fh:=ku) (fl:=yt 16) (ff:=mX) (s0:=some (.s ns)) (s1:=s1) (s2:=some (.m (tp tb))) (s3:=some (.t (iw T))) (s4:=s4) (s6:=some (.t (.int k))) (x9:=x9) (gG:=gG) (b:=fun i=>ev R nQ d i) (n:=R.length) (rs:=R.map gU) (r:=r) (r0:=.tup (R.map gU)) (d:=d) rfl (List.length_map ..) (by omega) h9 h10 hh hl
  have a4:=Oc (fa:=lE) (ft:=jd) (fw:=jG) (fp:=dD) (fr:=rZ) (fh:=ku) (fl:=yt 16) (ff:=mX) (s0:=some (.s ns)) (s1:=s1) (s2:=some (.m (tp tb))) (s3:=some (.t (iw T))) (s4:=s4) (s6:=some (.t (.int k))) (x9:=y9) (gG:=qy) (R:=R) v7 rw' rfl hf (hl 0 (by omega))
  refine⟨tb,some (.t (.tup (R.map gU))),some (.t r),y9,some (.t (.bl (ev R nQ d 0))),rfl,rfl,q9,rfl,by omega,by omega,?_⟩
  show qQ _ _ _ _ _ _ _ _ _=_
  rw[V3]
  exact(bx a0).trans ((bx e1).trans ((bx a2).trans ((bx a3).trans a4)))
 by_cases c:v=0
 ·subst c
  refine fin (R0.map tw) (by rw[List.length_map];omega) (fun h hh=>?_) ?_
  ·obtain⟨p,hp,rfl⟩:=List.mem_map.mp hh
   exact V2 (w0 p hp)
  ·exact N9 (R:=R0) w0 (by omega) p1
 ·refine fin R0 (by omega) (fun h hh=>?_) ?_
  ·have w:=w0 h hh
   have:=w.lo
   have:=w.hi
   omega
  ·exact R5 c p1
theorem Oe {ns:List Int}{s1 s4 x6 x7 x8 x9 gG:Option U}{t:dz}{T:List (Str×Int)}{d:D}(hT:oM T) (hp:∀p∈T,nv p) (hw:∀p∈T,Hv p) (sh:Short d) (t0:0<=t.n) (t1:t.n < 500000) (h6:iU x6=false) (h7:iU x7=false) (h8:iU x8=false) (h9:iU x9=false) (h10:iU gG=false):
  ∃t' y6 y7 y8 y9 qy,iU y6=false/\iU y7=false/\iU y8=false/\iU y9=false/\iU qy=false/\LM vc4 [some (.s ns),s1,some (.m (tp t)),some (.t (iw T)),s4,some (.t d),x6,x7,x8,x9,gG]=some (.nx [some (.s ns),s1,some (.m (tp t')),some (.t (iw T)),s4,some (.t d),y6,y7,y8,y9,qy]):=by
 obtain⟨S',e,t',y6,y7,y8,y9,qy,_,_,q6,q7,q8,q9,v7,rfl⟩:=oO (bd:=bName 6) (body:=LM qQ) (nN 0 2)
  (fun j S=>∃t' y6 y7 y8 y9 qy,0<=dz.n t'/\dz.n t'<=t.n+100 * j/\iU y6=false/\iU y7=false/\iU y8=false/\iU y9=false/\iU qy=false/\S=[some (.s ns),s1,some (.m (tp t')),some (.t (iw T)),s4,some (.t d),y6,y7,y8,y9,qy]) _ ⟨t,x6,x7,x8,x9,gG,t0,by omega,h6,h7,h8,h9,h10,rfl⟩ (by
   rintro j dd S hd ⟨t',y6,y7,y8,y9,qy,n0,n1,q6,q7,q8,q9,v7,rfl⟩
   obtain⟨hj,rfl⟩:=Aw hd
   obtain⟨t2,z7,z8,z9,z10,r7,r8,r9,r10,m0,m1,ee⟩:=V5 (ns:=ns) (s1:=s1) (s4:=s4) (t:=t') (k:=j) (by omega) hT hp hw sh n0 (by omega) q7 q8 q9 v7
   refine⟨_,_,?_,ee,t2,some (.t (.int j)),z7,z8,z9,z10,m0,by omega,rfl,r7,r8,r9,r10,rfl⟩
   generalize ((j:Nat):Int)=jj
   simp[-ia,fj,q6])
 refine⟨t',y6,y7,y8,y9,qy,q6,q7,q8,q9,v7,?_⟩
 have eg:lg (aa (eC (.int 2)) aq) [some (.s ns),s1,some (.m (tp t)),some (.t (iw T)),s4,some (.t d),x6,x7,x8,x9,gG]=some (nN 0 2,[some (.s ns),s1,some (.m (tp t)),some (.t (iw T)),s4,some (.t d),x6,x7,x8,x9,gG]):=Sq.pT (j:=2) (by simp) (by omega) (by omega)
 show qd _ _ _ _=_
 rw[Di,eg,Option.bind_some]
 exact e
section
variable {fa ft fw fp fr fh fl ff:FM}{s1 x5 x6 x7 x8 x9 gG:Option U}{ns:List Int}
theorem R7 {k:Int}{T0:MO}{x2 x3 x4:Option U}(h2:iU x2=false) (e:fa [.s ns,.t (.int k)]=some (.m T0,[])):vc0 fa ft fw fp fr fh fl ff [some (.s ns),some (.t (.int k)),x2,x3,x4,x5,x6,x7,x8,x9,gG]=some (.nx [some (.s ns),some (.t (.int k)),some (.m T0),x3,x4,x5,x6,x7,x8,x9,gG]):=by
 simp[-ia,fj,vc0,h2,e]
theorem R8 {T0 T1:MO}{td:D}{x3 x4:Option U}(h3:iU x3=false) (e:ft [.b T0]=some (.t td,[T1])):vc1 fa ft fw fp fr fh fl ff [some (.s ns),s1,some (.m T0),x3,x4,x5,x6,x7,x8,x9,gG]=some (.nx [some (.s ns),s1,some (.m T1),some (.t td),x4,x5,x6,x7,x8,x9,gG]):=by
 simp[-ia,fj,vc1,h3,e]
theorem R9 {T0:MO}{T:List (Str×Int)}{x4:Option U}(h4:iU x4=false) (hl:T.length<=10):vc2 fa ft fw fp fr fh fl ff [some (.s ns),s1,some (.m T0),some (.t (iw T)),x4,x5,x6,x7,x8,x9,gG]=some (.nx [some (.s ns),s1,some (.m T0),some (.t (iw T)),some (.m (.lst (vg (oZ T)))),x5,x6,x7,x8,x9,gG]):=by
 have ec:=fun S=>Lk T S
 have h1:(T.map gU).length<=100000:=by rw[List.length_map];omega
 have e0:∀S:SS,S[3]? =some (some (.t (.tup (T.map gU))))->yf (eF (aj 3)) S=some (T.map gU,S):=fun S h=>by simp[yf,h]
 have fl:=Ll T
 have h2:((T.map (·.1)).map D.str).length=T.length:=by rw[List.length_map,List.length_map]
 generalize (T.map (·.1)).map D.str=L at *
 have h3:L.length * 3<=100000:=by omega
 have h4':(List.replicate 3 L).flatten.length+1<=100000:=by simp[List.length_flatten];omega
 have hrep:Ag [.lst L,.int 3]=some (.m (.lst (List.replicate 3 L).flatten)):=by rw[J1,if_pos ⟨by decide,by decide,h3⟩];rfl
 generalize (List.replicate 3 L).flatten=L3 at *
 rw[Od]
 generalize vg (oZ T)=N at *
 simp[-ia,fj,-J1,-List.length_map,vc2,h4,e0,h1,ec,hrep,h4',fl]
theorem Sa {T0 T1 T2 T3:MO}{td d:D}{N:List D}{v w:Int}(h5:iU x5=false) (e1:fp [.b T0,.t (.int 9)]=some (.t (.int v),[T1])) (e2:fp [.b T1,.t (.int 5)]=some (.t (.int w),[T2])) (e3:fw [.b T2,.t (.lst N),.t (.int (1+v)),.t (.int (1+w))]=some (.t d,[T3])):
  vc3 fa ft fw fp fr fh fl ff [some (.s ns),s1,some (.m T0),some (.t td),some (.m (.lst N)),x5,x6,x7,x8,x9,gG]=some (.nx [some (.s ns),s1,some (.m T3),some (.t td),some (.t (.lst N)),some (.t d),x6,x7,x8,x9,gG]):=by
 simp[-ia,fj,vc3,h5,e1,e2,e3]
end
theorem Ln {deep room bin:Nat}{d:D}(h:Dr deep [] room bin d) (h1:deep<=7) (h2:room<=16) (h3:bin<=3):Short d:=by
 have a:=h.sz
 have b:=h.bn
 unfold se at a
 unfold Az at b
 exact⟨deep,h1,Sy.of h.fm,by omega,by omega⟩
noncomputable def J08 (ns:List Int) (S:SS):Prop:=∃x1 x2 x3 x4 x5 x6 x7 x8 x9 gG,iU x1=false/\iU x2=false/\iU x3=false/\iU x4=false/\iU x5=false/\iU x6=false/\iU x7=false/\iU x8=false/\iU x9=false/\iU gG=false/\S=[some (.s ns),x1,x2,x3,x4,x5,x6,x7,x8,x9,gG]
theorem Se {ns:List Int}{k:Int}{S:SS}(hk:0<=k) (hk2:k < 1000) (hns:ns.length < 1000) (h:J08 ns S):∃S1 S2,bName 1 (.int k) S=some S1/\LM ux S1=some (.nx S2)/\J08 ns S2:=by
 obtain⟨x1,x2,x3,x4,x5,x6,x7,x8,x9,gG,h1,h2,h3,h4,h5,h6,h7,h8,h9,h10,rfl⟩:=h
 have e0:=Lh (ns:=ns) (k:=k) hk (by omega) (by omega)
 generalize ht0:BO ns k=t0 at e0
 have n0:t0.n=0:=by rw[<-ht0];rfl
 have e1:=GY (t:=t0) (by omega) (by omega)
 have F:=BW t0
 have W:=N3 t0
 obtain⟨st,hst⟩:∃s,iD t0=s:=⟨_,rfl⟩
 rw[hst] at e1 F W
 obtain⟨f1,f2,f3,f4,f5,f6⟩:=F
 have p1:=gJ (t:=st.t) (m:=9) (by omega) (by omega) (by omega) (by omega)
 obtain⟨v0,v1⟩:=bC (t:=st.t) (m:=9) (by omega)
 have t1n:(bf st.t 9).n=st.t.n+1:=fM st.t 9
 generalize bA st.t 9=v at *
 generalize bf st.t 9=ta at *
 have p2:=gJ (t:=ta) (m:=5) (by omega) (by omega) (by omega) (by omega)
 obtain⟨w0,w1⟩:=bC (t:=ta) (m:=5) (by omega)
 have Tt:(bf ta 5).n=ta.n+1:=fM ta 5
 generalize bA ta 5=w at *
 generalize bf ta 5=tb at *
 have hn:Dq (oZ st.tab):=RX W (by omega)
 obtain⟨d,tc,bin,g1,g2,g3,g4,g5⟩:=Ka (nms:=oZ st.tab) (t:=tb) (room:=(1+v).toNat) (deep:=(1+w).toNat) (by omega) (by omega) (by omega) (by omega) (by omega) (by omega)
 have er:(((1+v).toNat:Nat):Int)=1+v:=by omega
 have ed:(((1+w).toNat:Nat):Int)=1+w:=by omega
 rw[er,ed] at g1
 have sh:=Ln g2 (by omega) (by omega) g3
 obtain⟨t',y6,y7,y8,y9,qy,q6,q7,q8,q9,v7,e4⟩:=Oe (ns:=ns) (s1:=some (.t (.int k))) (s4:=some (.t (.lst (vg (oZ st.tab))))) (t:=tc) f2 f3 W sh (by omega) (by omega) h6 h7 h8 h9 h10
 have a0:=R7 (fa:=lE) (ft:=jd) (fw:=jG) (fp:=dD) (fr:=rZ) (fh:=ku) (fl:=yt 16) (ff:=mX) (x3:=x3) (x4:=x4) (x5:=x5) (x6:=x6) (x7:=x7) (x8:=x8) (x9:=x9) (gG:=gG) h2 e0
 have a1:=R8 (fa:=lE) (ft:=jd) (fw:=jG) (fp:=dD) (fr:=rZ) (fh:=ku) (fl:=yt 16) (ff:=mX) (s1:=some (.t (.int k))) (ns:=ns) (x4:=x4) (x5:=x5) (x6:=x6) (x7:=x7) (x8:=x8) (x9:=x9) (gG:=gG) h3 e1
 have a2:=R9 (fa:=lE) (ft:=jd) (fw:=jG) (fp:=dD) (fr:=rZ) (fh:=ku) (fl:=yt 16) (ff:=mX) (s1:=some (.t (.int k))) (ns:=ns) (T0:=.dct (cI st.t)) (x5:=x5) (x6:=x6) (x7:=x7) (x8:=x8) (x9:=x9) (gG:=gG) (T:=st.tab) h4 (by omega)
 have a3:=Sa (fa:=lE) (ft:=jd) (fw:=jG) (fp:=dD) (fr:=rZ) (fh:=ku) (fl:=yt 16) (ff:=mX) (s1:=some (.t (.int k))) (ns:=ns) (td:=iw st.tab) (x6:=x6) (x7:=x7) (x8:=x8) (x9:=x9) (gG:=gG) h5 p1 p2 g1
 refine⟨[some (.s ns),some (.t (.int k)),x2,x3,x4,x5,x6,x7,x8,x9,gG],_,by simp[-ia,fj,h1],?_,some (.t (.int k)),some (.m (tp t')),some (.t (iw st.tab)),some (.t (.lst (vg (oZ st.tab)))),some (.t d),y6,y7,y8,y9,qy,rfl,rfl,rfl,rfl,rfl,q6,q7,q8,q9,v7,rfl⟩
 show ux _ _ _ _ _ _ _ _ _=_
 rw[V4]
 exact(bx a0).trans ((bx a1).trans ((bx a2).trans ((bx a3).trans e4)))
theorem Lo (ns:List Int) (lo hi:Option Int):(wK ns lo hi).length<=ns.length:=by
 unfold wK
 rw[List.length_take,List.length_drop]
 omega
theorem Sg (i:Nat) (lo hi:Option GD) (S:SS):Jg i lo hi S=match S[i]? with | some (some (.s ns))=>(gX lo S).bind fun l=>(gX hi l.2).map fun h=>(.m (.lst ((wK ns l.1 h.1).map D.int)),h.2) | _=>none:=rfl
theorem Lp {ns:List Int}{c:Int}{r:SS}:(aa (eF (eP dB (aa (eC (.int 1)) (aa (eF (eP Bo (aa (eF (Jg 0 none (some (eC (.int c))))) aq))) aq)))) aq) (some (.s ns) :: r)=some ([.int ((1+(wK ns none (some c)).length:Nat):Int)],some (.s ns) :: r):=by
 simp[Sg,gX]
theorem GZ:∀us r,Dm 63 us=some r->aL 11 (LM Cb) us=some r:=by
 intro us r h
 unfold Dm at h
 split at h
 ·rename_i ns
  obtain⟨hl,rfl⟩:=cJ h
  have cl:=Lo ns none (some 4)
  have eg:=Sq.pT (Lp (ns:=ns) (c:=4) (r:=[none,none,none,none,none,none,none,none,none,none])) (by omega) (by omega)
  rw[Int.toNat_natCast] at eg
  obtain⟨S',e,jS⟩:=oO (bd:=bName 1) (body:=LM ux) (nN 0 (1+(wK ns none (some 4)).length)) (fun _ S=>J08 ns S) [some (.s ns),none,none,none,none,none,none,none,none,none,none] ⟨none,none,none,none,none,none,none,none,none,none,rfl,rfl,rfl,rfl,rfl,rfl,rfl,rfl,rfl,rfl,rfl⟩ (fun j d S hd hJ=>by
   obtain⟨hj,rfl⟩:=Aw hd
   exact Se (by omega) (by omega) (by omega) hJ)
  show((LM Cb) [some (.s ns),none,none,none,none,none,none,none,none,none,none]).bind _=_
  unfold LM Cb
  rw[QN,Di,eg]
  simp only[Option.bind_some]
  have e:loop (bName 1) (ux lE jd jG dD rZ ku (yt 16) mX) (nN 0 (1+(wK ns none (some 4)).length)) [some (.s ns),none,none,none,none,none,none,none,none,none,none]=some (.nx S'):=e
  rw[e]
  obtain⟨x1,x2,x3,x4,x5,x6,x7,x8,x9,gG,_,_,_,_,_,_,_,_,_,_,rfl⟩:=jS
  simp[aH]
 ·cases h
end Sh
end
section
namespace K08
open PySem PySem.Spec PyProof.Rows L2
def top (i:Nat):Stmt:=PySem.Challenge.pw_surewatch_k08_what_holds.main.body.getD i (.Pass ⟨0,0,0,0⟩)
open L2 Sw Ss Sn Sp Sh
noncomputable abbrev mY:Stmt:=top 1
theorem zH:cD ["test","happening","head"] ["test","happening"] (aG mY):=⟨rfl,rfl,rfl,by decide +kernel,rfl,by decide +kernel,by decide +kernel⟩
theorem G0 {P:Program}{w:World}{K:PySem.W.Frag}{mg:Str->Option Value}{base:Heap}{f:Addr}{fd:FuncData}{n:Nat}{fm:FM}(F:p8 K "passes" "passes" mY f fd)
  (hf:∀us r,fm us=some r->aL 3 (i6) us=some r):cy P w K mg base fY (n+1) f fd ["test","happening"] (spT K 2 fm):=
 tU (g:=i6) F zH (fun cdv A outer s H E hr=>(aE (bT (i:=2) zH.nd rfl (by first | exact Or.inl rfl | exact Or.inr rfl) (JD.e (aY (i:=0) (bB hr) az (fun _ _=>rfl))))
  (aE (cK (bF (bK hr.units) (JE.d (ah 2)) aT) (aV (bw (JD.e nH))) cz)
  (aE (cK (bF (bK hr.units) (JE.d (ah 2)) aT) (aV (bw (gm (bK hr.units) (aY (i:=1) (bB hr) az (fun _ _=>rfl)) (aY (i:=0) (bB hr) az (fun _ _=>rfl))))) cz)
  (aE (cK (bF (bK hr.units) (JE.d (ah 2)) aT) (aV (bw (gm mj (aY (i:=1) (bB hr) az (fun _ _=>rfl)) (aY (i:=0) (bB hr) az (fun _ _=>rfl))))) cz)
  (aE (cK (bF (bK hr.units) (JE.d (ah 2)) aT) (aV (bw (gm (bK hr.units) (aY (i:=1) (bB hr) az (fun _ _=>rfl)) (aY (i:=0) (bB hr) az (fun _ _=>rfl))))) cz)
  (aV (bw (gm tL (aY (i:=1) (bB hr) az (fun _ _=>rfl)) (aY (i:=0) (bB hr) az (fun _ _=>rfl))))))))))) hf
noncomputable abbrev jK:Stmt:=top 5
theorem Cc:cD ["saying"] ["saying"] (aG jK):=⟨rfl,rfl,rfl,by decide +kernel,rfl,by decide +kernel,by decide +kernel⟩
theorem Cd {P:Program}{w:World}{K:PySem.W.Frag}{mg:Str->Option Value}{base:Heap}{f:Addr}{fd:FuncData}{n:Nat}{fm:FM}(F:p8 K "parts_of" "parts_of" jK f fd){kK:Addr}(pZ:mg "STARTS" =some (.ref kK)) (p5:KTab P w K kK [("yes",1),("no",1),("now",2),("not",1),("both",1),("either",1),("next",1),("till",1),("within",2),("always",1),("some",1),("each",3),("one",3)])
  (hf:∀us r,fm us=some r->aL 1 (lG) us=some r):cy P w K mg base fY (n+1) f fd ["saying"] (spT K 1 fm):=
 tU (g:=lG) F Cc (fun cdv A outer s H E hr=>(aV (bw (iB (JE.d (ah 0)) (iK (Ju rfl pZ p5 (aY (i:=0) (bB hr) az (fun _ _=>rfl)))) jq)))) hf
noncomputable abbrev gw:Stmt:=top 6
theorem vh:cD ["test"] ["test"] (aG gw):=⟨rfl,rfl,rfl,by decide +kernel,rfl,by decide +kernel,by decide +kernel⟩
theorem vj {P:Program}{w:World}{K:PySem.W.Frag}{mg:Str->Option Value}{base:Heap}{f:Addr}{fd:FuncData}{n:Nat}{fm:FM}(F:p8 K "has_variable" "has_variable" gw f fd) (gM:mg "len" =none) (iE:mg "isinstance" =none) (Si:mg "str" =none)
  (hf:∀us r,fm us=some r->aL 1 (dN) us=some r):cy P w K mg base fY (n+1) f fd ["test"] (spT K 1 fm):=
 tU (g:=dN) F vh (fun cdv A outer s H E hr=>(aV (bw (JD.e (qE (JE.d (gm (bK hr.units) (iW (i:=0) rfl gM) az)) (qE (JE.d (gm (qI hr.units) (aY (i:=0) (bB hr) az (fun _ _=>rfl)) aT)) (ng (tV rfl iE rfl Si PyProof.Rows.Boot.str (aY (i:=0) (bB hr) az (fun _ _=>rfl)))))))))) hf
noncomputable abbrev iP:Stmt:=top 7
theorem DA:cD ["saying","x","k"] ["saying","x","k"] (aG iP):=⟨rfl,rfl,rfl,by decide +kernel,rfl,by decide +kernel,by decide +kernel⟩
theorem DB {P:Program}{w:World}{K:PySem.W.Frag}{mg:Str->Option Value}{base:Heap}{f:Addr}{fd:FuncData}{n:Nat}{fm:FM}(F:p8 K "put_for" "put_for" iP f fd) (uy:mg "tuple" =none){o7:Addr}(xx:mg "BINDERS" =some (.ref o7)) (xy:Jv K o7 ["each","one"]){kK:Addr}(pZ:mg "STARTS" =some (.ref kK)) (p5:KTab P w K kK [("yes",1),("no",1),("now",2),("not",1),("both",1),("either",1),("next",1),("till",1),("within",2),("always",1),("some",1),("each",3),("one",3)])
  {mD:Addr}{qz:FuncData}{iZ:FM}(yu:cy P w K mg base fY n mD qz ["test"] (spT K 1 iZ)) (yw:Binds K qz ["test"] []) (yx:PySem.W.keepIn K (.ref mD)=true) (yy:mg "has_variable" =some (.ref mD))
  {uz:Addr}{zI:FuncData}{mT:FM}(G1:cy P w K mg base fY n uz zI ["saying"] (spT K 1 mT)) (G2:Binds K zI ["saying"] []) (G3:PySem.W.keepIn K (.ref uz)=true) (G4:mg "parts_of" =some (.ref uz))
  {lK:Addr}{o8:FuncData}{gq:FM}(xA:cy P w K mg base fY n lK o8 ["saying","x","k"] (spT K 3 gq)) (xB:Binds K o8 ["saying","x","k"] []) (xC:PySem.W.keepIn K (.ref lK)=true) (xD:mg "put_for" =some (.ref lK))
  (hf:∀us r,fm us=some r->aL 3 (dG iZ mT gq) us=some r):cy P w K mg base fY (n+1) f fd ["saying","x","k"] (spT K 3 fm):=
 tU (g:=dG iZ mT gq) F DA (fun cdv A outer s H E hr=>(aE (cK (bF (bK hr.units) (aY (i:=0) (bB hr) az (fun _ _=>rfl)) aT) (aE (cK (JW.t (wk (z4 (JE.d (aR yu hr rfl yy yx yw (aD (aY (i:=0) (bB hr) az (fun _ _=>rfl)) bq)))) (kZ (bF (bK hr.units) (JE.d (kq qc (aY (i:=0) (bB hr) az (fun _ _=>rfl)) az (fun _ _=>rfl))) (JE.d (ah 1)))))) (aV (bw (dX (aA aT (aA (JE.d (dX (aA (JE.d (kq qc (aY (i:=0) (bB hr) az (fun _ _=>rfl)) az (fun _ _=>rfl))) (aA (JE.d (ah 2)) aZ)))) aZ))))) cz)
  (aV (bw (ah 0)))) cz)
  (aE (cK (JW.t (wk (QJ hr.units rfl xx xy (aY (i:=0) (bB hr) az (fun _ _=>rfl))) (kZ (bF (bK hr.units) (aY (i:=0) (bB hr) az (fun _ _=>rfl)) (JE.d (ah 1)))))) (aV (bw (ah 0))) cz)
  (aV (bw (bW cH (JE.d (iB (JE.d (ah 0)) jq (iK (Ju rfl pZ p5 (aY (i:=0) (bB hr) az (fun _ _=>rfl)))))) (JE.d (kM uN rfl uy PyProof.Rows.Boot.tuple (aA (JE.d (rM (nk (cE:=["k","x"]) (cap:=[2,1]) rfl (by decide) rfl (by decide) rfl rfl (by decide) (by first | exact Or.inl rfl | exact Or.inr rfl) (by decide) rfl rfl rfl) rfl (tR (JE.d (aR G1 hr rfl G4 G3 G2 (aD (JE.d (ah 0)) bq)))) (fun _ _ _ _=>kF) (fun _ _ _ _=>(JE.d (aR xA hr rfl xD xC xB (aD (JE.d (ah 0)) (aD (JE.d (ah 2)) (aD (JE.d (ah 1)) bq)))))))) aZ))))))))) hf
noncomputable abbrev p6:Stmt:=top 9
theorem Lq:cD ["saying","row","place"] ["saying","row","place"] (aG p6):=⟨rfl,rfl,rfl,by decide +kernel,rfl,by decide +kernel,by decide +kernel⟩
theorem Lr {P:Program}{w:World}{K:PySem.W.Frag}{mg:Str->Option Value}{base:Heap}{f:Addr}{fd:FuncData}{n:Nat}{fm:FM}(F:p8 K "holds" "holds" p6 f fd)
  {eU:Addr}{iF:FuncData}{aI:FM}(jL:cy P w K mg base fY n eU iF ["saying","row","known"] (spT K 3 aI)) (jM:Binds K iF ["saying","row","known"] []) (jN:PySem.W.keepIn K (.ref eU)=true) (jO:mg "truths_of" =some (.ref eU))
  (hf:∀us r,fm us=some r->aL 3 (pY aI) us=some r):cy P w K mg base fY (n+1) f fd ["saying","row","place"] (spT K 3 fm):=
 tU (g:=pY aI) F Lq (fun cdv A outer s H E hr=>(aV (bw (kq qc (JE.d (aR jL hr rfl jO jN jM (aD (JE.d (ah 0)) (aD (JE.d (ah 1)) (bE MM bq))))) (JE.d (ah 2)) (fun _ _=>rfl))))) hf
noncomputable abbrev uA:Stmt:=top 10
theorem Of:cD ["saying","row"] ["saying","row"] (aG uA):=⟨rfl,rfl,rfl,by decide +kernel,rfl,by decide +kernel,by decide +kernel⟩
theorem Og {P:Program}{w:World}{K:PySem.W.Frag}{mg:Str->Option Value}{base:Heap}{f:Addr}{fd:FuncData}{n:Nat}{fm:FM}(F:p8 K "fits" "fits" uA f fd)
  {qR:Addr}{xE:FuncData}{cA:FM}(DC:cy P w K mg base fY n qR xE ["saying","row","place"] (spT K 3 cA)) (DE:Binds K xE ["saying","row","place"] []) (DF:PySem.W.keepIn K (.ref qR)=true) (DG:mg "holds" =some (.ref qR))
  (hf:∀us r,fm us=some r->aL 2 (uv cA) us=some r):cy P w K mg base fY (n+1) f fd ["saying","row"] (spT K 2 fm):=
 tU (g:=uv cA) F Of (fun cdv A outer s H E hr=>(aV (bw (aR DC hr rfl DG DF DE (aD (JE.d (ah 0)) (aD (JE.d (ah 1)) (aD az bq))))))) hf
noncomputable abbrev fR:Stmt:=top 11
theorem AM:cD ["saying","row","known"] ["saying","row","known"] (aG fR):=⟨rfl,rfl,rfl,by decide +kernel,rfl,by decide +kernel,by decide +kernel⟩
theorem AN {P:Program}{w:World}{K:PySem.W.Frag}{mg:Str->Option Value}{base:Heap}{f:Addr}{fd:FuncData}{n:Nat}{fm:FM}(F:p8 K "truths_of" "truths_of" fR f fd)
  {kj:Addr}{nL:FuncData}{gZ:FM}(vm:cy P w K mg base fY n kj nL ["saying","row","known"] (spT K 3 gZ)) (vn:Binds K nL ["saying","row","known"] []) (vo:PySem.W.keepIn K (.ref kj)=true) (vp:mg "truths_by_head" =some (.ref kj))
  (hf:∀us r,fm us=some r->aL 3 (fQ gZ) us=some r):cy P w K mg base fY (n+1) f fd ["saying","row","known"] (spT K 3 fm):=
 tU (g:=fQ gZ) F AM (fun cdv A outer s H E hr=>(aE (cK (FZ (i:=2) (bB hr) (JE.d (ah 0))) (aV (wH (i:=2) (bB hr) (JE.d (ah 0)) (JE.d (aR vm hr rfl vp vo vn (aD (JE.d (ah 0)) (aD (JE.d (ah 1)) (bE (ah 2) bq))))))) cz)
  (aV (bw (JD.e (aY (i:=2) (bB hr) (JE.d (ah 0)) (fun _ _=>rfl))))))) hf
noncomputable abbrev cN:Stmt:=top 12
theorem iu:cD ["saying","row","known","head","truths","ahead"] ["saying","row","known"] (aG cN):=⟨rfl,rfl,rfl,by decide +kernel,rfl,by decide +kernel,by decide +kernel⟩
theorem sQ {P:Program}{w:World}{K:PySem.W.Frag}{mg:Str->Option Value}{base:Heap}{f:Addr}{fd:FuncData}{n:Nat}{fm:FM}(F:p8 K "truths_by_head" "truths_by_head" cN f fd) (gM:mg "len" =none) (DH:mg "zip" =none)
  {AO:Addr}{E1:FuncData}{cg:FM}(Oh:cy P w K mg base fY n AO E1 ["test","happening"] (spT K 2 cg)) (Oi:Binds K E1 ["test","happening"] []) (Oj:PySem.W.keepIn K (.ref AO)=true) (Ol:mg "passes" =some (.ref AO))
  {AQ:Addr}{E2:FuncData}{bV:FM}(E3:cy P w K mg base fY n AQ E2 ["truths"] (spT K 1 bV)) (E4:Binds K E2 ["truths"] []) (E5:PySem.W.keepIn K (.ref AQ)=true) (E6:mg "at_all" =some (.ref AQ))
  {lM:Addr}{o9:FuncData}{aF:FM}(pe:cy P w K mg base fY n lM o9 ["saying","row","known"] (spT K 3 aF)) (pg:Binds K o9 ["saying","row","known"] []) (pq:PySem.W.keepIn K (.ref lM)=true) (pA:mg "at_happenings" =some (.ref lM))
  {lN:Addr}{pB:FuncData}{bu:FM}(sR:cy P w K mg base fY n lN pB ["truths"] (spT K 1 bu)) (sS:Binds K pB ["truths"] []) (sU:PySem.W.keepIn K (.ref lN)=true) (sV:mg "at_some" =some (.ref lN))
  {eU:Addr}{iF:FuncData}{aI:FM}(jL:cy P w K mg base fY n eU iF ["saying","row","known"] (spT K 3 aI)) (jM:Binds K iF ["saying","row","known"] []) (jN:PySem.W.keepIn K (.ref eU)=true) (jO:mg "truths_of" =some (.ref eU))
  {eV:Addr}{iG:FuncData}{aB:FM}(jv:cy P w K mg base fY n eV iG ["truths"] (spT K 1 aB)) (jw:Binds K iG ["truths"] []) (jx:PySem.W.keepIn K (.ref eV)=true) (jy:mg "turned_truths" =some (.ref eV))
  {Ls:Addr}{OZ:FuncData}{bD:FM}(V6:cy P w K mg base fY n Ls OZ ["n","truths"] (spT K 2 bD)) (V7:Binds K OZ ["n","truths"] []) (V8:PySem.W.keepIn K (.ref Ls)=true) (V9:mg "soon" =some (.ref Ls))
  {lO:Addr}{pC:FuncData}{bz:FM}(xF:cy P w K mg base fY n lO pC ["stays","comes"] (spT K 2 bz)) (xG:Binds K pC ["stays","comes"] []) (xH:PySem.W.keepIn K (.ref lO)=true) (xJ:mg "come_to" =some (.ref lO))
  (hf:∀us r,fm us=some r->aL 6 (bg cg bV aF bu aI aB bD bz) us=some r):cy P w K mg base fY (n+1) f fd ["saying","row","known"] (spT K 3 fm):=
 tU (g:=bg cg bV aF bu aI aB bD bz) F iu (fun cdv A outer s H E hr=>(aE (bT (i:=3) iu.nd rfl (by first | exact Or.inl rfl | exact Or.inr rfl) (JD.e (aY (i:=0) (bB hr) az (fun _ _=>rfl))))
  (aE (cK (JW.t (wm (bF (bK hr.units) (JE.d (ah 3)) aT) (mJ (bF (bK hr.units) (JE.d (ah 3)) aT)))) (aV (bw (bW Ah (JE.d (fu (aA (JE.d (gm (bK hr.units) (JE.d (ah 3)) aT)) aZ))) (JE.d (bW cH (iW (i:=1) rfl gM) az))))) cz)
  (aE (cK (bF (bK hr.units) (JE.d (ah 3)) aT) (aV (bw (bW cH (JE.d (rM (Jh (i:=0) rfl (by decide) rfl (by decide) rfl rfl (by decide) (by decide) rfl rfl rfl) rfl (tR (JE.d (ah 1))) (fun _ _ _ _=>kF) (fun _ _ _ _=>(JE.d (aR Oh hr rfl Ol Oj Oi (aD (aY (i:=1) (bB hr) az (fun _ _=>rfl)) (aD (JE.d (ah 0)) bq))))))) (JE.d (fu (aA nH aZ)))))) cz)
  (aE (cK (bF (bK hr.units) (JE.d (ah 3)) aT) (aV (bw (aR E3 hr rfl E6 E5 E4 (aD (JE.d (aR pe hr rfl pA pq pg (aD (JE.d (ah 0)) (aD (JE.d (ah 1)) (bE (ah 2) bq))))) bq)))) cz)
  (aE (cK (bF (bK hr.units) (JE.d (ah 3)) aT) (aV (bw (aR sR hr rfl sV sU sS (aD (JE.d (aR pe hr rfl pA pq pg (aD (JE.d (ah 0)) (aD (JE.d (ah 1)) (bE (ah 2) bq))))) bq)))) cz)
  (aE (bT (i:=4) iu.nd rfl (by first | exact Or.inl rfl | exact Or.inr rfl) (aR jL hr rfl jO jN jM (aD (aY (i:=0) (bB hr) (JE.d (we nh az)) (fun _ _=>rfl)) (aD (JE.d (ah 1)) (bE (ah 2) bq)))))
  (aE (cK (bF (bK hr.units) (JE.d (ah 3)) aT) (aV (bw (aR jv hr rfl jy jx jw (aD (JE.d (ah 4)) bq)))) cz)
  (aE (cK (bF (bK hr.units) (JE.d (ah 3)) aT) (aV (bw (bW cH (JE.d (iB (JE.d (ah 4)) (iK az) jq)) (JE.d (fu (aA nH aZ)))))) cz)
  (aE (cK (bF (bK hr.units) (JE.d (ah 3)) aT) (aV (bw (aR E3 hr rfl E6 E5 E4 (aD (JE.d (iB (JE.d (ah 4)) jq (iK (JE.d (we nh az))))) bq)))) cz)
  (aE (cK (bF (bK hr.units) (JE.d (ah 3)) aT) (aV (bw (aR sR hr rfl sV sU sS (aD (JE.d (iB (JE.d (ah 4)) jq (iK (JE.d (we nh az))))) bq)))) cz)
  (aE (cK (bF (bK hr.units) (JE.d (ah 3)) aT) (aV (bw (aR V6 hr rfl V9 V8 V7 (aD (aY (i:=0) (bB hr) az (fun _ _=>rfl)) (aD (JE.d (iB (JE.d (ah 4)) jq (iK (JE.d (we nh az))))) bq))))) cz)
  (aE (bT (i:=5) iu.nd rfl (by first | exact Or.inl rfl | exact Or.inr rfl) (aR jL hr rfl jO jN jM (aD (aY (i:=0) (bB hr) az (fun _ _=>rfl)) (aD (JE.d (ah 1)) (bE (ah 2) bq)))))
  (aE (cK (bF (bK hr.units) (JE.d (ah 3)) aT) (aV (bw (zy ⟨(kX (by decide) (by decide) rfl (by decide) rfl),rfl,by decide⟩ rfl (EC rfl DH (aA (JE.d (ah 5)) (aA (JE.d (ah 4)) aZ))) (fun _ _ _ _=>kF) (fun _ _ _ _=>(qE (JE.d (ah 0)) (ng (JE.d (ah 1)))))))) cz)
  (aE (cK (bF (bK hr.units) (JE.d (ah 3)) aT) (aV (bw (zy ⟨(kX (by decide) (by decide) rfl (by decide) rfl),rfl,by decide⟩ rfl (EC rfl DH (aA (JE.d (ah 5)) (aA (JE.d (ah 4)) aZ))) (fun _ _ _ _=>kF) (fun _ _ _ _=>(IQ (JE.d (ah 0)) (ng (JE.d (ah 1)))))))) cz)
  (aV (bw (aR xF hr rfl xJ xH xG (aD (JE.d (iB (JE.d (ah 5)) jq (iK (JE.d (we nh az))))) (aD (JE.d (iB (JE.d (ah 4)) jq (iK (JE.d (we nh az))))) bq)))))))))))))))))))) hf
noncomputable abbrev cX:Stmt:=top 13
theorem gz:cD ["saying","row","known","truths","place","happening","part"] ["saying","row","known"] (aG cX):=⟨rfl,rfl,rfl,by decide +kernel,rfl,by decide +kernel,by decide +kernel⟩
theorem uB {P:Program}{w:World}{K:PySem.W.Frag}{mg:Str->Option Value}{base:Heap}{f:Addr}{fd:FuncData}{n:Nat}{fm:FM}(F:p8 K "at_happenings" "at_happenings" cX f fd) (qT:mg "enumerate" =none)
  {lK:Addr}{o8:FuncData}{gq:FM}(xA:cy P w K mg base fY n lK o8 ["saying","x","k"] (spT K 3 gq)) (xB:Binds K o8 ["saying","x","k"] []) (xC:PySem.W.keepIn K (.ref lK)=true) (xD:mg "put_for" =some (.ref lK))
  {eU:Addr}{iF:FuncData}{aI:FM}(jL:cy P w K mg base fY n eU iF ["saying","row","known"] (spT K 3 aI)) (jM:Binds K iF ["saying","row","known"] []) (jN:PySem.W.keepIn K (.ref eU)=true) (jO:mg "truths_of" =some (.ref eU))
  (hf:∀us r,fm us=some r->aL 7 (cW gq aI) us=some r):cy P w K mg base fY (n+1) f fd ["saying","row","known"] (spT K 3 fm):=
 tU (g:=cW gq aI) F gz (fun cdv A outer s H E hr=>(aE (bT (i:=3) gz.nd rfl (by first | exact Or.inl rfl | exact Or.inr rfl) (fu aZ))
  (aE (ML PassesOwn.never rfl (MK rfl qT (aA (JE.d (ah 1)) aZ)) (CZ rfl (mK (i8 (i:=4) gz.nd rfl (by first | exact Or.inl rfl | exact Or.inr rfl)) (mK (i8 (i:=5) gz.nd rfl (by first | exact Or.inl rfl | exact Or.inr rfl)) Aa))) (aV (cK (bF (bK hr.units) (aY (i:=5) (bB hr) az (fun _ _=>rfl)) (aY (i:=0) (bB hr) az (fun _ _=>rfl))) (aE (bT (i:=6) gz.nd rfl (by first | exact Or.inl rfl | exact Or.inr rfl) (aR xA hr rfl xD xC xB (aD (aY (i:=0) (bB hr) az (fun _ _=>rfl)) (aD (aY (i:=0) (bB hr) az (fun _ _=>rfl)) (aD (aY (i:=5) (bB hr) az (fun _ _=>rfl)) bq)))))
  (aV (rH (JD.e (rJ (i:=3) PySem.F.slot_list_append PySem.F.type_list_append pM pO pS (aA (JE.d (kq qc (JE.d (aR jL hr rfl jO jN jM (aD (JE.d (ah 6)) (aD (JE.d (ah 1)) (bE (ah 2) bq))))) (JE.d (ah 4)) (fun _ _=>rfl))) aZ)))))) (aV (rH (JD.e (rJ (i:=3) PySem.F.slot_list_append PySem.F.type_list_append pM pO pS (aA (JE.d (gm (bK hr.units) (aY (i:=0) (bB hr) az (fun _ _=>rfl)) aT)) aZ))))))))
  (aV (bw (ah 3)))))) hf
noncomputable abbrev fG:Stmt:=top 14
theorem uC:cD ["truths"] ["truths"] (aG fG):=⟨rfl,rfl,rfl,by decide +kernel,rfl,by decide +kernel,by decide +kernel⟩
theorem uD {P:Program}{w:World}{K:PySem.W.Frag}{mg:Str->Option Value}{base:Heap}{f:Addr}{fd:FuncData}{n:Nat}{fm:FM}(F:p8 K "turned_truths" "turned_truths" fG f fd)
  (hf:∀us r,fm us=some r->aL 1 (gY) us=some r):cy P w K mg base fY (n+1) f fd ["truths"] (spT K 1 fm):=
 tU (g:=gY) F uC (fun cdv A outer s H E hr=>(aV (bw (rM (kX (by decide) (by decide) rfl (by decide) rfl) rfl (tR (JE.d (ah 0))) (fun _ _ _ _=>kF) (fun _ _ _ _=>(IS (JE.d (ah 0)))))))) hf
noncomputable abbrev kQ:Stmt:=top 15
theorem nD:cD ["stays","comes","truths","stay","come"] ["stays","comes"] (aG kQ):=⟨rfl,rfl,rfl,by decide +kernel,rfl,by decide +kernel,by decide +kernel⟩
theorem DI {P:Program}{w:World}{K:PySem.W.Frag}{mg:Str->Option Value}{base:Heap}{f:Addr}{fd:FuncData}{n:Nat}{fm:FM}(F:p8 K "come_to" "come_to" kQ f fd) (nM:mg "list" =none) (DH:mg "zip" =none) (uE:mg "reversed" =none)
  (hf:∀us r,fm us=some r->aL 5 (mU) us=some r):cy P w K mg base fY (n+1) f fd ["stays","comes"] (spT K 2 fm):=
 tU (g:=mU) F nD (fun cdv A outer s H E hr=>(aE (bT (i:=2) nD.nd rfl (by first | exact Or.inl rfl | exact Or.inr rfl) (fu (aA nH aZ)))
  (aE (qF PassesOwn.never rfl (QM rfl uE (aA (JE.d (Df rfl rfl nM rfl DH (aA (JE.d (ah 0)) (aA (JE.d (ah 1)) aZ)))) aZ)) (CZ rfl (mK (i8 (i:=3) nD.nd rfl (by first | exact Or.inl rfl | exact Or.inr rfl)) (mK (i8 (i:=4) nD.nd rfl (by first | exact Or.inl rfl | exact Or.inr rfl)) Aa))) (aV (rH (JD.e (rJ (i:=2) PySem.F.slot_list_append PySem.F.type_list_append pM pO pS (aA (IQ (JE.d (ah 4)) (ng (qE (JE.d (ah 3)) (ng (aY (i:=2) (bB hr) (JE.d (we nh az)) (fun _ _=>rfl)))))) aZ))))))
  (aE (rH (JD.e (Ja (i:=2) PySem.F.slot_list_reverse PySem.F.type_list_reverse CV C1 C5)))
  (aV (bw (ah 2))))))) hf
noncomputable abbrev kR:Stmt:=top 16
theorem DJ:cD ["truths"] ["truths"] (aG kR):=⟨rfl,rfl,rfl,by decide +kernel,rfl,by decide +kernel,by decide +kernel⟩
theorem DK {P:Program}{w:World}{K:PySem.W.Frag}{mg:Str->Option Value}{base:Heap}{f:Addr}{fd:FuncData}{n:Nat}{fm:FM}(F:p8 K "at_some" "at_some" kR f fd) (gM:mg "len" =none)
  {lO:Addr}{pC:FuncData}{bz:FM}(xF:cy P w K mg base fY n lO pC ["stays","comes"] (spT K 2 bz)) (xG:Binds K pC ["stays","comes"] []) (xH:PySem.W.keepIn K (.ref lO)=true) (xJ:mg "come_to" =some (.ref lO))
  (hf:∀us r,fm us=some r->aL 1 (kP bz) us=some r):cy P w K mg base fY (n+1) f fd ["truths"] (spT K 1 fm):=
 tU (g:=kP bz) F DJ (fun cdv A outer s H E hr=>(aV (bw (aR xF hr rfl xJ xH xG (aD (JE.d (bW Ah (JE.d (fu (aA nH aZ))) (iW (i:=0) rfl gM))) (aD (JE.d (ah 0)) bq)))))) hf
noncomputable abbrev mZ:Stmt:=top 17
theorem G5:cD ["truths"] ["truths"] (aG mZ):=⟨rfl,rfl,rfl,by decide +kernel,rfl,by decide +kernel,by decide +kernel⟩
theorem G6 {P:Program}{w:World}{K:PySem.W.Frag}{mg:Str->Option Value}{base:Heap}{f:Addr}{fd:FuncData}{n:Nat}{fm:FM}(F:p8 K "at_all" "at_all" mZ f fd)
  {eV:Addr}{iG:FuncData}{aB:FM}(jv:cy P w K mg base fY n eV iG ["truths"] (spT K 1 aB)) (jw:Binds K iG ["truths"] []) (jx:PySem.W.keepIn K (.ref eV)=true) (jy:mg "turned_truths" =some (.ref eV))
  {lN:Addr}{pB:FuncData}{bu:FM}(sR:cy P w K mg base fY n lN pB ["truths"] (spT K 1 bu)) (sS:Binds K pB ["truths"] []) (sU:PySem.W.keepIn K (.ref lN)=true) (sV:mg "at_some" =some (.ref lN))
  (hf:∀us r,fm us=some r->aL 1 (mV aB bu) us=some r):cy P w K mg base fY (n+1) f fd ["truths"] (spT K 1 fm):=
 tU (g:=mV aB bu) F G5 (fun cdv A outer s H E hr=>(aV (bw (aR jv hr rfl jy jx jw (aD (JE.d (aR sR hr rfl sV sU sS (aD (JE.d (aR jv hr rfl jy jx jw (aD (JE.d (ah 0)) bq))) bq))) bq))))) hf
noncomputable abbrev uF:Stmt:=top 18
theorem Om:cD ["n","truths"] ["n","truths"] (aG uF):=⟨rfl,rfl,rfl,by decide +kernel,rfl,by decide +kernel,by decide +kernel⟩
theorem Oo {P:Program}{w:World}{K:PySem.W.Frag}{mg:Str->Option Value}{base:Heap}{f:Addr}{fd:FuncData}{n:Nat}{fm:FM}(F:p8 K "soon" "soon" uF f fd) (gM:mg "len" =none) (ig:mg "range" =none) (many:mg "any" =none)
  (hf:∀us r,fm us=some r->aL 2 (AF) us=some r):cy P w K mg base fY (n+1) f fd ["n","truths"] (spT K 2 fm):=
 tU (g:=AF) F Om (fun cdv A outer s H E hr=>(aV (bw (rM (nk (cE:=["n","truths"]) (cap:=[0,1]) rfl (by decide) rfl (by decide) rfl rfl (by decide) (by first | exact Or.inl rfl | exact Or.inr rfl) (by decide) rfl rfl rfl) rfl (kN rfl ig (aA (JE.d (bW cH (iW (i:=1) rfl gM) az)) aZ)) (fun _ _ _ _=>kF) (fun _ _ _ _=>(JE.d (rC (FH rfl) rfl many PyProof.Rows.Boot.any (aA (JE.d (iB (JE.d (ah 2)) (iK (JE.d (ah 0))) (iK (JE.d (bW cH (JE.d (ah 0)) (JE.d (ah 1))))))) aZ)))))))) hf
noncomputable abbrev jg:Stmt:=top 20
theorem nF:cD ["_law_script","_law_at","_law_cell"] ["_law_script","_law_at"] (aG jg):=⟨rfl,rfl,rfl,by decide +kernel,rfl,by decide +kernel,by decide +kernel⟩
theorem AR {P:Program}{w:World}{K:PySem.W.Frag}{mg:Str->Option Value}{base:Heap}{f:Addr}{fd:FuncData}{n:Nat}{fm:FM}(F:p8 K "_law_tape" "_law_tape" jg f fd) (gM:mg "len" =none) (Sj:mg "max" =none)
  (hf:∀us r,fm us=some r->aL 3 (j0) us=some r):cy P w K mg base fY (n+1) f fd ["_law_script","_law_at"] (spT K 2 fm):=
 tU (g:=j0) F nF (fun cdv A outer s H E hr=>(aE (bT (i:=2) nF.nd rfl (by first | exact Or.inl rfl | exact Or.inr rfl) (ah 1))
  (aE (cK (bF tL (iW (i:=0) rfl gM) az) (aV (bT (i:=2) nF.nd rfl (by first | exact Or.inl rfl | exact Or.inr rfl) (bW cH (aY (i:=0) (bB hr) (JE.d (bW jV (JE.d (ah 1)) (iW (i:=0) rfl gM))) (fun _ _=>rfl)) (JE.d (bW z6 (JE.d (ah 1)) (iW (i:=0) rfl gM)))))) cz)
  (aV (bw (Ew (hk:=Nat.le_of_ble_eq_true rfl) (oE (JE.d (ah 2)) (oE (JE.d (rC (C3 rfl) rfl Sj PyProof.Rows.Boot.max (aA az (aA (JE.d (bW gI (JE.d (ah 2)) (JE.d (bW Mr az az)))) aZ)))) (oE az Eu))))))))) hf
noncomputable abbrev jh:Stmt:=top 21
theorem jz:cD ["_law_tape_here","_law_many","_law_turn","_law_found","_law_mixed"] ["_law_tape_here","_law_many"] (aG jh):=⟨rfl,rfl,rfl,by decide +kernel,rfl,by decide +kernel,by decide +kernel⟩
theorem AS {P:Program}{w:World}{K:PySem.W.Frag}{mg:Str->Option Value}{base:Heap}{f:Addr}{fd:FuncData}{n:Nat}{fm:FM}(F:p8 K "_law_pick" "_law_pick" jh f fd)
  (hf:∀us r,fm us=some r->aL 5 (jZ) us=some r):cy P w K mg base fY (n+1) f fd ["_law_tape_here","_law_many"] (spT K 2 fm):=
 tU (g:=jZ) F jz (fun cdv A outer s H E hr=>(aE (bT (i:=2) jz.nd rfl (by first | exact Or.inl rfl | exact Or.inr rfl) (bW cH (aY (i:=0) (bB hr) aT (fun _ _=>rfl)) az))
  (aE (wH (i:=0) (bB hr) aT (JE.d (ah 2)))
  (aE (cK (bF tL (aY (i:=0) (bB hr) aT (fun _ _=>rfl)) az) (aE (bT (i:=3) jz.nd rfl (by first | exact Or.inl rfl | exact Or.inr rfl) (bW jV (aY (i:=0) (bB hr) aT (fun _ _=>rfl)) (JE.d (ah 1))))
  (aE (wH (i:=0) (bB hr) aT (JE.d (bW z6 (aY (i:=0) (bB hr) aT (fun _ _=>rfl)) (JE.d (ah 1)))))
  (aV (bw (ah 3))))) cz)
  (aE (bT (i:=4) jz.nd rfl (by first | exact Or.inl rfl | exact Or.inr rfl) (bW pN (JE.d (bW cH (JE.d (bW cH (JE.d (bW jV (aY (i:=0) (bB hr) aT (fun _ _=>rfl)) az)) (JE.d (bW pN (JE.d (bW pN az (JE.d (ah 2)))) (JE.d (ah 2)))))) az)) az))
  (aE (bT (i:=4) jz.nd rfl (by first | exact Or.inl rfl | exact Or.inr rfl) (bW pN (JE.d (bW cH (JE.d (bW jV (JE.d (ah 4)) az)) (JE.d (bW pN az (JE.d (ah 2)))))) az))
  (aV (bw (bW jV (JE.d (bW z6 (JE.d (bW jV (JE.d (ah 4)) az)) az)) (JE.d (ah 1))))))))))) hf
noncomputable abbrev iQ:Stmt:=top 22
theorem yz:cD [] [] (aG iQ):=⟨rfl,rfl,rfl,by decide +kernel,rfl,by decide +kernel,by decide +kernel⟩
theorem yC {P:Program}{w:World}{K:PySem.W.Frag}{mg:Str->Option Value}{base:Heap}{f:Addr}{fd:FuncData}{n:Nat}{fm:FM}(F:p8 K "_law_names" "_law_names" iQ f fd)
  (hf:∀us r,fm us=some r->aL 0 (kG) us=some r):cy P w K mg base fY (n+1) f fd [] (spT K 0 fm):=
 tU (g:=kG) F yz (fun cdv A outer s H E hr=>(aV (bw (fu (aA aT (aA aT (aA aT (aA aT (aA aT (aA aT (aA aT (aA aT aZ)))))))))))) hf
noncomputable abbrev iR:Stmt:=top 23
theorem dH:cD ["_law_tape_here","_law_names_here","_law_table_here","_law_left","_law_k","_law_name","_law_most"] ["_law_tape_here"] (aG iR):=⟨rfl,rfl,rfl,by decide +kernel,rfl,by decide +kernel,by decide +kernel⟩
theorem yD {P:Program}{w:World}{K:PySem.W.Frag}{mg:Str->Option Value}{base:Heap}{f:Addr}{fd:FuncData}{n:Nat}{fm:FM}(F:p8 K "_law_table" "_law_table" iR f fd) (ig:mg "range" =none) (gM:mg "len" =none) (Sk:mg "min" =none)
  {pD:Addr}{uW:FuncData}{iC:FM}(Ce:cy P w K mg base fY n pD uW [] (spT K 0 iC)) (Cf:Binds K uW [] []) (Cg:PySem.W.keepIn K (.ref pD)=true) (Ci:mg "_law_names" =some (.ref pD))
  {cj:Addr}{cL:FuncData}{au:FM}(bL:cy P w K mg base fY n cj cL ["_law_tape_here","_law_many"] (spT K 2 au)) (bM:Binds K cL ["_law_tape_here","_law_many"] []) (bN:PySem.W.keepIn K (.ref cj)=true) (bO:mg "_law_pick" =some (.ref cj))
  (hf:∀us r,fm us=some r->aL 7 (kH iC au) us=some r):cy P w K mg base fY (n+1) f fd ["_law_tape_here"] (spT K 1 fm):=
 tU (g:=kH iC au) F dH (fun cdv A outer s H E hr=>(aE (bT (i:=1) dH.nd rfl (by first | exact Or.inl rfl | exact Or.inr rfl) (Ji Ce hr rfl Ci Cg Cf))
  (aE (bT (i:=2) dH.nd rfl (by first | exact Or.inl rfl | exact Or.inr rfl) (dX aZ))
  (aE (bT (i:=3) dH.nd rfl (by first | exact Or.inl rfl | exact Or.inr rfl) (JD.e az))
  (aE (qF PassesOwn.never rfl (kN rfl ig (aA (JE.d (kq qc (JE.d (fu (aA az (aA az (aA az (aA az (aA az aZ))))))) (JE.d (aR bL hr rfl bO bN bM (bE (ah 0) (aD az bq)))) (fun _ _=>rfl))) aZ)) (i8 (i:=4) dH.nd rfl (by first | exact Or.inl rfl | exact Or.inr rfl)) (aE (bT (i:=5) dH.nd rfl (by first | exact Or.inl rfl | exact Or.inr rfl) (JD.e (rJ (i:=1) PySem.F.slot_list_pop PySem.F.type_list_pop Im Jb Jj (aA (JE.d (aR bL hr rfl bO bN bM (bE (ah 0) (aD (iW (i:=1) rfl gM) bq)))) aZ))))
  (aE (bT (i:=6) dH.nd rfl (by first | exact Or.inl rfl | exact Or.inr rfl) (rC (C2 rfl) rfl Sk PyProof.Rows.Boot.min (aA az (aA (JE.d (bW cH (JE.d (bW gI (JE.d (ah 3)) az)) (JE.d (ah 4)))) (aA (JE.d (aR bL hr rfl bO bN bM (bE (ah 0) (aD az bq)))) aZ)))))
  (aE (bT (i:=2) dH.nd rfl (by first | exact Or.inl rfl | exact Or.inr rfl) (bW cH (JE.d (ah 2)) (JE.d (dX (aA (JE.d (dX (aA (JE.d (ah 5)) (aA (JE.d (ah 6)) aZ)))) aZ)))))
  (aV (bT (i:=3) dH.nd rfl (by first | exact Or.inl rfl | exact Or.inr rfl) (bW gI (JE.d (bW gI (JE.d (ah 3)) (JE.d (ah 6)))) az)))))))
  (aV (bw (ah 2)))))))) hf
noncomputable abbrev jP:Stmt:=top 24
theorem ji:cD ["_law_tape_here","_law_table_here","_law_most","_law_row_here","_law_k","_law_name","_law_highest"] ["_law_tape_here","_law_table_here","_law_most"] (aG jP):=⟨rfl,rfl,rfl,by decide +kernel,rfl,by decide +kernel,by decide +kernel⟩
theorem Cj {P:Program}{w:World}{K:PySem.W.Frag}{mg:Str->Option Value}{base:Heap}{f:Addr}{fd:FuncData}{n:Nat}{fm:FM}(F:p8 K "_law_row" "_law_row" jP f fd) (ig:mg "range" =none) (gM:mg "len" =none)
  {cj:Addr}{cL:FuncData}{au:FM}(bL:cy P w K mg base fY n cj cL ["_law_tape_here","_law_many"] (spT K 2 au)) (bM:Binds K cL ["_law_tape_here","_law_many"] []) (bN:PySem.W.keepIn K (.ref cj)=true) (bO:mg "_law_pick" =some (.ref cj))
  (hf:∀us r,fm us=some r->aL 7 (nq au) us=some r):cy P w K mg base fY (n+1) f fd ["_law_tape_here","_law_table_here","_law_most"] (spT K 3 fm):=
 tU (g:=nq au) F ji (fun cdv A outer s H E hr=>(aE (bT (i:=3) ji.nd rfl (by first | exact Or.inl rfl | exact Or.inr rfl) (dX aZ))
  (aE (qF PassesOwn.never rfl (kN rfl ig (aA (JE.d (aR bL hr rfl bO bN bM (bE (ah 0) (aD (JE.d (bW cH (JE.d (ah 2)) az)) bq)))) aZ)) (i8 (i:=4) ji.nd rfl (by first | exact Or.inl rfl | exact Or.inr rfl)) (aE (Qn (aY (i:=1) (bB hr) (JE.d (aR bL hr rfl bO bN bM (bE (ah 0) (aD (iW (i:=1) rfl gM) bq)))) (fun _ _=>rfl)) (CZ rfl (mK (i8 (i:=5) ji.nd rfl (by first | exact Or.inl rfl | exact Or.inr rfl)) (mK (i8 (i:=6) ji.nd rfl (by first | exact Or.inl rfl | exact Or.inr rfl)) Aa))))
  (aV (bT (i:=3) ji.nd rfl (by first | exact Or.inl rfl | exact Or.inr rfl) (bW cH (JE.d (ah 3)) (JE.d (dX (aA (JE.d (dX (aA (JE.d (ah 5)) (aA (JE.d (aR bL hr rfl bO bN bM (bE (ah 0) (aD (JE.d (bW cH (JE.d (ah 6)) az)) bq)))) aZ)))) aZ))))))))
  (aV (bw (ah 3)))))) hf
noncomputable abbrev jk:Stmt:=top 25
theorem kL:cD ["_law_tape_here","_law_names_here","_law_variables","_law_way","_law_number"] ["_law_tape_here","_law_names_here","_law_variables"] (aG jk):=⟨rfl,rfl,rfl,by decide +kernel,rfl,by decide +kernel,by decide +kernel⟩
theorem AU {P:Program}{w:World}{K:PySem.W.Frag}{mg:Str->Option Value}{base:Heap}{f:Addr}{fd:FuncData}{n:Nat}{fm:FM}(F:p8 K "_law_test" "_law_test" jk f fd) (gM:mg "len" =none)
  {cj:Addr}{cL:FuncData}{au:FM}(bL:cy P w K mg base fY n cj cL ["_law_tape_here","_law_many"] (spT K 2 au)) (bM:Binds K cL ["_law_tape_here","_law_many"] []) (bN:PySem.W.keepIn K (.ref cj)=true) (bO:mg "_law_pick" =some (.ref cj))
  (hf:∀us r,fm us=some r->aL 5 (fP au) us=some r):cy P w K mg base fY (n+1) f fd ["_law_tape_here","_law_names_here","_law_variables"] (spT K 3 fm):=
 tU (g:=fP au) F kL (fun cdv A outer s H E hr=>(aE (bT (i:=3) kL.nd rfl (by first | exact Or.inl rfl | exact Or.inr rfl) (aR bL hr rfl bO bN bM (bE (ah 0) (aD az bq))))
  (aE (cK (bF (bK hr.units) (JE.d (ah 3)) az) (aV (bw (dX (aA aT aZ)))) cz)
  (aE (cK (bF (bK hr.units) (JE.d (ah 3)) az) (aV (bw (dX (aA aT (aA (aY (i:=1) (bB hr) (JE.d (aR bL hr rfl bO bN bM (bE (ah 0) (aD (iW (i:=1) rfl gM) bq)))) (fun _ _=>rfl)) aZ))))) cz)
  (aE (bT (i:=4) kL.nd rfl (by first | exact Or.inl rfl | exact Or.inr rfl) (kq qc (JE.d (fu (aA az (aA az (aA az (aA az (aA az (aA az aZ)))))))) (JE.d (aR bL hr rfl bO bN bM (bE (ah 0) (aD az bq)))) (fun _ _=>rfl)))
  (aE (cK (JW.t (wk (bF (qI hr.units) (JE.d (ah 2)) (JE.d (dX aZ))) (kZ (bF tL (JE.d (aR bL hr rfl bO bN bM (bE (ah 0) (aD az bq)))) az)))) (aV (bT (i:=4) kL.nd rfl (by first | exact Or.inl rfl | exact Or.inr rfl) (JD.e (aY (i:=2) (bB hr) (JE.d (aR bL hr rfl bO bN bM (bE (ah 0) (aD (iW (i:=2) rfl gM) bq)))) (fun _ _=>rfl))))) cz)
  (aV (bw (dX (aA (JE.d (kq qc (JE.d (fu (aA aT (aA aT (aA aT aZ))))) (JE.d (bW gI (JE.d (ah 3)) az)) (fun _ _=>rfl))) (aA (JE.d (ah 4)) aZ))))))))))) hf
noncomputable abbrev dZ:Stmt:=top 26
theorem gf:cD ["_law_tape_here","_law_world","_law_variables","_law_room","_law_deep","_law_way","_law_names_here","_law_x","_law_head"] ["_law_tape_here","_law_world","_law_variables","_law_room","_law_deep"] (aG dZ):=⟨rfl,rfl,rfl,by decide +kernel,rfl,by decide +kernel,by decide +kernel⟩
theorem yE {P:Program}{w:World}{K:PySem.W.Frag}{mg:Str->Option Value}{base:Heap}{f:Addr}{fd:FuncData}{n:Nat}{fm:FM}(F:p8 K "_law_inner" "_law_inner" dZ f fd) (gM:mg "len" =none)
  {cj:Addr}{cL:FuncData}{au:FM}(bL:cy P w K mg base fY n cj cL ["_law_tape_here","_law_many"] (spT K 2 au)) (bM:Binds K cL ["_law_tape_here","_law_many"] []) (bN:PySem.W.keepIn K (.ref cj)=true) (bO:mg "_law_pick" =some (.ref cj))
  {dw:Addr}{fT:FuncData}{bY:FM}(gO:cy P w K mg base fY n dw fT ["_law_tape_here","_law_world","_law_variables","_law_room","_law_deep"] (spT K 5 bY)) (gP:Binds K fT ["_law_tape_here","_law_world","_law_variables","_law_room","_law_deep"] []) (gQ:PySem.W.keepIn K (.ref dw)=true) (gR:mg "_law_saying" =some (.ref dw))
  (hf:∀us r,fm us=some r->aL 9 (cV au bY) us=some r):cy P w K mg base fY (n+1) f fd ["_law_tape_here","_law_world","_law_variables","_law_room","_law_deep"] (spT K 5 fm):=
 tU (g:=cV au bY) F gf (fun cdv A outer s H E hr=>(aE (bT (i:=5) gf.nd rfl (by first | exact Or.inl rfl | exact Or.inr rfl) (aR bL hr rfl bO bN bM (bE (ah 0) (aD az bq))))
  (aE (cK (JW.t (wk (bF mj (JE.d (ah 5)) az) (kZ (bF mj (aY (i:=1) (bB hr) aT (fun _ _=>rfl)) az)))) (aE (wH (i:=1) (bB hr) aT (JE.d (bW cH (aY (i:=1) (bB hr) aT (fun _ _=>rfl)) az)))
  (aE (bT (i:=6) gf.nd rfl (by first | exact Or.inl rfl | exact Or.inr rfl) (JD.e (aY (i:=1) (bB hr) aT (fun _ _=>rfl))))
  (aE (bT (i:=7) gf.nd rfl (by first | exact Or.inl rfl | exact Or.inr rfl) (kq qc (JE.d (fu (aA aT (aA aT (aA aT (aA aT aZ)))))) (JE.d (aR bL hr rfl bO bN bM (bE (ah 0) (aD az bq)))) (fun _ _=>rfl)))
  (aE (bT (i:=8) gf.nd rfl (by first | exact Or.inl rfl | exact Or.inr rfl) (dX (aA (JE.d (kq qc (JE.d (fu (aA aT (aA aT aZ)))) (JE.d (bW jV (JE.d (ah 5)) az)) (fun _ _=>rfl))) (aA (aY (i:=6) (bB hr) (JE.d (aR bL hr rfl bO bN bM (bE (ah 0) (aD (iW (i:=6) rfl gM) bq)))) (fun _ _=>rfl)) (aA (JE.d (ah 7)) aZ)))))
  (aV (bw (bW cH (JE.d (ah 8)) (JE.d (dX (aA (JE.d (aR gO hr rfl gR gQ gP (bE (ah 0) (bE (ah 1) (aD (JE.d (bW cH (JE.d (ah 2)) (JE.d (dX (aA (JE.d (ah 7)) aZ))))) (aD (JE.d (bW gI (JE.d (ah 3)) az)) (aD (JE.d (bW gI (JE.d (ah 4)) az)) bq))))))) aZ)))))))))) cz)
  (aE (bT (i:=8) gf.nd rfl (by first | exact Or.inl rfl | exact Or.inr rfl) (dX (aA (JE.d (kq qc (JE.d (fu (aA aT (aA aT (aA aT (aA aT aZ)))))) (JE.d (bW jV (JE.d (ah 5)) az)) (fun _ _=>rfl))) aZ)))
  (aE (cK (bF (bK hr.units) (JE.d (ah 5)) az) (aV (bT (i:=8) gf.nd rfl (by first | exact Or.inl rfl | exact Or.inr rfl) (dX (aA aT (aA (JE.d (aR bL hr rfl bO bN bM (bE (ah 0) (aD az bq)))) aZ))))) cz)
  (aV (bw (bW cH (JE.d (ah 8)) (JE.d (dX (aA (JE.d (aR gO hr rfl gR gQ gP (bE (ah 0) (bE (ah 1) (aD (JE.d (ah 2)) (aD (JE.d (bW gI (JE.d (ah 3)) az)) (aD (JE.d (bW gI (JE.d (ah 4)) az)) bq))))))) aZ))))))))))) hf
noncomputable abbrev dI:Stmt:=top 27
theorem iH:cD ["_law_tape_here","_law_world","_law_variables","_law_room","_law_deep","_law_way","_law_first","_law_one","_law_other"] ["_law_tape_here","_law_world","_law_variables","_law_room","_law_deep"] (aG dI):=⟨rfl,rfl,rfl,by decide +kernel,rfl,by decide +kernel,by decide +kernel⟩
theorem xK {P:Program}{w:World}{K:PySem.W.Frag}{mg:Str->Option Value}{base:Heap}{f:Addr}{fd:FuncData}{n:Nat}{fm:FM}(F:p8 K "_law_saying" "_law_saying" dI f fd)
  {cj:Addr}{cL:FuncData}{au:FM}(bL:cy P w K mg base fY n cj cL ["_law_tape_here","_law_many"] (spT K 2 au)) (bM:Binds K cL ["_law_tape_here","_law_many"] []) (bN:PySem.W.keepIn K (.ref cj)=true) (bO:mg "_law_pick" =some (.ref cj))
  {qU:Addr}{xM:FuncData}{lI:FM}(DL:cy P w K mg base fY n qU xM ["_law_tape_here","_law_names_here","_law_variables"] (spT K 3 lI)) (DM:Binds K xM ["_law_tape_here","_law_names_here","_law_variables"] []) (DN:PySem.W.keepIn K (.ref qU)=true) (DO:mg "_law_test" =some (.ref qU))
  {dw:Addr}{fT:FuncData}{bY:FM}(gO:cy P w K mg base fY n dw fT ["_law_tape_here","_law_world","_law_variables","_law_room","_law_deep"] (spT K 5 bY)) (gP:Binds K fT ["_law_tape_here","_law_world","_law_variables","_law_room","_law_deep"] []) (gQ:PySem.W.keepIn K (.ref dw)=true) (gR:mg "_law_saying" =some (.ref dw))
  {pF:Addr}{uX:FuncData}{j6:FM}(Ck:cy P w K mg base fY n pF uX ["_law_tape_here","_law_world","_law_variables","_law_room","_law_deep"] (spT K 5 j6)) (Cm:Binds K uX ["_law_tape_here","_law_world","_law_variables","_law_room","_law_deep"] []) (Cn:PySem.W.keepIn K (.ref pF)=true) (Co:mg "_law_inner" =some (.ref pF))
  (hf:∀us r,fm us=some r->aL 9 (bZ au lI bY j6) us=some r):cy P w K mg base fY (n+1) f fd ["_law_tape_here","_law_world","_law_variables","_law_room","_law_deep"] (spT K 5 fm):=
 tU (g:=bZ au lI bY j6) F iH (fun cdv A outer s H E hr=>(aE (bT (i:=5) iH.nd rfl (by first | exact Or.inl rfl | exact Or.inr rfl) (aR bL hr rfl bO bN bM (bE (ah 0) (aD az bq))))
  (aE (cK (JW.t (wm (bF mj (JE.d (ah 3)) az) (wm (bF mj (JE.d (ah 4)) az) (mJ (bF (bK hr.units) (JE.d (ah 5)) az))))) (aE (cK (bF (bK hr.units) (JE.d (bW jV (JE.d (ah 5)) az)) az) (aV (bw (dX (aA (JE.d (kq qc (JE.d (fu (aA aT (aA aT aZ)))) (JE.d (aR bL hr rfl bO bN bM (bE (ah 0) (aD az bq)))) (fun _ _=>rfl))) aZ)))) cz)
  (aV (bw (dX (aA aT (aA (JE.d (aR DL hr rfl DO DN DM (bE (ah 0) (aD (aY (i:=1) (bB hr) aT (fun _ _=>rfl)) (aD (JE.d (ah 2)) bq))))) aZ)))))) cz)
  (aE (cK (JW.t (wk (bF mj (JE.d (ah 5)) az) (kZ (bF tL (JE.d (ah 3)) az)))) (aE (bT (i:=6) iH.nd rfl (by first | exact Or.inl rfl | exact Or.inr rfl) (bW cH az (JE.d (aR bL hr rfl bO bN bM (bE (ah 0) (aD (JE.d (bW gI (JE.d (ah 3)) az)) bq))))))
  (aE (bT (i:=7) iH.nd rfl (by first | exact Or.inl rfl | exact Or.inr rfl) (aR gO hr rfl gR gQ gP (bE (ah 0) (bE (ah 1) (aD (JE.d (ah 2)) (aD (JE.d (ah 6)) (aD (JE.d (bW gI (JE.d (ah 4)) az)) bq)))))))
  (aE (bT (i:=8) iH.nd rfl (by first | exact Or.inl rfl | exact Or.inr rfl) (aR gO hr rfl gR gQ gP (bE (ah 0) (bE (ah 1) (aD (JE.d (ah 2)) (aD (JE.d (bW gI (JE.d (bW gI (JE.d (ah 3)) az)) (JE.d (ah 6)))) (aD (JE.d (bW gI (JE.d (ah 4)) az)) bq)))))))
  (aV (bw (dX (aA (JE.d (kq qc (JE.d (fu (aA aT (aA aT (aA aT (aA aT aZ)))))) (JE.d (bW gI (JE.d (ah 5)) az)) (fun _ _=>rfl))) (aA (JE.d (ah 7)) (aA (JE.d (ah 8)) aZ))))))))) cz)
  (aV (bw (aR Ck hr rfl Co Cn Cm (bE (ah 0) (bE (ah 1) (aD (JE.d (ah 2)) (aD (JE.d (ah 3)) (aD (JE.d (ah 4)) bq)))))))))))) hf
noncomputable abbrev iS:Stmt:=top 28
theorem yF:cD ["_law_tape_here","_law_names_here","_law_room","_law_deep"] ["_law_tape_here","_law_names_here","_law_room","_law_deep"] (aG iS):=⟨rfl,rfl,rfl,by decide +kernel,rfl,by decide +kernel,by decide +kernel⟩
theorem yG {P:Program}{w:World}{K:PySem.W.Frag}{mg:Str->Option Value}{base:Heap}{f:Addr}{fd:FuncData}{n:Nat}{fm:FM}(F:p8 K "_law_whole" "_law_whole" iS f fd)
  {dw:Addr}{fT:FuncData}{bY:FM}(gO:cy P w K mg base fY n dw fT ["_law_tape_here","_law_world","_law_variables","_law_room","_law_deep"] (spT K 5 bY)) (gP:Binds K fT ["_law_tape_here","_law_world","_law_variables","_law_room","_law_deep"] []) (gQ:PySem.W.keepIn K (.ref dw)=true) (gR:mg "_law_saying" =some (.ref dw))
  (hf:∀us r,fm us=some r->aL 4 (iN bY) us=some r):cy P w K mg base fY (n+1) f fd ["_law_tape_here","_law_names_here","_law_room","_law_deep"] (spT K 4 fm):=
 tU (g:=iN bY) F yF (fun cdv A outer s H E hr=>(aV (bw (aR gO hr rfl gR gQ gP (bE (ah 0) (bE (Ew (hk:=Nat.le_of_ble_eq_true rfl) (oE (JE.d (ah 1)) (oE az Eu))) (aD (JE.d (dX aZ)) (aD (JE.d (ah 2)) (aD (JE.d (ah 3)) bq))))))))) hf
noncomputable abbrev g8:Stmt:=top 29
theorem pG:cD ["_law_test_here","_law_happening","_law_known","_law_number"] ["_law_test_here","_law_happening","_law_known"] (aG g8):=⟨rfl,rfl,rfl,by decide +kernel,rfl,by decide +kernel,by decide +kernel⟩
theorem xN {P:Program}{w:World}{K:PySem.W.Frag}{mg:Str->Option Value}{base:Heap}{f:Addr}{fd:FuncData}{n:Nat}{fm:FM}(F:p8 K "_law_passes" "_law_passes" g8 f fd)
  (hf:∀us r,fm us=some r->aL 4 (cT) us=some r):cy P w K mg base fY (n+1) f fd ["_law_test_here","_law_happening","_law_known"] (spT K 3 fm):=
 tU (g:=cT) F pG (fun cdv A outer s H E hr=>(aE (cK (bF (bK hr.units) (aY (i:=0) (bB hr) az (fun _ _=>rfl)) aT) (aV (bw (JD.e nH))) cz)
  (aE (cK (bF (bK hr.units) (aY (i:=0) (bB hr) az (fun _ _=>rfl)) aT) (aV (bw (gm (bK hr.units) (aY (i:=1) (bB hr) az (fun _ _=>rfl)) (aY (i:=0) (bB hr) az (fun _ _=>rfl))))) cz)
  (aE (bT (i:=3) pG.nd rfl (by first | exact Or.inl rfl | exact Or.inr rfl) (JD.e (MV (i:=2) (bB hr) (aY (i:=0) (bB hr) az (fun _ _=>rfl)) (aY (i:=0) (bB hr) az (fun _ _=>rfl)))))
  (aE (cK (bF (bK hr.units) (aY (i:=0) (bB hr) az (fun _ _=>rfl)) aT) (aV (bw (gm mj (aY (i:=1) (bB hr) az (fun _ _=>rfl)) (JE.d (ah 3))))) cz)
  (aV (bw (IT (bF (bK hr.units) (aY (i:=0) (bB hr) az (fun _ _=>rfl)) aT) (gm (bK hr.units) (aY (i:=1) (bB hr) az (fun _ _=>rfl)) (JE.d (ah 3))) (gm tL (aY (i:=1) (bB hr) az (fun _ _=>rfl)) (JE.d (ah 3))))))))))) hf
noncomputable abbrev d7:Stmt:=top 30
theorem yH:cD ["_law_saying_here","_law_row_here","_law_places","_law_known"] ["_law_saying_here","_law_row_here","_law_places","_law_known"] (aG d7):=⟨rfl,rfl,rfl,by decide +kernel,rfl,by decide +kernel,by decide +kernel⟩
theorem yI {P:Program}{w:World}{K:PySem.W.Frag}{mg:Str->Option Value}{base:Heap}{f:Addr}{fd:FuncData}{n:Nat}{fm:FM}(F:p8 K "_law_where" "_law_where" d7 f fd)
  {dO:Addr}{gH:FuncData}{ao:FM}(fU:cy P w K mg base fY n dO gH ["_law_saying_here","_law_row_here","_law_at","_law_known"] (spT K 4 ao)) (fV:Binds K gH ["_law_saying_here","_law_row_here","_law_at","_law_known"] []) (fW:PySem.W.keepIn K (.ref dO)=true) (fX:mg "_law_holds" =some (.ref dO))
  (hf:∀us r,fm us=some r->aL 4 (gK ao) us=some r):cy P w K mg base fY (n+1) f fd ["_law_saying_here","_law_row_here","_law_places","_law_known"] (spT K 4 fm):=
 tU (g:=gK ao) F yH (fun cdv A outer s H E hr=>(aV (bw (rM (nk (cE:=["_law_known","_law_row_here","_law_saying_here"]) (cap:=[3,1,0]) rfl (by decide) rfl (by decide) rfl rfl (by decide) (by first | exact Or.inl rfl | exact Or.inr rfl) (by decide) rfl rfl rfl) rfl (tR (JE.d (ah 2))) (fun _ _ _ _=>(Mu (z4 (JE.d (aR fU hr rfl fX fW fV (aD (JE.d (ah 3)) (aD (JE.d (ah 2)) (aD (JE.d (ah 0)) (bE (ah 1) bq))))))))) (fun _ _ _ _=>(JE.d (ah 0))))))) hf
noncomputable abbrev d8:Stmt:=top 31
theorem dJ:cD ["_law_saying_here","_law_row_here","_law_at","_law_known","_law_head","_law_rest","_law_found","_law_spots","_law_ahead","_law_k","_law_inner_here"] ["_law_saying_here","_law_row_here","_law_at","_law_known"] (aG d8):=⟨rfl,rfl,rfl,by decide +kernel,rfl,by decide +kernel,by decide +kernel⟩
theorem yJ {P:Program}{w:World}{K:PySem.W.Frag}{mg:Str->Option Value}{base:Heap}{f:Addr}{fd:FuncData}{n:Nat}{fm:FM}(F:p8 K "_law_holds" "_law_holds" d8 f fd) (gM:mg "len" =none) (nM:mg "list" =none) (ig:mg "range" =none) (Lu:mg "dict" =none)
  {nG:Addr}{sW:FuncData}{aN:FM}(AV:cy P w K mg base fY n nG sW ["_law_test_here","_law_happening","_law_known"] (spT K 3 aN)) (AW:Binds K sW ["_law_test_here","_law_happening","_law_known"] []) (AX:PySem.W.keepIn K (.ref nG)=true) (AY:mg "_law_passes" =some (.ref nG))
  {dO:Addr}{gH:FuncData}{ao:FM}(fU:cy P w K mg base fY n dO gH ["_law_saying_here","_law_row_here","_law_at","_law_known"] (spT K 4 ao)) (fV:Binds K gH ["_law_saying_here","_law_row_here","_law_at","_law_known"] []) (fW:PySem.W.keepIn K (.ref dO)=true) (fX:mg "_law_holds" =some (.ref dO))
  {pH:Addr}{uY:FuncData}{aJ:FM}(j7:cy P w K mg base fY n pH uY ["_law_saying_here","_law_row_here","_law_places","_law_known"] (spT K 4 aJ)) (j8:Binds K uY ["_law_saying_here","_law_row_here","_law_places","_law_known"] []) (j9:PySem.W.keepIn K (.ref pH)=true) (kg:mg "_law_where" =some (.ref pH))
  (hf:∀us r,fm us=some r->aL 11 (bH aN ao aJ) us=some r):cy P w K mg base fY (n+1) f fd ["_law_saying_here","_law_row_here","_law_at","_law_known"] (spT K 4 fm):=
 tU (g:=bH aN ao aJ) F dJ (fun cdv A outer s H E hr=>(aE (bT (i:=4) dJ.nd rfl (by first | exact Or.inl rfl | exact Or.inr rfl) (JD.e (aY (i:=0) (bB hr) az (fun _ _=>rfl))))
  (aE (bT (i:=5) dJ.nd rfl (by first | exact Or.inl rfl | exact Or.inr rfl) (uQ rfl rfl nM rfl ig (aA (JE.d (ah 2)) (aA (iW (i:=1) rfl gM) aZ))))
  (aE (cK (bF (Qs hr.units) (JE.d (ah 4)) (JE.d (dX (aA aT (aA aT aZ)))) (by with_unfolding_all rfl)) (aV (bw (gm (bK hr.units) (JE.d (ah 4)) aT))) cz)
  (aE (cK (bF (bK hr.units) (JE.d (ah 4)) aT) (aV (bw (JD.e (qE (JE.d (gm mj (JE.d (ah 2)) (iW (i:=1) rfl gM))) (ng (JE.d (aR AV hr rfl AY AX AW (aD (aY (i:=0) (bB hr) az (fun _ _=>rfl)) (aD (aY (i:=1) (bB hr) (JE.d (ah 2)) (fun _ _=>rfl)) (bE (ah 3) bq)))))))))) cz)
  (aE (cK (bF (bK hr.units) (JE.d (ah 4)) aT) (aV (bw (JD.e (IS (JE.d (aR fU hr rfl fX fW fV (aD (aY (i:=0) (bB hr) az (fun _ _=>rfl)) (aD (JE.d (ah 1)) (aD (JE.d (ah 2)) (bE (ah 3) bq)))))))))) cz)
  (aE (cK (JW.t (wm (bF (bK hr.units) (JE.d (ah 4)) aT) (mJ (bF (bK hr.units) (JE.d (ah 4)) aT)))) (aE (Jd (i:=6) dJ.nd rfl (by first | exact Or.inl rfl | exact Or.inr rfl) (nk (cE:=["_law_at","_law_known","_law_row_here"]) (cap:=[2,3,1]) rfl (by decide) rfl (by decide) rfl rfl (by decide) (by first | exact Or.inl rfl | exact Or.inr rfl) (by decide) rfl rfl rfl) rfl (tR (JE.d (iB (JE.d (ah 0)) (iK az) jq))) (fun _ _ _ _=>kF) (fun _ _ _ _=>(JE.d (aR fU hr rfl fX fW fV (aD (JE.d (ah 0)) (aD (JE.d (ah 3)) (aD (JE.d (ah 1)) (bE (ah 2) bq))))))))
  (aV (bw (IT (bF (bK hr.units) (JE.d (ah 4)) aT) (JD.e (qE (aY (i:=6) (bB hr) az (fun _ _=>rfl)) (ng (aY (i:=6) (bB hr) az (fun _ _=>rfl))))) (JD.e (IQ (aY (i:=6) (bB hr) az (fun _ _=>rfl)) (ng (aY (i:=6) (bB hr) az (fun _ _=>rfl))))))))) cz)
  (aE (cK (bF (bK hr.units) (JE.d (ah 4)) aT) (aV (bw (JD.e (qE (JE.d (gm mj (JE.d (ah 2)) (iW (i:=1) rfl gM))) (ng (JE.d (aR fU hr rfl fX fW fV (aD (aY (i:=0) (bB hr) az (fun _ _=>rfl)) (aD (JE.d (ah 1)) (aD (JE.d (bW cH (JE.d (ah 2)) az)) (bE (ah 3) bq))))))))))) cz)
  (aE (cK (bF (bK hr.units) (JE.d (ah 4)) aT) (aE (bT (i:=7) dJ.nd rfl (by first | exact Or.inl rfl | exact Or.inr rfl) (aR j7 hr rfl kg j9 j8 (aD (aY (i:=0) (bB hr) az (fun _ _=>rfl)) (aD (JE.d (ah 1)) (aD (JE.d (ah 5)) (bE (ah 3) bq))))))
  (aE (cK (bF (bK hr.units) (JE.d (ah 7)) (JE.d (fu aZ))) (aV (bw (JD.e nH))) cz)
  (aE (bT (i:=8) dJ.nd rfl (by first | exact Or.inl rfl | exact Or.inr rfl) (uQ rfl rfl nM rfl ig (aA (JE.d (ah 2)) (aA (aY (i:=7) (bB hr) az (fun _ _=>rfl)) aZ))))
  (aV (bw (gm (bK hr.units) (JE.d (aR j7 hr rfl kg j9 j8 (aD (aY (i:=0) (bB hr) az (fun _ _=>rfl)) (aD (JE.d (ah 1)) (aD (JE.d (ah 8)) (bE (ah 3) bq)))))) (JE.d (ah 8)))))))) cz)
  (aE (cK (bF (bK hr.units) (JE.d (ah 4)) aT) (aV (bw (gm (qI hr.units) (JE.d (aR j7 hr rfl kg j9 j8 (aD (aY (i:=0) (bB hr) az (fun _ _=>rfl)) (aD (JE.d (ah 1)) (aD (JE.d (iB (JE.d (ah 5)) jq (iK (aY (i:=0) (bB hr) az (fun _ _=>rfl))))) (bE (ah 3) bq)))))) (JE.d (fu aZ))))) cz)
  (aE (cK (bF (bK hr.units) (JE.d (ah 4)) aT) (aV (bw (gm (bK hr.units) (JE.d (aR j7 hr rfl kg j9 j8 (aD (aY (i:=0) (bB hr) az (fun _ _=>rfl)) (aD (JE.d (ah 1)) (aD (JE.d (ah 5)) (bE (ah 3) bq)))))) (JE.d (ah 5))))) cz)
  (aE (cK (bF (bK hr.units) (JE.d (ah 4)) aT) (aV (bw (gm (qI hr.units) (JE.d (aR j7 hr rfl kg j9 j8 (aD (aY (i:=0) (bB hr) az (fun _ _=>rfl)) (aD (JE.d (ah 1)) (aD (JE.d (ah 5)) (bE (ah 3) bq)))))) (JE.d (fu aZ))))) cz)
  (aE (bT (i:=6) dJ.nd rfl (by first | exact Or.inl rfl | exact Or.inr rfl) (fu aZ))
  (aE (qF PassesOwn.never rfl (tR (JE.d (ah 5))) (i8 (i:=9) dJ.nd rfl (by first | exact Or.inl rfl | exact Or.inr rfl)) (aV (cK (bF (bK hr.units) (JE.d (kq qc (aY (i:=1) (bB hr) (JE.d (ah 9)) (fun _ _=>rfl)) az (fun _ _=>rfl))) (aY (i:=0) (bB hr) az (fun _ _=>rfl))) (aE (bT (i:=10) dJ.nd rfl (by first | exact Or.inl rfl | exact Or.inr rfl) (JJ (i:=3) rfl Lu))
  (aE (wH (i:=10) (bB hr) (aY (i:=0) (bB hr) az (fun _ _=>rfl)) (JE.d (kq qc (aY (i:=1) (bB hr) (JE.d (ah 9)) (fun _ _=>rfl)) az (fun _ _=>rfl))))
  (aV (rH (JD.e (rJ (i:=6) PySem.F.slot_list_append PySem.F.type_list_append pM pO pS (aA (JE.d (aR fU hr rfl fX fW fV (aD (aY (i:=0) (bB hr) az (fun _ _=>rfl)) (aD (JE.d (ah 1)) (aD (JE.d (ah 9)) (bE (ah 10) bq)))))) aZ))))))) cz)))
  (aV (bw (IT (bF (bK hr.units) (JE.d (ah 4)) aT) (JD.e (FO (i:=6) hr.units nH)) (JD.e (Qv (i:=6) hr.units nH))))))))))))))))))) hf
noncomputable abbrev sX:Stmt:=top 32
theorem jQ:cD ["_law_script","_law_k","_law_tape_here","_law_table_here","_law_names_here","_law_saying_here","_law_again","_law_row_here","_law_handed","_law_at","_law_found"] ["_law_script"] (aG sX):=⟨rfl,rfl,rfl,by decide +kernel,rfl,by decide +kernel,by decide +kernel⟩
theorem Sl {P:Program}{w:World}{K:PySem.W.Frag}{mg:Str->Option Value}{base:Heap}{f:Addr}{fd:FuncData}{n:Nat}{fm:FM}(F:p8 K "law" "law" sX f fd) (gM:mg "len" =none) (ig:mg "range" =none) (Sm:mg "int" =none) (uy:mg "tuple" =none) (nM:mg "list" =none) (iE:mg "isinstance" =none) (E7:mg "bool" =none)
  {qV:Addr}{xO:FuncData}{aW:FM}(DP:cy P w K mg base fY n qV xO ["_law_script","_law_at"] (spT K 2 aW)) (DQ:Binds K xO ["_law_script","_law_at"] []) (DR:PySem.W.keepIn K (.ref qV)=true) (DS:mg "_law_tape" =some (.ref qV))
  {pI:Addr}{uZ:FuncData}{aO:FM}(Cp:cy P w K mg base fY n pI uZ ["_law_tape_here"] (spT K 1 aO)) (Cq:Binds K uZ ["_law_tape_here"] []) (Cr:PySem.W.keepIn K (.ref pI)=true) (Cs:mg "_law_table" =some (.ref pI))
  {pJ:Addr}{u5:FuncData}{aP:FM}(Ct:cy P w K mg base fY n pJ u5 ["_law_tape_here","_law_names_here","_law_room","_law_deep"] (spT K 4 aP)) (Cu:Binds K u5 ["_law_tape_here","_law_names_here","_law_room","_law_deep"] []) (Cv:PySem.W.keepIn K (.ref pJ)=true) (Cw:mg "_law_whole" =some (.ref pJ))
  {cj:Addr}{cL:FuncData}{au:FM}(bL:cy P w K mg base fY n cj cL ["_law_tape_here","_law_many"] (spT K 2 au)) (bM:Binds K cL ["_law_tape_here","_law_many"] []) (bN:PySem.W.keepIn K (.ref cj)=true) (bO:mg "_law_pick" =some (.ref cj))
  {uG:Addr}{zJ:FuncData}{br:FM}(G7:cy P w K mg base fY n uG zJ ["_law_tape_here","_law_table_here","_law_most"] (spT K 3 br)) (G8:Binds K zJ ["_law_tape_here","_law_table_here","_law_most"] []) (G9:PySem.W.keepIn K (.ref uG)=true) (Hf:mg "_law_row" =some (.ref uG))
  {qR:Addr}{xE:FuncData}{cA:FM}(DC:cy P w K mg base fY n qR xE ["saying","row","place"] (spT K 3 cA)) (DE:Binds K xE ["saying","row","place"] []) (DF:PySem.W.keepIn K (.ref qR)=true) (DG:mg "holds" =some (.ref qR))
  {dO:Addr}{gH:FuncData}{ao:FM}(fU:cy P w K mg base fY n dO gH ["_law_saying_here","_law_row_here","_law_at","_law_known"] (spT K 4 ao)) (fV:Binds K gH ["_law_saying_here","_law_row_here","_law_at","_law_known"] []) (fW:PySem.W.keepIn K (.ref dO)=true) (fX:mg "_law_holds" =some (.ref dO))
  {Lv:Addr}{O0:FuncData}{dm:FM}(Wa:cy P w K mg base fY n Lv O0 ["saying","row"] (spT K 2 dm)) (Wb:Binds K O0 ["saying","row"] []) (Wc:PySem.W.keepIn K (.ref Lv)=true) (Wd:mg "fits" =some (.ref Lv))
  (hf:∀us r,fm us=some r->aL 11 (Sh.Cb aW aO aP au br cA ao dm) us=some r):cy P w K mg base fY (n+1) f fd ["_law_script"] (spT K 1 fm):=
 tU (g:=Sh.Cb aW aO aP au br cA ao dm) F jQ (fun cdv A outer s H E hr=>(aE (qF PassesOwn.never rfl (kN rfl ig (aA (JE.d (bW cH az (JE.d (rC FD rfl gM PySem.boot_len (aA (JE.d (FJ (i:=0) jq (iK az))) aZ))))) aZ)) (i8 (i:=1) jQ.nd rfl (by first | exact Or.inl rfl | exact Or.inr rfl)) (aE (bT (i:=2) jQ.nd rfl (by first | exact Or.inl rfl | exact Or.inr rfl) (aR DP hr rfl DS DR DQ (bE (ah 0) (aD (JE.d (ah 1)) bq))))
  (aE (bT (i:=3) jQ.nd rfl (by first | exact Or.inl rfl | exact Or.inr rfl) (aR Cp hr rfl Cs Cr Cq (bE (ah 2) bq)))
  (aE (bT (i:=4) jQ.nd rfl (by first | exact Or.inl rfl | exact Or.inr rfl) (bW cH (JE.d (bW Ah (JE.d (BI ⟨(kX (by decide) (by decide) rfl (by decide) rfl),rfl,by decide⟩ rfl (IX (JE.d (ah 3))) (fun _ _ _ _=>kF) (fun _ _ _ _=>(JE.d (ah 0))))) az)) (JE.d (fu (aA aT aZ)))))
  (aE (bT (i:=5) jQ.nd rfl (by first | exact Or.inl rfl | exact Or.inr rfl) (aR Ct hr rfl Cw Cv Cu (bE (ah 2) (aD (JE.d (ah 4)) (aD (JE.d (bW cH az (JE.d (aR bL hr rfl bO bN bM (bE (ah 2) (aD az bq)))))) (aD (JE.d (bW cH az (JE.d (aR bL hr rfl bO bN bM (bE (ah 2) (aD az bq)))))) bq))))))
  (aV (qF PassesOwn.never rfl (kN rfl ig (aA az aZ)) (i8 (i:=6) jQ.nd rfl (by first | exact Or.inl rfl | exact Or.inr rfl)) (aE (bT (i:=7) jQ.nd rfl (by first | exact Or.inl rfl | exact Or.inr rfl) (aR G7 hr rfl Hf G9 G8 (bE (ah 2) (aD (JE.d (ah 3)) (aD az bq)))))
  (aE (cK (bF (bK hr.units) (JE.d (aR bL hr rfl bO bN bM (bE (ah 2) (aD az bq)))) az) (aV (bT (i:=7) jQ.nd rfl (by first | exact Or.inl rfl | exact Or.inr rfl) (kM uN rfl uy PyProof.Rows.Boot.tuple (aA (JE.d (BI ⟨(kX (by decide) (by decide) rfl (by decide) rfl),rfl,by decide⟩ rfl (IX (JE.d (ah 7))) (fun _ _ _ _=>kF) (fun _ _ _ _=>(JE.d (dX (aA (JE.d (kq qc (JE.d (fu (aA aT (aA (JE.d (ah 0)) aZ)))) (JE.d (kM FP rfl Sm PyProof.Rows.Boot.int (aA (JE.d (gm mj (JE.d (ah 1)) az)) aZ))) (fun _ _=>rfl))) (aA (JE.d (bW jV (JE.d (bW cH (JE.d (bW pN (JE.d (ah 1)) az)) az)) az)) aZ))))))) aZ)))) cz)
  (aE (bT (i:=8) jQ.nd rfl (by first | exact Or.inl rfl | exact Or.inr rfl) (kq qc (JE.d (fu (aA (JE.d (ah 7)) (aA (JE.d (kM qK rfl nM PyProof.Rows.Boot.list (aA (JE.d (ah 7)) aZ))) aZ)))) (JE.d (ah 6)) (fun _ _=>rfl)))
  (aE (qF PassesOwn.never rfl (kN rfl ig (aA (JE.d (bW cH (iW (i:=7) rfl gM) az)) aZ)) (i8 (i:=9) jQ.nd rfl (by first | exact Or.inl rfl | exact Or.inr rfl)) (aE (bT (i:=10) jQ.nd rfl (by first | exact Or.inl rfl | exact Or.inr rfl) (aR DC hr rfl DG DF DE (aD (JE.d (ah 5)) (aD (JE.d (ah 8)) (aD (JE.d (ah 9)) bq)))))
  (aV (cK (JW.t (wm (IP (z4 (tV rfl iE rfl E7 PyProof.Rows.Boot.bool (JE.d (ah 10))))) (mJ (bF (qI hr.units) (JE.d (ah 10)) (JE.d (aR fU hr rfl fX fW fV (aD (JE.d (ah 5)) (aD (JE.d (ah 7)) (aD (JE.d (ah 9)) (bE ED bq)))))))))) (aV (bw (JD.e nH))) cz))))
  (aE (bT (i:=10) jQ.nd rfl (by first | exact Or.inl rfl | exact Or.inr rfl) (aR Wa hr rfl Wd Wc Wb (aD (JE.d (ah 5)) (aD (JE.d (ah 8)) bq))))
  (aV (cK (JW.t (wm (IP (z4 (tV rfl iE rfl E7 PyProof.Rows.Boot.bool (JE.d (ah 10))))) (wm (bF (qI hr.units) (JE.d (ah 10)) (JE.d (aR fU hr rfl fX fW fV (aD (JE.d (ah 5)) (aD (JE.d (ah 7)) (aD az (bE ED bq))))))) (mJ (bF (qI hr.units) (JE.d (kM qK rfl nM PyProof.Rows.Boot.list (aA (JE.d (ah 8)) aZ))) (JE.d (kM qK rfl nM PyProof.Rows.Boot.list (aA (JE.d (ah 7)) aZ)))))))) (aV (bw (JD.e nH))) cz))))))))))))))
  (aV (bw (JD.e nH))))) hf
end K08
end
namespace K08
open PySem L2 Sw Ss Sn Sp Sh
set_option maxHeartbeats 0 in
theorem all_mk {l:PySem.W.OpenLaw}{w:World}{K:PySem.W.Frag}{h:Heap}{mg:Str->Option Value}{fa f1 f2 f3 f4 f5 f6 f7 f8 f9 f10 f11 f12 f13 f14 f15 f16 f17 f18 f19 f20 X8 Yb f23 f24 Yc Yd f27:Addr}(X:K.In h) (G:h.Ns mainGlobals mg) (US:mg "law" =some (.ref fa))
  {od1 an1 od2 an2 od3 an3 od4 an4 od5 an5 od6 an6 od7 an7 od8 an8 od9 an9 abl abm abn abo abp abq abr abt abu abv abw abx aby abz abA abB abC abD abE abF abG abH abI We abJ Wf abK abL abM abN abO Wg abP Wh abQ Wi:Option Addr}{sl1 sl2 sl3 sl4 sl5 sl6 sl7 sl8 sl9 abR abS abT abU abV abW abX abY abZ ab0 ab1 ab2 ab3 ab4 ab5 ab6 ab7 ab8:Array (Option Value)} {oc1 kV1 dc1 pm1 cd1 ct1 oc2 kV2 dc2 pm2 cd2 ct2 oc3 kV3 dc3 pm3 cd3 ct3 oc4 kV4 dc4 pm4 cd4 ct4 oc5 kV5 dc5 pm5 cd5 ct5 oc6 kV6 dc6 pm6 cd6 ct6 oc7 kV7 dc7 pm7 cd7 ct7 oc8 kV8 dc8 pm8 cd8 ct8 oc9 kV9 dc9 pm9 cd9 ct9 acg ach aci acj Wj ack acm acn aco acp Wk acq acr acs acu acv Wl acw acy acz acA acB Wm acC acD acE acF acG Wn acH acI acJ acK acL Wo acM acN acO acP acQ Wq acR acS acT acU acV Wr acW acX acY acZ ac0 Ws ac1 ac2 ac3 ac4 ac5 Wt ac6 ac7 ac8 ac9 ada Wu adb ade Wv Ww Wx So Wy adf Wz WA WB Su WC adg adh adi adk WD adl adm adn ado adp WE adq ads WG WH WI Sv WJ adt WK WL WM Sx WN adu WO WQ WR Sz WS:Value}{kK:Addr}{Cy:List DictEntry}{Lw:Nat}{o7:Addr}{uH:List Value}{Hg:Nat}{Hh:Option Addr}{Hi:Array (Option Value)}
  (a1:PySem.W.nsIn K mainGlobals "passes" =some (some (.ref f1))) (l1:K.lookup f1=some ⟨oc1,od1,.func (PySem.W.fnOf "passes" "passes" (bU mY) (bQ mY) (aG mY) .none kV1 dc1 pm1 an1 cd1 ct1),sl1⟩) (c1:PySem.W.codeIn K cd1 "passes" =true) (k1:PySem.W.keepIn K (.ref f1)=true)
  (a2:PySem.W.nsIn K mainGlobals "parts_of" =some (some (.ref f2))) (l2:K.lookup f2=some ⟨oc2,od2,.func (PySem.W.fnOf "parts_of" "parts_of" (bU jK) (bQ jK) (aG jK) .none kV2 dc2 pm2 an2 cd2 ct2),sl2⟩) (c2:PySem.W.codeIn K cd2 "parts_of" =true) (k2:PySem.W.keepIn K (.ref f2)=true)
  (a3:PySem.W.nsIn K mainGlobals "has_variable" =some (some (.ref f3))) (l3:K.lookup f3=some ⟨oc3,od3,.func (PySem.W.fnOf "has_variable" "has_variable" (bU gw) (bQ gw) (aG gw) .none kV3 dc3 pm3 an3 cd3 ct3),sl3⟩) (c3:PySem.W.codeIn K cd3 "has_variable" =true) (k3:PySem.W.keepIn K (.ref f3)=true)
  (a4:PySem.W.nsIn K mainGlobals "put_for" =some (some (.ref f4))) (l4:K.lookup f4=some ⟨oc4,od4,.func (PySem.W.fnOf "put_for" "put_for" (bU iP) (bQ iP) (aG iP) .none kV4 dc4 pm4 an4 cd4 ct4),sl4⟩) (c4:PySem.W.codeIn K cd4 "put_for" =true) (k4:PySem.W.keepIn K (.ref f4)=true)
  (a5:PySem.W.nsIn K mainGlobals "holds" =some (some (.ref f5))) (l5:K.lookup f5=some ⟨oc5,od5,.func (PySem.W.fnOf "holds" "holds" (bU p6) (bQ p6) (aG p6) .none kV5 dc5 pm5 an5 cd5 ct5),sl5⟩) (c5:PySem.W.codeIn K cd5 "holds" =true) (k5:PySem.W.keepIn K (.ref f5)=true)
  (a6:PySem.W.nsIn K mainGlobals "fits" =some (some (.ref f6))) (l6:K.lookup f6=some ⟨oc6,od6,.func (PySem.W.fnOf "fits" "fits" (bU uA) (bQ uA) (aG uA) .none kV6 dc6 pm6 an6 cd6 ct6),sl6⟩) (c6:PySem.W.codeIn K cd6 "fits" =true) (k6:PySem.W.keepIn K (.ref f6)=true)
  (a7:PySem.W.nsIn K mainGlobals "truths_of" =some (some (.ref f7))) (l7:K.lookup f7=some ⟨oc7,od7,.func (PySem.W.fnOf "truths_of" "truths_of" (bU fR) (bQ fR) (aG fR) .none kV7 dc7 pm7 an7 cd7 ct7),sl7⟩) (c7:PySem.W.codeIn K cd7 "truths_of" =true) (k7:PySem.W.keepIn K (.ref f7)=true)
  (a8:PySem.W.nsIn K mainGlobals "truths_by_head" =some (some (.ref f8))) (l8:K.lookup f8=some ⟨oc8,od8,.func (PySem.W.fnOf "truths_by_head" "truths_by_head" (bU cN) (bQ cN) (aG cN) .none kV8 dc8 pm8 an8 cd8 ct8),sl8⟩) (c8:PySem.W.codeIn K cd8 "truths_by_head" =true) (k8:PySem.W.keepIn K (.ref f8)=true)
  (a9:PySem.W.nsIn K mainGlobals "at_happenings" =some (some (.ref f9))) (l9:K.lookup f9=some ⟨oc9,od9,.func (PySem.W.fnOf "at_happenings" "at_happenings" (bU cX) (bQ cX) (aG cX) .none kV9 dc9 pm9 an9 cd9 ct9),sl9⟩) (c9:PySem.W.codeIn K cd9 "at_happenings" =true) (k9:PySem.W.keepIn K (.ref f9)=true)
  (a10:PySem.W.nsIn K mainGlobals "turned_truths" =some (some (.ref f10))) (l10:K.lookup f10=some ⟨acg,abl,.func (PySem.W.fnOf "turned_truths" "turned_truths" (bU fG) (bQ fG) (aG fG) .none ach aci acj abm Wj ack),abR⟩) (c10:PySem.W.codeIn K Wj "turned_truths" =true) (RL:PySem.W.keepIn K (.ref f10)=true)
  (a11:PySem.W.nsIn K mainGlobals "come_to" =some (some (.ref f11))) (l11:K.lookup f11=some ⟨acm,abn,.func (PySem.W.fnOf "come_to" "come_to" (bU kQ) (bQ kQ) (aG kQ) .none acn aco acp abo Wk acq),abS⟩) (c11:PySem.W.codeIn K Wk "come_to" =true) (WT:PySem.W.keepIn K (.ref f11)=true)
  (a12:PySem.W.nsIn K mainGlobals "at_some" =some (some (.ref f12))) (l12:K.lookup f12=some ⟨acr,abp,.func (PySem.W.fnOf "at_some" "at_some" (bU kR) (bQ kR) (aG kR) .none acs acu acv abq Wl acw),abT⟩) (c12:PySem.W.codeIn K Wl "at_some" =true) (IA:PySem.W.keepIn K (.ref f12)=true)
  (a13:PySem.W.nsIn K mainGlobals "at_all" =some (some (.ref f13))) (l13:K.lookup f13=some ⟨acy,abr,.func (PySem.W.fnOf "at_all" "at_all" (bU mZ) (bQ mZ) (aG mZ) .none acz acA acB abt Wm acC),abU⟩) (c13:PySem.W.codeIn K Wm "at_all" =true) (Ye:PySem.W.keepIn K (.ref f13)=true)
  (a14:PySem.W.nsIn K mainGlobals "soon" =some (some (.ref f14))) (l14:K.lookup f14=some ⟨acD,abu,.func (PySem.W.fnOf "soon" "soon" (bU uF) (bQ uF) (aG uF) .none acE acF acG abv Wn acH),abV⟩) (c14:PySem.W.codeIn K Wn "soon" =true) (Yg:PySem.W.keepIn K (.ref f14)=true)
  (a15:PySem.W.nsIn K mainGlobals "_law_tape" =some (some (.ref f15))) (l15:K.lookup f15=some ⟨acI,abw,.func (PySem.W.fnOf "_law_tape" "_law_tape" (bU jg) (bQ jg) (aG jg) .none acJ acK acL abx Wo acM),abW⟩) (c15:PySem.W.codeIn K Wo "_law_tape" =true) (Yh:PySem.W.keepIn K (.ref f15)=true)
  (a16:PySem.W.nsIn K mainGlobals "_law_pick" =some (some (.ref f16))) (l16:K.lookup f16=some ⟨acN,aby,.func (PySem.W.fnOf "_law_pick" "_law_pick" (bU jh) (bQ jh) (aG jh) .none acO acP acQ abz Wq acR),abX⟩) (c16:PySem.W.codeIn K Wq "_law_pick" =true) (Oq:PySem.W.keepIn K (.ref f16)=true)
  (a17:PySem.W.nsIn K mainGlobals "_law_names" =some (some (.ref f17))) (l17:K.lookup f17=some ⟨acS,abA,.func (PySem.W.fnOf "_law_names" "_law_names" (bU iQ) (bQ iQ) (aG iQ) .none acT acU acV abB Wr acW),abY⟩) (c17:PySem.W.codeIn K Wr "_law_names" =true) (Yi:PySem.W.keepIn K (.ref f17)=true)
  (a18:PySem.W.nsIn K mainGlobals "_law_table" =some (some (.ref f18))) (l18:K.lookup f18=some ⟨acX,abC,.func (PySem.W.fnOf "_law_table" "_law_table" (bU iR) (bQ iR) (aG iR) .none acY acZ ac0 abD Ws ac1),abZ⟩) (c18:PySem.W.codeIn K Ws "_law_table" =true) (Yj:PySem.W.keepIn K (.ref f18)=true)
  (a19:PySem.W.nsIn K mainGlobals "_law_row" =some (some (.ref f19))) (l19:K.lookup f19=some ⟨ac2,abE,.func (PySem.W.fnOf "_law_row" "_law_row" (bU jP) (bQ jP) (aG jP) .none ac3 ac4 ac5 abF Wt ac6),ab0⟩) (c19:PySem.W.codeIn K Wt "_law_row" =true) (Yk:PySem.W.keepIn K (.ref f19)=true)
  (a20:PySem.W.nsIn K mainGlobals "_law_test" =some (some (.ref f20))) (l20:K.lookup f20=some ⟨ac7,abG,.func (PySem.W.fnOf "_law_test" "_law_test" (bU jk) (bQ jk) (aG jk) .none ac8 ac9 ada abH Wu adb),ab1⟩) (c20:PySem.W.codeIn K Wu "_law_test" =true) (Yl:PySem.W.keepIn K (.ref f20)=true)
  (a21:PySem.W.nsIn K mainGlobals "_law_inner" =some (some (.ref X8))) (l21:K.lookup X8=some ⟨ade,abI,.func (PySem.W.fnOf "_law_inner" "_law_inner" (bU dZ) (bQ dZ) (aG dZ) .none Wv Ww Wx We So Wy),ab2⟩) (c21:PySem.W.codeIn K So "_law_inner" =true) (Ym:PySem.W.keepIn K (.ref X8)=true)
  (a22:PySem.W.nsIn K mainGlobals "_law_saying" =some (some (.ref Yb))) (l22:K.lookup Yb=some ⟨adf,abJ,.func (PySem.W.fnOf "_law_saying" "_law_saying" (bU dI) (bQ dI) (aG dI) .none Wz WA WB Wf Su WC),ab3⟩) (c22:PySem.W.codeIn K Su "_law_saying" =true) (Tv:PySem.W.keepIn K (.ref Yb)=true)
  (a23:PySem.W.nsIn K mainGlobals "_law_whole" =some (some (.ref f23))) (l23:K.lookup f23=some ⟨adg,abK,.func (PySem.W.fnOf "_law_whole" "_law_whole" (bU iS) (bQ iS) (aG iS) .none adh adi adk abL WD adl),ab4⟩) (c23:PySem.W.codeIn K WD "_law_whole" =true) (Yn:PySem.W.keepIn K (.ref f23)=true)
  (a24:PySem.W.nsIn K mainGlobals "_law_passes" =some (some (.ref f24))) (l24:K.lookup f24=some ⟨adm,abM,.func (PySem.W.fnOf "_law_passes" "_law_passes" (bU g8) (bQ g8) (aG g8) .none adn ado adp abN WE adq),ab5⟩) (c24:PySem.W.codeIn K WE "_law_passes" =true) (Yo:PySem.W.keepIn K (.ref f24)=true)
  (a25:PySem.W.nsIn K mainGlobals "_law_where" =some (some (.ref Yc))) (l25:K.lookup Yc=some ⟨ads,abO,.func (PySem.W.fnOf "_law_where" "_law_where" (bU d7) (bQ d7) (aG d7) .none WG WH WI Wg Sv WJ),ab6⟩) (c25:PySem.W.codeIn K Sv "_law_where" =true) (Yp:PySem.W.keepIn K (.ref Yc)=true)
  (a26:PySem.W.nsIn K mainGlobals "_law_holds" =some (some (.ref Yd))) (l26:K.lookup Yd=some ⟨adt,abP,.func (PySem.W.fnOf "_law_holds" "_law_holds" (bU d8) (bQ d8) (aG d8) .none WK WL WM Wh Sx WN),ab7⟩) (c26:PySem.W.codeIn K Sx "_law_holds" =true) (Tw:PySem.W.keepIn K (.ref Yd)=true)
  (a27:PySem.W.nsIn K mainGlobals "law" =some (some (.ref f27))) (l27:K.lookup f27=some ⟨adu,abQ,.func (PySem.W.fnOf "law" "law" (bU sX) (bQ sX) (aG sX) .none WO WQ WR Wi Sz WS),ab8⟩) (c27:PySem.W.codeIn K Sz "law" =true) (k27:PySem.W.keepIn K (.ref f27)=true)
  (AZ:PySem.W.nsIn K mainGlobals "STARTS" =some (some (.ref kK))) (A0:K.lookup kK=some ⟨.type "dict",none,.dict Cy.toArray Lw,#[]⟩) (A1:(kK == sysModules)=false) (A2:wL w [("yes",1),("no",1),("now",2),("not",1),("both",1),("either",1),("next",1),("till",1),("within",2),("always",1),("some",1),("each",3),("one",3)] Cy)
  (xP:PySem.W.nsIn K mainGlobals "BINDERS" =some (some (.ref o7))) (xQ:K.lookup o7=some ⟨.type "tuple",Hh,.seq uH.toArray Hg,Hi⟩) (xR:uH.length<=1000) (xS:An ["each","one"] uH)
  (SD:PySem.W.nsIn K mainGlobals "len" =some none) (pK:PySem.W.nsIn K mainGlobals "isinstance" =some none) (SE:PySem.W.nsIn K mainGlobals "str" =some none) (DT:PySem.W.nsIn K mainGlobals "tuple" =some none) (SG:PySem.W.nsIn K mainGlobals "zip" =some none) (qW:PySem.W.nsIn K mainGlobals "enumerate" =some none) (Lx:PySem.W.nsIn K mainGlobals "list" =some none) (uI:PySem.W.nsIn K mainGlobals "reversed" =some none) (DU:PySem.W.nsIn K mainGlobals "range" =some none) (SH:PySem.W.nsIn K mainGlobals "any" =some none) (SI:PySem.W.nsIn K mainGlobals "max" =some none) (SJ:PySem.W.nsIn K mainGlobals "min" =some none) (zdict:PySem.W.nsIn K mainGlobals "dict" =some none) (SK:PySem.W.nsIn K mainGlobals "int" =some none) (Ly:PySem.W.nsIn K mainGlobals "bool" =some none):
  ∃fd:FuncData,(∀(s:Shared) (v:Value),BindsTo s fd ⟨[v],[]⟩ [("_law_script",v)])/\∀base:Heap,K.In base->base.Ns mainGlobals mg->cy l.prog w K mg base fY 37 fa fd ["_law_script"] (spT K 1 (Dm 63)):=by
 have e:=US.symm.trans (PySem.W.mg_of X G a27)
 cases e
 have F1:=dF (st:=mY) l1 c1 k1
 have b1:=F1.binds (ps:=["test","happening"]) fun _ _ _ _ _ _ us hl=>match us,hl with | [_,_],_=>rfl
 have n1:=PySem.W.mg_of X G a1
 have F2:=dF (st:=jK) l2 c2 k2
 have b2:=F2.binds (ps:=["saying"]) fun _ _ _ _ _ _ us hl=>match us,hl with | [_],_=>rfl
 have n2:=PySem.W.mg_of X G a2
 have F3:=dF (st:=gw) l3 c3 k3
 have b3:=F3.binds (ps:=["test"]) fun _ _ _ _ _ _ us hl=>match us,hl with | [_],_=>rfl
 have n3:=PySem.W.mg_of X G a3
 have F4:=dF (st:=iP) l4 c4 k4
 have b4:=F4.binds (ps:=["saying","x","k"]) fun _ _ _ _ _ _ us hl=>match us,hl with | [_,_,_],_=>rfl
 have n4:=PySem.W.mg_of X G a4
 have F5:=dF (st:=p6) l5 c5 k5
 have b5:=F5.binds (ps:=["saying","row","place"]) fun _ _ _ _ _ _ us hl=>match us,hl with | [_,_,_],_=>rfl
 have n5:=PySem.W.mg_of X G a5
 have F6:=dF (st:=uA) l6 c6 k6
 have b6:=F6.binds (ps:=["saying","row"]) fun _ _ _ _ _ _ us hl=>match us,hl with | [_,_],_=>rfl
 have n6:=PySem.W.mg_of X G a6
 have F7:=dF (st:=fR) l7 c7 k7
 have b7:=F7.binds (ps:=["saying","row","known"]) fun _ _ _ _ _ _ us hl=>match us,hl with | [_,_,_],_=>rfl
 have n7:=PySem.W.mg_of X G a7
 have F8:=dF (st:=cN) l8 c8 k8
 have b8:=F8.binds (ps:=["saying","row","known"]) fun _ _ _ _ _ _ us hl=>match us,hl with | [_,_,_],_=>rfl
 have n8:=PySem.W.mg_of X G a8
 have F9:=dF (st:=cX) l9 c9 k9
 have b9:=F9.binds (ps:=["saying","row","known"]) fun _ _ _ _ _ _ us hl=>match us,hl with | [_,_,_],_=>rfl
 have n9:=PySem.W.mg_of X G a9
 have F10:=dF (st:=fG) l10 c10 RL
 have b10:=F10.binds (ps:=["truths"]) fun _ _ _ _ _ _ us hl=>match us,hl with | [_],_=>rfl
 have X4:=PySem.W.mg_of X G a10
 have F11:=dF (st:=kQ) l11 c11 WT
 have b11:=F11.binds (ps:=["stays","comes"]) fun _ _ _ _ _ _ us hl=>match us,hl with | [_,_],_=>rfl
 have X5:=PySem.W.mg_of X G a11
 have F12:=dF (st:=kR) l12 c12 IA
 have b12:=F12.binds (ps:=["truths"]) fun _ _ _ _ _ _ us hl=>match us,hl with | [_],_=>rfl
 have n12:=PySem.W.mg_of X G a12
 have F13:=dF (st:=mZ) l13 c13 Ye
 have b13:=F13.binds (ps:=["truths"]) fun _ _ _ _ _ _ us hl=>match us,hl with | [_],_=>rfl
 have n13:=PySem.W.mg_of X G a13
 have F14:=dF (st:=uF) l14 c14 Yg
 have b14:=F14.binds (ps:=["n","truths"]) fun _ _ _ _ _ _ us hl=>match us,hl with | [_,_],_=>rfl
 have n14:=PySem.W.mg_of X G a14
 have F15:=dF (st:=jg) l15 c15 Yh
 have b15:=F15.binds (ps:=["_law_script","_law_at"]) fun _ _ _ _ _ _ us hl=>match us,hl with | [_,_],_=>rfl
 have n15:=PySem.W.mg_of X G a15
 have F16:=dF (st:=jh) l16 c16 Oq
 have Tz:=F16.binds (ps:=["_law_tape_here","_law_many"]) fun _ _ _ _ _ _ us hl=>match us,hl with | [_,_],_=>rfl
 have TF:=PySem.W.mg_of X G a16
 have F17:=dF (st:=iQ) l17 c17 Yi
 have b17:=F17.binds (ps:=[]) fun _ _ _ _ _ _ us hl=>match us,hl with | [],_=>rfl
 have n17:=PySem.W.mg_of X G a17
 have F18:=dF (st:=iR) l18 c18 Yj
 have b18:=F18.binds (ps:=["_law_tape_here"]) fun _ _ _ _ _ _ us hl=>match us,hl with | [_],_=>rfl
 have n18:=PySem.W.mg_of X G a18
 have F19:=dF (st:=jP) l19 c19 Yk
 have b19:=F19.binds (ps:=["_law_tape_here","_law_table_here","_law_most"]) fun _ _ _ _ _ _ us hl=>match us,hl with | [_,_,_],_=>rfl
 have n19:=PySem.W.mg_of X G a19
 have F20:=dF (st:=jk) l20 c20 Yl
 have b20:=F20.binds (ps:=["_law_tape_here","_law_names_here","_law_variables"]) fun _ _ _ _ _ _ us hl=>match us,hl with | [_,_,_],_=>rfl
 have n20:=PySem.W.mg_of X G a20
 have F21:=dF (st:=dZ) l21 c21 Ym
 have b21:=F21.binds (ps:=["_law_tape_here","_law_world","_law_variables","_law_room","_law_deep"]) fun _ _ _ _ _ _ us hl=>match us,hl with | [_,_,_,_,_],_=>rfl
 have n21:=PySem.W.mg_of X G a21
 have F22:=dF (st:=dI) l22 c22 Tv
 have b22:=F22.binds (ps:=["_law_tape_here","_law_world","_law_variables","_law_room","_law_deep"]) fun _ _ _ _ _ _ us hl=>match us,hl with | [_,_,_,_,_],_=>rfl
 have n22:=PySem.W.mg_of X G a22
 have F23:=dF (st:=iS) l23 c23 Yn
 have b23:=F23.binds (ps:=["_law_tape_here","_law_names_here","_law_room","_law_deep"]) fun _ _ _ _ _ _ us hl=>match us,hl with | [_,_,_,_],_=>rfl
 have n23:=PySem.W.mg_of X G a23
 have F24:=dF (st:=g8) l24 c24 Yo
 have b24:=F24.binds (ps:=["_law_test_here","_law_happening","_law_known"]) fun _ _ _ _ _ _ us hl=>match us,hl with | [_,_,_],_=>rfl
 have n24:=PySem.W.mg_of X G a24
 have F25:=dF (st:=d7) l25 c25 Yp
 have b25:=F25.binds (ps:=["_law_saying_here","_law_row_here","_law_places","_law_known"]) fun _ _ _ _ _ _ us hl=>match us,hl with | [_,_,_,_],_=>rfl
 have n25:=PySem.W.mg_of X G a25
 have F26:=dF (st:=d8) l26 c26 Tw
 have b26:=F26.binds (ps:=["_law_saying_here","_law_row_here","_law_at","_law_known"]) fun _ _ _ _ _ _ us hl=>match us,hl with | [_,_,_,_],_=>rfl
 have n26:=PySem.W.mg_of X G a26
 have F27:=dF (st:=sX) l27 c27 k27
 have gM:=PySem.W.mg_none_of X G SD
 have iE:=PySem.W.mg_none_of X G pK
 have Si:=PySem.W.mg_none_of X G SE
 have uy:=PySem.W.mg_none_of X G DT
 have DH:=PySem.W.mg_none_of X G SG
 have qT:=PySem.W.mg_none_of X G qW
 have nM:=PySem.W.mg_none_of X G Lx
 have uE:=PySem.W.mg_none_of X G uI
 have ig:=PySem.W.mg_none_of X G DU
 have many:=PySem.W.mg_none_of X G SH
 have Sj:=PySem.W.mg_none_of X G SI
 have Sk:=PySem.W.mg_none_of X G SJ
 have Lu:=PySem.W.mg_none_of X G zdict
 have Sm:=PySem.W.mg_none_of X G SK
 have E7:=PySem.W.mg_none_of X G Ly
 have pZ:=PySem.W.mg_of X G AZ
 have p5:=MQ (P:=l.prog) A0 A1 A2
 have xx:=PySem.W.mg_of X G xP
 have xy:=MS xQ xR xS
 refine⟨PySem.W.fnOf "law" "law" (bU sX) (bQ sX) (aG sX) .none WO WQ WR Wi Sz WS,fun s v=>.of_eq rfl,fun base _ _=>?_⟩
 have Ot:=G0 (P:=l.prog) (w:=w) (K:=K) (mg:=mg) (base:=base) (n:=0) F1 (fm:=nK) KD
 have Hj:=Cd (P:=l.prog) (w:=w) (K:=K) (mg:=mg) (base:=base) (n:=0) F2 pZ p5 (fm:=qM) Gq
 have yK:=vj (P:=l.prog) (w:=w) (K:=K) (mg:=mg) (base:=base) (n:=0) F3 gM iE Si (fm:=EM) Rm
 have pL:=uD (P:=l.prog) (w:=w) (K:=K) (mg:=mg) (base:=base) (n:=0) F10 (fm:=turnF) Ks
 have Cz:=DI (P:=l.prog) (w:=w) (K:=K) (mg:=mg) (base:=base) (n:=0) F11 nM DH uE (fm:=oX) Ku
 have WU:=Oo (P:=l.prog) (w:=w) (K:=K) (mg:=mg) (base:=base) (n:=0) F14 gM ig many (fm:=zC) Ky
 have DV:=AR (P:=l.prog) (w:=w) (K:=K) (mg:=mg) (base:=base) (n:=0) F15 gM Sj (fm:=lE) JN
 have jR:=AS (P:=l.prog) (w:=w) (K:=K) (mg:=mg) (base:=base) (n:=0) F16 (fm:=dD) pick_run
 have CA:=yC (P:=l.prog) (w:=w) (K:=K) (mg:=mg) (base:=base) (n:=0) F17 (fm:=mw) Gg
 have A3:=xN (P:=l.prog) (w:=w) (K:=K) (mg:=mg) (base:=base) (n:=0) F24 (fm:=kh) GP
 have CB:=DK (P:=l.prog) (w:=w) (K:=K) (mg:=mg) (base:=base) (n:=1) F12 gM (Cz.mono (by omega)) b11 WT X5 (fm:=Sh.qu) Sh.Kw
 have CC:=yD (P:=l.prog) (w:=w) (K:=K) (mg:=mg) (base:=base) (n:=1) F18 ig gM Sk (CA.mono (by omega)) b17 Yi n17 (jR.mono (by omega)) Tz Oq TF (fm:=jd) Gi
 have Hl:=Cj (P:=l.prog) (w:=w) (K:=K) (mg:=mg) (base:=base) (n:=1) F19 ig gM (jR.mono (by omega)) Tz Oq TF (fm:=rZ) M0
 have DW:=AU (P:=l.prog) (w:=w) (K:=K) (mg:=mg) (base:=base) (n:=1) F20 gM (jR.mono (by omega)) Tz Oq TF (fm:=lH) Gr
 have Ou:=G6 (P:=l.prog) (w:=w) (K:=K) (mg:=mg) (base:=base) (n:=2) F13 (pL.mono (by omega)) b10 RL X4 (CB.mono (by omega)) b12 IA n12 (fm:=Sh.GG) Sh.Nt
 have Lz:∀j:Nat,cy l.prog w K mg base fY (j+1) f4 (PySem.W.fnOf "put_for" "put_for" (bU iP) (bQ iP) (aG iP) .none kV4 dc4 pm4 an4 cd4 ct4) ["saying","x","k"] (spT K 3 (qi j)):=by
  intro j
  induction j with
  | zero=>exact oN (Gz)
  | succ j ih=>exact(DB (P:=l.prog) (w:=w) (K:=K) (mg:=mg) (base:=base) (n:=j+1) F4 uy xx xy pZ p5 (yK.mono (by omega)) b3 k3 n3 (Hj.mono (by omega)) b2 k2 n2 ih b4 k4 n4 (Nl j)).mono (by omega)
 have LA:=Lz 9
 have u6:∀j:Nat,cy l.prog w K mg base fY (j+1) Yc (PySem.W.fnOf "_law_where" "_law_where" (bU d7) (bQ d7) (aG d7) .none WG WH WI Wg Sv WJ) ["_law_saying_here","_law_row_here","_law_places","_law_known"] (spT K 4 (RU j))/\cy l.prog w K mg base fY (j+1) Yd (PySem.W.fnOf "_law_holds" "_law_holds" (bU d8) (bQ d8) (aG d8) .none WK WL WM Wh Sx WN) ["_law_saying_here","_law_row_here","_law_at","_law_known"] (spT K 4 (yt j)):=by
  intro j
  induction j with
  | zero=>exact⟨oN Lf,oN Le⟩
  | succ j ih=>exact⟨(yI (P:=l.prog) (w:=w) (K:=K) (mg:=mg) (base:=base) (n:=j+1) F25 ih.2 b26 Tw n26 (RW j)).mono (by omega),(yJ (P:=l.prog) (w:=w) (K:=K) (mg:=mg) (base:=base) (n:=j+1) F26 gM nM ig Lu (A3.mono (by omega)) b24 Yo n24 ih.2 b26 Tw n26 ih.1 b25 Yp n25 (Sh.RV j)).mono (by omega)⟩
 have O1:=(u6 16).1
 have CD:=(u6 16).2
 have sY:∀j:Nat,cy l.prog w K mg base fY (j+2) Yb (PySem.W.fnOf "_law_saying" "_law_saying" (bU dI) (bQ dI) (aG dI) .none Wz WA WB Wf Su WC) ["_law_tape_here","_law_world","_law_variables","_law_room","_law_deep"] (spT K 5 (uf j))/\cy l.prog w K mg base fY (j+2) X8 (PySem.W.fnOf "_law_inner" "_law_inner" (bU dZ) (bQ dZ) (aG dZ) .none Wv Ww Wx We So Wy) ["_law_tape_here","_law_world","_law_variables","_law_room","_law_deep"] (spT K 5 (J6 j)):=by
  intro j
  induction j with
  | zero=>exact⟨oN Gu,oN Gv⟩
  | succ j ih=>exact⟨(xK (P:=l.prog) (w:=w) (K:=K) (mg:=mg) (base:=base) (n:=j+2) F22 (jR.mono (by omega)) Tz Oq TF (DW.mono (by omega)) b20 Yl n20 ih.1 b22 Tv n22 ih.2 b21 Ym n21 (Nf j)).mono (by omega),(yE (P:=l.prog) (w:=w) (K:=K) (mg:=mg) (base:=base) (n:=j+2) F21 gM (jR.mono (by omega)) Tz Oq TF ih.1 b22 Tv n22 (Ng j)).mono (by omega)⟩
 have A4:=(sY 17).1
 have O2:=(sY 17).2
 have CF:=yG (P:=l.prog) (w:=w) (K:=K) (mg:=mg) (base:=base) (n:=19) F23 (A4.mono (by omega)) b22 Tv n22 (fm:=jG) Ds
 have qX:∀j:Nat,cy l.prog w K mg base fY (j+10) f7 (PySem.W.fnOf "truths_of" "truths_of" (bU fR) (bQ fR) (aG fR) .none kV7 dc7 pm7 an7 cd7 ct7) ["saying","row","known"] (spT K 3 (LL j))/\cy l.prog w K mg base fY (j+10) f8 (PySem.W.fnOf "truths_by_head" "truths_by_head" (bU cN) (bQ cN) (aG cN) .none kV8 dc8 pm8 an8 cd8 ct8) ["saying","row","known"] (spT K 3 (VM j))/\cy l.prog w K mg base fY (j+10) f9 (PySem.W.fnOf "at_happenings" "at_happenings" (bU cX) (bQ cX) (aG cX) .none kV9 dc9 pm9 an9 cd9 ct9) ["saying","row","known"] (spT K 3 (VN j)):=by
  intro j
  induction j with
  | zero=>exact⟨oN KO,oN KP,oN KQ⟩
  | succ j ih=>exact⟨(AN (P:=l.prog) (w:=w) (K:=K) (mg:=mg) (base:=base) (n:=j+10) F7 ih.2.1 b8 k8 n8 (RB j)).mono (by omega),(sQ (P:=l.prog) (w:=w) (K:=K) (mg:=mg) (base:=base) (n:=j+10) F8 gM DH (Ot.mono (by omega)) b1 k1 n1 (Ou.mono (by omega)) b13 Ye n13 ih.2.2 b9 k9 n9 (CB.mono (by omega)) b12 IA n12 ih.1 b7 k7 n7 (pL.mono (by omega)) b10 RL X4 (WU.mono (by omega)) b14 Yg n14 (Cz.mono (by omega)) b11 WT X5 (RC j)).mono (by omega),(uB (P:=l.prog) (w:=w) (K:=K) (mg:=mg) (base:=base) (n:=j+10) F9 qT (LA.mono (by omega)) b4 k4 n4 ih.1 b7 k7 n7 (RD j)).mono (by omega)⟩
 have DX:=(qX 24).1
 have Hw:=(qX 24).2.1
 have LB:=(qX 24).2.2
 have LC:=Lr (P:=l.prog) (w:=w) (K:=K) (mg:=mg) (base:=base) (n:=34) F5 (DX.mono (by omega)) b7 k7 n7 (fm:=ku) KU
 have WV:=Og (P:=l.prog) (w:=w) (K:=K) (mg:=mg) (base:=base) (n:=35) F6 (LC.mono (by omega)) b5 k5 n5 (fm:=mX) KW
 exact Sl (P:=l.prog) (w:=w) (K:=K) (mg:=mg) (base:=base) (n:=36) F27 gM ig Sm uy nM iE E7 (DV.mono (by omega)) b15 Yh n15 (CC.mono (by omega)) b18 Yj n18 (CF.mono (by omega)) b23 Yn n23 (jR.mono (by omega)) Tz Oq TF (Hl.mono (by omega)) b19 Yk n19 (LC.mono (by omega)) b5 k5 n5 (CD.mono (by omega)) b26 Tw n26 (WV.mono (by omega)) b6 k6 n6 GZ
theorem walk {l:PySem.W.OpenLaw}{q:Program}{loose:List Str}{XP:(Str->Option Value)->Heap->Prop}{YP:World->Heap->Prop}{d:DefRec}{K:Params->PySem.W.Frag}(hn:l.most=some 63) (hdf:d.params.defaults=[])
  (hY:∀(w:World) (h:Heap),YP w h->(K w.params).In h)
  (F:∀(w:World) (mg:Str->Option Value) (fa:Addr) (h:Heap),(K w.params).In h->h.Ns mainGlobals mg->mg d.name=some (.ref fa)->
   ∃fd:FuncData,(∀(s:Shared) (u:Value),BindsTo s fd ⟨[u],[]⟩ [("_law_script",u)])/\∀base:Heap,(K w.params).In base->base.Ns mainGlobals mg->cy l.prog w (K w.params) mg base fY 37 fa fd ["_law_script"] (spT (K w.params) 1 (Dm 63))):
  PySem.W.WalkO q loose XP YP l.row.toRowW d [] (fun f vs=>PySem.call f vs):=
 L2.Mi (n:=63) (k:=37) (x:="_law_script") (CX:=fun _=>fY) (sp:=fun w=>spT (K w.params) 1 (Dm 63)) hn (by decide) hdf ⟨rfl,by decide,by decide,rfl⟩ hY F (fun w H a ns hl hO hS=>Q5 hl hO hS) fun _ _ _ _ _ z=>z
end K08
open PySem PySem.W PyProof.Rows
noncomputable def PySem.W.Fast.tw8497491896850543617:Nat->Stmt:=K08.top
theorem PySem.W.Fast.te8497491896850543617:K08.top=PySem.W.Fast.tw8497491896850543617:=rfl
def K08.sc:Scope:=PySem.Challenge.pw_surewatch_k08_what_holds.main.scope
noncomputable def PySem.W.Fast.tw17311771041192305549:Scope:=K08.sc
theorem PySem.W.Fast.te17311771041192305549:K08.sc=PySem.W.Fast.tw17311771041192305549:=rfl
def K08.pw:Program:={main:={body:=[K08.top 0,K08.top 1,K08.top 2,K08.top 3,K08.top 4,K08.top 5,K08.top 6,K08.top 7,K08.top 8,K08.top 9,K08.top 10,K08.top 11,K08.top 12,K08.top 13,K08.top 14,K08.top 15,K08.top 16,K08.top 17,K08.top 18,K08.top 19,K08.top 20,K08.top 21,K08.top 22,K08.top 23,K08.top 24,K08.top 25,K08.top 26,K08.top 27,K08.top 28,K08.top 29,K08.top 30,K08.top 31,K08.top 32],scope:=K08.sc,futureAnnotations:=false,file:="/claim/cut.py",more:=[]},modules:=[],parses:=[],absent:=[],harvested:=[],given:={argv:=[],stdin:=[],environ:=some [([76,67,95,65,76,76],[67,46,85,84,70,45,56])]}}
def K08.rw:OpenLaw:={prog:=K08.pw,name:=(PySem.Str.ofString "law"),about:=[(PySem.Str.ofString "holds")],foot:=13,most:=some 63,bound:=none,writes:=false}
noncomputable def PySem.W.Fast.tw15889278000627972970:=0
noncomputable def PySem.W.Fast.tw16602956573169365772:=0
noncomputable def PySem.W.Fast.tw1952330998307498329:=0
noncomputable def PySem.W.Fast.tw4541003465617175212:=0
noncomputable def PySem.W.Fast.tw3069182235809184085:=0
noncomputable def PySem.W.Fast.tw1374509213366105922:=0
noncomputable def PySem.W.Fast.tw12053732247842035985:=0
noncomputable def PySem.W.Fast.tw12283103807829121563:=0
noncomputable def PySem.W.Fast.tw14427953045030854533:=0
noncomputable def PySem.W.Fast.tw16958562597896399787:=0
noncomputable def PySem.W.Fast.tw6373964454617162766:=0
noncomputable def PySem.W.Fast.tw2051706451007932683:=0
noncomputable def PySem.W.Fast.tw7482974544514315314:=0
noncomputable def PySem.W.Fast.tw17409596187395501231:=0
noncomputable def PySem.W.Fast.tw13431420435384128646:=0
noncomputable def PySem.W.Fast.tw15325787856707558684:=0
noncomputable def PySem.W.Fast.tw3725395935184754586:=0
noncomputable def PySem.W.Fast.tw6491677698955829961:=0
noncomputable def PySem.W.Fast.tw2457951444330418292:=0
noncomputable def PySem.W.Fast.tw10711172444918137050:=0
noncomputable def PySem.W.Fast.tw10587557326083700019:=0
noncomputable def PySem.W.Fast.tw9598207037633074052:=0
noncomputable def PySem.W.Fast.tw11449501681303512243:=0
noncomputable def PySem.W.Fast.tw12484069350837729102:=0
noncomputable def PySem.W.Fast.tw173841515092061927:=0
noncomputable def PySem.W.Fast.tw10749164545926701956:=0
noncomputable def PySem.W.Fast.tw5388435891626381818:=0
noncomputable def PySem.W.Fast.tw1979889905366807775:=0
noncomputable def PySem.W.Fast.tw5191538437831142282:=0
noncomputable def PySem.W.Fast.tw12504418061007822756:=0
noncomputable def PySem.W.Fast.tw10912865759064483475:=0
noncomputable def PySem.W.Fast.tw13307869649918592086:=0
noncomputable def PySem.W.Fast.tw14858467770947852414:=0
noncomputable def PySem.W.Fast.tw13205584052207015390:=0
noncomputable def PySem.W.Fast.tw13999705139960533149:=0
noncomputable def PySem.W.Fast.tw13629131869695425418:=0
noncomputable def PySem.W.Fast.tw4833287504343618566:=0
noncomputable def PySem.W.Fast.tw6238705827475450683:=0
noncomputable def PySem.W.Fast.tw5795952538060354641:=0
noncomputable def PySem.W.Fast.tw64567668446683907:=0
noncomputable def PySem.W.Fast.tw3473064143441003875:=0
noncomputable def PySem.W.Fast.tw502884465730283321:=0
noncomputable def PySem.W.Fast.tw7320212505730421435:=0
set_option maxRecDepth 100000 in
set_option maxHeartbeats 0 in
theorem K08.holds:K08.rw.Holds:=by
 w_on;o_law;k_head;(case hw=>w_witness2)
 k_fill
 refine K08.walk (l:=K08.rw) rfl rfl (fun w h Y=>PySem.W.kIn_of Y) ?F
 case F=>
  intro w mg fa h KX G hmg
  refine' K08.all_mk KX G hmg ?a1 ?l1 ?c1 ?k1 ?a2 ?l2 ?c2 ?k2 ?a3 ?l3 ?c3 ?k3 ?a4 ?l4 ?c4 ?k4 ?a5 ?l5 ?c5 ?k5 ?a6 ?l6 ?c6 ?k6 ?a7 ?l7 ?c7 ?k7 ?a8 ?l8 ?c8 ?k8 ?a9 ?l9 ?c9 ?k9 ?a10 ?l10 ?c10 ?RL ?a11 ?l11 ?c11 ?WT ?a12 ?l12 ?c12 ?IA ?a13 ?l13 ?c13 ?Ye ?a14 ?l14 ?c14 ?Yg ?a15 ?l15 ?c15 ?Yh ?a16 ?l16 ?c16 ?Oq ?a17 ?l17 ?c17 ?Yi ?a18 ?l18 ?c18 ?Yj ?a19 ?l19 ?c19 ?Yk ?a20 ?l20 ?c20 ?Yl ?a21 ?l21 ?c21 ?Ym ?a22 ?l22 ?c22 ?Tv ?a23 ?l23 ?c23 ?Yn ?a24 ?l24 ?c24 ?Yo ?a25 ?l25 ?c25 ?Yp ?a26 ?l26 ?c26 ?Tw ?a27 ?l27 ?c27 ?k27 ?AZ ?A0 ?A1 ?A2 ?xP ?xQ ?xR ?xS ?SD ?pK ?SE ?DT ?SG ?qW ?Lx ?uI ?DU ?SH ?SI ?SJ ?zdict ?SK ?Ly
  (case a1=>k_is);(case l1=>k_is);(case c1=>k_is);(case k1=>k_is)
  (case a2=>k_is);(case l2=>k_is);(case c2=>k_is);(case k2=>k_is)
  (case a3=>k_is);(case l3=>k_is);(case c3=>k_is);(case k3=>k_is)
  (case a4=>k_is);(case l4=>k_is);(case c4=>k_is);(case k4=>k_is)
  (case a5=>k_is);(case l5=>k_is);(case c5=>k_is);(case k5=>k_is)
  (case a6=>k_is);(case l6=>k_is);(case c6=>k_is);(case k6=>k_is)
  (case a7=>k_is);(case l7=>k_is);(case c7=>k_is);(case k7=>k_is)
  (case a8=>k_is);(case l8=>k_is);(case c8=>k_is);(case k8=>k_is)
  (case a9=>k_is);(case l9=>k_is);(case c9=>k_is);(case k9=>k_is)
  (case a10=>k_is);(case l10=>k_is);(case c10=>k_is);(case RL=>k_is)
  (case a11=>k_is);(case l11=>k_is);(case c11=>k_is);(case WT=>k_is)
  (case a12=>k_is);(case l12=>k_is);(case c12=>k_is);(case IA=>k_is)
  (case a13=>k_is);(case l13=>k_is);(case c13=>k_is);(case Ye=>k_is)
  (case a14=>k_is);(case l14=>k_is);(case c14=>k_is);(case Yg=>k_is)
  (case a15=>k_is);(case l15=>k_is);(case c15=>k_is);(case Yh=>k_is)
  (case a16=>k_is);(case l16=>k_is);(case c16=>k_is);(case Oq=>k_is)
  (case a17=>k_is);(case l17=>k_is);(case c17=>k_is);(case Yi=>k_is)
  (case a18=>k_is);(case l18=>k_is);(case c18=>k_is);(case Yj=>k_is)
  (case a19=>k_is);(case l19=>k_is);(case c19=>k_is);(case Yk=>k_is)
  (case a20=>k_is);(case l20=>k_is);(case c20=>k_is);(case Yl=>k_is)
  (case a21=>k_is);(case l21=>k_is);(case c21=>k_is);(case Ym=>k_is)
  (case a22=>k_is);(case l22=>k_is);(case c22=>k_is);(case Tv=>k_is)
  (case a23=>k_is);(case l23=>k_is);(case c23=>k_is);(case Yn=>k_is)
  (case a24=>k_is);(case l24=>k_is);(case c24=>k_is);(case Yo=>k_is)
  (case a25=>k_is);(case l25=>k_is);(case c25=>k_is);(case Yp=>k_is)
  (case a26=>k_is);(case l26=>k_is);(case c26=>k_is);(case Tw=>k_is)
  (case a27=>k_is);(case l27=>k_is);(case c27=>k_is);(case k27=>k_is)
  (case AZ=>k_is)
  (case A0=>k_is);(case A1=>decide);(case A2=>exact⟨⟨rfl,⟨_,rfl⟩,_,rfl⟩,⟨⟨rfl,⟨_,rfl⟩,_,rfl⟩,⟨⟨rfl,⟨_,rfl⟩,_,rfl⟩,⟨⟨rfl,⟨_,rfl⟩,_,rfl⟩,⟨⟨rfl,⟨_,rfl⟩,_,rfl⟩,⟨⟨rfl,⟨_,rfl⟩,_,rfl⟩,⟨⟨rfl,⟨_,rfl⟩,_,rfl⟩,⟨⟨rfl,⟨_,rfl⟩,_,rfl⟩,⟨⟨rfl,⟨_,rfl⟩,_,rfl⟩,⟨⟨rfl,⟨_,rfl⟩,_,rfl⟩,⟨⟨rfl,⟨_,rfl⟩,_,rfl⟩,⟨⟨rfl,⟨_,rfl⟩,_,rfl⟩,⟨⟨rfl,⟨_,rfl⟩,_,rfl⟩,True.intro⟩⟩⟩⟩⟩⟩⟩⟩⟩⟩⟩⟩⟩)
  (case xP=>k_is)
  (case xQ=>k_is);(case xR=>decide);(case xS=>exact⟨⟨_,rfl⟩,⟨⟨_,rfl⟩,True.intro⟩⟩)
  (case SD=>k_is);(case pK=>k_is);(case SE=>k_is);(case DT=>k_is);(case SG=>k_is);(case qW=>k_is);(case Lx=>k_is);(case uI=>k_is);(case DU=>k_is);(case SH=>k_is);(case SI=>k_is);(case SJ=>k_is);(case zdict=>k_is);(case SK=>k_is);(case Ly=>k_is)
theorem PySem.Challenge.cw_surewatch_k08_what_holds_holds : PySem.Challenge.rw_surewatch_k08_what_holds.Holds :=
 K08.holds
