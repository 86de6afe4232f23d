import PyProof.Rows.All
import Wide.All
import OpenK.AllK
import Wide.FinOn
import PyProof.EqAt
import PyProof.EqKinds
import PyProof.TupleCall
import Lean
import PySem.Challenge.RW_surewatch_k41_parting_rows
set_option Elab.async false
set_option linter.all false
set_option maxRecDepth 100000
section
section
namespace L2
open PySem PySem.Spec PyProof.Rows
inductive D where
 | bM | bl (b:Bool) | int (i:Int) | str (z:Str) | tup (ds:List D) | lst (ds:List D)
mutual
noncomputable def D.same:D->D->Bool
 | .bM,.bM=>true
 | .bl a,.bl b=>a == b
 | .int a,.int b=>a == b
 | .str a,.str b=>decide (a=b)
 | .tup a,.tup b=>D.nG a b
 | .lst a,.lst b=>D.nG a b
 | _,_=>false
noncomputable def D.nG:List D->List D->Bool
 | [],[]=>true
 | a :: as,b :: bs=>D.same a b && D.nG as bs
 | _,_=>false
end
mutual
theorem D.same_refl:∀a:D,D.same a a=true
 | .bM=>rfl
 | .bl _=>by simp[D.same]
 | .int _=>by simp[D.same]
 | .str _=>by simp[D.same]
 | .tup a=>by unfold D.same;exact D.mW a
 | .lst a=>by unfold D.same;exact D.mW a
theorem D.mW:∀a:List D,D.nG a a=true
 | []=>rfl
 | a :: as=>by unfold D.nG;rw[D.same_refl a,D.mW as];rfl
end
mutual
theorem D.same_eq:∀{a b:D},D.same a b=true->a=b
 | .bM,b,h=>by cases b <;> simp[D.same] at h ⊢
 | .bl _,b,h=>by cases b <;> simp[D.same] at h ⊢;exact h
 | .int _,b,h=>by cases b <;> simp[D.same] at h ⊢;exact h
 | .str _,b,h=>by cases b <;> simp[D.same] at h ⊢;exact h
 | .tup a,b,h=>by
  cases b with
  | tup b=>unfold D.same at h;rw[D.qm h]
  | _=>simp[D.same] at h
 | .lst a,b,h=>by
  cases b with
  | lst b=>unfold D.same at h;rw[D.qm h]
  | _=>simp[D.same] at h
theorem D.qm:∀{a b:List D},D.nG a b=true->a=b
  | [],b,h=>by cases b <;> simp[D.nG] at h ⊢
  | a :: as, b, h => by
    cases b with
    | nil=>simp[D.nG] at h
    | cons b bs=>
      unfold D.nG at h
      rw[Bool.and_eq_true] at h
      rw[D.same_eq h.1,D.qm h.2]
end
noncomputable instance:DecidableEq D:=fun a b=>if h:D.same a b=true then isTrue (D.same_eq h) else isFalse fun e=>h (e▸D.same_refl a)
noncomputable def bI (b:Bool):Int:=if b then 1 else 0
mutual
noncomputable def nf:D->D
 | .bl b=>.int (bI b)
 | .tup ds=>.tup (FQ ds)
 | d=>d
noncomputable def FQ:List D->List D
 | []=>[]
 | d :: ds=>nf d :: FQ ds
end
noncomputable def d7:Nat->D->Bool
 | _,.bl _=>true
 | _,.int _=>true
 | _,.str _=>true
 | n+1,.tup ds=>ds.all (d7 n)
 | _,_=>false
mutual
theorem yR:∀(d:D) (n:Nat),d7 n d=true->d7 n (nf d)=true
 | .bl _,n,_=>by cases n <;> rfl
 | .int _,n,_=>by cases n <;> rfl
 | .str _,n,_=>by cases n <;> rfl
 | .bM,n,h=>by cases n <;> exact h
 | .lst _,n,h=>by cases n <;> exact h
 | .tup ds,0,h=>by exact h
 | .tup ds,n+1,h=>vq ds n h
theorem vq:∀(ds:List D) (n:Nat),ds.all (d7 n)=true->(FQ ds).all (d7 n)=true
 | [],n,_=>rfl
 | d :: ds,n,h=>by
  rw[List.all_cons,Bool.and_eq_true] at h
  show((nf d :: FQ ds).all (d7 n))=true
  rw[List.all_cons,yR d n h.1,vq ds n h.2]
  rfl
end
mutual
inductive rQ (h:Heap):Value->D->Prop
 | bool (b:Bool):rQ h (.bool b) (.int (bI b))
 | int (i:Int) (t:Tok):rQ h (.int i t) (.int i)
 | str (x:Str) (t:Tok):rQ h (.str x t) (.str x)
 | tup {a:Addr}{its:List Value}{ds:List D}(p:h.IsTuple a its.toArray) (r:jF h its ds):rQ h (.ref a) (.tup ds)
inductive jF (h:Heap):List Value->List D->Prop
 | nil:jF h [] []
 | cons {u:Value}{d:D}{us:List Value}{ds:List D}(r:rQ h u d) (rs:jF h us ds):jF h (u :: us) (d :: ds)
end
mutual
noncomputable def Bp (w:World):D->Int
 | .int i=>hashInt i
 | .str x=>hashStr w x
 | .tup ds=>reduceHash (Builtin.Tuple.tupleHashOf (mX w ds))
 | _=>0
noncomputable def mX (w:World):List D->List Int
 | []=>[]
 | d :: ds=>Bp w d :: mX w ds
end
mutual
noncomputable def uw:D->Nat
 | .tup ds=>qc ds+1
 | _=>1
noncomputable def qc:List D->Nat
 | []=>0
 | d :: ds=>uw d+qc ds
end
theorem jF.length {h:Heap}:∀{us:List Value}{ds:List D},jF h us ds->us.length=ds.length
 | _,_,.nil=>rfl
 | _,_,.cons _ rs=>congrArg Nat.succ (jF.length rs)
mutual
theorem rQ.inj {h:Heap}:∀{v:Value}{d e:D},rQ h v d->rQ h v e->d=e
 | _,_,_,.bool b,r=>by cases r;rfl
 | _,_,_,.int i t,r=>by cases r;rfl
 | _,_,_,.str x t,r=>by cases r;rfl
 | _,_,_,@rQ.tup _ a its ds p r,q=>by
  cases q with
  | @tup _ its' ds' p' r'=>
   obtain⟨o,h1,_,n,h2⟩:=p
   obtain⟨o',Rb,_,n',h2'⟩:=p'
   rw[h1] at Rb
   cases Rb
   rw[h2] at h2'
   injection h2' with e1 _
   have e:its=its':=by simpa using congrArg Array.toList e1
   subst e
   rw[jF.inj r r']
theorem jF.inj {h:Heap}:∀{vs:List Value}{ds es:List D},jF h vs ds->jF h vs es->ds=es
 | _,_,_,.nil,r=>by cases r;rfl
 | _,_,_,.cons r1 s1,r=>by
  cases r with
  | cons r2 s2=>rw[rQ.inj r1 r2,jF.inj s1 s2]
end
mutual
theorem rQ.keeps {h h':Heap}{d:Addr}{o:Obj}{es:Array DictEntry}{ep:Nat}(ho:h.get? d=some o) (hd:o.data= .dict es ep) (hs:Heap.SameBut d h h'):∀{v:Value}{k:D},rQ h v k->rQ h' v k
 | _,_,.bool b=>.bool b
 | _,_,.int i t=>.int i t
 | _,_,.str x t=>.str x t
 | _,_,@rQ.tup _ a its ds p r=>by
  obtain⟨o',h1,h2,n,h3⟩:=p
  have hne:a≠d:=by
   intro z
   subst z
   rw[ho] at h1
   cases h1
   rw[hd] at h3
   cases h3
  exact .tup ⟨o',(hs.2 a hne).trans h1,h2,n,h3⟩ (jF.keeps ho hd hs r)
theorem jF.keeps {h h':Heap}{d:Addr}{o:Obj}{es:Array DictEntry}{ep:Nat}(ho:h.get? d=some o) (hd:o.data= .dict es ep) (hs:Heap.SameBut d h h'):∀{v:List Value}{k:List D},jF h v k->jF h' v k
 | _,_,.nil=>.nil
 | _,_,.cons r1 s1=>.cons (rQ.keeps ho hd hs r1) (jF.keeps ho hd hs s1)
end
section
variable {prog:Program}{w:World}{E:Value->Shared->Prop}
theorem pJ {A:Around}{s:Shared}{b:Bool}{Q:Int->Shared->Prop}(h:Q (hashInt (bI b)) {s with toks:=s.toks+1}):wpAny (model prog w) A (pyHash (.bool b)) Q E s:=by
 refine PySem.W.pyHash_slot (T:="bool") rfl F.slot_bool_hash F.entry_int_hash (F.args_int_hash_1 _) (beq_builtin_none _) (.inl rfl) ?_
 cases b
 ·exact(show wpAny _ _ (do ret (<-mkInt 0)) _ _ s from wpAny_bind (wpAny_mkInt (wpAny_pure ⟨_,_,rfl,h⟩)))
 ·exact(show wpAny _ _ (do ret (<-mkInt 1)) _ _ s from wpAny_bind (wpAny_mkInt (wpAny_pure ⟨_,_,rfl,h⟩)))
mutual
theorem vt : ∀ (d : D) {n : Nat} {v : Value} {A : Around} {s : Shared} {Q : Int -> Shared -> Prop}, rQ s.heap v d -> d7 n d = true -> A.units + n < cLine -> Q (Bp w d) { s with toks := s.toks + uw d } -> wpAny (model prog w) A (pyHash v) Q E s
  | .int i,n,v,A,s,Q,x,_,_,h=>by
    cases x with
    | int=>exact wpAny_pyHash_int h
    | bool b=>exact pJ h
  | .str y,n,v,A,s,Q,x,_,_,h=>by cases x;exact wpAny_pyHash_str h
  | .bM,n,v,A,s,Q,x,_,_,h=>by cases x
  | .bl _,n,v,A,s,Q,x,_,_,h=>by cases x
  | .lst _,n,v,A,s,Q,x,_,_,h=>by cases x
  | .tup ds,n,v,A,s,Q,x,hk,hu,h=>by
    cases n with
    | zero=>simp[d7] at hk
    | succ n=>
      cases x with
      | @tup a its _ p r=>
        obtain⟨o,hg,hc,m,hd⟩:=p
        refine PySem.W.pyHash_slot (T:="tuple") ⟨_,hg,hc⟩ F.slot_tuple_hash F.entry_tuple_hash (F.args_tuple_hash_1 _) (beq_builtin_none _) (.inr (by omega)) ?_
        show wpAny _ _ (Builtin.Tuple.tupleItemsOf (.ref a) >>= _) _ _ s
        refine wpAny_bind (wpAny_tupleItemsOf hg hd ?_)
        refine wpAny_bind ?_
        rw[<-Array.forIn_toList]
        refine sR ds (n:=n) (A:=A.in1) (b:=#[]) r hk (by rw[Around.in1_units];omega) fun b hb=>?_
        show wpAny _ _ (retInt (Builtin.Tuple.tupleHashOf b.toList)) _ _ _
        rw[hb]
        refine wpAny_bind (wpAny_mkInt (wpAny_pure ⟨_,_,rfl,?_⟩))
        have e:(#[]:Array Int).toList++mX w ds=mX w ds:=by simp
        rw[e]
        exact h
theorem sR:∀(ds:List D){n:Nat}{vs:List Value}{A:Around}{s:Shared}{b:Array Int}{Q:Array Int->Shared->Prop},jF s.heap vs ds->ds.all (d7 n)=true->A.units+n < cLine->
    (∀b',b'.toList=b.toList++mX w ds->Q b' {s with toks:=s.toks+qc ds})->
    wpAny (model prog w) A (forIn vs b fun x r=>do let h <-pyHash x;pure PUnit.unit;pure (ForInStep.yield (r.push h))) Q E s
  | [],n,_,A,s,b,Q,x,_,_,h=>by cases x;exact wpAny_pure (h b (by simp[mX]))
  | d :: ds, n, _, A, s, b, Q, x, hk, hu, h => by
    cases x with
    | cons x1 x2=>
      rw[List.all_cons,Bool.and_eq_true] at hk
      rw[List.forIn_cons]
      refine wpAny_bind (wpAny_bind (vt d (n:=n) x1 hk.1 hu ?_))
      refine wpAny_bind (wpAny_pure (wpAny_pure ?_))
      refine sR ds (n:=n) x2 hk.2 hu fun b' hb=>?_
      have q:=h b' (by simp[hb,mX])
      show Q b' {s with toks:=s.toks+uw d+qc ds}
      rw[Nat.add_assoc]
      exact q
end
end
theorem ux (n:Nat) (f:Nat->Bool):(List.range (n+1)).all f=(f 0 && (List.range n).all fun j=>f (j+1)):=by
 rw[List.range_succ_eq_map,List.all_cons,List.all_map];rfl
theorem vv:∀ds es:List D,((List.range (min ds.length es.length)).all (fun j=>decide (ds[j]? =es[j]?)) && ds.length == es.length)=decide (ds=es)
  | [],[]=>by simp
  | [],e :: es=>by simp
  | d :: ds,[]=>by simp
  | d :: ds, e :: es => by
    have ih:=vv ds es
    have e1:min (d :: ds).length (e :: es).length=min ds.length es.length+1:=by simp only[List.length_cons];omega
    rw[e1,ux]
    have e2:(fun j=>decide ((d :: ds)[j+1]? =(e :: es)[j+1]?))=fun j=>decide (ds[j]? =es[j]?):=by funext j;simp
    have e3:((d :: ds).length == (e :: es).length)=(ds.length == es.length):=by simp
    have e4:decide ((d :: ds)[0]? =(e :: es)[0]?)=decide (d=e):=by simp
    have e5:decide (d :: ds=e :: es)=(decide (d=e) && decide (ds=es)):=by
      by_cases a:d=e
      . subst a;by_cases b:ds=es <;> simp[b]
      . simp[a]
    rw[e2,e3,e4,Bool.and_assoc,ih,e5]
theorem Bq {α:Type}(l:List α) (j:Nat) (h:j < l.toArray.size):l[j]? =some l.toArray[j]:=by
 have z:j < l.length:=by simpa using h
 simp[z]
mutual
theorem Rc : ∀ (d : D) {e : D} {n : Nat} {A : Around} {s : Shared} {u v : Value}, rQ s.heap u d -> rQ s.heap v e -> d7 n d = true -> A.units + n < cLine -> SeqAt.EqAt A s u v (decide (d = e))
  | .int i,e,n,A,s,u,v,r1,r2,_,hu=>by
    have di:∀i j:Int,decide (D.int i=D.int j)=(i == j):=fun i j=>by by_cases z:i=j <;> simp[z]
    cases r1 with
    | int _ t=>
      cases r2 with
      | int j t'=>rw[di];exact SeqAt.EqAt.int_int i t j t'
      | bool b=>rw[di];exact SeqAt.EqAt.int_bool i t b
      | str x t'=>exact SeqAt.EqAt.int_str i t x t'
      | tup p r=>exact SeqAt.EqAt.int_tuple i t p (by omega)
    | bool a=>
      cases r2 with
      | int j t'=>rw[di];exact SeqAt.EqAt.bool_int a j t'
      | bool b=>
        have:(bI a == bI b)=(a == b):=by cases a <;> cases b <;> rfl
        rw[di,this];exact SeqAt.EqAt.bool_bool a b
      | str x t'=>exact SeqAt.EqAt.bool_str a x t'
      | tup p r=>exact SeqAt.EqAt.bool_tuple a p (by omega)
  | .str i, e, n, A, s, u, v, r1, r2, _, hu => by
    cases r1 with
    | str _ t=>
    cases r2 with
    | int j t'=>exact SeqAt.EqAt.str_int i t j t'
    | bool b=>exact SeqAt.EqAt.str_bool i t b
    | str x t' => have : decide (D.str i = D.str x) = (i == x) := by by_cases z : i = x <;> simp [z]
                  rw[this];exact SeqAt.EqAt.str_str i t x t'
    | tup p r=>exact SeqAt.EqAt.str_tuple i t p (by omega)
  | .bM,e,n,A,s,u,v,r1,r2,hk,hu=>by cases r1
  | .bl _,e,n,A,s,u,v,r1,r2,hk,hu=>by cases r1
  | .lst _,e,n,A,s,u,v,r1,r2,hk,hu=>by cases r1
  | .tup ds,e,n,A,s,u,v,r1,r2,hk,hu=>by
    cases n with
    | zero=>simp[d7] at hk
    | succ n=>
    cases r1 with
    | @tup ca eZ _ pa ra=>
    cases r2 with
    | int j t'=>exact SeqAt.EqAt.tuple_int j t' pa (by omega)
    | bool b=>exact SeqAt.EqAt.tuple_bool b pa (by omega)
    | str x t'=>exact SeqAt.EqAt.tuple_str x t' pa (by omega)
    | @tup cb bF es pb rb=>
      have items:∀j (h1:j < eZ.toArray.size) (h2:j < bF.toArray.size),SeqAt.EqAt A.in1 s eZ.toArray[j] bF.toArray[j] (decide (ds[j]? =es[j]?)):=fun j h1 h2=>
        JZ ds (n:=n) (A:=A.in1) ra rb hk (by rw[Around.in1_units];omega) (Bq eZ j h1) (Bq bF j h2)
      by_cases hc:ca=cb
      . subst hc
        have z:=rQ.inj (.tup pa ra) (.tup pb rb)
        rw[z,decide_eq_true rfl]
        exact SeqAt.EqAt.same _
      . have q:=SeqAt.RcAt.tuples (e:=fun j=>decide (ds[j]? =es[j]?)) pa pb (by omega) items
        rw[List.size_toArray,List.size_toArray,ra.length,rb.length,vv] at q
        have z:decide (D.tup ds=D.tup es)=decide (ds=es):=by by_cases a:ds=es <;> simp[a]
        rw[z]
        exact SeqAt.EqAt.of_refs hc q
theorem JZ : ∀ (ds : List D) {es : List D} {n : Nat} {A : Around} {s : Shared} {us vs : List Value} {j : Nat} {u v : Value}, jF s.heap us ds -> jF s.heap vs es -> ds.all (d7 n) = true -> A.units + n < cLine -> us[j]? = some u -> vs[j]? = some v ->
    SeqAt.EqAt A s u v (decide (ds[j]? =es[j]?))
  | [],es,n,A,s,us,vs,j,u,v,r1,r2,hk,hu,h1,h2=>by cases r1;simp at h1
  | d :: ds, es, n, A, s, us, vs, j, u, v, r1, r2, hk, hu, h1, h2 => by
    rw[List.all_cons,Bool.and_eq_true] at hk
    cases r1 with
    | cons a as=>
    cases r2 with
    | nil=>simp at h2
    | @cons v' e' vs' es' b bs=>
      cases j with
      | zero=>
        simp only[List.getElem?_cons_zero,Option.some.injEq] at h1 h2
        subst h1
        subst h2
        have z:decide ((d :: ds)[0]? =(e' :: es')[0]?)=decide (d=e'):=by simp
        rw[z]
        exact Rc d a b hk.1 hu
      | succ j=>
        have z:decide ((d :: ds)[j+1]? =(e' :: es')[j+1]?)=decide (ds[j]? =es'[j]?):=by simp
        rw[z]
        exact JZ ds as bs hk.2 hu (by simpa using h1) (by simpa using h2)
end
section
variable {prog:Program}{w:World}{A:Around}{E:Value->Shared->Prop}{s:Shared}
mutual
theorem Br : ∀ (d : D) {n : Nat} {v : Value} {Q : Bool -> Shared -> Prop}, rQ s.heap v d -> d7 n d = true -> Q true s -> wpAny (model prog w) A (eqIsQuiet n v) Q E s
  | .int i,n,v,Q,x,_,h=>by cases x <;> (rw[eqIsQuiet_byValue n rfl];exact wpAny_pure h)
  | .str y,n,v,Q,x,_,h=>by cases x;rw[eqIsQuiet_byValue n rfl];exact wpAny_pure h
  | .bM,n,v,Q,x,_,h=>by cases x
  | .bl _,n,v,Q,x,_,h=>by cases x
  | .lst _,n,v,Q,x,_,h=>by cases x
  | .tup ds,n,v,Q,x,hk,h=>by
    cases n with
    | zero=>simp[d7] at hk
    | succ n=>
      cases x with
      | @tup a its _ p r=>
        obtain⟨o,hg,hc,m,hd⟩:=p
        have hT:s.TypeIs (.ref a) "tuple":=⟨o,hg,hc⟩
        unfold eqIsQuiet
        refine wpAny_bind (wpAny_specialOf hT F.slot_tuple_eq.lookup ?_)
        show wpAny _ _ (isInstance (.ref a) (.type "tuple") >>= _) _ _ s
        refine wpAny_bind (wpAny_isInstance hT isSubtype_tuple_tuple ?_)
        simp only[Bool.not_true,Bool.false_eq_true,if_false]
        refine wpAny_bind (wpAny_seqItems hg hd ?_)
        refine wpAny_bind ?_
        show wpAny _ _ (forIn its.toArray _ _) _ _ s
        rw[<-Array.forIn_toList]
        exact sS ds r hk (wpAny_pure h)
theorem sS:∀(ds:List D){n:Nat}{vs:List Value}{Q:Option Bool×Unit->Shared->Prop},jF s.heap vs ds->ds.all (d7 n)=true->Q (none,()) s->
    wpAny (model prog w) A (forIn vs ((none,()):Option Bool×Unit) fun y __s=>do
      let __do_lift <-eqIsQuiet n y
      if(!__do_lift)=true then pure (ForInStep.done (some false,())) else pure (ForInStep.yield (none,()))) Q E s
  | [],n,_,Q,x,_,h=>by cases x;exact wpAny_pure h
  | d :: ds, n, _, Q, x, hk, h => by
    cases x with
    | cons x1 x2=>
      rw[List.all_cons,Bool.and_eq_true] at hk
      rw[List.forIn_cons]
      refine wpAny_bind (wpAny_bind (Br d x1 hk.1 ?_))
      simp only[Bool.not_true,Bool.false_eq_true,if_false]
      refine wpAny_pure ?_
      exact sS ds x2 hk.2 h
end
end
noncomputable def iP (prog:Program) (w:World):HeapKind prog w D where
 is:=fun h k a=>rQ h (.ref a) k/\d7 8 k=true
 hash:=Bp w
 draws:=uw
 room:=fun A=>A.units+8 < cLine
 inj:=fun hx hy=>hx.1.inj hy.1
 keeps:=fun x ho hd hs=>⟨x.1.keeps ho hd hs,x.2⟩
 pyHash:=fun hu hk h=>vt _ hk.1 hk.2 hu h
 eqBool:=fun hu hx hy h=>Rc _ hx.1 hy.1 hx.2 hu _ _ _ _ h
 quiet:=fun hk h=>Br _ hk.1 hk.2 h
theorem gn {prog:Program}{w:World}{A:Around}(hu:A.units+20 < cLine):(iP prog w).room A.in1:=by
 show A.in1.units+8 < cLine
 rw[Around.in1_units]
 omega
end L2
end
namespace L2
open PySem PySem.Spec PyProof.Rows
noncomputable abbrev Key:=Sum Int Str
noncomputable def qo:Key->Value->Bool
 | .inl k,.bool b=>decide (k=bI b)
 | .inl k,v=>Value.isInt k v
 | .inr x,v=>Value.isStrOf x v
noncomputable def M9 (w:World):Key->Int
 | .inl k=>hashInt k
 | .inr x=>hashStr w x
theorem cg:∀{k:Key}{v:Value},qo k v=true->(∃i t,k=Sum.inl i/\v=Value.int i t)\/(∃b,k=Sum.inl (bI b)/\v=Value.bool b)\/(∃x t,k=Sum.inr x/\v=Value.str x t)
 | .inl i,v,h=>by
  cases v with
  | bool b=>exact .inr (.inl ⟨b,by rw[of_decide_eq_true (show decide (i=bI b)=true from h)],rfl⟩)
  | int j t=>obtain⟨t,e⟩:=Value.isInt_shape (k:=i) (v:=Value.int j t) h;exact .inl ⟨i,t,rfl,e⟩
  | _=>exact absurd h (by simp[qo,Value.isInt])
 | .inr x,v,h=>by
  obtain⟨t,e⟩:=Value.isStrOf_shape (x:=x) (v:=v) h
  exact .inr (.inr ⟨x,t,rfl,e⟩)
theorem zY (i:Int) (t:Tok):qo (.inl i) (.int i t)=true:=by simp[qo,Value.isInt]
theorem zZ (x:Str) (t:Tok):qo (.inr x) (.str x t)=true:=by simp[qo,Value.isStrOf]
theorem uy (a b:Int):decide ((Sum.inl a:Key)=Sum.inl b)=(a == b):=by
 by_cases e:a=b
 ·subst e;simp
 ·have h:¬(Sum.inl a:Key)=Sum.inl b:=fun q=>e (Sum.inl.inj q)
  rw[decide_eq_false h]
  exact(beq_eq_false_iff_ne.mpr e).symm
theorem GF (a b:Str):decide ((Sum.inr a:Key)=Sum.inr b)=decide (a=b):=by
 by_cases e:a=b
 ·subst e;simp
 ·have h:¬(Sum.inr a:Key)=Sum.inr b:=fun q=>e (Sum.inr.inj q)
  rw[decide_eq_false h,decide_eq_false e]
theorem Bs (a:Int) (b:Str):decide ((Sum.inl a:Key)=Sum.inr b)=false:=decide_eq_false (fun q=>nomatch q)
theorem Bt (a:Str) (b:Int):decide ((Sum.inr a:Key)=Sum.inl b)=false:=decide_eq_false (fun q=>nomatch q)
noncomputable def iM (prog:Program) (w:World):PySem.KeyKind prog w Key where
  is:=qo
  hash:=M9 w
  inj := fun v a b ha hb => by
    rcases cg ha with⟨i,t,rfl,rfl⟩ | ⟨c,rfl,rfl⟩ | ⟨x,t,rfl,rfl⟩
    . rcases cg hb with⟨j,u,rfl,e⟩ | ⟨c',rfl,e⟩ | ⟨y,u,rfl,e⟩
      . injection e with e1 _;rw[e1]
      . exact nomatch e
      . exact nomatch e
    . rcases cg hb with⟨j,u,rfl,e⟩ | ⟨c',rfl,e⟩ | ⟨y,u,rfl,e⟩
      . exact nomatch e
      . injection e with e1;rw[e1]
      . exact nomatch e
    . rcases cg hb with⟨j,u,rfl,e⟩ | ⟨c',rfl,e⟩ | ⟨y,u,rfl,e⟩
      . exact nomatch e
      . exact nomatch e
      . injection e with e1 _;rw[e1]
  byValue:=fun k v h=>by
    rcases cg h with⟨i,t,rfl,rfl⟩ | ⟨c,rfl,rfl⟩ | ⟨x,t,rfl,rfl⟩ <;> rfl
  pyHash:=fun hv h=>by
    rcases cg hv with⟨i,t,rfl,rfl⟩ | ⟨c,rfl,rfl⟩ | ⟨x,t,rfl,rfl⟩
    . exact wpAny_pyHash_int h
    . exact pJ h
    . exact wpAny_pyHash_str h
  eqBool:=fun hu hv h=>by
    rcases cg hu with⟨i,t,rfl,rfl⟩ | ⟨c,rfl,rfl⟩ | ⟨x,t,rfl,rfl⟩
    . rcases cg hv with⟨j,u,rfl,rfl⟩ | ⟨c',rfl,rfl⟩ | ⟨y,u,rfl,rfl⟩
      . rw[uy] at h;exact wpAny_eqBool_int h
      . rw[uy] at h;exact SeqAt.EqAt.int_bool i t c' _ _ _ _ h
      . rw[Bs] at h;exact SeqAt.EqAt.int_str i t y u _ _ _ _ h
    . rcases cg hv with⟨j,u,rfl,rfl⟩ | ⟨c',rfl,rfl⟩ | ⟨y,u,rfl,rfl⟩
      . rw[uy] at h;exact SeqAt.EqAt.bool_int c j u _ _ _ _ h
      . have e:(bI c == bI c')=(c == c'):=by cases c <;> cases c' <;> rfl
        rw[uy,e] at h;exact SeqAt.EqAt.bool_bool c c' _ _ _ _ h
      . rw[Bs] at h;exact SeqAt.EqAt.bool_str c y u _ _ _ _ h
    . rcases cg hv with⟨j,u,rfl,rfl⟩ | ⟨c',rfl,rfl⟩ | ⟨y,u,rfl,rfl⟩
      . rw[Bt] at h;exact SeqAt.EqAt.str_int x t j u _ _ _ _ h
      . rw[Bt] at h;exact SeqAt.EqAt.str_bool x t c' _ _ _ _ h
      . rw[GF] at h;exact wpAny_eqBool_str h
  «strs»:=fun k x t v h=>by
    rcases cg h with⟨i,u,rfl,e⟩ | ⟨c,rfl,e⟩ | ⟨y,u,rfl,e⟩
    . exact nomatch e
    . exact nomatch e
    . injection e with e1 _
      subst e1
      cases v <;> rfl
theorem vA (prog:Program) (w:World) (i:Int) (t:Tok):(iM prog w).is (.inl i) (.int i t)=true:=zY i t
theorem vB (prog:Program) (w:World) (x:Str) (t:Tok):(iM prog w).is (.inr x) (.str x t)=true:=zZ x t
inductive V where
 | bM | bl (b:Bool) | int (i:Int) | str (x:Str) | Na (b:Array UInt8) | flt (b:UInt64) | ref (a:Addr) | ty (n:String)
 deriving DecidableEq
noncomputable def RelV:V->Value->Prop
 | .bM,u=>u=Value.none
 | .bl b,u=>u=Value.bool b
 | .int i,u=>∃t,u=Value.int i t
 | .str x,u=>∃t,u=Value.str x t
 | .Na b,u=>∃t,u=Value.bytes b t
 | .flt b,u=>∃t,u=Value.float b t
 | .ref a,u=>u=Value.ref a
 | .ty n,u=>u=Value.type n
noncomputable abbrev Vals:List V->List Value->Prop:=Paired RelV
theorem Vals.length {xs:List V}{us:List Value}(r:Vals xs us):xs.length=us.length:=Paired.length r
theorem Vals.get:∀{xs:List V}{us:List Value}{i:Nat}{x:V},Vals xs us->xs[i]? =some x->∃u,us[i]? =some u/\RelV x u
 | _,_,_,_,.nil,e=>by simp at e
 | _,_,0,_,.cons r _,e=>by simp at e;subst e;exact⟨_,rfl,r⟩
 | _,_,i+1,x,.cons _ t,e=>by
  obtain⟨u,h1,h2⟩:=Vals.get (i:=i) (x:=x) t (by simpa using e)
  exact⟨u,by simpa using h1,h2⟩
theorem Vals.set {x:V}{u:Value}(r:RelV x u):∀{xs:List V}{us:List Value}(i:Nat),Vals xs us->Vals (xs.set i x) (us.set i u)
 | _,_,_,.nil=>.nil
 | _,_,0,.cons _ t=>.cons r t
 | _,_,i+1,.cons q t=>.cons q (Vals.set r i t)
theorem Vals.append:∀{xs ys:List V}{us ws:List Value},Vals xs us->Vals ys ws->Vals (xs++ys) (us++ws)
 | _,_,_,_,.nil,s=>s
 | _,_,_,_,.cons r t,s=>.cons r (Vals.append t s)
theorem Vals.take:∀{xs:List V}{us:List Value}(n:Nat),Vals xs us->Vals (xs.take n) (us.take n)
 | _,_,0,_=>.nil
 | _,_,_+1,.nil=>.nil
 | _,_,n+1,.cons r t=>.cons r (Vals.take n t)
theorem Vals.drop:∀{xs:List V}{us:List Value}(n:Nat),Vals xs us->Vals (xs.drop n) (us.drop n)
 | _,_,0,r=>r
 | _,_,_+1,.nil=>.nil
 | _,_,n+1,.cons _ t=>Vals.drop n t
noncomputable def mC:Option V->Option Value->Prop
 | some v,some u=>RelV v u
 | none,none=>True
 | _,_=>False
noncomputable def KV {κ:Type}:List (κ×V)->List (κ×Value)->Prop:=Paired fun(p:κ×V) (q:κ×Value)=>p.1=q.1/\RelV p.2 q.2
noncomputable def kV:Key->V
 | .inl i=>.int i
 | .inr x=>.str x
inductive HO where
 | lst (xs:List V)
 | tup (xs:List V)
 | dK (kvs:List (Key×V)) | dT (kvs:List (D×V))
 | set (S:Int->Bool) (n:Nat)
 | ins (C dx:Addr) (fs:List (Str×V))
 | own (x:Addr)
 | xd (fs:List (Str×V))
 | met (f x:Addr)
 | iA (lo hi:Int)
 | kC (o:Obj) (u:HO)
 | GG (ps:Array Value)
 | ext (φ:Heap->Prop)
noncomputable abbrev Hp:=Addr->Option HO
mutual
inductive Rep (H:Hp):V->D->Prop
 | bM:Rep H .bM .bM
 | bl (b:Bool):Rep H (.bl b) (.bl b)
 | int (i:Int):Rep H (.int i) (.int i)
 | str (z:Str):Rep H (.str z) (.str z)
 | tup {a:Addr}{vs:List V}{ds:List D}(e:H a=some (.tup vs)) (r:aR H vs ds):Rep H (.ref a) (.tup ds)
 | lst {a:Addr}{vs:List V}{ds:List D}(e:H a=some (.lst vs)) (r:aR H vs ds):Rep H (.ref a) (.lst ds)
inductive aR (H:Hp):List V->List D->Prop
 | nil:aR H [] []
 | cons {v:V}{d:D}{vs:List V}{ds:List D}(r:Rep H v d) (rs:aR H vs ds):aR H (v :: vs) (d :: ds)
end
mutual
theorem Rep.tups {H H':Hp}(ht:∀b xs,H b=some (.tup xs)->H' b=some (.tup xs)):∀(d:D){n:Nat}{v:V},Rep H v d->d7 n d=true->Rep H' v d
 | .bM,n,_,_,k=>by simp[d7] at k
 | .bl b,n,_,r,k=>by cases r;exact .bl b
 | .lst _,n,_,_,k=>by simp[d7] at k
 | .int i,n,_,r,k=>by cases r;exact .int i
 | .str i,n,_,r,k=>by cases r;exact .str i
 | .tup ds,n,_,r,k=>by
  cases n with
  | zero=>simp[d7] at k
  | succ n=>
   cases r with
   | @tup a vs _ e rs=>exact .tup (ht _ _ e) (aR.tups ht ds rs k)
theorem aR.tups {H H':Hp}(ht:∀b xs,H b=some (.tup xs)->H' b=some (.tup xs)):∀(ds:List D){n:Nat}{vs:List V},aR H vs ds->ds.all (d7 n)=true->aR H' vs ds
 | [],n,_,r,k=>by cases r;exact .nil
 | d :: ds,n,_,r,k=>by
  rw[List.all_cons,Bool.and_eq_true] at k
  cases r with
  | cons r1 r2=>exact .cons (Rep.tups ht d r1 k.1) (aR.tups ht ds r2 k.2)
end
noncomputable def Kd (H:Hp) (b:Addr) (k:D):Prop:=∃d,Rep H (.ref b) d/\d7 8 d=true/\nf d=k
theorem Kd.tups {H H':Hp}{b:Addr}{k:D}(x:Kd H b k) (ht:∀b xs,H b=some (.tup xs)->H' b=some (.tup xs)):Kd H' b k:=by
 obtain⟨d,r,hk,e⟩:=x
 exact⟨d,Rep.tups ht d r hk,hk,e⟩
noncomputable def upd (H:Hp) (a:Addr) (o:HO):Hp:=fun b=>if b=a then some o else H b
theorem aK {H:Hp}{a:Addr}{o:HO}:upd H a o a=some o:=by unfold upd;rw[if_pos rfl]
theorem aJ {H:Hp}{a b:Addr}{o:HO}(h:b≠a):upd H a o b=H b:=by unfold upd;rw[if_neg h]
theorem FT {H:Hp}{a b:Addr}{o u:HO}(h:H a=some o) (h':H b=some u) (d:o≠u):a≠b:=by
 intro e;subst e;rw[h] at h';exact d (Option.some.inj h')
theorem bh {H:Hp}{a b:Addr}{o:HO}(h:H a=some o) (h':H b=none):a≠b:=by
 intro e;subst e;rw[h] at h';cases h'
section
variable (P:Program) (w:World)
noncomputable def cN (H:Hp) (h:Heap) (a:Addr):HO->Prop
 | .lst xs=>xs.length<=sizeLine/\∃(its:List Value) (n:Nat),Vals xs its/\h.get? a=some {cls:=.type "list",data:=.seq its.toArray n}
 | .tup xs=>xs.length<=sizeLine/\∃its:List Value,Vals xs its/\IsTup h a its.toArray
 | .dK kvs=>kvs.length<=sizeLine/\(a == sysModules)=false/\∃vs,KV kvs vs/\h.DictOf (iM P w) a vs
 | .dT kvs=>kvs.length<=sizeLine/\(a == sysModules)=false/\∃xs:List (D×Addr×Value),
   Paired (fun(p:D×V) (q:D×Addr×Value)=>p.1=q.1/\Kd H q.2.1 p.1/\RelV p.2 q.2.2) kvs xs/\
   ∃o es ep,h.get? a=some o/\o.ExactDict/\o.data= .dict es ep/\es.toList=xs.map (entryOfKey (iP P w))/\(xs.map (·.1)).Nodup
 | .set S n=>h.SetOf (intKind P w) a S n
 | .ins C dx fs=>H dx=some (.own a)/\fs.length<=1000/\dx≠a/\h.get? a=some (PySem.W.instObj C dx)/\
   ∃mA,h.Ns1 dx mA/\(∀f,mC (fs.lookup f) (mA f))/\PySem.Within mA (fs.map (·.1))
 | .own _=>∃o,h.get? a=some o
 | .xd fs=>∃mA,h.Ns1 a mA/\∀f,mC (fs.lookup f) (mA f)
 | .iA lo hi=>∃t u v,h.get? a=some {cls:=.type "range",data:=.fields #[.int lo t,.int hi u,.int 1 v]}
 | .kC o u=>h.get? a=some o/\cN H h a u
 | .GG ps=>h.get? a=some {cls:=.none,data:=.fields ps}
 | .met f x=>h.get? a=some (PySem.W.methodObj (.ref f) (.ref x))
 | .ext φ=>φ h/\(∃o,h.get? a=some o)/\∀h1 h2:Heap,φ h1->(∀o,h1.get? a=some o->h2.get? a=some o)->φ h2
noncomputable def kU (H:Hp) (h:Heap):Prop:=∀a o,H a=some o->cN P w H h a o
end
section
variable {P:Program}{w:World}{H H':Hp}{h h':Heap}{a:Addr}{o:HO}
theorem cN.lt (x:cN P w H h a o):a < h.objs.size:=by
 cases o with
 | lst xs=>obtain⟨_,_,_,_,e⟩:=x;exact Heap.lt_size e
 | tup xs=>obtain⟨_,_,_,p⟩:=x;exact p.lt
 | dK kvs=>obtain⟨_,_,_,_,o,_,_,e,_⟩:=x;exact Heap.lt_size e
 | dT kvs=>obtain⟨_,_,_,_,o,_,_,e,_⟩:=x;exact Heap.lt_size e
 | set S n=>obtain⟨o,_,_,_,e,_⟩:=x;exact Heap.lt_size e
 | ins C dx fs=>obtain⟨_,_,_,e,_⟩:=x;exact Heap.lt_size e
 | own y=>obtain⟨_,e⟩:=x;exact Heap.lt_size e
 | xd fs=>obtain⟨_,⟨_,_,_,e,_⟩,_⟩:=x;exact Heap.lt_size e
 | iA lo hi=>obtain⟨_,_,_,e⟩:=x;exact Heap.lt_size e
 | kC ob u=>obtain⟨e,_⟩:=x;exact Heap.lt_size e
 | GG ps=>exact Heap.lt_size (show h.get? a=some _ from x)
 | met f y=>exact Heap.lt_size (show h.get? a=some _ from x)
 | ext φ=>obtain⟨_,⟨_,e⟩,_⟩:=x;exact Heap.lt_size e
theorem Paired.Aa {α β:Type}{F G:α->β->Prop}:∀{l₁:List α}{l₂:List β},Paired F l₁ l₂->(∀a b,F a b->G a b)->Paired G l₁ l₂
 | _,_,.nil,_=>.nil
 | _,_,.cons r t,f=>.cons (f _ _ r) (Paired.Aa t f)
theorem cN.stay (x:cN P w H h a o) (k:∀b u,(b=a\/H b=some (.own a))->h.get? b=some u->h'.get? b=some u)
  (ho:∀b,H b=some (.own a)->H' b=some (.own a)) (ht:∀b xs,H b=some (.tup xs)->H' b=some (.tup xs)):cN P w H' h' a o:=by
 induction o with
 | lst xs=>obtain⟨z,its,n,r,e⟩:=x;exact⟨z,its,n,r,k _ _ (.inl rfl) e⟩
 | tup xs=>obtain⟨z,its,r,ob,e,c⟩:=x;exact⟨z,its,r,ob,k _ _ (.inl rfl) e,c⟩
 | dK kvs=>obtain⟨z,y,vs,r,ob,es,ep,e,c⟩:=x;exact⟨z,y,vs,r,ob,es,ep,k _ _ (.inl rfl) e,c⟩
 | dT kvs=>
  obtain⟨z,y,xs,r,ob,es,ep,e,c⟩:=x
  exact⟨z,y,xs,Paired.Aa r fun p q z=>⟨z.1,z.2.1.tups ht,z.2.2⟩,ob,es,ep,k _ _ (.inl rfl) e,c⟩
 | set S n=>obtain⟨ob,es,ep,t,e,c⟩:=x;exact⟨ob,es,ep,t,k _ _ (.inl rfl) e,c⟩
 | ins C dx fs=>
  obtain⟨d,z,ne,e,mA,⟨od,es,ep,e2,c⟩,r⟩:=x
  exact⟨ho _ d,z,ne,k _ _ (.inl rfl) e,mA,⟨od,es,ep,k _ _ (.inr d) e2,c⟩,r⟩
 | own y=>obtain⟨ob,e⟩:=x;exact⟨ob,k _ _ (.inl rfl) e⟩
 | xd fs=>obtain⟨mA,⟨od,es,ep,e,c⟩,r⟩:=x;exact⟨mA,⟨od,es,ep,k _ _ (.inl rfl) e,c⟩,r⟩
 | iA lo hi=>obtain⟨t,u,v,e⟩:=x;exact⟨t,u,v,k _ _ (.inl rfl) e⟩
 | kC ob u ih=>obtain⟨e,q⟩:=x;exact⟨k _ _ (.inl rfl) e,ih q⟩
 | GG ps=>
  have e:h.get? a=some {cls:=.none,data:=.fields ps}:=x
  show h'.get? a=some {cls:=.none,data:=.fields ps}
  exact k a _ (.inl rfl) e
 | met f y=>
  have e:h.get? a=some (PySem.W.methodObj (.ref f) (.ref y)):=x
  show h'.get? a=some (PySem.W.methodObj (.ref f) (.ref y))
  exact k a _ (.inl rfl) e
 | ext φ=>obtain⟨p,⟨o,e⟩,st⟩:=x;exact⟨st _ _ p fun o q=>k _ _ (.inl rfl) q,⟨o,k _ _ (.inl rfl) e⟩,st⟩
theorem kU.lt (x:kU P w H h) (e:H a=some o):a < h.objs.size:=(x a o e).lt
theorem kU.fresh (x:kU P w H h) (e:h.objs.size<=a):H a=none:=by
 cases q:H a with
 | none=>rfl
 | some u=>exact absurd (Nat.lt_of_lt_of_le (x.lt q) e) (Nat.lt_irrefl _)
theorem kU.kept (x:kU P w H h) (k:∀b u,h.get? b=some u->h'.get? b=some u):kU P w H h':=fun a o e=>
 (x a o e).stay (fun b u _ q=>k b u q) (fun _ q=>q) fun _ _ q=>q
theorem kU.laid (x:kU P w H h) (k:∀b u,h.get? b=some u->h'.get? b=some u) (hp:h.objs.size<=a) (new:cN P w (upd H a o) h' a o):kU P w (upd H a o) h':=fun b u e=>by
 have hn:=x.fresh hp
 by_cases hb:b=a
 ·subst hb;rw[aK] at e;cases e;exact new
 ·rw[aJ hb] at e
  exact(x b u e).stay (fun c v _ q=>k c v q) (fun c q=>by rw[aJ (bh q hn)];exact q) fun c xs q=>by rw[aJ (bh q hn)];exact q
end
noncomputable def Rd (H:Hp) (a:Addr) (u:HO):Prop:=H a=some u\/∃o,H a=some (.kC o u)
theorem Rd.of {H:Hp}{a:Addr}{u:HO}(h:H a=some u):Rd H a u:=.inl h
theorem Rd.ok {P:Program}{w:World}{H:Hp}{h:Heap}{a:Addr}{u:HO}(r:Rd H a u) (x:kU P w H h):cN P w H h a u:=by
 rcases r with r | ⟨o,r⟩
 ·exact x a u r
 ·obtain⟨_,q⟩:=x a _ r
  exact q
noncomputable def J0:Option HO->Prop
 | some (.lst _)=>True
 | some (.dK _)=>True
 | some (.dT _)=>True
 | some (.set _ _)=>True
 | some (.ins _ _ _)=>True
 | some (.ext _)=>True
 | _=>False
section
variable {P:Program}{w:World}{H:Hp}{h h':Heap}{x e:Addr}{o':HO}
theorem kU.write (ok : kU P w H h) (mu : J0 (H x)) (he : e = x \/ H e = some (.own x)) (k : ∀ b u, b ≠ e -> h.get? b = some u -> h'.get? b = some u) (Jt : ∃ u, h'.get? e = some u)
    (new:cN P w (upd H x o') h' x o'):kU P w (upd H x o') h':=fun b u q=>by
  have J1:∀c y,H c=some (.own y)->c≠x:=fun c y r z=>by subst z;rw[r] at mu;exact mu
  have Nb:∀c xs,H c=some (.tup xs)->c≠x:=fun c xs r z=>by subst z;rw[r] at mu;exact mu
  by_cases hb:b=x
  . subst hb;rw[aK] at q;cases q;exact new
  . rw[aJ hb] at q
    by_cases GH:b=e
    . have q':H b=some (.own x):=by
        rcases he with z | z
        . exact absurd (GH.trans z) hb
        . rw[GH];exact z
      rw[q] at q';cases q'
      obtain⟨v,hv⟩:=Jt
      exact⟨v,by rw[GH];exact hv⟩
    . refine(ok b u q).stay (fun c v hc r=>k c v ?_ r) (fun c r=>by rw[aJ (J1 c b r)];exact r) fun c xs r=>by rw[aJ (Nb c xs r)];exact r
      rcases hc with rfl | hc
      . exact GH
      . rintro rfl
        rcases he with z | z
        . exact J1 c b hc z
        . rw[hc] at z;cases z;exact hb rfl
end
structure Un (fs ex:List Addr) (H H':Hp) (h h':Heap):Prop where
 keep:∀b o,h.get? b=some o->H b=none->b∉fs->b∉ex->h'.get? b=some o
 slot:∀b o,h.get? b=some o->H b=none->b∈fs->b∉ex->∃sl,h'.get? b=some {o with slots:=sl}
 free:∀b o,h.get? b=some o->H b=none->b∉ex->H' b=none
 there:∀b o,h.get? b=some o->b∉ex->∃o',h'.get? b=some o'
 tups:∀b xs,H b=some (.tup xs)->H' b=some (.tup xs)
 rR:∀b o u,H b=some (.kC o u)->H' b=some (.kC o u)
 uz:∀b ps,H b=some (.GG ps)->∃more,H' b=some (.GG (ps++more))
section
variable {fs fs' ex ex':List Addr}{H H1 H2:Hp}{h h1 h2 h':Heap}{a x e:Addr}{o:HO}
theorem Un.any (u:Un fs ex H H1 h h1){b:Addr}{ob:Obj}(q:h.get? b=some ob) (n:H b=none) (hx:b∉ex):∃sl,h1.get? b=some {ob with slots:=sl}:=by
 by_cases hb:b∈fs
 ·exact u.slot b ob q n hb hx
 ·exact⟨ob.slots,u.keep b ob q n hb hx⟩
theorem Un.kept (k:∀b u,h.get? b=some u->h'.get? b=some u):Un fs ex H H h h':=
 ⟨fun b ob q _ _ _=>k b ob q,fun b ob q _ _ _=>⟨ob.slots,k b ob q⟩,fun _ _ _ n _=>n,fun b ob q _=>⟨ob,k b ob q⟩,fun _ _ q=>q,fun _ _ _ q=>q,fun _ ps q=>⟨#[],by rw[q];simp⟩⟩
theorem Un.refl:Un fs ex H H h h:=Un.kept fun _ _ q=>q
theorem Un.laid (k:∀b u,h.get? b=some u->h'.get? b=some u) (hp:h.objs.size<=a) (hn:H a=none):Un fs ex H (upd H a o) h h' where
 keep:=fun b u q _ _ _=>k b u q
 slot:=fun b u q _ _ _=>⟨u.slots,k b u q⟩
 free:=fun b u q n _=>by rw[aJ (Nat.ne_of_lt (Nat.lt_of_lt_of_le (Heap.lt_size q) hp))];exact n
 there:=fun b u q _=>⟨u,k b u q⟩
 tups:=fun b xs q=>by rw[aJ (bh q hn)];exact q
 rR:=fun b u xs q=>by rw[aJ (bh q hn)];exact q
 uz:=fun b ps q=>⟨#[],by rw[aJ (bh q hn),q];simp⟩
theorem Un.write (mu:J0 (H x)) (he:e=x\/H e=some (.own x)) (k:∀b u,b≠e->h.get? b=some u->h'.get? b=some u) (Jt:∃u,h'.get? e=some u):Un fs ex H (upd H x o) h h':=by
 have hx:∀b,H b=none->b≠x:=fun b n z=>by subst z;rw[n] at mu;exact mu
 have hb:∀b,H b=none->b≠e:=fun b n z=>by
  subst z
  rcases he with r | r
  ·exact hx b n r
  ·rw[n] at r;cases r
 have hm:∀b u,H b=some u->¬J0 (some u)->b≠x:=fun b u q nm z=>by subst z;rw[q] at mu;exact nm mu
 refine⟨fun b u q n _ _=>k b u (hb b n) q,fun b u q n _ _=>⟨u.slots,k b u (hb b n) q⟩,fun b u q n _=>by rw[aJ (hx b n)];exact n,fun b u q _=>?_,
  fun b xs q=>by rw[aJ (hm b _ q fun z=>z)];exact q,fun b u xs q=>by rw[aJ (hm b _ q fun z=>z)];exact q,fun b ps q=>⟨#[],by rw[aJ (hm b _ q fun z=>z),q];simp⟩⟩
 by_cases GH:b=e
 ·subst GH;exact Jt
 ·exact⟨u,k b u GH q⟩
end
noncomputable def Mf (h:Heap) (H:Hp):List Addr:=(List.range h.objs.size).filter fun a=>(H a).isSome
noncomputable def uA (h:Heap) (H:Hp):Heap:=PySem.W.hideAll h (Mf h H)
theorem Ab (h:Heap) (H:Hp):(uA h H).objs.size=h.objs.size:=PySem.W.hideAll_size _ _
theorem Bu {h:Heap}{H:Hp}{b:Addr}{o:Obj}(e:h.get? b=some o) (n:H b=none):(uA h H).get? b=some o:=
 PySem.W.hideAll_get _ e fun hm=>by
  have q:(H b).isSome=true:=(List.mem_filter.mp hm).2
  rw[n] at q;simp at q
theorem DQ {h:Heap}{H:Hp}{b:Addr}{o:Obj}(e:(uA h H).get? b=some o):h.get? b=some o/\H b=none:=by
 have e':h.get? b=some o:=PySem.W.of_hideAll (Mf h H) e
 refine⟨e',?_⟩
 cases q:H b with
 | none=>rfl
 | some x=>
  have hm:b∈Mf h H:=List.mem_filter.mpr ⟨List.mem_range.mpr (Heap.lt_size e'),by simp[q]⟩
  have z:(uA h H).get? b=none:=PySem.W.hideAll_none (Mf h H) hm
  rw[z] at e;cases e
noncomputable def DR (g h:Heap) (L:Addr):List (Addr×Obj):=(List.range h.objs.size).filterMap fun a=>if a=L\/(g.get? a).isSome=true then none else(h.get? a).map fun o=>(a,o)
noncomputable def rest (g h:Heap) (L d:Addr):List (Addr×Obj):=(DR g h L).filter fun p=>decide (p.1≠d)
structure Mod (K:PySem.W.Frag) (mg:Str->Option Value) (base:Heap):Prop where
 Nc:K.In base
 glob:base.Ns mainGlobals mg
 blt:∃mb,base.Ns builtinsNs mb/\∀x:Str,x≠"__name__"->mb x=bootBuiltins x
 nolimit:base.NoLimit
structure Cx where
 prog:Program
 w:World
 K:PySem.W.Frag
 mg:Str->Option Value
 base:Heap
 A:Around
 N:List Str
 s₀:Shared
 H₀:Hp
 env:Env
 outer:List Env
 stack:List Env
 ex:List Addr
 fn:Str->Bool
 calm:Bool
 pn:List (Addr×Obj)
 xe:Value->Shared->Prop
noncomputable def frs (l:List Env):List Addr:=l.filterMap (·.frame)
noncomputable abbrev Cx.fs (X:Cx):List Addr:=frs X.outer
noncomputable def Bv (sc:Scope) (x:Str):Prop:=sc.names.lookup x=some .local\/sc.names.lookup x=some .cell\/sc.names.lookup x=some .free
noncomputable def Loc (sc:Scope) (x:Str):Prop:=sc.names.lookup x=some .local\/sc.names.lookup x=some .cell
noncomputable def Look (env:Env) (h:Heap) (m:Str->Option Value) (x:Str) (u:Value):Prop:=
 (env.kindOf x=some .local/\m x=some u)\/((env.kindOf x=some .cell\/env.kindOf x=some .free)/\∃c,env.cells.lookup x=some c/\h.IsCell c (some u))
structure Cx.Ok (X:Cx):Prop where
 mod:Mod X.K X.mg X.base
 kind:X.env.scope.kind= .function
 glob:X.env.globals=mainGlobals
 blt:X.env.builtins=builtinsNs
 above:X.s₀.heap.objs.size<=X.env.locals
 inj:∀x y c,X.env.cells.lookup x=some c->X.env.cells.lookup y=some c->x=y
 has:∀x,(X.env.kindOf x=some .cell\/X.env.kindOf x=some .free)->∃c,X.env.cells.lookup x=some c
 J2:∀x c,X.fn x=true->X.env.cells.lookup x=some c->X.s₀.heap.objs.size<=c
 hd:X.calm=true->X.A.handled=none
 frames:X.A.frames=some X.stack
 stk:X.stack=X.outer\/(X.stack=X.env :: X.outer/\X.env.frame=some X.env.locals)
 Nd:∀b∈X.ex,b≠X.env.locals/\∀x c,X.env.cells.lookup x=some c->c≠b
 bs:∀b o,X.base.get? b=some o->X.s₀.heap.get? b=some o/\X.H₀ b=none
 FU:X.base.objs.size<=X.s₀.heap.objs.size
 Bw:∀b o,X.base.get? b=some o->b∉X.ex
 Bx:∀b∈X.ex,b∉X.fs
 qp:X.s₀.heap.FunFrames X.base X.outer
 Ju:∀b∈X.fs,X.H₀ b=none
structure Inv (X:Cx) (pins:List (Addr×Obj)) (σ:List (Option V)) (H:Hp) (s:Shared):Prop where
 ok:X.Ok
 os:s.os=X.s₀.os
 bare:AllBare s.gens
 base:Un X.fs X.ex X.H₀ H X.s₀.heap s.heap
 loc:∃m,s.heap.Ns X.env.locals m/\∀(i:Nat) (x:Str) (v:V),X.N[i]? =some x->σ[i]? =some (some v)->Bv X.env.scope x->∃u,RelV v u/\Look X.env s.heap m x u
 cell:∀x c,X.env.cells.lookup x=some c->∃v,s.heap.IsCell c v
 free:H X.env.locals=none
 mG:∀x c,X.env.cells.lookup x=some c->H c=none
 pin:∀p∈X.pn++pins,s.heap.get? p.1=some p.2/\H p.1=none/\p.1≠X.env.locals/\p.1∉X.fs/\∀v,p.2.data≠.cell v
 hok:kU X.prog X.w H s.heap
 len:σ.length=X.N.length
section
variable {X:Cx}{pins:List (Addr×Obj)}{σ:List (Option V)}{H H':Hp}{s:Shared}{h':Heap}
theorem Cx.Ok.jU (ok:X.Ok){b:Addr}{o:Obj}(e:X.base.get? b=some o):b∉X.fs:=fun hb=>by
 have:=(ok.qp.mem hb).1
 rw[e] at this;cases this
theorem Inv.bs (I:Inv X pins σ H s):∀b o,X.base.get? b=some o->s.heap.get? b=some o/\H b=none:=fun b o e=>
 ⟨I.base.keep b o (I.ok.bs b o e).1 (I.ok.bs b o e).2 (I.ok.jU e) (I.ok.Bw b o e),I.base.free b o (I.ok.bs b o e).1 (I.ok.bs b o e).2 (I.ok.Bw b o e)⟩
theorem Inv.bk (I:Inv X pins σ H s):∀b o,X.base.get? b=some o->s.heap.get? b=some o:=fun b o e=>(I.bs b o e).1
theorem Inv.mod (I:Inv X pins σ H s):Mod X.K X.mg X.base:=I.ok.mod
theorem Inv.Bh (I:Inv X pins σ H s):X.K.In s.heap:=I.ok.mod.Nc.keeps I.bk
theorem Inv.lt (I:Inv X pins σ H s):X.env.locals < s.heap.objs.size:=let⟨_,hn,_⟩:=I.loc;hn.lt
theorem Inv.sz (I:Inv X pins σ H s):X.s₀.heap.objs.size<=s.heap.objs.size:=Nat.le_trans I.ok.above (Nat.le_of_lt I.lt)
theorem Inv.J3 (I:Inv X pins σ H s){a:Addr}(h:s.heap.objs.size<=a):a∉X.fs:=fun hb=>by
 obtain⟨_,o,ho,_⟩:=I.ok.qp.mem hb
 exact absurd (Nat.lt_of_lt_of_le (Heap.lt_size ho) (Nat.le_trans I.sz h)) (Nat.lt_irrefl _)
theorem Inv.GJ (I:Inv X pins σ H s):∀x c,X.env.cells.lookup x=some c->c≠X.env.locals:=fun x c e z=>by
 obtain⟨v,o,ho,hd⟩:=I.cell x c e
 obtain⟨m,⟨o',es,ep,ho',hd',_⟩,_⟩:=I.loc
 rw[z,ho'] at ho;cases ho;rw[hd'] at hd;cases hd
theorem Inv.qp (I:Inv X pins σ H s):s.heap.FunFrames X.base X.outer:=by
 have all:∀(l:List Env),(∀b∈frs l,b∈X.fs)->X.s₀.heap.FunFrames X.base l->s.heap.FunFrames X.base l:=by
  intro l
  induction l with
  | nil=>intro _ _;trivial
  | cons env r ih=>
   intro hs hl
   obtain⟨hk,⟨L,o,hf,hn,ho,hd⟩,hr⟩:=hl
   have hL:L∈X.fs:=hs L (by unfold frs;rw[List.filterMap_cons,hf];exact List.mem_cons_self)
   obtain⟨sl,e⟩:=I.base.slot L o ho (I.ok.Ju L hL) hL fun z=>I.ok.Bx L z hL
   exact⟨hk,⟨L,_,hf,hn,e,hd⟩,ih (fun b hb=>hs b (by unfold frs;rw[List.filterMap_cons,hf];exact List.mem_cons_of_mem _ hb)) hr⟩
 exact all X.outer (fun _ hb=>hb) I.ok.qp
theorem Inv.stack (I:Inv X pins σ H s):s.heap.FunFrames X.base X.stack:=by
 rcases I.ok.stk with e | ⟨e,hf⟩
 ·rw[e];exact I.qp
 ·rw[e]
  obtain⟨m,hn,_⟩:=I.loc
  refine .cons (by rw[I.ok.kind];decide) hf hn ?_ I.qp
  exact Heap.get?_none_of_le (Nat.le_trans I.ok.FU I.ok.above)
theorem Inv.uB (I:Inv X pins σ H s):∀b∈frs X.stack,b∈X.env.locals :: X.fs:=fun b hb=>by
 rcases I.ok.stk with e | ⟨e,hf⟩
 ·rw[e] at hb;exact List.mem_cons_of_mem _ hb
 ·rw[e] at hb
  unfold frs at hb
  rw[List.filterMap_cons,hf] at hb
  exact hb
theorem Inv.yS (I:Inv X pins σ H s):∀b∈frs X.stack,H b=none:=fun b hb=>by
 rcases List.mem_cons.mp (I.uB b hb) with e | hb
 ·rw[e];exact I.free
 ·obtain⟨_,o,ho,_⟩:=I.ok.qp.mem hb
  exact I.base.free b o ho (I.ok.Ju b hb) fun z=>I.ok.Bx b z hb
theorem Inv.step {g':Array GenState}{t':Nat}{d':Drawn}{ch:List Addr}(I:Inv X pins σ H s)
  (hch:∀b∈ch,(b∈X.ex\/X.s₀.heap.objs.size<=b)/\b≠X.env.locals/\(∀x c,X.env.cells.lookup x=some c->c≠b)/\∀p∈X.pn++pins,p.1≠b)
  (keep:∀b o,b≠X.env.locals->b∉X.fs->b∉ch->s.heap.get? b=some o->H b=none->h'.get? b=some o)
  (slot:∀b o,b≠X.env.locals->b∈X.fs->b∉ch->s.heap.get? b=some o->H b=none->∃sl,h'.get? b=some {o with slots:=sl}) (free:∀b o,b∉ch->s.heap.get? b=some o->H b=none->H' b=none)
  (there:∀b o,b∉ch->s.heap.get? b=some o->∃o',h'.get? b=some o')
  (tups:∀b xs,H b=some (.tup xs)->H' b=some (.tup xs)) (rR:∀b o u,H b=some (.kC o u)->H' b=some (.kC o u)) (uz:∀b ps,H b=some (.GG ps)->∃more,H' b=some (.GG (ps++more)))
  (ns:∀m,s.heap.Ns X.env.locals m->h'.Ns X.env.locals m) (hok:kU X.prog X.w H' h') (hg:AllBare g'):
  Inv X pins σ H' {s with heap:=h',gens:=g',drawn:=d',toks:=t'}:=by
 have Rf:∀b o,X.s₀.heap.get? b=some o->b≠X.env.locals:=fun b o e=>Nat.ne_of_lt (Nat.lt_of_lt_of_le (Heap.lt_size e) I.ok.above)
 have Mg:∀b o,X.s₀.heap.get? b=some o->b∉X.ex->b∉ch:=fun b o e hx hb=>by
  rcases(hch b hb).1 with z | z
  ·exact hx z
  ·exact absurd (Nat.lt_of_lt_of_le (Heap.lt_size e) z) (Nat.lt_irrefl _)
 have cellK:∀x c,X.env.cells.lookup x=some c->∀v,s.heap.IsCell c v->h'.IsCell c v:=fun x c e v ⟨o,ho,hd⟩=>by
  have J4:c∉ch:=fun z=>(hch c z).2.2.1 x c e rfl
  by_cases hc:c∈X.fs
  ·obtain⟨sl,q⟩:=slot c o (I.GJ x c e) hc J4 ho (I.mG x c e)
   exact⟨_,q,hd⟩
  ·exact⟨o,keep c o (I.GJ x c e) hc J4 ho (I.mG x c e),hd⟩
 refine⟨I.ok,I.os,hg,⟨fun b o e n hb hx=>?_,fun b o e n hb hx=>?_,fun b o e n hx=>?_,fun b o e hx=>?_,fun b xs e=>tups b xs (I.base.tups b xs e),fun b o xs e=>rR b o xs (I.base.rR b o xs e),fun b ps e=>?_⟩,?_,fun x c e=>?_,?_,fun x c e=>?_,fun p hp=>?_,hok,I.len⟩
 ·exact keep b o (Rf b o e) hb (Mg b o e hx) (I.base.keep b o e n hb hx) (I.base.free b o e n hx)
 ·obtain⟨sl,e1⟩:=I.base.slot b o e n hb hx
  obtain⟨SD,e2⟩:=slot b _ (Rf b o e) hb (Mg b o e hx) e1 (I.base.free b o e n hx)
  exact⟨SD,e2⟩
 ·obtain⟨o',e1⟩:=I.base.there b o e hx
  exact free b o' (Mg b o e hx) e1 (I.base.free b o e n hx)
 ·obtain⟨o',e1⟩:=I.base.there b o e hx
  exact there b o' (Mg b o e hx) e1
 ·obtain⟨m1,e1⟩:=I.base.uz b ps e
  obtain⟨m2,e2⟩:=uz b _ e1
  exact⟨m1++m2,by rw[e2,Array.append_assoc]⟩
 ·obtain⟨m,hn,hl⟩:=I.loc
  refine⟨m,ns m hn,fun i x v e1 e2 e3=>?_⟩
  obtain⟨u,r,l⟩:=hl i x v e1 e2 e3
  refine⟨u,r,?_⟩
  rcases l with l | ⟨k,c,e,z⟩
  ·exact .inl l
  ·exact .inr ⟨k,c,e,cellK x c e _ z⟩
 ·obtain⟨v,z⟩:=I.cell x c e
  exact⟨v,cellK x c e v z⟩
 ·obtain⟨m,⟨o,_,_,ho,_⟩,_⟩:=I.loc
  exact free _ o (fun z=>(hch _ z).2.1 rfl) ho I.free
 ·obtain⟨v,o,ho,hd⟩:=I.cell x c e
  exact free c o (fun z=>(hch c z).2.2.1 x c e rfl) ho (I.mG x c e)
 ·obtain⟨e,n,ne,nf,d⟩:=I.pin p hp
  have J4:p.1∉ch:=fun z=>(hch p.1 z).2.2.2 p hp rfl
  exact⟨keep p.1 p.2 ne nf J4 e n,free p.1 p.2 J4 e n,ne,nf,d⟩
theorem Inv.un {t':Nat}(I:Inv X pins σ H s) (u:Un X.fs [] H H' s.heap h') (hok:kU X.prog X.w H' h'):Inv X pins σ H' {s with heap:=h',toks:=t'}:=by
 obtain⟨m,⟨o,es,ep,ho,r⟩,_⟩:=id I.loc
 obtain⟨sl,hL⟩:=u.any ho I.free (by simp)
 exact I.step (g':=s.gens) (d':=s.drawn) (ch:=[]) (fun _ z=>nomatch z) (fun b o _ hb _ e n=>u.keep b o e n hb (by simp)) (fun b o _ hb _ e n=>u.slot b o e n hb (by simp)) (fun b o _ e n=>u.free b o e n (by simp)) (fun b o _ e=>u.there b o e (by simp)) u.tups u.rR u.uz (fun m' hm=>by
  obtain⟨o',es',Nf,ho',r'⟩:=hm
  rw[ho] at ho';cases ho'
  exact⟨_,es',Nf,hL,r'⟩) hok I.bare
theorem Inv.call {g':Array GenState}{t':Nat}{d':Drawn}{ch:List Addr}(I:Inv X pins σ H s) (u:Un (frs X.stack) ch H H' s.heap h') (hok:kU X.prog X.w H' h') (hg:AllBare g')
  (hch:∀b∈ch,(b∈X.ex\/X.s₀.heap.objs.size<=b)/\b≠X.env.locals/\(∀x c,X.env.cells.lookup x=some c->c≠b)/\∀p∈X.pn++pins,p.1≠b):
  Inv X pins σ H' {s with heap:=h',gens:=g',drawn:=d',toks:=t'}:=by
 obtain⟨m,⟨o,es,ep,ho,r⟩,_⟩:=id I.loc
 obtain⟨sl,hL⟩:=u.any ho I.free fun z=>(hch _ z).2.1 rfl
 exact I.step (ch:=ch) hch (fun b o hL hb hc e n=>u.keep b o e n (fun z=>(List.mem_cons.mp (I.uB b z)).elim hL hb) hc) (fun b o _ _ hc e n=>u.any e n hc) (fun b o hc e n=>u.free b o e n hc) (fun b o hc e=>u.there b o e hc) u.tups u.rR u.uz (fun m' hm=>by
  obtain⟨o',es',Nf,ho',r'⟩:=hm
  rw[ho] at ho';cases ho'
  exact⟨_,es',Nf,hL,r'⟩) hok hg
theorem Inv.turned {t':Nat}{it:Addr}(I:Inv X pins σ H s) (k:∀b o,b≠it->s.heap.get? b=some o->h'.get? b=some o) (hn:H it=none) (hL:it≠X.env.locals)
  (h1:it∈X.ex\/X.s₀.heap.objs.size<=it) (h2:∀x c,X.env.cells.lookup x=some c->c≠it) (h3:∀p∈X.pn++pins,p.1≠it):Inv X pins σ H {s with heap:=h',toks:=t'}:=by
 have J5:∀b u,H b=some u->b≠it:=fun b u e z=>by rw[z,hn] at e;cases e
 refine I.step (g':=s.gens) (d':=s.drawn) (ch:=[it]) (fun b hb=>?_) (fun b o _ _ hc e _=>k b o (fun z=>hc (by simp[z])) e) (fun b o _ _ hc e _=>⟨o.slots,k b o (fun z=>hc (by simp[z])) e⟩) (fun _ _ _ _ n=>n)
  (fun b o hc e=>⟨o,k b o (fun z=>hc (by simp[z])) e⟩) (fun _ _ e=>e) (fun _ _ _ e=>e) (fun b ps e=>⟨#[],by rw[e];simp⟩) (fun m hm=>?_) (fun b u e=>?_) I.bare
 ·have e:b=it:=by simpa using hb
  subst e
  exact⟨h1,hL,h2,h3⟩
 ·obtain⟨o,es,ep,ho,r⟩:=hm
  exact⟨o,es,ep,k _ o (Ne.symm hL) ho,r⟩
 ·refine(I.hok b u e).stay (fun c v hc q=>k c v ?_ q) (fun _ q=>q) fun _ _ q=>q
  rcases hc with z | z
  ·rw[z];exact J5 b u e
  ·exact J5 c _ z
theorem Inv.tok (I:Inv X pins σ H s) (t:Nat):Inv X pins σ H {s with toks:=t}:=I.un (h':=s.heap) (t':=t) Un.refl I.hok
theorem Inv.kept {t':Nat}(I:Inv X pins σ H s) (k:∀b u,s.heap.get? b=some u->h'.get? b=some u):Inv X pins σ H {s with heap:=h',toks:=t'}:=I.un (Un.kept k) (I.hok.kept k)
theorem Inv.laid {a:Addr}{o:HO}{t':Nat}(I:Inv X pins σ H s) (k:∀b u,s.heap.get? b=some u->h'.get? b=some u) (hp:s.heap.objs.size<=a) (new:cN X.prog X.w (upd H a o) h' a o):
  Inv X pins σ (upd H a o) {s with heap:=h',toks:=t'}:=I.un (Un.laid k hp (I.hok.fresh hp)) (I.hok.laid k hp new)
theorem Inv.write {x e:Addr}{o:HO}{t':Nat}(I:Inv X pins σ H s) (mu:J0 (H x)) (he:e=x\/H e=some (.own x)) (k:∀b u,b≠e->s.heap.get? b=some u->h'.get? b=some u) (Jt:∃u,h'.get? e=some u)
  (new:cN X.prog X.w (upd H x o) h' x o):Inv X pins σ (upd H x o) {s with heap:=h',toks:=t'}:=I.un (Un.write mu he k Jt) (I.hok.write mu he k Jt new)
theorem Inv.yT {FW:List (Addr×Obj)}(I:Inv X pins σ H s) (h:∀p∈FW,s.heap.get? p.1=some p.2/\H p.1=none/\p.1≠X.env.locals/\p.1∉X.fs/\∀v,p.2.data≠.cell v):Inv X FW σ H s:=
 ⟨I.ok,I.os,I.bare,I.base,I.loc,I.cell,I.free,I.mG,fun p hp=>(List.mem_append.mp hp).elim (fun z=>I.pin p (List.mem_append_left _ z)) (h p),I.hok,I.len⟩
theorem vC {N:List Str}(hN:N.Nodup){i j:Nat}{x:Str}(a:N[i]? =some x) (b:N[j]? =some x):i=j:=by
 obtain⟨h1,e1⟩:=List.getElem?_eq_some_iff.mp a
 obtain⟨h2,e2⟩:=List.getElem?_eq_some_iff.mp b
 exact(List.getElem_inj hN).mp (e1.trans e2.symm)
theorem sU {M : Model} {A : Around} {E : Value -> Shared -> Prop} {i : Nat} {x : Str} {v : V} {u : Value} {Q : Unit -> Shared -> Prop} (I : Inv X pins σ H s) (hN : X.N.Nodup) (hi : X.N[i]? = some x) (hx : Loc X.env.scope x) (r : RelV v u)
    (h:∀s',Inv X pins (σ.set i (some v)) H s'->(∃a,Heap.SameBut a s.heap s'.heap/\(a=X.env.locals\/X.env.cells.lookup x=some a))->Q () s') (hf:X.fn x=true\/X.env.scope.names.lookup x=some .local:=by first | exact .inl rfl | exact .inr rfl | assumption):wpAny M A (storeName X.env x u) Q E s:=by
  obtain⟨m,hn,hl⟩:=id I.loc
  have hcls:(X.env.scope.kind == .class || (X.env.scope.kind == .module && X.env.locals != X.env.globals))=false:=by rw[I.ok.kind];rfl
  have J6:i < σ.length:=by rw[I.len];exact(List.getElem?_eq_some_iff.mp hi).1
  have GJ:=I.GJ
  have tracked:∀{a:Addr}{h':Heap},(∃o,s.heap.get? a=some o/\H a=none)->Heap.SameBut a s.heap h'->kU X.prog X.w H h':=fun {a h'} ha hs b ob e=>by
    obtain⟨_,_,hfree⟩:=ha
    refine(I.hok b ob e).stay (fun c w' hc q=>(hs.2 c ?_).trans q) (fun _ q=>q) fun _ _ q=>q
    rintro rfl
    rcases hc with rfl | hc
    . rw[hfree] at e;cases e
    . rw[hfree] at hc;cases hc
  rcases hx with hk | hk
  . refine wpAny_storeName_local hk hn (fun h' hn' hs=>?_) hcls
    obtain⟨oL,_,_,SE,_⟩:=id hn
    refine h _ ⟨I.ok,I.os,I.bare,⟨fun b o e n hb hx=>?_,fun b o e n hb hx=>?_,I.base.free,fun b o e hx=>?_,I.base.tups,I.base.rR,I.base.uz⟩,⟨_,hn',fun j y v' e1 e2 e3=>?_⟩,fun y c e=>?_,I.free,I.mG,fun p hp=>?_,tracked ⟨oL,SE,I.free⟩ hs,by simpa using I.len⟩ ⟨_,hs,.inl rfl⟩
    . exact(hs.2 b (Nat.ne_of_lt (Nat.lt_of_lt_of_le (Heap.lt_size e) I.ok.above))).trans (I.base.keep b o e n hb hx)
    . obtain⟨sl,e1⟩:=I.base.slot b o e n hb hx
      exact⟨sl,(hs.2 b (Nat.ne_of_lt (Nat.lt_of_lt_of_le (Heap.lt_size e) I.ok.above))).trans e1⟩
    . obtain⟨o',e1⟩:=I.base.there b o e hx
      exact⟨o',(hs.2 b (Nat.ne_of_lt (Nat.lt_of_lt_of_le (Heap.lt_size e) I.ok.above))).trans e1⟩
    . by_cases hj:j=i
      . subst hj
        rw[hi] at e1;cases e1
        rw[List.getElem?_set_self J6] at e2
        cases e2
        exact⟨u,r,.inl ⟨hk,by simp⟩⟩
      . rw[List.getElem?_set_ne (Ne.symm hj)] at e2
        obtain⟨u',r',q⟩:=hl j y v' e1 e2 e3
        refine⟨u',r',?_⟩
        rcases q with⟨k,e⟩ | ⟨k,c,e,z⟩
        . refine .inl ⟨k,?_⟩
          have:y≠x:=fun e=>hj (vC hN e1 (e▸hi))
          simp[this,e]
        . exact .inr ⟨k,c,e,z.sameBut hs (GJ y c e)⟩
    . obtain⟨w',z⟩:=I.cell y c e
      exact⟨w',z.sameBut hs (GJ y c e)⟩
    . obtain⟨e,n,ne,nf,d⟩:=I.pin p hp
      exact⟨(hs.2 p.1 ne).trans e,n,ne,nf,d⟩
  . have hfn:X.fn x=true:=by
      rcases hf with z | z
      . exact z
      . rw[z] at hk;cases hk
    obtain⟨c,hc⟩:=I.ok.has x (.inl hk)
    obtain⟨w',z⟩:=I.cell x c hc
    refine wpAny_storeName_cell I.ok.kind hk hc z (fun h' hc' hs=>?_)
    obtain⟨oc,hoc,Ng⟩:=id z
    refine h {s with heap:=h'} ⟨I.ok,I.os,I.bare,⟨fun b o e n hb hx=>?_,fun b o e n hb hx=>?_,I.base.free,fun b o e hx=>?_,I.base.tups,I.base.rR,I.base.uz⟩,⟨m,hn.sameBut hs (Ne.symm (GJ x c hc)),fun j y v' e1 e2 e3=>?_⟩,fun y c' e=>?_,I.free,I.mG,fun p hp=>?_,tracked ⟨oc,hoc,I.mG x c hc⟩ hs,by simpa using I.len⟩ ⟨c,hs,.inr hc⟩
    . exact(hs.2 b (Nat.ne_of_lt (Nat.lt_of_lt_of_le (Heap.lt_size e) (I.ok.J2 x c hfn hc)))).trans (I.base.keep b o e n hb hx)
    . obtain⟨sl,e1⟩:=I.base.slot b o e n hb hx
      exact⟨sl,(hs.2 b (Nat.ne_of_lt (Nat.lt_of_lt_of_le (Heap.lt_size e) (I.ok.J2 x c hfn hc)))).trans e1⟩
    . obtain⟨o',e1⟩:=I.base.there b o e hx
      exact⟨o',(hs.2 b (Nat.ne_of_lt (Nat.lt_of_lt_of_le (Heap.lt_size e) (I.ok.J2 x c hfn hc)))).trans e1⟩
    . by_cases hj:j=i
      . subst hj
        rw[hi] at e1;cases e1
        rw[List.getElem?_set_self J6] at e2
        cases e2
        exact⟨u,r,.inr ⟨.inl hk,c,hc,hc'⟩⟩
      . rw[List.getElem?_set_ne (Ne.symm hj)] at e2
        obtain⟨u',r',q⟩:=hl j y v' e1 e2 e3
        refine⟨u',r',?_⟩
        rcases q with q | ⟨k,c',e,z'⟩
        . exact .inl q
        . refine .inr ⟨k,c',e,z'.sameBut hs ?_⟩
          rintro rfl
          exact hj (vC hN e1 (I.ok.inj _ _ _ e hc▸hi))
    . by_cases hcc:c'=c
      . subst hcc;exact⟨_,hc'⟩
      . obtain⟨w2,z2⟩:=I.cell y c' e
        exact⟨w2,z2.sameBut hs hcc⟩
    . obtain⟨e,n,ne,nf,d⟩:=I.pin p hp
      refine⟨(hs.2 p.1 ?_).trans e,n,ne,nf,d⟩
      intro q
      rw[q,hoc] at e
      have q':oc=p.2:=Option.some.inj e
      exact d w' (by rw[<-q'];exact Ng)
theorem qq {M:Model}{A:Around}{E:Value->Shared->Prop}{i:Nat}{x:Str}{v:V}{u:Value}{Q:Unit->Shared->Prop}(I:Inv X pins σ H s) (hN:X.N.Nodup) (hi:X.N[i]? =some x) (hx:Loc X.env.scope x) (r:RelV v u)
  (h:∀s',Inv X pins (σ.set i (some v)) H s'->Q () s') (hf:X.fn x=true\/X.env.scope.names.lookup x=some .local:=by first | exact .inl rfl | exact .inr rfl | assumption):wpAny M A (storeName X.env x u) Q E s:=
 sU I hN hi hx r (fun s' I' _=>h s' I') hf
theorem Inv.J7 {s':Shared}{ch:List Addr}(I:Inv X pins σ H s) (ho:s'.os=s.os) (u:Un (frs X.stack) ch H H' s.heap s'.heap) (hok:kU X.prog X.w H' s'.heap) (hg:AllBare s'.gens)
  (hch:∀b∈ch,(b∈X.ex\/X.s₀.heap.objs.size<=b)/\b≠X.env.locals/\(∀x c,X.env.cells.lookup x=some c->c≠b)/\∀p∈X.pn++pins,p.1≠b):Inv X pins σ H' s':=by
 obtain⟨h',g',d',t',o'⟩:=s'
 have e:o'=s.os:=ho
 subst e
 exact I.call (g':=g') (t':=t') (d':=d') u hok hg hch
end
noncomputable abbrev XK:=Value->Option Addr->Hp->Prop
noncomputable abbrev St:=List (Option V)
noncomputable abbrev VK:=V->Hp->Prop
noncomputable abbrev TE:=St->Hp->VK->Prop
noncomputable abbrev TT:=St->Hp->(Bool->Hp->Prop)->Prop
noncomputable abbrev TA:=St->Hp->(List V->Hp->Prop)->Prop
structure Ends where
 nx:St->Hp->Prop
 rt:VK
 bk:St->Hp->Prop:=fun _ _=>False
 ct:St->Hp->Prop:=fun _ _=>False
noncomputable abbrev TS:=Ends->St->Hp->Prop
noncomputable def EP (X:Cx) (pins:List (Addr×Obj)) (σ:St) (Q:VK) (u:Value) (s':Shared):Prop:=∃v H',Inv X pins σ H' s'/\RelV v u/\Q v H'
noncomputable def TP (X:Cx) (pins:List (Addr×Obj)) (σ:St) (Q:Bool->Hp->Prop) (b:Bool) (s':Shared):Prop:=∃H',Inv X pins σ H' s'/\Q b H'
noncomputable def AP (X:Cx) (pins:List (Addr×Obj)) (σ:St) (Q:List V->Hp->Prop) (us:List Value) (s':Shared):Prop:=∃vs H',Inv X pins σ H' s'/\Vals vs us/\Q vs H'
noncomputable def SP (X:Cx) (pins:List (Addr×Obj)) (D:Ends) (f:Flow) (s':Shared):Prop:=
 match f with
 | .next=>∃σ' H',Inv X pins σ' H' s'/\D.nx σ' H'
 | .brk=>∃σ' H',Inv X pins σ' H' s'/\D.bk σ' H'
 | .cont=>∃σ' H',Inv X pins σ' H' s'/\D.ct σ' H'
 | .ret u=>∃v σ' H',Inv X pins σ' H' s'/\RelV v u/\D.rt v H'
noncomputable def PE (X:Cx) (e:Expr) (t:TE):Prop:=
 ∀(pins:List (Addr×Obj)) (s:Shared) (σ:St) (H:Hp) (Q:VK),Inv X pins σ H s->t σ H Q->wpAny (model X.prog X.w) X.A (eval e X.env) (EP X pins σ Q) X.xe s
noncomputable def PT (X:Cx) (e:Expr) (t:TT):Prop:=
 ∀(pins:List (Addr×Obj)) (s:Shared) (σ:St) (H:Hp) (Q:Bool->Hp->Prop),Inv X pins σ H s->t σ H Q->wpAny (model X.prog X.w) X.A (isTrue e X.env (eval e X.env)) (TP X pins σ Q) X.xe s
noncomputable def PW (X:Cx) (e:Expr) (t:TT):Prop:=
 ∀(whole:Sem Value) (pins:List (Addr×Obj)) (s:Shared) (σ:St) (H:Hp) (Q:Bool->Hp->Prop),Inv X pins σ H s->t σ H Q->wpAny (model X.prog X.w) X.A (isTrue e X.env whole) (TP X pins σ Q) X.xe s
theorem PW.pt {X:Cx}{e:Expr}{t:TT}(h:PW X e t):PT X e t:=h _
noncomputable def PA (X:Cx) (es:List Expr) (t:TA):Prop:=
 ∀(pos:Pos) (pins:List (Addr×Obj)) (s:Shared) (σ:St) (H:Hp) (Q:List V->Hp->Prop),Inv X pins σ H s->t σ H Q->wpAny (model X.prog X.w) X.A (spliced (backTo pos (starEach es X.env))) (AP X pins σ Q) X.xe s
noncomputable def PS (X:Cx) (st:Stmt) (t:TS):Prop:=
 ∀(pins:List (Addr×Obj)) (s:Shared) (σ:St) (H:Hp) (D:Ends),Inv X pins σ H s->t D σ H->wpAny (model X.prog X.w) X.A (exec st X.env) (SP X pins D) X.xe s
noncomputable def vD (X:Cx) (st:List Stmt) (t:TS):Prop:=
 ∀(pins:List (Addr×Obj)) (s:Shared) (σ:St) (H:Hp) (D:Ends),Inv X pins σ H s->t D σ H->wpAny (model X.prog X.w) X.A (execs st X.env) (SP X pins D) X.xe s
theorem gg {α:Type}{t:Sem α}{Q Q':α->Shared->Prop}{M:Model}{A:Around}{E:Value->Shared->Prop}{s:Shared}(h:wpAny M A t Q E s) (hQ:∀a s,Q a s->Q' a s):wpAny M A t Q' E s:=wpAny_mono h hQ fun _ _ x=>x
section
variable {X:Cx}
theorem bin {a b:Expr}{ta tb:TE}(ha:PE X a ta) (hb:PE X b tb){pins:List (Addr×Obj)}{s:Shared}{σ:St}{H:Hp}{R:V->V->Hp->Prop}(I:Inv X pins σ H s) (h:ta σ H fun x H1=>tb σ H1 fun y H2=>R x y H2)
  {α:Type}{Q:α->Shared->Prop}{f:Value->Value->Sem α}
  (hf:∀v u s2 x y H2,Inv X pins σ H2 s2->RelV x v->RelV y u->R x y H2->wpAny (model X.prog X.w) X.A (f v u) Q X.xe s2):
  wpAny (model X.prog X.w) X.A (eval a X.env) (fun v s₁=>wpAny (model X.prog X.w) X.A (eval b X.env) (fun u s₂=>wpAny (model X.prog X.w) X.A (f v u) Q X.xe s₂) X.xe s₁) X.xe s:=by
 refine gg (ha pins s σ H _ I h) fun v s1 ⟨x,H1,I1,r1,q1⟩=>?_
 refine gg (hb pins s1 σ H1 _ I1 q1) fun u s2 ⟨y,H2,I2,r2,q2⟩=>?_
 exact hf v u s2 x y H2 I2 r1 r2 q2
noncomputable def DS (i:Nat):TE:=fun σ H Q=>∃v,σ[i]? =some (some v)/\Q v H
noncomputable def tC (v:V):TE:=fun _ H Q=>Q v H
theorem iV {i:Nat}{x:Str}{pos:Pos}(hN:X.N[i]? =some x) (hv:Bv X.env.scope x) (hd:(x == ("__debug__":Str))=false:=by decide) (hcd:(x == ("__classdict__":Str))=false:=by decide):PE X (.Name x pos) (DS i):=by
 intro pins s σ H Q I h
 obtain⟨v,e,h⟩:=h
 obtain⟨m,hn,hl⟩:=I.loc
 obtain⟨u,r,l⟩:=hl i x v hN e hv
 have fin:EP X pins σ Q u s:=⟨v,H,I,r,h⟩
 rcases l with⟨hk,hm⟩ | ⟨hk,c,hc,hcell⟩
 ·exact wpAny_Name (wpAny_loadName_local I.ok.kind hk hn hm fin) hd
 ·rcases hk with hk | hk
  ·exact wpAny_Name (wpAny_loadName_cell I.ok.kind hk hc hcell fin) hd
  ·exact wpAny_Name (wpAny_loadName_free I.ok.kind hk hc hcell fin hcd) hd
theorem GK {i j pos}:PE X (.Constant (.int i) j pos) (tC (.int i)):=fun _ _ _ H _ I h=>wpAny_Constant_int ⟨.int i,H,I.tok _,⟨_,rfl⟩,h⟩
theorem J8 {b j pos}:PE X (.Constant (.bool b) j pos) (tC (.bl b)):=fun _ _ _ H _ I h=>Constant_bool ⟨.bl b,H,I,rfl,h⟩
theorem GL {j pos}:PE X (.Constant .none j pos) (tC .bM):=fun _ _ _ H _ I h=>Constant_none ⟨.bM,H,I,rfl,h⟩
theorem GN {x j pos}:PE X (.Constant (.str x) j pos) (tC (.str x)):=fun _ _ _ H _ I h=>Calls.Constant_str ⟨.str x,H,I.tok _,⟨_,rfl⟩,h⟩
noncomputable def Gl (X:Cx) (x:Str):Prop:=X.env.kindOf x=some .globalImplicit
theorem DT {E:Value->Shared->Prop}{pins:List (Addr×Obj)}{s:Shared}{σ:St}{H:Hp}{x:Str}{u:Value}{pos:Pos}{Q:Value->Shared->Prop}(I:Inv X pins σ H s) (hg:Gl X x) (hm:X.mg x=some u) (h:Q u s)
  (hd:(x == ("__debug__":Str))=false:=by decide):wpAny (model X.prog X.w) X.A (eval (.Name x pos) X.env) Q E s:=
 Calls.Name_function_global I.ok.kind hg (Calls.loadGlobal_global (by rw[I.ok.glob];exact I.mod.glob.keeps I.bk) hm h) hd
theorem jg {E:Value->Shared->Prop}{pins:List (Addr×Obj)}{s:Shared}{σ:St}{H:Hp}{x:Str}{u:Value}{pos:Pos}{Q:Value->Shared->Prop}(I:Inv X pins σ H s) (hg:Gl X x) (hm:X.mg x=none) (hv:bootBuiltins x=some u) (h:Q u s)
  (hn:x≠"__name__":=by decide) (hd:(x == ("__debug__":Str))=false:=by decide):wpAny (model X.prog X.w) X.A (eval (.Name x pos) X.env) Q E s:=by
 obtain⟨mb,h1,h2⟩:=I.mod.blt
 exact Calls.Name_function_global I.ok.kind hg (Calls.loadGlobal_builtin (by rw[I.ok.glob];exact I.mod.glob.keeps I.bk) hm (by rw[I.ok.blt];exact h1.keeps I.bk) ((h2 x hn).trans hv) h) hd
theorem DU {x:Str}{v:V}{u:Value}{pos:Pos}(hg:Gl X x) (hm:X.mg x=none) (hv:bootBuiltins x=some u) (r:RelV v u) (hn:x≠"__name__":=by decide) (hd:(x == ("__debug__":Str))=false:=by decide):PE X (.Name x pos) (tC v):=
 fun _ _ _ H _ I h=>jg I hg hm hv ⟨v,H,I,r,h⟩ hn hd
variable {a b:Expr}{ta tb:TE}{pos:Pos}
noncomputable def PC (X:Cx) (op:CmpOp) (a b:Expr) (t:TE):Prop:=
 ∀(pins:List (Addr×Obj)) (s:Shared) (σ:St) (H:Hp) (Q:VK),Inv X pins σ H s->t σ H Q->
  wpAny (model X.prog X.w) X.A (eval a X.env) (fun v s₁=>wpAny (model X.prog X.w) X.A (eval b X.env) (fun u s₂=>wpAny (model X.prog X.w) X.A (compareOp op v u) (EP X pins σ Q) X.xe s₂) X.xe s₁) X.xe s
theorem By (b:Expr){op:CmpOp}(h:op≠.In) (h2:op≠.NotIn):behindInMarks op b=false:=by
 have e1:(op == CmpOp.In)=false:=by cases op <;> first | rfl | exact absurd rfl h
 have e2:(op == CmpOp.NotIn)=false:=by cases op <;> first | rfl | exact absurd rfl h2
 cases b <;> simp[behindInMarks,e1,e2]
noncomputable def tB (t:TE):TT:=fun σ H Q=>t σ H fun x H1=>∃c,x= .bl c/\Q c H1
theorem GO {op:CmpOp}{t:TE}(h:PC X op a b t) (h1:behindInMarks op b=false:=by first | exact By _ (by decide) (by decide) | rfl):PT X (.Compare a [op] [b] pos) (tB t):=by
 intro pins s σ H Q I hw
 refine wpAny_isTrue_Compare1 (gg (h pins s σ H _ I hw) fun v s1 h1=>gg h1 fun u s2 h2=>gg h2 fun c s3 ⟨x,H1,I1,r1,q1⟩=>?_) h1
 obtain⟨d,rfl,q⟩:=q1
 cases r1
 exact wpAny_truthy_bool ⟨H1,I1,q⟩
theorem GP {e:Expr}{t:TE}(h:PE X e t) (he:∀whole,isTrue e X.env whole=(do let v <-whole;standAt e.pos;holding [v] (truthy v)):=by intro _;rfl):PT X e (tB t):=by
 intro pins s σ H Q I hw
 refine isTrue_plain (gg (h pins s σ H _ I hw) fun v s1 ⟨x,H1,I1,r1,q1⟩=>?_) (he _)
 obtain⟨d,rfl,q⟩:=q1
 cases r1
 exact wpAny_truthy_bool ⟨H1,I1,q⟩
variable {tA Rg:TT}{rest:List Expr}
noncomputable def SG (t u:TT):TT:=fun σ H Q=>t σ H fun c H1=>if c=true then Q true H1 else u σ H1 Q
noncomputable def Nh (t:TT):TT:=fun σ H Q=>t σ H fun c H1=>Q (!c) H1
theorem pw_or1 (ha:PT X a tA):PW X (.BoolOp .Or [a] pos) tA:=by
 intro wh pins s σ H Q I h
 refine isTrue_or (gg (ha pins s σ H Q I h) fun c s1 e=>?_)
 cases c with
 | false=>exact isTrue_or_nil e
 | true=>exact e
theorem pw_or (ha:PT X a tA) (hb:PW X (.BoolOp .Or (b :: rest) pos) Rg):PW X (.BoolOp .Or (a :: b :: rest) pos) (SG tA Rg):=by
 intro wh pins s σ H Q I h
 refine isTrue_or (gg (ha pins s σ H _ I h) fun c s1 ⟨H1,I1,q1⟩=>?_)
 cases c with
 | true=>exact⟨H1,I1,q1⟩
 | false=>exact hb wh pins s1 σ H1 Q I1 q1
theorem GQ (ha:PT X a tA):PT X (.UnaryOp .Not a pos) (Nh tA):=by
 intro pins s σ H Q I h
 exact isTrue_not (ha pins s σ H (fun c H1=>Q (!c) H1) I h)
noncomputable def J9 (ta tb:TE):TE:=fun σ H Q=>ta σ H fun x H1=>∃c,x= .bl c/\if c=true then tb σ H1 Q else Q (.bl false) H1
theorem GR {op}{t:TE}(h:PE X a t):PE X (.BoolOp op [a] pos) t:=fun pins s σ H Q I hw=>BoolOp_one (h pins s σ H Q I hw)
theorem GV (ha:PE X a ta) (hb:PE X (.BoolOp .And (b :: rest) pos) tb):PE X (.BoolOp .And (a :: b :: rest) pos) (J9 ta tb):=by
 intro pins s σ H Q I h
 refine BoolOp_and (gg (ha pins s σ H _ I h) fun v s1 ⟨x,H1,I1,r1,q1⟩=>?_)
 obtain⟨c,rfl,q1⟩:=q1
 cases r1
 refine wpAny_truthy_bool ?_
 cases c with
 | true=>exact hb pins s1 σ H1 Q I1 q1
 | false=>exact⟨.bl false,H1,I1,rfl,q1⟩
end
noncomputable def nC (K:PySem.W.Frag) (H:Hp) (a:Addr) (xs:List V):Prop:=
 Rd H a (.lst xs)\/
  ∃(o:Obj) (its:Array Value) (n:Nat),K.lookup a=some o/\o.cls= .type "list"/\o.dict=none/\o.data= .seq its n/\its.size<=sizeLine/\Vals xs its.toList
noncomputable def vp (K:PySem.W.Frag) (H:Hp) (a:Addr) (xs:List V):Prop:=
 Rd H a (.tup xs)\/
  ∃(o:Obj) (its:Array Value) (n:Nat),K.lookup a=some o/\o.cls= .type "tuple"/\o.data= .seq its n/\its.size<=sizeLine/\Vals xs its.toList
noncomputable def Ni:Value->Option V
 | .none=>some .bM
 | .bool b=>some (.bl b)
 | .int i _=>some (.int i)
 | .str x _=>some (.str x)
 | .bytes b _=>some (.Na b)
 | .float b _=>some (.flt b)
 | .ref a=>some (.ref a)
 | .type n=>some (.ty n)
 | _=>none
theorem RelV.abs {x:V}{u:Value}(r:RelV x u):Ni u=some x:=by
 cases x with
 | bM=>cases r;rfl
 | bl _=>cases r;rfl
 | int _=>obtain⟨t,rfl⟩:=r;rfl
 | str _=>obtain⟨t,rfl⟩:=r;rfl
 | Na _=>obtain⟨t,rfl⟩:=r;rfl
 | flt _=>obtain⟨t,rfl⟩:=r;rfl
 | ref _=>cases r;rfl
 | ty _=>cases r;rfl
theorem RelV.inj {x y:V}{u:Value}(r:RelV x u) (q:RelV y u):x=y:=Option.some.inj (r.abs.symm.trans q.abs)
theorem Vals.inj:∀{xs ys:List V}{us:List Value},Vals xs us->Vals ys us->xs=ys
 | _,_,_,.nil,.nil=>rfl
 | _,_,_,.cons r t,.cons r' t'=>by rw[r.inj r',Vals.inj t t']
section
variable {X:Cx}{pins:List (Addr×Obj)}{σ:St}{H:Hp}{s:Shared}{a:Addr}{xs ys:List V}
theorem nC.of {K:PySem.W.Frag}(h:H a=some (.lst xs)):nC K H a xs:=.inl (.inl h)
theorem Inv.list (I:Inv X pins σ H s) (h:nC X.K H a xs):∃its:List Value,Vals xs its/\PlainL s.heap a its.toArray/\xs.length<=sizeLine:=by
 rcases h with h | ⟨o,its,n,hk,hc,hd,hs,hz,r⟩
 ·obtain⟨z,its,n,r,e⟩:=h.ok I.hok
  exact⟨its,r,⟨_,n,e,rfl,rfl,rfl⟩,z⟩
 ·refine⟨its.toList,r,⟨o,n,I.Bh a o hk,hc,hd,by simpa using hs⟩,?_⟩
  have e:=r.length
  simp only[Array.length_toList] at e
  omega
theorem Inv.tuple (I:Inv X pins σ H s) (h:vp X.K H a xs):∃its:List Value,Vals xs its/\IsTup s.heap a its.toArray/\xs.length<=sizeLine:=by
 rcases h with h | ⟨o,its,n,hk,hc,hs,hz,r⟩
 ·obtain⟨z,its,r,p⟩:=h.ok I.hok
  exact⟨its,r,p,z⟩
 ·refine⟨its.toList,r,⟨o,I.Bh a o hk,hc,n,by simpa using hs⟩,?_⟩
  have e:=r.length
  simp only[Array.length_toList] at e
  omega
theorem Inv.vE (I:Inv X pins σ H s) (h:nC X.K H a xs) (h':nC X.K H a ys):xs=ys:=by
 obtain⟨its,r,⟨o,n,e,_,_,d⟩,_⟩:=I.list h
 obtain⟨its',r',⟨o',n',e',_,_,d'⟩,_⟩:=I.list h'
 rw[e] at e';cases e'
 rw[d] at d'
 injection d' with d1 _
 have:its=its':=by simpa using congrArg Array.toList d1
 subst this
 exact r.inj r'
theorem Inv.sV (I:Inv X pins σ H s) (h:vp X.K H a xs) (h':vp X.K H a ys):xs=ys:=by
 obtain⟨its,r,⟨o,e,_,n,d⟩,_⟩:=I.tuple h
 obtain⟨its',r',⟨o',e',_,n',d'⟩,_⟩:=I.tuple h'
 rw[e] at e';cases e'
 rw[d] at d'
 injection d' with d1 _
 have:its=its':=by simpa using congrArg Array.toList d1
 subst this
 exact r.inj r'
end
noncomputable abbrev Cx.rS (X:Cx) (E:Value->Shared->Prop):Cx:={X with xe:=E}
noncomputable abbrev Cx.Ka (X:Cx):Cx:=X.rS fun _ _=>False
theorem Cx.Ok.rS {X:Cx}(ok:X.Ok) (E:Value->Shared->Prop):(X.rS E).Ok:=
 ⟨ok.mod,ok.kind,ok.glob,ok.blt,ok.above,ok.inj,ok.has,ok.J2,ok.hd,ok.frames,ok.stk,ok.Nd,ok.bs,ok.FU,ok.Bw,ok.Bx,ok.qp,ok.Ju⟩
theorem Cx.Ok.kW {X:Cx}{E:Value->Shared->Prop}(ok:(X.rS E).Ok):X.Ok:=
 ⟨ok.mod,ok.kind,ok.glob,ok.blt,ok.above,ok.inj,ok.has,ok.J2,ok.hd,ok.frames,ok.stk,ok.Nd,ok.bs,ok.FU,ok.Bw,ok.Bx,ok.qp,ok.Ju⟩
section
variable {X:Cx}{pins:List (Addr×Obj)}{σ:St}{H:Hp}{s:Shared}{E:Value->Shared->Prop}
theorem Inv.rS (I:Inv X pins σ H s) (E:Value->Shared->Prop):Inv (X.rS E) pins σ H s:=⟨I.ok.rS E,I.os,I.bare,I.base,I.loc,I.cell,I.free,I.mG,I.pin,I.hok,I.len⟩
theorem Inv.kW (I:Inv (X.rS E) pins σ H s):Inv X pins σ H s:=⟨I.ok.kW,I.os,I.bare,I.base,I.loc,I.cell,I.free,I.mG,I.pin,I.hok,I.len⟩
theorem SP.kW {D:Ends}{f:Flow}{s':Shared}(h:SP (X.rS E) pins D f s'):SP X pins D f s':=by
 cases f with
 | next=>obtain⟨σ',H',I,q⟩:=h;exact⟨σ',H',I.kW,q⟩
 | brk=>obtain⟨σ',H',I,q⟩:=h;exact⟨σ',H',I.kW,q⟩
 | cont=>obtain⟨σ',H',I,q⟩:=h;exact⟨σ',H',I.kW,q⟩
 | ret u=>obtain⟨v,σ',H',I,r,q⟩:=h;exact⟨v,σ',H',I.kW,r,q⟩
theorem vD.Ka {st:List Stmt}{t:TS}(h:vD X.Ka st t):vD X st t:=fun pins s σ H D I hw=>
 wpAny_mono (h pins s σ H D (I.rS _) hw) (fun _ _ q=>q.kW) fun _ _ z=>False.elim z
end
section
variable {X:Cx}{st:Stmt}{rest:List Stmt}{t u:TS}{e:Expr}{te:TE}{pos:Pos}
noncomputable def Kc:TS:=fun D σ H=>D.nx σ H
noncomputable def Nj (t u:TS):TS:=fun D σ H=>t {D with nx:=u D} σ H
theorem DV:vD X [] Kc:=fun _ _ σ H _ I h=>wpAny_execs_nil ⟨σ,H,I,h⟩
theorem BA (h1:PS X st t) (h2:vD X rest u):vD X (st :: rest) (Nj t u):=by
 intro pins s σ H D I h
 refine wpAny_execs_cons (gg (h1 pins s σ H {D with nx:=u D} I h) fun f s1 q=>?_)
 cases f with
 | next=>
  obtain⟨σ',H',I',q⟩:=q
  exact h2 pins s1 σ' H' D I' q
 | ret v=>exact q
 | brk=>exact q
 | cont=>exact q
theorem DW (h1:PS X st t):vD X [st] t:=by
 intro pins s σ H D I h
 refine wpAny_execs_cons (gg (h1 pins s σ H D I h) fun f s1 q=>?_)
 cases f with
 | next=>exact wpAny_execs_nil q
 | ret v=>exact q
 | brk=>exact q
 | cont=>exact q
theorem Inv.quiet {pins:List (Addr×Obj)}{σ:St}{H:Hp}{s:Shared}(I:Inv X pins σ H s):interactive X.env=false:=by simp[interactive,I.ok.kind]
noncomputable def Ke (te:TE):TS:=fun D σ H=>te σ H fun _ H1=>D.nx σ H1
theorem DX (he:PE X e te) (hs:swapsWith e none pos.line X.env=pure false:=by rfl):PS X (.Expr e pos) (Ke te):=by
 intro pins s σ H D I h
 exact wpAny_Expr_any (gg (he pins s σ H _ I h) fun v s1 ⟨x,H1,I1,r1,q1⟩=>⟨σ,H1,I1,q1⟩) I.quiet hs
noncomputable def Nk (te:TE):TS:=fun D σ H=>te σ H D.rt
theorem GW (he:PE X e te):PS X (.Return (some e) pos) (Nk te):=by
 intro pins s σ H D I h
 exact wpAny_Return_some (gg (he pins s σ H _ I h) fun v s1 ⟨x,H1,I1,r1,q1⟩=>⟨x,σ,H1,I1,r1,q1⟩)
noncomputable def Nl (c:TT) (t u:TS):TS:=fun D σ H=>c σ H fun b H1=>if b=true then t D σ H1 else u D σ H1
theorem Kf {c:Expr}{a b:List Stmt}{tc:TT}(hc:PT X c tc) (ha:vD X a t) (hb:vD X b u):PS X (.If c a b pos) (Nl tc t u):=by
 intro pins s σ H D I h
 refine wpAny_If (gg (hc pins s σ H _ I h) fun d s1 ⟨H1,I1,q1⟩=>?_)
 cases d with
 | true=>exact ha pins s1 σ H1 D I1 q1
 | false=>exact hb pins s1 σ H1 D I1 q1
end
noncomputable abbrev TG:=V->St->Hp->(St->Hp->Prop)->Prop
noncomputable abbrev DY:=List V->St->Hp->(St->Hp->Prop)->Prop
noncomputable def PG (X:Cx) (target:Expr) (t:TG):Prop:=
 ∀(pins:List (Addr×Obj)) (s:Shared) (σ:St) (H:Hp) (v:V) (u:Value) (Q:St->Hp->Prop),Inv X pins σ H s->RelV v u->t v σ H Q->
  wpAny (model X.prog X.w) X.A (assign target X.env u) (fun _ s'=>∃σ' H',Inv X pins σ' H' s'/\Q σ' H') X.xe s
noncomputable def FY (X:Cx) (ts:List Expr) (t:DY):Prop:=
 ∀(pins:List (Addr×Obj)) (s:Shared) (σ:St) (H:Hp) (vs:List V) (us:List Value) (Q:St->Hp->Prop),Inv X pins σ H s->Vals vs us->t vs σ H Q->
  wpAny (model X.prog X.w) X.A (assignInOrder ((assignEach ts X.env).map (·.2)) us) (fun _ s'=>∃σ' H',Inv X pins σ' H' s'/\Q σ' H') X.xe s
noncomputable abbrev GX:=V->V->V->Hp->(Hp->Prop)->Prop
noncomputable def Kg (X:Cx) (t:GX):Prop:=
 ∀(pins:List (Addr×Obj)) (s:Shared) (σ:St) (H:Hp) (o i v:V) (ov iv u:Value) (Q:Hp->Prop),Inv X pins σ H s->RelV o ov->RelV i iv->RelV v u->t o i v H Q->
  wpAny (model X.prog X.w) X.A (setItem ov iv u) (fun _ s'=>∃H',Inv X pins σ H' s'/\Q H') X.xe s
noncomputable abbrev Mh:=V->V->Hp->VK->Prop
noncomputable def Nm (X:Cx) (op:Operator) (t:Mh):Prop:=
 ∀(pins:List (Addr×Obj)) (s:Shared) (σ:St) (H:Hp) (x y:V) (v u:Value) (Q:VK),Inv X pins σ H s->RelV x v->RelV y u->t x y H Q->
  wpAny (model X.prog X.w) X.A (inplaceOp op v u) (EP X pins σ Q) X.xe s
section
variable {X:Cx}{pos:Pos}
noncomputable def sW (i:Nat):TG:=fun v σ H Q=>Q (σ.set i (some v)) H
theorem yU {i:Nat}{x:Str}(hN:X.N.Nodup) (hi:X.N[i]? =some x) (hx:Loc X.env.scope x) (hf:X.fn x=true\/X.env.scope.names.lookup x=some .local:=by first | exact .inl rfl | exact .inr rfl | assumption):PG X (.Name x pos) (sW i):=by
 intro pins s σ H v u Q I r h
 exact wpAny_assign_Name (qq I hN hi hx r (fun s' I'=>⟨_,H,I',h⟩) hf)
noncomputable def Nn:DY:=fun vs σ H Q=>vs=[]/\Q σ H
noncomputable def Kh (t:TG) (u:DY):DY:=fun vs σ H Q=>∃v r,vs=v :: r/\t v σ H fun σ' H'=>u r σ' H' Q
theorem DZ:FY X [] Nn:=by
 intro pins s σ H vs us Q I r h
 obtain⟨e,h⟩:=h
 subst e
 cases r
 exact assignInOrder_nil ⟨σ,H,I,h⟩
theorem BB {e:Expr}{es:List Expr}{t:TG}{u:DY}(h1:PG X e t) (h2:FY X es u)
  (hs:(assignEach (e :: es) X.env).map (·.2)=assign e X.env :: (assignEach es X.env).map (·.2):=by rfl):FY X (e :: es) (Kh t u):=by
 intro pins s σ H vs us Q I r h
 obtain⟨v,vr,e1,h⟩:=h
 subst e1
 cases r with
 | cons r rr=>
  rw[hs]
  refine assignInOrder_cons (gg (h1 pins s σ H _ _ _ I r h) fun _ s1 ⟨σ1,H1,I1,q1⟩=>?_)
  exact h2 pins s1 σ1 H1 _ _ Q I1 rr q1
noncomputable def Np (K:PySem.W.Frag) (n:Nat) (t:DY):TG:=fun v σ H Q=>∃a xs,v= .ref a/\vp K H a xs/\xs.length=n/\t xs σ H Q
theorem GY {es:List Expr}{k:Nat}{t:DY}{n:Nat}(hc:X.calm=true) (h:FY X es t)
  (hn:(assignEach es X.env).length=n:=by rfl) (hst:(assignEach es X.env).findIdx? (·.1)=none:=by rfl):PG X (.Tuple es k pos) (Np X.K n t):=by
 intro pins s σ H v u Q I r hw
 obtain⟨a,xs,e1,hq,hl,hw⟩:=hw
 subst e1
 cases r
 obtain⟨its,rv,ht,hz⟩:=I.tuple hq
 refine assign_Tuple_tuple (I.ok.hd hc) ht (by simp[hn,<-hl,rv.length]) hst fun h' hx=>?_
 have I1:Inv X pins σ H {s with heap:=h'}:=I.kept (t':=s.toks) fun b o e=>hx b o (Nat.ne_of_lt (Heap.lt_size e)) e
 exact h pins _ σ H xs _ Q I1 (by simpa using rv) hw
noncomputable def Nq (to ti:TE) (t:GX):TG:=fun v σ H Q=>to σ H fun o H1=>ti σ H1 fun i H2=>t o i v H2 fun H3=>Q σ H3
theorem GZ {o i:Expr}{to ti:TE}{t:GX}(ho:PE X o to) (hi:PE X i ti) (hs:Kg X t)
  (ha:∀v,assign (.Subscript o i pos) X.env v=(do
   let ov <-holding [v] (eval o X.env)
   let iv <-holding [v,ov] (eval i X.env)
   standAt pos
   holding [v,ov,iv] (setItem ov iv v)
   release [v,ov,iv] []):=by intro _;rfl):PG X (.Subscript o i pos) (Nq to ti t):=by
 intro pins s σ H v u Q I r h
 rw[ha]
 refine wpAny_bind (wpAny_holding (gg (ho pins s σ H _ I h) fun ov s1 ⟨x,H1,I1,r1,q1⟩=>?_))
 refine wpAny_bind (wpAny_holding (gg (hi pins s1 σ H1 _ I1 q1) fun iv s2 ⟨y,H2,I2,r2,q2⟩=>?_))
 refine wpAny_bind (wpAny_standAt (wpAny_bind (wpAny_holding (gg (hs pins s2 σ H2 x y v ov iv u _ I2 r1 r2 r q2) fun _ s3 ⟨H3,I3,q3⟩=>?_))))
 exact wpAny_release ⟨σ,H3,I3,q3⟩
noncomputable def D0 (te:TE) (g:TG):TS:=fun D σ H=>te σ H fun x H1=>g x σ H1 D.nx
theorem BC {tg e:Expr}{te:TE}{g:TG}(he:PE X e te) (hg:PG X tg g) (hs:swapsWithSole [tg] e pos.line X.env=pure false:=by rfl) (hw:swappedStores [tg] e X.env=pure none:=by rfl)
  (h1:(assignEach [tg] X.env).map (·.2)=[assign tg X.env]:=by rfl):PS X (.Assign [tg] e pos) (D0 te g):=by
 intro pins s σ H D I h
 refine wpAny_Assign_stores (gg (he pins s σ H _ I h) fun v s1 ⟨x,H1,I1,r1,q1⟩=>?_) hs hw
 rw[h1]
 exact gg (hg pins s1 σ H1 x v _ I1 r1 q1) fun _ s2 q=>q
theorem G0 {i:Nat}{x:Str}{e:Expr}{te:TE}{pos':Pos}(hN:X.N.Nodup) (hi:X.N[i]? =some x) (hx:Loc X.env.scope x) (he:PE X e te) (hs:swapsWith e (some (.Name x pos')) pos.line X.env=pure false:=by rfl) (hf:X.fn x=true\/X.env.scope.names.lookup x=some .local:=by first | exact .inl rfl | exact .inr rfl | assumption):
  PS X (.Assign [.Name x pos'] e pos) (D0 te (sW i)):=by
 intro pins s σ H D I h
 refine wpAny_Assign_Name (gg (he pins s σ H _ I h) fun v s1 ⟨y,H1,I1,r1,q1⟩=>?_) hs
 exact qq I1 hN hi hx r1 (fun s2 I2=>⟨_,H1,I2,q1⟩) hf
noncomputable def Nr (i:Nat) (te:TE) (ti:Mh):TS:=fun D σ H=>∃x,σ[i]? =some (some x)/\te σ H fun y H1=>ti x y H1 fun z H2=>D.nx (σ.set i (some z)) H2
theorem G1 {i : Nat} {x : Str} {e : Expr} {te : TE} {op : Operator} {ti : Mh} {pos' : Pos} (hN : X.N.Nodup) (hi : X.N[i]? = some x) (hx : Loc X.env.scope x) (he : PE X e te) (ho : Nm X op ti) (hf : X.fn x = true \/ X.env.scope.names.lookup x = some .local := by first | exact .inl rfl | exact .inr rfl | assumption) :
    PS X (.AugAssign (.Name x pos') op e pos) (Nr i te ti):=by
  intro pins s σ H D I h
  obtain⟨v,e1,h⟩:=h
  obtain⟨m,hn,hl⟩:=I.loc
  have vis:Bv X.env.scope x:=by rcases hx with k | k;exact .inl k;exact .inr (.inl k)
  obtain⟨u,r,l⟩:=hl i x v hi e1 vis
  refine wpAny_AugAssign_Name ?_
  have go:wpAny (model X.prog X.w) X.A (eval e X.env) (fun w s₂=>wpAny (model X.prog X.w) X.A (inplaceOp op u w) (fun r s₃=>wpAny (model X.prog X.w) X.A (storeName X.env x r) (fun _=>SP X pins D .next) X.xe s₃) X.xe s₂) X.xe s:=by
    refine gg (he pins s σ H _ I h) fun w s1 ⟨y,H1,I1,r1,q1⟩=>?_
    refine gg (ho pins s1 σ H1 v y u w _ I1 r r1 q1) fun z s2 ⟨zv,H2,I2,r2,q2⟩=>?_
    exact qq I2 hN hi hx r2 (fun s3 I3=>⟨_,H2,I3,q2⟩) hf
  rcases l with⟨hk,hm⟩ | ⟨hk,c,hc,hcell⟩
  . exact wpAny_loadName_local I.ok.kind hk hn hm go
  . rcases hk with hk | hk
    . exact wpAny_loadName_cell I.ok.kind hk hc hcell go
    . rcases hx with k | k
      . have:X.env.scope.names.lookup x=some .free:=hk
        rw[k] at this;cases this
      . have:X.env.scope.names.lookup x=some .free:=hk
        rw[k] at this;cases this
noncomputable def Rh (f:Int->Int->Int):Mh:=fun x y H Q=>∃i j,x= .int i/\y= .int j/\Q (.int (f i j)) H
theorem G2:Nm X .Add (Rh fun i j=>i+j):=by
 intro pins s σ H x y v u Q I r1 r2 h
 obtain⟨i,j,e1,e2,q⟩:=h
 subst e1;subst e2
 obtain⟨t,rfl⟩:=r1
 obtain⟨t',rfl⟩:=r2
 exact iadd_int ⟨.int _,H,I.tok _,⟨_,rfl⟩,q⟩
end
section
variable {X:Cx}{pos:Pos}
noncomputable def G3 (c:TT) (tb:TS):TS:=fun D σ H=>∃W:Nat->St->Hp->Prop,(∃m,W m σ H)/\∀m σ H,W m σ H->
 c σ H fun b H1=>if b=true then ∃N:St->Hp->Prop,(∀σ' H',N σ' H'->∃m',m' < m/\W m' σ' H')/\tb {D with nx:=N,ct:=N,bk:=D.nx} σ H1 else D.nx σ H1
theorem BD {c:Expr}{body:List Stmt}{tc:TT}{tb:TS}(hp:PassesOwn (model X.prog X.w) X.A X.env X.xe) (hc:PT X c tc) (hb:vD X body tb):PS X (.While c body [] pos) (G3 tc tb):=by
 intro pins s σ H D I h
 obtain⟨W,⟨m0,w0⟩,turn⟩:=h
 refine wpAny_While (codeAny_whileLoop (fun n s'=>∃σ' H',Inv X pins σ' H' s'/\W n σ' H') ?_ m0 ⟨σ,H,I,w0⟩)
 rintro n s1 ⟨σ1,H1,I1,w1⟩
 refine wpAny_passesOwn hp (gg (hc pins s1 σ1 H1 _ I1 (turn n σ1 H1 w1)) fun b s2 ⟨H2,I2,q2⟩=>?_)
 cases b with
 | true=>
  obtain⟨N,hN,q2⟩:=q2
  rw[if_pos rfl]
  refine wpAny_passesOwn hp (gg (hb pins s2 σ1 H2 _ I2 q2) fun f s3 q3=>?_)
  cases f with
  | next=>
   obtain⟨σ3,H3,I3,n3⟩:=q3
   obtain⟨m',hm,w3⟩:=hN σ3 H3 n3
   exact⟨m',hm,σ3,H3,I3,w3⟩
  | cont=>
   obtain⟨σ3,H3,I3,n3⟩:=q3
   obtain⟨m',hm,w3⟩:=hN σ3 H3 n3
   exact⟨m',hm,σ3,H3,I3,w3⟩
  | brk=>exact q3
  | ret v=>exact q3
 | false=>
  rw[if_neg Bool.false_ne_true]
  exact wpAny_execs_nil ⟨σ1,H2,I2,q2⟩
end
structure It where
 go:Nat->Hp->Prop
 Kl:Nat->Hp->V->Hp->Prop
 stop:Nat->Hp->Prop
noncomputable def kX (X:Cx) (pins:List (Addr×Obj)) (H:Hp) (b:Addr):Prop:=
 H b=none/\b≠X.env.locals/\b∉X.fs/\(b∈X.ex\/X.s₀.heap.objs.size<=b)/\(∀x c,X.env.cells.lookup x=some c->c≠b)/\∀p∈X.pn++pins,p.1≠b
theorem Inv.xA {X:Cx}{pins:List (Addr×Obj)}{σ:St}{H H':Hp}{s:Shared}{b:Addr}(I:Inv X pins σ H s) (hb:s.heap.objs.size<=b) (hn:H' b=none):kX X pins H' b:=by
 refine⟨hn,Nat.ne_of_gt (Nat.lt_of_lt_of_le I.lt hb),I.J3 hb,.inr (Nat.le_trans I.sz hb),fun x c e z=>?_,fun p hp z=>?_⟩
 ·obtain⟨v,q⟩:=I.cell x c e
  exact absurd (Nat.lt_of_lt_of_le q.lt (by rw[z];exact hb)) (Nat.lt_irrefl _)
 ·exact absurd (Nat.lt_of_lt_of_le (Heap.lt_size (I.pin p hp).1) (by rw[z];exact hb)) (Nat.lt_irrefl _)
structure Turn (P:Program) (w:World) (K:PySem.W.Frag) (tg:Expr) (J:It) (fp:List Addr) (it:Addr) (tn:Nat->Heap->Prop):Prop where
 mem:it∈fp
 obj:∀i h,tn i h->∀b∈fp,∃o,h.get? b=some o/\∀v,o.data≠.cell v
 keep:∀i h h',tn i h->(∀b∈fp,∀o,h.get? b=some o->h'.get? b=some o)->tn i h'
 item:∀(X:Cx),X.prog=P->X.w=w->X.K=K->X.calm=true->∀(i:Nat) (pins:List (Addr×Obj)) (s:Shared) (σ:St) (H:Hp) (E:Value->Shared->Prop),Inv X pins σ H s->(∀b∈fp,kX X pins H b)->tn i s.heap->J.go i H->
  wpAny (model P w) X.A (pyNext (.ref it)) (fun r s1=>∃u,r=some u/\
   wpAny (model P w) X.A (letOwnedTupleGo tg (.ref it) u) (fun _ s2=>∃x H',Inv X pins σ H' s2/\RelV x u/\J.Kl i H x H'/\tn (i+1) s2.heap/\∀b∈fp,H' b=none) E s1) E s
 done:∀(X:Cx),X.prog=P->X.w=w->X.K=K->X.calm=true->∀(i:Nat) (pins:List (Addr×Obj)) (s:Shared) (σ:St) (H:Hp) (E:Value->Shared->Prop),Inv X pins σ H s->(∀b∈fp,kX X pins H b)->tn i s.heap->J.stop i H->
  wpAny (model P w) X.A (pyNext (.ref it)) (fun r s1=>r=none/\Inv X pins σ H s1) E s
 self:∀(A:Around) (i:Nat) (s:Shared) (Q:Value->Shared->Prop) (E:Value->Shared->Prop),tn i s.heap->Q (.ref it) s->wpAny (model P w) A (pyIter (.ref it)) Q E s
noncomputable abbrev TI:=St->Hp->(It->Hp->Prop)->Prop
noncomputable def Nt (X:Cx) (pins:List (Addr×Obj)) (σ:St) (tg:Expr) (R:It->Hp->Prop) (itv:Value) (s2:Shared):Prop:=
 ∃(it:Addr) (fp:List Addr) (tn:Nat->Heap->Prop) (J:It) (H':Hp),itv= .ref it/\Inv X pins σ H' s2/\Turn X.prog X.w X.K tg J fp it tn/\tn 0 s2.heap/\(∀b∈fp,kX X pins H' b)/\R J H'
noncomputable def PI (X:Cx) (tg iter:Expr) (wi:TI):Prop:=
 ∀(pins:List (Addr×Obj)) (s:Shared) (σ:St) (H:Hp) (R:It->Hp->Prop),Inv X pins σ H s->wi σ H R->
  wpAny (model X.prog X.w) X.A (eval iter X.env) (fun v s1=>wpAny (model X.prog X.w) X.A (pyIter v) (Nt X pins σ tg R) X.xe s1) X.xe s
theorem BE {M : Model} {A : Around} {E : Value -> Shared -> Prop} {s : Shared} {tg : Expr} {it : Addr} {u : Value} {o : Obj} {n : String} {vs : Array Value} {Q : Unit -> Shared -> Prop} (ho : s.heap.get? it = some o) (hc : o.cls = .type n) (hd : o.data = .fields vs)
    (hn:["enumerate","zip","dict_itemiterator","dict_reverseitemiterator","odict_iterator","itertools.zip_longest","itertools.pairwise"].contains n=false) (hQ:Q () s):wpAny M A (letOwnedTupleGo tg (.ref it) u) Q E s:=by
  unfold letOwnedTupleGo
  cases tg <;> first
    | exact wpAny_pure hQ
    | (cases u <;> first
        | exact wpAny_pure hQ
        | (refine wpAny_bind (wpAny_load ho ?_)
           rw[hc,hd]
           show wpAny M A (if(["enumerate","zip","dict_itemiterator","dict_reverseitemiterator","odict_iterator","itertools.zip_longest","itertools.pairwise"].contains n && vs[0]? == some (rawInt _))=true then _ else _) Q E s
           rw[if_neg (by intro h;rw[hn,Bool.false_and] at h;cases h)]
           exact wpAny_pure hQ))
noncomputable def Nu (K:PySem.W.Frag) (a:Addr):It:=
 ⟨fun i H=>∃xs x,nC K H a xs/\xs[i]? =some x,fun i H x H'=>H'=H/\∀xs,nC K H a xs->xs[i]? =some x,fun i H=>∃xs,nC K H a xs/\xs.length<=i⟩
noncomputable def Nv (K:PySem.W.Frag) (a:Addr):It:=
 ⟨fun i H=>∃xs x,vp K H a xs/\xs[i]? =some x,fun i H x H'=>H'=H/\∀xs,vp K H a xs->xs[i]? =some x,fun i H=>∃xs,vp K H a xs/\xs.length<=i⟩
noncomputable def Mi (lo:Int) (n:Nat):It:=⟨fun i _=>i < n,fun i H x H'=>H'=H/\x= .int (lo+i),fun i _=>n<=i⟩
theorem Ac {P:Program}{w:World}{K:PySem.W.Frag}{tg:Expr}(a it:Addr):Turn P w K tg (Nu K a) [it] it (fun i h=>h.IsListIter it a i) where
 mem:=by simp
 obj:=fun i h st b hb=>by
  have e:b=it:=by simpa using hb
  subst e
  obtain⟨o,e,c,d⟩:=st
  exact⟨o,e,fun v z=>by rw[d] at z;cases z⟩
 keep:=fun i h h' st k=>st.at fun o e=>k it (by simp) o e
 item:=by
  intro X hP hw hK hc i pins s σ H E I hf st hg
  subst hP hw hK
  obtain⟨xs,x,hq,hx⟩:=hg
  obtain⟨its,rv,p,hz⟩:=I.list hq
  obtain⟨u,hu,ru⟩:=rv.get hx
  obtain⟨f0,f1,f2,f3,f4,f5⟩:=hf it (by simp)
  refine wpAny_pyNext_list_item st p.isList (x:=u) (by simpa using hu) fun h' st' sb=>?_
  have I1:Inv X pins σ H {s with heap:=h'}:=I.turned (t':=s.toks) (fun b o hb e=>(sb.2 b hb).trans e) f0 f1 f3 f4 f5
  obtain⟨o,e,c,d⟩:=id st'
  exact⟨u,rfl,BE (s:={s with heap:=h'}) e c d (by decide) ⟨x,H,I1,ru,⟨rfl,fun ys hy=>by rw[I.vE hy hq];exact hx⟩,st',fun b hb=>(hf b hb).1⟩⟩
 done:=by
  intro X hP hw hK hc i pins s σ H E I hf st hg
  subst hP hw hK
  obtain⟨xs,hq,hx⟩:=hg
  obtain⟨its,rv,p,hz⟩:=I.list hq
  obtain⟨f0,f1,f2,f3,f4,f5⟩:=hf it (by simp)
  have hl:=rv.length
  exact wpAny_pyNext_list_end (I.ok.hd hc) st p.isList (by simp;omega) fun h' eb=>⟨rfl,I.turned (t':=s.toks) (fun b o hb e=>eb b o hb e) f0 f1 f3 f4 f5⟩
 self:=fun _ _ _ _ _ st h=>wpAny_pyIter_listiter st h
theorem xB {P:Program}{w:World}{K:PySem.W.Frag}{tg:Expr}(a it:Addr):Turn P w K tg (Nv K a) [it] it (fun i h=>h.IsTupleIter it a i) where
 mem:=by simp
 obj:=fun i h st b hb=>by
  have e:b=it:=by simpa using hb
  subst e
  obtain⟨o,e,c,d⟩:=st
  exact⟨o,e,fun v z=>by rw[d] at z;cases z⟩
 keep:=fun i h h' st k=>st.at fun o e=>k it (by simp) o e
 item:=by
  intro X hP hw hK hc i pins s σ H E I hf st hg
  subst hP hw hK
  obtain⟨xs,x,hq,hx⟩:=hg
  obtain⟨its,rv,p,hz⟩:=I.tuple hq
  obtain⟨u,hu,ru⟩:=rv.get hx
  obtain⟨f0,f1,f2,f3,f4,f5⟩:=hf it (by simp)
  refine wpAny_pyNext_tuple_item st (show s.heap.IsTuple a its.toArray from p) (x:=u) (by simpa using hu) fun h' st' sb=>?_
  have I1:Inv X pins σ H {s with heap:=h'}:=I.turned (t':=s.toks) (fun b o hb e=>(sb.2 b hb).trans e) f0 f1 f3 f4 f5
  obtain⟨o,e,c,d⟩:=id st'
  exact⟨u,rfl,BE (s:={s with heap:=h'}) e c d (by decide) ⟨x,H,I1,ru,⟨rfl,fun ys hy=>by rw[I.sV hy hq];exact hx⟩,st',fun b hb=>(hf b hb).1⟩⟩
 done:=by
  intro X hP hw hK hc i pins s σ H E I hf st hg
  subst hP hw hK
  obtain⟨xs,hq,hx⟩:=hg
  obtain⟨its,rv,p,hz⟩:=I.tuple hq
  obtain⟨f0,f1,f2,f3,f4,f5⟩:=hf it (by simp)
  have hl:=rv.length
  exact wpAny_pyNext_tuple_end (I.ok.hd hc) st (show s.heap.IsTuple a its.toArray from p) (by simp;omega) fun h' eb=>⟨rfl,I.turned (t':=s.toks) (fun b o hb e=>eb b o hb e) f0 f1 f3 f4 f5⟩
 self:=fun _ _ _ _ _ st h=>wpAny_pyIter_tupleiter st h
theorem xC {P:Program}{w:World}{K:PySem.W.Frag}{tg:Expr}(it:Addr) (lo:Int) (n:Nat):Turn P w K tg (Mi lo n) [it] it (fun i h=>IsRangeIter h it (lo+(i:Nat) * 1) ((n:Int) - (i:Nat)) 1) where
  mem:=by simp
  obj := fun i h st b hb => by
    have e:b=it:=by simpa using hb
    subst e
    exact⟨_,st,fun v z=>by
      have z':Data.fields _=Data.cell v:=z
      cases z'⟩
  keep:=fun i h h' st k=>k it (by simp) _ st
  item:=by
    intro X hP hw hK hc i pins s σ H E I hf st hg
    subst hP hw hK
    obtain⟨f0,f1,f2,f3,f4,f5⟩:=hf it (by simp)
    have W:=Walks.range (prog:=X.prog) (w:=X.w) (I.ok.hd hc) it lo 1 n
    refine W.item i s _ _ hg st fun v h' tk hv st' kk=>?_
    obtain⟨t,rfl⟩:=hv
    have I1:Inv X pins σ H {s with heap:=h',toks:=tk}:=I.turned (fun b o hb e=>kk b o (by simpa using hb) e) f0 f1 f3 f4 f5
    refine⟨_,rfl,BE (s:={s with heap:=h',toks:=tk}) (n:="range_iterator") st' rfl rfl (by decide) ⟨.int (lo+i),H,I1,⟨t,?_⟩,⟨rfl,rfl⟩,st',fun b hb=>(hf b hb).1⟩⟩
    rw[Int.mul_one]
  done:=by
    intro X hP hw hK hc i pins s σ H E I hf st hg
    subst hP hw hK
    obtain⟨f0,f1,f2,f3,f4,f5⟩:=hf it (by simp)
    exact wpAny_pyNext_range_end (I.ok.hd hc) st (by have:n<=i:=hg;omega) fun h' eb=>⟨rfl,I.turned (t':=s.toks) (fun b o hb e=>eb b o hb e) f0 f1 f3 f4 f5⟩
  self:=fun _ _ _ _ _ st h=>wpAny_pyIter_rangeiter st h
section
variable {X:Cx}{tg:Expr}
noncomputable def Km (K:PySem.W.Frag) (tl:TE):TI:=fun σ H R=>tl σ H fun x H1=>∃a,x= .ref a/\(∃xs,nC K H1 a xs)/\R (Nu K a) H1
noncomputable def Nx (K:PySem.W.Frag) (tl:TE):TI:=fun σ H R=>tl σ H fun x H1=>∃a,x= .ref a/\(∃xs,vp K H1 a xs)/\R (Nv K a) H1
theorem yV {l:Expr}{tl:TE}(hl:PE X l tl):PI X tg l (Km X.K tl):=by
 intro pins s σ H R I h
 refine gg (hl pins s σ H _ I h) fun v s1 ⟨x,H1,I1,r1,q1⟩=>?_
 obtain⟨a,e,⟨xs,hq⟩,q⟩:=q1
 subst e
 cases r1
 obtain⟨its,rv,p,hz⟩:=I1.list hq
 refine wpAny_pyIter_list p.isList ?_
 refine⟨s1.heap.objs.size,[s1.heap.objs.size],_,_,H1,rfl,I1.kept (t':=s1.toks) fun b o e=>Heap.get?_push_of_some _ e,Ac a _,⟨_,Heap.get?_push_size _ rfl,rfl,rfl⟩,fun b hb=>?_,q⟩
 have e:b=s1.heap.objs.size:=by simpa using hb
 subst e
 exact I1.xA (Nat.le_refl _) (I1.hok.fresh (Nat.le_refl _))
theorem BF {l:Expr}{tl:TE}(hl:PE X l tl):PI X tg l (Nx X.K tl):=by
 intro pins s σ H R I h
 refine gg (hl pins s σ H _ I h) fun v s1 ⟨x,H1,I1,r1,q1⟩=>?_
 obtain⟨a,e,⟨xs,hq⟩,q⟩:=q1
 subst e
 cases r1
 obtain⟨its,rv,p,hz⟩:=I1.tuple hq
 refine wpAny_pyIter_tuple (show s1.heap.IsTuple a its.toArray from p) ?_
 refine⟨s1.heap.objs.size,[s1.heap.objs.size],_,_,H1,rfl,I1.kept (t':=s1.toks) fun b o e=>Heap.get?_push_of_some _ e,xB a _,⟨_,Heap.get?_push_size _ rfl,rfl,rfl⟩,fun b hb=>?_,q⟩
 have e:b=s1.heap.objs.size:=by simpa using hb
 subst e
 exact I1.xA (Nat.le_refl _) (I1.hok.fresh (Nat.le_refl _))
theorem BG {pins:List (Addr×Obj)}{σ:St}{H:Hp}{s:Shared}{R:It->Hp->Prop}{E:Value->Shared->Prop}{lo hi:Int}{t u v:Tok}{tk:Nat}(I:Inv X pins σ H s) (h1:-(2 ^ 62)<=lo) (h2:lo < 2 ^ 62) (h3:-(2 ^ 62)<=hi) (h4:hi < 2 ^ 62)
  (q:R (Mi lo (hi - lo).toNat) H):wpAny (model X.prog X.w) X.A (pyIter (.ref s.heap.objs.size)) (Nt X pins σ tg R) E {s with heap:=s.heap.push {cls:=.type "range",data:=.fields #[.int lo t,.int hi u,.int 1 v]},toks:=tk}:=by
 refine wpAny_pyIter_range (IsRange.new ..) (small_one h1 h2 h3 h4) ?_
 have I1:Inv X pins σ H {s with heap:=s.heap.push {cls:=.type "range",data:=.fields #[.int lo t,.int hi u,.int 1 v]},toks:=tk}:=I.kept fun b o e=>Heap.get?_push_of_some _ e
 refine⟨(s.heap.push {cls:=.type "range",data:=.fields #[.int lo t,.int hi u,.int 1 v]}).objs.size,[(s.heap.push {cls:=.type "range",data:=.fields #[.int lo t,.int hi u,.int 1 v]}).objs.size],_,_,H,rfl,
  I1.kept (t':=tk) fun b o e=>Heap.get?_push_of_some _ e,xC _ lo (hi - lo).toNat,?_,fun b hb=>?_,q⟩
 ·have e1:lo+((0:Nat):Int) * 1=lo:=by simp
  have e2:(((hi - lo).toNat:Nat):Int) - ((0:Nat):Int)=Builtin.Range.rangeSize lo hi 1:=by rw[rangeSize_one];split <;> omega
  show IsRangeIter _ _ (lo+((0:Nat):Int) * 1) ((((hi - lo).toNat:Nat):Int) - ((0:Nat):Int)) 1
  rw[e1,e2]
  exact Heap.get?_push_size _ rfl
 ·have e:b=(s.heap.push {cls:=.type "range",data:=.fields #[.int lo t,.int hi u,.int 1 v]}).objs.size:=by simpa using hb
  subst e
  exact I1.xA (Nat.le_refl _) (I1.hok.fresh (Nat.le_refl _))
noncomputable def Kn (ta:TA):TI:=fun σ H R=>ta σ H fun vs H1=>∃j:Int,vs=[.int j]/\-(2 ^ 62)<=j/\j < 2 ^ 62/\R (Mi 0 j.toNat) H1
theorem Ad {a:Expr}{ta:TA}{p pos:Pos}(hg:Gl X "range") (hm:X.mg "range" =none) (ha:PA X [a] ta) (hs:starEach [a] X.env=[(false,eval a X.env)]:=by rfl):PI X tg (.Call (.Name "range" p) [a] [] pos) (Kn ta):=by
 intro pins s σ H R I h
 refine Call_ (jg I hg hm boot_range (PyProof.Rows.callWith_type1 (gg (ha pos pins s σ H _ I h) fun us s1 ⟨vs,H1,I1,r1,q1⟩=>?_) hs rfl))
 obtain⟨j,e,q1,q2,q⟩:=q1
 subst e
 cases r1 with
 | cons r rr=>
  cases rr
  obtain⟨t,rfl⟩:=r
  exact call_range_1 (BG I1 (by omega) (by omega) q1 q2 (by simpa using q))
noncomputable def Ny (wi:TI) (g:TG) (tb:TS):TS:=fun D σ H=>wi σ H fun J H1=>∃W:Nat->Nat->St->Hp->Prop,(∃m,W 0 m σ H1)/\∀i m σ H,W i m σ H->
 (J.stop i H/\D.nx σ H)\/(J.go i H/\∃N:St->Hp->Prop,(∀σ' H',N σ' H'->∃m',m' < m/\W (i+1) m' σ' H')/\∀x H',J.Kl i H x H'->g x σ H' fun σ2 H2=>tb {D with nx:=N,ct:=N,bk:=D.nx} σ2 H2)
noncomputable def mY (fp:List Addr) (h:Heap):List (Addr×Obj):=fp.filterMap fun b=>(h.get? b).map fun o=>(b,o)
theorem gC {fp:List Addr}{h:Heap}{b:Addr}{o:Obj}(hb:b∈fp) (e:h.get? b=some o):(b,o)∈mY fp h:=List.mem_filterMap.mpr ⟨b,hb,by rw[e];rfl⟩
theorem oK {fp:List Addr}{h:Heap}{p:Addr×Obj}(hp:p∈mY fp h):p.1∈fp/\h.get? p.1=some p.2:=by
 obtain⟨b,hb,e⟩:=List.mem_filterMap.mp hp
 cases q:h.get? b with
 | none=>rw[q] at e;cases e
 | some o=>
  rw[q] at e
  have e':(b,o)=p:=Option.some.inj e
  subst e'
  exact⟨hb,q⟩
theorem Inv.pinned {pins:List (Addr×Obj)}{σ:St}{H:Hp}{s:Shared}{fp:List Addr}(I:Inv X pins σ H s) (hf:∀b∈fp,kX X pins H b) (ho:∀b∈fp,∃o,s.heap.get? b=some o/\∀v,o.data≠.cell v):Inv X (pins++mY fp s.heap) σ H s:=
 I.yT fun p hp=>(List.mem_append.mp hp).elim (fun z=>I.pin p (List.mem_append_right _ z)) fun z=>by
  obtain⟨hb,e⟩:=oK z
  obtain⟨f0,f1,f2,_⟩:=hf p.1 hb
  obtain⟨o,e',d⟩:=ho p.1 hb
  rw[e] at e';cases e'
  exact⟨e,f0,f1,f2,d⟩
theorem Inv.kY {pins pl:List (Addr×Obj)}{σ:St}{H:Hp}{s:Shared}(I:Inv X (pins++pl) σ H s):Inv X pins σ H s:=I.yT fun p hp=>I.pin p (List.mem_append_right _ (List.mem_append_left _ hp))
theorem BH {iter:Expr}{body:List Stmt}{wi:TI}{g:TG}{tb:TS}{pos:Pos}(hp:PassesOwn (model X.prog X.w) X.A X.env X.xe) (hc:X.calm=true) (hi:PI X tg iter wi) (hg:PG X tg g) (hb:vD X body tb)
  (hs:∀x,foldedSetIterable iter X.env x=pure x:=by intro _;rfl):PS X (.For tg iter body [] pos) (Ny wi g tb):=by
 intro pins s σ H D I h
 refine wpAny_For (gg (hi pins s σ H _ I h) fun v s1 h1=>gg h1 fun itv s2 h2=>?_) hs
 obtain⟨it,fp,tn,J,H2,e,I2,T,st2,f2,W,⟨m0,w0⟩,turn⟩:=h2
 subst e
 have G4:∀{H':Hp},(∀b∈fp,H' b=none)->∀b∈fp,kX X pins H' b:=fun hn b hb=>⟨hn b hb,(f2 b hb).2⟩
 refine codeAny_forLoop_any (fun n s'=>∃i σ' H',Inv X pins σ' H' s'/\tn i s'.heap/\(∀b∈fp,H' b=none)/\W i n σ' H') ?_ m0 ⟨0,σ,H2,I2,st2,fun b hb=>(f2 b hb).1,w0⟩
 rintro n s3 ⟨i,σ3,H3,I3,st3,Ri,w3⟩
 rcases turn i n σ3 H3 w3 with⟨stop,qn⟩ | ⟨go,N,hN,step⟩
 ·refine wpAny_passesOwn hp (gg (T.done X rfl rfl rfl hc i pins s3 σ3 H3 X.xe I3 (G4 Ri) st3 stop) fun r s4 ⟨hr,I4⟩=>?_)
  subst hr
  exact wpAny_execs_nil ⟨σ3,H3,I4,qn⟩
 ·refine wpAny_passesOwn hp (gg (T.item X rfl rfl rfl hc i pins s3 σ3 H3 X.xe I3 (G4 Ri) st3 go) fun r s4 ⟨u,hr,h4⟩=>?_)
  subst hr
  refine wpAny_passesOwn hp (gg h4 fun _ s5 ⟨x,H5,I5,r5,y5,Nz,SH⟩=>?_)
  have SI:=I5.pinned (G4 SH) (T.obj _ _ Nz)
  refine wpAny_passesOwn hp (gg (hg _ s5 σ3 H5 x u _ SI r5 (step x H5 y5)) fun _ s6 ⟨SJ,H6,I6,q6⟩=>?_)
  refine wpAny_passesOwn hp (gg (hb _ s6 SJ H6 _ I6 q6) fun f s7 q7=>?_)
  have again:∀{BI:St}{H7:Hp},Inv X (pins++mY fp s5.heap) BI H7 s7->N BI H7->∃m,m < n/\∃i σ' H',Inv X pins σ' H' s7/\tn i s7.heap/\(∀b∈fp,H' b=none)/\W i m σ' H':=fun {BI H7} I7 n7=>by
   obtain⟨m',hm,w7⟩:=hN BI H7 n7
   refine⟨m',hm,i+1,BI,H7,I7.kY,T.keep _ _ _ Nz fun b hb o e=>(I7.pin (b,o) (List.mem_append_right _ (List.mem_append_right _ (gC hb e)))).1,fun b hb=>?_,w7⟩
   obtain⟨o,e,d⟩:=T.obj _ _ Nz b hb
   exact(I7.pin (b,o) (List.mem_append_right _ (List.mem_append_right _ (gC hb e)))).2.1
  cases f with
  | next=>obtain⟨BI,H7,I7,n7⟩:=q7;exact again I7 n7
  | cont=>obtain⟨BI,H7,I7,n7⟩:=q7;exact again I7 n7
  | brk=>obtain⟨BI,H7,I7,q7⟩:=q7;exact⟨BI,H7,I7.kY,q7⟩
  | ret v=>obtain⟨x7,BI,H7,I7,r7,q7⟩:=q7;exact⟨x7,BI,H7,I7.kY,r7,q7⟩
end
noncomputable abbrev R2:=V->V->Hp->VK->Prop
noncomputable def qu (X:Cx) (f:Value->Value->Sem Value) (r:R2):Prop:=
 ∀(pins:List (Addr×Obj)) (s:Shared) (σ:St) (H:Hp) (x y:V) (v u:Value) (Q:VK),Inv X pins σ H s->RelV x v->RelV y u->r x y H Q->
  wpAny (model X.prog X.w) X.A (f v u) (EP X pins σ Q) X.xe s
noncomputable def gq (X:Cx) (f:Value) (r:List V->Hp->VK->Prop):Prop:=
 ∀(pins:List (Addr×Obj)) (s:Shared) (σ:St) (H:Hp) (xs:List V) (us:List Value) (Q:VK),Inv X pins σ H s->Vals xs us->r xs H Q->
  wpAny (model X.prog X.w) X.A (call f us) (EP X pins σ Q) X.xe s
noncomputable def Jv (r:R2) (ta tb:TE):TE:=fun σ H Q=>ta σ H fun x H1=>tb σ H1 fun y H2=>r x y H2 Q
noncomputable def rI (C:Int->Int->Prop) (g:Int->Int->V):R2:=fun x y H Q=>∃i j,x= .int i/\y= .int j/\C i j/\Q (g i j) H
noncomputable def G5 (g:Int->Int->V):R2:=fun x y H Q=>∃i j,x= .int i/\y= .int j/\Q (g i j) H
section
variable {X:Cx}{a b c:Expr}{ta tb tc:TE}{pos:Pos}
theorem G6 (ha:PE X a ta) (hb:PE X b tb){pins:List (Addr×Obj)}{s:Shared}{σ:St}{H:Hp}{R:V->V->Hp->Prop}(I:Inv X pins σ H s)
  (h:ta σ H fun x H1=>tb σ H1 fun y H2=>R x y H2){Q:Value->Shared->Prop}{f:Value->Value->Sem Value}
  (hf:∀v u s2 x y H2,Inv X pins σ H2 s2->RelV x v->RelV y u->R x y H2->wpAny (model X.prog X.w) X.A (f v u) Q X.xe s2):
  wpAny (model X.prog X.w) X.A (eval a X.env) (fun v s₁=>wpAny (model X.prog X.w) X.A (eval b X.env) (fun u s₂=>wpAny (model X.prog X.w) X.A (f v u) Q X.xe s₂) X.xe s₁) X.xe s:=by
 refine gg (ha pins s σ H _ I h) fun v s1 ⟨x,H1,I1,r1,q1⟩=>?_
 refine gg (hb pins s1 σ H1 _ I1 q1) fun u s2 ⟨y,H2,I2,r2,q2⟩=>?_
 exact hf v u s2 x y H2 I2 r1 r2 q2
theorem Ko {op:Operator}{r:R2}(ho:qu X (binaryOp op) r) (ha:PE X a ta) (hb:PE X b tb):PE X (.BinOp a op b pos) (Jv r ta tb):=by
 intro pins s σ H Q I h
 exact wpAny_BinOp (G6 ha hb I h fun v u s2 x y H2 I2 rx ry q=>ho pins s2 σ H2 x y v u Q I2 rx ry q)
theorem Mj {f:Value->Value->Sem Value}{C:Int->Int->Prop}{g:Int->Int->Int}
  (rule:∀(i j:Int) (t u:Tok) (s:Shared) (Q:Value->Shared->Prop) (E:Value->Shared->Prop),C i j->Q (.int (g i j) s.toks) {s with toks:=s.toks+1}->wpAny (model X.prog X.w) X.A (f (.int i t) (.int j u)) Q E s):
  qu X f (rI C fun i j=>.int (g i j)):=by
 intro pins s σ H x y v u Q I rx ry h
 obtain⟨i,j,rfl,rfl,hc,q⟩:=h
 obtain⟨t,rfl⟩:=rx
 obtain⟨t',rfl⟩:=ry
 exact rule i j t t' s _ _ hc ⟨.int (g i j),H,I.tok _,⟨_,rfl⟩,q⟩
theorem Kp {f:Value->Value->Sem Value}{g:Int->Int->Int}
  (rule:∀(i j:Int) (t u:Tok) (s:Shared) (Q:Value->Shared->Prop) (E:Value->Shared->Prop),Q (.int (g i j) s.toks) {s with toks:=s.toks+1}->wpAny (model X.prog X.w) X.A (f (.int i t) (.int j u)) Q E s):
  qu X f (G5 fun i j=>.int (g i j)):=by
 intro pins s σ H x y v u Q I rx ry h
 obtain⟨i,j,rfl,rfl,q⟩:=h
 obtain⟨t,rfl⟩:=rx
 obtain⟨t',rfl⟩:=ry
 exact rule i j t t' s _ _ ⟨.int (g i j),H,I.tok _,⟨_,rfl⟩,q⟩
theorem G7 {f:Value->Value->Sem Value}{g:Int->Int->Bool}
  (rule:∀(i j:Int) (t u:Tok) (s:Shared) (Q:Value->Shared->Prop) (E:Value->Shared->Prop),Q (.bool (g i j)) s->wpAny (model X.prog X.w) X.A (f (.int i t) (.int j u)) Q E s):
  qu X f (G5 fun i j=>.bl (g i j)):=by
 intro pins s σ H x y v u Q I rx ry h
 obtain⟨i,j,rfl,rfl,q⟩:=h
 obtain⟨t,rfl⟩:=rx
 obtain⟨t',rfl⟩:=ry
 exact rule i j t t' s _ _ ⟨.bl (g i j),H,I,rfl,q⟩
noncomputable def Kq (i j:Int):Prop:=0 < j/\j < 1073741824
noncomputable def NB (i j:Int):Prop:=0<=j/\j<=1000000/\i.natAbs < 2 ^ 64
noncomputable def G8 (i j:Int):Prop:=(-(2 ^ 64) < i/\i < 2 ^ 64)\/(-(2 ^ 64) < j/\j < 2 ^ 64)
theorem G8.ok {i j:Int}(h:G8 i j):IntMulOk i j:=by
 rcases h with⟨h1,h2⟩ | ⟨h1,h2⟩
 ·exact .of_left (intBits_le_64 h1 h2)
 ·exact .of_right (intBits_le_64 h1 h2)
theorem G9:qu X (binaryOp .Add) (G5 fun i j=>.int (i+j)):=Kp fun _ _ _ _ _ _ _ q=>add_int q
theorem Hf:qu X (binaryOp .Sub) (G5 fun i j=>.int (i - j)):=Kp fun _ _ _ _ _ _ _ q=>sub_int q
theorem Hg:qu X (binaryOp .Mult) (rI G8 fun i j=>.int (i * j)):=Mj fun _ _ _ _ _ _ _ hc q=>mul_int q hc.ok
theorem D3:qu X (binaryOp .FloorDiv) (rI Kq fun i j=>.int (i / j)):=Mj fun i j _ _ _ _ _ hc q=>by
 have h1:(0:Int) < j:=hc.1
 have h2:j < 1073741824:=hc.2
 exact floordiv_int (by omega) (by rw[Int.fdiv_eq_ediv_of_nonneg i (by omega)];exact q) (.inl (PyProof.noPylong_small (by omega)))
theorem Hh:qu X (binaryOp .Mod) (rI (fun _ j=>0 < j) fun i j=>.int (i % j)):=Mj fun i j _ _ _ _ _ hc q=>by
 have h1:(0:Int) < j:=hc
 exact mod_int' (by omega) (by rw[Int.fmod_eq_emod_of_nonneg i (by omega)];exact q)
theorem Hi:qu X (binaryOp .Pow) (rI NB fun i j=>.int (i ^ j.toNat)):=Mj fun _ _ _ _ _ _ _ hc q=>pow_int_small hc.1 hc.2.1 hc.2.2 q
end
section
variable {X:Cx}{a b c:Expr}{ta tb tc:TE}{pos:Pos}
theorem xD {pins:List (Addr×Obj)}{σ:St}{H:Hp}{s:Shared}{Q:VK}{k k':Bool}(I:Inv X pins σ H s) (q:Q (.bl k) H) (e:k=k'):EP X pins σ Q (.bool k') s:=by
 subst e
 exact⟨.bl k,H,I,rfl,q⟩
theorem Kr:qu X (compareOp .Lt) (G5 fun i j=>.bl (decide (i < j))):=G7 fun _ _ _ _ _ _ _ q=>lt_int q
theorem Ks:qu X (compareOp .Gt) (G5 fun i j=>.bl (decide (j < i))):=G7 fun _ _ _ _ _ _ _ q=>gt_int q
theorem Ku:qu X (compareOp .GtE) (G5 fun i j=>.bl (decide (j<=i))):=G7 fun _ _ _ _ _ _ _ q=>ge_int q
theorem Ae:qu X (compareOp .In) (fun x y H Q=>∃i j,x= .str i/\y= .str j/\Q (.bl (!(Builtin.Str.occurrences j i 0 j.length 1).isEmpty)) H):=by
 intro pins s σ H x y v u Q I rx ry h
 obtain⟨i,j,rfl,rfl,q⟩:=h
 obtain⟨t,rfl⟩:=rx
 obtain⟨t',rfl⟩:=ry
 exact in_str (xD I q rfl)
theorem Hj:qu X (compareOp .Is) (fun x y H Q=>y= .bM/\Q (.bl (decide (x= .bM))) H):=by
 intro pins s σ H x y v u Q I rx ry h
 obtain⟨rfl,q⟩:=h
 cases ry
 refine is_none_gen (xD I q ?_)
 cases x <;> first
  | (cases rx;rfl)
  | (obtain⟨t,rfl⟩:=rx;rfl)
theorem D4:qu X (compareOp .IsNot) (fun x y H Q=>y= .bM/\Q (.bl (!decide (x= .bM))) H):=by
 intro pins s σ H x y v u Q I rx ry h
 obtain⟨rfl,q⟩:=h
 cases ry
 refine isnot_none_gen (xD I q ?_)
 cases x <;> first
  | (cases rx;rfl)
  | (obtain⟨t,rfl⟩:=rx;rfl)
theorem BJ (b:Expr){op:CmpOp}(h:op≠.In:=by decide) (h2:op≠.NotIn:=by decide):behindInMarks op b=false:=by
 have e1:(op == CmpOp.In)=false:=by cases op <;> first | rfl | exact absurd rfl h
 have e2:(op == CmpOp.NotIn)=false:=by cases op <;> first | rfl | exact absurd rfl h2
 cases b <;> simp[behindInMarks,e1,e2]
theorem D5 {op:CmpOp}{r:R2}(ho:qu X (compareOp op) r) (ha:PE X a ta) (hb:PE X b tb) (hm:behindInMarks op b=false):PE X (.Compare a [op] [b] pos) (Jv r ta tb):=by
 intro pins s σ H Q I h
 exact wpAny_Compare1 (G6 ha hb I h fun v u s2 x y H2 I2 rx ry q=>ho pins s2 σ H2 x y v u Q I2 rx ry q) hm
noncomputable def Kv (t:TE):TT:=fun σ H Q=>t σ H fun x H'=>∃k,x= .bl k/\Q k H'
theorem D6 {op:CmpOp}{r:R2}(ho:qu X (compareOp op) r) (ha:PE X a ta) (hb:PE X b tb) (hm:behindInMarks op b=false):PT X (.Compare a [op] [b] pos) (Kv (Jv r ta tb)):=by
 intro pins s σ H Q I h
 refine wpAny_isTrue_Compare1 (gg (ha pins s σ H _ I h) fun v s1 ⟨x,H1,I1,r1,q1⟩=>gg (hb pins s1 σ H1 _ I1 q1) fun u s2 ⟨y,H2,I2,r2,q2⟩=>
  gg (ho pins s2 σ H2 x y v u _ I2 r1 r2 q2) fun c s3 ⟨z,H3,I3,r3,k,e,q3⟩=>?_) hm
 subst e
 cases r3
 exact wpAny_truthy_bool ⟨H3,I3,q3⟩
theorem oM:(sizeLine:Nat) < 2 ^ 63:=by rw[sizeLine_eq];decide
theorem xE:qu X (binaryOp .Add) (fun x y H Q=>∃i j,x= .str i/\y= .str j/\i.length+j.length<=sizeLine/\Q (.str (i++j)) H):=by
 intro pins s σ H x y v u Q I rx ry h
 obtain⟨i,j,rfl,rfl,hz,q⟩:=h
 obtain⟨t,rfl⟩:=rx
 obtain⟨t',rfl⟩:=ry
 exact add_str (fun t' tk=>⟨.str (i++j),H,I.tok _,⟨_,rfl⟩,q⟩) hz
theorem vals1 {x:V}{us:List Value}(r:Vals [x] us):∃u,us=[u]/\RelV x u:=by
 cases r with
 | cons r1 r2=>cases r2;exact⟨_,rfl,r1⟩
theorem vals2 {x y:V}{us:List Value}(r:Vals [x,y] us):∃u w',us=[u,w']/\RelV x u/\RelV y w':=by
 cases r with
 | cons r1 r2=>
  cases r2 with
  | cons r3 r4=>cases r4;exact⟨_,_,rfl,r1,r3⟩
theorem Af (hc:X.calm=true):gq X (.builtin "min") (fun xs H Q=>∃i j,xs=[.int i,.int j]/\Q (.int (if j < i then j else i)) H):=by
 intro pins s σ H xs us Q I r h
 obtain⟨i,j,rfl,q⟩:=h
 obtain⟨u,w',rfl,⟨t,rfl⟩,⟨t',rfl⟩⟩:=vals2 r
 refine min_two_ints (I.ok.hd hc) fun h' tk k=>⟨_,H,I.kept k,?_,q⟩
 by_cases hj:j < i
 ·rw[if_pos hj,if_pos hj];exact⟨_,rfl⟩
 ·rw[if_neg hj,if_neg hj];exact⟨_,rfl⟩
theorem sX:gq X (.type "int") (fun xs H Q=>(∃i,xs=[.int i]/\Q (.int i) H)\/∃k,xs=[.bl k]/\Q (.int (if k then 1 else 0)) H):=by
 intro pins s σ H xs us Q I r h
 rcases h with⟨i,rfl,q⟩ | ⟨k,rfl,q⟩
 ·obtain⟨u,rfl,t,rfl⟩:=vals1 r
  exact call_int_int ⟨.int i,H,I,⟨_,rfl⟩,q⟩
 ·obtain⟨u,rfl,r1⟩:=vals1 r
  cases r1
  exact call_int_bool ⟨.int (if k then 1 else 0),H,I.tok _,⟨_,rfl⟩,q⟩
end
section
variable {prog:Program}{w:World}{A:Around}{E:Value->Shared->Prop}{s:Shared}{K:PySem.W.Frag}{x dx C f:Addr}{mA:Str->Option Value}{name:Str}{v:Value}
end
theorem mC.some_of {v:V}{o:Option Value}(r:mC (some v) o):∃u,o=some u/\RelV v u:=by
 cases o with
 | none=>exact(show False from r).elim
 | some u=>exact⟨u,rfl,r⟩
theorem mC.none_of {o:Option Value}(r:mC none o):o=none:=by
 cases o with
 | none=>rfl
 | some u=>exact(show False from r).elim
section
variable {P:Program}{w:World}{H H':Hp}{h h':Heap}{a C dx:Addr}{fs fs':List (Str×V)}
end
section
variable {X:Cx}{pins:List (Addr×Obj)}{σ:St}{H:Hp}{s:Shared}{a C dx:Addr}{fs:List (Str×V)}{f:Str}{v:V}{A:Around}{E:Value->Shared->Prop}
end
section
variable {X:Cx}{o e value:Expr}{f:Str}{pos pos' tpos:Pos}{ta tv:TE}
end
section
variable {X:Cx}{pins:List (Addr×Obj)}{σ:St}{H:Hp}{s:Shared}{A:Around}{E:Value->Shared->Prop}{Q:Value->Shared->Prop}{c:Value}{b:Bool}
end
structure j6 (k:Nat) (A:Around):Prop where
 hd:A.handled=none
 dp:A.depth+3 * k+5 < recursionLimit
 un:A.units+16 * k+200 < cLine
 gd:A.guards=some []
theorem j6.mono {j k:Nat}{A:Around}(r:j6 k A) (h:j<=k):j6 j A:=⟨r.hd,by have:=r.dp;omega,by have:=r.un;omega,r.gd⟩
theorem j6.deeper {k:Nat}{A:Around}(r:j6 (k+1) A) (env:Env):j6 k (A.deeper env):=
 ⟨r.hd,by have:=r.dp;show A.depth+1+3 * k+5 < _;omega,by have:=r.un;show A.units+3+16 * k+200 < _;omega,r.gd⟩
theorem j6.depth {k:Nat}{A:Around}(r:j6 k A):A.depth < recursionLimit:=by have:=r.dp;omega
theorem j6.units {k:Nat}{A:Around}(r:j6 k A):A.units+64 < cLine:=by have:=r.un;omega
noncomputable def Kw:TA:=fun _ H Q=>Q [] H
noncomputable def FZ (ta:TE) (tr:TA):TA:=fun σ H Q=>ta σ H fun x H1=>tr σ H1 fun xs H2=>Q (x :: xs) H2
section
variable {X:Cx}{e:Expr}{es:List Expr}{te:TE}{t:TA}{pos:Pos}
theorem oN:PA X [] Kw:=fun _ _ _ _ H Q I h=>Calls.spliced_nil ⟨[],H,I,.nil,h⟩
theorem jK (ha:PE X e te) (hr:PA X es t) (hs:starEach (e :: es) X.env=(false,eval e X.env) :: starEach es X.env:=by rfl):PA X (e :: es) (FZ te t):=by
 intro pos pins s σ H Q I h
 rw[hs]
 show wpAny _ _ (spliced ((false,eval e X.env) :: backTo pos (starEach es X.env))) _ _ s
 refine Calls.spliced_cons (gg (ha pins s σ H _ I h) fun u s1 ⟨x,H1,I1,r1,q1⟩=>?_)
 exact gg (hr pos pins s1 σ H1 _ I1 q1) fun us s2 ⟨xs,H2,I2,r2,q2⟩=>⟨x :: xs,H2,I2,.cons r1 r2,q2⟩
noncomputable def NC (t:TA):TE:=fun σ H Q=>t σ H fun xs H1=>xs.length<=sizeLine/\∀p,H1 p=none->Q (.ref p) (upd H1 p (.tup xs))
noncomputable def ND (t:TA):TE:=fun σ H Q=>t σ H fun xs H1=>xs.length<=sizeLine/\∀p,H1 p=none->Q (.ref p) (upd H1 p (.lst xs))
theorem Hl {x1}(h:PA X es t):PE X (.Tuple es x1 pos) (NC t):=by
 intro pins s σ H Q I hq
 refine wpAny_Tuple_spliced (gg (h pos pins s σ H _ I hq) fun us s1 ⟨xs,H1,I1,r,z,q⟩=>⟨by rw[<-r.length];exact z,?_⟩)
 have hf:H1 s1.heap.objs.size=none:=I1.hok.fresh (Nat.le_refl _)
 refine⟨.ref s1.heap.objs.size,upd H1 s1.heap.objs.size (.tup xs),I1.laid (t':=s1.toks) (fun b u e=>Heap.get?_push_of_some _ e) (Nat.le_refl _) ?_,rfl,q _ hf⟩
 exact⟨z,us,r,⟨_,Heap.get?_push_size _ rfl,rfl,_,rfl⟩⟩
theorem Ho (h:PA X es t):PE X (.List es pos) (ND t):=by
 intro pins s σ H Q I hq
 refine wpAny_List_spliced (gg (h pos pins s σ H _ I hq) fun us s1 ⟨xs,H1,I1,r,z,q⟩=>⟨by rw[<-r.length];exact z,?_⟩)
 have hf:H1 s1.heap.objs.size=none:=I1.hok.fresh (Nat.le_refl _)
 refine⟨.ref s1.heap.objs.size,upd H1 s1.heap.objs.size (.lst xs),I1.laid (t':=s1.toks) (fun b u e=>Heap.get?_push_of_some _ e) (Nat.le_refl _) ?_,rfl,q _ hf⟩
 exact⟨z,us,0,r,Heap.get?_push_size _ rfl⟩
end
noncomputable abbrev Sp:=List V->Hp->VK->XK->Prop
noncomputable abbrev Bj:=List Env->Hp->Shared->XK->Value->Shared->Prop
structure D7 (P:Program) (w:World) (K:PySem.W.Frag) (mg:Str->Option Value) (base:Heap) (A:Around) (outer:List Env) (s:Shared) (H:Hp):Prop where
 frames:A.frames=some outer
 mod:Mod K mg base
 bs:∀b o,base.get? b=some o->s.heap.get? b=some o/\H b=none
 FU:base.objs.size<=s.heap.objs.size
 qp:s.heap.FunFrames base outer
 Ju:∀b∈frs outer,H b=none
 hok:kU P w H s.heap
 bare:AllBare s.gens
noncomputable def CE (outer:List Env) (P:Program) (w:World) (H:Hp) (s:Shared) (Q:VK) (u:Value) (s':Shared):Prop:=
 ∃v H',s'.os=s.os/\AllBare s'.gens/\Un (frs outer) [] H H' s.heap s'.heap/\kU P w H' s'.heap/\RelV v u/\Q v H'
noncomputable def CR (CX:Bj) (outer:List Env) (P:Program) (w:World) (H:Hp) (s:Shared) (Q:VK) (E:XK) (r:Result) (s':Shared):Prop:=
 match r with
 | .ok (.ret u)=>CE outer P w H s Q u s'
 | .ok _=>False
 | .error e=>CX outer H s E e s'
structure cD (P:Program) (w:World) (K:PySem.W.Frag) (mg:Str->Option Value) (base:Heap) (CX:Bj) (k:Nat) (f:Addr) (fd:FuncData) (ps:List Str) (sp:Sp):Prop where
 len:∀vs H Q E,sp vs H Q E->vs.length=ps.length
 run:∀(A:Around) (outer:List Env) (s:Shared) (H:Hp) (args:Args) (us:List Value) (vs:List V) (Q:VK) (E:XK),j6 k A->D7 P w K mg base A outer s H->BindsTo s fd args (ps.zip us)->Vals vs us->sp vs H Q E->
  codeAny (model P w) A (.call (.ref f) args) (CR CX outer P w H s Q E) s
theorem cD.mono {P:Program}{w:World}{K:PySem.W.Frag}{mg:Str->Option Value}{base:Heap}{CX:Bj}{j k:Nat}{f:Addr}{fd:FuncData}{ps:List Str}{sp:Sp}(F:cD P w K mg base CX j f fd ps sp) (h:j<=k):
  cD P w K mg base CX k f fd ps sp:=⟨F.len,fun A outer s H args us vs Q E hr=>F.run A outer s H args us vs Q E (hr.mono h)⟩
section
variable {X:Cx}{pins:List (Addr×Obj)}{σ:St}{H:Hp}{s s':Shared}
theorem Inv.NF (I:Inv X pins σ H s):D7 X.prog X.w X.K X.mg X.base X.A X.stack s H:=
 ⟨I.ok.frames,I.ok.mod,I.bs,Nat.le_trans I.ok.FU I.sz,I.stack,I.yS,I.hok,I.bare⟩
theorem Inv.after {Q:VK}{u:Value}(I:Inv X pins σ H s) (h:CE X.stack X.prog X.w H s Q u s'):EP X pins σ Q u s':=by
 obtain⟨v,H',os,bare,un,hok,r,q⟩:=h
 obtain⟨hh,g,d,t,os'⟩:=s'
 obtain rfl:os'=s.os:=os
 exact⟨v,H',I.call (h':=hh) (g':=g) (d':=d) (t':=t) (ch:=[]) un hok bare (fun b z=>absurd z (by simp)),r,q⟩
end
noncomputable def Ky (sp:Sp) (Ga:List V) (E:XK) (t:TA):TE:=fun σ H Q=>t σ H fun vs H1=>sp (vs++Ga) H1 Q E
noncomputable def Binds (K:PySem.W.Frag) (fd:FuncData) (ps:List Str) (ds:List Value):Prop:=
 ∀(s:Shared) (us:List Value),K.In s.heap->(us++ds).length=ps.length->BindsTo s fd ⟨us,[]⟩ (ps.zip (us++ds))
theorem Binds.all {K:PySem.W.Frag}{fd:FuncData}{ps:List Str}(h:∀us:List Value,us.length=ps.length->bindArgs fd ⟨us,[]⟩=pure (ps.zip us)):Binds K fd ps []:=fun s us _ hl=>by
 rw[List.append_nil] at hl ⊢
 exact .of_eq (h us hl)
noncomputable def Passes (CX:Bj) (X:Cx) (E:XK):Prop:=∀(pins:List (Addr×Obj)) (σ:St) (H:Hp) (s:Shared) (e:Value) (s':Shared),Inv X pins σ H s->CX X.stack H s E e s'->X.xe e s'
section
variable {X:Cx}{CX:Bj}{k:Nat}{f C:Addr}{fd:FuncData}{ps:List Str}{sp:Sp}{Ga:List V}{ds:List Value}{E:XK}{x m:Str}{p pos apos:Pos}{e o:Expr}{es:List Expr}{ta:TE}{t:TA}
theorem Hq {pins:List (Addr×Obj)}{σ:St}{H:Hp}{s:Shared}{Q:VK}{us:List Value}{vs:List V}(F:cD X.prog X.w X.K X.mg X.base CX k f fd ps sp) (hr:j6 k X.A) (hb:Binds X.K fd ps ds) (hd:Vals Ga ds) (hx:Passes CX X E)
  (I:Inv X pins σ H s) (r:Vals vs us) (h:sp (vs++Ga) H Q E):wpAny (model X.prog X.w) X.A (call (.ref f) us) (EP X pins σ Q) X.xe s:=by
 have r2:Vals (vs++Ga) (us++ds):=r.append hd
 have hl:(us++ds).length=ps.length:=by rw[<-r2.length];exact F.len _ _ _ _ h
 refine wpAny_call (codeAny_mono (F.run X.A X.stack s H ⟨us,[]⟩ (us++ds) (vs++Ga) Q E hr I.NF (hb s us I.Bh hl) r2 h) fun r s' hq=>?_)
 cases r with
 | error e=>exact hx pins σ H s e s' I hq
 | ok fl=>
  cases fl with
  | ret u=>exact I.after hq
  | next=>exact False.elim hq
  | brk=>exact False.elim hq
  | cont=>exact False.elim hq
theorem D8 (F:cD X.prog X.w X.K X.mg X.base CX k f fd ps sp) (hr:j6 k X.A) (hg:Gl X x) (hm:X.mg x=some (.ref f)) (hk:PySem.W.keepIn X.K (.ref f)=true) (hb:Binds X.K fd ps ds) (hd:Vals Ga ds) (hx:Passes CX X E)
  (ha:PA X (e :: es) t) (hdb:(x == ("__debug__":Str))=false:=by decide) (he:starEach (e :: es) X.env=(false,eval e X.env) :: starEach es X.env:=by rfl) (hpl:(backTo pos (starEach es X.env)).any (·.1)=false:=by rfl):
  PE X (.Call (.Name x p) (e :: es) [] pos) (Ky sp Ga E t):=by
 intro pins s σ H Q I h
 refine wpAny_Call_Name_kw (DT I hg hm ?_ hdb)
 refine PySem.W.callWith_K (h₀:=X.base) I.ok.mod.Nc hk (gg (ha pos pins s σ H _ I h) fun us s1 ⟨vs,H1,I1,r,q⟩=>⟨I1.Bh,?_⟩) he hpl
 exact Hq F hr hb hd hx I1 r q
end
section
variable {X:Cx}{CX:Bj}{k:Nat}{f C:Addr}{fd:FuncData}{ps ks:List Str}{sp:Sp}{E:XK}{x m:Str}{p pos apos kpos:Pos}{e o:Expr}{es:List Expr}{kws:List Keyword}{te ta:TE}{t tk:TA}{nm:Option Str}
variable {g:List Value->List Value->List Value}{gV:List V->List V->List V}
end
structure bX (N P:List Str) (sc:Scope):Prop where
 kind:sc.kind= .function
 co:sc.isCoroutine=false
 gen:sc.isGenerator=false
 nd:N.Nodup
 pre:N.take P.length=P
 par:∀x∈P,sc.names.lookup x=some .local\/sc.names.lookup x=some .cell
 Hr:∀y∈sc.names,y.2≠.free
theorem sY {kindOf:Str->Option NameKind}{x:Str}:∀{binds:List (Str×Value)}{m:Str->Option Value},(∀v,(x,v)∉binds)->bindL kindOf binds m x=m x
 | [],_,_=>rfl
 | (n,v) :: r,m,h=>by
  unfold bindL
  rw[sY fun w hw=>h w (List.mem_cons_of_mem _ hw)]
  split
  ·have:x≠n:=by rintro rfl;exact h v List.mem_cons_self
   simp[this]
  ·rfl
theorem sZ {kindOf:Str->Option NameKind}{x:Str}:∀{binds:List (Str×Value)}{m:Str->Option Value},(∀v,(x,v)∉binds)->bindC kindOf binds m x=m x
 | [],_,_=>rfl
 | (n,v) :: r,m,h=>by
  unfold bindC
  rw[sZ fun w hw=>h w (List.mem_cons_of_mem _ hw)]
  split
  ·rfl
  ·have:x≠n:=by rintro rfl;exact h v List.mem_cons_self
   simp[this]
theorem tu {kindOf:Str->Option NameKind}{x:Str}{v:Value}:∀{P:List Str}{vs:List Value}{i:Nat}{m:Str->Option Value},P.Nodup->P[i]? =some x->vs[i]? =some v->kindOf x=some .local->
  bindL kindOf (P.zip vs) m x=some v
 | [],_,_,_,_,h,_,_=>by simp at h
 | _ :: _,[],_,_,_,_,h,_=>by simp at h
 | p :: P,w :: vs,0,m,nd,h1,h2,hk=>by
  simp at h1 h2;subst h1;subst h2
  show bindL kindOf ((p,w) :: P.zip vs) m p=_
  unfold bindL
  rw[sY fun v hv=>(List.nodup_cons.mp nd).1 (List.of_mem_zip hv).1,if_pos hk]
  simp
 | p :: P,w :: vs,i+1,m,nd,h1,h2,hk=>by
  show bindL kindOf ((p,w) :: P.zip vs) m x=_
  unfold bindL
  exact tu (i:=i) (List.nodup_cons.mp nd).2 (by simpa using h1) (by simpa using h2) hk
theorem tw {kindOf:Str->Option NameKind}{x:Str}{v:Value}:∀{P:List Str}{vs:List Value}{i:Nat}{m:Str->Option Value},P.Nodup->P[i]? =some x->vs[i]? =some v->kindOf x≠some .local->
  bindC kindOf (P.zip vs) m x=some v
 | [],_,_,_,_,h,_,_=>by simp at h
 | _ :: _,[],_,_,_,_,h,_=>by simp at h
 | p :: P,w :: vs,0,m,nd,h1,h2,hk=>by
  simp at h1 h2;subst h1;subst h2
  show bindC kindOf ((p,w) :: P.zip vs) m p=_
  unfold bindC
  rw[sZ fun v hv=>(List.nodup_cons.mp nd).1 (List.of_mem_zip hv).1,if_neg hk]
  simp
 | p :: P,w :: vs,i+1,m,nd,h1,h2,hk=>by
  show bindC kindOf ((p,w) :: P.zip vs) m x=_
  unfold bindC
  exact tw (i:=i) (List.nodup_cons.mp nd).2 (by simpa using h1) (by simpa using h2) hk
noncomputable def start (N:List Str) (vs:List V):St:=vs.map some++List.replicate (N.length - vs.length) none
noncomputable def xF (CX:Bj) (P:Program) (w:World) (K:PySem.W.Frag) (mg:Str->Option Value) (base:Heap) (N:List Str) (qual:Str) (scope:Scope) (f:Addr) (cd:Value) (A:Around) (outer:List Env) (s:Shared) (H:Hp) (E:XK):Cx where
 prog:=P
 w:=w
 K:=K
 mg:=mg
 base:=base
 A:=A.deeper (envOfC qual scope s.heap.objs.size f cd)
 N:=N
 s₀:=s
 H₀:=H
 env:=envOfC qual scope s.heap.objs.size f cd
 outer:=outer
 stack:=envOfC qual scope s.heap.objs.size f cd :: outer
 ex:=[]
 calm:=true
 fn:=fun _=>true
 pn:=[]
 xe:=fun e s'=>wpAny (model P w) (A.deeper (envOfC qual scope s.heap.objs.size f cd)) (leaving (envOfC qual scope s.heap.objs.size f cd) e) (fun _ s''=>CX outer H s E e s'') (fun e' s''=>CX outer H s E e' s'') s'
theorem vF {sc:Scope}{n:Nat}{x:Str}(h:sc.names.lookup x=some .cell):∃c,(cellsFrom n sc.names []).lookup x=some c:=by
 have q:=PySem.W.cellsFrom_some sc.names n [] (.inl h)
 exact Option.isSome_iff_exists.mp q
theorem Ag {CX : Bj} {P : Program} {w : World} {K : PySem.W.Frag} {mg : Str -> Option Value} {base : Heap} {N ps : List Str} {qual : Str} {scope : Scope} {f : Addr} {cd : Value} {A : Around} {outer : List Env} {s s1 : Shared} {H : Hp} {E : XK} {us : List Value} {vs : List V}
    (S:bX N ps scope) (hd:A.handled=none) (e0:D7 P w K mg base A outer s H) (hl:vs.length=ps.length) (r:Vals vs us)
    (x:InCallC s s.heap.objs.size (bindL (envOfC qual scope s.heap.objs.size f cd).kindOf (ps.zip us) fun _=>none) (cellsFrom (s.heap.objs.size+1) scope.names []) (bindC (envOfC qual scope s.heap.objs.size f cd).kindOf (ps.zip us) fun _=>none) s1):
    Inv (xF CX P w K mg base N qual scope f cd A outer s H E) [] (start N vs) H s1:=by
  have hpl:ps.length<=N.length:=by have:=congrArg List.length S.pre;rw[List.length_take] at this;omega
  obtain⟨h1,tk,rfl,hk⟩:=x.done
  have Kz:∀b:Addr,b∉(xF CX P w K mg base N qual scope f cd A outer s H E).ex:=fun b z=>absurd (show b∈([]:List Addr) from z) (by simp)
  refine⟨⟨e0.mod,S.kind,rfl,rfl,Nat.le_refl _,fun y z c h1 h2=>?_,fun y hy=>?_,fun y c _ h=>?_,fun _=>hd,Around.frames_deeper e0.frames,.inr ⟨rfl,rfl⟩,fun b z=>absurd z (Kz b),e0.bs,e0.FU,fun b _ _=>Kz b,fun b z=>absurd z (Kz b),e0.qp,e0.Ju⟩,
    rfl,e0.bare,Un.kept hk,⟨_,x.toInCall.ns,fun i y v h1 h2 h3=>?_⟩,fun y c h=>⟨_,x.cell y c h⟩,e0.hok.fresh (Nat.le_refl _),fun y c h=>?_,fun p hp=>absurd (show p∈([]:List (Addr×Obj)) from hp) (by simp),e0.hok.kept hk,?_⟩
  . exact name_of_addr x.apart (PySem.mem_of_lookup h1) (PySem.mem_of_lookup h2)
  . have hy:scope.names.lookup y=some .cell\/scope.names.lookup y=some .free:=hy
    rcases hy with hy | hy
    . exact vF hy
    . exact absurd rfl (S.Hr _ (PySem.mem_of_lookup hy))
  . exact Nat.le_of_lt (x.above y c (PySem.mem_of_lookup h))
  . have hi:i < vs.length:=by
      unfold start at h2
      by_cases hi:i < vs.length
      . exact hi
      . rw[List.getElem?_append_right (by simpa using hi)] at h2
        rw[List.getElem?_replicate] at h2
        split at h2 <;> cases h2
    have ha:vs[i]? =some v:=by
      unfold start at h2
      rw[List.getElem?_append_left (by simpa using hi),List.getElem?_map] at h2
      cases e:vs[i]? with
      | none=>rw[e] at h2;cases h2
      | some a=>rw[e] at h2;cases h2;rfl
    obtain⟨u,hu,rv⟩:=r.get ha
    have hp:ps[i]? =some y:=by
      rw[<-S.pre,List.getElem?_take_of_lt (by omega)];exact h1
    have Rj:ps.Nodup:=by rw[<-S.pre];exact S.nd.sublist (List.take_sublist _ _)
    refine⟨u,rv,?_⟩
    rcases S.par y (List.mem_of_getElem? hp) with k | k
    . exact .inl ⟨k,tu Rj hp hu k⟩
    . obtain⟨c,e⟩:=vF (n:=s.heap.objs.size+1) k
      refine .inr ⟨.inl k,c,e,?_⟩
      have q:=x.cell y c e
      rw[tw Rj hp hu (by show scope.names.lookup y≠_;rw[k];decide)] at q
      exact q
  . exact e0.hok.fresh (Nat.le_of_lt (x.above y c (PySem.mem_of_lookup h)))
  . unfold start
    show _=N.length
    rw[List.length_append,List.length_map,List.length_replicate]
    omega
theorem KA {CX:Bj}{P:Program}{w:World}{K:PySem.W.Frag}{mg:Str->Option Value}{base:Heap}{k:Nat}{f:Addr}{name qual:Str}{params:Arguments}{body:List Stmt}{scope:Scope}{dV kV doc pm cdv ct oc:Value}{an od:Option Addr}
  {osl:Array (Option Value)}{N ps:List Str}{sp:Sp}(lk:K.lookup f=some ⟨oc,od,.func (PySem.W.fnOf name qual params body scope dV kV doc pm an cdv ct),osl⟩) (hcd:PySem.W.codeIn K cdv qual=true) (S:bX N ps scope)
  (len:∀vs H Q E,sp vs H Q E->vs.length=ps.length)
  (hbody:∀(A:Around) (outer:List Env) (s:Shared) (H:Hp) (vs:List V) (Q:VK) (E:XK),j6 k (A.deeper (envOfC qual scope s.heap.objs.size f cdv))->sp vs H Q E->
   ∃t,vD (xF CX P w K mg base N qual scope f cdv A outer s H E) body t/\t {nx:=fun _ H'=>Q .bM H',rt:=Q} (start N vs) H):
  cD P w K mg base CX (k+1) f (PySem.W.fnOf name qual params body scope dV kV doc pm an cdv ct) ps sp:=by
 refine⟨len,fun A outer s H args us vs Q E hr e0 hb r Gb=>?_⟩
 have hl:=len _ _ _ _ Gb
 have KX:K.In s.heap:=e0.mod.Nc.keeps fun b o e=>(e0.bs b o e).1
 have lim:s.heap.NoLimit:=e0.mod.nolimit.keeps fun b o e=>(e0.bs b o e).1
 have hkind:∀y∈ps.zip us,scope.names.lookup y.1=some .local\/(scope.names.lookup y.1=some .cell/\((cellsFrom (s.heap.objs.size+1) scope.names []).lookup y.1).isSome=true):=fun⟨n,v⟩ hy=>by
  rcases S.par n (List.of_mem_zip hy).1 with q | q
  ·exact .inl q
  ·exact .inr ⟨q,PySem.W.cellsFrom_some _ _ _ (.inl q)⟩
 refine codeAny_call_function hr.depth (KX _ _ lk) rfl S.co S.gen rfl (PySem.W.codeRec_of KX hcd) (hb _ _ _ _ ?_)
 refine wpAny_newFunctionEnv_cells S.kind hkind fun env he s1 x=>?_
 subst he
 refine⟨lim.keeps x.toInCall.keep,codeAny_func ?_⟩
 obtain⟨t,ht,hq⟩:=hbody A outer s H vs Q E (hr.deeper _) Gb
 have I:Inv (xF CX P w K mg base N qual scope f cdv A outer s H E) [] (start N vs) H s1:=Ag S hr.hd e0 hl r x
 refine wpAny_mono (ht [] s1 (start N vs) H _ I hq) (fun fl s' hs=>?_) fun e s' hs=>hs
 have fin:∀{σ':St}{H':Hp}{v:V}{u:Value},Inv (xF CX P w K mg base N qual scope f cdv A outer s H E) [] σ' H' s'->RelV v u->Q v H'->CE outer P w H s Q u s':=
  fun {σ' H' v u} J rv q=>⟨v,H',J.os,J.bare,J.base,J.hok,rv,q⟩
 cases fl with
 | ret u=>
  obtain⟨v,σ',H',J,rv,q⟩:=hs
  exact fin J rv q
 | next=>
  obtain⟨σ',H',J,q⟩:=hs
  exact fin (v:=V.bM) (u:=Value.none) J rfl q
 | brk=>
  obtain⟨_,_,_,q⟩:=hs
  exact False.elim q
 | cont=>
  obtain⟨_,_,_,q⟩:=hs
  exact False.elim q
section
variable {X:Cx}{x:Str}{p pos:Pos}{e:Expr}{es:List Expr}{t:TA}{id T:String}{r:List V->Hp->VK->Prop}
noncomputable def Rk (r:List V->Hp->VK->Prop) (t:TA):TE:=fun σ H Q=>t σ H fun vs H1=>r vs H1 Q
theorem j7 (hc:gq X (.builtin id) r) (hg:Gl X x) (hm:X.mg x=none) (hv:bootBuiltins x=some (.builtin id)) (ha:PA X (e :: es) t) (hn:x≠"__name__":=by decide) (hdb:(x == ("__debug__":Str))=false:=by decide)
  (he:starEach (e :: es) X.env=(false,eval e X.env) :: starEach es X.env:=by rfl) (hpl:(backTo pos (starEach es X.env)).any (·.1)=false:=by rfl):PE X (.Call (.Name x p) (e :: es) [] pos) (Rk r t):=by
 intro pins s σ H Q I h
 refine wpAny_Call_Name_kw (jg I hg hm hv ?_ hn hdb)
 exact PyProof.Rows.callWith_builtin1 (gg (ha pos pins s σ H _ I h) fun us s1 ⟨vs,H1,I1,r1,q1⟩=>hc pins s1 σ H1 vs us Q I1 r1 q1) he hpl
theorem Ah (hc:gq X (.type T) r) (hg:Gl X x) (hm:X.mg x=none) (hv:bootBuiltins x=some (.type T)) (ha:PA X (e :: es) t) (hn:x≠"__name__":=by decide) (hdb:(x == ("__debug__":Str))=false:=by decide)
  (he:starEach (e :: es) X.env=(false,eval e X.env) :: starEach es X.env:=by rfl) (hpl:(backTo pos (starEach es X.env)).any (·.1)=false:=by rfl):PE X (.Call (.Name x p) (e :: es) [] pos) (Rk r t):=by
 intro pins s σ H Q I h
 refine wpAny_Call_Name_kw (jg I hg hm hv ?_ hn hdb)
 exact PyProof.Rows.callWith_type1 (gg (ha pos pins s σ H _ I h) fun us s1 ⟨vs,H1,I1,r1,q1⟩=>hc pins s1 σ H1 vs us Q I1 r1 q1) he hpl
end
section
variable {κ:Type} [DecidableEq κ]
noncomputable def kZ (kvs:List (κ×V)) (k:κ):Option V:=(kvs.find? fun kv=>decide (kv.1=k)).map (·.2)
noncomputable def putK (kvs:List (κ×V)) (k:κ) (v:V):List (κ×V):=
 if(kvs.any fun kv=>decide (kv.1=k))=true then kvs.map (fun kv=>if kv.1=k then(kv.1,v) else kv) else kvs++[(k,v)]
noncomputable def Gd (kvs:List (κ×V)) (k:κ):List (κ×V):=kvs.filter fun kv=>decide (kv.1≠k)
theorem nH {p:κ×V}{r:List (κ×V)}{k:κ}(e:p.1=k):kZ (p :: r) k=some p.2:=by simp[kZ,List.find?_cons,e]
theorem lg {p:κ×V}{r:List (κ×V)}{k:κ}(e:¬p.1=k):kZ (p :: r) k=kZ r k:=by simp[kZ,List.find?_cons,e]
theorem vG (k:κ):∀kvs:List (κ×V),(kvs.any fun kv=>decide (kv.1=k))=(kZ kvs k).isSome
 | []=>rfl
 | p :: r=>by
  rw[List.any_cons]
  by_cases e:p.1=k
  ·simp only[nH e,decide_eq_true e,Bool.true_or,Option.isSome_some]
  ·rw[lg e,decide_eq_false e,Bool.false_or];exact vG k r
theorem jL (kvs:List (κ×V)) (k:κ) (v:V):(putK kvs k v).length<=kvs.length+1:=by
 unfold putK
 split
 ·rw[List.length_map];omega
 ·rw[List.length_append,List.length_cons,List.length_nil];omega
theorem mC.oO {o:Option V}{u:Option Value}(r:mC o u):o.isSome=u.isSome:=by
 cases o with
 | none=>cases u with
  | none=>rfl
  | some _=>exact(show False from r).elim
 | some _=>cases u with
  | none=>exact(show False from r).elim
  | some _=>rfl
theorem KV.val {kvs:List (κ×V)}{vs:List (κ×Value)}(r:KV kvs vs) (k:κ):mC (kZ kvs k) (valueAt vs k):=by
 unfold KV at r
 induction r with
 | nil=>exact True.intro
 | @cons p q ps qs h t ih=>
  obtain⟨h1,h2⟩:=h
  by_cases e:p.1=k
  ·have e':q.1=k:=h1.symm.trans e
   have b:valueAt (q :: qs) k=some q.2:=by simp[valueAt,List.find?_cons,e']
   rw[nH e,b];exact h2
  ·have e':¬q.1=k:=fun z=>e (h1.trans z)
   have b:valueAt (q :: qs) k=valueAt qs k:=by simp[valueAt,List.find?_cons,e']
   rw[lg e,b];exact ih
theorem KV.any {kvs:List (κ×V)}{vs:List (κ×Value)}(r:KV kvs vs) (k:κ):(kvs.any fun kv=>decide (kv.1=k))=vs.any fun kv=>decide (kv.1=k):=by
 unfold KV at r
 induction r with
 | nil=>rfl
 | cons h t ih=>rw[List.any_cons,List.any_cons,ih,h.1]
theorem KV.repl {kvs:List (κ×V)}{vs:List (κ×Value)}(r:KV kvs vs) (k:κ){y:V}{u:Value}(ry:RelV y u):
  KV (kvs.map fun kv=>if kv.1=k then(kv.1,y) else kv) (vs.map fun kv=>if kv.1=k then(kv.1,u) else kv):=by
 unfold KV at r ⊢
 induction r with
 | nil=>exact .nil
 | @cons p q ps qs h t ih=>
  rw[List.map_cons,List.map_cons]
  refine .cons ?_ ih
  obtain⟨h1,h2⟩:=h
  by_cases e:p.1=k
  ·rw[if_pos e,if_pos (h1.symm.trans e)];exact⟨h1,ry⟩
  ·rw[if_neg e,if_neg (fun z=>e (h1.trans z))];exact⟨h1,h2⟩
theorem KV.put {kvs:List (κ×V)}{vs:List (κ×Value)}(r:KV kvs vs) (k:κ){y:V}{u:Value}(ry:RelV y u):KV (putK kvs k y) (stored vs k u):=by
 unfold putK stored
 rw[r.any k]
 by_cases e:(vs.any fun kv=>decide (kv.1=k))=true
 ·rw[if_pos e,if_pos e];exact r.repl k ry
 ·rw[if_neg e,if_neg e];exact Paired.snoc r ⟨rfl,ry⟩
theorem KV.drop {kvs:List (κ×V)}{vs:List (κ×Value)}(r:KV kvs vs) (k:κ):KV (Gd kvs k) (without vs k):=by
 unfold KV at r ⊢
 unfold Gd without
 induction r with
 | nil=>exact .nil
 | @cons p q ps qs h t ih=>
  obtain⟨h1,h2⟩:=h
  rw[List.filter_cons,List.filter_cons]
  by_cases e:p.1=k
  ·have a:¬decide (p.1≠k)=true:=by simp[e]
   have b:¬decide (q.1≠k)=true:=by simp[h1.symm.trans e]
   rw[if_neg a,if_neg b];exact ih
  ·have e':¬q.1=k:=fun z=>e (h1.trans z)
   have a:decide (p.1≠k)=true:=by simp[e]
   have b:decide (q.1≠k)=true:=by simp[e']
   rw[if_pos a,if_pos b];exact .cons ⟨h1,h2⟩ ih
theorem KV.length {kvs:List (κ×V)}{vs:List (κ×Value)}(r:KV kvs vs):kvs.length=vs.length:=Paired.length r
end
theorem KC {P:Program}{w:World}{k:Key}{u:Value}(r:RelV (kV k) u):(iM P w).is k u=true:=by
 cases k with
 | inl i=>obtain⟨t,e⟩:=(show ∃t,u=Value.int i t from r);subst e;exact vA P w i t
 | inr x=>obtain⟨t,e⟩:=(show ∃t,u=Value.str x t from r);subst e;exact vB P w x t
theorem Hs {a b:Key}(e:kV a=kV b):a=b:=by
 cases a with
 | inl i=>cases b with
  | inl j=>have e':V.int i=V.int j:=e;injection e' with e';rw[e']
  | inr y=>exact nomatch (show V.int i=V.str y from e)
 | inr x=>cases b with
  | inl j=>exact nomatch (show V.str x=V.int j from e)
  | inr y=>have e':V.str x=V.str y:=e;injection e' with e';rw[e']
noncomputable abbrev KT (H:Hp):List (D×V)->List (D×Addr×Value)->Prop:=Paired fun p q=>p.1=q.1/\Kd H q.2.1 p.1/\RelV p.2 q.2.2
theorem KT.val {H:Hp}{kvs:List (D×V)}{xs:List (D×Addr×Value)}(r:KT H kvs xs) (k:D):mC (kZ kvs k) ((atKey xs k).map (·.2)):=by
 induction r with
 | nil=>exact True.intro
 | @cons p q ps qs h t ih=>
  obtain⟨h1,_,h2⟩:=h
  by_cases e:p.1=k
  ·have e':q.1=k:=h1.symm.trans e
   have b:atKey (q :: qs) k=some q.2:=by simp[atKey,List.find?_cons,e']
   rw[nH e,b];exact h2
  ·have e':¬q.1=k:=fun z=>e (h1.trans z)
   have b:atKey (q :: qs) k=atKey qs k:=by simp[atKey,List.find?_cons,e']
   rw[lg e,b];exact ih
theorem KT.repl {H:Hp}{kvs:List (D×V)}{xs:List (D×Addr×Value)}(r:KT H kvs xs) (k:D){y:V}{u:Value}(ry:RelV y u):
  KT H (kvs.map fun kv=>if kv.1=k then(kv.1,y) else kv) (xs.map (putAt k u)):=by
 induction r with
 | nil=>exact .nil
 | @cons p q ps qs h t ih=>
  rw[List.map_cons,List.map_cons]
  refine .cons ?_ ih
  obtain⟨h1,h2,h3⟩:=h
  unfold putAt
  by_cases e:p.1=k
  ·rw[if_pos e,if_pos (h1.symm.trans e)];exact⟨h1,h2,ry⟩
  ·rw[if_neg e,if_neg (fun z=>e (h1.trans z))];exact⟨h1,h2,h3⟩
theorem KT.put {H:Hp}{kvs:List (D×V)}{xs:List (D×Addr×Value)}(r:KT H kvs xs) (k:D){b:Addr}{y:V}{u:Value}(hb:Kd H b k) (ry:RelV y u):
  KT H (putK kvs k y) (storedH xs k b u):=by
 have e:(kvs.any fun kv=>decide (kv.1=k))=(atKey xs k).isSome:=by
  rw[vG,(r.val k).oO,Option.isSome_map]
 unfold putK storedH
 rw[e]
 by_cases q:(atKey xs k).isSome=true
 ·rw[if_pos q,if_pos q];exact r.repl k ry
 ·rw[if_neg q,if_neg q];exact Paired.snoc r ⟨rfl,hb,ry⟩
theorem KT.keeps {H H':Hp}{kvs:List (D×V)}{xs:List (D×Addr×Value)}(r:KT H kvs xs) (ht:∀b ys,H b=some (.tup ys)->H' b=some (.tup ys)):KT H' kvs xs:=
 Paired.Aa r fun _ _ z=>⟨z.1,z.2.1.tups ht,z.2.2⟩
section
variable {P:Program}{w:World}{H:Hp}{h:Heap}{a:Addr}
theorem Ge {u:HO}(ok:kU P w H h) (e:Rd H a u):cN P w H h a u:=e.ok ok
theorem qw {kvs:List (Key×V)}(ok:kU P w H h) (e:Rd H a (.dK kvs)):kvs.length<=sizeLine/\(a == sysModules)=false/\∃vs,KV kvs vs/\h.DictOf (iM P w) a vs:=
 show cN P w H h a (.dK kvs) from Ge ok e
theorem Gf {kvs:List (Key×V)}(ok:kU P w H h) (e:H a=some (.dK kvs)):kvs.length<=sizeLine/\(a == sysModules)=false/\∃vs,KV kvs vs/\h.DictOf (iM P w) a vs:=qw ok (.inl e)
mutual
theorem BK (ok : kU P w H h) : ∀ (d : D) {n : Nat} {v : V} {u : Value}, Rep H v d -> RelV v u -> d7 n d = true -> rQ h u (nf d)
  | .bM,n,_,_,_,_,k=>by simp[d7] at k
  | .lst _,n,_,_,_,_,k=>by simp[d7] at k
  | .bl b,n,_,_,r,q,k=>by cases r;cases q;exact .bool b
  | .int i,n,_,_,r,q,k=>by cases r;obtain⟨t,rfl⟩:=q;exact .int i t
  | .str i,n,_,_,r,q,k=>by cases r;obtain⟨t,rfl⟩:=q;exact .str i t
  | .tup ds,n,_,_,r,q,k=>by
    cases n with
    | zero=>simp[d7] at k
    | succ n=>
      cases r with
      | @tup a vs _ e rs=>
        cases q
        obtain⟨_,its,rv,o,h1,h2,m,h3⟩:=(show cN P w H h a (.tup vs) from ok a _ e)
        exact .tup ⟨o,h1,h2,m,h3⟩ (yW ok ds rs rv k)
theorem yW (ok:kU P w H h):∀(ds:List D){n:Nat}{vs:List V}{us:List Value},aR H vs ds->Vals vs us->ds.all (d7 n)=true->jF h us (FQ ds)
  | [],n,_,_,r,q,k=>by cases r;cases q;exact .nil
  | d :: ds, n, _, _, r, q, k => by
    rw[List.all_cons,Bool.and_eq_true] at k
    cases r with
    | cons r1 r2=>
      cases q with
      | cons q1 q2=>exact .cons (BK ok d r1 q1 k.1) (yW ok ds r2 q2 k.2)
end
theorem lq {ks:D}(ok:kU P w H h) (e:Kd H a ks):(iP P w).is h ks a:=by
 obtain⟨d,r,hk,rfl⟩:=e
 exact⟨BK ok d r rfl hk,yR d 8 hk⟩
theorem tF {kvs : List (D × V)} (ok : kU P w H h) (e : Rd H a (.dT kvs)) : kvs.length <= sizeLine /\ (a == sysModules) = false /\
    ∃xs,KT H kvs xs/\h.DictOfH (iP P w) a xs:=by
  obtain⟨z,y,xs,r,o,es,ep,h1,h2,h3,h4,h5⟩:=(show cN P w H h a (.dT kvs) from Ge ok e)
  refine⟨z,y,xs,r,o,es,ep,h1,h2,h3,h4,fun x hx=>?_,h5⟩
  have all:∀{l:List (D×V)}{m:List (D×Addr×Value)},KT H l m->∀x∈m,(iP P w).is h x.1 x.2.1:=by
    intro l m q
    induction q with
    | nil=>intro x hx;exact nomatch hx
    | @cons p q ps qs hq t ih=>
      intro x hx
      rcases List.mem_cons.mp hx with e | hx
      . subst e
        exact lq ok (by rw[<-hq.1];exact hq.2.1)
      . exact ih x hx
  exact all r x hx
theorem BL {kvs:List (D×V)}(ok:kU P w H h) (e:H a=some (.dT kvs)):kvs.length<=sizeLine/\(a == sysModules)=false/\
  ∃xs,KT H kvs xs/\h.DictOfH (iP P w) a xs:=tF ok (.inl e)
end
noncomputable def D9 (y:V) (k:Key):Prop:=y=kV k\/∃b,y= .bl b/\k= .inl (bI b)
theorem D9.is {P:Program}{w:World}{y:V}{k:Key}{u:Value}(e:D9 y k) (r:RelV y u):(iM P w).is k u=true:=by
 rcases e with rfl | ⟨b,rfl,rfl⟩
 ·exact KC r
 ·cases r;exact decide_eq_true rfl
noncomputable def jh (H:Hp) (a:Addr) (y:V) (r:Option V):Prop:=
 (∃kvs k,Rd H a (.dK kvs)/\D9 y k/\r=kZ kvs k)\/∃kvs k b,Rd H a (.dT kvs)/\y= .ref b/\Kd H b k/\r=kZ kvs k
noncomputable def qx (H:Hp) (a:Addr) (y v:V) (H':Hp):Prop:=
 (∃kvs k,H a=some (.dK kvs)/\D9 y k/\kvs.length < sizeLine/\H'=upd H a (.dK (putK kvs k v)))\/
 ∃kvs k b,H a=some (.dT kvs)/\y= .ref b/\Kd H b k/\kvs.length < sizeLine/\H'=upd H a (.dT (putK kvs k v))
theorem jh.t {H:Hp}{a b:Addr}{kvs:List (D×V)}{k:D}(e:H a=some (.dT kvs)) (eb:Kd H b k):jh H a (.ref b) (kZ kvs k):=.inr ⟨kvs,k,b,.inl e,rfl,eb,rfl⟩
theorem qx.t {H:Hp}{a b:Addr}{kvs:List (D×V)}{k:D}{v:V}(e:H a=some (.dT kvs)) (eb:Kd H b k) (hl:kvs.length < sizeLine):
  qx H a (.ref b) v (upd H a (.dT (putK kvs k v))):=.inr ⟨kvs,k,b,e,rfl,eb,hl,rfl⟩
section
variable {X:Cx}{pins:List (Addr×Obj)}{σ:St}{H:Hp}{s:Shared}{a:Addr}{y v:V}{u r:Value}{o:Option V}{A:Around}{E:Value->Shared->Prop}
theorem Inv.big (I:Inv X pins σ H s):sysModules < s.heap.objs.size:=by
 have h:mainGlobals < s.heap.objs.size:=(I.mod.glob.keeps I.bk).lt
 exact Nat.lt_trans (by decide) h
theorem Ai {Q:Value->Shared->Prop}(hu:A.units+20 < cLine) (I:Inv X pins σ H s) (g:jh H a y (some v)) (ry:RelV y u) (h:∀w' s',Inv X pins σ H s'->RelV v w'->Q w' s'):
  wpAny (model X.prog X.w) A (getItem (.ref a) u) Q E s:=by
 rcases g with⟨kvs,k,e,ey,l⟩ | ⟨kvs,k,b,e,ey,eb,l⟩
 ·obtain⟨z,hd,vs,rel,dd⟩:=qw I.hok e
  obtain⟨w',hw,rw'⟩:=mC.some_of (v:=v) (o:=valueAt vs k) (by rw[l];exact rel.val k)
  exact wpAny_getItem_of (ey.is ry) dd.mapOf hw (h w' _ (I.tok _) rw')
 ·subst ey
  cases(show u=Value.ref b from ry)
  obtain⟨z,hd,xs,rel,dd⟩:=tF I.hok e
  obtain⟨w',hw,rw'⟩:=mC.some_of (v:=v) (o:=(atKey xs k).map (·.2)) (by rw[l];exact rel.val k)
  obtain⟨p,hp,hp2⟩:=Option.map_eq_some_iff.mp hw
  refine wpAny_getItem_heap (gn hu) (lq I.hok eb) dd hp ?_
  rw[hp2]
  exact h w' _ (I.tok _) rw'
theorem Ea {Q:Value->Shared->Prop}(hu:A.units+20 < cLine) (I:Inv X pins σ H s) (g:jh H a y o) (ry:RelV y u) (h:∀s',Inv X pins σ H s'->Q (.bool (!o.isSome)) s'):
  wpAny (model X.prog X.w) A (compareOp .NotIn u (.ref a)) Q E s:=by
 rcases g with⟨kvs,k,e,ey,l⟩ | ⟨kvs,k,b,e,ey,eb,l⟩
 ·obtain⟨z,hd,vs,rel,dd⟩:=qw I.hok e
  refine wpAny_notIn_of (ey.is ry) hd dd.mapOf ?_
  rw[<-(rel.val k).oO,<-l]
  exact h _ (I.tok _)
 ·subst ey
  cases(show u=Value.ref b from ry)
  obtain⟨z,hd,xs,rel,dd⟩:=tF I.hok e
  refine wpAny_notIn_heap (gn hu) (lq I.hok eb) hd dd ?_
  have q:=(rel.val k).oO
  rw[Option.isSome_map] at q
  rw[<-q,<-l]
  exact h _ (I.tok _)
theorem qd {h':Heap}{t':Nat}{ob:HO}(I:Inv X pins σ H s) (mu:J0 (H a)) (hs:Heap.SameBut a s.heap h') (he:∃q,h'.get? a=some q) (new:cN X.prog X.w (upd H a ob) h' a ob):
  Inv X pins σ (upd H a ob) {s with heap:=h',toks:=t'}:=
 I.write (x:=a) (e:=a) mu (.inl rfl) (fun b q hb z=>(hs.2 b hb).trans z) he new
theorem BN {P:Program}{w:World}{H':Hp}{h':Heap}{kvs:List (Key×V)}{vs:List (Key×Value)}(z:kvs.length<=sizeLine) (hd:(a == sysModules)=false) (rel:KV kvs vs) (dd:h'.DictOf (iM P w) a vs):
  cN P w H' h' a (.dK kvs):=⟨z,hd,vs,rel,dd⟩
theorem Aj {H':Hp}{Q:Unit->Shared->Prop}(hu:A.units+20 < cLine) (I:Inv X pins σ H s) (g:qx H a y v H') (ry:RelV y u) (rv:RelV v r) (h:∀s',Inv X pins σ H' s'->Q () s'):
  wpAny (model X.prog X.w) A (setItem (.ref a) u r) Q E s:=by
 rcases g with⟨kvs,k,e,ey,l,eH⟩ | ⟨kvs,k,b,e,ey,eb,l,eH⟩
 ·subst eH
  obtain⟨z,hd,vs,rel,dd⟩:=Gf I.hok e
  have hz:vs.length<=sizeLine:=by rw[<-rel.length];exact z
  have hl:(putK kvs k v).length<=sizeLine:=by have:=jL kvs k v;omega
  refine wpAny_setItem_pairs (hsz:=hz) (ey.is ry) dd fun h' Eb hs=>h _ ?_
  have he:∃q,h'.get? a=some q:=let⟨q,_,_,hq,_⟩:=Eb;⟨q,hq⟩
  exact qd I (by rw[e];exact True.intro) hs he (BN hl hd (rel.put k rv) Eb)
 ·subst ey eH
  cases(show u=Value.ref b from ry)
  obtain⟨z,hd,xs,rel,dd⟩:=BL I.hok e
  have hz:xs.length<=sizeLine:=by rw[<-Paired.length rel];exact z
  have hl:(putK kvs k v).length<=sizeLine:=by have:=jL kvs k v;omega
  refine wpAny_setItem_heap (hsz:=hz) (gn hu) (lq I.hok eb) dd fun h' Eb hs=>h _ ?_
  obtain⟨q,es,ep,hq,h2,h3,h4,_,h5⟩:=Eb
  refine qd I (by rw[e];exact True.intro) hs ⟨q,hq⟩ ⟨hl,hd,_,(rel.put k eb rv).keeps fun c ys ec=>?_,q,es,ep,hq,h2,h3,h4,h5⟩
  rw[aJ (FT ec e (fun z=>nomatch z))]
  exact ec
end
section
variable {X:Cx}{pins:List (Addr×Obj)}{σ:St}{H:Hp}{s:Shared}{a:Addr}{kvs:List (Key×V)}{k:Key}{u:Value}{A:Around}{E:Value->Shared->Prop}
theorem KD {Q:Value->Shared->Prop}(I:Inv X pins σ H s) (e:Rd H a (.dK kvs)) (h:∀t s',Inv X pins σ H s'->Q (.int kvs.length t) s'):wpAny (model X.prog X.w) A (call (.builtin "len") [.ref a]) Q E s:=by
 obtain⟨z,hd,vs,rel,dd⟩:=qw I.hok e
 refine call_len_dict hd dd (by rw[<-rel.length];rw[sizeLine_eq] at z;omega) ?_
 rw[<-rel.length]
 exact h _ _ (I.tok _)
end
noncomputable def KG (i:Expr):Prop:=∀ov iv,subscripted i false ov iv=operate [ov,iv] (getItem ov iv)
theorem Ec {prog:Program}{w:World}{A:Around}{E:Value->Shared->Prop}{s:Shared}{env:Env}{value slice:Expr}{pos:Pos}{T id:String}{Q:Value->Shared->Prop}
  (hl:typeLookup (.type T) "__getitem__" =pure (some (.builtin id))) (hs:KG slice)
  (h:wpAny (model prog w) A (eval value env) (fun o s₁=>wpAny (model prog w) A (eval slice env) (fun i s₂=>s₂.TypeIs o T/\wpAny (model prog w) A (getItem o i) Q E s₂) E s₁) E s):
  wpAny (model prog w) A (eval (.Subscript value slice pos) env) Q E s:=by
 refine Subscript_ (wpAny_mono h (fun o s₁ h₁=>wpAny_mono h₁ (fun i s₂ h₂=>?_) fun _ _ x=>x) fun _ _ x=>x)
 obtain⟨hT,h₂⟩:=h₂
 unfold subscriptTail
 refine wpAny_bind ?_
 rw[getitemInPython_of_ne hT.not_modules]
 refine wpAny_bind (wpAny_specialOf hT hl ?_)
 have fin:wpAny (model prog w) A (subscripted slice false o i) (fun r s₃=>wpAny (model prog w) A (letTemporaryGo value o r >>= fun _=>pure r) Q E s₃) E s₂:=by
  rw[hs o i]
  exact wpAny_operating (wpAny_mono h₂ (fun r s₃ h₃=>wpAny_bind (wpAny_letTemporaryGo (wpAny_pure h₃))) fun _ _ x=>x)
 first
  | exact wpAny_pure (wpAny_bind fin)
  | exact wpAny_bind (wpAny_pure (wpAny_bind fin))
  | exact wpAny_bind fin
theorem vH {X:Cx}{pins:List (Addr×Obj)}{σ:St}{H:Hp}{s:Shared}{a:Addr}{y:V}{o:Option V}(I:Inv X pins σ H s) (g:jh H a y o):s.TypeIs (.ref a) "dict":=by
 rcases g with⟨kvs,k,e,_,_⟩ | ⟨kvs,k,b,e,_,_,_⟩
 ·obtain⟨_,_,vs,_,dd⟩:=qw I.hok e
  exact dd.typeIs
 ·obtain⟨_,_,xs,_,dd⟩:=tF I.hok e
  exact dd.typeIs
noncomputable def KH (td ty:TE):TE:=fun σ H Q=>td σ H fun x H1=>ty σ H1 fun y H2=>∃a v,x= .ref a/\jh H2 a y (some v)/\Q v H2
noncomputable def yX (ty td:TE):TE:=fun σ H Q=>ty σ H fun y H1=>td σ H1 fun x H2=>∃a o,x= .ref a/\jh H2 a y o/\Q (.bl (!o.isSome)) H2
noncomputable def KI (td ty tv:TE):TS:=fun D σ H=>tv σ H fun v H1=>td σ H1 fun x H2=>ty σ H2 fun y H3=>∃a H4,x= .ref a/\qx H3 a y v H4/\D.nx σ H4
section
variable {X:Cx}{o i e value:Expr}{pos pos' tpos:Pos}{td ty tv:TE}
theorem yY (hu:X.A.units+20 < cLine) (ho:PE X o td) (hi:PE X i ty) (hs:KG i):PE X (.Subscript o i pos) (KH td ty):=by
 intro pins s σ H Q I h
 refine Ec PySem.F.slot_dict_getitem.lookup hs (gg (ho pins s σ H _ I h) fun u s1 ⟨x,H1,I1,rx,q1⟩=>gg (hi pins s1 σ H1 _ I1 q1) fun iv s2 ⟨y,H2,I2,ry,a,v,ex,g,q2⟩=>?_)
 subst ex
 obtain rfl:u=Value.ref a:=rx
 exact⟨vH I2 g,Ai hu I2 g ry fun w' s3 I3 rw'=>⟨v,H2,I3,rw',q2⟩⟩
theorem Ak (hu:X.A.units+20 < cLine) (hi:PE X i ty) (ho:PE X o td):PC X .NotIn i o (yX ty td):=by
 intro pins s σ H Q I h
 refine gg (hi pins s σ H _ I h) fun iv s1 ⟨y,H1,I1,ry,q1⟩=>gg (ho pins s1 σ H1 _ I1 q1) fun u s2 ⟨x,H2,I2,rx,a,ov,ex,g,q2⟩=>?_
 subst ex
 obtain rfl:u=Value.ref a:=rx
 exact Ea hu I2 g ry fun s3 I3=>⟨.bl (!ov.isSome),H2,I3,rfl,q2⟩
theorem yZ (hu:X.A.units+20 < cLine) (ho:PE X o td) (hi:PE X i ty) (hv:PE X value tv) (hs:swapsWith value (some (.Subscript o i pos')) pos.line X.env=pure false):
  PS X (.Assign [.Subscript o i pos'] value pos) (KI td ty tv):=by
 intro pins s σ H D I h
 refine wpAny_Assign_Subscript (gg (hv pins s σ H _ I h) fun r s1 ⟨v,H1,I1,rv,q1⟩=>gg (ho pins s1 σ H1 _ I1 q1) fun u s2 ⟨x,H2,I2,rx,q2⟩=>gg (hi pins s2 σ H2 _ I2 q2) fun iv s3 ⟨y,H3,I3,ry,a,H4,ex,g,q3⟩=>?_) hs
 subst ex
 obtain rfl:u=Value.ref a:=rx
 exact Aj hu I3 g ry rv fun s4 I4=>⟨σ,H4,I4,q3⟩
end
theorem BO {P:Program}{w:World}{H:Hp}(h:Heap) (hb:sysModules < h.objs.size):cN P w H (h.push {cls:=.type "dict",data:=.dict #[]}) h.objs.size (.dK []):=
 ⟨Nat.zero_le _,beq_eq_false_iff_ne.mpr (Ne.symm (Nat.ne_of_lt hb)),[],.nil,Heap.DictOf.new h⟩
theorem BP {P:Program}{w:World}{H:Hp}(h:Heap) (hb:sysModules < h.objs.size):cN P w H (h.push {cls:=.type "dict",data:=.dict #[]}) h.objs.size (.dT []):=
 ⟨Nat.zero_le _,beq_eq_false_iff_ne.mpr (Ne.symm (Nat.ne_of_lt hb)),[],.nil,_,#[],0,Heap.get?_push_size _ rfl,⟨rfl,rfl,rfl⟩,rfl,rfl,List.nodup_nil⟩
noncomputable def Ht:TE:=fun _ H Q=>∀p,H p=none->Q (.ref p) (upd H p (.dK []))
noncomputable def Hu:TE:=fun _ H Q=>∀p,H p=none->Q (.ref p) (upd H p (.dT []))
section
variable {X:Cx}{pos:Pos}
theorem BQ:PE X (.Dict [] [] pos) Ht:=fun pins s σ H Q I h=>
 wpAny_Dict_empty ⟨.ref s.heap.objs.size,_,I.laid (a:=s.heap.objs.size) (o:=.dK []) (t':=s.toks) (fun _ _ q=>Heap.get?_push_of_some _ q) (Nat.le_refl _) (BO s.heap I.big),rfl,h _ (I.hok.fresh (Nat.le_refl _))⟩
theorem BR:PE X (.Dict [] [] pos) Hu:=fun pins s σ H Q I h=>
 wpAny_Dict_empty ⟨.ref s.heap.objs.size,_,I.laid (a:=s.heap.objs.size) (o:=.dT []) (t':=s.toks) (fun _ _ q=>Heap.get?_push_of_some _ q) (Nat.le_refl _) (BP s.heap I.big),rfl,h _ (I.hok.fresh (Nat.le_refl _))⟩
end
structure M2 (X:Cx) (o:Expr) (m:Str) (apos:Pos) (e f:Expr) (cpos:Pos):Prop where
 base:attributeBase o m X.env (eval o X.env)=eval o X.env
 few:((backTo cpos (starEach [e,f] X.env)).all (fun x=>!x.1) && (backToKw cpos (keywordEach [] X.env)).all (fun x=>x.1.isSome)
  && decide (([e,f]:List Expr).length+([]:List Keyword).length+(if([]:List Keyword).isEmpty then 0 else 1) < 30))=true
 line:(apos.endLine == cpos.line)=true
 trees:backTo cpos (starEach [e,f] X.env)=[(false,eval e X.env),(false,eval f X.env)]
noncomputable def NG (H:Hp) (a:Addr):Prop:=(∃kvs,Rd H a (.dK kvs))\/∃kvs,Rd H a (.dT kvs)
theorem Hv {X:Cx}{pins:List (Addr×Obj)}{σ:St}{H:Hp}{s:Shared}{a:Addr}(I:Inv X pins σ H s) (d:NG H a):
  s.TypeIs (.ref a) "dict"/\(∀b,Value.ref a= .ref b->∃ob,s.heap.get? b=some ob/\ob.dict=none)/\(a == sysModules)=false:=by
 rcases d with⟨kvs,e⟩ | ⟨kvs,e⟩
 ·obtain⟨_,hd,vs,_,dd⟩:=qw I.hok e
  refine⟨dd.typeIs,fun b q=>?_,hd⟩
  cases q
  obtain⟨ob,_,_,h1,h2,_⟩:=dd
  exact⟨ob,h1,h2.2.1⟩
 ·obtain⟨_,hd,xs,_,dd⟩:=tF I.hok e
  refine⟨dd.typeIs,fun b q=>?_,hd⟩
  cases q
  obtain⟨ob,_,_,h1,h2,_⟩:=dd
  exact⟨ob,h1,h2.2.1⟩
section
variable {X:Cx}{pins:List (Addr×Obj)}{σ:St}{H:Hp}{s:Shared}{a:Addr}{y d:V}{u r:Value}{o:Option V}{A:Around}{E:Value->Shared->Prop}
end
section
variable {X:Cx}{o e f:Expr}{apos cpos:Pos}{td ty tx:TE}
end
section
variable {X:Cx}{pins:List (Addr×Obj)}{σ:St}{H:Hp}{s:Shared}{a:Addr}{kvs:List (Key×V)}{A:Around}{E:Value->Shared->Prop}
end
section
variable {X:Cx}{pins:List (Addr×Obj)}{σ:St}{H:Hp}{s:Shared}{a:Addr}{y:V}{u:Value}{A:Around}{E:Value->Shared->Prop}
end
end L2
namespace HT
open PySem PyProof.Rows
section
open PySem.SeqAt
open PySem.AutoSeq1 (wpAny_loadPart')
open PySem.MeetsSeq PySem.MeetsSeq2 PySem.MeetsSeq3
end
section
variable {prog:Program}{w:World}{A:Around}{E:Value->Shared->Prop}{s:Shared}
theorem Ed {t b:Addr}{vs ws:List Value}{Q:Value->Shared->Prop}(ht:IsTup s.heap t vs.toArray) (hb:IsTup s.heap b ws.toArray) (hv:vs≠[])
  (h1:ws=[]->Q (.ref t) s) (h2:ws≠[]->Q (.ref s.heap.objs.size) {s with heap:=s.heap.push {cls:=.type "tuple",data:=.seq (vs++ws).toArray}})
  (hsz:vs.length+ws.length<=sizeLine):wpAny (model prog w) A (binaryOp .Add (.ref t) (.ref b)) Q E s:=by
 obtain⟨⟨cls,dd,data,sl⟩,ho,hc,n,hd⟩:=id ht
 obtain⟨⟨NH,dd2,data2,sl2⟩,ho2,hc2,n2,hd2⟩:=id hb
 simp only at hc hd hc2 hd2
 subst hc hd hc2 hd2
 have e:vs.toArray++ws.toArray=(vs++ws).toArray:=by simp
 by_cases hw:ws=[]
 ·exact concat_meets ⟨_,ho,rfl⟩ ⟨_,ho2,rfl⟩ noFill_tuple_add seq_tuple_add PySem.F.slot_tuple_add PySem.F.entry_tuple_add (PySem.F.args_tuple_add_2 _ _)
   (tuple_addW1 t b vs.toArray ws.toArray n n2 dd dd2 sl sl2 (by simpa using hv) (by simp[hw])) ⟨ho,ho2,h1 hw⟩
 ·refine concat_meets ⟨_,ho,rfl⟩ ⟨_,ho2,rfl⟩ noFill_tuple_add seq_tuple_add PySem.F.slot_tuple_add PySem.F.entry_tuple_add (PySem.F.args_tuple_add_2 _ _)
   (tuple_addW2 t b vs.toArray ws.toArray n n2 dd dd2 sl sl2 (by simpa using hv) (by simpa using hw) (by rw[List.size_toArray,List.size_toArray];exact hsz)) ⟨ho,ho2,?_⟩
  rw[e]
  exact h2 hw
noncomputable def xG (n d:Nat):Option Int->Nat
 | none=>d
 | some v=>if v < 0 then(v+(n:Int)).toNat else min v.toNat n
end
end HT
namespace L2
open PySem PySem.Spec PyProof.Rows
noncomputable abbrev TO:=St->Hp->(Option Int->Hp->Prop)->Prop
theorem intsAre_of {ns:List Int}:∀{us:List Value},Vals (ns.map V.int) us->IntsAre us ns:=by
 induction ns with
 | nil=>intro us r;rw[List.map_nil] at r;cases r;exact .nil
 | cons n ns ih=>
  intro us r
  rw[List.map_cons] at r
  cases r with
  | cons r1 r2=>
   obtain⟨t,e⟩:=r1
   subst e
   exact .cons n t (ih r2)
section
variable {X:Cx}{e:Expr}{te:TE}{lo hi:Option Expr}{tl th:TO}{pos p2:Pos}
noncomputable def SK (X:Cx) (r:V->Option Int->Option Int->Hp->VK->Prop):Prop:=
 ∀(pins:List (Addr×Obj)) (s:Shared) (σ:St) (H:Hp) (x:V) (v vl vu:Value) (lo hi:Option Int) (sl:Addr) (Q:VK),Inv X pins σ H s->RelV x v->s.heap.IsSliceOf sl vl vu .none->IsPart vl lo->IsPart vu hi->r x lo hi H Q->
  ∃T id,typeLookup (.type T) "__getitem__" =pure (some (.builtin id))/\s.TypeIs v T/\wpAny (model X.prog X.w) X.A (getItem v (.ref sl)) (EP X pins σ Q) X.xe s
noncomputable def Ef (xs:List V) (lo hi:Option Int):List V:=(xs.drop (HT.xG xs.length 0 lo)).take (HT.xG xs.length xs.length hi - HT.xG xs.length 0 lo)
theorem vI (xs:List V) (lo hi:Option Int):(Ef xs lo hi).length<=xs.length:=by
 unfold Ef
 rw[List.length_take,List.length_drop]
 omega
noncomputable def KJ (K:PySem.W.Frag):R2:=fun x y H Q=>∃a b xs ys,x= .ref a/\y= .ref b/\vp K H a xs/\vp K H b ys/\xs≠[]/\xs.length+ys.length<=sizeLine/\
 (ys=[]->Q (.ref a) H)/\(ys≠[]->∀p,H p=none->Q (.ref p) (upd H p (.tup (xs++ys))))
theorem Vals.uC {xs:List V}{us:List Value}(r:Vals xs us):us=[]↔xs=[]:=by
 cases r with
 | nil=>simp
 | cons _ _=>simp
theorem Eg:qu X (binaryOp .Add) (KJ X.K):=by
 intro pins s σ H x y v u Q I rx ry h
 obtain⟨a,b,xs,ys,rfl,rfl,ha,hb,hx,hz,q1,q2⟩:=h
 cases rx
 cases ry
 obtain⟨its,r1,p1,_⟩:=I.tuple ha
 obtain⟨its2,r2,p2,_⟩:=I.tuple hb
 refine HT.Ed p1 p2 (fun z=>hx (r1.uC.mp z)) (fun z=>⟨.ref a,H,I,rfl,q1 (r2.uC.mp z)⟩) (fun z=>?_) (by rw[<-r1.length,<-r2.length];exact hz)
 refine⟨.ref s.heap.objs.size,_,I.laid (t':=s.toks) (o:=.tup (xs++ys)) (fun b ob q=>Heap.get?_push_of_some _ q) (Nat.le_refl _) ?_,rfl,q2 (fun w=>z (r2.uC.mpr w)) _ (I.hok.fresh (Nat.le_refl _))⟩
 exact⟨by rw[List.length_append];exact hz,_,r1.append r2,IsTup.new _ _⟩
end
noncomputable def BS (n:Nat) (i:Int):Option Nat:=if 0<=i then(if i < n then some i.toNat else none) else if -(n:Int)<=i then some (i+n).toNat else none
noncomputable def dj {α:Type}(xs:List α) (i:Int):Option α:=(BS xs.length i).bind fun j=>xs[j]?
theorem za {n:Nat}{i:Int}{j:Nat}(h:BS n i=some j):seqIndex? i n=some j/\j < n/\-(n:Int)<=i/\i < n:=by
 unfold BS at h
 by_cases h0:0<=i
 ·rw[if_pos h0] at h
  by_cases h1:i < n
  ·rw[if_pos h1] at h
   have e:i.toNat=j:=Option.some.inj h
   exact⟨by rw[seqIndex_of h0 h1,e],by omega,by omega,h1⟩
  ·rw[if_neg h1] at h;cases h
 ·rw[if_neg h0] at h
  by_cases h1:-(n:Int)<=i
  ·rw[if_pos h1] at h
   have e:(i+n).toNat=j:=Option.some.inj h
   exact⟨by rw[seqIndex_neg (by omega) h1,e],by omega,h1,by omega⟩
  ·rw[if_neg h1] at h;cases h
theorem uD {α:Type}{xs:List α}{i:Int}{v:α}(h:dj xs i=some v):∃j,seqIndex? i xs.length=some j/\xs[j]? =some v/\j < xs.length/\-(xs.length:Int)<=i/\i < xs.length:=by
 unfold dj at h
 cases e:BS xs.length i with
 | none=>rw[e] at h;cases h
 | some j=>
  rw[e] at h
  obtain⟨h1,h2,h3,h4⟩:=za e
  exact⟨j,h1,h,h2,h3,h4⟩
noncomputable def uE (b:Expr):Prop:=∀o i,subscripted b false o i=operate [o,i] (getItem o i)
noncomputable def BU (X:Cx) (r:R2):Prop:=
 ∀(value slice:Expr) (pins:List (Addr×Obj)) (s:Shared) (σ:St) (H:Hp) (x y:V) (v u:Value) (Q:VK),Inv X pins σ H s->RelV x v->RelV y u->r x y H Q->
  subscripted slice false v u=operate [v,u] (getItem v u)->wpAny (model X.prog X.w) X.A (subscriptTail value slice v u) (EP X pins σ Q) X.xe s
noncomputable def Mk (X:Cx) (id:String) (r:V->List V->Hp->VK->Prop):Prop:=
 ∀(pins:List (Addr×Obj)) (s:Shared) (σ:St) (H:Hp) (x:V) (xs:List V) (v:Value) (us:List Value) (Q:VK),Inv X pins σ H s->RelV x v->Vals xs us->r x xs H Q->
  wpAny (model X.prog X.w) X.A (call (.builtin id) (v :: us)) (EP X pins σ Q) X.xe s
section
variable {X:Cx}{a b:Expr}{ta tb:TE}{pos:Pos}
theorem BU.or {r r':R2}(h:BU X r) (h':BU X r'):BU X (fun x y H Q=>r x y H Q\/r' x y H Q):=by
 intro value slice pins s σ H x y v u Q I rx ry q hs
 rcases q with q | q
 ·exact h value slice pins s σ H x y v u Q I rx ry q hs
 ·exact h' value slice pins s σ H x y v u Q I rx ry q hs
theorem BV {r:R2}(hr:BU X r) (ha:PE X a ta) (hb:PE X b tb) (hs:uE b):PE X (.Subscript a b pos) (Jv r ta tb):=by
 intro pins s σ H Q I h
 exact Subscript_ (G6 ha hb I h fun v u s2 x y H2 I2 rx ry q=>hr a b pins s2 σ H2 x y v u Q I2 rx ry q (hs _ _))
noncomputable def KL (K:PySem.W.Frag):R2:=fun x y H Q=>∃p xs i v,x= .ref p/\y= .int i/\nC K H p xs/\dj xs i=some v/\Q v H
noncomputable def KN (K:PySem.W.Frag):R2:=fun x y H Q=>∃p xs i v,x= .ref p/\y= .int i/\vp K H p xs/\dj xs i=some v/\Q v H
noncomputable def KO:R2:=fun x y H Q=>∃z i c,x= .str z/\y= .int i/\z.length<=sizeLine/\dj z.cps.toList i=some c/\Q (.str ⟨#[c]⟩) H
theorem zb:BU X (KL X.K):=by
 intro value slice pins s σ H x y v u Q I rx ry h hs
 obtain⟨p,xs,i,z,rfl,rfl,hq,he,q⟩:=h
 cases rx
 obtain⟨t,rfl⟩:=ry
 obtain⟨its,r,pl,hz⟩:=I.list hq
 obtain⟨j,h1,h2,h3,h4,h5⟩:=uD he
 obtain⟨w,ew,rw'⟩:=r.get h2
 have hl:=r.length
 have hn:=oM
 have fin:EP X pins σ Q w s:=⟨z,H,I,rw',q⟩
 by_cases h0:0<=i
 ·have hj:i.toNat=j:=by
   rw[seqIndex_of h0 h5] at h1
   exact Option.some.inj h1
  exact item_listR pl.isList h0 (by omega) (by rw[hj];simpa using ew) fin hs
 ·have hj:(i+(its.toArray.size:Int)).toNat=j:=by
   rw[seqIndex_neg (by omega) h4] at h1
   rw[List.size_toArray,<-hl]
   exact Option.some.inj h1
  exact subscriptTail_builtinR (x:=w) pl.isList.typeIs slot_list_getitem.lookup
   (wpAny_getItem_list_neg (Q:=fun r s'=>r=w/\EP X pins σ Q r s') pl.isList (by omega) (by rw[List.size_toArray] <;> omega) (by omega) (by rw[hj];simpa using ew) ⟨rfl,fin⟩) hs
theorem BW:BU X (KN X.K):=by
 intro value slice pins s σ H x y v u Q I rx ry h hs
 obtain⟨p,xs,i,z,rfl,rfl,hq,he,q⟩:=h
 cases rx
 obtain⟨t,rfl⟩:=ry
 obtain⟨its,r,pl,hz⟩:=I.tuple hq
 obtain⟨j,h1,h2,h3,h4,h5⟩:=uD he
 obtain⟨w,ew,rw'⟩:=r.get h2
 have hl:=r.length
 have hn:=oM
 have fin:EP X pins σ Q w s:=⟨z,H,I,rw',q⟩
 exact subscriptTail_builtinR (x:=w) pl.typeIs slot_tuple_getitem.lookup
  (getItem_tuple (j:=j) (Q:=fun r s'=>r=w/\EP X pins σ Q r s') pl (by omega) (by omega) (by rw[List.size_toArray,<-hl];exact h1) (by simpa using ew) ⟨rfl,fin⟩) hs
theorem BX:BU X KO:=by
 intro value slice pins s σ H x y v u Q I rx ry h hs
 obtain⟨z,i,c,rfl,rfl,hz,he,q⟩:=h
 obtain⟨t,rfl⟩:=rx
 obtain⟨t',rfl⟩:=ry
 obtain⟨j,h1,h2,h3,h4,h5⟩:=uD he
 have hl:z.cps.toList.length=z.length:=by simp[Str.length]
 rw[hl] at h1 h4 h5
 have hn:=oM
 exact tail_any (typeIs_str s z t) slot_str_getitem.lookup (getItem_str (c:=c) (by
  have e1:decide (i < -(2 ^ 63:Int))=false:=decide_eq_false (by omega)
  have e2:decide (i≥2 ^ 63)=false:=decide_eq_false (by omega)
  rw[e1,e2,Bool.or_false]) (by rw[h1];simpa using h2) ⟨.str ⟨#[c]⟩,H,I.tok _,⟨_,rfl⟩,q⟩) hs
noncomputable def SM (K:PySem.W.Frag):R2:=fun x y H Q=>KL K x y H Q\/KN K x y H Q\/KO x y H Q
theorem BY:BU X (SM X.K):=zb.or (BW.or BX)
theorem xH (its:List Value) (n j:Nat) (u:Value):Obj.mapSeq (·.setIfInBounds j u) {cls:=.type "list",data:=.seq its.toArray n}={cls:=.type "list",data:=.seq (its.set j u).toArray n}:=by
 simp[Obj.mapSeq]
theorem Inv.lst {pins:List (Addr×Obj)}{σ:St}{H:Hp}{s:Shared}{p:Addr}{xs:List V}(I:Inv X pins σ H s) (h:H p=some (.lst xs)):
  ∃(its:List Value) (n:Nat),Vals xs its/\s.heap.get? p=some {cls:=.type "list",data:=.seq its.toArray n}/\xs.length<=sizeLine:=by
 obtain⟨z,its,n,r,e⟩:=I.hok p _ h
 exact⟨its,n,r,e,z⟩
theorem Inv.Hw {pins:List (Addr×Obj)}{σ:St}{H:Hp}{s:Shared}{p:Addr}{xs ys:List V}{its its':List Value}{n n':Nat}{f:Obj->Obj}(I:Inv X pins σ H s) (h:H p=some (.lst xs))
  (ho:s.heap.get? p=some {cls:=.type "list",data:=.seq its.toArray n}) (hf:f {cls:=.type "list",data:=.seq its.toArray n}={cls:=.type "list",data:=.seq its'.toArray n'}) (r:Vals ys its') (hz:ys.length<=sizeLine) (t:Nat):
  Inv X pins σ (upd H p (.lst ys)) {s with heap:=s.heap.update p f,toks:=t}:=by
 have e:(s.heap.update p f).get? p=some {cls:=.type "list",data:=.seq its'.toArray n'}:=by
  rw[Heap.get?_update_self f ho (by rw[hf] <;> rfl),hf]
 refine I.write (x:=p) (e:=p) (by rw[h];trivial) (.inl rfl) (fun b u hb q=>(Heap.get?_update_other _ _ (Ne.symm hb)).trans q) ⟨_,e⟩ ?_
 exact⟨hz,its',n',r,e⟩
noncomputable def KP:V->V->V->Hp->(Hp->Prop)->Prop:=fun o i v H Q=>∃p xs k j,o= .ref p/\i= .int k/\H p=some (.lst xs)/\BS xs.length k=some j/\Q (upd H p (.lst (xs.set j v)))
theorem set_list:Kg X KP:=by
 intro pins s σ H o i v ov iv u Q I ro ri rv h
 obtain⟨p,xs,k,j,rfl,rfl,hp,hj,q⟩:=h
 cases ro
 obtain⟨t,rfl⟩:=ri
 obtain⟨its,n,r,ho,hz⟩:=I.lst hp
 obtain⟨h1,h2,h3,h4⟩:=za hj
 have hl:=r.length
 have hn:=oM
 have I':Inv X pins σ (upd H p (.lst (xs.set j v))) {s with heap:=s.heap.update p (Obj.mapSeq (·.setIfInBounds j u))}:=
  I.Hw hp ho (xH its n j u) (r.set rv j) (by rw[List.length_set];exact hz) s.toks
 by_cases h0:0<=k
 ·have hk:k.toNat=j:=by
   rw[seqIndex_of h0 h4] at h1
   exact Option.some.inj h1
  exact PySem.W.ki_setAt ho h0 (by omega) (by rw[List.size_toArray,<-hl];exact h4) (by rw[hk];exact⟨_,I',q⟩)
 ·have hk:(k+(its.toArray.size:Int)).toNat=j:=by
   rw[seqIndex_neg (by omega) h3] at h1
   rw[List.size_toArray,<-hl]
   exact Option.some.inj h1
  exact PySem.W.ki_setBack ho (by omega) (by rw[List.size_toArray,<-hl];exact h3) (by omega) (by rw[hk];exact⟨_,I',q⟩)
theorem uF (lo hi:Option Int) (n:Nat):(sliceBounds lo hi none n).1=((HT.xG n 0 lo:Nat):Int)/\(sliceBounds lo hi none n).2.1=((HT.xG n n hi:Nat):Int)/\(sliceBounds lo hi none n).2.2=1:=by
 refine⟨?_,?_,rfl⟩
 ·cases lo with
  | none=>simp[sliceBounds,HT.xG]
  | some i=>
   simp only[sliceBounds,HT.xG,Option.getD_none,show(1:Int) > 0 by decide,if_true]
   by_cases h:i < 0
   ·simp only[h,if_true] <;> omega
   ·simp only[h,if_false] <;> omega
 ·cases hi with
  | none=>simp[sliceBounds,HT.xG]
  | some i=>
   simp only[sliceBounds,HT.xG,Option.getD_none,show(1:Int) > 0 by decide,if_true]
   by_cases h:i < 0
   ·simp only[h,if_true] <;> omega
   ·simp only[h,if_false] <;> omega
theorem rT (its:List Value) (lo hi:Option Int):slicePick its.toArray lo hi none=((its.drop (HT.xG its.length 0 lo)).take (HT.xG its.length its.length hi - HT.xG its.length 0 lo)).toArray:=by
 obtain⟨h1,h2,h3⟩:=uF lo hi its.toArray.size
 unfold slicePick
 rw[h1,h2,h3]
 simp only[sliceRange_one,pick_run,List.size_toArray] <;> rfl
noncomputable def NI (K:PySem.W.Frag):V->Option Int->Option Int->Hp->VK->Prop:=fun x lo hi H Q=>∃a xs,x= .ref a/\nC K H a xs/\∀p,H p=none->Q (.ref p) (upd H p (.lst (Ef xs lo hi)))
theorem Ml:SK X (NI X.K):=by
 intro pins s σ H x v vl vu lo hi sl Q I rx hs pl pu h
 obtain⟨a,xs,rfl,hx,q⟩:=h
 cases rx
 obtain⟨its,r,ht,hz⟩:=I.list hx
 have hlen:=r.length
 refine⟨"list",_,slot_list_getitem.lookup,ht.isList.typeIs,?_⟩
 refine wpAny_getItem_list_slice ht.isList hs pl pu .none (by simp) ?_ (by rw[List.size_toArray] <;> omega)
 rw[rT,<-hlen]
 refine⟨.ref s.heap.objs.size,_,I.laid (t':=s.toks) (o:=.lst (Ef xs lo hi)) (fun b ob q=>Heap.get?_push_of_some _ q) (Nat.le_refl _) ?_,rfl,q _ (I.hok.fresh (Nat.le_refl _))⟩
 exact⟨Nat.le_trans (vI xs lo hi) hz,_,0,(r.drop (HT.xG xs.length 0 lo)).take (HT.xG xs.length xs.length hi - HT.xG xs.length 0 lo),Heap.get?_push_size _ rfl⟩
theorem kD:gq X (.builtin "len") (fun xs H Q=>∃p ys,xs=[.ref p]/\(nC X.K H p ys\/vp X.K H p ys)/\Q (.int ys.length) H):=by
 intro pins s σ H xs us Q I r h
 obtain⟨p,ys,rfl,hq,q⟩:=h
 obtain⟨u,rfl,rx⟩:=vals1 r
 cases rx
 have hn:=oM
 rcases hq with hq | hq
 ·obtain⟨its,r',pl,hz⟩:=I.list hq
  have hlen:=r'.length
  exact Calls.call_len_list pl.isList (by simp only[List.size_toArray] <;> omega) ⟨.int ys.length,H,I.tok _,⟨s.toks+1,by rw[List.size_toArray,hlen]⟩,q⟩
 ·obtain⟨its,r',pl,hz⟩:=I.tuple hq
  have hlen:=r'.length
  exact len_tuple pl (by simp only[List.size_toArray] <;> omega) ⟨.int ys.length,H,I.tok _,⟨s.toks+1,by rw[List.size_toArray,hlen]⟩,q⟩
theorem nI:gq X (.builtin "len") (fun xs H Q=>∃z,xs=[.str z]/\z.length<=sizeLine/\Q (.int z.length) H):=by
 intro pins s σ H xs us Q I r h
 obtain⟨z,rfl,hz,q⟩:=h
 obtain⟨u,rfl,t,rfl⟩:=vals1 r
 have hn:=oM
 exact len_str (by omega) ⟨.int z.length,H,I.tok _,⟨_,rfl⟩,q⟩
theorem nJ:gq X (.type "list") (fun xs H Q=>∃p ys,xs=[.ref p]/\(nC X.K H p ys\/vp X.K H p ys)/\∀l,H l=none->Q (.ref l) (upd H l (.lst ys))):=by
 intro pins s σ H xs us Q I r h
 obtain⟨p,ys,rfl,hq,q⟩:=h
 obtain⟨u,rfl,rx⟩:=vals1 r
 cases rx
 have fin:∀(its:List Value),Vals ys its->ys.length<=sizeLine->∀(h':Heap) (c':Nat),(∀b o',s.heap.get? b=some o'->h'.get? b=some o')->
   h'.get? s.heap.objs.size=some {cls:=.type "list",dict:=none,data:=.seq its.toArray c',slots:=#[]}->EP X pins σ Q (.ref s.heap.objs.size) {s with heap:=h'}:=fun its r' hz h' c' kp e=>
  ⟨.ref s.heap.objs.size,_,I.laid (t':=s.toks) kp (Nat.le_refl _) (show cN X.prog X.w _ h' _ (.lst ys) from⟨hz,its,c',r',e⟩),rfl,q _ (I.hok.fresh (Nat.le_refl _))⟩
 rcases hq with hq | hq
 ·obtain⟨its,r',pl,hz⟩:=I.list hq
  have hlen:=r'.length
  obtain⟨o,ho,hc,n,hd⟩:=pl.isList
  exact call_list_seq p (.inl rfl) ho hc hd (fun h' c' kp e=>fin its r' hz h' c' kp e) (by simp only[List.size_toArray] <;> omega)
 ·obtain⟨its,r',pl,hz⟩:=I.tuple hq
  have hlen:=r'.length
  obtain⟨o,ho,hc,n,hd⟩:=pl
  exact call_list_seq p (.inr rfl) ho hc hd (fun h' c' kp e=>fin its r' hz h' c' kp e) (by simp only[List.size_toArray] <;> omega)
theorem mH:gq X (.type "tuple") (fun xs H Q=>∃p ys,xs=[.ref p]/\((nC X.K H p ys/\∀l,H l=none->Q (.ref l) (upd H l (.tup ys)))\/(vp X.K H p ys/\Q (.ref p) H))):=by
 intro pins s σ H xs us Q I r h
 obtain⟨p,ys,rfl,h⟩:=h
 obtain⟨u,rfl,rx⟩:=vals1 r
 cases rx
 rcases h with⟨hq,q⟩ | ⟨hq,q⟩
 ·obtain⟨its,r',pl,hz⟩:=I.list hq
  have hlen:=r'.length
  refine call_tuple_list pl.isList (fun h' kp=>?_) (by simp only[List.size_toArray] <;> omega)
  have I1:Inv X pins σ H {s with heap:=h'}:=I.kept (t':=s.toks) kp
  have I2:Inv X pins σ (upd H h'.objs.size (.tup ys)) {s with heap:=h'.push {cls:=.type "tuple",data:=.seq its.toArray}}:=
   I1.laid (t':=s.toks) (fun b o e=>Heap.get?_push_of_some _ e) (Nat.le_refl _) (show cN X.prog X.w _ _ _ (.tup ys) from⟨hz,its,r',IsTup.new _ _⟩)
  exact⟨.ref h'.objs.size,_,I2,rfl,q _ (I1.hok.fresh (Nat.le_refl _))⟩
 ·obtain⟨its,r',pl,hz⟩:=I.tuple hq
  exact call_tuple_same pl ⟨.ref p,H,I,rfl,q⟩
noncomputable def Rl (K:PySem.W.Frag) (T:String) (x:V) (H:Hp):Prop:=match x with
 | .str _=>T="str"
 | .int _=>T="int"
 | .ref p=>(T="list"/\∃xs,nC K H p xs)\/(T="tuple"/\∃o,K.lookup p=some o/\o.cls= .type "tuple"/\o.dict=none)\/
   (T="dict"/\((∃kvs,H p=some (.dK kvs))\/∃kvs,H p=some (.dT kvs)))\/(T="set"/\∃S n,H p=some (.set S n))
 | _=>False
theorem Hx {pins : List (Addr × Obj)} {σ : St} {H : Hp} {s : Shared} {T : String} {x : V} {v : Value} (I : Inv X pins σ H s) (r : RelV x v) (ty : Rl X.K T x H) :
    s.TypeIs v T/\∀a,v= .ref a->∃ob,s.heap.get? a=some ob/\ob.dict=none:=by
  cases x with
  | str z=>
    obtain⟨t,rfl⟩:=r
    cases(show T="str" from ty)
    exact⟨typeIs_str s z t,fun _ e=>nomatch e⟩
  | int i=>
    obtain⟨t,rfl⟩:=r
    cases(show T="int" from ty)
    exact⟨typeIs_int s i t,fun _ e=>nomatch e⟩
  | ref p =>
    cases r
    rcases ty with⟨rfl,xs,hq⟩ | ⟨rfl,o,hk,hc,hd⟩ | ⟨rfl,hk⟩ | ⟨rfl,S,n,hk⟩
    . obtain⟨its,_,pl,_⟩:=I.list hq
      refine⟨pl.isList.typeIs,fun a e=>?_⟩
      cases e
      obtain⟨o,n,e,c,hd,_⟩:=pl
      exact⟨o,e,hd⟩
    . refine⟨⟨o,I.Bh p o hk,hc⟩,fun a e=>?_⟩
      cases e
      exact⟨o,I.Bh _ o hk,hd⟩
    . have z:∃o,s.heap.get? p=some o/\o.ExactDict:=by
        rcases hk with⟨kvs,hk⟩ | ⟨kvs,hk⟩
        . obtain⟨_,_,_,_,o,_,_,e,ex,_⟩:=I.hok p _ hk
          exact⟨o,e,ex⟩
        . obtain⟨_,_,_,_,o,_,_,e,ex,_⟩:=I.hok p _ hk
          exact⟨o,e,ex⟩
      obtain⟨o,e,ex⟩:=z
      refine⟨⟨o,e,ex.1⟩,fun a e2=>?_⟩
      cases e2
      exact⟨o,e,ex.2.1⟩
    . obtain⟨o,_,_,_,e,ex,_⟩:=I.hok p _ hk
      refine⟨⟨o,e,ex.1⟩,fun a e2=>?_⟩
      cases e2
      exact⟨o,e,ex.2.1⟩
  | _=>exact False.elim ty
noncomputable def SN (K:PySem.W.Frag) (T:String) (r:V->List V->Hp->VK->Prop) (to:TE) (t:TA):TE:=fun σ H Q=>to σ H fun x H1=>Rl K T x H1/\t σ H1 fun xs H2=>r x xs H2 Q
variable {o e:Expr}{es:List Expr}{to:TE}{t:TA}{name:Str}{apos cpos:Pos}{T id:String}{r:V->List V->Hp->VK->Prop}
theorem KQ (pa:PlainAttrs T) (slot:Slot T name id) (hty:typeOf (.builtin id)=pure (.type "method_descriptor")) (hm:Mk X id r) (ho:PE X o to) (ha:PA X (e :: es) t)
  (hbase:attributeBase o name X.env (eval o X.env)=eval o X.env:=by rfl)
  (hfew:((backTo cpos (starEach (e :: es) X.env)).all (fun x=>!x.1) && (backToKw cpos (keywordEach [] X.env)).all (fun x=>x.1.isSome)
   && decide ((e :: es).length+([]:List Keyword).length+(if([]:List Keyword).isEmpty then 0 else 1) < 30))=true:=by rfl)
  (hline:(apos.endLine == cpos.line)=true:=by rfl) (hs:starEach (e :: es) X.env=(false,eval e X.env) :: starEach es X.env:=by rfl) (hplain:(backTo cpos (starEach es X.env)).any (·.1)=false:=by rfl):
  PE X (.Call (.Attribute o name apos) (e :: es) [] cpos) (SN X.K T r to t):=by
 intro pins s σ H Q I h
 refine wpAny_Call_method_late hbase hfew hline rfl (gg (ho pins s σ H _ I h) fun v s1 ⟨x,H1,I1,r1,ty,q1⟩=>?_)
 obtain⟨h1,h2⟩:=Hx I1 r1 ty
 refine⟨T,id,pa,slot,hty,h1,h2,?_⟩
 have hA:=ha cpos pins s1 σ H1 _ I1 q1
 rw[hs] at hA ⊢
 refine Calls.callWith_builtin (by show(false || (backTo cpos (starEach es X.env)).any (·.1))=false;rw[hplain] <;> rfl) (Calls.evalArgs_plain ?_)
 exact gg hA fun us s2 ⟨vs,H2,I2,r2,q2⟩=>hm pins s2 σ H2 x vs v us Q I2 r1 r2 q2
end
noncomputable def SO (X:Cx) (id:String) (r:V->List V->Hp->VK->Prop):Prop:=
 ∀(pins:List (Addr×Obj)) (s:Shared) (σ:St) (H:Hp) (x:V) (xs:List V) (v:Value) (us:List Value) (Q:VK),Inv X pins σ H s->RelV x v->Vals xs us->r x xs H Q->
  wpAny (model X.prog X.w) X.A (call (.builtin id) (v :: us)) (EP X pins σ Q) X.xe s
theorem Vals.one:∀{x:V}{us:List Value},Vals [x] us->∃u,us=[u]/\RelV x u
 | _,_,.cons r .nil=>⟨_,rfl,r⟩
theorem Vals.two:∀{x y:V}{us:List Value},Vals [x,y] us->∃u v,us=[u,v]/\RelV x u/\RelV y v
 | _,_,_,.cons r (.cons q .nil)=>⟨_,_,rfl,r,q⟩
theorem Vals.dropLast {xs:List V}{us:List Value}(h:Vals xs us):Vals xs.dropLast us.dropLast:=by
 induction h with
 | nil=>exact .nil
 | cons r t ih=>
  cases t with
  | nil=>exact .nil
  | cons q t'=>exact .cons r ih
theorem Vals.rep {xs:List V}{us:List Value}(h:Vals xs us):∀k:Nat,Vals (List.replicate k xs).flatten (List.replicate k us).flatten
 | 0=>.nil
 | k+1=>by
  rw[List.replicate_succ,List.replicate_succ,List.flatten_cons,List.flatten_cons]
  exact Vals.append h (Vals.rep h k)
theorem foldl_rep (its:List Value):∀(k:Nat) (acc:List Value),
    List.foldl (fun x1 x2=>x1++x2) acc.toArray (List.replicate k its.toArray)=(acc++(List.replicate k its).flatten).toArray
  | 0,acc=>by simp
  | k + 1, acc => by
    have e:acc.toArray++its.toArray=(acc++its).toArray:=by simp
    have e2:(acc++its)++(List.replicate k its).flatten=acc++(List.replicate (k+1) its).flatten:=by
      rw[List.replicate_succ,List.flatten_cons,List.append_assoc]
    rw[<-e2,<-foldl_rep its k (acc++its),<-e,List.replicate_succ,List.foldl_cons]
section
variable {X:Cx}{pins:List (Addr×Obj)}{σ:St}{H:Hp}{s:Shared}{l b:Addr}{xs ys zs:List V}
theorem Inv.KR {its its':List Value}{n:Nat}{f:Array Value->Array Value}{t':Nat}(I:Inv X pins σ H s) (hH:H l=some (.lst xs))
  (e:s.heap.get? l=some {cls:=.type "list",data:=.seq its.toArray n}) (hf:f its.toArray=its'.toArray) (hv:Vals ys its') (hz:ys.length<=sizeLine):
  Inv X pins σ (upd H l (.lst ys)) {s with heap:=s.heap.update l (Obj.mapSeq f),toks:=t'}:=by
 have q:=PySem.IsL.update e f
 rw[hf] at q
 refine I.write (x:=l) (e:=l) (by rw[hH];exact trivial) (.inl rfl) (fun b' u hb hu=>(Heap.get?_update_other s.heap (Obj.mapSeq f) (Ne.symm hb)).trans hu) ⟨_,q⟩ ?_
 exact⟨hz,its',_,hv,q⟩
theorem Inv.KS {its:List Value}{t':Nat}(I:Inv X pins σ H s) (hv:Vals ys its) (hz:ys.length<=sizeLine):
  Inv X pins σ (upd H s.heap.objs.size (.lst ys)) {s with heap:=s.heap.push {cls:=.type "list",data:=.seq its.toArray},toks:=t'}:=
 I.laid (fun _ _ q=>Heap.get?_push_of_some _ q) (Nat.le_refl _) ⟨hz,its,0,hv,Heap.get?_push_size _ rfl⟩
theorem Inv.fresh (I:Inv X pins σ H s):H s.heap.objs.size=none:=I.hok.fresh (Nat.le_refl _)
theorem Inv.vJ (I:Inv X pins σ H s) (hH:H l=some (.lst xs)):xs.length<=sizeLine/\∃(its:List Value) (n:Nat),Vals xs its/\xs.length=its.length/\s.heap.get? l=some {cls:=.type "list",data:=.seq its.toArray n}:=by
 obtain⟨z,its,n,r,e⟩:=I.hok l _ hH
 exact⟨z,its,n,r,r.length,e⟩
theorem vK {n:Nat}(h:n<=sizeLine):Builtin.List.listTooLong n=false:=by
 unfold Builtin.List.listTooLong
 exact decide_eq_false (by omega)
end
section
variable {X:Cx}
noncomputable def zc:V->List V->Hp->VK->Prop:=fun x vs H Q=>∃l xs y,x= .ref l/\vs=[y]/\H l=some (.lst xs)/\xs.length < sizeLine/\Q .bM (upd H l (.lst (xs++[y])))
theorem gJ:SO X "list.append" zc:=by
 intro pins s σ H x vs v us Q I rx rv h
 obtain⟨l,xs,y,rfl,rfl,hH,hz,q⟩:=h
 cases rx
 obtain⟨u,rfl,ru⟩:=rv.one
 obtain⟨z,its,n,r,hl,e⟩:=I.vJ hH
 refine call_meets F.slot_list_append ⟨_,e,rfl⟩ F.entry_list_append (F.args_list_append_2 _ _) (PySem.list_append l its.toArray n u (by rw[List.size_toArray];omega)) ⟨e,?_⟩
 refine⟨.bM,_,I.KR (its':=its++[u]) hH e (by simp) (r.append (.cons ru .nil)) ?_,rfl,q⟩
 rw[List.length_append,List.length_singleton]
 omega
theorem len_rep {α:Type}(xs:List α) (k:Nat):(List.replicate k xs).flatten.length=k * xs.length:=by
 induction k with
 | zero=>simp
 | succ k ih=>rw[List.replicate_succ,List.flatten_cons,List.length_append,ih,Nat.succ_mul,Nat.add_comm]
end
section
variable {prog:Program}{w:World}{A:Around}{E:Value->Shared->Prop}{s:Shared}
end
section
variable {X:Cx}
end
end L2
namespace Rm
open PySem PySem.W PySem.Calls PyProof.Rows
theorem pX {P:Params}{h:Heap}:∀(ns:List Int) (vs:List Value),WellAll P h vs (ns.map WData.int)->IntsAre vs ns:=by
 intro ns
 induction ns with
 | nil=>
  intro vs w
  rw[List.map_nil] at w
  cases w
  exact .nil
 | cons n ns ih=>
  intro vs w
  rw[List.map_cons] at w
  cases w with
  | cons a b=>
   cases a
   exact .cons _ _ (ih _ b)
theorem Al {l:OpenLaw}{n:Nat}(hn:l.most=some n){P:Params}{h:Heap}{args:List WData}{vals:List Value}
  (hpre:l.row.toRowW.claim.pre args=true) (hwl:WellAll P h vals args):
  ∃a vs ns,vals=[Value.ref a]/\args=[WData.list (ns.map WData.int)]/\h.get? a=some {cls:=.type "list",data:=.seq vs.toArray}/\IntsAre vs ns/\ns.length<=n:=by
 have hsh:WShape.hasAll [] args [.list .int]=true:=(pre_splitW hpre).1
 have hc:l.pre.holds [] {args:=args}=true:=(pre_splitW hpre).2
 obtain⟨d,r,rfl,h1,h2⟩:=hasAllW_cons hsh
 obtain rfl:=hasAllW_nil h2
 obtain⟨xs,rfl,h3⟩:=hasW_list h1
 obtain⟨ns,rfl⟩:=items_int h3
 have hlen:ns.length<=n:=by
  unfold OpenLaw.pre at hc
  have h4:(WTm.not (.lt (.lit (.int (n:Int))) (.len (.arg 0)))).holds [] {args:=[.list (ns.map .int)]}=true:=by
   have h4:=(holds_andW hc).1
   rw[hn] at h4
   exact h4
  have h5:=condW_of h4 (w_not (w_lt w_lit (w_len_list (w_arg rfl))))
  rw[List.length_map] at h5
  refine Nat.le_of_not_lt fun q=>?_
  have q':(n:Int) < ((ns.length:Nat):Int):=by omega
  first
   | (rw[decide_eq_true q'] at h5;exact absurd h5 (by decide))
   | (simp at h5;omega)
 cases hwl with
 | cons w1 w2=>
  cases w2
  cases w1 with
  | list ho hall=>exact⟨_,_,ns,rfl,rfl,ho,pX ns _ hall,hlen⟩
theorem Am (l:OpenLaw) (args:List WData):l.row.toRowW.claim.post args (.bool true) args=true:=
 postW_of (r:=l.row.toRowW) (X:=(true == true))
  (show WShape.has [] (.bool true) .bool=true by first | rfl | decide | simp[WShape.has,WShape.arms,WShape.armsAll])
  (show(WTm.eq .res (.lit (.bool true))).value [] {args:=args,res:=some (.bool true),after:=args}=some (.bool (true == true)) from w_eq_bool (w_res rfl) w_lit) rfl
theorem vL {l:OpenLaw}{n:Nat}{q:Program}{loose:List Str}{XP:(Str->Option Value)->Heap->Prop}{YP:World->Heap->Prop}{d:DefRec}
  (hn:l.most=some n) (hdf:d.params.defaults=[])
  (call:∀(w:World) (s₀ s₁:Shared) (mg mb:Str->Option Value) (fa:Addr) (o:Obj) (pm cd doc:Value) (a:Addr) (vs:List Value) (ns:List Int),
   Ground q loose [] XP w s₀ mg mb s₁.heap->YP w s₁.heap->
   s₁.heap.get? fa=some o->o.data= .func (docDef d.name d.params d.body d.scope pm cd doc)->s₁.heap.CodeRec cd d.name->mg d.name=some (.ref fa)->
   s₁.heap.get? a=some {cls:=.type "list",data:=.seq vs.toArray}->IntsAre vs ns->ns.length<=n->s₁.gens=#[]->
   codeAny (model l.prog w) callerA (.call (.ref fa) ⟨[.ref a],[]⟩) (fun r s'=>r= .ok (.ret (.bool true))/\OldK s₁.heap s'.heap/\s'.os=s₁.os/\AllBare s'.gens) s₁):
  WalkO q loose XP YP l.row.toRowW d [] (fun f vs=>PySem.call f vs):=by
 intro w s₀ s₁ mg mb G Y fa o pm cd doc dV kV ho hd hcd hD hmg hg args vals as hpre hlay hrd hwl hlo
 obtain rfl:dV= .none:=Dflts.none hD hdf
 obtain rfl:kV= .none:=Dflts.noKw hD
 obtain⟨a,vs,ns,rfl,rfl,hobj,hints,hlen⟩:=Al hn hpre hwl
 refine enter_call (codeAny_mono (call w s₀ s₁ mg mb fa o pm cd doc a vs ns G Y ho (fd_plain hd) hcd hmg hobj hints hlen hg) fun r s' hq=>?_)
 obtain⟨rfl,h2,h3,h4⟩:=hq
 exact⟨.inl ⟨.bool true,.bool true,[],rfl,fun _=>rfl,.bool true,Am l _,fun _=>⟨List.Pairwise.nil,fun _ hm=>(nomatch hm)⟩⟩,h2,h3,h4⟩
section
variable {prog:Program}{w:World}{A:Around}{E:Value->Shared->Prop}{s:Shared}{K:Frag}
end
end Rm
namespace L2
open PySem PySem.Spec PyProof.Rows
theorem tG:∀{vs:List Value}{ns:List Int},IntsAre vs ns->Vals (ns.map V.int) vs
 | _,_,.nil=>.nil
 | _,_,.cons n t h=>.cons ⟨t,rfl⟩ (tG h)
noncomputable def Eh (H:Hp):Prop:=∀b,H b=none\/∃o xs,H b=some (.kC o (.lst xs))
theorem BZ {P : Program} {w : World} {K : PySem.W.Frag} {mg mb : Str -> Option Value} {CX : Bj} {k : Nat} {fa a : Addr} {fd : FuncData} {x : Str} {sp : Sp} {s₁ : Shared} {vs : List Value} {ns : List Int}
    (KX:K.In s₁.heap) (hns:s₁.heap.Ns mainGlobals mg) (hb:s₁.heap.Ns builtinsNs mb) (SQ:∀x:Str,x≠"__name__"->mb x=bootBuiltins x) (hlim:s₁.heap.NoLimit) (hg:s₁.gens=#[])
    (ha:s₁.heap.get? a=some {cls:=.type "list",data:=.seq vs.toArray}) (hi:IntsAre vs ns) (hl:ns.length<=sizeLine) (hr:j6 k callerA)
    (F:∀base:Heap,K.In base->base.Ns mainGlobals mg->cD P w K mg base CX k fa fd [x] sp) (hbind:∀(s:Shared) (u:Value),BindsTo s fd ⟨[u],[]⟩ [(x,u)])
    (Gb:∀H:Hp,Eh H->nC K H a (ns.map V.int)->sp [.ref a] H (fun v _=>v= .bl true) fun _ _ _=>False)
    (NJ:∀H e s',CX [] H s₁ (fun _ _ _=>False) e s'->False):
    codeAny (model P w) callerA (.call (.ref fa) ⟨[.ref a],[]⟩) (fun r s'=>r= .ok (.ret (.bool true))/\OldK s₁.heap s'.heap/\s'.os=s₁.os/\AllBare s'.gens) s₁:=by
  have rv:=tG hi
  have lenV:=hi.length
  have core : ∀ H : Hp, Eh H -> nC K H a (ns.map V.int) -> kU P w H s₁.heap -> (∀ b, H b ≠ none -> b = a) -> (H a ≠ none -> K.lookup a = none) ->
      codeAny (model P w) callerA (.call (.ref fa) ⟨[.ref a],[]⟩) (fun r s'=>r= .ok (.ret (.bool true))/\OldK s₁.heap s'.heap/\s'.os=s₁.os/\AllBare s'.gens) s₁:=by
    intro H hO hS hok hA hK
    have zd:∀{b:Addr}{o:Obj},s₁.heap.get? b=some o->H b=none->(uA s₁.heap H).get? b=some o:=fun e n=>Bu e n
    have Kz:∀{b:Addr}{o:Obj}{es:Array DictEntry}{ep:Nat},s₁.heap.get? b=some o->o.data= .dict es ep->H b=none:=fun {b o es ep} e d=>by
      cases q:H b with
      | none=>rfl
      | some u=>
        have e':b=a:=hA b (by rw[q];simp)
        subst e'
        rw[ha] at e;cases e
        have d':Data.seq vs.toArray _=Data.dict es ep:=d
        cases d'
    have Mm:∀{b:Addr}{m:Str->Option Value},s₁.heap.Ns b m->(uA s₁.heap H).Ns b m:=fun {b m} ⟨o,es,ep,e,d,r⟩=>⟨o,es,ep,zd e (Kz e d),d,r⟩
    have Rn:K.In (uA s₁.heap H):=fun b o e=>zd (KX b o e) (by
      cases q:H b with
      | none=>rfl
      | some u=>
        have e':b=a:=hA b (by rw[q];simp)
        subst e'
        rw[hK (by rw[q];simp)] at e;cases e)
    have hM:Mod K mg (uA s₁.heap H):=⟨Rn,Mm hns,⟨mb,Mm hb,SQ⟩,let⟨mc,h1,h2⟩:=hlim;⟨mc,Mm h1,h2⟩⟩
    have e0:D7 P w K mg (uA s₁.heap H) callerA [] s₁ H:=⟨rfl,hM,fun b o e=>DQ e,Nat.le_of_eq (Ab _ _),trivial,fun b hb=>absurd (show b∈([]:List Addr) from hb) (by simp),hok,.of_eq hg⟩
    refine codeAny_mono ((F _ Rn (Mm hns)).run callerA [] s₁ H ⟨[.ref a],[]⟩ [.ref a] [.ref a] _ _ hr e0 (hbind s₁ (.ref a)) (.cons rfl .nil) (Gb H hO hS)) fun r s' h=>?_
    cases r with
    | error e=>exact(NJ H e s' h).elim
    | ok fl =>
      cases fl with
      | next=>exact False.elim h
      | brk=>exact False.elim h
      | cont=>exact False.elim h
      | ret u =>
        obtain⟨v,H',os,bare,un,NK,r',q⟩:=h
        have q':v= .bl true:=q
        subst q'
        obtain rfl:u=Value.bool true:=r'
        refine⟨rfl,OldK.of_keep fun b o e=>?_,os,bare⟩
        cases q:H b with
        | none=>exact un.keep b o e q (by intro z;exact absurd (show b∈([]:List Addr) from z) (by simp)) (by simp)
        | some u=>
          rcases hO b with z | ⟨ob,xs,z⟩
          . rw[q] at z;cases z
          . have z2:=un.rR b ob _ z
            obtain⟨e1,_⟩:=hok b _ z
            obtain⟨e2,_⟩:=NK b _ z2
            rw[e] at e1;cases e1
            exact e2
  cases hk:K.lookup a with
  | some o=>
    have e:=KX a o hk
    rw[ha] at e
    cases e
    refine core (fun _=>none) (fun _=>.inl rfl) (.inr ⟨_,vs.toArray,_,hk,rfl,rfl,rfl,by rw[List.size_toArray,lenV];exact hl,by simpa using rv⟩) (fun b u z=>by have z':(none:Option HO)=some u:=z;cases z') (fun b z=>absurd rfl z) fun z=>absurd rfl z
  | none=>
    refine core (fun b=>if b=a then some (.kC {cls:=.type "list",data:=.seq vs.toArray} (.lst (ns.map V.int))) else none) (fun b=>?_) (.inl (.inr ⟨{cls:=.type "list",data:=.seq vs.toArray},if_pos rfl⟩)) (fun b u z=>?_) (fun b z=>?_) fun _=>hk
    . by_cases hb:b=a
      . exact .inr ⟨_,_,if_pos hb⟩
      . exact .inl (if_neg hb)
    . by_cases hb:b=a
      . have z':=(if_pos hb).symm.trans z
        cases z'
        subst hb
        exact⟨ha,by rw[List.length_map];exact hl,vs,_,rv,ha⟩
      . have z':=(if_neg hb).symm.trans z
        cases z'
    . by_cases hb:b=a
      . exact hb
      . exact absurd (if_neg hb) z
noncomputable abbrev V3 {K:PySem.W.Frag}{h:Heap}(_:K.In h):PySem.W.Frag:=K
theorem Ei {l : PySem.W.OpenLaw} {n k : Nat} {q : Program} {loose : List Str} {XP : (Str -> Option Value) -> Heap -> Prop} {YP : World -> Heap -> Prop} {d : DefRec} {K : Params -> PySem.W.Frag} {CX : World -> Bj} {sp : World -> Sp} {x : Str}
    (hn:l.most=some n) (hn2:n<=sizeLine) (hdf:d.params.defaults=[]) (hr:j6 k callerA)
    (hY:∀(w:World) (h:Heap),YP w h->(K w.params).In h)
    (F:∀(w:World) (mg:Str->Option Value) (fa:Addr) (h:Heap),(K w.params).In h->h.Ns mainGlobals mg->mg d.name=some (.ref fa)->
      ∃fd:FuncData,(∀(s:Shared) (u:Value),BindsTo s fd ⟨[u],[]⟩ [(x,u)])/\
        ∀base:Heap,(K w.params).In base->base.Ns mainGlobals mg->cD l.prog w (K w.params) mg base (CX w) k fa fd [x] (sp w))
    (Gb:∀(w:World) (H:Hp) (a:Addr) (ns:List Int),ns.length<=n->Eh H->nC (K w.params) H a (ns.map V.int)->sp w [.ref a] H (fun v _=>v= .bl true) fun _ _ _=>False)
    (NJ:∀(w:World) (H:Hp) (s:Shared) (e:Value) (s':Shared),CX w [] H s (fun _ _ _=>False) e s'->False):
    PySem.W.WalkO q loose XP YP l.row.toRowW d [] (fun f vs=>PySem.call f vs):=by
  refine Rm.vL hn hdf fun w s₀ s₁ mg mb fa o pm cd doc a vs ns G Y ho hd hcd hmg hobj hints hlen hg=>?_
  have KX:=hY w _ Y
  obtain⟨fd,hb,hF⟩:=F w mg fa _ KX G.T.g hmg
  exact BZ KX G.T.g G.T.b G.T.builtins G.T.nolimit hg hobj hints (Nat.le_trans hlen hn2) hr hF hb (fun H hO hS=>Gb w H a ns hlen hO hS) fun H e s'=>NJ w H s₁ e s'
noncomputable def bS (s:Stmt):Arguments:=match s with
 | .FunctionDef _ a _ _ _ _ _ _ _ _=>a
 | _=>{posonlyargs:=[],args:=[],vararg:=none,kwonlyargs:=[],kw_defaults:=[],kwarg:=none,defaults:=[]}
noncomputable def bL (s:Stmt):List Stmt:=match s with
 | .FunctionDef _ _ b _ _ _ _ _ _ _=>b
 | _=>[]
noncomputable def aH (s:Stmt):Scope:=match s with
 | .FunctionDef _ _ _ _ _ _ sc _ _ _=>sc
 | _=>{kind:=.function,names:=[],isGenerator:=false,isCoroutine:=false}
noncomputable abbrev jE:Bj:=fun _ _ _ _ _ _=>False
noncomputable abbrev E0:XK:=fun _ _ _=>False
theorem KU {X:Cx}:Passes jE X E0:=fun _ _ _ _ _ _ _ h=>h.elim
structure qy (K:PySem.W.Frag) (x qual:Str) (st:Stmt) (f:Addr) (fd:FuncData):Prop where
 ex:∃(oc:Value) (od:Option Addr) (kV doc pm:Value) (an:Option Addr) (cdv ct:Value) (osl:Array (Option Value)),
  fd=PySem.W.fnOf x qual (bS st) (bL st) (aH st) .none kV doc pm an cdv ct/\K.lookup f=some ⟨oc,od,.func fd,osl⟩/\PySem.W.codeIn K cdv qual=true
 kp:PySem.W.keepIn K (.ref f)=true
section
variable {P:Program}{w:World}{K:PySem.W.Frag}{mg:Str->Option Value}{base:Heap}
theorem qy.ok {x qual:Str}{st:Stmt}{f:Addr}{fd:FuncData}{N ps:List Str}{k:Nat}{sp:Sp}(F:qy K x qual st f fd) (S:bX N ps (aH st)) (len:∀vs H Q E,sp vs H Q E->vs.length=ps.length)
  (hbody:∀(cdv:Value) (A:Around) (outer:List Env) (s:Shared) (H:Hp) (vs:List V) (Q:VK) (E:XK),j6 k (A.deeper (envOfC qual (aH st) s.heap.objs.size f cdv))->sp vs H Q E->
   ∃t,vD (xF jE P w K mg base N qual (aH st) f cdv A outer s H E).Ka (bL st) t/\t {nx:=fun _ H'=>Q .bM H',rt:=Q} (start N vs) H):cD P w K mg base jE (k+1) f fd ps sp:=by
 obtain⟨oc,od,kV,doc,pm,an,cdv,ct,osl,rfl,lk,hcd⟩:=F.ex
 refine KA lk hcd S len fun A outer s H vs Q E hr Gb=>?_
 obtain⟨t,h,q⟩:=hbody cdv A outer s H vs Q E hr Gb
 exact⟨t,h.Ka,q⟩
theorem qy.binds {x qual:Str}{st:Stmt}{f:Addr}{fd:FuncData}{ps:List Str}(F:qy K x qual st f fd)
  (h:∀(kV doc pm:Value) (an:Option Addr) (cdv ct:Value) (us:List Value),us.length=ps.length->bindArgs (PySem.W.fnOf x qual (bS st) (bL st) (aH st) .none kV doc pm an cdv ct) ⟨us,[]⟩=pure (ps.zip us)):Binds K fd ps []:=by
 obtain⟨oc,od,kV,doc,pm,an,cdv,ct,osl,rfl,lk,hcd⟩:=F.ex
 exact .all (h kV doc pm an cdv ct)
theorem fy {x qual:Str}{st:Stmt}{f:Addr}{oc:Value}{od an:Option Addr}{osl:Array (Option Value)}{kV doc pm cdv ct:Value}(l:K.lookup f=some ⟨oc,od,.func (PySem.W.fnOf x qual (bS st) (bL st) (aH st) .none kV doc pm an cdv ct),osl⟩)
  (c:PySem.W.codeIn K cdv qual=true) (k:PySem.W.keepIn K (.ref f)=true):qy K x qual st f (PySem.W.fnOf x qual (bS st) (bL st) (aH st) .none kV doc pm an cdv ct):=⟨⟨oc,od,kV,doc,pm,an,cdv,ct,osl,rfl,l,c⟩,k⟩
end
theorem bx {A:Around}{k:Nat}(hr:j6 k A):A.units+20 < cLine:=Nat.lt_of_le_of_lt (Nat.add_le_add_left (by decide:20<=64) _) hr.units
section
variable {X:Cx}
theorem An:gq X (.builtin "len") (fun xs H Q=>∃a kvs,xs=[V.ref a]/\H a=some (.dK kvs)/\Q (.int kvs.length) H):=by
 intro pins s σ H xs us Q I r h
 obtain⟨a,kvs,rfl,ha,q⟩:=h
 obtain⟨u,rfl,ru⟩:=vals1 r
 cases ru
 exact KD I (.inl ha) fun t s' I'=>⟨.int kvs.length,H,I',⟨t,rfl⟩,q⟩
end
theorem B0 {A B:Prop}(h:B):if false=true then A else B:=by
 rw[if_neg Bool.false_ne_true]
 exact h
theorem B3 {A B:Prop}(h:A):if true=true then A else B:=by
 rw[if_pos rfl]
 exact h
section
variable {κ:Type} [DecidableEq κ]
end
theorem kU.KW {P:Program}{w:World}{H:Hp}{h:Heap}{a:Addr}{o:HO}(x:kU P w H h) (hn:H a=none) (new:cN P w (upd H a o) h a o):kU P w (upd H a o) h:=fun b u e=>by
 by_cases hb:b=a
 ·subst hb;rw[aK] at e;cases e;exact new
 ·rw[aJ hb] at e
  exact(x b u e).stay (fun c v _ q=>q) (fun c q=>by rw[aJ (bh q hn)];exact q) fun c xs q=>by rw[aJ (bh q hn)];exact q
noncomputable def g7 (X:Cx) (N':List Str) (scope:Scope) (cl:List (Str×Addr)) (C:Addr) (s:Shared) (H:Hp) (fp:List Addr):Cx:=
 {X with N:=N',s₀:=s,H₀:=H,env:=compEnvC scope cl C X.env,outer:=X.stack,stack:=X.stack,ex:=fp,fn:=fun _=>false,pn:=[],xe:=fun _ _=>False}
noncomputable def fB (cap:List Nat) (σ:St):St:=cap.map fun i=>(σ[i]?).join
structure i7 (X:Cx) (x:Str) (cy:List Str) (cap:List Nat) (scope:Scope) (cl:List (Str×Addr)):Prop where
 clos:closureFor scope X.env=pure cl
 mZ:∀y∈scope.names,y.2≠.cell
 kind:scope.kind= .function
 names:∀y∈scope.names,y.2= .local->scope.names.lookup y.1=some .local
 loc:scope.names.lookup x=some .local
 cells:∀n c,cl.lookup n=some c->X.env.cells.lookup n=some c
 has:∀n,((relabel scope X.env).names.lookup n=some .cell\/(relabel scope X.env).names.lookup n=some .free)->∃c,cl.lookup n=some c
 nd:(x :: cy).Nodup
 len:cap.length=cy.length
 slot:∀(j:Nat) n,cy[j]? =some n->∃i:Nat,cap[j]? =some i/\X.N[i]? =some n/\Bv X.env.scope n
 vis:∀n,n∈cy->((relabel scope X.env).names.lookup n=some .cell\/(relabel scope X.env).names.lookup n=some .free)/\(∃c,cl.lookup n=some c)/\X.env.scope.names.lookup n≠some .local
noncomputable def Mn (wi:TI) (cap:List Nat) (tc:TT) (te:TE):TE:=fun σ H Q=>wi σ H fun J H1=>∃W:Nat->Nat->List V->Hp->Prop,(∃m,W 0 m [] H1)/\∀i m ys H,W i m ys H->ys.length < sizeLine/\
  ((J.stop i H/\∀p,H p=none->Q (.ref p) (upd H p (.lst ys)))\/
   (J.go i H/\∀x H',J.Kl i H x H'->tc (some x :: fB cap σ) H' fun b H2=>if b=true then te (some x :: fB cap σ) H2 fun y H3=>∃m',m' < m/\W (i+1) m' (ys++[y]) H3 else ∃m',m' < m/\W (i+1) m' ys H2))
noncomputable def NL:TT:=fun _ H Q=>Q true H
noncomputable def Jw (X:Cx) (ifs:List Expr) (tc:TT):Prop:=
 ∀(pins:List (Addr×Obj)) (s:Shared) (σ:St) (H:Hp) (Q:Bool->Hp->Prop),Inv X pins σ H s->tc σ H Q->
  wpAny (model X.prog X.w) X.A (forIn ifs true fun c r=>if r=true then do let ok <-isTrue c X.env (eval c X.env);pure (ForInStep.yield ok) else pure (ForInStep.yield r)) (TP X pins σ Q) X.xe s
theorem Ej {X:Cx}:Jw X [] NL:=fun pins s σ H Q I h=>wpAny_tests_nil ⟨H,I,h⟩
theorem Hy (ys:List Value) (y:Value):({cls:=.type "list",data:=.seq (ys.toArray.push y) (ys.length+1)}:Obj)={cls:=.type "list",data:=.seq (ys++[y]).toArray (ys++[y]).length}:=by
 rw[List.length_append,List.length_singleton,List.push_toArray]
theorem B4 {X : Cx} {pins : List (Addr × Obj)} {σ : St} {H : Hp} {s s4 : Shared} {x : Str} {cy : List Str} {cap : List Nat} {scope : Scope} {cl : List (Str × Addr)} {C : Addr} {fp : List Addr} {m' : Str -> Option Value}
    (I:Inv X pins σ H s) (T:i7 X x cy cap scope cl) (hfp:∀b∈fp,kX X pins H b) (hfo:∀b∈fp,∃o,s.heap.get? b=some o)
    (hC:s.heap.objs.size<=C) (hns:s4.heap.Ns C m') (hos:s4.os=s.os) (hg:s4.gens=s.gens)
    (kept:∀b o,s.heap.get? b=some o->s4.heap.get? b=some o):
    Inv (g7 X (x :: cy) scope cl C s H fp) [] (none :: fB cap σ) H s4:=by
  have fr:∀b,s.heap.objs.size<=b->H b=none:=fun b hb=>I.hok.fresh hb
  refine⟨⟨I.ok.mod,T.kind,I.ok.glob,I.ok.blt,hC,fun y z c h1 h2=>I.ok.inj y z c (T.cells _ _ h1) (T.cells _ _ h2),fun y hy=>T.has y hy,fun y c h=>(by cases h),I.ok.hd,I.ok.frames,.inl rfl,fun b hb=>⟨?_,fun y c e z=>?_⟩,I.bs,Nat.le_trans I.ok.FU I.sz,fun b o e hb=>?_,fun b hb z=>?_,I.stack,I.yS⟩,
    hos,by rw[hg];exact I.bare,Un.kept kept,⟨m',hns,fun i y v h1 h2 h3=>?_⟩,fun y c h=>?_,fr C hC,fun y c h=>I.mG y c (T.cells _ _ h),fun p hp=>?_,I.hok.kept kept,?_⟩
  . obtain⟨o,e⟩:=hfo b hb
    exact Nat.ne_of_lt (Nat.lt_of_lt_of_le (Heap.lt_size e) hC)
  . exact(hfp b hb).2.2.2.2.1 y c (T.cells _ _ e) z
  . rcases(hfp b hb).2.2.2.1 with z | z
    . exact I.ok.Bw b o e z
    . exact absurd (Nat.lt_of_lt_of_le (Heap.lt_size e) (Nat.le_trans I.ok.FU z)) (Nat.lt_irrefl _)
  . rcases List.mem_cons.mp (I.uB b z) with q | q
    . exact(hfp b hb).2.1 q
    . exact(hfp b hb).2.2.1 q
  . cases i with
    | zero=>cases h2
    | succ j=>
      have h1:cy[j]? =some y:=by simpa[g7] using h1
      have h2:(fB cap σ)[j]? =some (some v):=by simpa using h2
      obtain⟨i,e1,e2,e3⟩:=T.slot j y h1
      have e4:σ[i]? =some (some v):=by
        unfold fB at h2
        rw[List.getElem?_map,e1] at h2
        have h2:some ((σ[i]?).join)=some (some v):=h2
        have h2:=Option.some.inj h2
        cases q:σ[i]? with
        | none=>rw[q] at h2;cases h2
        | some o=>rw[q] at h2;cases h2;rfl
      obtain⟨m,hn,hl⟩:=I.loc
      obtain⟨u,r,l⟩:=hl i y v e2 e4 e3
      obtain⟨k1,⟨c,hc⟩,k3⟩:=T.vis y (List.mem_of_getElem? h1)
      refine⟨u,r,.inr ⟨k1,c,hc,?_⟩⟩
      rcases l with⟨hk,_⟩ | ⟨hk,c',hc',z⟩
      . exact absurd hk k3
      . rw[T.cells _ _ hc] at hc'
        cases hc'
        obtain⟨o,ho,hd⟩:=z
        exact⟨o,kept _ _ ho,hd⟩
  . obtain⟨v,o,ho,hd⟩:=I.cell y c (T.cells _ _ h)
    exact⟨v,o,kept _ _ ho,hd⟩
  . exact absurd (show p∈([]:List (Addr×Obj)) from hp) (by simp)
  . show(none :: fB cap σ).length=(x :: cy).length
    simp[fB,T.len]
theorem B5 {α:Type}{M:Model}{A:Around}{E E':Value->Shared->Prop}{s:Shared}{t:Sem α}{Q:Unit->Shared->Prop}{Q':α->Shared->Prop}(h:wpAny M A (pure ():Sem Unit) Q E s) (k:Q () s->wpAny M A t Q' E' s):wpAny M A t Q' E' s:=
 fun Γ p hΓ=>k (h Γ p hΓ) Γ p hΓ
theorem qz {X:Cx}{elt iter:Expr}{ifs:List Expr}{x:Str}{px pos:Pos}{scope:Scope}{cl:List (Str×Addr)}{cy:List Str}{cap:List Nat}{wi:TI}{tc:TT}{te:TE}{pins:List (Addr×Obj)}{s:Shared}{σ:St}{H:Hp}{Q:VK}{use:Option (Value->Sem Unit)}{Qf:Value->Shared->Prop}{pos2:Pos}
    (T:i7 X x cy cap scope cl) (hc:X.calm=true) (hi:PI X (.Name x px) iter wi)
    (ht:∀C s H fp,Jw (g7 X (x :: cy) scope cl C s H fp) ifs tc) (he:∀C s H fp,PE (g7 X (x :: cy) scope cl C s H fp) elt te)
    (hs:∀x,foldedSetIterable iter X.env x=pure x) (I:Inv X pins σ H s) (h:Mn wi cap tc te σ H Q)
    (hend:∀(D C:Addr) (s7:Shared) (H6:Hp) (ys:List V),Inv X pins σ (upd H6 D (.lst ys)) s7->(∃m,s7.heap.Ns C m)->kX X pins (upd H6 D (.lst ys)) C->Q (.ref D) (upd H6 D (.lst ys))->compPost (model X.prog X.w) X.A X.xe use Qf (.ref D) C (.ok .next) s7):
    wpAny (model X.prog X.w) X.A (comprehension (.ListComp elt [⟨.Name x px,iter,ifs,0⟩] scope pos) scope X.env pos2 (newList []) false (eval iter X.env) use) Qf X.xe s:=by
  refine wpAny_comprehension_free (use:=use) rfl hs T.clos T.kind T.names (gg (hi pins s σ H _ I h) fun v s1 h1=>gg h1 fun itv s2 h2=>?_)
  obtain⟨it,fp,tn,J,H2,rfl,I2,DH,st2,f2,W,⟨m0,w0⟩,turn⟩:=h2
  refine wpAny_newObj_type (wpAny_newFunctionEnv T.mZ (by intro y hy;simp at hy) (fun h4 Ek B6=>?_) T.kind)
  dsimp only at Ek B6 ⊢
  generalize NN:s2.heap.push {cls:=.type "list",dict:=none,data:=.seq ([]:List Value).toArray}=H3 at Ek B6 ⊢
  have eC:H3.objs.size=s2.heap.objs.size+1:=by rw[<-NN,Heap.size_push]
  generalize V4:H3.objs.size=C at eC Ek B6 ⊢
  generalize eD:s2.heap.objs.size=D at eC ⊢
  have KY:C=D+1:=eC
  have hDC:D≠C:=by rw[KY];exact Nat.ne_of_lt (Nat.lt_succ_self D)
  have hC:s2.heap.objs.size<=C:=by rw[eD,KY];exact Nat.le_succ D
  have hD:s2.heap.objs.size<=D:=by rw[eD];exact Nat.le_refl D
  have kept:∀b o,s2.heap.get? b=some o->h4.get? b=some o:=fun b o e=>B6.extBut b o (Nat.ne_of_lt (Nat.lt_of_lt_of_le (Heap.lt_size e) hC)) (Heap.get?_push_of_some _ (NN▸Heap.get?_push_of_some _ e))
  have hacc:h4.get? D=some {cls:=.type "list",data:=.seq ([]:List Value).toArray ([]:List Value).length}:=B6.extBut _ _ hDC (Heap.get?_push_of_some _ (NN▸eD▸Heap.get?_push_size _ rfl))
  have Ro:∀b∈fp,∃o,s2.heap.get? b=some o:=fun b hb=>let⟨o,e,_⟩:=DH.obj _ _ st2 b hb;⟨o,e⟩
  have hDf:D∉fp:=fun hb=>by
    obtain⟨o,e⟩:=Ro D hb
    exact absurd (Nat.lt_of_lt_of_le (Heap.lt_size e) hD) (Nat.lt_irrefl _)
  have Rp:tn 0 h4:=DH.keep _ _ _ st2 fun b _ o e=>kept b o e
  have key : ∀ s5 : Shared, s5 = { s2 with heap := h4, toks := s2.toks + ([] : List (Str × Value)).length } ->
      codeAny (model X.prog X.w) X.A (.compLoop (.ListComp elt [⟨.Name x px,iter,ifs,0⟩] scope pos) 0 (.ref it) (.ref D) (compEnvC scope cl C X.env)) (compPost (model X.prog X.w) X.A X.xe use Qf (.ref D) C) s5:=by
    rintro s5 rfl
    have I4:Inv (g7 X (x :: cy) scope cl C s2 H2 fp) [] (none :: fB cap σ) H2 {s2 with heap:=h4,toks:=s2.toks+([]:List (Str×Value)).length}:=
      B4 (s4:={s2 with heap:=h4,toks:=s2.toks+([]:List (Str×Value)).length}) I2 T f2 Ro hC Ek rfl rfl kept
    generalize hY:g7 X (x :: cy) scope cl C s2 H2 fp=Y at I4
    have fD:∀{H':Hp},H' D=none->kX Y [] H' D:=fun {H'} hn=>by
      subst hY
      refine⟨hn,hDC,fun z=>(List.mem_cons.mp (I2.uB D z)).elim (fun q=>absurd (Nat.lt_of_lt_of_le (q▸I2.lt) hD) (Nat.lt_irrefl _)) fun q=>I2.J3 hD q,.inr hD,fun y c e z=>?_,fun p hp=>absurd (show p∈([]:List (Addr×Obj)) from hp) (by simp)⟩
      obtain⟨v,q⟩:=I2.cell y c (T.cells _ _ e)
      exact absurd (Nat.lt_of_lt_of_le q.lt (by rw[z];exact hD)) (Nat.lt_irrefl _)
    have fF:∀{H':Hp},(∀b∈fp,H' b=none)->∀b∈fp,kX Y [] H' b:=fun {H'} hn b hb=>by
      have q:=I4.ok.Nd b (by subst hY;exact hb)
      exact⟨hn b hb,fun z=>q.1 z,I4.ok.Bx b (by subst hY;exact hb),.inl (by subst hY;exact hb),fun y c e z=>q.2 y c e z,fun p hp=>absurd (show p∈([]:List (Addr×Obj)) from(by subst hY;exact hp)) (by simp)⟩
    have eA:Y.A=X.A:=by subst hY;rfl
    have eP:Y.prog=X.prog:=by subst hY;rfl
    have eW:Y.w=X.w:=by subst hY;rfl
    have eK:Y.K=X.K:=by subst hY;rfl
    have eE:Y.env=compEnvC scope cl C X.env:=by subst hY;rfl
    have eX:Y.xe=fun _ _=>False:=by subst hY;rfl
    have eN:Y.N=x :: cy:=by subst hY;rfl
    have NO:Y.calm=true:=by subst hY;exact hc
    have SR:Jw Y ifs tc:=by subst hY;exact ht _ _ _ _
    have SV:PE Y elt te:=by subst hY;exact he _ _ _ _
    have SW:PG Y (.Name x px) (sW 0):=yU (by rw[eN];exact T.nd) (by rw[eN];rfl) (by rw[eE];exact .inl (lookup_relabel_local T.loc)) (.inr (by rw[eE];exact lookup_relabel_local T.loc))
    have xJ:∀(E':Value->Shared->Prop) (e:Value) (s':Shared),Y.xe e s'->E' e s':=fun E' e s' z=>by rw[eX] at z;exact z.elim
    refine codeAny_compLoop_tests (fun n s'=>∃i ys us H' o,Inv Y [] (o :: fB cap σ) H' s'/\tn i s'.heap/\(∀b∈fp,H' b=none)/\H' D=none/\s'.heap.get? D=some {cls:=.type "list",data:=.seq us.toArray us.length}/\Vals ys us/\W i n ys H') ?_ m0
      ⟨0,[],[],H2,none,I4,Rp,fun b hb=>(f2 b hb).1,I2.hok.fresh hD,hacc,.nil,w0⟩
    rintro n s6 ⟨i,ys,us,H6,o6,I6,NP,NQ,d6,a6,v6,w6⟩
    have SX:us.length=ys.length:=v6.length.symm
    obtain⟨hz,KZ⟩:=turn i n ys H6 w6
    rcases KZ with⟨stop,qn⟩ | ⟨go,step⟩
    . have q := DH.done Y eP eW eK NO i [] s6 (o6 :: fB cap σ) H6 (notedBy (model X.prog X.w) X.A (compEnvC scope cl C X.env) fun e s' => compPost (model X.prog X.w) X.A X.xe use Qf (.ref D) C (.error e) s') I6 (fF NQ) NP stop
      rw[eA] at q
      have NR:=I6.pinned (fp:=[D]) (fun b hb=>by rw[List.mem_singleton.mp hb];exact fD d6) (fun b hb=>by rw[List.mem_singleton.mp hb];exact⟨_,a6,fun v z=>by cases z⟩)
      have q:=DH.done Y eP eW eK NO i _ s6 (o6 :: fB cap σ) H6 (notedBy (model X.prog X.w) X.A (compEnvC scope cl C X.env) fun e s'=>compPost (model X.prog X.w) X.A X.xe use Qf (.ref D) C (.error e) s') NR (fun b hb=>?_) NP stop
      . rw [eA] at q
        refine gg q fun r s7 ⟨hr,I7⟩=>?_
        subst hr
        have a7:s7.heap.get? D=_:=(I7.pin (D,{cls:=.type "list",data:=.seq us.toArray us.length}) (List.mem_append_right _ (List.mem_append_right _ (gC (List.mem_singleton.mpr rfl) a6)))).1
        obtain⟨m7,Jx,_⟩:=I7.loc
        rw[eE] at Jx
        have K0:H6 D=none:=d6
        have SY:H6 C=none:=by have:=I7.free;rw[eE] at this;exact this
        have NS:kU X.prog X.w H6 s7.heap:=by have q:=I7.hok;rw[eP,eW] at q;exact q
        have new:cN X.prog X.w (upd H6 D (.lst ys)) s7.heap D (.lst ys):=⟨Nat.le_of_lt hz,us,us.length,v6,a7⟩
        have u7:Un (frs X.stack) fp H2 H6 s2.heap s7.heap:=by have:=I7.base;subst hY;exact this
        have S4:∀b o,s2.heap.get? b=some o->b≠D:=fun b o e=>Nat.ne_of_lt (Nat.lt_of_lt_of_le (Heap.lt_size e) hD)
        have u8:Un (frs X.stack) fp H2 (upd H6 D (.lst ys)) s2.heap s7.heap:=
          ⟨u7.keep,u7.slot,fun b o e n hx=>by rw[aJ (S4 b o e)];exact u7.free b o e n hx,u7.there,
           fun b xs e=>by have z:=u7.tups b xs e;rw[aJ (bh z K0)];exact z,fun b o u e=>by have z:=u7.rR b o u e;rw[aJ (bh z K0)];exact z,
           fun b ps e=>by obtain⟨more,z⟩:=u7.uz b ps e;exact⟨more,by rw[aJ (bh z K0)];exact z⟩⟩
        have S5:s7.os=s2.os:=by have:=I7.os;subst hY;exact this
        have I9:Inv X pins σ (upd H6 D (.lst ys)) s7:=I2.J7 (ch:=fp) S5 u8 (NS.KW K0 new) I7.bare fun b hb=>⟨(f2 b hb).2.2.2.1,(f2 b hb).2.1,(f2 b hb).2.2.2.2.1,(f2 b hb).2.2.2.2.2⟩
        exact hend D C s7 H6 ys I9 ⟨m7,Jx⟩ (I2.xA hC (by rw[aJ (Ne.symm hDC)];exact SY)) (qn D K0)
      . obtain⟨f0,f1,NT,f3,f4,f5⟩:=fF NQ b hb
        refine⟨f0,f1,NT,f3,f4,fun p hp z=>?_⟩
        rcases List.mem_append.mp hp with q' | q'
        . exact f5 p (List.mem_append_left _ q') z
        . rcases List.mem_append.mp q' with q' | q'
          . exact absurd q' (by simp)
          . have:=(oK q').1
            rw[List.mem_singleton.mp this] at z
            exact hDf (z▸hb)
    . have NR:=I6.pinned (fp:=[D]) (fun b hb=>by rw[List.mem_singleton.mp hb];exact fD d6) (fun b hb=>by rw[List.mem_singleton.mp hb];exact⟨_,a6,fun v z=>by cases z⟩)
      have Rq:∀{H':Hp},(∀b∈fp,H' b=none)->∀b∈fp,kX Y ([]++mY [D] s6.heap) H' b:=fun {H'} hn b hb=>by
        obtain⟨f0,f1,NT,f3,f4,f5⟩:=fF hn b hb
        refine⟨f0,f1,NT,f3,f4,fun p hp z=>?_⟩
        rcases List.mem_append.mp hp with q' | q'
        . exact f5 p (List.mem_append_left _ q') z
        . rcases List.mem_append.mp q' with q' | q'
          . exact absurd q' (by simp)
          . have:=(oK q').1
            rw[List.mem_singleton.mp this] at z
            exact hDf (z▸hb)
      have q:=DH.item Y eP eW eK NO i _ s6 (o6 :: fB cap σ) H6 (notedBy (model X.prog X.w) X.A (compEnvC scope cl C X.env) fun e s'=>compPost (model X.prog X.w) X.A X.xe use Qf (.ref D) C (.error e) s') NR (Rq NQ) NP go
      rw[eA] at q
      refine gg q fun r s7 ⟨u,hr,h7⟩=>?_
      subst hr
      refine B5 h7 fun⟨xv,H8,I8,r8,y8,NU,S6⟩=>?_
      have S7:=I8.pinned (Rq S6) (DH.obj _ _ NU)
      have qa:=SW _ s7 (o6 :: fB cap σ) H8 xv u _ S7 r8 (show sW 0 xv (o6 :: fB cap σ) H8 (fun σ' H'=>σ'=some xv :: fB cap σ/\H'=H8) from⟨rfl,rfl⟩)
      rw[eP,eW,eA,eE] at qa
      refine wpAny_mono qa (fun _ s9 h9=>?_) (xJ _)
      obtain⟨V5,H9,I9,e9,S8⟩:=h9
      subst e9 S8
      have qt:=SR _ s9 _ _ _ I9 (step xv _ y8)
      rw[eP,eW,eA,eE] at qt
      refine wpAny_mono qt (fun ok S9 h10=>?_) (xJ _)
      obtain⟨Tc,Rr,Mp⟩:=h10
      have back:∀{s':Shared}{H':Hp},Inv Y (([]++mY [D] s6.heap)++mY fp s7.heap) (some xv :: fB cap σ) H' s'->Inv Y [] (some xv :: fB cap σ) H' s'/\tn (i+1) s'.heap/\(∀b∈fp,H' b=none)/\H' D=none/\s'.heap.get? D=some {cls:=.type "list",data:=.seq us.toArray us.length}:=fun {s' H'} J=>by
        refine⟨J.kY.kY,DH.keep _ _ _ NU fun b hb o e=>(J.pin (b,o) (List.mem_append_right _ (List.mem_append_right _ (gC hb e)))).1,fun b hb=>?_,?_,?_⟩
        . obtain⟨o,e,d⟩:=DH.obj _ _ NU b hb
          exact(J.pin (b,o) (List.mem_append_right _ (List.mem_append_right _ (gC hb e)))).2.1
        . exact(J.pin (D,_) (List.mem_append_right _ (List.mem_append_left _ (List.mem_append_right _ (gC (List.mem_singleton.mpr rfl) a6))))).2.1
        . exact(J.pin (D,_) (List.mem_append_right _ (List.mem_append_left _ (List.mem_append_right _ (gC (List.mem_singleton.mpr rfl) a6))))).1
      cases ok with
      | false=>
        rw[if_neg (by decide)] at Mp ⊢
        obtain⟨m',hm,Td⟩:=Mp
        obtain⟨b1,b2,b3,b4,b5⟩:=back Rr
        exact⟨m',hm,i+1,ys,us,Tc,some xv,b1,b2,b3,b4,b5,v6,Td⟩
      | true=>
        rw[if_pos rfl] at Mp ⊢
        have qe:=SV _ S9 _ _ _ Rr Mp
        rw[eP,eW,eA,eE] at qe
        refine wpAny_mono qe (fun y NV h11=>?_) (xJ _)
        obtain⟨yv,Rt,Te,Tf,m',hm,Tg⟩:=h11
        obtain⟨b1,b2,b3,b4,b5⟩:=back Te
        refine append_at (hsz:=by rw[List.size_toArray,SX];exact Nat.le_of_lt hz) b5 fun h12 NW NX=>?_
        have Hz:∀b o,b≠D->NV.heap.get? b=some o->h12.get? b=some o:=fun b o hb e=>NW.extBut b o hb e
        obtain⟨g0,g1,g2,g3,g4,g5⟩:=fD b4
        have Th:Inv Y [] (some xv :: fB cap σ) Rt {NV with heap:=h12}:=b1.turned (t':=NV.toks) Hz g0 g1 g3 g4 g5
        refine⟨m',hm,i+1,ys++[yv],us++[y],Rt,some xv,Th,DH.keep _ _ _ b2 fun b hb o e=>Hz b o (fun z=>hDf (z▸hb)) e,b3,b4,NX.trans (congrArg some (Hy us y)),v6.append (.cons Tf .nil),Tg⟩
  exact codeAny_compStart_list (key _ rfl) (DH.self _ 0 _ _ _ Rp (key _ rfl))
theorem B7 {X:Cx}{elt iter:Expr}{ifs:List Expr}{x:Str}{px pos:Pos}{scope:Scope}{cl:List (Str×Addr)}{cy:List Str}{cap:List Nat}{wi:TI}{tc:TT}{te:TE}
  (T:i7 X x cy cap scope cl) (hc:X.calm=true) (hi:PI X (.Name x px) iter wi)
  (ht:∀C s H fp,Jw (g7 X (x :: cy) scope cl C s H fp) ifs tc) (he:∀C s H fp,PE (g7 X (x :: cy) scope cl C s H fp) elt te)
  (hs:∀x,foldedSetIterable iter X.env x=pure x:=by intro _;rfl):
  PE X (.ListComp elt [⟨.Name x px,iter,ifs,0⟩] scope pos) (Mn wi cap tc te):=by
 intro pins s σ H Q I h
 rw[eval_ListComp]
 refine qz T hc hi ht he hs I h ?_
 rintro p C s7 H6 ys I9 ⟨m7,Jx⟩ ⟨g0,g1,g2,g3,g4,g5⟩ q
 exact⟨m7,Jx,fun h' hs'=>⟨.ref p,_,I9.turned (t':=s7.toks) (fun b o hb e=>hs'.extBut b o hb e) g0 g1 g3 g4 g5,rfl,q⟩⟩
theorem B8 {X:Cx}{elt iter:Expr}{ifs:List Expr}{x:Str}{px pos:Pos}{scope:Scope}{cl:List (Str×Addr)}{cy:List Str}{cap:List Nat}{wi:TI}{tc:TT}{te:TE}{i:Nat}{y:Str}{py spos:Pos}
  (T:i7 X x cy cap scope cl) (hc:X.calm=true) (hi:PI X (.Name x px) iter wi)
  (ht:∀C s H fp,Jw (g7 X (x :: cy) scope cl C s H fp) ifs tc) (he:∀C s H fp,PE (g7 X (x :: cy) scope cl C s H fp) elt te)
  (hs:∀x,foldedSetIterable iter X.env x=pure x) (hN:X.N.Nodup) (hy:X.N[i]? =some y) (hx:Loc X.env.scope y)
  (hsw:swapsWith (.ListComp elt [⟨.Name x px,iter,ifs,0⟩] scope pos) (some (.Name y py)) spos.line X.env=pure true) (hf:X.fn y=true\/X.env.scope.names.lookup y=some .local):
  PS X (.Assign [.Name y py] (.ListComp elt [⟨.Name x px,iter,ifs,0⟩] scope pos) spos) (D0 (Mn wi cap tc te) (sW i)):=by
 intro pins s σ H D I h
 rw[exec_Assign_Name_used _ _ _ _ hsw]
 refine wpAny_bind (wpAny_standAt (wpAny_bind ?_))
 show wpAny _ X.A (do let _ <-comprehension (.ListComp elt [⟨.Name x px,iter,ifs,0⟩] scope pos) scope X.env _ (newList []) false (eval iter X.env) (some (assign (.Name y py) X.env))) _ _ s
 refine wpAny_bind (wpAny_mono (qz (Qf:=fun _ s'=>SP X pins D .next s') T hc hi ht he hs I h ?_) (fun _ s' hq=>wpAny_pure (wpAny_pure hq)) fun _ _ e=>e)
 rintro p C s7 H6 ys I9 ⟨m7,Jx⟩ ⟨g0,g1,g2,g3,g4,g5⟩ q
 refine wpAny_assign_Name (sU I9 hN hy hx (v:=.ref p) (show RelV (.ref p) (.ref p) from rfl) (fun s8 I8 ⟨a,hsb,ha⟩=>?_) hf)
 have hne:C≠a:=ha.elim (fun z=>by rw[z];exact g1) fun z=>Ne.symm (g4 _ _ z)
 refine⟨m7,Jx.sameBut hsb hne,fun h' hs'=>?_⟩
 exact⟨_,_,I8.turned (t':=s8.toks) (fun b o hb e=>hs'.extBut b o hb e) g0 g1 g3 g4 g5,q⟩
noncomputable def NY (z:Str):It:=⟨fun i _=>i < z.cps.size,fun i H x H'=>H'=H/\∃c,z.cps[i]? =some c/\x= .str ⟨#[c]⟩,fun i _=>z.cps.size<=i⟩
theorem B9 {P:Program}{w:World}{K:PySem.W.Frag}{x:Str}{px:Pos}(z:Str) (it:Addr) (t:Tok) (ty:String) (hW:∀A':Around,A'.handled=none->Walks P w A' it [it] [it] z.cps.size (SignAt z) fun i h=>h.IsStrIter it ty z t i)
  (hself:∀(A:Around) (i:Nat) (s:Shared) (Q:Value->Shared->Prop) (E:Value->Shared->Prop),s.heap.IsStrIter it ty z t i->Q (.ref it) s->wpAny (model P w) A (pyIter (.ref it)) Q E s):
  Turn P w K (.Name x px) (NY z) [it] it (fun i h=>i<=z.cps.size/\h.IsStrIter it ty z t i) where
 mem:=by simp
 obj:=fun i h st b hb=>by
  obtain rfl:b=it:=by simpa using hb
  obtain⟨o,e,c,d⟩:=st.2
  exact⟨o,e,fun v q=>by rw[d] at q;cases q⟩
 keep:=fun i h h' st k=>by
  obtain⟨o,e,r⟩:=st.2
  exact⟨st.1,o,k it (by simp) o e,r⟩
 item:=by
  intro X hP hw hK hc i pins s σ H E I hf st hg
  subst hP hw hK
  obtain⟨f0,f1,f2,f3,f4,f5⟩:=hf it (by simp)
  refine(hW X.A (I.ok.hd hc)).item i s _ _ hg st.2 fun v h' tk hv st' kk=>?_
  obtain⟨c,u,hc',rfl⟩:=hv
  exact⟨_,rfl,wpAny_pure ⟨.str ⟨#[c]⟩,H,I.turned (fun b o hb e=>kk b o (by simpa using hb) e) f0 f1 f3 f4 f5,⟨u,rfl⟩,⟨rfl,c,hc',rfl⟩,⟨hg,st'⟩,fun b hb=>(hf b hb).1⟩⟩
 done:=by
  intro X hP hw hK hc i pins s σ H E I hf st hg
  subst hP hw hK
  obtain⟨f0,f1,f2,f3,f4,f5⟩:=hf it (by simp)
  obtain⟨s1,s2⟩:=st
  have e:i=z.cps.size:=Nat.le_antisymm s1 hg
  subst e
  exact(hW X.A (I.ok.hd hc)).done s _ _ s2 fun h' tk kk=>⟨rfl,I.turned (fun b o hb e=>kk b o (by simpa using hb) e) f0 f1 f3 f4 f5⟩
 self:=fun A i s Q E st h=>hself A i s Q E st.2 h
noncomputable def NZ (tl:TE):TI:=fun σ H R=>tl σ H fun x H1=>∃z,x= .str z/\R (NY z) H1
theorem HA {X:Cx}{x:Str}{px:Pos}{l:Expr}{tl:TE}(hl:PE X l tl):PI X (.Name x px) l (NZ tl):=by
 intro pins s σ H R I h
 refine gg (hl pins s σ H _ I h) fun v s1 ⟨y,H1,I1,r1,q1⟩=>?_
 obtain⟨z,rfl,q⟩:=q1
 obtain⟨t,rfl⟩:=r1
 refine wpAny_pyIter_strU ?_
 have hst:∀ty,strIterType z=ty->(s1.heap.push {cls:=.type (strIterType z),data:=.fields #[.str z t,.int 0 0]}).IsStrIter s1.heap.objs.size ty z t 0:=fun ty e=>⟨_,Heap.get?_push_size _ rfl,by rw[<-e],rfl⟩
 have go:∀ty,strIterType z=ty->(∀A':Around,A'.handled=none->Walks X.prog X.w A' s1.heap.objs.size [s1.heap.objs.size] [s1.heap.objs.size] z.cps.size (SignAt z) fun i h=>h.IsStrIter s1.heap.objs.size ty z t i)->
   (∀(A:Around) (i:Nat) (s:Shared) (Q:Value->Shared->Prop) (E:Value->Shared->Prop),s.heap.IsStrIter s1.heap.objs.size ty z t i->Q (.ref s1.heap.objs.size) s->wpAny (model X.prog X.w) A (pyIter (.ref s1.heap.objs.size)) Q E s)->
   Nt X pins σ (.Name x px) R (.ref s1.heap.objs.size) {s1 with heap:=s1.heap.push {cls:=.type (strIterType z),data:=.fields #[.str z t,.int 0 0]}}:=fun ty e hW hself=>by
  refine⟨s1.heap.objs.size,[s1.heap.objs.size],_,_,H1,rfl,I1.kept (t':=s1.toks) fun b o e=>Heap.get?_push_of_some _ e,B9 z _ t ty hW hself,⟨Nat.zero_le _,hst ty e⟩,fun b hb=>?_,q⟩
  obtain rfl:b=s1.heap.objs.size:=by simpa using hb
  exact I1.xA (Nat.le_refl _) (I1.hok.fresh (Nat.le_refl _))
 cases ha:z.cps.all (· < 128)
 ·exact go "str_iterator" (by simp[strIterType,ha]) (fun A' hA=>Walks.strWide hA _ z t) fun A i s Q E st h=>wpAny_pyIter_striter_wide st h
 ·exact go "str_ascii_iterator" (by simp[strIterType,ha]) (fun A' hA=>Walks.strAscii hA _ z t) fun A i s Q E st h=>wpAny_pyIter_striter_ascii st h
theorem Ca {bs:List Bool}:∀{us:List Value},Vals (bs.map V.bl) us->us=bs.map Value.bool:=by
 induction bs with
 | nil=>intro us r;cases r;rfl
 | cons b bs ih=>
  intro us r
  cases r with
  | cons r1 r2=>
   cases r1
   rw[ih r2]
   rfl
theorem xK (bs:List Bool):((List.range bs.length).all fun i=>(bs[i]?).getD true)=bs.all id:=by
 rw[Bool.eq_iff_iff,List.all_eq_true,List.all_eq_true]
 constructor
 ·intro h b hb
  obtain⟨i,hi,rfl⟩:=List.mem_iff_getElem.mp hb
  have:=h i (List.mem_range.mpr hi)
  simpa[hi] using this
 ·intro h i hi
  have hi:=List.mem_range.mp hi
  simp only[List.getElem?_eq_getElem hi,Option.getD_some]
  exact h _ (List.getElem_mem hi)
theorem Ao {X:Cx}(hc:X.calm=true):gq X (.builtin "all") (fun xs H Q=>∃(p:Addr) (bs:List Bool),xs=[.ref p]/\nC X.K H p (bs.map V.bl)/\Q (.bl (bs.all id)) H):=by
 intro pins s σ H xs us Q I r h
 obtain⟨p,bs,rfl,hp,q⟩:=h
 obtain⟨u,rfl,ru⟩:=vals1 r
 cases ru
 obtain⟨its,rv,pl,hz⟩:=I.list hp
 obtain rfl:=Ca rv
 have hlt:p < s.heap.objs.size:=by obtain⟨_,e,_⟩:=pl.isList;exact Heap.lt_size e
 refine call_all_walk (wpAny_pyIter_list pl.isList ?_)
 refine⟨s.heap.objs.size,[s.heap.objs.size,p],[s.heap.objs.size],_,_,_,fun i=>(bs[i]?).getD true,rfl,Walks.list (A:=X.A.in1) (I.ok.hd hc) _ p (Nat.ne_of_lt hlt) _,
  ⟨⟨_,Heap.get?_push_size _ rfl,rfl,rfl⟩,pl.isList.push _⟩,fun i v s' Q' E' hP hQ=>?_,fun h' tk hk=>?_⟩
 ·have hP:(bs.map Value.bool)[i]? =some v:=by simpa using hP
  rw[List.getElem?_map] at hP
  cases e:bs[i]? with
  | none=>rw[e] at hP;cases hP
  | some b=>
   rw[e] at hP
   cases hP
   simp only[e,Option.getD_some] at hQ
   exact wpAny_truthy_bool hQ
 ·have e:((List.range (bs.map Value.bool).toArray.size).all fun i=>(bs[i]?).getD true)=bs.all id:=by
   rw[List.size_toArray,List.length_map];exact xK bs
  rw[e]
  exact⟨.bl (bs.all id),H,I.kept (t':=tk) fun b o e=>hk b o (fun hm=>by rw[List.mem_singleton.mp hm] at e;exact Nat.lt_irrefl _ (Heap.lt_size e)) (Heap.get?_push_of_some _ e),rfl,q⟩
theorem aR.length {H:Hp}:∀{vs:List V}{ds:List D},aR H vs ds->vs.length=ds.length
 | _,_,.nil=>rfl
 | _,_,.cons _ rs=>congrArg Nat.succ (aR.length rs)
theorem aR.get {H:Hp}:∀{vs:List V}{ds:List D}{i:Nat}{d:D},aR H vs ds->ds[i]? =some d->∃v,vs[i]? =some v/\Rep H v d
 | _,_,_,_,.nil,e=>by simp at e
 | _,_,0,_,.cons r _,e=>by simp at e;subst e;exact⟨_,rfl,r⟩
 | _,_,i+1,_,.cons _ rs,e=>by
  obtain⟨v,h1,h2⟩:=aR.get (i:=i) rs (by simpa using e)
  exact⟨v,by simpa using h1,h2⟩
theorem aR.append {H:Hp}:∀{vs ws:List V}{ds es:List D},aR H vs ds->aR H ws es->aR H (vs++ws) (ds++es)
 | _,_,_,_,.nil,s=>s
 | _,_,_,_,.cons r rs,s=>.cons r (aR.append rs s)
theorem aR.take {H:Hp}:∀{vs:List V}{ds:List D}(n:Nat),aR H vs ds->aR H (vs.take n) (ds.take n)
 | _,_,0,_=>.nil
 | _,_,_+1,.nil=>.nil
 | _,_,n+1,.cons r rs=>.cons r (aR.take n rs)
theorem aR.drop {H:Hp}:∀{vs:List V}{ds:List D}(n:Nat),aR H vs ds->aR H (vs.drop n) (ds.drop n)
 | _,_,0,rs=>rs
 | _,_,_+1,.nil=>.nil
 | _,_,n+1,.cons _ rs=>aR.drop n rs
noncomputable def HB:D->String
 | .bM=>"NoneType" | .bl _=>"bool" | .int _=>"int" | .str _=>"str" | .tup _=>"tuple" | .lst _=>"list"
open PySem.W in
noncomputable def gZ (T U:String):Option Bool:=if(Value.type T == Value.type U)=true then some true else if kitMeta U=true then(fastBuiltinMro T).map (·.contains (Value.type U)) else none
noncomputable def Cb:D->Bool
 | .tup _=>true
 | _=>false
noncomputable def Cc:D->Bool
 | .lst _=>true
 | _=>false
noncomputable def Cd:D->Bool
 | .str _=>true
 | _=>false
noncomputable def Gg:D->Bool
 | .bl _=>true
 | _=>false
noncomputable def Ce:D->Bool
 | .int _=>true
 | .bl _=>true
 | _=>false
theorem El {K:PySem.W.Frag}(d:D):PySem.W.kitOne K (.type (HB d)) (.type "tuple")=some (Cb d):=by
 cases d with
 | bM=>exact(show gZ "NoneType" "tuple" =some false by decide +kernel)
 | bl b=>exact(show gZ "bool" "tuple" =some false by decide +kernel)
 | int i=>exact(show gZ "int" "tuple" =some false by decide +kernel)
 | str z=>exact(show gZ "str" "tuple" =some false by decide +kernel)
 | tup ds=>exact(show gZ "tuple" "tuple" =some true by decide +kernel)
 | lst ds=>exact(show gZ "list" "tuple" =some false by decide +kernel)
theorem Em {K:PySem.W.Frag}(d:D):PySem.W.kitOne K (.type (HB d)) (.type "list")=some (Cc d):=by
 cases d with
 | bM=>exact(show gZ "NoneType" "list" =some false by decide +kernel)
 | bl b=>exact(show gZ "bool" "list" =some false by decide +kernel)
 | int i=>exact(show gZ "int" "list" =some false by decide +kernel)
 | str z=>exact(show gZ "str" "list" =some false by decide +kernel)
 | tup ds=>exact(show gZ "tuple" "list" =some false by decide +kernel)
 | lst ds=>exact(show gZ "list" "list" =some true by decide +kernel)
theorem Cf {K:PySem.W.Frag}(d:D):PySem.W.kitOne K (.type (HB d)) (.type "str")=some (Cd d):=by
 cases d with
 | bM=>exact(show gZ "NoneType" "str" =some false by decide +kernel)
 | bl b=>exact(show gZ "bool" "str" =some false by decide +kernel)
 | int i=>exact(show gZ "int" "str" =some false by decide +kernel)
 | str z=>exact(show gZ "str" "str" =some true by decide +kernel)
 | tup ds=>exact(show gZ "tuple" "str" =some false by decide +kernel)
 | lst ds=>exact(show gZ "list" "str" =some false by decide +kernel)
theorem HC {K:PySem.W.Frag}(d:D):PySem.W.kitOne K (.type (HB d)) (.type "bool")=some (Gg d):=by
 cases d with
 | bM=>exact(show gZ "NoneType" "bool" =some false by decide +kernel)
 | bl b=>exact(show gZ "bool" "bool" =some true by decide +kernel)
 | int i=>exact(show gZ "int" "bool" =some false by decide +kernel)
 | str z=>exact(show gZ "str" "bool" =some false by decide +kernel)
 | tup ds=>exact(show gZ "tuple" "bool" =some false by decide +kernel)
 | lst ds=>exact(show gZ "list" "bool" =some false by decide +kernel)
theorem En {K:PySem.W.Frag}(d:D):PySem.W.kitOne K (.type (HB d)) (.type "int")=some (Ce d):=by
 cases d with
 | bM=>exact(show gZ "NoneType" "int" =some false by decide +kernel)
 | bl b=>exact(show gZ "bool" "int" =some true by decide +kernel)
 | int i=>exact(show gZ "int" "int" =some true by decide +kernel)
 | str z=>exact(show gZ "str" "int" =some false by decide +kernel)
 | tup ds=>exact(show gZ "tuple" "int" =some false by decide +kernel)
 | lst ds=>exact(show gZ "list" "int" =some false by decide +kernel)
end L2
end
section
namespace HT
open PySem PySem.Spec PyProof.Rows
section
variable {prog:Program}{w:World}{A:Around}{E:Value->Shared->Prop}{s:Shared}
end
end HT
end
section
namespace L2
open PySem PySem.Spec PyProof.Rows
section
variable {X:Cx}
theorem aR.dj {H:Hp}{vs:List V}{ds:List D}{i:Int}{d:D}(r:aR H vs ds) (h:L2.dj ds i=some d):∃v,L2.dj vs i=some v/\Rep H v d:=by
 have hl:=r.length
 unfold L2.dj at h ⊢
 rw[hl]
 cases e:BS ds.length i with
 | none=>rw[e] at h;cases h
 | some j=>
  rw[e] at h
  exact r.get h
end
theorem vM {scope:Scope}{env:Env}{n:Str}{k:NameKind}(h:(relabel scope env).names.lookup n=some k):(n,k)∈(relabel scope env).names:=PySem.mem_of_lookup h
theorem xM {X:Cx}{x:Str}{scope:Scope}(h1:∀y∈scope.names,y.2≠.free) (h2:∀y∈scope.names,y.2≠.cell) (h3:scope.kind= .function) (h4:∀y∈scope.names,y.2= .local->scope.names.lookup y.1=some .local) (h5:scope.names.lookup x=some .local):
  i7 X x [] [] scope []:=by
 refine⟨closureFor_none h1,h2,h3,h4,h5,fun n c h=>(by cases h),fun n h=>?_,by simp,rfl,fun j n h=>(by simp at h),fun n h=>(by simp at h)⟩
 have no:∀k,(k=NameKind.cell\/k=NameKind.free)->(relabel scope X.env).names.lookup n≠some k:=fun k hk e=>by
  have m:=vM e
  unfold relabel at m
  obtain⟨⟨n',k'⟩,hm,q⟩:=List.mem_map.mp m
  have z:(k' == NameKind.free)=false:=by simpa using h1 _ hm
  simp only[z,Bool.false_and,if_false] at q
  have q2:k'=k:=by
   have:=congrArg Prod.snd q
   simpa using this
  rcases hk with rfl | rfl
  ·exact h2 _ hm q2
  ·exact h1 _ hm q2
 rcases h with h | h
 ·exact absurd h (no _ (.inl rfl))
 ·exact absurd h (no _ (.inr rfl))
mutual
noncomputable def Ti (n:Nat):D->Prop
 | .str z=>z.length<=n
 | .tup ds=>ds.length<=n/\Fits n ds
 | .lst ds=>ds.length<=n/\Fits n ds
 | .bM=>True
 | .bl _=>True
 | .int _=>True
noncomputable def Fits (n:Nat):List D->Prop
 | []=>True
 | d :: ds=>Ti n d/\Fits n ds
end
theorem Fits.take {n:Nat}:∀{ds:List D}(k:Nat),Fits n ds->Fits n (ds.take k)
 | _,0,_=>True.intro
 | [],_+1,_=>True.intro
 | _ :: _,k+1,h=>⟨h.1,Fits.take k h.2⟩
theorem Fits.drop {n:Nat}:∀{ds:List D}(k:Nat),Fits n ds->Fits n (ds.drop k)
 | _,0,h=>h
 | [],_+1,_=>True.intro
 | _ :: _,k+1,h=>Fits.drop k h.2
noncomputable def Ru:Str:="abcdefghijklmnopqrstuvwxyz"
noncomputable def sign (c:Nat):Bool:=!(Builtin.Str.occurrences Ru ⟨#[c]⟩ 0 Ru.length 1).isEmpty
theorem lookup_some {α : Type} : ∀ {l : List (Str × α)} {n : Str}, n ∈ l.map (·.1) -> ∃ c, l.lookup n = some c
  | [],_,h=>by simp at h
  | (m, c) :: l, n, h => by
    rw[List.lookup_cons]
    cases e:n == m with
    | true=>exact⟨c,rfl⟩
    | false=>
      rcases List.mem_cons.mp h with h | h
      . have h:n=m:=h
        rw[h,beq_self_eq_true] at e
        cases e
      . exact lookup_some h
mutual
noncomputable def toPy:D->PyData
 | .bM=>.none
 | .bl b=>.bool b
 | .int i=>.int i
 | .str z=>.str z
 | .tup ds=>.tuple (fC ds)
 | .lst ds=>.list (fC ds)
noncomputable def fC:List D->List PyData
 | []=>[]
 | d :: ds=>toPy d :: fC ds
end
section
variable {X:Cx}{pins:List (Addr×Obj)}{σ:St}{H:Hp}{s:Shared}
end
mutual
theorem pK:∀d:D,(toPy d).hasDict=false
 | .bM=>rfl
 | .bl _=>rfl
 | .int _=>rfl
 | .str _=>rfl
 | .tup ds=>kE ds
 | .lst ds=>kE ds
theorem kE:∀ds:List D,PyData.hasDictAll (fC ds)=false
 | []=>rfl
 | d :: ds=>by
  show((toPy d).hasDict || PyData.hasDictAll (fC ds))=false
  rw[pK d,kE ds]
  rfl
end
inductive MO where
 | lst (ds:List D)
 | dct (kvs:List (Key×D))
 | lU (kvs:List (D×D))
 | ins (C:Addr) (kvs:List (Str×D))
inductive U where
 | t (d:D) | m (o:MO) | b (o:MO) | v (i:Nat) | s (ns:List Int) | f (a:Addr)
noncomputable abbrev SS:=List (Option U)
noncomputable def Sub (F H:Hp):Prop:=∀a o,F a=some o->H a=some o
noncomputable def i6 {κ:Type}(F:Hp) (p:κ×V) (q:κ×D):Prop:=p.1=q.1/\Rep F p.2 q.2
noncomputable def At (F H:Hp) (a:Addr):MO->Prop
 | .lst ds=>∃vs,H a=some (.lst vs)/\aR F vs ds
 | .dct kvs=>∃ws,H a=some (.dK ws)/\Paired (i6 F) ws kvs
 | .lU kvs=>∃ws,H a=some (.dT ws)/\Paired (i6 F) ws kvs
 | .ins C kvs=>∃ws,(∃dx,H a=some (.ins C dx ws))/\Paired (i6 F) ws kvs
noncomputable def fE:U->Bool
 | .m _=>true
 | .b _=>true
 | _=>false
noncomputable def cT (S:SS) (σ:St) (a:Addr):Prop:=∃(i:Nat) (u:U),S[i]? =some (some u)/\fE u=true/\σ[i]? =some (some (.ref a))
noncomputable def Eo (K:PySem.W.Frag) (H:Hp) (a:Addr) (ns:List Int):Prop:=
 (∃o,H a=some (.kC o (.lst (ns.map V.int))))\/∃(o:Obj) (its:Array Value) (n:Nat),K.lookup a=some o/\o.cls= .type "list"/\o.dict=none/\o.data= .seq its n/\its.size<=sizeLine/\Vals (ns.map V.int) its.toList
theorem Eo.sq {K:PySem.W.Frag}{H:Hp}{a:Addr}{ns:List Int}:Eo K H a ns->nC K H a (ns.map V.int)
 | .inl h=>.inl (.inr h)
 | .inr h=>.inr h
noncomputable def rU (K:PySem.W.Frag) (F H:Hp) (v:V):U->Prop
 | .t d=>Rep F v d
 | .m o=>∃a,v= .ref a/\F a=none/\At F H a o
 | .b o=>∃a,v= .ref a/\F a=none/\At F H a o
 | .v _=>False
 | .s ns=>∃a,v= .ref a/\Eo K H a ns
 | .f a=>v= .ref a
structure Ext (M:Addr->Prop) (F H F' H':Hp):Prop where
 le:∀b o,F b=some o->F' b=some o
 keep:∀b o,H b=some o->¬M b->H' b=some o
 jU:∀b o,H b=some o->¬M b->F b=none->F' b=none
 there:∀b o,H b=some o->∃o',H' b=some o'
 kC:∀b o u,H b=some (.kC o u)->H' b=some (.kC o u)
structure Base where
 P:List (Option Addr)
 F:Hp
 H:Hp
noncomputable def Base.M (B:Base) (a:Addr):Prop:=some a∈B.P
structure Rel (K:PySem.W.Frag) (B:Base) (S:SS) (σ:St) (F H:Hp):Prop where
 sub:Sub F H
 len:S.length=σ.length
 rep:∀(i:Nat) u,S[i]? =some (some u)->∃v,σ[i]? =some (some v)/\rU K F H v u
 Aq:∀(i j:Nat) u w a,S[i]? =some (some u)->fE u=true->S[j]? =some (some w)->fE w=true->σ[i]? =some (some (.ref a))->σ[j]? =some (some (.ref a))->i=j
 own:∀(i:Nat) o a,S[i]? =some (some (.m o))->σ[i]? =some (some (.ref a))->B.H a=none
 bor:∀(i:Nat) o a,S[i]? =some (some (.b o))->σ[i]? =some (some (.ref a))->B.M a
 par:∀(i:Nat) a,B.P[i]? =some (some a)->σ[i]? =some (some (.ref a))/\∃o,S[i]? =some (some (.b o))
 ext:Ext B.M B.F B.H F H
structure Step (S S':SS) (σ:St) (F H F' H':Hp):Prop where
 ext:Ext (cT S σ) F H F' H'
 mu:∀a,cT S' σ a->cT S σ a
 slots:∀(i:Nat) u,S[i]? =some (some u)->∃u',S'[i]? =some (some u')
theorem Ext.refl (M:Addr->Prop) (F H:Hp):Ext M F H F H:=⟨fun _ _ h=>h,fun _ _ h _=>h,fun _ _ _ _ h=>h,fun _ o h=>⟨o,h⟩,fun _ _ _ h=>h⟩
theorem Ext.trans {M M':Addr->Prop}{F H F1 H1 F2 H2:Hp}(x:Ext M F H F1 H1) (y:Ext M' F1 H1 F2 H2) (s:∀b,M' b->M b\/H b=none):Ext M F H F2 H2 where
 le:=fun b o h=>y.le b o (x.le b o h)
 keep:=fun b o h n=>y.keep b o (x.keep b o h n) fun q=>(s b q).elim n fun z=>by rw[h] at z;cases z
 jU:=fun b o h n f=>y.jU b o (x.keep b o h n) (fun q=>(s b q).elim n fun z=>by rw[h] at z;cases z) (x.jU b o h n f)
 there:=fun b o h=>let⟨o',h'⟩:=x.there b o h;y.there b o' h'
 kC:=fun b o u h=>y.kC b o u (x.kC b o u h)
theorem Step.refl (S:SS) (σ:St) (F H:Hp):Step S S σ F H F H:=⟨Ext.refl _ _ _,fun _ h=>h,fun _ u h=>⟨u,h⟩⟩
theorem Step.trans {S S1 S2:SS}{σ:St}{F H F1 H1 F2 H2:Hp}(x:Step S S1 σ F H F1 H1) (y:Step S1 S2 σ F1 H1 F2 H2):Step S S2 σ F H F2 H2:=
 ⟨x.ext.trans y.ext fun b q=>.inl (x.mu b q),fun a q=>x.mu a (y.mu a q),fun i u h=>let⟨u',h'⟩:=x.slots i u h;y.slots i u' h'⟩
mutual
theorem Rep.le {F F':Hp}(g:∀b o,F b=some o->F' b=some o):∀{v:V}{d:D},Rep F v d->Rep F' v d
 | _,_,.bM=>.bM
 | _,_,.bl b=>.bl b
 | _,_,.int i=>.int i
 | _,_,.str z=>.str z
 | _,_,.tup e r=>.tup (g _ _ e) (aR.le g r)
 | _,_,.lst e r=>.lst (g _ _ e) (aR.le g r)
theorem aR.le {F F':Hp}(g:∀b o,F b=some o->F' b=some o):∀{vs:List V}{ds:List D},aR F vs ds->aR F' vs ds
 | _,_,.nil=>.nil
 | _,_,.cons r rs=>.cons (Rep.le g r) (aR.le g rs)
end
theorem qA {κ:Type}{F F':Hp}(g:∀b o,F b=some o->F' b=some o){ws:List (κ×V)}{kvs:List (κ×D)}(r:Paired (i6 F) ws kvs):Paired (i6 F') ws kvs:=
 Paired.Aa r fun _ _ z=>⟨z.1,z.2.le g⟩
theorem At.le {F F' H H':Hp}{a:Addr}(g:∀b o,F b=some o->F' b=some o) (k:∀o,H a=some o->H' a=some o):∀{o:MO},At F H a o->At F' H' a o
 | .lst _,⟨vs,e,r⟩=>⟨vs,k _ e,r.le g⟩
 | .dct _,⟨ws,e,r⟩=>⟨ws,k _ e,qA g r⟩
 | .lU _,⟨ws,e,r⟩=>⟨ws,k _ e,qA g r⟩
 | .ins _ _,⟨ws,⟨dx,e⟩,r⟩=>⟨ws,⟨dx,k _ e⟩,qA g r⟩
theorem At.has {F H:Hp}{a:Addr}:∀{o:MO},At F H a o->∃u,H a=some u
 | .lst _,⟨_,e,_⟩=>⟨_,e⟩
 | .dct _,⟨_,e,_⟩=>⟨_,e⟩
 | .lU _,⟨_,e,_⟩=>⟨_,e⟩
 | .ins _ _,⟨_,⟨_,e⟩,_⟩=>⟨_,e⟩
noncomputable def jG (K:PySem.W.Frag) (B:Base) (S:SS) (σ:St) (H0 F H:Hp) (v:V):U->Prop
 | .t d=>Rep F v d
 | .m o=>∃a,v= .ref a/\H0 a=none/\F a=none/\At F H a o/\¬cT S σ a/\B.H a=none
 | .v i=>σ[i]? =some (some v)/\∃u,S[i]? =some (some u)
 | .b _=>False
 | .s ns=>∃a,v= .ref a/\Eo K H a ns
 | .f a=>v= .ref a
theorem PE.imp {X:Cx}{e:Expr}{t t':TE}(h:PE X e t) (k:∀σ H Q,t' σ H Q->t σ H Q):PE X e t':=fun pins s σ H Q I q=>h pins s σ H Q I (k σ H Q q)
theorem PT.imp {X:Cx}{e:Expr}{t t':TT}(h:PT X e t) (k:∀σ H Q,t' σ H Q->t σ H Q):PT X e t':=fun pins s σ H Q I q=>h pins s σ H Q I (k σ H Q q)
theorem PW.imp {X:Cx}{e:Expr}{t t':TT}(h:PW X e t) (k:∀σ H Q,t' σ H Q->t σ H Q):PW X e t':=fun w pins s σ H Q I q=>h w pins s σ H Q I (k σ H Q q)
theorem PA.imp {X:Cx}{e:List Expr}{t t':TA}(h:PA X e t) (k:∀σ H Q,t' σ H Q->t σ H Q):PA X e t':=fun p pins s σ H Q I q=>h p pins s σ H Q I (k σ H Q q)
theorem PS.imp {X:Cx}{e:Stmt}{t t':TS}(h:PS X e t) (k:∀D σ H,t' D σ H->t D σ H):PS X e t':=fun pins s σ H Q I q=>h pins s σ H Q I (k Q σ H q)
theorem vD.imp {X:Cx}{e:List Stmt}{t t':TS}(h:vD X e t) (k:∀D σ H,t' D σ H->t D σ H):vD X e t':=fun pins s σ H Q I q=>h pins s σ H Q I (k Q σ H q)
theorem PE.orelse {X:Cx}{e:Expr}{t:TE}(h:∀σ H Q,t σ H Q->∃t',PE X e t'/\t' σ H Q):PE X e t:=fun pins s σ H Q I q=>let⟨_,h1,h2⟩:=h σ H Q q;h1 pins s σ H Q I h2
theorem PS.orelse {X:Cx}{e:Stmt}{t:TS}(h:∀D σ H,t D σ H->∃t',PS X e t'/\t' D σ H):PS X e t:=fun pins s σ H Q I q=>let⟨_,h1,h2⟩:=h Q σ H q;h1 pins s σ H Q I h2
noncomputable abbrev GE:=SS->Option (U×SS)
noncomputable abbrev GD:=SS->Option (D×SS)
noncomputable abbrev GT:=SS->Option (Bool×SS)
noncomputable abbrev GA:=SS->Option (List D×SS)
inductive Out where
 | nx (S:SS) | rt (u:U) (S:SS) | bk (S:SS) | ct (S:SS)
noncomputable abbrev GS:=SS->Option Out
noncomputable def tE (K:PySem.W.Frag) (B:Base) (g:GE):TE:=fun σ H Q=>∃S F u S',Rel K B S σ F H/\g S=some (u,S')/\∀v F' H',Rel K B S' σ F' H'->Step S S' σ F H F' H'->jG K B S' σ H F' H' v u->Q v H'
noncomputable def tD (K:PySem.W.Frag) (B:Base) (g:GD):TE:=fun σ H Q=>∃S F d S',Rel K B S σ F H/\g S=some (d,S')/\∀v F' H',Rel K B S' σ F' H'->Step S S' σ F H F' H'->Rep F' v d->Q v H'
noncomputable def tQ (K:PySem.W.Frag) (B:Base) (g:GT):TT:=fun σ H Q=>∃S F b S',Rel K B S σ F H/\g S=some (b,S')/\∀F' H',Rel K B S' σ F' H'->Step S S' σ F H F' H'->Q b H'
noncomputable def Rv (K:PySem.W.Frag) (B:Base) (g:GA):TA:=fun σ H Q=>∃S F ds S',Rel K B S σ F H/\g S=some (ds,S')/\∀vs F' H',Rel K B S' σ F' H'->Step S S' σ F H F' H'->aR F' vs ds->Q vs H'
noncomputable def ze (K:PySem.W.Frag) (B:Base) (F:Hp) (D:Ends):Out->Prop
 | .nx S=>∀σ' F' H',Rel K B S σ' F' H'->(∀b o,F b=some o->F' b=some o)->D.nx σ' H'
 | .bk S=>∀σ' F' H',Rel K B S σ' F' H'->(∀b o,F b=some o->F' b=some o)->D.bk σ' H'
 | .ct S=>∀σ' F' H',Rel K B S σ' F' H'->(∀b o,F b=some o->F' b=some o)->D.ct σ' H'
 | .rt u S=>∀v σ' F' H',Rel K B S σ' F' H'->(∀b o,F b=some o->F' b=some o)->jG K B S σ' B.H F' H' v u->D.rt v H'
noncomputable def tO (K:PySem.W.Frag) (B:Base) (g:GS):TS:=fun D σ H=>∃S F o,Rel K B S σ F H/\g S=some o/\ze K B F D o
structure JE (X:Cx) (e:Expr) (g:GE):Prop where
 h:∀B,PE X e (tE X.K B g)
structure JD (X:Cx) (e:Expr) (g:GD):Prop where
 h:∀B,PE X e (tD X.K B g)
structure JT (X:Cx) (e:Expr) (g:GT):Prop where
 h:∀B,PT X e (tQ X.K B g)
structure JW (X:Cx) (e:Expr) (g:GT):Prop where
 h:∀B,PW X e (tQ X.K B g)
structure JA (X:Cx) (es:List Expr) (g:GA):Prop where
 h:∀B,PA X es (Rv X.K B g)
structure JS (X:Cx) (st:Stmt) (g:GS):Prop where
 h:∀B,PS X st (tO X.K B g)
structure JB (X:Cx) (st:List Stmt) (g:GS):Prop where
 h:∀B,vD X st (tO X.K B g)
noncomputable def fz:U->SS->Option (D×SS)
 | .t d,S=>some (d,S)
 | .m (.lst ds),S=>some (.lst ds,S)
 | .v i,S=>match S[i]? with
  | some (some (.t d))=>some (d,S)
  | some (some (.m (.lst ds)))=>some (.lst ds,S.set i (some (.t (.lst ds))))
  | _=>none
 | _,_=>none
theorem get_set {α:Type}{l:List α}{i j:Nat}{x y:α}(h:(l.set i x)[j]? =some y):(i=j/\x=y/\i < l.length)\/(i≠j/\l[j]? =some y):=by
 by_cases e:i=j
 ·subst e
  by_cases hl:i < l.length
  ·rw[List.getElem?_set_self hl] at h;exact .inl ⟨rfl,Option.some.inj h,hl⟩
  ·rw[List.getElem?_eq_none (by simpa using hl)] at h;cases h
 ·rw[List.getElem?_set_ne e] at h;exact .inr ⟨e,h⟩
theorem Sub.kC {F H:Hp}{a:Addr}{o:HO}(s:Sub F H) (h:H a=some o):Sub (upd F a o) H:=fun b u e=>by
 by_cases hb:b=a
 ·subst hb;rw[aK] at e;cases e;exact h
 ·rw[aJ hb] at e;exact s b u e
theorem Sub.fresh {F H:Hp}{p:Addr}(s:Sub F H) (h:H p=Option.none):F p=Option.none:=by
 cases e:F p with
 | none=>rfl
 | some o=>have q:=s p o e;rw[h] at q;cases q
theorem lu {F:Hp}{a:Addr}{o:HO}(h:F a=none):∀b u,F b=some u->upd F a o b=some u:=fun b u e=>by rw[aJ (bh e h)];exact e
theorem Eo.le {K:PySem.W.Frag}{H H':Hp}{a:Addr}{ns:List Int}(k:∀b o u,H b=some (.kC o u)->H' b=some (.kC o u)):Eo K H a ns->Eo K H' a ns
 | .inl ⟨o,h⟩=>.inl ⟨o,k _ _ _ h⟩
 | .inr h=>.inr h
theorem rU.le {K:PySem.W.Frag}{F F' H H':Hp}{v:V}(g:∀b o,F b=some o->F' b=some o) (kf:∀b o u,H b=some (.kC o u)->H' b=some (.kC o u)):∀{u:U},rU K F H v u->(∀a,fE u=true->v= .ref a->(∀o,H a=some o->H' a=some o)/\F' a=none)->rU K F' H' v u
 | .t _,h,_=>Rep.le g h
 | .m _,⟨a,e,_,h⟩,k=>let⟨k1,k2⟩:=k a rfl e;⟨a,e,k2,h.le g k1⟩
 | .b _,⟨a,e,_,h⟩,k=>let⟨k1,k2⟩:=k a rfl e;⟨a,e,k2,h.le g k1⟩
 | .v _,h,_=>h
 | .s _,⟨a,e,h⟩,_=>⟨a,e,h.le kf⟩
 | .f _,h,_=>h
theorem Cg {K : PySem.W.Frag} {B : Base} {S S' : SS} {σ : St} {H0 F0 F H : Hp} {v : V} {u : U} {d : D} {S0 : SS} (R : Rel K B S σ F H) (st : Step S0 S σ F0 H0 F H) (r : jG K B S σ H0 F H v u) (e : fz u S = some (d, S')) :
    ∃F',Rel K B S' σ F' H/\Step S0 S' σ F0 H0 F' H/\Rep F' v d:=by
  cases u with
  | t d'=>cases e;exact⟨F,R,st,r⟩
  | b o=>cases r
  | s o=>cases e
  | f o=>cases e
  | m o =>
    cases o with
    | dct kvs=>cases e
    | lU kvs=>cases e
    | ins C kvs=>cases e
    | lst ds=>
      cases e
      obtain⟨a,rfl,h0,hf,⟨vs,ha,rs⟩,nm,hB⟩:=r
      have g:=lu (o:=.lst vs) hf
      refine⟨upd F a (.lst vs),⟨R.sub.kC ha,R.len,fun i u h=>?_,R.Aq,R.own,R.bor,R.par,?_⟩,⟨⟨fun b o h=>g b o (st.ext.le b o h),st.ext.keep,fun b o h n f=>?_,st.ext.there,st.ext.kC⟩,st.mu,st.slots⟩,.lst aK (rs.le g)⟩
      . obtain⟨w,h1,h2⟩:=R.rep i u h
        refine⟨w,h1,h2.le g (fun _ _ _ z=>z) fun c hm hc=>⟨fun o q=>q,?_⟩⟩
        have hca:c≠a:=fun z=>nm ⟨i,u,h,hm,by rw[h1,hc,z]⟩
        rw[aJ hca]
        cases u with
        | m o=>obtain⟨c',e',f',_⟩:=h2;rw[hc] at e';cases e';exact f'
        | b o=>obtain⟨c',e',f',_⟩:=h2;rw[hc] at e';cases e';exact f'
        | t d=>cases hm
        | v j=>cases hm
        | s j=>cases hm
        | f j=>cases hm
      . exact⟨fun b o h=>g b o (R.ext.le b o h),R.ext.keep,fun b o h n f=>by rw[aJ (fun z=>by rw[z,hB] at h;cases h)];exact R.ext.jU b o h n f,R.ext.there,R.ext.kC⟩
      . rw[aJ (fun z=>by rw[z,h0] at h;cases h)]
        exact st.ext.jU b o h n f
  | v i =>
    obtain⟨hv,u,hu⟩:=r
    unfold fz at e
    simp only[hu] at e
    cases u with
    | t d'=>
      cases e
      obtain⟨w,h1,h2⟩:=R.rep i _ hu
      rw[hv] at h1
      cases h1
      exact⟨F,R,st,h2⟩
    | b o=>cases e
    | v j=>cases e
    | s j=>cases e
    | f j=>cases e
    | m o =>
      cases o with
      | dct kvs=>cases e
      | lU kvs=>cases e
      | ins C kvs=>cases e
      | lst ds =>
        cases e
        obtain⟨w,h1,a,rfl,hf,⟨vs,ha,rs⟩⟩:=R.rep i _ hu
        have hiv:σ[i]? =some (some (.ref a)):=h1
        rw[hv] at h1
        cases h1
        have hB:=R.own i _ a hu hiv
        have g:=lu (o:=.lst vs) hf
        have back:∀j w,(S.set i (some (.t (.lst ds))))[j]? =some (some w)->fE w=true->i≠j/\S[j]? =some (some w):=fun j w h hm=>by
          rcases get_set h with⟨_,q,_⟩ | q
          . cases q;cases hm
          . exact q
        have mu:∀c,cT (S.set i (some (.t (.lst ds)))) σ c->cT S σ c:=fun c ⟨j,w,h,hm,z⟩=>⟨j,w,(back j w h hm).2,hm,z⟩
        refine⟨upd F a (.lst vs),⟨R.sub.kC ha,by rw[List.length_set];exact R.len,fun j u h=>?_,fun j k u w c h1 m1 h2 m2=>R.Aq j k u w c (back j u h1 m1).2 m1 (back k w h2 m2).2 m2,fun j o c h=>R.own j o c (back j _ h rfl).2,fun j o c h=>R.bor j o c (back j _ h rfl).2,fun j c h=>?_,?_⟩,
          ⟨⟨fun b o h=>g b o (st.ext.le b o h),st.ext.keep,fun b o h n f=>?_,st.ext.there,st.ext.kC⟩,fun c q=>st.mu c (mu c q),fun j u h=>?_⟩,.lst aK (rs.le g)⟩
        . rcases get_set h with⟨rfl,q,_⟩ | ⟨ne,q⟩
          . cases q
            exact⟨.ref a,hiv,.lst aK (rs.le g)⟩
          . obtain⟨w,h1,h2⟩:=R.rep j u q
            refine⟨w,h1,h2.le g (fun _ _ _ z=>z) fun c hm hc=>⟨fun o q=>q,?_⟩⟩
            have hca:c≠a:=fun z=>ne (R.Aq i j _ u a hu rfl q hm hiv (by rw[h1,hc,z]))
            rw[aJ hca]
            cases u with
            | m o=>obtain⟨c',e',f',_⟩:=h2;rw[hc] at e';cases e';exact f'
            | b o=>obtain⟨c',e',f',_⟩:=h2;rw[hc] at e';cases e';exact f'
            | t d=>cases hm
            | v j=>cases hm
            | s j=>cases hm
            | f j=>cases hm
        . obtain⟨h1,o,h2⟩:=R.par j c h
          refine⟨h1,o,?_⟩
          have ne:i≠j:=fun z=>by subst z;rw[hu] at h2;cases h2
          rw[List.getElem?_set_ne ne]
          exact h2
        . exact⟨fun b o h=>g b o (R.ext.le b o h),R.ext.keep,fun b o h n f=>by rw[aJ (fun z=>by rw[z,hB] at h;cases h)];exact R.ext.jU b o h n f,R.ext.there,R.ext.kC⟩
        . have hb:b≠a:=fun z=>n (st.mu b ⟨i,_,hu,rfl,by rw[z];exact hiv⟩)
          rw[aJ hb]
          exact st.ext.jU b o h n f
        . obtain⟨u',h'⟩:=st.slots j u h
          by_cases hj:i=j
          . subst hj
            exact⟨.t (.lst ds),List.getElem?_set_self (List.getElem?_eq_some_iff.mp h').1⟩
          . exact⟨u',by rw[List.getElem?_set_ne hj];exact h'⟩
noncomputable def eF (g:GE):GD:=fun S=>(g S).bind fun p=>fz p.1 p.2
theorem JE.d {X:Cx}{e:Expr}{g:GE}(h:JE X e g):JD X e (eF g):=⟨fun B=>(h.h B).imp fun σ H Q ⟨S,F,d,S',R,hg,q⟩=>by
 unfold eF at hg
 cases e1:g S with
 | none=>rw[e1] at hg;cases hg
 | some p=>
  obtain⟨u,S1⟩:=p
  rw[e1] at hg
  refine⟨S,F,u,S1,R,e1,fun v F1 H1 R1 st1 r1=>?_⟩
  obtain⟨F2,R2,st2,r2⟩:=Cg R1 st1 r1 hg
  exact q v F2 H1 R2 st2 r2⟩
noncomputable def eT (g:GD):GE:=fun S=>(g S).map fun p=>(.t p.1,p.2)
theorem JD.e {X:Cx}{e:Expr}{g:GD}(h:JD X e g):JE X e (eT g):=⟨fun B=>(h.h B).imp fun σ H Q ⟨S,F,u,S',R,hg,q⟩=>by
 unfold eT at hg
 cases e1:g S with
 | none=>rw[e1] at hg;cases hg
 | some p=>
  obtain⟨d,S1⟩:=p
  rw[e1] at hg
  cases hg
  exact⟨S,F,d,S1,R,e1,fun v F1 H1 R1 st1 r1=>q v F1 H1 R1 st1 r1⟩⟩
structure iw (F H F' H':Hp):Prop where
 le:∀b o,F b=some o->F' b=some o
 same:∀b o,H b=some o->H' b=some o
 jU:∀b o,H b=some o->F b=none->F' b=none
theorem iw.refl (F H:Hp):iw F H F H:=⟨fun _ _ h=>h,fun _ _ h=>h,fun _ _ _ h=>h⟩
theorem iw.step {S:SS}{σ:St}{F H F' H':Hp}(n:iw F H F' H'):Step S S σ F H F' H':=
 ⟨⟨n.le,fun b o h _=>n.same b o h,fun b o h _ f=>n.jU b o h f,fun b o h=>⟨o,n.same b o h⟩,fun b o u h=>n.same b _ h⟩,fun _ h=>h,fun _ u h=>⟨u,h⟩⟩
theorem iw.obj {F H:Hp}{p:Addr}(h:H p=none) (o:HO):iw F H F (upd H p o):=
 ⟨fun _ _ q=>q,fun b u q=>by rw[aJ (bh q h)];exact q,fun _ _ _ q=>q⟩
theorem Sub.same {F H H':Hp}(s:Sub F H) (k:∀b o,H b=some o->H' b=some o):Sub F H':=fun a o e=>k a o (s a o e)
theorem Sub.uG {F H:Hp}{p:Addr}{o:HO}(s:Sub F H) (h:H p=none):Sub (upd F p o) (upd H p o):=fun b u e=>by
 by_cases hb:b=p
 ·subst hb;rw[aK] at e;cases e;exact aK
 ·rw[aJ hb] at e;have q:=s b u e;rw[aJ (bh q h)];exact q
theorem iw.root {F H:Hp}{p:Addr}(s:Sub F H) (h:H p=none) (o:HO):iw F H (upd F p o) (upd H p o):=
 ⟨lu (s.fresh h),fun b u q=>by rw[aJ (bh q h)];exact q,fun b u q f=>by rw[aJ (bh q h)];exact f⟩
theorem Rel.has {K:PySem.W.Frag}{B:Base}{S:SS}{σ:St}{F H:Hp}(R:Rel K B S σ F H){a:Addr}(m:cT S σ a):∃o,H a=some o:=by
 obtain⟨i,u,h,hm,hv⟩:=m
 obtain⟨v,h1,h2⟩:=R.rep i u h
 rw[hv] at h1
 cases h1
 cases u with
 | t d=>cases hm
 | v j=>cases hm
 | s j=>cases hm
 | f j=>cases hm
 | m o=>obtain⟨b,e,_,h⟩:=h2;cases e;exact h.has
 | b o=>obtain⟨b,e,_,h⟩:=h2;cases e;exact h.has
theorem Rel.new {K:PySem.W.Frag}{B:Base}{S:SS}{σ:St}{F H F' H':Hp}(R:Rel K B S σ F H) (n:iw F H F' H') (s:Sub F' H'):Rel K B S σ F' H' where
 sub:=s
 len:=R.len
 rep:=fun i u h=>by
  obtain⟨v,h1,h2⟩:=R.rep i u h
  refine⟨v,h1,h2.le n.le (fun b o u z=>n.same b _ z) fun a hm ha=>⟨fun o q=>n.same a o q,?_⟩⟩
  obtain⟨o,ho⟩:=R.has ⟨i,u,h,hm,by rw[h1,ha]⟩
  refine n.jU a o ho ?_
  cases u with
  | t d=>cases hm
  | v j=>cases hm
  | s j=>cases hm
  | f j=>cases hm
  | m o=>obtain⟨b,e,f,_⟩:=h2;rw[ha] at e;cases e;exact f
  | b o=>obtain⟨b,e,f,_⟩:=h2;rw[ha] at e;cases e;exact f
 Aq:=R.Aq
 own:=R.own
 bor:=R.bor
 par:=R.par
 ext:=⟨fun b o h=>n.le b o (R.ext.le b o h),fun b o h m=>n.same b o (R.ext.keep b o h m),fun b o h m f=>n.jU b o (R.ext.keep b o h m) (R.ext.jU b o h m f),fun b o h=>let⟨o',h'⟩:=R.ext.there b o h;⟨o',n.same b o' h'⟩,fun b o u h=>n.same b _ (R.ext.kC b o u h)⟩
noncomputable def Ep (H0 F H:Hp) (v:V):U->Prop
 | .t d=>Rep F v d
 | .m o=>∃a,v= .ref a/\H0 a=none/\F a=none/\At F H a o
 | _=>False
theorem none_of {H H':Hp}{a:Addr}(t:∀b o,H b=some o->∃o',H' b=some o') (h:H' a=none):H a=none:=by
 cases e:H a with
 | none=>rfl
 | some o=>obtain⟨o',h'⟩:=t a o e;rw[h] at h';cases h'
theorem Ep.K1 {K:PySem.W.Frag}{B:Base}{S S0:SS}{σ:St}{H0 F0 F1 H1 F H:Hp}{v:V}{u:U}(R:Rel K B S σ F1 H1) (st:Step S0 S σ F0 H0 F1 H1) (r:Ep H1 F H v u):jG K B S σ H0 F H v u:=by
 cases u with
 | t d=>exact r
 | b o=>cases r
 | v i=>cases r
 | s i=>cases r
 | f i=>cases r
 | m o=>
  obtain⟨a,e,h0,f,h⟩:=r
  refine⟨a,e,none_of st.ext.there h0,f,h,fun m=>?_,none_of R.ext.there h0⟩
  obtain⟨o,ho⟩:=R.has m
  rw[h0] at ho
  cases ho
noncomputable def rP (f:List D->Option U):List V->Hp->VK->Prop:=fun xs H Q=>∃F ds u,Sub F H/\aR F xs ds/\f ds=some u/\∀v F' H',iw F H F' H'->Sub F' H'->Ep H F' H' v u->Q v H'
noncomputable def tH:D->Bool
 | .tup _=>false
 | .lst _=>false
 | _=>true
noncomputable def toV:D->V
 | .bl b=>.bl b
 | .int i=>.int i
 | .str z=>.str z
 | _=>.bM
theorem vN {F:Hp}:∀{d:D},tH d=true->Rep F (toV d) d
 | .bM,_=>.bM
 | .bl b,_=>.bl b
 | .int i,_=>.int i
 | .str z,_=>.str z
 | .tup _,h=>by cases h
 | .lst _,h=>by cases h
noncomputable def ak (i:Nat):GE:=fun S=>match S[i]? with
 | some (some (.t d))=>some (.t d,S)
 | some (some (.s d))=>some (.s d,S) | some (some (.f d))=>some (.f d,S)
 | some (some _)=>some (.v i,S)
 | _=>none
noncomputable def eC (d:D):GD:=fun S=>some (d,S)
noncomputable def aA:GA:=fun S=>some ([],S)
noncomputable def aa (g:GD) (ga:GA):GA:=fun S=>(g S).bind fun p=>(ga p.2).map fun q=>(p.1 :: q.1,q.2)
noncomputable def eP (f:List D->Option U) (ga:GA):GE:=fun S=>(ga S).bind fun p=>(f p.1).map fun u=>(u,p.2)
section
variable {X:Cx}{a b c e:Expr}{es:List Expr}{pos p p2:Pos}{x:Str}{g ga gb gc:GD}{gA:GA}{f f':List D->Option U}
theorem aj (i:Nat) (hN:X.N[i]? =some x:=by rfl) (hv:Bv X.env.scope x:=by first | exact Or.inl rfl | exact Or.inr (Or.inl rfl) | exact Or.inr (Or.inr rfl)) (hd:(x == ("__debug__":Str))=false:=by decide)
  (hcd:(x == ("__classdict__":Str))=false:=by decide):JE X (.Name x pos) (ak i):=⟨fun B=>(iV hN hv hd hcd).imp fun σ H Q ⟨S,F,u,S',R,hg,q⟩=>by
 unfold ak at hg
 cases hs:S[i]? with
 | none=>rw[hs] at hg;cases hg
 | some o=>
  cases o with
  | none=>rw[hs] at hg;cases hg
  | some w=>
   rw[hs] at hg
   obtain⟨v,h1,h2⟩:=R.rep i w hs
   refine⟨v,h1,?_⟩
   cases w with
   | t d=>cases hg;exact q v F H R (Step.refl ..) h2
   | m o=>cases hg;exact q v F H R (Step.refl ..) ⟨h1,_,hs⟩
   | b o=>cases hg;exact q v F H R (Step.refl ..) ⟨h1,_,hs⟩
   | s j=>cases hg;exact q v F H R (Step.refl ..) h2
   | f j=>cases hg;exact q v F H R (Step.refl ..) h2
   | v j=>cases hg;exact q v F H R (Step.refl ..) ⟨h1,_,hs⟩⟩
theorem Er {d:D}(hf:tH d=true) (h:PE X e (tC (toV d))):JD X e (eC d):=⟨fun B=>h.imp fun σ H Q ⟨S,F,u,S',R,hg,q⟩=>by
 cases hg
 exact q _ F H R (Step.refl ..) (vN hf)⟩
theorem aM {i j}:JD X (.Constant (.int i) j pos) (eC (.int i)):=Er rfl GK
theorem nK {i j}:JD X (.Constant (.bool i) j pos) (eC (.bl i)):=Er rfl J8
theorem uH {j}:JD X (.Constant .none j pos) (eC .bM):=Er rfl GL
theorem gD {i j}:JD X (.Constant (.str i) j pos) (eC (.str i)):=Er rfl GN
theorem aI:JA X [] aA:=⟨fun B=>oN.imp fun σ H Q ⟨S,F,u,S',R,hg,q⟩=>by
 cases hg
 exact q [] F H R (Step.refl ..) .nil⟩
theorem ah {α β:Type}{o:Option α}{f:α->Option β}{y:β}(h:o.bind f=some y):∃z,o=some z/\f z=some y:=by
 cases o with
 | none=>cases h
 | some z=>exact⟨z,rfl,h⟩
theorem az {α β:Type}{o:Option α}{f:α->β}{y:β}(h:o.map f=some y):∃z,o=some z/\f z=y:=by
 cases o with
 | none=>cases h
 | some z=>exact⟨z,rfl,Option.some.inj h⟩
theorem au (h:JD X e g) (hr:JA X es gA) (hs:starEach (e :: es) X.env=(false,eval e X.env) :: starEach es X.env:=by rfl):JA X (e :: es) (aa g gA):=
 ⟨fun B=>(jK (h.h B) (hr.h B) hs).imp fun σ H Q ⟨S,F,u,S',R,hg,q⟩=>by
 obtain⟨⟨d,S1⟩,h1,hg⟩:=ah hg
 obtain⟨⟨ds,S2⟩,h2,hg⟩:=az hg
 cases hg
 exact⟨S,F,d,S1,R,h1,fun v F1 H1 R1 st1 r1=>⟨S1,F1,ds,S2,R1,h2,fun vs F2 H2 R2 st2 r2=>q _ F2 H2 R2 (st1.trans st2) (.cons (r1.le st2.ext.le) r2)⟩⟩⟩
theorem ji {K:PySem.W.Frag}{B:Base}{σ:St}{H:Hp}{Q:VK}{r:List V->Hp->VK->Prop}(hr:∀vs H1 Q1,rP f vs H1 Q1->r vs H1 Q1) (h:tE K B (eP f gA) σ H Q):Rv K B gA σ H fun vs H1=>r vs H1 Q:=by
 obtain⟨S,F,u,S',R,hg,q⟩:=h
 obtain⟨⟨ds,S1⟩,h1,hg⟩:=ah hg
 obtain⟨u',h2,hg⟩:=az hg
 cases hg
 exact⟨S,F,ds,S1,R,h1,fun vs F1 H1 R1 st1 r1=>hr _ _ _ ⟨F1,ds,_,R1.sub,r1,h2,fun v F2 H2 n s2 r2=>q v F2 H2 (R1.new n s2) (st1.trans n.step) (r2.K1 R1 st1)⟩⟩
theorem iQ {id:String}(hc:gq X (.builtin id) (rP f)) (hg:Gl X x) (hm:X.mg x=none) (hv:bootBuiltins x=some (.builtin id)) (ha:JA X (e :: es) gA) (hn:x≠"__name__":=by decide) (hdb:(x == ("__debug__":Str))=false:=by decide)
  (he:starEach (e :: es) X.env=(false,eval e X.env) :: starEach es X.env:=by rfl) (hpl:(backTo pos (starEach es X.env)).any (·.1)=false:=by rfl):JE X (.Call (.Name x p) (e :: es) [] pos) (eP f gA):=
 ⟨fun B=>(j7 hc hg hm hv (ha.h B) hn hdb he hpl).imp fun σ H Q h=>ji (fun _ _ _ z=>z) h⟩
theorem gK {T:String}(hc:gq X (.type T) (rP f)) (hg:Gl X x) (hm:X.mg x=none) (hv:bootBuiltins x=some (.type T)) (ha:JA X (e :: es) gA) (hn:x≠"__name__":=by decide) (hdb:(x == ("__debug__":Str))=false:=by decide)
  (he:starEach (e :: es) X.env=(false,eval e X.env) :: starEach es X.env:=by rfl) (hpl:(backTo pos (starEach es X.env)).any (·.1)=false:=by rfl):JE X (.Call (.Name x p) (e :: es) [] pos) (eP f gA):=
 ⟨fun B=>(Ah hc hg hm hv (ha.h B) hn hdb he hpl).imp fun σ H Q h=>ji (fun _ _ _ z=>z) h⟩
noncomputable abbrev uI (X:Cx) (o:Value->Value->Sem Value) (f:List D->Option U):Prop:=qu X o (fun x y H Q=>rP f [x,y] H Q)
theorem nL {K:PySem.W.Frag}{B:Base}{σ:St}{H:Hp}{Q:VK}(h:tE K B (eP f (aa ga (aa gb aA))) σ H Q):Jv (fun x y H Q=>rP f [x,y] H Q) (tD K B ga) (tD K B gb) σ H Q:=by
 obtain⟨S,F,u,S',R,hg,q⟩:=h
 obtain⟨⟨ds,S1⟩,h1,hg⟩:=ah hg
 obtain⟨u',h2,hg⟩:=az hg
 cases hg
 obtain⟨⟨d1,T1⟩,k1,h1⟩:=ah h1
 obtain⟨⟨V6,T2⟩,k2,h1⟩:=az h1
 cases h1
 obtain⟨⟨d2,T3⟩,k3,k2⟩:=ah k2
 obtain⟨⟨V7,T4⟩,k4,k2⟩:=az k2
 cases k2
 cases k4
 exact⟨S,F,d1,T1,R,k1,fun v1 F1 H1 R1 st1 r1=>⟨T1,F1,d2,_,R1,k3,fun v2 F2 H2 R2 st2 r2=>⟨F2,_,_,R2.sub,.cons (r1.le st2.ext.le) (.cons r2 .nil),h2,fun v F3 H3 n s3 r3=>q v F3 H3 (R2.new n s3) ((st1.trans st2).trans n.step) (r3.K1 R2 (st1.trans st2))⟩⟩⟩
theorem bT {op:Operator}(ho:uI X (binaryOp op) f) (ha:JD X a ga) (hb:JD X b gb):JE X (.BinOp a op b pos) (eP f (aa ga (aa gb aA))):=
 ⟨fun B=>(Ko ho (ha.h B) (hb.h B)).imp fun σ H Q h=>nL h⟩
theorem xN {op:CmpOp}(ho:uI X (compareOp op) f) (ha:JD X a ga) (hb:JD X b gb) (hm:behindInMarks op b=false:=by first | exact BJ _ | rfl):JE X (.Compare a [op] [b] pos) (eP f (aa ga (aa gb aA))):=
 ⟨fun B=>(D5 ho (ha.h B) (hb.h B) hm).imp fun σ H Q h=>nL h⟩
theorem pL (hr:BU X (fun x y H Q=>rP f [x,y] H Q)) (ha:JD X a ga) (hb:JD X b gb) (hs:uE b):JE X (.Subscript a b pos) (eP f (aa ga (aa gb aA))):=
 ⟨fun B=>(BV hr (ha.h B) (hb.h B) hs).imp fun σ H Q h=>nL h⟩
noncomputable def lz:List D->Option U:=fun ds=>if ds.length<=100000 then some (.t (.tup ds)) else none
noncomputable def iu:List D->Option U:=fun ds=>if ds.length<=100000 then some (.m (.lst ds)) else none
theorem jM {n:Nat}(h:n<=100000):n<=sizeLine:=Nat.le_trans h (by decide)
end
section
variable {X:Cx}{a b c e:Expr}{es:List Expr}{pos p p2:Pos}{x:Str}{g ga gb gc:GD}{gA:GA}{f f':List D->Option U}
theorem lA {x1}(h:JA X es gA):JE X (.Tuple es x1 pos) (eP lz gA):=
 ⟨fun B=>(Hl (h.h B)).imp fun σ H Q z=>ji (r:=fun xs H1 Q=>xs.length<=sizeLine/\∀p,H1 p=none->Q (.ref p) (upd H1 p (.tup xs))) (fun vs H1 Q1 ⟨F,ds,u,sb,rs,hf,q⟩=>by
 unfold lz at hf
 split at hf
 ·rename_i hl
  cases hf
  refine⟨by rw[rs.length];exact jM hl,fun p hp=>?_⟩
  exact q _ _ _ (iw.root sb hp _) (sb.uG hp) (.tup aK (rs.le (lu (sb.fresh hp))))
 ·cases hf) z⟩
theorem fc (h:JA X es gA):JE X (.List es pos) (eP iu gA):=
 ⟨fun B=>(Ho (h.h B)).imp fun σ H Q z=>ji (r:=fun xs H1 Q=>xs.length<=sizeLine/\∀p,H1 p=none->Q (.ref p) (upd H1 p (.lst xs))) (fun vs H1 Q1 ⟨F,ds,u,sb,rs,hf,q⟩=>by
 unfold iu at hf
 split at hf
 ·rename_i hl
  cases hf
  refine⟨by rw[rs.length];exact jM hl,fun p hp=>?_⟩
  exact q _ F _ (iw.obj hp _) (sb.same (iw.obj (F:=F) hp _).same) ⟨p,rfl,hp,sb.fresh hp,vs,aK,rs⟩
 ·cases hf) z⟩
noncomputable def qB (g:GD):GT:=fun S=>(g S).bind fun p=>match p.1 with
 | .bl k=>some (k,p.2)
 | _=>none
noncomputable def Ci (g:GT):GT:=fun S=>(g S).map fun p=>(!p.1,p.2)
noncomputable def HD (g h:GT):GT:=fun S=>(g S).bind fun p=>if p.1 then h p.2 else some (false,p.2)
noncomputable def Mq (g h:GT):GT:=fun S=>(g S).bind fun p=>if p.1 then some (true,p.2) else h p.2
noncomputable def eQ (g:GT):GD:=fun S=>(g S).map fun p=>(.bl p.1,p.2)
theorem nM {S:SS}{k:Bool}{S':SS}(h:qB g S=some (k,S')):g S=some (.bl k,S'):=by
 obtain⟨⟨d,S1⟩,h1,h⟩:=ah h
 cases d <;> cases h
 exact h1
theorem m5 {F:Hp}{v:V}{k:Bool}(r:Rep F v (.bl k)):v= .bl k:=by cases r;rfl
theorem g8 {F:Hp}{v:V}{i:Int}(r:Rep F v (.int i)):v= .int i:=by cases r;rfl
theorem zf {F:Hp}{v:V}{i:Str}(r:Rep F v (.str i)):v= .str i:=by cases r;rfl
theorem xO (h:JD X e g) (he:∀whole,isTrue e X.env whole=(do let v <-whole;standAt e.pos;holding [v] (truthy v)):=by intro _;rfl):JT X e (qB g):=
 ⟨fun B=>(GP (h.h B) he).imp fun σ H Q ⟨S,F,k,S',R,hg,q⟩=>⟨S,F,.bl k,S',R,nM hg,fun v F' H' R' st r=>⟨k,m5 r,q F' H' R' st⟩⟩⟩
theorem K2 {K:PySem.W.Frag}{B:Base}{gE:GE}{σ:St}{H:Hp}{Q:VK}(h:tD K B (eF gE) σ H Q):tE K B gE σ H Q:=by
 obtain⟨S,F,d,S',R,hg,q⟩:=h
 obtain⟨⟨u,S1⟩,h1,hg⟩:=ah hg
 refine⟨S,F,u,S1,R,h1,fun v F1 H1 R1 st1 r1=>?_⟩
 obtain⟨F2,R2,st2,r2⟩:=Cg R1 st1 r1 hg
 exact q v F2 H1 R2 st2 r2
theorem jk {op:CmpOp}(ho:uI X (compareOp op) f) (ha:JD X a ga) (hb:JD X b gb) (hm:behindInMarks op b=false:=by first | exact BJ _ | rfl):JT X (.Compare a [op] [b] pos) (qB (eF (eP f (aa ga (aa gb aA))))):=
 ⟨fun B=>(D6 ho (ha.h B) (hb.h B) hm).imp fun σ H Q ⟨S,F,k,S',R,hg,q⟩=>nL (K2 ⟨S,F,.bl k,S',R,nM hg,fun v F' H' R' st r=>⟨k,m5 r,q F' H' R' st⟩⟩)⟩
theorem xP {q1:GT}(h:JT X a q1):JT X (.UnaryOp .Not a pos) (Ci q1):=
 ⟨fun B=>(GQ (h.h B)).imp fun σ H Q ⟨S,F,k,S',R,hg,q⟩=>by
 obtain⟨⟨d,S1⟩,h1,hg⟩:=az hg
 cases hg
 exact⟨S,F,d,_,R,h1,fun F' H' R' st=>q F' H' R' st⟩⟩
theorem tK {q1:GT}(h:JT X a q1):JW X (.BoolOp .Or [a] pos) q1:=⟨fun B=>pw_or1 (h.h B)⟩
theorem Gh {r:List Expr}{q1 q2:GT}(h:JT X a q1) (hr:JW X (.BoolOp .Or (b :: r) pos) q2):JW X (.BoolOp .Or (a :: b :: r) pos) (Mq q1 q2):=
 ⟨fun B=>(pw_or (h.h B) (hr.h B)).imp fun σ H Q ⟨S,F,k,S',R,hg,q⟩=>by
 obtain⟨⟨d,S1⟩,h1,hg⟩:=ah hg
 refine⟨S,F,d,S1,R,h1,fun F1 H1 R1 st1=>?_⟩
 cases d with
 | false=>exact B0 ⟨S1,F1,k,S',R1,hg,fun F2 H2 R2 st2=>q F2 H2 R2 (st1.trans st2)⟩
 | true=>cases hg;exact B3 (q F1 H1 R1 st1)⟩
theorem JW.t {q1:GT}(h:JW X e q1):JT X e q1:=⟨fun B=>(h.h B).pt⟩
theorem HE {op}(h:JD X a g):JD X (.BoolOp op [a] pos) (eQ (qB g)):=⟨fun B=>(GR (h.h B)).imp fun σ H Q ⟨S,F,k,S',R,hg,q⟩=>by
 obtain⟨⟨d,S1⟩,h1,hg⟩:=az hg
 cases hg
 exact⟨S,F,.bl d,_,R,nM h1,q⟩⟩
theorem HF {r:List Expr}{q2:GT}(h:JD X a g) (hr:JD X (.BoolOp .And (b :: r) pos) (eQ q2)):JD X (.BoolOp .And (a :: b :: r) pos) (eQ (HD (qB g) q2)):=
 ⟨fun B=>(GV (h.h B) (hr.h B)).imp fun σ H Q ⟨S,F,k,S',R,hg,q⟩=>by
 obtain⟨⟨d,S1⟩,h1,hg⟩:=az hg
 cases hg
 obtain⟨⟨d1,S2⟩,h1,h2⟩:=ah h1
 refine⟨S,F,.bl d1,S2,R,nM h1,fun v F1 H1 R1 st1 r1=>⟨d1,m5 r1,?_⟩⟩
 cases d1 with
 | true=>
  have h2:q2 S2=some (d,S1):=h2
  exact B3 ⟨S2,F1,.bl d,S1,R1,by show(q2 S2).map _=_;rw[h2];rfl,fun v F2 H2 R2 st2 r2=>q v F2 H2 R2 (st1.trans st2) r2⟩
 | false=>cases h2;exact B0 (q _ F1 H1 R1 st1 (.bl false))⟩
theorem jG.weak {K:PySem.W.Frag}{B:Base}{S:SS}{σ:St}{H0 H1 F H:Hp}{v:V}(t:∀b o,H0 b=some o->∃o',H1 b=some o'):∀{u:U},jG K B S σ H1 F H v u->jG K B S σ H0 F H v u
 | .t _,h=>h
 | .s _,h=>h
 | .f _,h=>h
 | .m _,⟨a,e,h0,h⟩=>⟨a,e,none_of t h0,h⟩
 | .v _,h=>h
 | .b _,h=>h
end
theorem bU {α:Type}{c:Prop}{i:Decidable c}{x w:α}(h:(@ite _ c i (some x) none)=some w):c/\x=w:=by
 by_cases hc:c
 ·rw[if_pos hc] at h;exact⟨hc,Option.some.inj h⟩
 ·rw[if_neg hc] at h;cases h
theorem lV {α:Type}{c:Prop}{i:Decidable c}{x:Option α}{w:α}(h:(@ite _ c i x none)=some w):c/\x=some w:=by
 by_cases hc:c
 ·rw[if_pos hc] at h;exact⟨hc,h⟩
 ·rw[if_neg hc] at h;cases h
theorem Gi {F:Hp}{x:V}{ds:List D}(r:aR F [x] ds):∃d,ds=[d]/\Rep F x d:=by
 cases r with
 | cons r rs=>cases rs;exact⟨_,rfl,r⟩
theorem nN {F:Hp}{x y:V}{ds:List D}(r:aR F [x,y] ds):∃d e,ds=[d,e]/\Rep F x d/\Rep F y e:=by
 cases r with
 | cons r rs=>obtain⟨e,rfl,r2⟩:=Gi rs;exact⟨_,e,rfl,r,r2⟩
noncomputable def Cj (C:Int->Int->Bool) (h:Int->Int->D):List D->Option U
 | [.int i,.int j]=>if C i j then some (.t (h i j)) else none
 | _=>none
section
variable {X:Cx}
theorem pM {o:Value->Value->Sem Value}{C:Int->Int->Bool}{h:Int->Int->D}{r:R2}(hr:qu X o r) (k:∀i j H Q,C i j=true->Q (toV (h i j)) H->r (.int i) (.int j) H Q) (hf:∀i j,tH (h i j)=true):uI X o (Cj C h):=by
 intro pins s σ H x y v u Q I rx ry ⟨F,ds,w,sb,rs,hw,q⟩
 obtain⟨d,e,rfl,r1,r2⟩:=nN rs
 cases r1 <;> cases r2 <;> try (simp[Cj] at hw;done)
 rename_i i j
 obtain⟨hc,rfl⟩:=bU hw
 exact hr pins s σ H _ _ v u Q I rx ry (k i j H Q hc (q _ F H (iw.refl ..) sb (vN (hf i j))))
noncomputable abbrev Ck:=Cj (fun _ _=>true) fun i j=>.int (i - j)
noncomputable abbrev HG:=Cj (fun _ _=>true) fun i j=>.bl (decide (i < j))
noncomputable abbrev Mr:=Cj (fun _ _=>true) fun i j=>.bl (decide (j < i))
noncomputable abbrev Rw:=Cj (fun _ _=>true) fun i j=>.bl (decide (j<=i))
noncomputable abbrev HH:=Cj (fun _ j=>decide (0 < j) && decide (j < 1073741824)) fun i j=>.int (i / j)
noncomputable abbrev vO:=Cj (fun _ j=>decide (0 < j)) fun i j=>.int (i % j)
noncomputable abbrev Es:=Cj (fun i j=>decide (0<=j) && (decide (j<=1000) && decide (i.natAbs < 2 ^ 64))) fun i j=>.int (i ^ j.toNat)
theorem qg:uI X (binaryOp .Sub) Ck:=pM Hf (fun i j H Q _ q=>⟨i,j,rfl,rfl,q⟩) fun _ _=>rfl
theorem xQ:uI X (compareOp .Lt) HG:=pM Kr (fun i j H Q _ q=>⟨i,j,rfl,rfl,q⟩) fun _ _=>rfl
theorem xR:uI X (compareOp .Gt) Mr:=pM Ks (fun i j H Q _ q=>⟨i,j,rfl,rfl,q⟩) fun _ _=>rfl
theorem HJ:uI X (compareOp .GtE) Rw:=pM Ku (fun i j H Q _ q=>⟨i,j,rfl,rfl,q⟩) fun _ _=>rfl
theorem zg:uI X (binaryOp .FloorDiv) HH:=pM D3 (fun i j H Q c q=>⟨i,j,rfl,rfl,by simpa[Kq] using c,q⟩) fun _ _=>rfl
theorem kF:uI X (binaryOp .Mod) vO:=pM Hh (fun i j H Q c q=>⟨i,j,rfl,rfl,by simpa using c,q⟩) fun _ _=>rfl
theorem uJ:uI X (binaryOp .Pow) Es:=pM Hi (fun i j H Q c q=>⟨i,j,rfl,rfl,by
 simp only[Bool.and_eq_true,decide_eq_true_eq] at c
 exact⟨c.1,Int.le_trans c.2.1 (by decide),c.2.2⟩,q⟩) fun _ _=>rfl
theorem Sub.j8 {F H:Hp}{v:V}{ds:List D}(s:Sub F H) (r:Rep F v (.tup ds)):∃a vs,v= .ref a/\F a=some (.tup vs)/\Rd H a (.tup vs)/\aR F vs ds:=by
 cases r with
 | tup e rs=>exact⟨_,_,rfl,e,Rd.of (s _ _ e),rs⟩
theorem Sub.iy {F H:Hp}{v:V}{ds:List D}(s:Sub F H) (r:Rep F v (.lst ds)):∃a vs,v= .ref a/\F a=some (.lst vs)/\Rd H a (.lst vs)/\aR F vs ds:=by
 cases r with
 | lst e rs=>exact⟨_,_,rfl,e,Rd.of (s _ _ e),rs⟩
theorem _root_.L2.Rd.vJ {pins:List (Addr×Obj)}{σ:St}{H:Hp}{s:Shared}(I:Inv X pins σ H s){l:Addr}{xs:List V}(h:Rd H l (.lst xs)):
  xs.length<=sizeLine/\∃its n,Vals xs its/\xs.length=its.length/\s.heap.get? l=some {cls:=.type "list",data:=.seq its.toArray n}:=by
 obtain⟨z,its,n,r,e⟩:=(h.ok I.hok:cN X.prog X.w H s.heap l (.lst xs))
 exact⟨z,its,n,r,r.length,e⟩
noncomputable def iW:List D->Option U
 | [.int i,.int j]=>some (.t (.int (i+j)))
 | [.str i,.str j]=>if i.length+j.length<=100000 then some (.t (.str (i++j))) else none
 | [.tup i,.tup j]=>if i.length+j.length<=100000 then some (.t (.tup (i++j))) else none
 | [.lst i,.lst j]=>if i.length+j.length<=100000 then some (.m (.lst (i++j))) else none
 | _=>none
theorem fU : uI X (binaryOp .Add) iW := by
  intro pins s σ H x y v u Q I rx ry ⟨F,ds,w,sb,rs,hw,q⟩
  obtain⟨d,e,rfl,r1,r2⟩:=nN rs
  cases d <;> cases e <;> try (simp[iW] at hw;done)
  . rename_i i j
    cases hw
    cases r1
    cases r2
    exact G9 pins s σ H _ _ v u Q I rx ry ⟨i,j,rfl,rfl,q _ F H (iw.refl ..) sb (.int _)⟩
  . rename_i i j
    obtain⟨hl,rfl⟩:=bU hw
    cases r1
    cases r2
    exact xE pins s σ H _ _ v u Q I rx ry ⟨i,j,rfl,rfl,jM hl,q _ F H (iw.refl ..) sb (.str _)⟩
  . rename_i i j
    obtain⟨hl,rfl⟩:=bU hw
    have Tj:=r2
    have Tn:=r1
    obtain⟨a,xs,rfl,fa,ha,mJ⟩:=sb.j8 r1
    obtain⟨b,ys,rfl,fb,hb,Et⟩:=sb.j8 r2
    by_cases hx:xs=[]
    . subst hx
      cases mJ
      cases rx
      cases ry
      obtain⟨its,r1',p1,_⟩:=I.tuple (.inl ha)
      obtain⟨its2,r2',p2,_⟩:=I.tuple (.inl hb)
      cases r1'
      obtain⟨⟨cls,dd,data,sl⟩,ho,hc,n,hd⟩:=id p1
      obtain⟨⟨NH,dd2,data2,sl2⟩,ho2,hc2,n2,hd2⟩:=id p2
      simp only at hc hd hc2 hd2
      subst hc hd hc2 hd2
      exact concat_meets ⟨_,ho,rfl⟩ ⟨_,ho2,rfl⟩ noFill_tuple_add seq_tuple_add PySem.F.slot_tuple_add PySem.F.entry_tuple_add (PySem.F.args_tuple_add_2 _ _)
        (tuple_addW0 a b _ _ n n2 dd dd2 sl sl2 (by simp)) ⟨ho,ho2,⟨.ref b,H,I,rfl,q _ F H (iw.refl ..) sb Tj⟩⟩
    . refine Eg pins s σ H (.ref a) (.ref b) v u Q I rx ry ⟨a,b,xs,ys,rfl,rfl,.inl ha,.inl hb,hx,?_,fun hy=>?_,fun hy p hp=>?_⟩
      . rw[mJ.length,Et.length];exact jM hl
      . subst hy
        cases Et
        exact q _ F H (iw.refl ..) sb (by show Rep F (.ref a) (.tup (i++[]));rw[List.append_nil];exact Tn)
      . exact q _ _ _ (iw.root sb hp _) (sb.uG hp) (.tup aK ((mJ.append Et).le (lu (sb.fresh hp))))
  . rename_i i j
    obtain⟨hl,rfl⟩:=bU hw
    obtain⟨a,xs,rfl,fa,ha,mJ⟩:=sb.iy r1
    obtain⟨b,ys,rfl,fb,hb,Et⟩:=sb.iy r2
    cases rx
    cases ry
    obtain⟨z,its,n,r,hl1,e⟩:=Rd.vJ I ha
    obtain⟨z2,its2,n2,r2,hl2,e2⟩:=Rd.vJ I hb
    have hlen:xs.length+ys.length<=sizeLine:=by rw[mJ.length,Et.length];exact jM hl
    refine PySem.P.add_list e e2 ?_ (by rw[List.size_toArray,List.size_toArray];omega)
    have ea:its.toArray++its2.toArray=(its++its2).toArray:=by simp
    rw[ea]
    have hp:H s.heap.objs.size=none:=I.fresh
    refine⟨.ref _,_,I.KS (t':=s.toks) (r.append r2) (by rw[List.length_append];omega),rfl,?_⟩
    exact q _ F _ (iw.obj hp _) (sb.same (iw.obj (F:=F) hp _).same) ⟨_,rfl,hp,sb.fresh hp,_,aK,mJ.append Et⟩
noncomputable def uK:List D->Option U:=Cj (fun i j=>(decide (-(2 ^ 64) < i) && decide (i < 2 ^ 64)) || (decide (-(2 ^ 64) < j) && decide (j < 2 ^ 64))) fun i j=>.int (i * j)
theorem kG:uI X (binaryOp .Mult) uK:=pM Hg (fun i j H Q c q=>⟨i,j,rfl,rfl,by
 simp only[Bool.or_eq_true,Bool.and_eq_true,decide_eq_true_eq] at c
 exact c,q⟩) fun _ _=>rfl
noncomputable def qC:List D->Option U
 | [.tup ds,.int i]=>(dj ds i).map .t
 | [.lst ds,.int i]=>(dj ds i).map .t
 | [.str z,.int i]=>if z.length<=100000 then(dj z.cps.toList i).map fun c=>.t (.str ⟨#[c]⟩) else none
 | _=>none
theorem vP:BU X (fun x y H Q=>rP qC [x,y] H Q):=by
 intro value slice pins s σ H x y v u Q I rx ry ⟨F,ds,w,sb,rs,hw,q⟩ hsb
 obtain⟨d,e,rfl,r1,r2⟩:=nN rs
 cases d <;> cases e <;> try (simp[qC] at hw;done)
 ·rename_i z i
  obtain⟨hl,hw⟩:=lV hw
  obtain⟨c,hc,hw⟩:=az hw
  subst hw
  cases r1
  cases r2
  exact BX value slice pins s σ H _ _ v u Q I rx ry ⟨z,i,c,rfl,rfl,jM hl,hc,q _ F H (iw.refl ..) sb (.str _)⟩ hsb
 ·rename_i ds i
  obtain⟨c,hc,hw⟩:=az (show(dj ds i).map U.t=some w from hw)
  subst hw
  obtain⟨a,xs,rfl,fa,ha,mJ⟩:=sb.j8 r1
  cases r2
  obtain⟨w',h1,h2⟩:=mJ.dj hc
  exact BW value slice pins s σ H _ _ v u Q I rx ry ⟨a,xs,i,w',rfl,rfl,.inl ha,h1,q _ F H (iw.refl ..) sb h2⟩ hsb
 ·rename_i ds i
  obtain⟨c,hc,hw⟩:=az (show(dj ds i).map U.t=some w from hw)
  subst hw
  obtain⟨a,xs,rfl,fa,ha,mJ⟩:=sb.iy r1
  cases r2
  obtain⟨w',h1,h2⟩:=mJ.dj hc
  exact zb value slice pins s σ H _ _ v u Q I rx ry ⟨a,xs,i,w',rfl,rfl,.inl ha,h1,q _ F H (iw.refl ..) sb h2⟩ hsb
noncomputable def pY:List D->Option U
 | [.tup ds]=>some (.t (.int ds.length))
 | [.lst ds]=>some (.t (.int ds.length))
 | [.str z]=>if z.length<=100000 then some (.t (.int z.length)) else none
 | _=>none
theorem tL:gq X (.builtin "len") (rP pY):=by
 intro pins s σ H xs us Q I r ⟨F,ds,w,sb,rs,hw,q⟩
 match xs,ds,rs with
 | [],[],_=>exact absurd hw (by simp[pY])
 | [x],_,rs=>
  obtain⟨d,rfl,r1⟩:=Gi rs
  cases d <;> try (simp[pY] at hw;done)
  ·rename_i z
   obtain⟨hl,rfl⟩:=bU hw
   cases r1
   exact nI pins s σ H _ us Q I r ⟨z,rfl,jM hl,q _ F H (iw.refl ..) sb (.int _)⟩
  ·cases hw
   obtain⟨a,xs,rfl,fa,ha,mJ⟩:=sb.j8 r1
   exact kD pins s σ H _ us Q I r ⟨a,xs,rfl,.inr (.inl ha),by rw[mJ.length];exact q _ F H (iw.refl ..) sb (.int _)⟩
  ·cases hw
   obtain⟨a,xs,rfl,fa,ha,mJ⟩:=sb.iy r1
   exact kD pins s σ H _ us Q I r ⟨a,xs,rfl,.inl (.inl ha),by rw[mJ.length];exact q _ F H (iw.refl ..) sb (.int _)⟩
 | _ :: _ :: _,[],rs=>cases rs
 | _ :: _ :: _,[_],rs=>cases rs with | cons _ rs=>cases rs
 | _ :: _ :: _,_ :: _ :: _,_=>exact absurd hw (by simp[pY])
end
noncomputable def mD (i:Nat) (u:U) (S:SS):Option SS:=match S[i]? with
 | some (some (.b _))=>none
 | some _=>some (S.set i (some u))
 | none=>none
theorem Ar {i:Nat}{u:U}{S S':SS}(h:mD i u S=some S'):S'=S.set i (some u)/\i < S.length/\∀o,S[i]?≠some (some (.b o)):=by
 unfold mD at h
 cases e:S[i]? with
 | none=>rw[e] at h;cases h
 | some w=>
  have hl:i < S.length:=(List.getElem?_eq_some_iff.mp e).1
  rw[e] at h
  cases w with
  | none=>cases h;exact⟨rfl,hl,fun o z=>by cases z⟩
  | some w=>
   cases w with
   | b o=>cases h
   | t d=>cases h;exact⟨rfl,hl,fun o z=>by cases z⟩
   | m d=>cases h;exact⟨rfl,hl,fun o z=>by cases z⟩
   | v d=>cases h;exact⟨rfl,hl,fun o z=>by cases z⟩
   | s d=>cases h;exact⟨rfl,hl,fun o z=>by cases z⟩
   | f d=>cases h;exact⟨rfl,hl,fun o z=>by cases z⟩
noncomputable def Gj (B:Base) (S:SS) (σ:St) (F H:Hp) (v:V):U->Prop
 | .t d=>Rep F v d
 | .m o=>∃a,v= .ref a/\F a=none/\At F H a o/\¬cT S σ a/\B.H a=none
 | _=>False
theorem Rel.put {K : PySem.W.Frag} {B : Base} {S S' : SS} {σ : St} {F H : Hp} {i : Nat} {u : U} {v : V} (R : Rel K B S σ F H) (h : mD i u S = some S') (p : Gj B S σ F H v u) : Rel K B S' (σ.set i (some v)) F H := by
  obtain⟨rfl,hl,nb⟩:=Ar h
  have hl':i < σ.length:=by rw[<-R.len];exact hl
  have out:∀{j:Nat},i≠j->(σ.set i (some v))[j]? =σ[j]?:=fun ne=>List.getElem?_set_ne ne
  have As:(σ.set i (some v))[i]? =some (some v):=List.getElem?_set_self hl'
  have Gk:∀j w a,i≠j->S[j]? =some (some w)->fE w=true->fE u=true->σ[j]? =some (some (.ref a))->v≠.ref a:=fun j w a ne hj hm hu hv z=>by
    cases u with
    | t d=>cases hu
    | v k=>cases hu
    | s k=>cases hu
    | f k=>cases hu
    | b o=>exact p
    | m o=>
      obtain⟨c,e,_,_,nm,_⟩:=p
      rw[z] at e
      cases e
      exact nm ⟨j,w,hj,hm,hv⟩
  refine⟨R.sub,by rw[List.length_set,List.length_set];exact R.len,fun j w hj=>?_,fun j k w1 w2 a h1 m1 h2 m2 v1 v2=>?_,fun j o a hj hv=>?_,fun j o a hj hv=>?_,fun j a hj=>?_,R.ext⟩
  . rcases get_set hj with⟨rfl,q,_⟩ | ⟨ne,q⟩
    . cases q
      refine⟨v,As,?_⟩
      cases u with
      | t d=>exact p
      | m o=>obtain⟨a,e,f,h,_⟩:=p;exact⟨a,e,f,h⟩
      | b o=>cases p
      | v k=>cases p
      | s k=>cases p
      | f k=>cases p
    . rw[out ne];exact R.rep j w q
  . rcases get_set h1 with⟨rfl,q1,_⟩ | ⟨ne1,q1⟩
    . rcases get_set h2 with⟨rfl,q2,_⟩ | ⟨ne2,q2⟩
      . rfl
      . cases q1
        rw[As] at v1
        rw[out ne2] at v2
        cases v1
        exact absurd rfl (Gk k w2 a ne2 q2 m2 m1 v2)
    . rcases get_set h2 with⟨rfl,q2,_⟩ | ⟨ne2,q2⟩
      . cases q2
        rw[As] at v2
        rw[out ne1] at v1
        cases v2
        exact absurd rfl (Gk j w1 a ne1 q1 m1 m2 v1)
      . rw[out ne1] at v1
        rw[out ne2] at v2
        exact R.Aq j k w1 w2 a q1 m1 q2 m2 v1 v2
  . rcases get_set hj with⟨rfl,q,_⟩ | ⟨ne,q⟩
    . cases q
      rw[As] at hv
      cases hv
      obtain⟨c,e,_,_,_,hB⟩:=p
      cases e
      exact hB
    . rw[out ne] at hv;exact R.own j o a q hv
  . rcases get_set hj with⟨rfl,q,_⟩ | ⟨ne,q⟩
    . cases q;cases p
    . rw[out ne] at hv;exact R.bor j o a q hv
  . obtain⟨h1,o,h2⟩:=R.par j a hj
    have ne:i≠j:=fun z=>by subst z;exact nb o h2
    exact⟨by rw[out ne];exact h1,o,by rw[List.getElem?_set_ne ne];exact h2⟩
noncomputable def oR:GS:=fun S=>some (.nx S)
noncomputable def aQ (a b:GS):GS:=fun S=>(a S).bind fun o=>match o with
 | .nx S1=>b S1
 | o=>some o
noncomputable def bz (i:Nat) (g:GE):GS:=fun S=>(g S).bind fun p=>match p.1 with
 | .m o=>(mD i (.m o) p.2).map .nx
 | u=>(fz u p.2).bind fun q=>(mD i (.t q.1) q.2).map .nx
noncomputable def jm (g:GE):GS:=fun S=>(g S).map fun p=>.nx p.2
noncomputable def d8 (g:GE):GS:=fun S=>(g S).bind fun p=>match p.1 with
 | .v i=>match p.2[i]? with
  | some (some (.t d))=>some (.rt (.t d) p.2)
  | some (some (.m o))=>some (.rt (.m o) (p.2.set i none))
  | _=>none
 | .s _=>none
 | .f _=>none
 | u=>some (.rt u p.2)
noncomputable def xx (q:GT) (a b:GS):GS:=fun S=>(q S).bind fun p=>if p.1 then a p.2 else b p.2
theorem ze.mono {K:PySem.W.Frag}{B:Base}{F F1:Hp}{D:Ends}(g:∀b o,F b=some o->F1 b=some o):∀{o:Out},ze K B F D o->ze K B F1 D o
 | .nx _,h=>fun σ' F' H' R le=>h σ' F' H' R fun b o z=>le b o (g b o z)
 | .bk _,h=>fun σ' F' H' R le=>h σ' F' H' R fun b o z=>le b o (g b o z)
 | .ct _,h=>fun σ' F' H' R le=>h σ' F' H' R fun b o z=>le b o (g b o z)
 | .rt _ _,h=>fun v σ' F' H' R le=>h v σ' F' H' R fun b o z=>le b o (g b o z)
section
variable {X:Cx}{a b c e:Expr}{pos p p2:Pos}{x:Str}{st:Stmt}{rest b1 b2 body:List Stmt}{g:GE}{s1 s2:GS}{q1:GT}
theorem kH:JB X [] oR:=⟨fun B=>DV.imp fun D σ H ⟨S,F,o,R,h,k⟩=>by cases h;exact k σ F H R fun _ _ z=>z⟩
theorem aB (h1:JS X st s1) (h2:JB X rest s2):JB X (st :: rest) (aQ s1 s2):=⟨fun B=>(BA (h1.h B) (h2.h B)).imp fun D σ H ⟨S,F,o,R,h,k⟩=>by
 obtain⟨o1,e1,h⟩:=ah h
 refine⟨S,F,o1,R,e1,?_⟩
 cases o1 with
 | nx S1=>exact fun σ' F' H' R' le=>⟨S1,F',o,R',h,k.mono le⟩
 | rt u S1=>cases h;exact k
 | bk S1=>cases h;exact k
 | ct S1=>cases h;exact k⟩
theorem aO (h1:JS X st s1):JB X [st] s1:=⟨fun B=>DW (h1.h B)⟩
theorem jG.put {K:PySem.W.Frag}{B:Base}{S:SS}{σ:St}{H0 F H:Hp}{v:V}{o:MO}(r:jG K B S σ H0 F H v (.m o)):Gj B S σ F H v (.m o):=by
 obtain⟨a,e,_,f,h,n,hB⟩:=r
 exact⟨a,e,f,h,n,hB⟩
theorem zh {i:Nat}{K:PySem.W.Frag}{B:Base}{D:Ends}{σ:St}{H:Hp}(h:tO K B (bz i g) D σ H):D0 (tE K B g) (sW i) D σ H:=by
 obtain⟨S,F,o,R,h,k⟩:=h
 obtain⟨⟨u,S1⟩,h1,h⟩:=ah h
 refine⟨S,F,u,S1,R,h1,fun v F1 H1 R1 st1 r1=>?_⟩
 have go:(∀o',u≠.m o')->(fz u S1).bind (fun q=>(mD i (.t q.1) q.2).map Out.nx)=some o->D.nx (σ.set i (some v)) H1:=fun _ h=>by
  obtain⟨⟨d,S2⟩,h2,h⟩:=ah h
  obtain⟨S3,h3,h⟩:=az h
  subst h
  obtain⟨F2,R2,st2,r2⟩:=Cg R1 st1 r1 h2
  exact k _ F2 H1 (R2.put h3 r2) st2.ext.le
 cases u with
 | m o'=>
  obtain⟨S3,h3,h⟩:=az (show(mD i (.m o') S1).map Out.nx=some o from h)
  subst h
  exact k _ F1 H1 (R1.put h3 r1.put) st1.ext.le
 | t d=>exact go (fun _ z=>by cases z) h
 | b d=>exact go (fun _ z=>by cases z) h
 | s d=>exact go (fun _ z=>by cases z) h
 | f d=>exact go (fun _ z=>by cases z) h
 | v d=>exact go (fun _ z=>by cases z) h
theorem aU {i:Nat}{pos':Pos}(hN:X.N.Nodup) (hi:X.N[i]? =some x) (hx:Loc X.env.scope x) (he:JE X e g) (hs:swapsWith e (some (.Name x pos')) pos.line X.env=pure false:=by rfl)
  (hf:X.fn x=true\/X.env.scope.names.lookup x=some .local:=by first | exact .inl rfl | exact .inr rfl | assumption):JS X (.Assign [.Name x pos'] e pos) (bz i g):=
 ⟨fun B=>(G0 hN hi hx (he.h B) hs hf).imp fun D σ H h=>zh h⟩
theorem g9 (he:JE X e g) (hs:swapsWith e none pos.line X.env=pure false:=by rfl):JS X (.Expr e pos) (jm g):=⟨fun B=>(DX (he.h B) hs).imp fun D σ H ⟨S,F,o,R,h,k⟩=>by
 obtain⟨⟨u,S1⟩,h1,h⟩:=az h
 subst h
 exact⟨S,F,u,S1,R,h1,fun v F1 H1 R1 st1 r1=>k σ F1 H1 R1 st1.ext.le⟩⟩
theorem Rel.drop {K:PySem.W.Frag}{B:Base}{S:SS}{σ:St}{F H:Hp}{i:Nat}{o:MO}(R:Rel K B S σ F H) (h:S[i]? =some (some (.m o))):Rel K B (S.set i none) σ F H:=by
 have back:∀{j w},(S.set i none)[j]? =some (some w)->i≠j/\S[j]? =some (some w):=fun {j w} z=>by
  rcases get_set z with⟨_,q,_⟩ | q
  ·cases q
  ·exact q
 refine⟨R.sub,by rw[List.length_set];exact R.len,fun j w z=>R.rep j w (back z).2,fun j k w1 w2 a h1 m1 h2 m2=>R.Aq j k w1 w2 a (back h1).2 m1 (back h2).2 m2,fun j o a z=>R.own j o a (back z).2,fun j o a z=>R.bor j o a (back z).2,fun j a z=>?_,R.ext⟩
 obtain⟨k1,o',k2⟩:=R.par j a z
 have ne:i≠j:=fun z=>by subst z;rw[h] at k2;cases k2
 exact⟨k1,o',by rw[List.getElem?_set_ne ne];exact k2⟩
theorem cB (he:JE X e g):JS X (.Return (some e) pos) (d8 g):=⟨fun B=>(GW (he.h B)).imp fun D σ H ⟨S,F,o,R,h,k⟩=>by
  obtain⟨⟨u,S1⟩,h1,h⟩:=ah h
  refine⟨S,F,u,S1,R,h1,fun v F1 H1 R1 st1 r1=>?_⟩
  cases u with
  | t d=>cases h;exact k v σ F1 H1 R1 st1.ext.le r1
  | b d=>cases h;cases r1
  | s d=>cases h
  | f d=>cases h
  | m o'=>cases h;exact k v σ F1 H1 R1 st1.ext.le (by obtain⟨a,e,h0,f,h,n,hB⟩:=r1;exact⟨a,e,hB,f,h,n,hB⟩)
  | v i =>
    obtain⟨hv,w,hw⟩:=r1
    dsimp only at h
    rw[hw] at h
    obtain⟨v',z1,z2⟩:=R1.rep i w hw
    rw[hv] at z1
    cases z1
    cases w with
    | t d=>cases h;exact k v σ F1 H1 R1 st1.ext.le z2
    | b d=>cases h
    | v d=>cases h
    | s d=>cases h
    | f d=>cases h
    | m o'=>
      cases h
      obtain⟨a,rfl,f,ha⟩:=z2
      have hB:=R1.own i o' a hw hv
      refine k _ σ F1 H1 (R1.drop hw) st1.ext.le ⟨a,rfl,hB,f,ha,fun⟨j,w,z,hm,hj⟩=>?_,hB⟩
      rcases get_set z with⟨_,q,_⟩ | ⟨ne,q⟩
      . cases q
      . exact ne (R1.Aq i j _ w a hw rfl q hm hv hj)⟩
theorem kN (hc:JT X c q1) (ha:JB X b1 s1) (hb:JB X b2 s2):JS X (.If c b1 b2 pos) (xx q1 s1 s2):=⟨fun B=>(Kf (hc.h B) (ha.h B) (hb.h B)).imp fun D σ H ⟨S,F,o,R,h,k⟩=>by
 obtain⟨⟨d,S1⟩,h1,h⟩:=ah h
 refine⟨S,F,d,S1,R,h1,fun F1 H1 R1 st1=>?_⟩
 cases d with
 | true=>exact B3 ⟨S1,F1,o,R1,h,k.mono st1.ext.le⟩
 | false=>exact B0 ⟨S1,F1,o,R1,h,k.mono st1.ext.le⟩⟩
noncomputable abbrev GB:=D->SS->Option SS
noncomputable def To (K:PySem.W.Frag) (B:Base) (bd:GB):TG:=fun v σ H Q=>∃S F d S',Rel K B S σ F H/\Rep F v d/\bd d S=some S'/\∀σ',Rel K B S' σ' F H->Q σ' H
structure JG (X:Cx) (tg:Expr) (bd:GB):Prop where
 h:∀B,PG X tg (To X.K B bd)
noncomputable abbrev DI:=List D->SS->Option SS
noncomputable def N1 (K:PySem.W.Frag) (B:Base) (bd:DI):DY:=fun vs σ H Q=>∃S F ds S',Rel K B S σ F H/\aR F vs ds/\bd ds S=some S'/\∀σ',Rel K B S' σ' F H->Q σ' H
structure Ms (X:Cx) (Cm:List Expr) (bd:DI):Prop where
 h:∀B,FY X Cm (N1 X.K B bd)
theorem PG.imp {tg:Expr}{t t':TG}(h:PG X tg t) (k:∀v σ H Q,t' v σ H Q->t v σ H Q):PG X tg t':=fun pins s σ H v u Q I r q=>h pins s σ H v u Q I r (k v σ H Q q)
theorem FY.imp {tg:List Expr}{t t':DY}(h:FY X tg t) (k:∀v σ H Q,t' v σ H Q->t v σ H Q):FY X tg t':=fun pins s σ H v u Q I r q=>h pins s σ H v u Q I r (k v σ H Q q)
noncomputable def bName (i:Nat):GB:=fun d S=>mD i (.t d) S
theorem cE {i:Nat}(hN:X.N.Nodup) (hi:X.N[i]? =some x) (hx:Loc X.env.scope x) (hf:X.fn x=true\/X.env.scope.names.lookup x=some .local:=by first | exact .inl rfl | exact .inr rfl | assumption):JG X (.Name x pos) (bName i):=
 ⟨fun B=>(yU hN hi hx hf).imp fun v σ H Q ⟨S,F,d,S',R,r,h,k⟩=>k _ (R.put h r)⟩
noncomputable def rW:DI:=fun ds S=>match ds with
 | []=>some S
 | _=>none
noncomputable def iz (b:GB) (bs:DI):DI:=fun ds S=>match ds with
 | d :: r=>(b d S).bind fun S1=>bs r S1
 | []=>none
theorem uL:Ms X [] rW:=⟨fun B=>DZ.imp fun vs σ H Q ⟨S,F,ds,S',R,r,h,k⟩=>by
 cases r with
 | nil=>cases h;exact⟨rfl,k σ R⟩
 | cons _ _=>cases h⟩
theorem j9 {tg:Expr}{Cm:List Expr}{bd:GB}{K3:DI}(h1:JG X tg bd) (h2:Ms X Cm K3) (hs:(assignEach (tg :: Cm) X.env).map (·.2)=assign tg X.env :: (assignEach Cm X.env).map (·.2):=by rfl):Ms X (tg :: Cm) (iz bd K3):=
 ⟨fun B=>(BB (h1.h B) (h2.h B) hs).imp fun vs σ H Q ⟨S,F,ds,S',R,r,h,k⟩=>by
 cases r with
 | nil=>cases h
 | cons r rs=>
  obtain⟨S1,e1,h⟩:=ah h
  exact⟨_,_,rfl,S,F,_,S1,R,r,e1,fun σ1 R1=>⟨S1,F,_,S',R1,rs,h,k⟩⟩⟩
noncomputable def qD (n:Nat) (bs:DI):GB:=fun d S=>match d with
 | .tup ds=>if ds.length=n then bs ds S else none
 | _=>none
theorem xS {Cm:List Expr}{k0:Nat}{K3:DI}{n:Nat}(hc:X.calm=true) (h:Ms X Cm K3) (hn:(assignEach Cm X.env).length=n:=by rfl) (hst:(assignEach Cm X.env).findIdx? (·.1)=none:=by rfl):JG X (.Tuple Cm k0 pos) (qD n K3):=
 ⟨fun B=>(GY hc (h.h B) hn hst).imp fun v σ H Q ⟨S,F,d,S',R,r,h,k⟩=>by
 cases d <;> try (cases h)
 rename_i ds
 unfold qD at h
 dsimp only at h
 split at h
 ·rename_i hl
  obtain⟨a,vs,rfl,fa,ha,rs⟩:=R.sub.j8 r
  exact⟨a,vs,rfl,.inl ha,by rw[rs.length];exact hl,S,F,ds,S',R,rs,h,k⟩
 ·cases h⟩
noncomputable def HK (bd:GB) (g:GD):GS:=fun S=>(g S).bind fun p=>(bd p.1 p.2).map .nx
theorem HL {tg:Expr}{bd:GB}{gd:GD}(he:JD X e gd) (hg:JG X tg bd) (hs:swapsWithSole [tg] e pos.line X.env=pure false:=by rfl) (hw:swappedStores [tg] e X.env=pure none:=by rfl)
  (h1:(assignEach [tg] X.env).map (·.2)=[assign tg X.env]:=by rfl):JS X (.Assign [tg] e pos) (HK bd gd):=
 ⟨fun B=>(BC (he.h B) (hg.h B) hs hw h1).imp fun D σ H ⟨S,F,o,R,h,k⟩=>by
 obtain⟨⟨d,S1⟩,e1,h⟩:=ah h
 obtain⟨S2,e2,h⟩:=az h
 subst h
 exact⟨S,F,d,S1,R,e1,fun v F1 H1 R1 st1 r1=>⟨S1,F1,d,S2,R1,r1,e2,fun σ' R2=>k σ' F1 H1 R2 st1.ext.le⟩⟩⟩
noncomputable def Walk (J:It) (F:Hp) (ds:List D):Prop:=∀F' H',(∀b o,F b=some o->F' b=some o)->Sub F' H'->∀i,(∀d,ds[i]? =some d->J.go i H'/\∀x H2,J.Kl i H' x H2->H2=H'/\Rep F' x d)/\(ds.length<=i->J.stop i H')
noncomputable abbrev GI:=SS->Option (List D×SS)
noncomputable def Rx (K:PySem.W.Frag) (B:Base) (gi:GI):TI:=fun σ H R=>∃S F ds S',Rel K B S σ F H/\gi S=some (ds,S')/\∀J F' H',Rel K B S' σ F' H'->Step S S' σ F H F' H'->Walk J F' ds->R J H'
structure JI (X:Cx) (tg e:Expr) (gi:GI):Prop where
 h:∀B,PI X tg e (Rx X.K B gi)
theorem PI.orelse {tg:Expr}{wi:TI}(h:∀σ H R,wi σ H R->∃wi',PI X tg e wi'/\wi' σ H R):PI X tg e wi:=fun pins s σ H R I q=>let⟨_,h1,h2⟩:=h σ H R q;h1 pins s σ H R I h2
noncomputable def Eu (g:GD):GI:=fun S=>(g S).bind fun p=>match p.1 with
 | .tup ds=>some (ds,p.2)
 | .lst ds=>some (ds,p.2)
 | _=>none
noncomputable def gF (g:GD):GI:=fun S=>(g S).bind fun p=>match p.1 with
 | .tup ds=>some (ds,p.2)
 | .lst ds=>some (ds,p.2)
 | .str z=>some (z.cps.toList.map fun c=>.str ⟨#[c]⟩,p.2)
 | _=>none
theorem tM {K:PySem.W.Frag}{F:Hp}{a:Addr}{vs:List V}{ds:List D}(fa:F a=some (.lst vs)) (rs:aR F vs ds):Walk (Nu K a) F ds:=fun F' H' le sb i=>by
 have ha:nC K H' a vs:=.inl (Rd.of (sb a _ (le _ _ fa)))
 refine⟨fun d hd=>?_,fun hl=>⟨vs,ha,by rw[rs.length];exact hl⟩⟩
 obtain⟨v,h1,h2⟩:=rs.get hd
 refine⟨⟨vs,v,ha,h1⟩,fun x H2 y=>⟨y.1,?_⟩⟩
 have:=y.2 vs ha
 rw[h1] at this
 cases this
 exact h2.le le
theorem vQ {K:PySem.W.Frag}{F:Hp}{a:Addr}{vs:List V}{ds:List D}(fa:F a=some (.tup vs)) (rs:aR F vs ds):Walk (Nv K a) F ds:=fun F' H' le sb i=>by
 have ha:vp K H' a vs:=.inl (Rd.of (sb a _ (le _ _ fa)))
 refine⟨fun d hd=>?_,fun hl=>⟨vs,ha,by rw[rs.length];exact hl⟩⟩
 obtain⟨v,h1,h2⟩:=rs.get hd
 refine⟨⟨vs,v,ha,h1⟩,fun x H2 y=>⟨y.1,?_⟩⟩
 have:=y.2 vs ha
 rw[h1] at this
 cases this
 exact h2.le le
theorem Cn {F:Hp}{z:Str}:Walk (NY z) F (z.cps.toList.map fun c=>.str ⟨#[c]⟩):=fun F' H' le sb i=>by
 refine⟨fun d hd=>?_,fun hl=>(show z.cps.size<=i by simpa using hl)⟩
 rw[List.getElem?_map] at hd
 obtain⟨c,hc,rfl⟩:=az hd
 have hc':z.cps[i]? =some c:=by rw[<-Array.getElem?_toList];exact hc
 refine⟨(Array.getElem?_eq_some_iff.mp hc').1,fun x H2 y=>⟨y.1,?_⟩⟩
 obtain⟨c2,k1,rfl⟩:=y.2
 rw[hc'] at k1
 cases k1
 exact .str _
theorem HM {tg:Expr}{gd:GD}(h:JD X e gd):JI X tg e (Eu gd):=⟨fun B=>PI.orelse fun σ H R0 ⟨S,F,ds,S',R,hg,k⟩=>by
 obtain⟨⟨d,S1⟩,h1,hg⟩:=ah hg
 cases d <;> try (cases hg)
 ·refine⟨_,BF (h.h B),S,F,_,_,R,h1,fun v F1 H1 R1 st1 r1=>?_⟩
  obtain⟨a,vs,rfl,fa,ha,rs⟩:=R1.sub.j8 r1
  exact⟨a,rfl,⟨vs,.inl ha⟩,k _ F1 H1 R1 st1 (vQ fa rs)⟩
 ·refine⟨_,yV (h.h B),S,F,_,_,R,h1,fun v F1 H1 R1 st1 r1=>?_⟩
  obtain⟨a,vs,rfl,fa,ha,rs⟩:=R1.sub.iy r1
  exact⟨a,rfl,⟨vs,.inl ha⟩,k _ F1 H1 R1 st1 (tM fa rs)⟩⟩
theorem ia {gd:GD}(h:JD X e gd):JI X (.Name x pos) e (gF gd):=⟨fun B=>PI.orelse fun σ H R0 ⟨S,F,ds,S',R,hg,k⟩=>by
 obtain⟨⟨d,S1⟩,h1,hg⟩:=ah hg
 cases d <;> try (cases hg)
 ·refine⟨_,HA (h.h B),S,F,_,_,R,h1,fun v F1 H1 R1 st1 r1=>?_⟩
  exact⟨_,zf r1,k _ F1 H1 R1 st1 Cn⟩
 ·refine⟨_,BF (h.h B),S,F,_,_,R,h1,fun v F1 H1 R1 st1 r1=>?_⟩
  obtain⟨a,vs,rfl,fa,ha,rs⟩:=R1.sub.j8 r1
  exact⟨a,rfl,⟨vs,.inl ha⟩,k _ F1 H1 R1 st1 (vQ fa rs)⟩
 ·refine⟨_,yV (h.h B),S,F,_,_,R,h1,fun v F1 H1 R1 st1 r1=>?_⟩
  obtain⟨a,vs,rfl,fa,ha,rs⟩:=R1.sub.iy r1
  exact⟨a,rfl,⟨vs,.inl ha⟩,k _ F1 H1 R1 st1 (tM fa rs)⟩⟩
noncomputable def iA (lo:Int) (n:Nat):List D:=(List.range n).map fun(k:Nat)=>D.int (lo+(k:Int))
noncomputable def cU (gA:GA):GI:=fun S=>(gA S).bind fun p=>match p.1 with
 | [.int j]=>if j < 1000000/\-1000000 < j then some (iA 0 j.toNat,p.2) else none
 | _=>none
theorem Co {F:Hp}{lo:Int}{n:Nat}:Walk (Mi lo n) F (iA lo n):=fun F' H' le sb i=>by
 refine⟨fun d hd=>?_,fun hl=>(show n<=i by simpa[iA] using hl)⟩
 unfold iA at hd
 rw[List.getElem?_map] at hd
 obtain⟨c,hc,rfl⟩:=az hd
 obtain⟨hl,e⟩:=List.getElem?_eq_some_iff.mp hc
 rw[List.getElem_range] at e
 subst e
 refine⟨show i < n by simpa using hl,fun x H2 y=>⟨y.1,?_⟩⟩
 rw[y.2]
 exact .int _
theorem dm {tg : Expr} {gA : GA} (hg : Gl X "range") (hm : X.mg "range" = none) (ha : JA X [a] gA) (hs : starEach [a] X.env = [(false, eval a X.env)] := by rfl) : JI X tg (.Call (.Name "range" p) [a] [] pos) (cU gA) :=
  ⟨fun B=>PI.orelse fun σ H R0 ⟨S,F,ds,S',R,hg',k⟩=>by
  obtain⟨⟨d,S1⟩,h1,hg'⟩:=ah hg'
  refine⟨_,Ad hg hm (ha.h B) hs,S,F,d,S1,R,h1,fun vs F1 H1 R1 st1 r1=>?_⟩
  dsimp only at hg'
  split at hg'
  . split at hg'
    . rename_i j hj
      cases hg'
      cases r1 with
      | cons r rs=>
        cases rs
        exact⟨j,by rw[g8 r],by omega,by omega,k _ F1 H1 R1 st1 Co⟩
    . cases hg'
  . cases hg'⟩
noncomputable def loop (bd:GB) (body:GS):List D->SS->Option Out
 | [],S=>some (.nx S)
 | d :: ds,S=>(bd d S).bind fun S1=>(body S1).bind fun o=>match o with
  | .nx S2=>loop bd body ds S2
  | .ct S2=>loop bd body ds S2
  | .bk S2=>some (.nx S2)
  | .rt u S2=>some (.rt u S2)
noncomputable def iR (bd:GB) (gi:GI) (body:GS):GS:=fun S=>(gi S).bind fun p=>loop bd body p.1 p.2
theorem ie {tg iter:Expr}{bd:GB}{gi:GI}(hp:PassesOwn (model X.prog X.w) X.A X.env X.xe) (hc:X.calm=true) (hi:JI X tg iter gi) (hg:JG X tg bd) (hb:JB X body s1) (hs:∀x,foldedSetIterable iter X.env x=pure x:=by intro _;rfl):
  JS X (.For tg iter body [] pos) (iR bd gi s1):=⟨fun B=>(BH hp hc (hi.h B) (hg.h B) (hb.h B) hs).imp fun D σ H ⟨S,F,o,R,h,k⟩=>by
 obtain⟨⟨ds,S1⟩,h1,h⟩:=ah h
 refine⟨S,F,ds,S1,R,h1,fun J F1 H1 R1 st1 w=>?_⟩
 refine⟨fun i m σ' H'=>∃S' F',Rel X.K B S' σ' F' H'/\(∀b o,F1 b=some o->F' b=some o)/\i<=ds.length/\m=ds.length - i/\loop bd s1 (ds.drop i) S'=some o,⟨_,S1,F1,R1,fun _ _ z=>z,Nat.zero_le _,rfl,h⟩,?_⟩
 rintro i m σ' H' ⟨S',F',R',le,hl,rfl,jo⟩
 have w':=w F' H' le R'.sub i
 by_cases hlt:i < ds.length
 ·have hd:ds[i]? =some ds[i]:=List.getElem?_eq_getElem hlt
  obtain⟨go,yl⟩:=w'.1 _ hd
  rw[List.drop_eq_getElem_cons hlt] at jo
  obtain⟨S2,e2,jo⟩:=ah jo
  obtain⟨o2,e3,jo⟩:=ah jo
  refine .inr ⟨go,_,fun σ2 H2 n=>⟨ds.length - (i+1),by omega,n⟩,fun x H2 y=>?_⟩
  obtain⟨rfl,rx⟩:=yl x H2 y
  refine⟨S',F',_,S2,R',rx,e2,fun σ3 R3=>⟨S2,F',o2,R3,e3,?_⟩⟩
  cases o2 with
  | nx S3=>exact fun vR F4 H4 R4 qE=>⟨S3,F4,R4,fun b o z=>qE b o (le b o z),hlt,rfl,jo⟩
  | ct S3=>exact fun vR F4 H4 R4 qE=>⟨S3,F4,R4,fun b o z=>qE b o (le b o z),hlt,rfl,jo⟩
  | bk S3=>cases jo;exact fun vR F4 H4 R4 qE=>k vR F4 H4 R4 fun b o z=>qE b o (le b o (st1.ext.le b o z))
  | rt u S3=>cases jo;exact fun v vR F4 H4 R4 qE=>k v vR F4 H4 R4 fun b o z=>qE b o (le b o (st1.ext.le b o z))
 ·have e:i=ds.length:=by omega
  subst e
  rw[List.drop_length] at jo
  cases jo
  exact .inl ⟨w'.2 (Nat.le_refl _),k σ' F' H' R' fun b o z=>le b o (st1.ext.le b o z)⟩⟩
noncomputable def mK (q:GT) (body:GS):Nat->SS->Option Out
 | 0,_=>none
 | n+1,S=>(q S).bind fun p=>if p.1 then(body p.2).bind fun o=>match o with
  | .nx S2=>mK q body n S2
  | .ct S2=>mK q body n S2
  | .bk S2=>some (.nx S2)
  | .rt u S2=>some (.rt u S2)
 else some (.nx p.2)
noncomputable def qF (fuel:Nat) (q:GT) (body:GS):GS:=fun S=>mK q body fuel S
theorem vU {fuel:Nat}(hp:PassesOwn (model X.prog X.w) X.A X.env X.xe) (hc:JT X c q1) (hb:JB X body s1):JS X (.While c body [] pos) (qF fuel q1 s1):=⟨fun B=>(BD hp (hc.h B) (hb.h B)).imp fun D σ H ⟨S,F,o,R,h,k⟩=>by
 refine⟨fun m σ' H'=>∃S' F',Rel X.K B S' σ' F' H'/\(∀b o,F b=some o->F' b=some o)/\mK q1 s1 m S'=some o,⟨fuel,S,F,R,fun _ _ z=>z,h⟩,?_⟩
 rintro m σ' H' ⟨S',F',R',le,h⟩
 cases m with
 | zero=>cases h
 | succ m=>
  obtain⟨⟨d,S1⟩,h1,h⟩:=ah h
  refine⟨S',F',d,S1,R',h1,fun F1 H1 R1 st1=>?_⟩
  cases d with
  | false=>
   cases h
   exact B0 (k σ' F1 H1 R1 fun b o z=>st1.ext.le b o (le b o z))
  | true=>
   obtain⟨o2,e3,h⟩:=ah (show(s1 S1).bind _=some o from h)
   refine B3 ⟨_,fun σ2 H2 n=>⟨m,Nat.lt_succ_self m,n⟩,S1,F1,o2,R1,e3,?_⟩
   have Mt:∀b o,F b=some o->F1 b=some o:=fun b o z=>st1.ext.le b o (le b o z)
   cases o2 with
   | nx S3=>exact fun vR F4 H4 R4 qE=>⟨S3,F4,R4,fun b o z=>qE b o (Mt b o z),h⟩
   | ct S3=>exact fun vR F4 H4 R4 qE=>⟨S3,F4,R4,fun b o z=>qE b o (Mt b o z),h⟩
   | bk S3=>cases h;exact fun vR F4 H4 R4 qE=>k vR F4 H4 R4 fun b o z=>qE b o (Mt b o z)
   | rt u S3=>cases h;exact fun v vR F4 H4 R4 qE=>k v vR F4 H4 R4 fun b o z=>qE b o (Mt b o z)⟩
end
noncomputable def Jy:U->MO->Option U
 | .m _,o=>some (.m o)
 | .b _,o=>some (.b o)
 | _,_=>none
noncomputable def Jz:U->Option MO
 | .m o=>some o
 | .b o=>some o
 | _=>none
noncomputable def jH (S:SS) (i:Nat) (f:MO->Option (D×MO)):Option (D×SS):=match S[i]? with
 | some (some (.m o))=>(f o).map fun r=>(r.1,S.set i (some (.m r.2)))
 | some (some (.b o))=>(f o).map fun r=>(r.1,S.set i (some (.b r.2)))
 | _=>none
theorem At.K4 {F H:Hp}{a:Addr}{o:MO}{ob:Obj}{u:HO}(h:At F H a o):H a≠some (.kC ob u):=fun z=>by
 cases o with
 | lst ds=>obtain⟨vs,e,_⟩:=h;rw[z] at e;cases e
 | dct ds=>obtain⟨vs,e,_⟩:=h;rw[z] at e;cases e
 | lU ds=>obtain⟨vs,e,_⟩:=h;rw[z] at e;cases e
 | ins C ds=>obtain⟨vs,⟨dx,e⟩,_⟩:=h;rw[z] at e;cases e
theorem rU.cT {K:PySem.W.Frag}{F H:Hp}{v:V}{u:U}(r:rU K F H v u) (hm:fE u=true):∃a o,v= .ref a/\F a=none/\Jz u=some o/\At F H a o:=by
 cases u with
 | t d=>cases hm
 | v d=>cases hm
 | s d=>cases hm
 | f d=>cases hm
 | m o=>obtain⟨a,e,f,h⟩:=r;exact⟨a,o,e,f,rfl,h⟩
 | b o=>obtain⟨a,e,f,h⟩:=r;exact⟨a,o,e,f,rfl,h⟩
theorem Rel.write {K : PySem.W.Frag} {B : Base} {S : SS} {σ : St} {F H : Hp} {i : Nat} {u u' : U} {a : Addr} {ho : HO} {o : MO} (R : Rel K B S σ F H) (hS : S[i]? = some (some u)) (hu : Jy u o = some u') (hv : σ[i]? = some (some (.ref a))) (ha : At F (upd H a ho) a o) :
    Rel K B (S.set i (some u')) σ F (upd H a ho)/\Step S (S.set i (some u')) σ F H F (upd H a ho):=by
  have hm:fE u=true/\fE u'=true:=by cases u <;> cases hu <;> exact⟨rfl,rfl⟩
  have K5:F a=none/\∀b ob w,H b=some (.kC ob w)->b≠a:=by
    obtain⟨v,h1,h2⟩:=R.rep i u hS
    rw[hv] at h1
    cases h1
    obtain⟨b,_,e,f,_,k⟩:=h2.cT hm.1
    cases e
    exact⟨f,fun b ob w z e=>k.K4 (by rw[e] at z;exact z)⟩
  have K6:=K5.1
  have N2:∀b ob w,H b=some (.kC ob w)->upd H a ho b=some (.kC ob w):=fun b ob w z=>by rw[aJ (K5.2 b ob w z)];exact z
  have Tp:L2.cT S σ a:=⟨i,u,hS,hm.1,hv⟩
  have hl:i < S.length:=(List.getElem?_eq_some_iff.mp hS).1
  have kb:∀{j w},(S.set i (some u'))[j]? =some (some w)->(i=j/\u'=w)\/(i≠j/\S[j]? =some (some w)):=fun {j w} z=>by
    rcases get_set z with⟨e,q,_⟩ | q
    . exact .inl ⟨e,Option.some.inj q⟩
    . exact .inr q
  have orig:∀{j w},(S.set i (some u'))[j]? =some (some w)->fE w=true->∃w0,S[j]? =some (some w0)/\fE w0=true:=fun {j w} z hw=>by
    rcases kb z with⟨rfl,rfl⟩ | ⟨_,q⟩
    . exact⟨u,hS,hm.1⟩
    . exact⟨w,q,hw⟩
  have keepR:∀b o,b≠a->Rd H b o->Rd (upd H a ho) b o:=fun b o ne r=>by
    rcases r with r | ⟨ob,r⟩
    . exact .inl (by rw[aJ ne];exact r)
    . exact .inr ⟨ob,by rw[aJ ne];exact r⟩
  refine⟨⟨fun b o z=>by rw[aJ (fun e=>by rw[e,K6] at z;cases z)];exact R.sub b o z,by rw[List.length_set];exact R.len,fun j w z=>?_,fun j k w1 w2 c z1 m1 z2 m2=>?_,fun j o' c z hc=>?_,fun j o' c z hc=>?_,fun j c z=>?_,?_⟩,⟨?_,fun c ⟨j,w,z,hw,hc⟩=>?_,fun j w z=>?_⟩⟩
  . rcases kb z with⟨rfl,rfl⟩ | ⟨ne,q⟩
    . refine⟨.ref a,hv,?_⟩
      cases u <;> cases hu
      . exact⟨a,rfl,K6,ha⟩
      . exact⟨a,rfl,K6,ha⟩
    . obtain⟨v,h1,h2⟩:=R.rep j w q
      refine⟨v,h1,?_⟩
      by_cases hw:fE w=true
      . obtain⟨c,o',rfl,f,e,h⟩:=h2.cT hw
        have hca:c≠a:=fun z=>ne (R.Aq i j u w a hS hm.1 q hw hv (by rw[h1,z]))
        have h':At F (upd H a ho) c o':=h.le (fun _ _ z=>z) fun o z=>by rw[aJ hca];exact z
        cases w <;> cases hw <;> cases e
        . exact⟨c,rfl,f,h'⟩
        . exact⟨c,rfl,f,h'⟩
      . cases w with
        | t d=>exact h2
        | v d=>exact h2
        | s d=>obtain⟨c,e,h⟩:=h2;exact⟨c,e,h.le N2⟩
        | f d=>exact h2
        | m o=>exact absurd rfl hw
        | b o=>exact absurd rfl hw
  . obtain⟨N3,q1,n1⟩:=orig z1 m1
    obtain⟨N4,q2,n2⟩:=orig z2 m2
    exact R.Aq j k N3 N4 c q1 n1 q2 n2
  . rcases kb z with⟨rfl,rfl⟩ | ⟨_,q⟩
    . cases u <;> cases hu
      exact R.own _ _ c hS hc
    . exact R.own j o' c q hc
  . rcases kb z with⟨rfl,rfl⟩ | ⟨_,q⟩
    . cases u <;> cases hu
      exact R.bor _ _ c hS hc
    . exact R.bor j o' c q hc
  . obtain⟨k1,o',k2⟩:=R.par j c z
    refine⟨k1,?_⟩
    by_cases e:i=j
    . subst e
      rw[hS] at k2
      cases k2
      cases hu
      exact⟨o,List.getElem?_set_self hl⟩
    . exact⟨o',by rw[List.getElem?_set_ne e];exact k2⟩
  . refine⟨R.ext.le,fun b o z n=>?_,R.ext.jU,fun b o z=>?_,fun b o w z=>N2 b o w (R.ext.kC b o w z)⟩
    . have hb:b≠a:=fun e=>by
        subst e
        cases u with
        | m o'=>rw[R.own i o' b hS hv] at z;cases z
        | b o'=>exact n (R.bor i o' b hS hv)
        | t d=>cases hu
        | v d=>cases hu
        | s d=>cases hu
        | f d=>cases hu
      rw[aJ hb]
      exact R.ext.keep b o z n
    . by_cases hb:b=a
      . exact⟨ho,by rw[hb,aK]⟩
      . rw[aJ hb];exact R.ext.there b o z
  . refine⟨fun _ _ z=>z,fun b o z n=>?_,fun _ _ _ _ z=>z,fun b o z=>?_,N2⟩
    . rw[aJ (fun e=>n (by rw[e];exact Tp))];exact z
    . by_cases hb:b=a
      . exact⟨ho,by rw[hb,aK]⟩
      . exact⟨o,by rw[aJ hb];exact z⟩
  . obtain⟨w0,q,n⟩:=orig z hw
    exact⟨j,w0,q,n,hc⟩
  . by_cases e:i=j
    . subst e;exact⟨u',List.getElem?_set_self hl⟩
    . exact⟨w,by rw[List.getElem?_set_ne e];exact z⟩
theorem oU {S S':SS}{i:Nat}{f:MO->Option (D×MO)}{d:D}(h:jH S i f=some (d,S')):∃u u' o o',S[i]? =some (some u)/\fE u=true/\Jz u=some o/\f o=some (d,o')/\Jy u o'=some u'/\S'=S.set i (some u'):=by
 unfold jH at h
 split at h
 ·rename_i o e
  obtain⟨⟨d',o'⟩,h1,h⟩:=az h
  cases h
  exact⟨_,_,o,o',e,rfl,rfl,h1,rfl,rfl⟩
 ·rename_i o e
  obtain⟨⟨d',o'⟩,h1,h⟩:=az h
  cases h
  exact⟨_,_,o,o',e,rfl,rfl,h1,rfl,rfl⟩
 ·cases h
noncomputable def Mu (r:V->List V->Hp->VK->Prop) (h:List D->MO->Option (D×MO)):Prop:=
 ∀F H a vs xs ds args res o',Sub F H->H a=some (.lst vs)->F a=none->aR F vs ds->aR F xs args->h args (.lst ds)=some (res,o')->
  ∀Q:VK,(∀rv ho,Rep F rv res->At F (upd H a ho) a o'->Q rv (upd H a ho))->r (.ref a) xs H Q
noncomputable def cV:MO->Bool
 | .lst _=>true
 | _=>false
noncomputable def zj (S:SS) (i:Nat):Bool:=match S[i]? with
 | some (some (.m (.lst _)))=>true
 | some (some (.b (.lst _)))=>true
 | _=>false
theorem HN {K:PySem.W.Frag}{B:Base}{S:SS}{σ:St}{F H:Hp}{i:Nat}(R:Rel K B S σ F H) (h:zj S i=true):∃u a vs ds,S[i]? =some (some u)/\fE u=true/\Jz u=some (.lst ds)/\σ[i]? =some (some (.ref a))/\F a=none/\H a=some (.lst vs)/\aR F vs ds:=by
 unfold zj at h
 split at h
 ·rename_i ds e
  obtain⟨v,k1,a,rfl,f,vs,k2,k3⟩:=R.rep i _ e
  exact⟨_,a,vs,ds,e,rfl,rfl,k1,f,k2,k3⟩
 ·rename_i ds e
  obtain⟨v,k1,a,rfl,f,vs,k2,k3⟩:=R.rep i _ e
  exact⟨_,a,vs,ds,e,rfl,rfl,k1,f,k2,k3⟩
 ·cases h
noncomputable def eM (i:Nat) (h:List D->MO->Option (D×MO)) (gA:GA):GD:=fun S=>if zj S i then(gA S).bind fun p=>jH p.2 i (h p.1) else none
theorem Cp {K:PySem.W.Frag}{B:Base}{S:SS}{σ:St}{F H:Hp}{i:Nat}{a:Addr}{u:U}{ds:List D}(R:Rel K B S σ F H) (hS:S[i]? =some (some u)) (hm:fE u=true) (hi:Jz u=some (.lst ds)) (hv:σ[i]? =some (some (.ref a))):F a=none/\∃vs,H a=some (.lst vs)/\aR F vs ds:=by
 obtain⟨v,k1,k2⟩:=R.rep i u hS
 rw[hv] at k1
 cases k1
 obtain⟨b,o2,e1,f,e2,k⟩:=k2.cT hm
 cases e1
 rw[hi] at e2
 cases e2
 exact⟨f,k⟩
section
variable {X:Cx}{a b c e:Expr}{es:List Expr}{pos p p2 apos cpos px:Pos}{x name:Str}{g ga gb gc:GD}{gA:GA}{id:String}
theorem iN {i:Nat}{r:V->List V->Hp->VK->Prop}{h:List D->MO->Option (D×MO)}(slot:Slot "list" name id) (hty:typeOf (.builtin id)=pure (.type "method_descriptor")) (hm:Mk X id r) (hh:Mu r h) (hl:∀args o,cV o=false->h args o=none) (ha:JA X (e :: es) gA)
  (hN:X.N[i]? =some x:=by rfl) (hv:Bv X.env.scope x:=by first | exact Or.inl rfl | exact Or.inr (Or.inl rfl) | exact Or.inr (Or.inr rfl))
  (hbase:attributeBase (.Name x px) name X.env (eval (.Name x px) X.env)=eval (.Name x px) X.env:=by rfl)
  (hfew:((backTo cpos (starEach (e :: es) X.env)).all (fun x=>!x.1) && (backToKw cpos (keywordEach [] X.env)).all (fun x=>x.1.isSome)
   && decide ((e :: es).length+([]:List Keyword).length+(if([]:List Keyword).isEmpty then 0 else 1) < 30))=true:=by rfl)
  (hline:(apos.endLine == cpos.line)=true:=by rfl) (hs:starEach (e :: es) X.env=(false,eval e X.env) :: starEach es X.env:=by rfl) (hplain:(backTo cpos (starEach es X.env)).any (·.1)=false:=by rfl)
  (hd:(x == ("__debug__":Str))=false:=by decide) (hcd:(x == ("__classdict__":Str))=false:=by decide):
  JD X (.Call (.Attribute (.Name x px) name apos) (e :: es) [] cpos) (eM i h gA):=
 ⟨fun B=>(KQ PySem.F.plainAttrs_list slot hty hm (iV hN hv hd hcd) (ha.h B) hbase hfew hline hs hplain).imp fun σ H Q ⟨S,F,d,S',R,hg,q⟩=>by
 unfold eM at hg
 split at hg
 ·rename_i hL
  obtain⟨⟨args,S1⟩,h1,hg⟩:=ah hg
  obtain⟨u,u',o,o',hS,HP,hio,hf,DJ,rfl⟩:=oU hg
  obtain⟨u0,a,Tq,Au,_,_,_,hv0,_,hH,_⟩:=HN R hL
  cases o with
  | dct kvs=>rw[hl _ _ rfl] at hf;cases hf
  | lU kvs=>rw[hl _ _ rfl] at hf;cases hf
  | ins C kvs=>rw[hl _ _ rfl] at hf;cases hf
  | lst ds=>
   refine⟨.ref a,hv0,.inl ⟨rfl,Tq,nC.of hH⟩,S,F,args,S1,R,h1,fun xs F1 H1 R1 st1 r1=>?_⟩
   obtain⟨hf1,vs,Tr,rs⟩:=Cp R1 hS HP hio hv0
   refine hh F1 H1 a vs xs ds args d o' R1.sub Tr hf1 rs r1 hf Q fun rv ho rr ha=>?_
   obtain⟨R2,st2⟩:=R1.write hS DJ hv0 ha
   exact q rv F1 _ R2 (st1.trans st2) rr
 ·cases hg⟩
noncomputable def hAppend:List D->MO->Option (D×MO)
 | [d],.lst ds=>if ds.length < 100000 then some (.bM,.lst (ds++[d])) else none
 | _,_=>none
theorem gM : Mu zc hAppend := by
  intro F H a vs xs ds args res o' sb hH fa rs rx hw Q q
  unfold hAppend at hw
  split at hw
  . rename_i d ds' e2
    cases e2
    split at hw
    . rename_i hl
      cases hw
      cases rx with
      | cons r rr=>
        cases rr
        exact⟨a,vs,_,rfl,rfl,hH,by rw[rs.length];exact Nat.lt_of_lt_of_le hl (by decide),q .bM _ .bM ⟨_,aK,rs.append (.cons r .nil)⟩⟩
    . cases hw
  . cases hw
theorem aR.dropLast {F:Hp}{vs:List V}{ds:List D}(r:aR F vs ds):aR F vs.dropLast ds.dropLast:=by
 rw[List.dropLast_eq_take,List.dropLast_eq_take,r.length]
 exact r.take _
end
theorem jG.step {K:PySem.W.Frag}{B:Base}{S S':SS}{σ:St}{H0 F H F' H':Hp}{v:V}{u:U}(r:jG K B S σ H0 F H v u) (st:Step S S' σ F H F' H'):jG K B S' σ H0 F' H' v u:=by
 cases u with
 | t d=>exact r.le st.ext.le
 | b o=>exact r
 | v i=>obtain⟨h1,u,h2⟩:=r;exact⟨h1,st.slots i u h2⟩
 | s i=>obtain⟨a,e,h⟩:=r;exact⟨a,e,h.le st.ext.kC⟩
 | f i=>exact r
 | m o=>
  obtain⟨a,e,h0,f,h,n,hB⟩:=r
  obtain⟨ho,hh⟩:=h.has
  exact⟨a,e,h0,st.ext.jU a ho hh n f,h.le st.ext.le fun o z=>st.ext.keep a o z n,fun m=>n (st.mu a m),hB⟩
noncomputable abbrev GU:=SS->Option (List U×SS)
noncomputable def Tt (K:PySem.W.Frag) (B:Base) (gu:GU):TA:=fun σ H Q=>∃S F us S',Rel K B S σ F H/\gu S=some (us,S')/\∀vs F' H',Rel K B S' σ F' H'->Step S S' σ F H F' H'->Paired (fun v u=>jG K B S' σ H F' H' v u) vs us->Q vs H'
structure JU (X:Cx) (es:List Expr) (gu:GU):Prop where
 h:∀B,PA X es (Tt X.K B gu)
 len:∀S us S',gu S=some (us,S')->us.length=es.length
noncomputable def cz:GU:=fun S=>some ([],S)
noncomputable def bq (g:GD) (gu:GU):GU:=fun S=>(g S).bind fun p=>(gu p.2).map fun q=>(.t p.1 :: q.1,q.2)
noncomputable def jI (g:GE) (gu:GU):GU:=fun S=>(g S).bind fun p=>(gu p.2).map fun q=>(p.1 :: q.1,q.2)
section
variable {X:Cx}{e:Expr}{es:List Expr}{g:GD}{ge:GE}{gu:GU}
theorem bQ:JU X [] cz:=⟨fun B=>oN.imp fun σ H Q ⟨S,F,us,S',R,hg,q⟩=>by
 cases hg
 exact q [] F H R (Step.refl ..) .nil,fun S us S' h=>by cases h;rfl⟩
theorem aX (h:JD X e g) (hr:JU X es gu) (hs:starEach (e :: es) X.env=(false,eval e X.env) :: starEach es X.env:=by rfl):JU X (e :: es) (bq g gu):=
 ⟨fun B=>(jK (h.h B) (hr.h B) hs).imp fun σ H Q ⟨S,F,us,S',R,hg,q⟩=>by
 obtain⟨⟨d,S1⟩,h1,hg⟩:=ah hg
 obtain⟨⟨HQ,S2⟩,h2,hg⟩:=az hg
 cases hg
 exact⟨S,F,d,S1,R,h1,fun v F1 H1 R1 st1 r1=>⟨S1,F1,HQ,S2,R1,h2,fun vs F2 H2 R2 st2 r2=>q _ F2 H2 R2 (st1.trans st2) (.cons (r1.le st2.ext.le) (Paired.Aa r2 fun _ _ z=>z.weak st1.ext.there))⟩⟩,
 fun S us S' hg=>by
  obtain⟨⟨d,S1⟩,h1,hg⟩:=ah hg
  obtain⟨⟨HQ,S2⟩,h2,hg⟩:=az hg
  cases hg
  show HQ.length+1=es.length+1
  rw[hr.len _ _ _ h2]⟩
theorem iX (h:JE X e ge) (hr:JU X es gu) (hs:starEach (e :: es) X.env=(false,eval e X.env) :: starEach es X.env:=by rfl):JU X (e :: es) (jI ge gu):=
 ⟨fun B=>(jK (h.h B) (hr.h B) hs).imp fun σ H Q ⟨S,F,us,S',R,hg,q⟩=>by
 obtain⟨⟨d,S1⟩,h1,hg⟩:=ah hg
 obtain⟨⟨HQ,S2⟩,h2,hg⟩:=az hg
 cases hg
 exact⟨S,F,d,S1,R,h1,fun v F1 H1 R1 st1 r1=>⟨S1,F1,HQ,S2,R1,h2,fun vs F2 H2 R2 st2 r2=>q _ F2 H2 R2 (st1.trans st2) (.cons (r1.step st2) (Paired.Aa r2 fun _ _ z=>z.weak st1.ext.there))⟩⟩,
 fun S us S' hg=>by
  obtain⟨⟨d,S1⟩,h1,hg⟩:=ah hg
  obtain⟨⟨HQ,S2⟩,h2,hg⟩:=az hg
  cases hg
  show HQ.length+1=es.length+1
  rw[hr.len _ _ _ h2]⟩
end
noncomputable def resolve (S:SS):U->Option U
 | .t d=>some (.t d)
 | .v i=>match S[i]? with
  | some (some (.m o))=>some (.b o)
  | some (some (.b o))=>some (.b o)
  | _=>none
 | .m o=>some (.b o)
 | .b _=>none
 | .s ns=>some (.s ns)
 | .f a=>some (.f a)
noncomputable def cj (S:SS):List U->Option (List U)
 | []=>some []
 | u :: us=>(resolve S u).bind fun w=>(cj S us).map fun ws=>w :: ws
noncomputable def slotsOf:List U->List Nat
 | []=>[]
 | .v i :: us=>i :: slotsOf us
 | _ :: us=>slotsOf us
noncomputable def cF:List U->Nat
 | []=>0
 | .m _ :: us=>cF us+1
 | _ :: us=>cF us
noncomputable def wb:List U->List MO->SS->Option SS
 | [],[],S=>some S
 | .v i :: us,o :: outs,S=>match S[i]? with
  | some (some (.m _))=>wb us outs (S.set i (some (.m o)))
  | some (some (.b _))=>wb us outs (S.set i (some (.b o)))
  | _=>none
 | .m _ :: us,_ :: outs,S=>wb us outs S
 | .t _ :: us,outs,S=>wb us outs S
 | .s _ :: us,outs,S=>wb us outs S
 | .f _ :: us,outs,S=>wb us outs S
 | _,_,_=>none
noncomputable abbrev FM:=List U->Option (U×List MO)
noncomputable def br (f:FM) (gu:GU):GE:=fun S=>(gu S).bind fun p=>
 if(slotsOf p.1).Nodup/\cF p.1<=1 then(cj p.2 p.1).bind fun us=>(f us).bind fun r=>(wb p.1 r.2 p.2).map fun S2=>(r.1,S2) else none
noncomputable def Cq (K:PySem.W.Frag) (F H:Hp) (v:V):U->Prop
 | .s ns=>∃a,v= .ref a/\Eo K H a ns
 | .f a=>v= .ref a
 | .t d=>Rep F v d
 | .b o=>∃a,v= .ref a/\F a=none/\At F H a o
 | _=>False
noncomputable def addrs:List V->List U->List Addr
 | .ref a :: vs,.b _ :: us=>a :: addrs vs us
 | _ :: vs,_ :: us=>addrs vs us
 | _,_=>[]
structure Post (F H F' H':Hp) (as:List Addr) (outs:List MO):Prop where
 sub:Sub F' H'
 ext:Ext (fun a=>a∈as) F H F' H'
 out:Paired (fun a o=>F' a=none/\At F' H' a o) as outs
noncomputable def spT (K:PySem.W.Frag) (n:Nat) (f:FM):Sp:=fun vs H Q _=>vs.length=n/\∃F us r outs,Sub F H/\Paired (Cq K F H) vs us/\(addrs vs us).Nodup/\f us=some (r,outs)/\∀v F' H',Post F H F' H' (addrs vs us) outs->Ep H F' H' v r->Q v H'
section
variable {K:PySem.W.Frag}{B:Base}{S S1 S2:SS}{σ:St}{H0 F H F' H':Hp}
theorem lW {i:Nat}{w:U}(h:resolve S (.v i)=some w):∃u o,S[i]? =some (some u)/\fE u=true/\Jz u=some o/\w= .b o:=by
 unfold resolve at h
 dsimp only at h
 split at h
 ·rename_i o e;cases h;exact⟨_,o,e,rfl,rfl,rfl⟩
 ·rename_i o e;cases h;exact⟨_,o,e,rfl,rfl,rfl⟩
 ·cases h
theorem uM (R:Rel K B S σ F H):∀{vs:List V}{us ws:List U},Paired (fun v u=>jG K B S σ H0 F H v u) vs us->cj S us=some ws->Paired (Cq K F H) vs ws
 | _,_,_,.nil,h=>by cases h;exact .nil
 | _,_,_,@Paired.cons _ _ _ v u vs us r rs,h=>by
  obtain⟨w,h1,h⟩:=ah h
  obtain⟨ws,h2,h⟩:=az h
  subst h
  refine .cons ?_ (uM R rs h2)
  cases u with
  | t d=>cases h1;exact r
  | s d=>cases h1;exact r
  | f d=>cases h1;exact r
  | b o=>cases h1
  | m o=>cases h1;obtain⟨a,e,_,f,k,_⟩:=r;exact⟨a,e,f,k⟩
  | v i=>
   obtain⟨u,o,hu,hm,hi,rfl⟩:=lW h1
   obtain⟨hv,_⟩:=r
   obtain⟨v',k1,k2⟩:=R.rep i u hu
   rw[hv] at k1
   cases k1
   obtain⟨a,o2,e,f,e2,k⟩:=k2.cT hm
   rw[hi] at e2
   cases e2
   exact⟨a,e,f,k⟩
theorem nO (R : Rel K B S σ F H) : ∀ {vs : List V} {us ws : List U}, Paired (fun v u => jG K B S σ H0 F H v u) vs us -> cj S us = some ws -> ∀ a ∈ addrs vs ws,
    (∃i u,i∈slotsOf us/\S[i]? =some (some u)/\fE u=true/\σ[i]? =some (some (.ref a)))\/(0 < cF us/\H0 a=none/\B.H a=none/\¬cT S σ a)
  | _,_,_,.nil,h,a,ha=>by cases h;cases ha
  | _,_,_,@Paired.cons _ _ _ v u vs us r rs,h,a,ha=>by
    obtain⟨w,h1,h⟩:=ah h
    obtain⟨ws,h2,h⟩:=az h
    subst h
    have ih:=nO R rs h2
    cases u with
    | t d=>
      cases h1
      have ha:a∈addrs vs ws:=by cases v <;> exact ha
      exact ih a ha
    | s d=>
      cases h1
      have ha:a∈addrs vs ws:=by cases v <;> exact ha
      exact ih a ha
    | f d=>
      cases h1
      have ha:a∈addrs vs ws:=by cases v <;> exact ha
      exact ih a ha
    | b o=>cases h1
    | m o =>
      cases h1
      obtain⟨c,rfl,k0,f,k,n,hB⟩:=r
      rcases List.mem_cons.mp (show a∈c :: addrs vs ws from ha) with rfl | ha
      . exact .inr ⟨Nat.succ_pos _,k0,hB,n⟩
      . rcases ih a ha with z | ⟨_,z⟩
        . exact .inl z
        . exact .inr ⟨Nat.succ_pos _,z⟩
    | v i =>
      obtain⟨u,o,hu,hm,hi,rfl⟩:=lW h1
      obtain⟨hv,_⟩:=r
      obtain⟨v',k1,k2⟩:=R.rep i u hu
      rw[hv] at k1
      cases k1
      obtain⟨c,o2,rfl,f,e2,k⟩:=k2.cT hm
      rcases List.mem_cons.mp (show a∈c :: addrs vs ws from ha) with rfl | ha
      . exact .inl ⟨i,u,List.mem_cons_self,hu,hm,hv⟩
      . rcases ih a ha with⟨j,w,z,z2⟩ | z
        . exact .inl ⟨j,w,List.mem_cons_of_mem _ z,z2⟩
        . exact .inr z
theorem fG (R : Rel K B S σ F H) : ∀ {vs : List V} {us ws : List U}, Paired (fun v u => jG K B S σ H0 F H v u) vs us -> cj S us = some ws -> (slotsOf us).Nodup -> cF us <= 1 -> (addrs vs ws).Nodup
  | _,_,_,.nil,h,_,_=>by cases h;exact List.nodup_nil
  | _,_,_,@Paired.cons _ _ _ v u vs us r rs,h,nd,fr=>by
    obtain⟨w,h1,h⟩:=ah h
    obtain⟨ws,h2,h⟩:=az h
    subst h
    cases u with
    | t d=>
      cases h1
      have:=fG R rs h2 nd fr
      cases v <;> exact this
    | s d=>
      cases h1
      have:=fG R rs h2 nd fr
      cases v <;> exact this
    | f d=>
      cases h1
      have:=fG R rs h2 nd fr
      cases v <;> exact this
    | b o=>cases h1
    | m o=>
      cases h1
      have V8:cF us=0:=by have:cF us+1<=1:=fr;omega
      obtain⟨c,rfl,k0,f,k,n,hB⟩:=r
      refine List.nodup_cons.mpr ⟨fun hc=>?_,fG R rs h2 nd (by omega)⟩
      rcases nO R rs h2 c hc with⟨j,w,_,z1,z2,z3⟩ | ⟨z,_⟩
      . exact n ⟨j,w,z1,z2,z3⟩
      . omega
    | v i =>
      obtain⟨u,o,hu,hm,hi,rfl⟩:=lW h1
      obtain⟨hv,_⟩:=r
      obtain⟨v',k1,k2⟩:=R.rep i u hu
      rw[hv] at k1
      cases k1
      obtain⟨c,o2,rfl,f,e2,k⟩:=k2.cT hm
      obtain⟨N5,N6⟩:=List.nodup_cons.mp (show(i :: slotsOf us).Nodup from nd)
      refine List.nodup_cons.mpr ⟨fun hc=>?_,fG R rs h2 N6 fr⟩
      rcases nO R rs h2 c hc with⟨j,w,z0,z1,z2,z3⟩ | ⟨_,_,_,z⟩
      . have:=R.Aq i j u w c hu hm z1 z2 hv z3
        subst this
        exact N5 z0
      . exact z ⟨i,u,hu,hm,hv⟩
theorem lX (R : Rel K B S σ F H) (P : Addr -> MO -> Prop) : ∀ {vs : List V} {us ws : List U} {outs : List MO} {S1 S2 : SS}, Paired (fun v u => jG K B S σ H0 F H v u) vs us -> cj S us = some ws -> wb us outs S1 = some S2 -> (slotsOf us).Nodup -> Paired P (addrs vs ws) outs ->
    S2.length=S1.length/\(∀j,j∉slotsOf us->S2[j]? =S1[j]?)/\∀j∈slotsOf us,∃u u' o a,S1[j]? =some (some u)/\Jy u o=some u'/\S2[j]? =some (some u')/\σ[j]? =some (some (.ref a))/\P a o
  | _,_,_,_,_,_,.nil,h,hw,_,hp=>by
    cases h
    cases hp
    cases hw
    exact⟨rfl,fun _ _=>rfl,fun j hj=>by cases hj⟩
  | _, _, _, outs, S1, S2, @Paired.cons _ _ _ v u vs us r rs, h, hw, nd, hp => by
    obtain⟨w,h1,h⟩:=ah h
    obtain⟨ws,h2,h⟩:=az h
    subst h
    cases u with
    | t d =>
      cases h1
      have hp:Paired P (addrs vs ws) outs:=by cases v <;> exact hp
      have hw:wb us outs S1=some S2:=by
        cases outs <;> exact hw
      have ih:=lX R P rs h2 hw nd hp
      exact ih
    | s d =>
      cases h1
      have hp:Paired P (addrs vs ws) outs:=by cases v <;> exact hp
      have hw:wb us outs S1=some S2:=by
        cases outs <;> exact hw
      have ih:=lX R P rs h2 hw nd hp
      exact ih
    | f d =>
      cases h1
      have hp:Paired P (addrs vs ws) outs:=by cases v <;> exact hp
      have hw:wb us outs S1=some S2:=by
        cases outs <;> exact hw
      have ih:=lX R P rs h2 hw nd hp
      exact ih
    | b o=>cases h1
    | m o =>
      cases h1
      obtain⟨c,rfl,k0,f,k,n,hB⟩:=r
      cases hp with
      | cons p1 p2=>
        have ih:=lX R P rs h2 (show wb us _ S1=some S2 from hw) nd p2
        exact ih
    | v i =>
      obtain⟨u0,o0,hu,hm,hi,rfl⟩:=lW h1
      obtain⟨hv,_⟩:=r
      obtain⟨v',k1,k2⟩:=R.rep i u0 hu
      rw[hv] at k1
      cases k1
      obtain⟨c,o2,rfl,f,e2,k⟩:=k2.cT hm
      obtain⟨N5,N6⟩:=List.nodup_cons.mp (show(i :: slotsOf us).Nodup from nd)
      cases hp with
      | @cons _ o _ outs p1 p2 =>
        have go : ∀ u u', S1[i]? = some (some u) -> Jy u o = some u' -> wb us outs (S1.set i (some u')) = some S2 -> S2.length = S1.length /\ (∀ j, j ∉ i :: slotsOf us -> S2[j]? = S1[j]?) /\ ∀ j ∈ i :: slotsOf us, ∃ u u' o a, S1[j]? = some (some u) /\ Jy u o = some u' /\ S2[j]? = some (some u') /\ σ[j]? = some (some (.ref a)) /\ P a o := fun u u' e1 e2 hw => by
          obtain⟨l,out,As⟩:=lX R P rs h2 hw N6 p2
          refine⟨by rw[l,List.length_set],fun j hj=>?_,fun j hj=>?_⟩
          . rw[out j fun z=>hj (List.mem_cons_of_mem _ z),List.getElem?_set_ne fun z=>hj (by rw[z];exact List.mem_cons_self)]
          . by_cases e:i=j
            . subst e
              exact⟨u,u',o,c,e1,e2,by rw[out i N5];exact List.getElem?_set_self (List.getElem?_eq_some_iff.mp e1).1,hv,p1⟩
            . rcases List.mem_cons.mp hj with z | z
              . exact absurd z.symm e
              . obtain⟨w,w',o',a',q1,q2,q3,q4,q5⟩:=As j z
                rw[List.getElem?_set_ne e] at q1
                exact⟨w,w',o',a',q1,q2,q3,q4,q5⟩
        unfold wb at hw
        split at hw
        . rename_i o' e;exact go _ _ e rfl hw
        . rename_i o' e;exact go _ _ e rfl hw
        . cases hw
end
theorem qG {K : PySem.W.Frag} {B : Base} {S0 S S2 : SS} {σ : St} {F0 H0 F H F' H' : Hp} {vs : List V} {us ws : List U} {outs : List MO} (R : Rel K B S σ F H) (st : Step S0 S σ F0 H0 F H) (rr : Paired (fun v u => jG K B S σ H0 F H v u) vs us) (hr : cj S us = some ws) (hw : wb us outs S = some S2) (nd : (slotsOf us).Nodup) (p : Post F H F' H' (addrs vs ws) outs) :
    Rel K B S2 σ F' H'/\Step S0 S2 σ F0 H0 F' H'/\∀a,cT S2 σ a->cT S σ a:=by
  obtain⟨hl,out,As⟩:=lX R (fun a o=>F' a=none/\At F' H' a o) rr hr hw nd p.out
  have Tu:∀{u:U}{o:MO}{u':U},Jy u o=some u'->fE u=true/\fE u'=true/\Jz u'=some o:=fun {u o u'} h=>by cases u <;> cases h <;> exact⟨rfl,rfl,rfl⟩
  have orig:∀{j w},S2[j]? =some (some w)->fE w=true->∃w0,S[j]? =some (some w0)/\fE w0=true:=fun {j w} z hm=>by
    by_cases hj:j∈slotsOf us
    . obtain⟨u,u',o,a,q1,q2,q3,q4,q5⟩:=As j hj
      exact⟨u,q1,(Tu q2).1⟩
    . rw[out j hj] at z;exact⟨w,z,hm⟩
  have mu:∀a,cT S2 σ a->cT S σ a:=fun a ⟨j,w,z,hm,hv⟩=>let⟨w0,q,n⟩:=orig z hm;⟨j,w0,q,n,hv⟩
  have zl:=nO R rr hr
  refine⟨⟨p.sub,by rw[hl];exact R.len,fun j w z=>?_,fun j k w1 w2 c z1 m1 z2 m2=>?_,fun j o a z hv=>?_,fun j o a z hv=>?_,fun j a z=>?_,?_⟩,⟨⟨?_,?_,?_,?_,fun b o u z=>p.ext.kC b o u (st.ext.kC b o u z)⟩,fun a m=>st.mu a (mu a m),fun j u z=>?_⟩,mu⟩
  . by_cases hj:j∈slotsOf us
    . obtain⟨u,u',o,a,q1,q2,q3,q4,q5,q6⟩:=As j hj
      rw[q3] at z
      cases z
      refine⟨.ref a,q4,?_⟩
      cases u <;> cases q2
      . exact⟨a,rfl,q5,q6⟩
      . exact⟨a,rfl,q5,q6⟩
    . rw[out j hj] at z
      obtain⟨v,h1,h2⟩:=R.rep j w z
      refine⟨v,h1,h2.le p.ext.le p.ext.kC fun a hm ha=>?_⟩
      have hna:a∉addrs vs ws:=fun hc=>by
        rcases zl a hc with⟨i,u,q0,q1,q2,q3⟩ | ⟨_,_,_,q⟩
        . have:=R.Aq i j u w a q1 q2 z hm q3 (by rw[h1,ha])
          subst this
          exact hj q0
        . exact q ⟨j,w,z,hm,by rw[h1,ha]⟩
      obtain⟨c,o,e,f,_,k⟩:=h2.cT hm
      rw[ha] at e
      cases e
      obtain⟨ho,hh⟩:=k.has
      exact⟨fun o q=>p.ext.keep a o q hna,p.ext.jU a ho hh hna f⟩
  . obtain⟨N3,q1,n1⟩:=orig z1 m1
    obtain⟨N4,q2,n2⟩:=orig z2 m2
    exact R.Aq j k N3 N4 c q1 n1 q2 n2
  . by_cases hj:j∈slotsOf us
    . obtain⟨u,u',o',a',q1,q2,q3,q4,q5⟩:=As j hj
      rw[q3] at z
      cases z
      cases u <;> cases q2
      exact R.own j _ a q1 hv
    . rw[out j hj] at z;exact R.own j o a z hv
  . by_cases hj:j∈slotsOf us
    . obtain⟨u,u',o',a',q1,q2,q3,q4,q5⟩:=As j hj
      rw[q3] at z
      cases z
      cases u <;> cases q2
      exact R.bor j _ a q1 hv
    . rw[out j hj] at z;exact R.bor j o a z hv
  . obtain⟨k1,o,k2⟩:=R.par j a z
    refine⟨k1,?_⟩
    by_cases hj:j∈slotsOf us
    . obtain⟨u,u',o',a',q1,q2,q3,q4,q5⟩:=As j hj
      rw[k2] at q1
      cases q1
      cases q2
      exact⟨_,q3⟩
    . exact⟨o,by rw[out j hj];exact k2⟩
  . refine R.ext.trans p.ext fun b hb=>?_
    rcases zl b hb with⟨i,u,q0,q1,q2,q3⟩ | ⟨_,_,q,_⟩
    . cases u with
      | t d=>cases q2
      | v d=>cases q2
      | s d=>cases q2
      | f d=>cases q2
      | m o=>exact .inr (R.own i o b q1 q3)
      | b o=>exact .inl (R.bor i o b q1 q3)
    . exact .inr q
  . exact fun b o h=>p.ext.le b o (st.ext.le b o h)
  . intro b o h n
    refine p.ext.keep b o (st.ext.keep b o h n) fun hb=>?_
    rcases zl b hb with⟨i,u,q0,q1,q2,q3⟩ | ⟨_,q,_⟩
    . exact n (st.mu b ⟨i,u,q1,q2,q3⟩)
    . rw[h] at q;cases q
  . intro b o h n f
    refine p.ext.jU b o (st.ext.keep b o h n) (fun hb=>?_) (st.ext.jU b o h n f)
    rcases zl b hb with⟨i,u,q0,q1,q2,q3⟩ | ⟨_,q,_⟩
    . exact n (st.mu b ⟨i,u,q1,q2,q3⟩)
    . rw[h] at q;cases q
  . intro b o h
    obtain⟨o',h'⟩:=st.ext.there b o h
    exact p.ext.there b o' h'
  . obtain⟨u',h'⟩:=st.slots j u z
    by_cases hj:j∈slotsOf us
    . obtain⟨_,u2,_,_,_,_,q3,_⟩:=As j hj
      exact⟨u2,q3⟩
    . exact⟨u',by rw[out j hj];exact h'⟩
section
variable {X:Cx}{e:Expr}{es:List Expr}{gu:GU}{x:Str}{p pos:Pos}{f:FM}{fa:Addr}{fd:FuncData}{ps:List Str}{k n:Nat}
theorem bC (F:cD X.prog X.w X.K X.mg X.base jE k fa fd ps (spT X.K n f)) (hr:j6 k X.A) (hg:Gl X x) (hm:X.mg x=some (.ref fa)) (hk:PySem.W.keepIn X.K (.ref fa)=true) (hb:Binds X.K fd ps []) (ha:JU X (e :: es) gu) (hn:(e :: es).length=n:=by rfl)
  (hdb:(x == ("__debug__":Str))=false:=by decide) (he:starEach (e :: es) X.env=(false,eval e X.env) :: starEach es X.env:=by rfl) (hpl:(backTo pos (starEach es X.env)).any (·.1)=false:=by rfl):
  JE X (.Call (.Name x p) (e :: es) [] pos) (br f gu):=⟨fun B=>(D8 F hr hg hm hk hb .nil KU (ha.h B) hdb he hpl).imp fun σ H Q ⟨S,F0,u,S',R,hg,q⟩=>by
 obtain⟨⟨us,S1⟩,h1,hg⟩:=ah hg
 dsimp only at hg
 split at hg
 ·rename_i hc
  obtain⟨ws,h2,hg⟩:=ah hg
  obtain⟨⟨r,outs⟩,h3,hg⟩:=ah hg
  obtain⟨S2,h4,hg⟩:=az hg
  cases hg
  refine⟨S,F0,us,S1,R,h1,fun vs F1 H1 R1 st1 rr=>?_⟩
  show spT X.K n f (vs++[]) H1 Q E0
  rw[List.append_nil]
  have hlen:vs.length=n:=by rw[rr.length,ha.len _ _ _ h1];exact hn
  refine⟨hlen,F1,ws,r,outs,R1.sub,uM R1 rr h2,fG R1 rr h2 hc.1 hc.2,h3,fun v F2 H2 po rn=>?_⟩
  obtain⟨R2,st2,mu⟩:=qG R1 st1 rr h2 h4 hc.1 po
  refine q v F2 H2 R2 st2 ?_
  cases r with
  | t d=>exact rn
  | b o=>cases rn
  | v i=>cases rn
  | s i=>cases rn
  | f i=>cases rn
  | m o=>
   obtain⟨a,e,h0,f,h⟩:=rn
   refine⟨a,e,none_of st1.ext.there h0,f,h,fun m=>?_,none_of R1.ext.there h0⟩
   obtain⟨o',ho⟩:=R1.has (mu a m)
   rw[h0] at ho
   cases ho
 ·cases hg⟩
end
noncomputable def aN:List U->SS->Option (List MO)
 | [],_=>some []
 | .b _ :: us,some (.b o) :: S=>(aN us S).map fun os=>o :: os
 | .b _ :: _,_=>none
 | _ :: us,_ :: S=>aN us S
 | _ :: _,[]=>none
noncomputable def bJ (n:Nat) (g:GS):FM:=fun us=>(g (us.map some++List.replicate (n - us.length) none)).bind fun o=>match o with
 | .rt (.t d) S=>(aN us S).map fun os=>(.t d,os)
 | .rt (.m o) S=>(aN us S).map fun os=>(.m o,os)
 | .nx S=>(aN us S).map fun os=>(.t .bM,os)
 | _=>none
noncomputable def lent:List V->List U->List (Option Addr)
 | .ref a :: vs,.b _ :: us=>some a :: lent vs us
 | _ :: vs,_ :: us=>none :: lent vs us
 | _,_=>[]
theorem lB:∀(vs:List V) (us:List U) (a:Addr),some a∈lent vs us↔a∈addrs vs us
 | [],us,a=>by cases us <;> simp[lent,addrs]
 | v :: vs,[],a=>by cases v <;> simp[lent,addrs]
 | v :: vs,u :: us,a=>by
  have ih:=lB vs us a
  cases v <;> cases u <;> simp[lent,addrs,ih]
theorem vV:∀{vs:List V}{us:List U}{i:Nat}{a:Addr},(lent vs us)[i]? =some (some a)->vs[i]? =some (.ref a)/\∃o,us[i]? =some (.b o)
 | [],us,i,a,h=>by cases us <;> simp[lent] at h
 | v :: vs,[],i,a,h=>by cases v <;> simp[lent] at h
 | v :: vs,u :: us,0,a,h=>by
  cases v <;> cases u <;> simp[lent] at h
  subst h
  exact⟨rfl,_,rfl⟩
 | v :: vs,u :: us,i+1,a,h=>by
  have h':(lent vs us)[i]? =some (some a):=by cases v <;> cases u <;> simpa[lent] using h
  simpa using vV h'
theorem uN {K:PySem.W.Frag}:∀{F H:Hp}{vs:List V}{us:List U}{i:Nat}{o:MO},Paired (Cq K F H) vs us->us[i]? =some (.b o)->∃a,vs[i]? =some (.ref a)/\(lent vs us)[i]? =some (some a)/\F a=none/\At F H a o
 | _,_,_,_,_,_,.nil,h=>by simp at h
 | _,_,_,_,0,o,@Paired.cons _ _ _ v u vs us r rs,h=>by
  simp at h
  subst h
  obtain⟨a,rfl,f,k⟩:=r
  exact⟨a,rfl,rfl,f,k⟩
 | _,_,_,_,i+1,o,@Paired.cons _ _ _ v u vs us r rs,h=>by
  obtain⟨a,h1,h2,h3⟩:=uN (i:=i) rs (by simpa using h)
  refine⟨a,by simpa using h1,?_,h3⟩
  cases v <;> cases u <;> simpa[lent] using h2
theorem tN : ∀ {vs : List V} {us : List U} {i j : Nat} {a : Addr}, (addrs vs us).Nodup -> (lent vs us)[i]? = some (some a) -> (lent vs us)[j]? = some (some a) -> i = j
  | [],us,i,j,a,_,h,_=>by cases us <;> simp[lent] at h
  | v :: vs,[],i,j,a,_,h,_=>by cases v <;> simp[lent] at h
  | v :: vs, u :: us, i, j, a, nd, h1, h2 => by
    have ih:∀{i j},(addrs vs us).Nodup->(lent vs us)[i]? =some (some a)->(lent vs us)[j]? =some (some a)->i=j:=fun {i j}=>tN (i:=i) (j:=j)
    by_cases N7:∃c o,v= .ref c/\u= .b o
    . obtain⟨c,o,rfl,rfl⟩:=N7
      obtain⟨n1,n2⟩:=List.nodup_cons.mp (show(c :: addrs vs us).Nodup from nd)
      cases i with
      | zero=>
        cases j with
        | zero=>rfl
        | succ j=>
          have e1:c=a:=by simpa[lent] using h1
          have e2:(lent vs us)[j]? =some (some a):=by simpa[lent] using h2
          subst e1
          exact absurd ((lB vs us c).mp (List.mem_of_getElem? e2)) n1
      | succ i=>
        have e1:(lent vs us)[i]? =some (some a):=by simpa[lent] using h1
        cases j with
        | zero=>
          have e2:c=a:=by simpa[lent] using h2
          subst e2
          exact absurd ((lB vs us c).mp (List.mem_of_getElem? e1)) n1
        | succ j=>exact congrArg Nat.succ (ih n2 e1 (by simpa[lent] using h2))
    . have e1:lent (v :: vs) (u :: us)=none :: lent vs us:=by cases v <;> cases u <;> first | rfl | exact absurd ⟨_,_,rfl,rfl⟩ N7
      have e2:addrs (v :: vs) (u :: us)=addrs vs us:=by cases v <;> cases u <;> first | rfl | exact absurd ⟨_,_,rfl,rfl⟩ N7
      rw[e1] at h1 h2
      rw[e2] at nd
      cases i with
      | zero=>simp at h1
      | succ i=>
        cases j with
        | zero=>simp at h2
        | succ j=>exact congrArg Nat.succ (ih nd (by simpa using h1) (by simpa using h2))
theorem m6 {α β:Type}{P:α->β->Prop}:∀{l:List α}{r:List β}{i:Nat}{y:β},Paired P l r->r[i]? =some y->∃x,l[i]? =some x/\P x y
 | _,_,_,_,.nil,h=>by simp at h
 | _,_,0,_,.cons p _,h=>by simp at h;subst h;exact⟨_,rfl,p⟩
 | _,_,i+1,_,.cons _ ps,h=>by
  obtain⟨x,h1,h2⟩:=m6 (i:=i) ps (by simpa using h)
  exact⟨x,by simpa using h1,h2⟩
theorem tR {K:PySem.W.Frag}{F H:Hp}{vs:List V}{us:List U}{n:Nat}(sb:Sub F H) (ar:Paired (Cq K F H) vs us) (nd:(addrs vs us).Nodup) (N:List Str) (hN:N.length=n):
  Rel K ⟨lent vs us,F,H⟩ (us.map some++List.replicate (n - us.length) none) (start N vs) F H:=by
 have hl:vs.length=us.length:=ar.length
 have gS:∀{i:Nat}{u:U},(us.map some++List.replicate (n - us.length) none)[i]? =some (some u)->us[i]? =some u:=fun {i u} h=>by
  rw[List.getElem?_append] at h
  split at h
  ·rw[List.getElem?_map] at h
   obtain⟨w,h1,h2⟩:=az h
   cases h2
   exact h1
  ·rw[List.getElem?_replicate] at h
   split at h <;> cases h
 have N8:∀{i:Nat}{v:V},vs[i]? =some v->(start N vs)[i]? =some (some v):=fun {i v} h=>by
  unfold start
  have hi:=(List.getElem?_eq_some_iff.mp h).1
  rw[List.getElem?_append_left (by simpa using hi),List.getElem?_map,h]
  rfl
 have vb:∀{i:Nat}{v w:V},vs[i]? =some v->(start N vs)[i]? =some (some w)->v=w:=fun {i v w} h k=>by
  rw[N8 h] at k
  cases k
  rfl
 have Ew:∀{i:Nat}{u:U},us[i]? =some u->fE u=true->∃o a,u= .b o/\vs[i]? =some (.ref a)/\(lent vs us)[i]? =some (some a)/\F a=none/\At F H a o:=fun {i u} h hm=>by
  obtain⟨v,h1,h2⟩:=m6 ar h
  cases u with
  | t d=>cases hm
  | v d=>cases hm
  | s d=>cases hm
  | f d=>cases hm
  | m o=>cases h2
  | b o=>obtain⟨a,k1,k2,k3,k4⟩:=uN ar h;exact⟨o,a,rfl,k1,k2,k3,k4⟩
 refine⟨sb,?_,fun i u h=>?_,fun i j u w a h1 m1 h2 m2 v1 v2=>?_,fun i o a h hv=>?_,fun i o a h hv=>?_,fun i a h=>?_,Ext.refl ..⟩
 ·unfold start;simp[hl,hN]
 ·obtain⟨v,h1,h2⟩:=m6 ar (gS h)
  refine⟨v,N8 h1,?_⟩
  cases u with
  | t d=>exact h2
  | s d=>exact h2
  | f d=>exact h2
  | v d=>cases h2
  | m o=>cases h2
  | b o=>exact h2
 ·obtain⟨_,a1,_,k1,k2,_⟩:=Ew (gS h1) m1
  obtain⟨_,a2,_,l1,l2,_⟩:=Ew (gS h2) m2
  have e1:=vb k1 v1
  have e2:=vb l1 v2
  cases e1
  cases e2
  exact tN nd k2 l2
 ·obtain⟨_,_,e,_⟩:=Ew (gS h) rfl
  cases e
 ·obtain⟨_,a1,_,k1,k2,_⟩:=Ew (gS h) rfl
  have e1:=vb k1 hv
  cases e1
  exact List.mem_of_getElem? k2
 ·obtain⟨k1,o,k2⟩:=vV h
  refine⟨N8 k1,o,?_⟩
  have hi:=(List.getElem?_eq_some_iff.mp k2).1
  rw[List.getElem?_append_left (by simpa using hi),List.getElem?_map,k2]
  rfl
theorem uO {F' H' : Hp} : ∀ {vs : List V} {us : List U} {S : SS} {os : List MO}, aN us S = some os -> vs.length = us.length -> (∀ (i : Nat) (o : MO) (a : Addr), (lent vs us)[i]? = some (some a) -> S[i]? = some (some (.b o)) -> F' a = none /\ At F' H' a o) -> (∀ (i : Nat) (o : MO), us[i]? = some (.b o) -> ∃ a, vs[i]? = some (.ref a)) ->
    Paired (fun a o=>F' a=none/\At F' H' a o) (addrs vs us) os
  | [],[],S,os,h,_,_,_=>by cases S <;> (simp[aN] at h;subst h;exact .nil)
  | [],_ :: _,_,_,_,l,_,_=>by cases l
  | _ :: _,[],_,_,_,l,_,_=>by cases l
  | v :: vs, u :: us, S, os, h, l, k, kb => by
    have l':vs.length=us.length:=by simpa using l
    have kb':∀(i:Nat) (o:MO),us[i]? =some (.b o)->∃a,vs[i]? =some (.ref a):=fun i o z=>by simpa using kb (i+1) o (by simpa using z)
    by_cases hu:∃o,u= .b o
    . obtain⟨o,rfl⟩:=hu
      obtain⟨a,ha⟩:=kb 0 o rfl
      have ha:v= .ref a:=by simpa using ha
      subst ha
      cases S with
      | nil=>simp[aN] at h
      | cons s S=>
        cases s with
        | none=>simp[aN] at h
        | some s=>
          cases s with
          | b o'=>
            obtain⟨os',h1,h2⟩:=az (show(aN us S).map (fun os=>o' :: os)=some os from h)
            subst h2
            exact .cons (k 0 o' a rfl rfl) (uO h1 l' (fun i o a z1 z2=>k (i+1) o a (by simpa[lent] using z1) (by simpa using z2)) kb')
          | t d=>simp[aN] at h
          | m d=>simp[aN] at h
          | v d=>simp[aN] at h
          | s d=>simp[aN] at h
          | f d=>simp[aN] at h
    . cases S with
      | nil=>cases u <;> first | (simp[aN] at h;done) | exact absurd ⟨_,rfl⟩ hu
      | cons s S=>
        have h':aN us S=some os:=by cases u <;> first | exact absurd ⟨_,rfl⟩ hu | simpa[aN] using h
        have e2:addrs (v :: vs) (u :: us)=addrs vs us:=by cases v <;> cases u <;> first | rfl | exact absurd ⟨_,rfl⟩ hu
        have e1:lent (v :: vs) (u :: us)=none :: lent vs us:=by cases v <;> cases u <;> first | rfl | exact absurd ⟨_,rfl⟩ hu
        rw[e2]
        exact uO h' l' (fun i o a z1 z2=>k (i+1) o a (by rw[e1];simpa using z1) (by simpa using z2)) kb'
theorem post_of {K:PySem.W.Frag}{F0 H:Hp}{vs:List V}{us:List U}(ar:Paired (Cq K F0 H) vs us) (S':SS) (σ':St) (F' H':Hp) (os:List MO) (R':Rel K ⟨lent vs us,F0,H⟩ S' σ' F' H') (ho':aN us S'=some os):Post F0 H F' H' (addrs vs us) os:=by
 refine⟨R'.sub,⟨R'.ext.le,fun b o z n=>R'.ext.keep b o z fun m=>n ((lB vs us b).mp m),fun b o z n=>R'.ext.jU b o z fun m=>n ((lB vs us b).mp m),R'.ext.there,R'.ext.kC⟩,uO ho' ar.length (fun i o a z1 z2=>?_) fun i o z=>?_⟩
 ·obtain⟨k1,o2,k2⟩:=R'.par i a z1
  obtain⟨v,j1,j2⟩:=R'.rep i _ z2
  rw[k1] at j1
  cases j1
  obtain⟨c,e,f,k⟩:=j2
  cases e
  exact⟨f,k⟩
 ·obtain⟨a,h1,_⟩:=uN ar z
  exact⟨a,h1⟩
section
variable {P:Program}{w:World}{K:PySem.W.Frag}{mg:Str->Option Value}{base:Heap}
theorem vW {x qual:Str}{st:Stmt}{f:Addr}{fd:FuncData}{N ps:List Str}{k:Nat}{fm:FM}{g:GS}(F:qy K x qual st f fd) (Sc:bX N ps (aH st))
  (hb:∀(cdv:Value) (A:Around) (outer:List Env) (s:Shared) (H:Hp) (E:XK),j6 k (A.deeper (envOfC qual (aH st) s.heap.objs.size f cdv))->JB (xF jE P w K mg base N qual (aH st) f cdv A outer s H E).Ka (bL st) g)
  (hf:∀us r,fm us=some r->bJ N.length g us=some r):cD P w K mg base jE (k+1) f fd ps (spT K ps.length fm):=by
 refine F.ok Sc (fun vs H Q E h=>h.1) fun cdv A outer s H vs Q E hr h=>?_
 obtain⟨hlen,F0,us,r,outs,sb,ar,nd,hfm,q⟩:=h
 have hrun:=hf us (r,outs) hfm
 have J:=hb cdv A outer s H E hr
 refine⟨_,J.h ⟨lent vs us,F0,H⟩,?_⟩
 have R0:=tR sb ar nd N rfl
 obtain⟨o,ho,hrun⟩:=ah hrun
 refine⟨_,F0,o,R0,ho,?_⟩
 have post:=post_of ar
 cases o with
 | bk S'=>cases hrun
 | ct S'=>cases hrun
 | nx S'=>
  obtain⟨os,h1,h2⟩:=az (show(aN us S').map _=some (r,outs) from hrun)
  cases h2
  exact fun σ' F' H' R' le=>q .bM F' H' (post S' σ' F' H' outs R' h1) .bM
 | rt u S'=>
  cases u with
  | b o=>cases hrun
  | v i=>cases hrun
  | s i=>cases hrun
  | f i=>cases hrun
  | t d=>
   obtain⟨os,h1,h2⟩:=az (show(aN us S').map _=some (r,outs) from hrun)
   cases h2
   exact fun v σ' F' H' R' le rr=>q v F' H' (post S' σ' F' H' outs R' h1) rr
  | m o=>
   obtain⟨os,h1,h2⟩:=az (show(aN us S').map _=some (r,outs) from hrun)
   cases h2
   exact fun v σ' F' H' R' le rr=>q v F' H' (post S' σ' F' H' outs R' h1) (by obtain⟨a,e,h0,f,h,n,hB⟩:=rr;exact⟨a,e,hB,f,h⟩)
end
noncomputable def jq (S:SS) (i:Nat):Option U:=match S[i]? with
 | some (some (.t d))=>some (.t d)
 | some (some (.s d))=>some (.s d)
 | some (some (.f d))=>some (.f d)
 | some (some (.m _))=>some (.v i)
 | some (some (.b _))=>some (.v i)
 | _=>none
noncomputable def dR (S:SS):List Nat->Option (List U)
 | []=>some []
 | i :: cap=>(jq S i).bind fun u=>(dR S cap).map fun us=>u :: us
noncomputable def bA:GT:=fun S=>some (true,S)
noncomputable def bu (cap:List Nat) (q:GT) (g:GD):List D->SS->List D->Option (List D×SS)
  | [],S,acc=>some (acc,S)
  | d :: ds, S, acc => (dR S cap).bind fun us =>
    if(slotsOf us).Nodup/\cF us<=1 then(cj S us).bind fun ws=>(q (some (.t d) :: ws.map some)).bind fun p=>
      if p.1 then(g p.2).bind fun r=>(aN (.t d :: ws) r.2).bind fun outs=>(wb us outs S).bind fun S'=>bu cap q g ds S' (acc++[r.1])
      else(aN (.t d :: ws) p.2).bind fun outs=>(wb us outs S).bind fun S'=>bu cap q g ds S' acc
    else none
noncomputable def dP (cap:List Nat) (gi:GI) (q:GT) (g:GD):GE:=fun S=>(gi S).bind fun p=>if p.1.length<=100000 then(bu cap q g p.1 p.2 []).map fun r=>(.m (.lst r.1),r.2) else none
structure N9 (X:Cx) (es:List Expr) (q:GT):Prop where
 h:∀B,Jw X es (tQ X.K B q)
theorem gw {X:Cx}:N9 X [] bA:=⟨fun B pins s σ H Q I ⟨S,F,b,S',R,hg,q⟩=>by cases hg;exact Ej pins s σ H Q I (q F H R (Step.refl ..))⟩
theorem Cr {K:PySem.W.Frag}{B:Base}{S:SS}{σ:St}{F H:Hp}(R:Rel K B S σ F H):∀{cap:List Nat}{us:List U},dR S cap=some us->∃vs:List V,fB cap σ=vs.map some/\Paired (fun v u=>jG K B S σ H F H v u) vs us
  | [],us,h=>by cases h;exact⟨[],rfl,.nil⟩
  | i :: cap, us, h => by
    obtain⟨u,h1,h⟩:=ah h
    obtain⟨us',h2,h⟩:=az h
    subst h
    obtain⟨vs,k1,k2⟩:=Cr R h2
    have one:∀w,S[i]? =some (some w)->∃v,σ[i]? =some (some v)/\rU K F H v w:=R.rep i
    unfold jq at h1
    have fin:∀v,σ[i]? =some (some v)->jG K B S σ H F H v u->∃vs:List V,fB (i :: cap) σ=vs.map some/\Paired (fun v u=>jG K B S σ H F H v u) vs (u :: us'):=fun v e r=>
      ⟨v :: vs,by show(σ[i]?).join :: fB cap σ=_;rw[e,k1];rfl,.cons r k2⟩
    split at h1
    . rename_i d e
      cases h1
      obtain⟨v,e1,r⟩:=one _ e
      exact fin v e1 r
    . rename_i d e
      cases h1
      obtain⟨v,e1,r⟩:=one _ e
      exact fin v e1 r
    . rename_i d e
      cases h1
      obtain⟨v,e1,r⟩:=one _ e
      exact fin v e1 r
    . rename_i o e
      cases h1
      obtain⟨v,e1,r⟩:=one _ e
      exact fin v e1 ⟨e1,_,e⟩
    . rename_i o e
      cases h1
      obtain⟨v,e1,r⟩:=one _ e
      exact fin v e1 ⟨e1,_,e⟩
    . cases h1
theorem Cs {K:PySem.W.Frag}{B:Base}{S:SS}{σ:St}{F H:Hp}(R:Rel K B S σ F H) (d:D){us ws:List U}(h:cj S us=some ws):cj S (.t d :: us)=some (.t d :: ws):=by
 show(some (U.t d)).bind _=_
 show(cj S us).map _=_
 rw[h]
 rfl
theorem vX {K : PySem.W.Frag} {B : Base} {cap : List Nat} {gi : GI} {q : GT} {g : GD} {σ : St} {H : Hp} {Q : VK} (h : tE K B (dP cap gi q g) σ H Q) : Mn (Rx K B gi) cap (fun σ H Q => ∃ B, tQ K B q σ H Q) (fun σ H Q => ∃ B, tD K B g σ H Q) σ H Q := by
  obtain⟨x,_⟩:∃x:Str,True:=⟨"",trivial⟩
  obtain⟨S,F,u,S',R,hg,k⟩:=h
  obtain⟨⟨ds,S1⟩,h1,hg⟩:=ah hg
  dsimp only at hg
  split at hg
  . rename_i hlen
    obtain⟨⟨res,Sf⟩,h2,hg⟩:=az hg
    cases hg
    refine⟨S,F,ds,S1,R,h1,fun J F1 H1 R1 st1 w=>?_⟩
    refine⟨fun i m ys H'=>∃S2 F2 acc,Rel K B S2 σ F2 H'/\Step S S2 σ F H F2 H'/\(∀b o,F1 b=some o->F2 b=some o)/\aR F2 ys acc/\acc.length<=i/\i<=ds.length/\m=ds.length - i/\bu cap q g (ds.drop i) S2 acc=some (res,Sf),
      ⟨_,S1,F1,[],R1,st1,fun _ _ z=>z,.nil,Nat.le_refl _,Nat.zero_le _,rfl,h2⟩,?_⟩
    rintro i m ys H' ⟨S2,F2,acc,R2,st2,le,ry,ha,hl,rfl,jo⟩
    refine⟨by rw[ry.length];exact Nat.lt_of_le_of_lt (Nat.le_trans ha (Nat.le_trans hl hlen)) (by decide),?_⟩
    have w':=w F2 H' le R2.sub i
    by_cases hlt:i < ds.length
    . have hd:ds[i]? =some ds[i]:=List.getElem?_eq_getElem hlt
      obtain⟨go,yl⟩:=w'.1 _ hd
      rw[List.drop_eq_getElem_cons hlt] at jo
      refine .inr ⟨go,fun xv H3 y=>?_⟩
      obtain⟨rfl,rx⟩:=yl xv H3 y
      obtain⟨us,e1,jo⟩:=ah jo
      skip
      split at jo
      . rename_i hnd
        obtain⟨ws,e2,jo⟩:=ah jo
        obtain⟨⟨bk,T1⟩,e3,jo⟩:=ah jo
        obtain⟨vs,k1,k2⟩:=Cr R2 e1
        have rr:Paired (fun v u=>jG K B S2 σ H3 F2 H3 v u) (xv :: vs) (.t ds[i] :: us):=.cons rx k2
        have er:=Cs R2 ds[i] e2
        have ar:=uM R2 rr er
        have nd:=fG R2 rr er hnd.1 hnd.2
        have R3:=tR (n:=ws.length+1) R2.sub ar nd (List.replicate (ws.length+1) x) (by simp)
        have hvl:vs.length=ws.length:=by have:=ar.length;simpa using this
        have es:start (List.replicate (ws.length+1) x) (xv :: vs)=some xv :: fB cap σ:=by
          unfold start;rw[k1];simp[hvl]
        have eS:(U.t ds[i] :: ws).map some++List.replicate (ws.length+1 - (U.t ds[i] :: ws).length) none=some (U.t ds[i]) :: ws.map some:=by simp
        rw[es,eS] at R3
        have back:∀(T2:SS) (F3 H4:Hp) (outs:List MO) (S3:SS),Rel K ⟨lent (xv :: vs) (U.t ds[i] :: ws),F2,H3⟩ T2 (some xv :: fB cap σ) F3 H4->aN (U.t ds[i] :: ws) T2=some outs->wb us outs S2=some S3->Rel K B S3 σ F3 H4/\Step S S3 σ F H F3 H4/\(∀b o,F2 b=some o->F3 b=some o):=fun T2 F3 H4 outs S3 RT ho hw=>by
          have po:=post_of ar T2 _ F3 H4 outs RT ho
          obtain⟨Ra,JC,_⟩:=qG (S0:=S2) (F0:=F2) (H0:=H3) R2 (Step.refl ..) rr er (show wb (U.t ds[i] :: us) outs S2=some S3 by cases outs <;> exact hw) hnd.1 po
          exact⟨Ra,st2.trans JC,JC.ext.le⟩
        refine⟨_,_,F2,bk,T1,R3,e3,fun F3 H4 Ry Tv=>?_⟩
        cases bk with
        | true=>
          obtain⟨⟨yd,T2⟩,e4,jo⟩:=ah (show(g T1).bind _=_ from jo)
          obtain⟨outs,e5,jo⟩:=ah jo
          obtain⟨S3,e6,jo⟩:=ah jo
          refine B3 ⟨_,T1,F3,yd,T2,Ry,e4,fun yv F4 H5 Tw Tz TF=>?_⟩
          obtain⟨Ra,JC,K7⟩:=back T2 F4 H5 outs S3 Tw e5 e6
          refine⟨ds.length - (i+1),by omega,S3,F4,acc++[yd],Ra,JC,fun b o z=>K7 b o (le b o z),(ry.le K7).append (.cons TF .nil),by simp;omega,hlt,rfl,jo⟩
        | false=>
          obtain⟨outs,e5,jo⟩:=ah (show(aN (U.t ds[i] :: ws) T1).bind _=_ from jo)
          obtain⟨S3,e6,jo⟩:=ah jo
          obtain⟨Ra,JC,K7⟩:=back T1 F3 H4 outs S3 Ry e5 e6
          exact B0 ⟨ds.length - (i+1),by omega,S3,F3,acc,Ra,JC,fun b o z=>K7 b o (le b o z),ry.le K7,by omega,hlt,rfl,jo⟩
      . cases jo
    . have e:i=ds.length:=by omega
      subst e
      rw[List.drop_length] at jo
      cases jo
      refine .inl ⟨w'.2 (Nat.le_refl _),fun p hp=>?_⟩
      have n:=iw.obj (F:=F2) hp (.lst ys)
      refine k (.ref p) F2 _ (R2.new n (R2.sub.same n.same)) (st2.trans n.step) ⟨p,rfl,none_of st2.ext.there hp,R2.sub.fresh hp,⟨ys,aK,ry⟩,fun m=>?_,none_of R2.ext.there hp⟩
      obtain⟨o,ho⟩:=R2.has m
      rw[hp] at ho
      cases ho
  . cases hg
theorem i8 {X:Cx}{elt iter:Expr}{ifs:List Expr}{x:Str}{px pos:Pos}{scope:Scope}{cl:List (Str×Addr)}{cy:List Str}{cap:List Nat}{gi:GI}{q:GT}{g:GD}(T:i7 X x cy cap scope cl) (hc:X.calm=true) (hi:JI X (.Name x px) iter gi)
  (ht:∀C s H fp,N9 (g7 X (x :: cy) scope cl C s H fp) ifs q) (he:∀C s H fp,JD (g7 X (x :: cy) scope cl C s H fp) elt g)
  (hs:∀x,foldedSetIterable iter X.env x=pure x:=by intro _;rfl):JE X (.ListComp elt [⟨.Name x px,iter,ifs,0⟩] scope pos) (dP cap gi q g):=⟨fun B=>by
 exact(B7 (tc:=fun σ H Q=>∃B,tQ X.K B q σ H Q) (te:=fun σ H Q=>∃B,tD X.K B g σ H Q) T hc (hi.h B) (fun C s H fp pins s' σ H' Q I ⟨B',z⟩=>(ht C s H fp).h B' pins s' σ H' Q I z) (fun C s H fp pins s' σ H' Q I ⟨B',z⟩=>(he C s H fp).h B' pins s' σ H' Q I z) hs).imp fun σ H Q h=>vX h⟩
theorem qH {X:Cx}{elt iter:Expr}{ifs:List Expr}{x y:Str}{px pos py spos:Pos}{scope:Scope}{cl:List (Str×Addr)}{cy:List Str}{cap:List Nat}{gi:GI}{q:GT}{g:GD}{i:Nat}(hN:X.N.Nodup) (hy:X.N[i]? =some y) (hx:Loc X.env.scope y) (T:i7 X x cy cap scope cl) (hc:X.calm=true) (hi:JI X (.Name x px) iter gi)
  (ht:∀C s H fp,N9 (g7 X (x :: cy) scope cl C s H fp) ifs q) (he:∀C s H fp,JD (g7 X (x :: cy) scope cl C s H fp) elt g)
  (hsw:swapsWith (.ListComp elt [⟨.Name x px,iter,ifs,0⟩] scope pos) (some (.Name y py)) spos.line X.env=pure true:=by rfl) (hf:X.fn y=true\/X.env.scope.names.lookup y=some .local:=by first | exact .inl rfl | exact .inr rfl | assumption)
  (hs:∀x,foldedSetIterable iter X.env x=pure x:=by intro _;rfl):JS X (.Assign [.Name y py] (.ListComp elt [⟨.Name x px,iter,ifs,0⟩] scope pos) spos) (bz i (dP cap gi q g)):=⟨fun B=>
 (B8 (tc:=fun σ H Q=>∃B,tQ X.K B q σ H Q) (te:=fun σ H Q=>∃B,tD X.K B g σ H Q) T hc (hi.h B) (fun C s H fp pins s' σ H' Q I ⟨B',z⟩=>(ht C s H fp).h B' pins s' σ H' Q I z) (fun C s H fp pins s' σ H' Q I ⟨B',z⟩=>(he C s H fp).h B' pins s' σ H' Q I z) hs hN hy hx hsw hf).imp fun D σ H h=>vX (zh h)⟩
mutual
noncomputable def kO:D->D->Bool
 | .bM,.bM=>true
 | .bl a,.bl b=>a == b
 | .int a,.int b=>a == b
 | .bl a,.int b=>(if a then 1 else 0) == b
 | .int a,.bl b=>a == (if b then 1 else 0)
 | .str a,.str b=>a == b
 | .tup a,.tup b=>m8 a b
 | .lst a,.lst b=>m8 a b
 | _,_=>false
noncomputable def m8:List D->List D->Bool
 | [],[]=>true
 | a :: as,b :: bs=>kO a b && m8 as bs
 | _,_=>false
end
mutual
noncomputable def iS:D->Nat
 | .tup ds=>bH ds+1
 | .lst ds=>bH ds+1
 | _=>0
noncomputable def bH:List D->Nat
 | []=>0
 | d :: ds=>max (iS d) (bH ds)
end
mutual
theorem lC:∀d:D,kO d d=true
 | .bM=>rfl
 | .bl a=>by simp[kO]
 | .int a=>by simp[kO]
 | .str a=>by simp[kO]
 | .tup a=>by unfold kO;exact kg a
 | .lst a=>by unfold kO;exact kg a
theorem kg:∀ds:List D,m8 ds ds=true
 | []=>rfl
 | d :: ds=>by unfold m8;rw[lC d,kg ds];rfl
end
noncomputable def lD (as bs:List D) (j:Nat):Bool:=match as[j]?,bs[j]? with
 | some a,some b=>kO a b
 | _,_=>true
theorem qI (n:Nat) (e:Nat->Bool):(List.range (n+1)).all e=(e 0 && (List.range n).all fun j=>e (j+1)):=by
 rw[List.range_succ_eq_map,List.all_cons,List.all_map]
 rfl
theorem lE:∀{as bs:List D},as.length≠bs.length->m8 as bs=false
 | [],[],h=>absurd rfl h
 | [],_ :: _,_=>rfl
 | _ :: _,[],_=>rfl
 | a :: as,b :: bs,h=>by
  unfold m8
  rw[lE (as:=as) (bs:=bs) (fun z=>h (by simp[z])),Bool.and_false]
theorem jr:∀{as bs:List D},as.length=bs.length->(List.range as.length).all (lD as bs)=m8 as bs
 | [],[],_=>rfl
 | [],_ :: _,h=>by cases h
 | _ :: _,[],h=>by cases h
 | a :: as,b :: bs,h=>by
  have h':as.length=bs.length:=by simpa using h
  show(List.range (as.length+1)).all _=_
  rw[qI]
  unfold m8
  have ih:=jr h'
  have e:(fun j=>lD (a :: as) (b :: bs) (j+1))=lD as bs:=by funext j;simp[lD]
  rw[e,ih]
  rfl
mutual
theorem Rep.uniq {F:Hp}:∀{v:V}{d e:D},Rep F v d->Rep F v e->d=e
 | _,_,_,.bM,r=>by cases r;rfl
 | _,_,_,.bl b,r=>by cases r;rfl
 | _,_,_,.int b,r=>by cases r;rfl
 | _,_,_,.str b,r=>by cases r;rfl
 | _,_,_,.tup e1 r1,r=>by
  cases r with
  | tup e2 r2=>rw[e1] at e2;cases e2;rw[aR.uniq r1 r2]
  | lst e2 r2=>rw[e1] at e2;cases e2
 | _,_,_,.lst e1 r1,r=>by
  cases r with
  | tup e2 r2=>rw[e1] at e2;cases e2
  | lst e2 r2=>rw[e1] at e2;cases e2;rw[aR.uniq r1 r2]
theorem aR.uniq {F:Hp}:∀{vs:List V}{ds es:List D},aR F vs ds->aR F vs es->ds=es
 | _,_,_,.nil,r=>by cases r;rfl
 | _,_,_,.cons r1 s1,r=>by
  cases r with
  | cons r2 s2=>rw[Rep.uniq r1 r2,aR.uniq s1 s2]
end
section
variable {X:Cx}{pins:List (Addr×Obj)}{σ:St}{F H:Hp}{s:Shared}
theorem Sub.isTup (I:Inv X pins σ H s) (sb:Sub F H){a:Addr}{vs:List V}(h:F a=some (.tup vs)):∃its:List Value,Vals vs its/\s.heap.IsTuple a its.toArray:=by
 obtain⟨its,rv,p,_⟩:=I.tuple (.inl (Rd.of (sb a _ h)))
 exact⟨its,rv,p⟩
theorem Sub.cV (I:Inv X pins σ H s) (sb:Sub F H){a:Addr}{vs:List V}(h:F a=some (.lst vs)):∃its:List Value,Vals vs its/\s.heap.IsList a its.toArray:=by
 obtain⟨its,rv,p,_⟩:=I.list (.inl (Rd.of (sb a _ h)))
 exact⟨its,rv,p.isList⟩
noncomputable def iO (A:Around) (s:Shared) (its bF:List Value) (ds es:List D):Prop:=∀j (h1:j < its.toArray.size) (h2:j < bF.toArray.size),SeqAt.EqAt A.in1 s its.toArray[j] bF.toArray[j] (lD ds es j)
theorem zm {n m:Nat}(h:n=m) (e:Nat->Bool):((List.range (min n m)).all e && n == m)=(List.range n).all e:=by
 subst h;simp
theorem nP {A:Around}{ca cb:Addr}{eZ bF:List Value}{ds es:List D}(hu:A.units < cLine) (pa:s.heap.IsTuple ca eZ.toArray) (pb:s.heap.IsTuple cb bF.toArray) (la:eZ.length=ds.length) (lb:bF.length=es.length) (h:iO A s eZ bF ds es):
  SeqAt.RcAt A s (.ref ca) (.ref cb) (m8 ds es):=by
 have q:=SeqAt.RcAt.tuples (e:=lD ds es) pa pb hu h
 rw[List.size_toArray,List.size_toArray,la,lb] at q
 by_cases hl:ds.length=es.length
 ·rw[zm hl,jr hl] at q;exact q
 ·rw[lE hl]
  have:(ds.length == es.length)=false:=by simpa using hl
  rw[this,Bool.and_false] at q
  exact q
theorem qJ {A:Around}{ca cb:Addr}{eZ bF:List Value}{ds es:List D}(hu:A.units < cLine) (pa:s.heap.IsTuple ca eZ.toArray) (pb:s.heap.IsTuple cb bF.toArray) (la:eZ.length=ds.length) (lb:bF.length=es.length) (h:iO A s eZ bF ds es):
  SeqAt.RcNeAt A s (.ref ca) (.ref cb) (!m8 ds es):=by
 have q:=SeqAt.RcNeAt.tuples (e:=lD ds es) pa pb hu h
 rw[List.size_toArray,List.size_toArray,la,lb] at q
 by_cases hl:ds.length=es.length
 ·rw[zm hl,jr hl] at q;exact q
 ·rw[lE hl]
  have:(ds.length == es.length)=false:=by simpa using hl
  rw[this,Bool.and_false] at q
  exact q
theorem pN {A:Around}{ca cb:Addr}{eZ bF:List Value}{ds es:List D}(hu:A.units < cLine) (pa:s.heap.IsList ca eZ.toArray) (pb:s.heap.IsList cb bF.toArray) (la:eZ.length=ds.length) (lb:bF.length=es.length) (h:iO A s eZ bF ds es):
  SeqAt.RcAt A s (.ref ca) (.ref cb) (m8 ds es):=by
 by_cases hl:ds.length=es.length
 ·have q:=SeqAt.RcAt.lists (e:=lD ds es) pa pb (by rw[List.size_toArray,List.size_toArray,la,lb];exact hl) hu h
  rw[List.size_toArray,la,jr hl] at q;exact q
 ·rw[lE hl]
  exact SeqAt.RcAt.lists_lengths pa pb (by rw[List.size_toArray,List.size_toArray,la,lb];simpa using hl) hu
theorem rX {A:Around}{ca cb:Addr}{eZ bF:List Value}{ds es:List D}(hu:A.units < cLine) (pa:s.heap.IsList ca eZ.toArray) (pb:s.heap.IsList cb bF.toArray) (la:eZ.length=ds.length) (lb:bF.length=es.length) (h:iO A s eZ bF ds es):
  SeqAt.RcNeAt A s (.ref ca) (.ref cb) (!m8 ds es):=by
 by_cases hl:ds.length=es.length
 ·have q:=SeqAt.RcNeAt.lists (e:=lD ds es) pa pb (by rw[List.size_toArray,List.size_toArray,la,lb];exact hl) hu h
  rw[List.size_toArray,la,jr hl] at q;exact q
 ·rw[lE hl]
  exact SeqAt.RcNeAt.lists_lengths pa pb (by rw[List.size_toArray,List.size_toArray,la,lb];simpa using hl) hu
theorem cO {α:Type}(l:List α) (j:Nat) (h:j < l.toArray.size):l[j]? =some l.toArray[j]:=by
 have z:j < l.length:=by simpa using h
 simp[z]
mutual
theorem Gm (I : Inv X pins σ H s) (sb : Sub F H) : ∀ (d : D) {e : D} {A : Around} {x y : V} {u w' : Value}, Rep F x d -> Rep F y e -> RelV x u -> RelV y w' -> A.units + iS d < cLine -> SeqAt.EqAt A s u w' (kO d e) := fun d {e A x y u w'} r1 r2 rx ry hu => by
  cases r1 with
  | bM=>
    cases rx
    cases r2 with
    | bM=>cases ry;exact SeqAt.EqAt.same _
    | bl b=>cases ry;exact SeqAt.EqAt.none_bool b
    | int b=>obtain⟨tb,rfl⟩:=ry;exact SeqAt.EqAt.none_int b tb
    | str b=>obtain⟨tb,rfl⟩:=ry;exact SeqAt.EqAt.none_str b tb
    | @tup cb lF kh eb rb=>cases ry;obtain⟨bF,ju,pb⟩:=sb.isTup I eb;exact SeqAt.EqAt.none_tuple pb (by omega)
    | @lst cb lF kh eb rb=>cases ry;obtain⟨bF,ju,pb⟩:=sb.cV I eb;exact SeqAt.EqAt.none_list pb (by omega)
  | bl a=>
    cases rx
    cases r2 with
    | bM=>cases ry;exact SeqAt.EqAt.bool_none a
    | bl b=>cases ry;exact SeqAt.EqAt.bool_bool a b
    | int b=>obtain⟨tb,rfl⟩:=ry;exact SeqAt.EqAt.bool_int a b tb
    | str b=>obtain⟨tb,rfl⟩:=ry;exact SeqAt.EqAt.bool_str a b tb
    | @tup cb lF kh eb rb=>cases ry;obtain⟨bF,ju,pb⟩:=sb.isTup I eb;exact SeqAt.EqAt.bool_tuple a pb (by omega)
    | @lst cb lF kh eb rb=>cases ry;obtain⟨bF,ju,pb⟩:=sb.cV I eb;exact SeqAt.EqAt.bool_list a pb (by omega)
  | int a=>
    obtain⟨ta,rfl⟩:=rx
    cases r2 with
    | bM=>cases ry;exact SeqAt.EqAt.int_none a ta
    | bl b=>cases ry;exact SeqAt.EqAt.int_bool a ta b
    | int b=>obtain⟨tb,rfl⟩:=ry;exact SeqAt.EqAt.int_int a ta b tb
    | str b=>obtain⟨tb,rfl⟩:=ry;exact SeqAt.EqAt.int_str a ta b tb
    | @tup cb lF kh eb rb=>cases ry;obtain⟨bF,ju,pb⟩:=sb.isTup I eb;exact SeqAt.EqAt.int_tuple a ta pb (by omega)
    | @lst cb lF kh eb rb=>cases ry;obtain⟨bF,ju,pb⟩:=sb.cV I eb;exact SeqAt.EqAt.int_list a ta pb (by omega)
  | str a=>
    obtain⟨ta,rfl⟩:=rx
    cases r2 with
    | bM=>cases ry;exact SeqAt.EqAt.str_none a ta
    | bl b=>cases ry;exact SeqAt.EqAt.str_bool a ta b
    | int b=>obtain⟨tb,rfl⟩:=ry;exact SeqAt.EqAt.str_int a ta b tb
    | str b=>obtain⟨tb,rfl⟩:=ry;exact SeqAt.EqAt.str_str a ta b tb
    | @tup cb lF kh eb rb=>cases ry;obtain⟨bF,ju,pb⟩:=sb.isTup I eb;exact SeqAt.EqAt.str_tuple a ta pb (by omega)
    | @lst cb lF kh eb rb=>cases ry;obtain⟨bF,ju,pb⟩:=sb.cV I eb;exact SeqAt.EqAt.str_list a ta pb (by omega)
  | @tup ca K8 mF ea ra=>
    cases rx;obtain⟨eZ,vY,pa⟩:=sb.isTup I ea
    cases r2 with
    | bM=>cases ry;exact SeqAt.EqAt.tuple_none pa (by omega)
    | bl b=>cases ry;exact SeqAt.EqAt.tuple_bool b pa (by omega)
    | int b=>obtain⟨tb,rfl⟩:=ry;exact SeqAt.EqAt.tuple_int b tb pa (by omega)
    | str b=>obtain⟨tb,rfl⟩:=ry;exact SeqAt.EqAt.tuple_str b tb pa (by omega)
    | @tup cb lF kh eb rb=>cases ry;obtain⟨bF,ju,pb⟩:=sb.isTup I eb;exact(by
      have hd:A.units+(bH mF+1) < cLine:=hu
      have items:iO A s eZ bF mF kh:=fun j h1 h2=>jv I sb mF (A:=A.in1) ra rb vY ju (by show A.units+1+bH mF < cLine;omega) (cO eZ j h1) (cO bF j h2)
      by_cases hc:ca=cb
      . subst hc
        rw[ea] at eb
        cases eb
        obtain rfl:=aR.uniq ra rb
        show SeqAt.EqAt A s _ _ (m8 mF mF)
        rw[kg]
        exact SeqAt.EqAt.same _
      . exact SeqAt.EqAt.of_refs hc (nP (by omega) pa pb (vY.length.symm.trans ra.length) (ju.length.symm.trans rb.length) items))
    | @lst cb lF kh eb rb=>cases ry;obtain⟨bF,ju,pb⟩:=sb.cV I eb;exact SeqAt.EqAt.tuple_list pa pb (by omega)
  | @lst ca K8 mF ea ra=>
    cases rx;obtain⟨eZ,vY,pa⟩:=sb.cV I ea
    cases r2 with
    | bM=>cases ry;exact SeqAt.EqAt.list_none pa (by omega)
    | bl b=>cases ry;exact SeqAt.EqAt.list_bool b pa (by omega)
    | int b=>obtain⟨tb,rfl⟩:=ry;exact SeqAt.EqAt.list_int b tb pa (by omega)
    | str b=>obtain⟨tb,rfl⟩:=ry;exact SeqAt.EqAt.list_str b tb pa (by omega)
    | @tup cb lF kh eb rb=>cases ry;obtain⟨bF,ju,pb⟩:=sb.isTup I eb;exact SeqAt.EqAt.list_tuple pa pb (by omega)
    | @lst cb lF kh eb rb=>cases ry;obtain⟨bF,ju,pb⟩:=sb.cV I eb;exact(by
      have hd:A.units+(bH mF+1) < cLine:=hu
      have items:iO A s eZ bF mF kh:=fun j h1 h2=>jv I sb mF (A:=A.in1) ra rb vY ju (by show A.units+1+bH mF < cLine;omega) (cO eZ j h1) (cO bF j h2)
      by_cases hc:ca=cb
      . subst hc
        rw[ea] at eb
        cases eb
        obtain rfl:=aR.uniq ra rb
        show SeqAt.EqAt A s _ _ (m8 mF mF)
        rw[kg]
        exact SeqAt.EqAt.same _
      . exact SeqAt.EqAt.of_refs hc (pN (by omega) pa pb (vY.length.symm.trans ra.length) (ju.length.symm.trans rb.length) items))
theorem jv (I : Inv X pins σ H s) (sb : Sub F H) : ∀ (ds : List D) {es : List D} {A : Around} {vs ws : List V} {us us' : List Value} {j : Nat} {u w' : Value}, aR F vs ds -> aR F ws es -> Vals vs us -> Vals ws us' -> A.units + bH ds < cLine -> us[j]? = some u -> us'[j]? = some w' -> SeqAt.EqAt A s u w' (lD ds es j) := fun ds {es A vs ws us us' j u w'} r1 r2 v1 v2 hu h1 h2 => by
  cases r1 with
  | nil=>cases v1;simp at h1
  | @cons v d vs ds r rs =>
    cases v1 with
    | cons q qs=>
      cases r2 with
      | nil=>cases v2;simp at h2
      | @cons w e ws es r' rs'=>
        cases v2 with
        | cons q' TH=>
          have hd:A.units+max (iS d) (bH ds) < cLine:=hu
          cases j with
          | zero=>
            simp at h1 h2
            subst h1 h2
            exact Gm I sb d r r' q q' (by omega)
          | succ j=>
            simp at h1 h2
            have:=jv I sb ds (A:=A) rs rs' qs TH (j:=j) (by omega) h1 h2
            simpa[lD] using this
end
end
section
variable {X:Cx}{pins:List (Addr×Obj)}{σ:St}{F H:Hp}{s:Shared}
theorem K9 (I:Inv X pins σ H s) (sb:Sub F H){d e:D}{A:Around}{x y:V}{u w':Value}(r1:Rep F x d) (r2:Rep F y e) (rx:RelV x u) (ry:RelV y w') (hu:A.units+iS d < cLine):SeqAt.RcAt A s u w' (kO d e):=by
 cases r1 with
 | bM=>
  cases rx
  cases r2 with
  | bM=>cases ry;exact SeqAt.RcAt.none_none
  | bl b=>cases ry;exact SeqAt.RcAt.none_bool b
  | int b=>obtain⟨tb,rfl⟩:=ry;exact SeqAt.RcAt.none_int b tb
  | str b=>obtain⟨tb,rfl⟩:=ry;exact SeqAt.RcAt.none_str b tb
  | @tup cb lF kh eb rb=>cases ry;obtain⟨bF,ju,pb⟩:=sb.isTup I eb;exact SeqAt.RcAt.none_tuple pb (by omega)
  | @lst cb lF kh eb rb=>cases ry;obtain⟨bF,ju,pb⟩:=sb.cV I eb;exact SeqAt.RcAt.none_list pb (by omega)
 | bl a=>
  cases rx
  cases r2 with
  | bM=>cases ry;exact SeqAt.RcAt.bool_none a
  | bl b=>cases ry;exact SeqAt.RcAt.bool_bool a b
  | int b=>obtain⟨tb,rfl⟩:=ry;exact SeqAt.RcAt.bool_int a b tb
  | str b=>obtain⟨tb,rfl⟩:=ry;exact SeqAt.RcAt.bool_str a b tb
  | @tup cb lF kh eb rb=>cases ry;obtain⟨bF,ju,pb⟩:=sb.isTup I eb;exact SeqAt.RcAt.bool_tuple a pb (by omega)
  | @lst cb lF kh eb rb=>cases ry;obtain⟨bF,ju,pb⟩:=sb.cV I eb;exact SeqAt.RcAt.bool_list a pb (by omega)
 | int a=>
  obtain⟨ta,rfl⟩:=rx
  cases r2 with
  | bM=>cases ry;exact SeqAt.RcAt.int_none a ta
  | bl b=>cases ry;exact SeqAt.RcAt.int_bool a ta b
  | int b=>obtain⟨tb,rfl⟩:=ry;exact SeqAt.RcAt.int_int a ta b tb
  | str b=>obtain⟨tb,rfl⟩:=ry;exact SeqAt.RcAt.int_str a ta b tb
  | @tup cb lF kh eb rb=>cases ry;obtain⟨bF,ju,pb⟩:=sb.isTup I eb;exact SeqAt.RcAt.int_tuple a ta pb (by omega)
  | @lst cb lF kh eb rb=>cases ry;obtain⟨bF,ju,pb⟩:=sb.cV I eb;exact SeqAt.RcAt.int_list a ta pb (by omega)
 | str a=>
  obtain⟨ta,rfl⟩:=rx
  cases r2 with
  | bM=>cases ry;exact SeqAt.RcAt.str_none a ta
  | bl b=>cases ry;exact SeqAt.RcAt.str_bool a ta b
  | int b=>obtain⟨tb,rfl⟩:=ry;exact SeqAt.RcAt.str_int a ta b tb
  | str b=>obtain⟨tb,rfl⟩:=ry;exact SeqAt.RcAt.str_str a ta b tb
  | @tup cb lF kh eb rb=>cases ry;obtain⟨bF,ju,pb⟩:=sb.isTup I eb;exact SeqAt.RcAt.str_tuple a ta pb (by omega)
  | @lst cb lF kh eb rb=>cases ry;obtain⟨bF,ju,pb⟩:=sb.cV I eb;exact SeqAt.RcAt.str_list a ta pb (by omega)
 | @tup ca K8 mF ea ra=>
  cases rx;obtain⟨eZ,vY,pa⟩:=sb.isTup I ea
  cases r2 with
  | bM=>cases ry;exact SeqAt.RcAt.tuple_none pa (by omega)
  | bl b=>cases ry;exact SeqAt.RcAt.tuple_bool b pa (by omega)
  | int b=>obtain⟨tb,rfl⟩:=ry;exact SeqAt.RcAt.tuple_int b tb pa (by omega)
  | str b=>obtain⟨tb,rfl⟩:=ry;exact SeqAt.RcAt.tuple_str b tb pa (by omega)
  | @tup cb lF kh eb rb=>cases ry;obtain⟨bF,ju,pb⟩:=sb.isTup I eb;exact(by
   have hd:A.units+(bH mF+1) < cLine:=hu
   have items:iO A s eZ bF mF kh:=fun j h1 h2=>jv I sb mF (A:=A.in1) ra rb vY ju (by show A.units+1+bH mF < cLine;omega) (cO eZ j h1) (cO bF j h2)
   exact nP (by omega) pa pb (vY.length.symm.trans ra.length) (ju.length.symm.trans rb.length) items)
  | @lst cb lF kh eb rb=>cases ry;obtain⟨bF,ju,pb⟩:=sb.cV I eb;exact SeqAt.RcAt.tuple_list pa pb (by omega)
 | @lst ca K8 mF ea ra=>
  cases rx;obtain⟨eZ,vY,pa⟩:=sb.cV I ea
  cases r2 with
  | bM=>cases ry;exact SeqAt.RcAt.list_none pa (by omega)
  | bl b=>cases ry;exact SeqAt.RcAt.list_bool b pa (by omega)
  | int b=>obtain⟨tb,rfl⟩:=ry;exact SeqAt.RcAt.list_int b tb pa (by omega)
  | str b=>obtain⟨tb,rfl⟩:=ry;exact SeqAt.RcAt.list_str b tb pa (by omega)
  | @tup cb lF kh eb rb=>cases ry;obtain⟨bF,ju,pb⟩:=sb.isTup I eb;exact SeqAt.RcAt.list_tuple pa pb (by omega)
  | @lst cb lF kh eb rb=>cases ry;obtain⟨bF,ju,pb⟩:=sb.cV I eb;exact(by
   have hd:A.units+(bH mF+1) < cLine:=hu
   have items:iO A s eZ bF mF kh:=fun j h1 h2=>jv I sb mF (A:=A.in1) ra rb vY ju (by show A.units+1+bH mF < cLine;omega) (cO eZ j h1) (cO bF j h2)
   exact pN (by omega) pa pb (vY.length.symm.trans ra.length) (ju.length.symm.trans rb.length) items)
theorem Ex (I:Inv X pins σ H s) (sb:Sub F H){d e:D}{A:Around}{x y:V}{u w':Value}(r1:Rep F x d) (r2:Rep F y e) (rx:RelV x u) (ry:RelV y w') (hu:A.units+iS d < cLine):SeqAt.RcNeAt A s u w' (!kO d e):=by
 cases r1 with
 | bM=>
  cases rx
  cases r2 with
  | bM=>cases ry;exact SeqAt.RcNeAt.none_none
  | bl b=>cases ry;exact SeqAt.RcNeAt.none_bool b
  | int b=>obtain⟨tb,rfl⟩:=ry;exact SeqAt.RcNeAt.none_int b tb
  | str b=>obtain⟨tb,rfl⟩:=ry;exact SeqAt.RcNeAt.none_str b tb
  | @tup cb lF kh eb rb=>cases ry;obtain⟨bF,ju,pb⟩:=sb.isTup I eb;exact SeqAt.RcNeAt.none_tuple pb (by omega)
  | @lst cb lF kh eb rb=>cases ry;obtain⟨bF,ju,pb⟩:=sb.cV I eb;exact SeqAt.RcNeAt.none_list pb (by omega)
 | bl a=>
  cases rx
  cases r2 with
  | bM=>cases ry;exact SeqAt.RcNeAt.bool_none a
  | bl b=>cases ry;exact SeqAt.RcNeAt.bool_bool a b
  | int b=>obtain⟨tb,rfl⟩:=ry;exact SeqAt.RcNeAt.bool_int a b tb
  | str b=>obtain⟨tb,rfl⟩:=ry;exact SeqAt.RcNeAt.bool_str a b tb
  | @tup cb lF kh eb rb=>cases ry;obtain⟨bF,ju,pb⟩:=sb.isTup I eb;exact SeqAt.RcNeAt.bool_tuple a pb (by omega)
  | @lst cb lF kh eb rb=>cases ry;obtain⟨bF,ju,pb⟩:=sb.cV I eb;exact SeqAt.RcNeAt.bool_list a pb (by omega)
 | int a=>
  obtain⟨ta,rfl⟩:=rx
  cases r2 with
  | bM=>cases ry;exact SeqAt.RcNeAt.int_none a ta
  | bl b=>cases ry;exact SeqAt.RcNeAt.int_bool a ta b
  | int b=>obtain⟨tb,rfl⟩:=ry;exact SeqAt.RcNeAt.int_int a ta b tb
  | str b=>obtain⟨tb,rfl⟩:=ry;exact SeqAt.RcNeAt.int_str a ta b tb
  | @tup cb lF kh eb rb=>cases ry;obtain⟨bF,ju,pb⟩:=sb.isTup I eb;exact SeqAt.RcNeAt.int_tuple a ta pb (by omega)
  | @lst cb lF kh eb rb=>cases ry;obtain⟨bF,ju,pb⟩:=sb.cV I eb;exact SeqAt.RcNeAt.int_list a ta pb (by omega)
 | str a=>
  obtain⟨ta,rfl⟩:=rx
  cases r2 with
  | bM=>cases ry;exact SeqAt.RcNeAt.str_none a ta
  | bl b=>cases ry;exact SeqAt.RcNeAt.str_bool a ta b
  | int b=>obtain⟨tb,rfl⟩:=ry;exact SeqAt.RcNeAt.str_int a ta b tb
  | str b=>obtain⟨tb,rfl⟩:=ry;exact SeqAt.RcNeAt.str_str a ta b tb
  | @tup cb lF kh eb rb=>cases ry;obtain⟨bF,ju,pb⟩:=sb.isTup I eb;exact SeqAt.RcNeAt.str_tuple a ta pb (by omega)
  | @lst cb lF kh eb rb=>cases ry;obtain⟨bF,ju,pb⟩:=sb.cV I eb;exact SeqAt.RcNeAt.str_list a ta pb (by omega)
 | @tup ca K8 mF ea ra=>
  cases rx;obtain⟨eZ,vY,pa⟩:=sb.isTup I ea
  cases r2 with
  | bM=>cases ry;exact SeqAt.RcNeAt.tuple_none pa (by omega)
  | bl b=>cases ry;exact SeqAt.RcNeAt.tuple_bool b pa (by omega)
  | int b=>obtain⟨tb,rfl⟩:=ry;exact SeqAt.RcNeAt.tuple_int b tb pa (by omega)
  | str b=>obtain⟨tb,rfl⟩:=ry;exact SeqAt.RcNeAt.tuple_str b tb pa (by omega)
  | @tup cb lF kh eb rb=>cases ry;obtain⟨bF,ju,pb⟩:=sb.isTup I eb;exact(by
   have hd:A.units+(bH mF+1) < cLine:=hu
   have items:iO A s eZ bF mF kh:=fun j h1 h2=>jv I sb mF (A:=A.in1) ra rb vY ju (by show A.units+1+bH mF < cLine;omega) (cO eZ j h1) (cO bF j h2)
   exact qJ (by omega) pa pb (vY.length.symm.trans ra.length) (ju.length.symm.trans rb.length) items)
  | @lst cb lF kh eb rb=>cases ry;obtain⟨bF,ju,pb⟩:=sb.cV I eb;exact SeqAt.RcNeAt.tuple_list pa pb (by omega)
 | @lst ca K8 mF ea ra=>
  cases rx;obtain⟨eZ,vY,pa⟩:=sb.cV I ea
  cases r2 with
  | bM=>cases ry;exact SeqAt.RcNeAt.list_none pa (by omega)
  | bl b=>cases ry;exact SeqAt.RcNeAt.list_bool b pa (by omega)
  | int b=>obtain⟨tb,rfl⟩:=ry;exact SeqAt.RcNeAt.list_int b tb pa (by omega)
  | str b=>obtain⟨tb,rfl⟩:=ry;exact SeqAt.RcNeAt.list_str b tb pa (by omega)
  | @tup cb lF kh eb rb=>cases ry;obtain⟨bF,ju,pb⟩:=sb.isTup I eb;exact SeqAt.RcNeAt.list_tuple pa pb (by omega)
  | @lst cb lF kh eb rb=>cases ry;obtain⟨bF,ju,pb⟩:=sb.cV I eb;exact(by
   have hd:A.units+(bH mF+1) < cLine:=hu
   have items:iO A s eZ bF mF kh:=fun j h1 h2=>jv I sb mF (A:=A.in1) ra rb vY ju (by show A.units+1+bH mF < cLine;omega) (cO eZ j h1) (cO bF j h2)
   exact rX (by omega) pa pb (vY.length.symm.trans ra.length) (ju.length.symm.trans rb.length) items)
noncomputable def DK:List D->Option U
 | [a,b]=>if iS a<=40 then some (.t (.bl (kO a b))) else none
 | _=>none
noncomputable def Oa:List D->Option U
 | [a,b]=>if iS a<=40 then some (.t (.bl (!kO a b))) else none
 | _=>none
theorem xT (hu:X.A.units+64 < cLine):uI X (compareOp .Eq) DK:=by
 intro pins s σ H x y v u Q I rx ry ⟨F,ds,w,sb,rs,hw,q⟩
 obtain⟨d,e,rfl,r1,r2⟩:=nN rs
 obtain⟨hd,rfl⟩:=bU (show(if iS d<=40 then some (U.t (.bl (kO d e))) else none)=some w from hw)
 exact K9 I sb r1 r2 rx ry (by omega) _ _ _ _ ⟨.bl _,H,I,rfl,q _ F H (iw.refl ..) sb (.bl _)⟩
theorem HR (hu:X.A.units+64 < cLine):uI X (compareOp .NotEq) Oa:=by
 intro pins s σ H x y v u Q I rx ry ⟨F,ds,w,sb,rs,hw,q⟩
 obtain⟨d,e,rfl,r1,r2⟩:=nN rs
 obtain⟨hd,rfl⟩:=bU (show(if iS d<=40 then some (U.t (.bl (!kO d e))) else none)=some w from hw)
 exact Ex I sb r1 r2 rx ry (by omega) _ _ _ _ ⟨.bl _,H,I,rfl,q _ F H (iw.refl ..) sb (.bl _)⟩
noncomputable def inD (x:D) (ds:List D):Bool:=ds.any fun y=>kO y x
noncomputable def DL:List D->Option U
 | [x,.tup ds]=>if bH ds<=40 then some (.t (.bl (inD x ds))) else none
 | [x,.lst ds]=>if bH ds<=40 then some (.t (.bl (inD x ds))) else none
 | [.str i,.str j]=>some (.t (.bl (!(Builtin.Str.occurrences j i 0 j.length 1).isEmpty)))
 | _=>none
theorem RelV.uniq {v w':V}{u:Value}(a:RelV v u) (b:RelV w' u):v=w':=by
 cases v <;> cases w' <;> simp only[RelV] at a b <;> first
  | rfl
  | (subst a;cases b;done)
  | (subst a;cases b;rfl)
  | (obtain⟨t,rfl⟩:=a;obtain⟨t',e⟩:=b;cases e;done)
  | (obtain⟨t,rfl⟩:=a;obtain⟨t',e⟩:=b;cases e;rfl)
  | (obtain⟨t,rfl⟩:=a;cases b;done)
  | (obtain⟨t,rfl⟩:=b;cases a;done)
open Classical in
noncomputable def Bk (F:Hp) (d:D) (y:Value):Bool:=if h:∃(v:V) (dd:D),RelV v y/\Rep F v dd then kO (Classical.choose (Classical.choose_spec h)) d else false
theorem xU {v:V}{dd d:D}{y:Value}(a:RelV v y) (r:Rep F v dd):Bk F d y=kO dd d:=by
 unfold Bk
 have h:∃(v:V) (dd:D),RelV v y/\Rep F v dd:=⟨v,dd,a,r⟩
 rw[dif_pos h]
 have k:=Classical.choose_spec (Classical.choose_spec h)
 have e1:=RelV.uniq k.1 a
 have r':Rep F (Classical.choose h) dd:=by rw[e1];exact r
 rw[Rep.uniq k.2 r']
theorem nQ (I:Inv X pins σ H s) (sb:Sub F H){A:Around}{x:V}{u:Value}{d:D}(r:Rep F x d) (rx:RelV x u):∀{vs:List V}{ds:List D}{its:List Value},aR F vs ds->Vals vs its->A.units+bH ds < cLine->
  (∀y∈its,SeqAt.EqAt A s y u (Bk F d y))/\its.any (Bk F d)=inD d ds
 | _,_,_,.nil,.nil,_=>⟨(fun y hy=>absurd hy (by simp)),rfl⟩
 | _,_,_,@aR.cons _ v dd vs ds r1 rs,.cons q qs,hu=>by
  have hd:A.units+max (iS dd) (bH ds) < cLine:=hu
  obtain⟨h1,h2⟩:=nQ I sb (A:=A) r rx rs qs (by omega)
  refine⟨fun y hy=>?_,?_⟩
  ·rcases List.mem_cons.mp hy with rfl | hy
   ·rw[xU q r1];exact Gm I sb dd r1 r q rx (by omega)
   ·exact h1 y hy
  ·rw[List.any_cons,h2,xU q r1]
   rfl
theorem HS (hu:X.A.units+64 < cLine):uI X (compareOp .In) DL:=by
 intro pins s σ H x y v u Q I rx ry ⟨F,ds,w,sb,rs,hw,q⟩
 obtain⟨d,e,rfl,r1,r2⟩:=nN rs
 cases e with
 | tup ds=>
  obtain⟨hd,rfl⟩:=bU (show(if bH ds<=40 then some (U.t (.bl (inD d ds))) else none)=some w by cases d <;> exact hw)
  obtain⟨a,vs,rfl,fa,ha,rs⟩:=sb.j8 r2
  cases ry
  obtain⟨its,rv,p⟩:=sb.isTup I fa
  obtain⟨h1,h2⟩:=nQ I sb (A:=X.A.in1) r1 rx rs rv (by show X.A.units+1+bH ds < cLine;omega)
  refine SeqAt.in_tupleAt (Bk F d) p (fun y hy=>h1 y (by simpa using hy)) ⟨.bl _,H,I,rfl,?_⟩
  rw[show its.toArray.any (Bk F d)=its.any (Bk F d) by simp,h2]
  exact q _ F H (iw.refl ..) sb (.bl _)
 | lst ds=>
  obtain⟨hd,rfl⟩:=bU (show(if bH ds<=40 then some (U.t (.bl (inD d ds))) else none)=some w by cases d <;> exact hw)
  obtain⟨a,vs,rfl,fa,ha,rs⟩:=sb.iy r2
  cases ry
  obtain⟨its,rv,p⟩:=sb.cV I fa
  obtain⟨h1,h2⟩:=nQ I sb (A:=X.A.in1) r1 rx rs rv (by show X.A.units+1+bH ds < cLine;omega)
  refine SeqAt.in_listAt (Bk F d) p (fun y hy=>h1 y (by simpa using hy)) ⟨.bl _,H,I,rfl,?_⟩
  rw[show its.toArray.any (Bk F d)=its.any (Bk F d) by simp,h2]
  exact q _ F H (iw.refl ..) sb (.bl _)
 | str j=>
  cases d <;> try (simp[DL] at hw;done)
  rename_i i
  cases hw
  cases r1
  cases r2
  exact Ae pins s σ H _ _ v u Q I rx ry ⟨i,j,rfl,rfl,q _ F H (iw.refl ..) sb (.bl _)⟩
 | bM=>cases d <;> (simp[DL] at hw;done)
 | bl b=>cases d <;> (simp[DL] at hw;done)
 | int b=>cases d <;> (simp[DL] at hw;done)
end
noncomputable def Av (T:String) (d:D):Option Bool:=match T with
 | "tuple"=>some (Cb d)
 | "list"=>some (Cc d)
 | "str"=>some (Cd d)
 | "bool"=>some (Gg d)
 | "int"=>some (Ce d)
 | _=>none
theorem Ct {K:PySem.W.Frag}{T:String}{d:D}{b:Bool}(h:Av T d=some b):PySem.W.kitOne K (.type (HB d)) (.type T)=some b:=by
 unfold Av at h
 split at h
 ·cases h;exact El d
 ·cases h;exact Em d
 ·cases h;exact Cf d
 ·cases h;exact HC d
 ·cases h;exact En d
 ·cases h
noncomputable def qK:List String->D->Option Bool
 | [],_=>some false
 | T :: Ts,d=>match Av T d with
  | some true=>some true
  | some false=>qK Ts d
  | none=>none
section
variable {X:Cx}{pins:List (Addr×Obj)}{σ:St}{F H:Hp}{s:Shared}
theorem Ey (I:Inv X pins σ H s) (sb:Sub F H){A:Around}{E:Value->Shared->Prop}{Q:Value->Shared->Prop}{x:V}{u:Value}{d:D}{c:Value}{b:Bool}(r:Rep F x d) (rx:RelV x u) (e:PySem.W.kitOne X.K (.type (HB d)) c=some b) (h:∀tk,Q (.bool b) {s with toks:=tk}):
  wpAny (model X.prog X.w) A (call (.builtin "isinstance") [u,c]) Q E s:=by
 cases r with
 | bM=>cases rx;exact PySem.W.kia_one PySem.W.kitx_none I.Bh True.intro e (fun z=>nomatch z) h
 | bl y=>cases rx;exact PySem.W.kia_one PySem.W.kitx_bool I.Bh True.intro e (fun z=>nomatch z) h
 | int i=>obtain⟨t,rfl⟩:=rx;exact PySem.W.kia_one PySem.W.kitx_int I.Bh True.intro e (fun z=>nomatch z) h
 | str y=>obtain⟨t,rfl⟩:=rx;exact PySem.W.kia_one PySem.W.kitx_str I.Bh True.intro e (fun z=>nomatch z) h
 | tup ea _=>
  cases rx
  obtain⟨its,_,o,h1,h2,_⟩:=sb.isTup I ea
  exact PySem.W.kia_one PySem.W.kitx_tuple I.Bh ⟨o,h1,h2⟩ e (fun z=>nomatch z) h
 | lst ea _=>
  cases rx
  obtain⟨its,_,o,h1,h2,_⟩:=sb.cV I ea
  exact PySem.W.kia_one PySem.W.kitx_list I.Bh ⟨o,h1,h2⟩ e (fun z=>nomatch z) h
end
noncomputable def Mv (Ts:List String) (g:GD):GD:=fun S=>(g S).bind fun p=>(qK Ts p.1).map fun b=>(.bl b,p.2)
section
variable {X:Cx}{a b c e:Expr}{es:List Expr}{pos p p2 px:Pos}{x y:Str}{g ga gb gc:GD}{gA:GA}
theorem Aw {T:String}{d:D}{b:Bool}(h:qK [T] d=some b):Av T d=some b:=by
 unfold qK at h
 cases e:Av T d with
 | none=>rw[e] at h;cases h
 | some k=>rw[e] at h;cases k <;> exact h
theorem tT {T:String}(hg:Gl X "isinstance") (hm:X.mg "isinstance" =none) (Ez:Gl X y) (hm2:X.mg y=none) (hv2:bootBuiltins y=some (.type T)) (ha:JD X a ga) (hn2:y≠"__name__":=by decide) (hd2:(y == ("__debug__":Str))=false:=by decide)
    (hs:starEach [a,.Name y px] X.env=(false,eval a X.env) :: starEach [.Name y px] X.env:=by rfl) (hs2:starEach [.Name y px] X.env=(false,eval (.Name y px) X.env) :: starEach [] X.env:=by rfl) (hpl:(backTo pos (starEach [.Name y px] X.env)).any (·.1)=false:=by rfl):
    JD X (.Call (.Name "isinstance" p) [a,.Name y px] [] pos) (Mv [T] ga):=⟨fun B=>
  (j7 (r := fun xs H Q => ∃ x F d b, xs = [x, .ty T] /\ Sub F H /\ Rep F x d /\ Av T d = some b /\ Q (.bl b) H) (fun pins s σ H xs us Q I r ⟨x, F, d, b, e1, sb, rd, hk, q⟩ => by
      subst e1
      obtain⟨u,w',rfl,ru,rw'⟩:=vals2 r
      cases rw'
      exact Ey I sb rd ru (Ct hk) fun tk=>⟨.bl b,H,I.tok tk,rfl,q⟩) hg hm PyProof.Rows.Boot.isinstance (jK (ha.h B) (jK (DU (v:=.ty T) Ez hm2 hv2 rfl hn2 hd2) oN hs2) hs) (by decide) (by decide) hs hpl).imp fun σ H Q ⟨S,F,d,S',R,hg,q⟩=>by
  obtain⟨⟨d1,S1⟩,h1,hg⟩:=ah hg
  obtain⟨k,h2,hg⟩:=az hg
  cases hg
  exact⟨S,F,d1,_,R,h1,fun v F1 H1 R1 st1 r1=>⟨v,F1,d1,k,rfl,R1.sub,r1,Aw h2,q _ F1 H1 R1 st1 (.bl k)⟩⟩⟩
noncomputable def jV:List D->Option (List Bool)
 | []=>some []
 | .bl b :: ds=>(jV ds).map fun bs=>b :: bs
 | _=>none
theorem pO {F:Hp}:∀{vs:List V}{ds:List D}{bs:List Bool},aR F vs ds->jV ds=some bs->vs=bs.map V.bl
 | _,_,_,.nil,h=>by cases h;rfl
 | _,_,_,@aR.cons _ v d vs ds r rs,h=>by
  cases d <;> try (simp[jV] at h;done)
  obtain⟨bs,h1,h2⟩:=az (show(jV ds).map _=_ from h)
  subst h2
  rw[m5 r,pO rs h1]
  rfl
noncomputable def Cu:List D->Option U
 | [.lst ds]=>(jV ds).map fun bs=>.t (.bl (bs.all id))
 | _=>none
theorem lY {P:D->Prop}{F:Hp}{xs:List V}{ds:List D}{f:List D->Option U}{w':U}(rs:aR F xs ds) (h:f ds=some w') (hn:f []=none) (h2:∀a b r,f (a :: b :: r)=none):∃x d,xs=[x]/\ds=[d]/\Rep F x d:=by
 cases rs with
 | nil=>rw[hn] at h;cases h
 | cons r rs=>
  cases rs with
  | nil=>exact⟨_,_,rfl,rfl,r⟩
  | cons _ _=>rw[h2] at h;cases h
theorem tU (hc:X.calm=true):gq X (.builtin "all") (rP Cu):=by
 intro pins s σ H xs us Q I r ⟨F,ds,w,sb,rs,hw,q⟩
 obtain⟨x,d,rfl,rfl,r1⟩:=lY (P:=fun _=>True) rs hw rfl (fun d _ _=>by cases d <;> rfl)
 cases d <;> try (simp[Cu] at hw;done)
 rename_i ds
 obtain⟨bs,h1,rfl⟩:=az (show(jV ds).map _=some w from hw)
 obtain⟨a,vs,rfl,fa,ha,mJ⟩:=sb.iy r1
 obtain rfl:=pO mJ h1
 exact Ao hc pins s σ H _ us Q I r ⟨a,bs,rfl,.inl ha,q _ F H (iw.refl ..) sb (.bl _)⟩
noncomputable def La:List D->Option U
 | [.int i,.int j,.int k]=>some (.t (.int (if j < i then(if k < j then k else j) else if k < i then k else i)))
 | _=>none
noncomputable def zo:List D->Option U
 | [.int i,.int j]=>some (.t (.int (if j < i then j else i)))
 | _=>none
theorem xV (hc : X.calm = true) : gq X (.builtin "min") (rP zo) := by
  intro pins s σ H xs us Q I r ⟨F,ds,w,sb,rs,hw,q⟩
  unfold zo at hw
  split at hw
  . rename_i i j
    cases hw
    cases rs with
    | cons r1 rs=>cases rs with
      | cons r2 rs=>
        cases rs
        rw[g8 r1,g8 r2] at r
        exact Af hc pins s σ H _ us Q I r ⟨i,j,rfl,q _ F H (iw.refl ..) sb (.int _)⟩
  . cases hw
noncomputable def tV:List D->Option U
 | [.tup ds]=>some (.m (.lst ds))
 | [.lst ds]=>some (.m (.lst ds))
 | _=>none
noncomputable def gG:List D->Option U
 | [.tup ds]=>some (.t (.tup ds))
 | [.lst ds]=>some (.t (.tup ds))
 | _=>none
theorem xW:gq X (.type "list") (rP tV):=by
 intro pins s σ H xs us Q I r ⟨F,ds,w,sb,rs,hw,q⟩
 obtain⟨x,d,rfl,rfl,r1⟩:=lY (P:=fun _=>True) rs hw rfl (fun d _ _=>by cases d <;> rfl)
 cases d <;> try (simp[tV] at hw;done)
 ·cases hw
  obtain⟨a,vs,rfl,fa,ha,mJ⟩:=sb.j8 r1
  exact nJ pins s σ H _ us Q I r ⟨a,vs,rfl,.inr (.inl ha),fun p hp=>q _ F _ (iw.obj hp _) (sb.same (iw.obj (F:=F) hp _).same) ⟨p,rfl,hp,sb.fresh hp,vs,aK,mJ⟩⟩
 ·cases hw
  obtain⟨a,vs,rfl,fa,ha,mJ⟩:=sb.iy r1
  exact nJ pins s σ H _ us Q I r ⟨a,vs,rfl,.inl (.inl ha),fun p hp=>q _ F _ (iw.obj hp _) (sb.same (iw.obj (F:=F) hp _).same) ⟨p,rfl,hp,sb.fresh hp,vs,aK,mJ⟩⟩
theorem gO:gq X (.type "tuple") (rP gG):=by
 intro pins s σ H xs us Q I r ⟨F,ds,w,sb,rs,hw,q⟩
 obtain⟨x,d,rfl,rfl,r1⟩:=lY (P:=fun _=>True) rs hw rfl (fun d _ _=>by cases d <;> rfl)
 cases d <;> try (simp[gG] at hw;done)
 ·cases hw
  have r0:=r1
  obtain⟨a,vs,rfl,fa,ha,mJ⟩:=sb.j8 r1
  exact mH pins s σ H _ us Q I r ⟨a,vs,rfl,.inr ⟨.inl ha,q _ F H (iw.refl ..) sb r0⟩⟩
 ·cases hw
  obtain⟨a,vs,rfl,fa,ha,mJ⟩:=sb.iy r1
  exact mH pins s σ H _ us Q I r ⟨a,vs,rfl,.inl ⟨.inl ha,fun p hp=>q _ _ _ (iw.root sb hp _) (sb.uG hp) (.tup aK (mJ.le (lu (sb.fresh hp))))⟩⟩
end
theorem jh.ky {H:Hp}{a:Addr}{kvs:List (Key×V)}{y:V}{k:Key}(e:H a=some (.dK kvs)) (h:D9 y k):jh H a y (kZ kvs k):=.inl ⟨kvs,k,.inl e,h,rfl⟩
theorem qx.ky {H:Hp}{a:Addr}{kvs:List (Key×V)}{y:V}{k:Key}{v:V}(e:H a=some (.dK kvs)) (h:D9 y k) (hl:kvs.length < sizeLine):qx H a y v (upd H a (.dK (putK kvs k v))):=.inl ⟨kvs,k,e,h,hl,rfl⟩
noncomputable def keyOf:D->Option Key
 | .bl b=>some (.inl (bI b))
 | .int i=>some (.inl i)
 | .str z=>some (.inr z)
 | _=>none
theorem ki {F:Hp}{v:V}{d:D}{k:Key}(r:Rep F v d) (h:keyOf d=some k):D9 v k:=by
 cases r <;> cases h <;> first | exact .inl rfl | exact .inr ⟨_,rfl,rfl⟩
noncomputable def aT {κ:Type} [DecidableEq κ] (kvs:List (κ×D)) (k:κ):Option D:=(kvs.find? fun kv=>decide (kv.1=k)).map (·.2)
noncomputable def putD {κ:Type} [DecidableEq κ] (kvs:List (κ×D)) (k:κ) (d:D):List (κ×D):=
 if(kvs.any fun kv=>decide (kv.1=k))=true then kvs.map (fun kv=>if kv.1=k then(kv.1,d) else kv) else kvs++[(k,d)]
theorem je {κ:Type} [DecidableEq κ] {F:Hp}{k:κ}{d:D}:∀{ws:List (κ×V)}{kvs:List (κ×D)},Paired (i6 F) ws kvs->aT kvs k=some d->∃v,kZ ws k=some v/\Rep F v d
 | _,_,.nil,h=>by cases h
 | _,_,@Paired.cons _ _ _ p q ws kvs r rs,h=>by
  by_cases e:q.1=k
  ·have e':p.1=k:=r.1.trans e
   refine⟨p.2,nH e',?_⟩
   have:aT (q :: kvs) k=some q.2:=by simp[aT,List.find?_cons,e]
   rw[this] at h
   cases h
   exact r.2
  ·have e':¬p.1=k:=fun z=>e (r.1.symm.trans z)
   have:aT (q :: kvs) k=aT kvs k:=by simp[aT,List.find?_cons,e]
   rw[this] at h
   obtain⟨v,h1,h2⟩:=je rs h
   exact⟨v,by rw[lg e'];exact h1,h2⟩
theorem lZ {κ:Type} [DecidableEq κ] {F:Hp}{k:κ}:∀{ws:List (κ×V)}{kvs:List (κ×D)},Paired (i6 F) ws kvs->aT kvs k=none->kZ ws k=none
 | _,_,.nil,h=>rfl
 | _,_,@Paired.cons _ _ _ p q ws kvs r rs,h=>by
  by_cases e:q.1=k
  ·have:aT (q :: kvs) k=some q.2:=by simp[aT,List.find?_cons,e]
   rw[this] at h
   cases h
  ·have e':¬p.1=k:=fun z=>e (r.1.symm.trans z)
   have:aT (q :: kvs) k=aT kvs k:=by simp[aT,List.find?_cons,e]
   rw[this] at h
   rw[lg e']
   exact lZ rs h
theorem vZ {κ:Type} [DecidableEq κ] {F:Hp}{k:κ}:∀{ws:List (κ×V)}{kvs:List (κ×D)},Paired (i6 F) ws kvs->(ws.any fun kv=>decide (kv.1=k))=(kvs.any fun kv=>decide (kv.1=k))
 | _,_,.nil=>rfl
 | _,_,.cons r rs=>by rw[List.any_cons,List.any_cons,vZ rs,r.1]
theorem v5 {κ:Type} [DecidableEq κ] {F:Hp}{k:κ}{v:V}{d:D}(r:Rep F v d):∀{ws:List (κ×V)}{kvs:List (κ×D)},Paired (i6 F) ws kvs->Paired (i6 F) (ws.map fun kv=>if kv.1=k then(kv.1,v) else kv) (kvs.map fun kv=>if kv.1=k then(kv.1,d) else kv)
 | _,_,.nil=>.nil
 | _,_,@Paired.cons _ _ _ p q ws kvs h hs=>by
  refine .cons ?_ (v5 r hs)
  show i6 F (if p.1=k then(p.1,v) else p) (if q.1=k then(q.1,d) else q)
  rw[h.1]
  by_cases e:q.1=k
  ·rw[if_pos e,if_pos e];exact⟨rfl,r⟩
  ·rw[if_neg e,if_neg e];exact h
theorem pP {α β:Type}{P:α->β->Prop}{x:α}{y:β}(p:P x y):∀{l:List α}{r:List β},Paired P l r->Paired P (l++[x]) (r++[y])
 | _,_,.nil=>.cons p .nil
 | _,_,.cons q qs=>.cons q (pP p qs)
theorem nR {κ:Type} [DecidableEq κ] {F:Hp}{k:κ}{v:V}{d:D}{ws:List (κ×V)}{kvs:List (κ×D)}(h:Paired (i6 F) ws kvs) (r:Rep F v d):Paired (i6 F) (putK ws k v) (putD kvs k d):=by
 unfold putK putD
 rw[vZ h]
 by_cases e:(kvs.any fun kv=>decide (kv.1=k))=true
 ·rw[if_pos e,if_pos e];exact v5 r h
 ·rw[if_neg e,if_neg e];exact pP ⟨rfl,r⟩ h
noncomputable def jW:D->Option D
 | .tup ds=>if d7 8 (.tup ds)=true then some (nf (.tup ds)) else none
 | _=>none
theorem lG {F H:Hp}{v:V}{d:D}{ks:D}(sb:Sub F H) (r:Rep F v d) (h:jW d=some ks):∃b,v= .ref b/\Kd H b ks:=by
 cases r with
 | @tup a vs ds e rs=>
  obtain⟨h1,h2⟩:=bU (show(if d7 8 (.tup ds)=true then some (nf (.tup ds)) else none)=some ks from h)
  subst h2
  exact⟨a,rfl,_,Rep.le sb (.tup e rs),h1,rfl⟩
 | bM=>cases h
 | bl _=>cases h
 | int _=>cases h
 | str _=>cases h
 | lst _ _=>cases h
noncomputable def jw:U->D->Option D
 | .t (.tup ds),.int i=>dj ds i
 | .t (.lst ds),.int i=>dj ds i
 | .m (.lst ds),.int i=>dj ds i
 | .b (.lst ds),.int i=>dj ds i
 | .s ns,.int i=>(dj ns i).map D.int
 | .m (.dct kvs),k=>(keyOf k).bind (aT kvs)
 | .b (.dct kvs),k=>(keyOf k).bind (aT kvs)
 | .m (.lU kvs),k=>(jW k).bind (aT kvs)
 | .b (.lU kvs),k=>(jW k).bind (aT kvs)
 | _,_=>none
noncomputable def aV (i:Nat) (gb:GD):GD:=fun S=>match S[i]? with
 | some (some _)=>(gb S).bind fun p=>match p.2[i]? with
  | some (some u)=>(jw u p.1).map fun d=>(d,p.2)
  | _=>none
 | _=>none
theorem EA {α β:Type}(f:α->β){l:List α}{i:Int}{x:α}(h:dj l i=some x):dj (l.map f) i=some (f x):=by
 unfold dj at h ⊢
 rw[List.length_map]
 obtain⟨j,h1,h2⟩:=ah h
 rw[h1]
 show(l.map f)[j]? =_
 rw[List.getElem?_map,h2]
 rfl
section
variable {X:Cx}{a b c e value:Expr}{es:List Expr}{pos p p2 px pos':Pos}{x y:Str}{g ga gb gc gk gv:GD}{gA:GA}
theorem bg {i : Nat} (hu : X.A.units + 20 < cLine) (hb : JD X b gb) (hs : uE b := by first | (intro _ _; rfl)) (hN : X.N[i]? = some x := by rfl) (hv : Bv X.env.scope x := by first | exact Or.inl rfl | exact Or.inr (Or.inl rfl) | exact Or.inr (Or.inr rfl))
    (hd:(x == ("__debug__":Str))=false:=by decide) (hcd:(x == ("__classdict__":Str))=false:=by decide):JD X (.Subscript (.Name x px) b pos) (aV i gb):=⟨fun B=>PE.orelse fun σ H Q ⟨S,F,d,S',R,hg,q⟩=>by
  unfold aV at hg
  split at hg
  . rename_i u0 Cv
    obtain⟨v0,hv0,_⟩:=R.rep i u0 Cv
    obtain⟨⟨k,S1⟩,h1,hg⟩:=ah hg
    dsimp only at hg
    split at hg
    . rename_i u hS
      obtain⟨d',hr,hg⟩:=az hg
      cases hg
      have zl:∀F1 H1,Rel X.K B S' σ F1 H1->rU X.K F1 H1 v0 u:=fun F1 H1 R1=>by
        obtain⟨v,k1,k2⟩:=R1.rep i u hS
        rw[hv0] at k1
        cases k1
        exact k2
      have seq:∀(Y:V->V->Hp->VK->Prop),PE X (.Subscript (.Name x px) b pos) (Jv Y (DS i) (tD X.K B gb))->(∀v F1 H1,Rel X.K B S' σ F1 H1->Step S S' σ F H F1 H1->Rep F1 v k->Y v0 v H1 Q)->∃t',PE X (.Subscript (.Name x px) b pos) t'/\t' σ H Q:=fun Y hY h=>
        ⟨_,hY,v0,hv0,S,F,k,S',R,h1,fun v F1 H1 R1 st1 r1=>h v F1 H1 R1 st1 r1⟩
      have dict:∀kvs,(∀F1 H1,Rel X.K B S' σ F1 H1->∃a ws,v0= .ref a/\H1 a=some (.dK ws)/\Paired (i6 F1) ws kvs)->(keyOf k).bind (aT kvs)=some d->∃t',PE X (.Subscript (.Name x px) b pos) t'/\t' σ H Q:=fun kvs hat hr=>by
        obtain⟨kk,e1,e2⟩:=ah hr
        refine⟨_,yY hu (iV hN hv hd hcd) (hb.h B) hs,v0,hv0,S,F,k,S',R,h1,fun v F1 H1 R1 st1 r1=>?_⟩
        obtain⟨a,ws,rfl,ha,pr⟩:=hat F1 H1 R1
        obtain⟨w',z1,z2⟩:=je pr e2
        exact⟨a,w',rfl,by rw[<-z1];exact jh.ky ha (ki r1 e1),q w' F1 H1 R1 st1 z2⟩
      have v7:∀kvs,(∀F1 H1,Rel X.K B S' σ F1 H1->∃a ws,v0= .ref a/\H1 a=some (.dT ws)/\Paired (i6 F1) ws kvs)->(jW k).bind (aT kvs)=some d->∃t',PE X (.Subscript (.Name x px) b pos) t'/\t' σ H Q:=fun kvs hat hr=>by
        obtain⟨kk,e1,e2⟩:=ah hr
        refine⟨_,yY hu (iV hN hv hd hcd) (hb.h B) hs,v0,hv0,S,F,k,S',R,h1,fun v F1 H1 R1 st1 r1=>?_⟩
        obtain⟨a,ws,rfl,ha,pr⟩:=hat F1 H1 R1
        obtain⟨w',z1,z2⟩:=je pr e2
        obtain⟨b',rfl,hb'⟩:=lG R1.sub r1 e1
        exact⟨a,w',rfl,by rw[<-z1];exact jh.t ha hb',q w' F1 H1 R1 st1 z2⟩
      have list:∀ds ii,k= .int ii->dj ds ii=some d->(∀F1 H1,Rel X.K B S' σ F1 H1->∃a vs,v0= .ref a/\(nC X.K H1 a vs\/vp X.K H1 a vs)/\aR F1 vs ds)->∃t',PE X (.Subscript (.Name x px) b pos) t'/\t' σ H Q:=fun ds ii ek hrr hat=>by
        subst ek
        refine seq _ (BV BY (iV hN hv hd hcd) (hb.h B) hs) fun v F1 H1 R1 st1 r1=>?_
        obtain⟨a,vs,rfl,ha,rs⟩:=hat F1 H1 R1
        obtain⟨w',z1,z2⟩:=rs.dj hrr
        rw[g8 r1]
        rcases ha with ha | ha
        . exact .inl ⟨a,vs,ii,w',rfl,rfl,ha,z1,q w' F1 H1 R1 st1 z2⟩
        . exact .inr (.inl ⟨a,vs,ii,w',rfl,rfl,ha,z1,q w' F1 H1 R1 st1 z2⟩)
      unfold jw at hr
      split at hr
      . rename_i ds ii
        exact list ds ii rfl hr fun F1 H1 R1=>let⟨a,vs,e1,fa,ha,rs⟩:=R1.sub.j8 (zl F1 H1 R1);⟨a,vs,e1,.inr (.inl ha),rs⟩
      . rename_i ds ii
        exact list ds ii rfl hr fun F1 H1 R1=>let⟨a,vs,e1,fa,ha,rs⟩:=R1.sub.iy (zl F1 H1 R1);⟨a,vs,e1,.inl (.inl ha),rs⟩
      . rename_i ds ii
        exact list ds ii rfl hr fun F1 H1 R1=>let⟨a,e1,fa,vs,ha,rs⟩:=zl F1 H1 R1;⟨a,vs,e1,.inl (nC.of ha),rs⟩
      . rename_i ds ii
        exact list ds ii rfl hr fun F1 H1 R1=>let⟨a,e1,fa,vs,ha,rs⟩:=zl F1 H1 R1;⟨a,vs,e1,.inl (nC.of ha),rs⟩
      . rename_i ns ii
        obtain⟨n,z1,z2⟩:=az hr
        subst z2
        refine seq _ (BV BY (iV hN hv hd hcd) (hb.h B) hs) fun v F1 H1 R1 st1 r1=>?_
        obtain⟨a,e1,ha⟩:=zl F1 H1 R1
        rw[g8 r1]
        exact .inl ⟨a,ns.map V.int,ii,.int n,e1,rfl,ha.sq,EA V.int z1,q _ F1 H1 R1 st1 (.int n)⟩
      . rename_i kvs
        exact dict kvs (fun F1 H1 R1=>let⟨a,e1,fa,ws,ha,pr⟩:=zl F1 H1 R1;⟨a,ws,e1,ha,pr⟩) hr
      . rename_i kvs
        exact dict kvs (fun F1 H1 R1=>let⟨a,e1,fa,ws,ha,pr⟩:=zl F1 H1 R1;⟨a,ws,e1,ha,pr⟩) hr
      . rename_i kvs
        exact v7 kvs (fun F1 H1 R1=>let⟨a,e1,fa,ws,ha,pr⟩:=zl F1 H1 R1;⟨a,ws,e1,ha,pr⟩) hr
      . rename_i kvs
        exact v7 kvs (fun F1 H1 R1=>let⟨a,e1,fa,ws,ha,pr⟩:=zl F1 H1 R1;⟨a,ws,e1,ha,pr⟩) hr
      . cases hr
    . cases hg
  . cases hg⟩
noncomputable def rY:U->Option Nat
 | .t (.tup ds)=>some ds.length
 | .t (.lst ds)=>some ds.length
 | .t (.str z)=>if z.length<=100000 then some z.length else none
 | .m (.lst ds)=>some ds.length
 | .b (.lst ds)=>some ds.length
 | .m (.dct ds)=>some ds.length
 | .b (.dct ds)=>some ds.length
 | .m (.lU ds)=>some ds.length
 | .b (.lU ds)=>some ds.length
 | .s ns=>some ns.length
 | _=>none
noncomputable def fV (i:Nat):GD:=fun S=>match S[i]? with
 | some (some u)=>(rY u).map fun n=>(.int (n:Nat),S)
 | _=>none
theorem bY {α β:Type}{P:α->β->Prop}:∀{l:List α}{r:List β},Paired P l r->l.length=r.length
 | _,_,.nil=>rfl
 | _,_,.cons _ ps=>congrArg Nat.succ (bY ps)
theorem xX {prog:Program}{w:World}{K:Type} [DecidableEq K] (knd:HeapKind prog w K) (d:Addr) (hd:(d == sysModules)=false):
  MeetsIn prog w (Builtin.«dict.__len__» ⟨[.ref d],[]⟩) (fun _ R s=>∃xs,s.heap.DictOfH knd d xs/\R (.ok (.ret (.int xs.length s.toks))) {s with toks:=s.toks+1}):=
 .of_wp fun A R s ⟨xs,hm,h⟩=>by
  obtain⟨o,es,ep,ho,hc,hdat,he,his,hn⟩:=hm
  show wpAny _ _ (dictSize d >>= _) _ _ s
  unfold dictSize
  refine wpAny_bind (wpAny_bind (wpAny_dictEntries ho hdat (wpAny_pure ?_)))
  show wpAny _ _ (Builtin.Dict.pendingCount d >>= _) _ _ s
  refine wpAny_bind (wpAny_pendingCount_other hd ?_)
  refine wpAny_ret_mkInt ?_
  rw[Nat.add_zero,size_of_entries he];exact h
theorem Ax {prog:Program}{w:World}{K:Type} [DecidableEq K] {knd:HeapKind prog w K}{A:Around}{E:Value->Shared->Prop}{s:Shared}{d:Addr}{xs:List (K×Addr×Value)}{Q:Value->Shared->Prop}(hd:(d == sysModules)=false) (hm:s.heap.DictOfH knd d xs) (hfit:(xs.length:Int) < 2 ^ 63)
  (h:Q (.int xs.length (s.toks+1)) {s with toks:=s.toks+1+1}):wpAny (model prog w) A (Builtin.«len» ⟨[.ref d],[]⟩) (fun fin s'=>∃r,fin= .done (.ret r)/\Q r s') E s:=by
 unfold Builtin.«len»
 refine wpAny_bind (m:=oneArg "len" _) (wpAny_pure ?_)
 refine wpAny_bind (m:=callSpecial? (.ref d) (Str.ofString "__len__")) (wpAny_callSpecial?_slot (name:=Str.ofString "__len__") hm.typeIs F.slot_dict_len
  (call_meetsIn F.slot_dict_len hm.typeIs F.entry_dict_len (F.args_dict_len_1 _) (xX knd d hd) ⟨xs,hm,?_⟩))
 show wpAny _ _ _ _ _ {s with toks:=s.toks+1}
 refine wpAny_bind (wpAny_holding (wpAny_pure ?_))
 refine wpAny_bind (wpAny_letGo ?_)
 show wpAny _ _ (if((xs.length:Nat):Int) < 0 then _ else _) _ _ _
 rw[if_neg (by omega)]
 show wpAny _ _ (if((xs.length:Nat):Int)≥2 ^ 63 then _ else _) _ _ _
 rw[if_neg (by omega)]
 exact wpAny_bind (wpAny_mkInt (wpAny_pure ⟨_,rfl,h⟩))
theorem xY:gq X (.builtin "len") (fun xs H Q=>∃a kvs,xs=[V.ref a]/\H a=some (.dT kvs)/\Q (.int kvs.length) H):=by
 intro pins s σ H xs us Q I r h
 obtain⟨a,kvs,rfl,ha,q⟩:=h
 obtain⟨u,rfl,ru⟩:=vals1 r
 cases ru
 obtain⟨z,hd,ys,rel,dd⟩:=BL I.hok ha
 have hl:kvs.length=ys.length:=Paired.length rel
 refine Calls.call_function_entry kind_len plain_len entry_len (args_len1 _) (Ax hd dd (by rw[<-hl];rw[sizeLine_eq] at z;omega) ?_)
 rw[<-hl]
 exact⟨.int kvs.length,H,I.tok _,⟨_,rfl⟩,q⟩
theorem gm {i:Nat}(hg:Gl X "len") (hm:X.mg "len" =none) (hN:X.N[i]? =some x:=by rfl) (hv:Bv X.env.scope x:=by first | exact Or.inl rfl | exact Or.inr (Or.inl rfl) | exact Or.inr (Or.inr rfl))
  (hd:(x == ("__debug__":Str))=false:=by decide) (hcd:(x == ("__classdict__":Str))=false:=by decide) (he:starEach [.Name x px] X.env=(false,eval (.Name x px) X.env) :: starEach [] X.env:=by rfl) (hpl:(backTo pos (starEach [] X.env)).any (·.1)=false:=by rfl):
  JD X (.Call (.Name "len" p) [.Name x px] [] pos) (fV i):=⟨fun B=>PE.orelse fun σ H Q ⟨S,F,d,S',R,hg',q⟩=>by
 unfold fV at hg'
 split at hg'
 ·rename_i u hS
  obtain⟨n,hn,hg'⟩:=az hg'
  cases hg'
  obtain⟨v0,hv0,r0⟩:=R.rep i u hS
  have fin:=q (.int n) F H R (Step.refl ..) (.int _)
  have arg:PA X [.Name x px] (FZ (DS i) Kw):=jK (iV hN hv hd hcd) oN he
  have list:∀a vs,v0= .ref a->(nC X.K H a vs\/vp X.K H a vs)->vs.length=n->∃t',PE X (.Call (.Name "len" p) [.Name x px] [] pos) t'/\t' σ H Q:=fun a vs e1 ha hl=>
   ⟨_,j7 kD hg hm PySem.boot_len arg (by decide) (by decide) he hpl,v0,hv0,a,vs,by rw[e1],ha,by rw[hl];exact fin⟩
  have dict:∀a ws,v0= .ref a->H a=some (.dK ws)->ws.length=n->∃t',PE X (.Call (.Name "len" p) [.Name x px] [] pos) t'/\t' σ H Q:=fun a vs e1 ha hl=>
   ⟨_,j7 An hg hm PySem.boot_len arg (by decide) (by decide) he hpl,v0,hv0,a,vs,by rw[e1],ha,by rw[hl];exact fin⟩
  have v7:∀a ws,v0= .ref a->H a=some (.dT ws)->ws.length=n->∃t',PE X (.Call (.Name "len" p) [.Name x px] [] pos) t'/\t' σ H Q:=fun a vs e1 ha hl=>
   ⟨_,j7 xY hg hm PySem.boot_len arg (by decide) (by decide) he hpl,v0,hv0,a,vs,by rw[e1],ha,by rw[hl];exact fin⟩
  unfold rY at hn
  split at hn
  ·cases hn;obtain⟨a,vs,e1,fa,ha,rs⟩:=R.sub.j8 r0;exact list a vs e1 (.inr (.inl ha)) rs.length
  ·cases hn;obtain⟨a,vs,e1,fa,ha,rs⟩:=R.sub.iy r0;exact list a vs e1 (.inl (.inl ha)) rs.length
  ·rename_i z
   obtain⟨hl,rfl⟩:=bU hn
   exact⟨_,j7 nI hg hm PySem.boot_len arg (by decide) (by decide) he hpl,v0,hv0,z,by rw[zf r0],jM hl,fin⟩
  ·cases hn;obtain⟨a,e1,fa,vs,ha,rs⟩:=r0;exact list a vs e1 (.inl (nC.of ha)) rs.length
  ·cases hn;obtain⟨a,e1,fa,vs,ha,rs⟩:=r0;exact list a vs e1 (.inl (nC.of ha)) rs.length
  ·cases hn;obtain⟨a,e1,fa,ws,ha,pr⟩:=r0;exact dict a ws e1 ha (bY pr)
  ·cases hn;obtain⟨a,e1,fa,ws,ha,pr⟩:=r0;exact dict a ws e1 ha (bY pr)
  ·cases hn;obtain⟨a,e1,fa,ws,ha,pr⟩:=r0;exact v7 a ws e1 ha (bY pr)
  ·cases hn;obtain⟨a,e1,fa,ws,ha,pr⟩:=r0;exact v7 a ws e1 ha (bY pr)
  ·cases hn;obtain⟨a,e1,ha⟩:=r0;exact list a _ e1 (.inl ha.sq) (by simp)
  ·cases hn
 ·cases hg'⟩
end
noncomputable def kI (o:MO) (k d:D):Option MO:=match o with
 | .dct kvs=>(keyOf k).bind fun kk=>if kvs.length < 100000 then some (.dct (putD kvs kk d)) else none
 | .lU kvs=>(jW k).bind fun kk=>if kvs.length < 10000000 then some (.lU (putD kvs kk d)) else none
 | .ins _ _=>none
 | .lst ds=>match k with
  | .int i=>(BS ds.length i).map fun j=>.lst (ds.set j d)
  | _=>none
noncomputable def Ay (i:Nat) (gk gv:GD):GS:=fun S=>(gv S).bind fun p=>match p.2[i]? with
 | some (some _)=>(gk p.2).bind fun r=>(jH r.2 i fun o=>(kI o r.1 p.1).map fun o'=>(.bM,o')).map fun z=>.nx z.2
 | _=>none
theorem aR.set {F:Hp}{v:V}{d:D}(r:Rep F v d):∀{vs:List V}{ds:List D}(j:Nat),aR F vs ds->aR F (vs.set j v) (ds.set j d)
 | _,_,_,.nil=>.nil
 | _,_,0,.cons _ rs=>.cons r rs
 | _,_,j+1,.cons q rs=>.cons q (aR.set r j rs)
section
variable {X:Cx}{a b c e value k:Expr}{es:List Expr}{pos p p2 px pos':Pos}{x y:Str}{g ga gb gc gk gv:GD}{gA:GA}
theorem uP {i:Nat}(hu:X.A.units+20 < cLine) (hk:JD X k gk) (hval:JD X value gv) (hN:X.N[i]? =some x:=by rfl) (hv:Bv X.env.scope x:=by first | exact Or.inl rfl | exact Or.inr (Or.inl rfl) | exact Or.inr (Or.inr rfl))
  (hd:(x == ("__debug__":Str))=false:=by decide) (hcd:(x == ("__classdict__":Str))=false:=by decide)
  (hs:swapsWith value (some (.Subscript (.Name x px) k pos')) pos.line X.env=pure false:=by rfl)
  (hs1:swapsWithSole [.Subscript (.Name x px) k pos'] value pos.line X.env=pure false:=by rfl) (hs2:swappedStores [.Subscript (.Name x px) k pos'] value X.env=pure none:=by rfl)
  (JF:(assignEach [.Subscript (.Name x px) k pos'] X.env).map (·.2)=[assign (.Subscript (.Name x px) k pos') X.env]:=by rfl)
  (TJ:∀v,assign (.Subscript (.Name x px) k pos') X.env v=(do
   let ov <-holding [v] (eval (.Name x px) X.env)
   let iv <-holding [v,ov] (eval k X.env)
   standAt pos'
   holding [v,ov,iv] (setItem ov iv v)
   release [v,ov,iv] []):=by intro _;rfl):
  JS X (.Assign [.Subscript (.Name x px) k pos'] value pos) (Ay i gk gv):=⟨fun B=>PS.orelse fun D σ H ⟨S,F,o,R,hg,q⟩=>by
 obtain⟨⟨d,S1⟩,h1,hg⟩:=ah hg
 dsimp only at hg
 split at hg
 ·rename_i u0 Cv
  obtain⟨⟨kd,S2⟩,h2,hg⟩:=ah hg
  obtain⟨⟨nd,S3⟩,h3,hg⟩:=az hg
  subst hg
  obtain⟨u,u',mo,mo',hS,HP,hio,hf,DJ,rfl⟩:=oU h3
  obtain⟨V9,hw,hf2⟩:=az hf
  cases hf2
  have hv0:∀F1 H1,Rel X.K B S1 σ F1 H1->∃v,σ[i]? =some (some v):=fun F1 H1 R1=>let⟨v,k1,_⟩:=R1.rep i u0 Cv;⟨v,k1⟩
  cases mo with
  | dct kvs=>
   obtain⟨kk,e1,hw⟩:=ah hw
   obtain⟨hl,rfl⟩:=bU hw
   refine⟨_,yZ hu (iV hN hv hd hcd) (hk.h B) (hval.h B) hs,S,F,d,S1,R,h1,fun v F1 H1 R1 st1 r1=>?_⟩
   obtain⟨v0,hv0⟩:=hv0 F1 H1 R1
   refine⟨v0,hv0,S1,F1,kd,S2,R1,h2,fun y F2 H2 R2 st2 r2=>?_⟩
   obtain⟨v',k1,k2⟩:=R2.rep i u hS
   rw[hv0] at k1
   cases k1
   obtain⟨a,o2,rfl,fa,eo,k3⟩:=k2.cT HP
   rw[hio] at eo
   cases eo
   obtain⟨ws,ha,pr⟩:=k3
   refine⟨a,_,rfl,qx.ky ha (ki r2 e1) (by rw[bY pr];exact Nat.lt_of_lt_of_le hl (by decide)),?_⟩
   obtain⟨R3,st3⟩:=R2.write (ho:=.dK (putK ws kk v)) hS DJ hv0 ⟨_,aK,nR pr (r1.le st2.ext.le)⟩
   exact q σ F2 _ R3 fun b o z=>st2.ext.le b o (st1.ext.le b o z)
  | ins C kvs=>cases hw
  | lU kvs=>
   obtain⟨kk,e1,hw⟩:=ah hw
   obtain⟨hl,rfl⟩:=bU hw
   refine⟨_,yZ hu (iV hN hv hd hcd) (hk.h B) (hval.h B) hs,S,F,d,S1,R,h1,fun v F1 H1 R1 st1 r1=>?_⟩
   obtain⟨v0,hv0⟩:=hv0 F1 H1 R1
   refine⟨v0,hv0,S1,F1,kd,S2,R1,h2,fun y F2 H2 R2 st2 r2=>?_⟩
   obtain⟨v',k1,k2⟩:=R2.rep i u hS
   rw[hv0] at k1
   cases k1
   obtain⟨a,o2,rfl,fa,eo,k3⟩:=k2.cT HP
   rw[hio] at eo
   cases eo
   obtain⟨ws,ha,pr⟩:=k3
   obtain⟨b',rfl,hb'⟩:=lG R2.sub r2 e1
   refine⟨a,_,rfl,qx.t ha hb' (by rw[bY pr];exact Nat.lt_of_lt_of_le hl (by decide)),?_⟩
   obtain⟨R3,st3⟩:=R2.write (ho:=.dT (putK ws kk v)) hS DJ hv0 ⟨_,aK,nR pr (r1.le st2.ext.le)⟩
   exact q σ F2 _ R3 fun b o z=>st2.ext.le b o (st1.ext.le b o z)
  | lst ds=>
   unfold kI at hw
   dsimp only at hw
   split at hw
   ·rename_i ii
    obtain⟨j,e1,rfl⟩:=az hw
    refine⟨_,BC (hval.h B) (GZ (iV hN hv hd hcd) (hk.h B) set_list TJ) hs1 hs2 JF,S,F,d,S1,R,h1,fun v F1 H1 R1 st1 r1=>?_⟩
    obtain⟨v0,hv0⟩:=hv0 F1 H1 R1
    refine⟨v0,hv0,S1,F1,_,S2,R1,h2,fun y F2 H2 R2 st2 r2=>?_⟩
    obtain⟨v',k1,k2⟩:=R2.rep i u hS
    rw[hv0] at k1
    cases k1
    obtain⟨a,o2,rfl,fa,eo,k3⟩:=k2.cT HP
    rw[hio] at eo
    cases eo
    obtain⟨vs,ha,rs⟩:=k3
    rw[g8 r2]
    refine⟨a,vs,_,j,rfl,rfl,ha,by rw[rs.length];exact e1,?_⟩
    obtain⟨R3,st3⟩:=R2.write (ho:=.lst (vs.set j v)) hS DJ hv0 ⟨_,aK,rs.set (r1.le st2.ext.le) j⟩
    exact q σ F2 _ R3 fun b o z=>st2.ext.le b o (st1.ext.le b o z)
   ·cases hw
 ·cases hg⟩
end
section
variable {X:Cx}{a b c e:Expr}{lo hi:Option Expr}{pos p p2 px:Pos}{x y:Str}{g ga:GD}{gA:GA}{gl gh:Option GD}
noncomputable def Gn (d:D):Prop:=(toPy d).showable=true/\(toPy d).depth<=20/\(toPy d).shown.length<=sizeLine
noncomputable instance (d:D):Decidable (Gn d):=by unfold Gn;infer_instance
noncomputable def mL:List D->Option U
 | [d]=>if Gn d then some (.t (.str (toPy d).shown)) else none
 | _=>none
mutual
theorem Rep.oV {pins:List (Addr×Obj)}{σ:St}{F H:Hp}{s:Shared}(I:Inv X pins σ H s) (sb:Sub F H):∀{v:V}{d:D}{u:Value},Rep F v d->RelV v u->∃as,Reads s.heap u (toPy d) as
 | _,_,_,.bM,r=>by cases r;exact⟨[],.none⟩
 | _,_,_,.bl b,r=>by cases r;exact⟨[],.bool b⟩
 | _,_,_,.int i,r=>by obtain⟨t,rfl⟩:=r;exact⟨[],.int i t⟩
 | _,_,_,.str z,r=>by obtain⟨t,rfl⟩:=r;exact⟨[],.str z t⟩
 | _,_,_,.tup e rs,r=>by
  cases r
  obtain⟨its,rv,p⟩:=sb.isTup I e
  obtain⟨as,h⟩:=aR.oV I sb rs rv
  obtain⟨o,ho,hc,n,hd⟩:=p
  exact⟨as,.tuple ho hc hd (by simpa using h)⟩
 | _,_,_,.lst e rs,r=>by
  cases r
  obtain⟨its,rv,p⟩:=sb.cV I e
  obtain⟨as,h⟩:=aR.oV I sb rs rv
  obtain⟨o,ho,hc,n,hd⟩:=p
  exact⟨_ :: as,.list ho hc hd (by simpa using h)⟩
theorem aR.oV {pins:List (Addr×Obj)}{σ:St}{F H:Hp}{s:Shared}(I:Inv X pins σ H s) (sb:Sub F H):∀{vs:List V}{ds:List D}{us:List Value},aR F vs ds->Vals vs us->∃as,ReadsAll s.heap us (fC ds) as
 | _,_,_,.nil,r=>by cases r;exact⟨[],.nil⟩
 | _,_,_,.cons q qs,r=>by
  cases r with
  | cons r rs=>
   obtain⟨as,h⟩:=Rep.oV I sb q r
   obtain⟨bs,k⟩:=aR.oV I sb qs rs
   exact⟨as++bs,.cons h k⟩
end
theorem qL (hg:X.A.guards=some []) (hu:X.A.units+64 < cLine):gq X (.builtin "repr") (rP mL):=by
 intro pins s σ H xs us Q I r ⟨F,ds,w,sb,rs,hw,q⟩
 obtain⟨x,d,rfl,rfl,r1⟩:=lY (P:=fun _=>True) rs hw rfl (fun d _ _=>rfl)
 obtain⟨hok,rfl⟩:=bU (show(if Gn d then some (U.t (.str (toPy d).shown)) else none)=some w from hw)
 have fin:=q (.str (toPy d).shown) F H (iw.refl ..) sb (.str _)
 obtain⟨u,rfl,ru⟩:=vals1 r
 obtain⟨h1,h2,h3⟩:=hok
 have seq:∀a,x= .ref a->wpAny (model X.prog X.w) X.A (call (.builtin "repr") [u]) (EP X pins σ Q) X.xe s:=fun a e1=>by
  subst e1
  cases ru
  obtain⟨as,hr⟩:=Rep.oV I sb r1 (u:=.ref a) rfl
  exact repr_of_reads' hr h1 (fun z=>by rw[pK] at z;cases z) hg (by omega) (fun _ _ e=>e) (fun h' u tk hk=>⟨.str _,H,I.kept (t':=tk) hk,⟨u,rfl⟩,fin⟩) h3
 cases r1 with
 | bM=>cases ru;exact PySem.P.repr_of_none ⟨.str _,H,I.tok _,⟨_,rfl⟩,fin⟩
 | bl b=>cases ru;exact PySem.P.repr_of_bool ⟨.str _,H,I.tok _,⟨_,rfl⟩,fin⟩
 | int i=>obtain⟨t,rfl⟩:=ru;exact PySem.P.repr_of_int (by simpa[toPy,PyData.showable] using h1) ⟨.str _,H,I.tok _,⟨_,rfl⟩,fin⟩
 | str z=>obtain⟨t,rfl⟩:=ru;exact PySem.P.repr_of_str ⟨.str _,H,I.tok _,⟨_,rfl⟩,fin⟩ h3
 | tup e rs=>exact seq _ rfl
 | lst e rs=>exact seq _ rfl
end
theorem kj {X : Cx} {x y : Str} {scope : Scope} {c : Addr} {i : Nat} (clos : closureFor scope X.env = pure [(y, c)]) (mZ : ∀ z ∈ scope.names, z.2 ≠ .cell) (kind : scope.kind = .function) (names : ∀ z ∈ scope.names, z.2 = .local -> scope.names.lookup z.1 = some .local)
    (loc:scope.names.lookup x=some .local) (hc:X.env.cells.lookup y=some c) (only:∀z∈scope.names,z.2= .free->z.1=y) (ne:x≠y) (hN:X.N[i]? =some y) (vis:X.env.scope.names.lookup y=some .cell) (rel:(relabel scope X.env).names.lookup y=some .cell):
    i7 X x [y] [i] scope [(y,c)]:=by
  have look:∀n c',([(y,c)]:List (Str×Addr)).lookup n=some c'->n=y/\c'=c:=fun n c' h=>by
    rw[List.lookup_cons] at h
    cases e:n == y with
    | true=>rw[e] at h;cases h;exact⟨eq_of_beq e,rfl⟩
    | false=>rw[e] at h;cases h
  have self:([(y,c)]:List (Str×Addr)).lookup y=some c:=by rw[List.lookup_cons,beq_self_eq_true]
  refine⟨clos,mZ,kind,names,loc,fun n c' h=>?_,fun n h=>?_,?_,rfl,fun j n h=>?_,fun n h=>?_⟩
  . obtain⟨rfl,rfl⟩:=look n c' h
    exact hc
  . have key:n=y:=by
      have go:∀k,(k=NameKind.cell\/k=NameKind.free)->(relabel scope X.env).names.lookup n=some k->n=y:=fun k hk e=>by
        have m:=PySem.mem_of_lookup e
        unfold relabel at m
        obtain⟨⟨n',k'⟩,hm,q⟩:=List.mem_map.mp m
        by_cases hf:k'= .free
        . have h0:n'=y:=only _ hm hf
          have e1:n'=n:=by
            have h1:=congrArg Prod.fst q
            dsimp only at h1
            split at h1 <;> exact h1
          exact e1.symm.trans h0
        . have z:(k' == NameKind.free)=false:=by simpa using hf
          simp only[z,Bool.false_and] at q
          have q2:k'=k:=by
            have:=congrArg Prod.snd q
            simpa using this
          rcases hk with rfl | rfl
          . exact absurd q2 (mZ _ hm)
          . exact absurd q2 hf
      rcases h with h | h
      . exact go _ (.inl rfl) h
      . exact go _ (.inr rfl) h
    subst key
    exact⟨c,self⟩
  . simp[ne]
  . cases j with
    | zero=>cases h;exact⟨i,rfl,hN,.inr (.inl vis)⟩
    | succ j=>simp at h
  . have e:n=y:=by simpa using h
    subst e
    exact⟨.inl rel,⟨c,self⟩,by rw[vis];decide⟩
section
variable {X:Cx}{a b c e:Expr}{es:List Expr}{pos p p2 px:Pos}{x y:Str}{f:FM}{fa:Addr}{fd:FuncData}{ps:List Str}{k n:Nat}
theorem gP (a:List D) (o:MO) (h:cV o=false):hAppend a o=none:=by
 cases o with
 | lst ds=>cases h
 | dct k=>unfold hAppend;split <;> first | rfl | (rename_i e;cases e)
 | lU k=>unfold hAppend;split <;> first | rfl | (rename_i e;cases e)
 | ins C k=>unfold hAppend;split <;> first | rfl | (rename_i e;cases e)
end
noncomputable def aY:List D->Option (List Int)
 | []=>some []
 | .int b :: ds=>(aY ds).map fun bs=>b :: bs
 | _=>none
theorem m9 {F:Hp}:∀{vs:List V}{ds:List D}{bs:List Int},aR F vs ds->aY ds=some bs->vs=bs.map V.int
 | _,_,_,.nil,h=>by cases h;rfl
 | _,_,_,@aR.cons _ v d vs ds r rs,h=>by
  cases d <;> try (simp[aY] at h;done)
  obtain⟨bs,h1,h2⟩:=az (show(aY ds).map _=_ from h)
  subst h2
  rw[g8 r,m9 rs h1]
  rfl
section
variable {X:Cx}
end
noncomputable def i9 (val:Nat->Str) (i:Nat):List Str:=((List.range i).map val).foldl step_dedup []
theorem tW (val:Nat->Str) (i:Nat):i9 val (i+1)=step_dedup (i9 val i) (val i):=by
 unfold i9;rw[List.range_succ,List.map_append,List.foldl_append];rfl
theorem EB (val:Nat->Str) (i:Nat):(i9 val i).length<=i:=by
 have:=foldl_step_dedup_nil_length_le ((List.range i).map val)
 simpa[i9] using this
theorem HU (l:List Str) (v k:Str):(step_dedup l v).any (· == k)=(l.any (· == k) || decide (k=v)):=by
 unfold step_dedup
 split
 ·rename_i h
  by_cases e:k=v
  ·subst e;simp[h]
  ·simp[e]
 ·rw[List.any_append]
  have:(List.any [v] fun x=>x == k)=decide (k=v):=by
   by_cases e:k=v
   ·subst e;simp
   ·simp[e];exact fun z=>e z.symm
  rw[this]
theorem HV (l:List Str) (v:Str):(step_dedup l v).length=if l.any (· == v) then l.length else l.length+1:=by
 unfold step_dedup;split <;> simp
section
variable {prog:Program}{w:World}{A:Around}{R:Result->Shared->Prop}{I:Addr}{fp wr:List Addr}{G:Array GenState->Array GenState->Prop}{n:Nat}{P:Nat->Value->Prop}{St:Nat->Shared->Prop}
theorem Az (W:WalksS prog w A.in1 I fp wr G n P St) (S:Addr) (hSf:S∉fp) (val:Nat->Str) (hval:∀i v,P i v->∃t,v= .str (val i) t) (hb:n+1 < scanBound):
  ∀(k i:Nat) (s:Shared),n - i=k->i<=n->St i s->s.heap.SetOf (strKind prog w) S (fun z=>(i9 val i).any (· == z)) (i9 val i).length->
   (∀s',Moved (S :: wr) G s s'->s'.heap.SetOf (strKind prog w) S (fun z=>(i9 val n).any (· == z)) (i9 val n).length->R (.ok (.ret .none)) s')->
   codeAny (model prog w) A (.builtin "set.update.loop" ⟨[.ref S,.ref I],[]⟩) R s:=by
 have TL:S∉wr:=fun h=>hSf (W.sub _ h)
 have hsub:∀b∈wr,b∈S :: wr:=fun b hb=>List.mem_cons_of_mem _ hb
 have keep:∀{i:Nat}{s s':Shared},Moved wr G s s'->s.heap.SetOf (strKind prog w) S (fun z=>(i9 val i).any (· == z)) (i9 val i).length->s'.heap.SetOf (strKind prog w) S (fun z=>(i9 val i).any (· == z)) (i9 val i).length:=
  fun hm ⟨o,es,ep,t,ho,rest⟩=>⟨o,es,ep,t,hm.heap S _ TL ho,rest⟩
 intro k
 induction k with
 | zero=>
  intro i s hk hi hst hS hR
  obtain rfl:i=n:=by omega
  refine codeAny_builtin F.entry_set_update_loop ?_
  rw[Around.under_plainId F.plain_set_update_loop _]
  show wpAny _ A.in1 (pyNext (.ref I) >>= _) _ _ s
  refine wpAny_bind (W.done s _ _ hst fun s' hm=>?_)
  show wpAny _ A.in1 (ret Value.none) _ _ s'
  exact wpAny_pure (hR s' (hm.mono hsub) (keep hm hS))
 | succ k ih=>
  intro i s hk hi hst hS hR
  have hlt:i < n:=by omega
  refine codeAny_builtin F.entry_set_update_loop ?_
  rw[Around.under_plainId F.plain_set_update_loop _]
  show wpAny _ A.in1 (pyNext (.ref I) >>= _) _ _ s
  refine wpAny_bind (W.item i s _ _ hlt hst fun v s' hP Ob hm=>?_)
  obtain⟨t,rfl⟩:=hval i v hP
  have hS':=keep hm hS
  show wpAny _ A.in1 (holding [Value.str (val i) t] (setAdd S (.str (val i) t)) >>= _) _ _ s'
  refine wpAny_bind (wpAny_holding ?_)
  unfold setAdd
  refine wpAny_holding ?_
  have his:(strKind prog w).is (val i) (.str (val i) t)=true:=by show Value.isStrOf (val i) (.str (val i) t)=true;simp[Value.isStrOf]
  refine wpAny_bind ((strKind prog w).pyHash (k:=val i) his ?_)
  have hroom:(i9 val i).length+1 < scanBound:=by have:=EB val i;omega
  refine wpAny_setAddHashed_of (knd:=strKind prog w) his rfl hS' hroom fun h' hsb DM=>?_
  have TM:h'.SetOf (strKind prog w) S (fun z=>(i9 val (i+1)).any (· == z)) (i9 val (i+1)).length:=
   SetOf_congr DM (fun z=>by rw[tW,HU]) (by rw[tW,HV])
  refine wpAny_pure ⟨plainId_quiet F.plain_set_update_loop _,ih (i+1) _ (by omega) hlt (W.frame _ s' _ _ Ob (Nat.le_succ _) fun b hb o e=>?_) TM fun s'' Oc Od=>?_⟩
  ·rw[hsb.2 b (fun h:b=S=>hSf (by rw[<-h];exact hb))];exact e
  ·refine hR s'' (Moved.trans W.gtrans ((hm.mono hsub).then_heap (Nat.le_succ _) fun b o hb e=>?_) Oc) Od
   rw[hsb.2 b (fun h:b=S=>hb (by rw[h];exact List.mem_cons_self))];exact e
end
section
variable {prog:Program}{w:World}{A:Around}{E:Value->Shared->Prop}{s:Shared}
noncomputable def d9 (led:Bool):Obj:={cls:=.type "set",dict:=none,data:=.set #[] 0 (.fresh 0 0 led)}
theorem rZ (a:Value){Q₁:Value->Shared->Prop}(h:∀led:Bool,Q₁ (.ref s.heap.objs.size) {s with heap:=s.heap.push (d9 led)}):
  codeAny (model prog w) A (.call (.builtin "set.__new__") ⟨[.type "set",a],[]⟩) (wants Q₁ E) s:=code_set_new_1 a h
set_option maxHeartbeats 3200000 in
theorem qM {l : Addr} {its : List Value} {zs : List Str} {Q : Value -> Shared -> Prop} (hh : A.handled = none) (hl : s.heap.IsList l its.toArray) (hi : ∀ (i : Nat) (v : Value), its[i]? = some v -> ∃ t, v = Value.str (zs.getD i ⟨#[]⟩) t) (hb : its.length + 1 < scanBound)
    (h:∀(h':Heap) (tk:Nat),h'.SetOf (strKind prog w) s.heap.objs.size (fun z=>(i9 (fun i=>zs.getD i ⟨#[]⟩) its.length).any (· == z)) (i9 (fun i=>zs.getD i ⟨#[]⟩) its.length).length->
      (∀b o,b < s.heap.objs.size->s.heap.get? b=some o->h'.get? b=some o)->Q (.ref s.heap.objs.size) {s with heap:=h',toks:=tk}):
    wpAny (model prog w) A (call (.type "set") [.ref l]) Q E s:=by
  obtain⟨c,tl,TN⟩:=F.called_set.mro
  have hmade:=F.called_set.made
  have hsub:=F.called_set.sub
  refine wpAny_call (codeAny_of_tree ?_)
  show wpAny _ _ (callAny (.type "set") _) _ _ _
  refine wpAny_pure ⟨Code.quiet_builtin _ (by decide +kernel),codeAny_builtin F.entry_type_call ?_⟩
  rw[Around.under_plain (weight_type_call_type "set" [.ref l] []) rfl]
  have h1:=F.called_set.notType
  have h2:=F.called_set.canCreate
  have hct:=F.typeCall_set_1 (.ref l)
  repeat (any_goals (first | assumption | wp_step))
  refine codeAny_mono (rZ (.ref l) (E:=E) (Q₁:=fun obj s₁=>∃led:Bool,obj= .ref s.heap.objs.size/\s₁={s with heap:=s.heap.push (d9 led)}) fun led=>⟨led,rfl,rfl⟩) fun r s₁ hr=>?_
  cases r with
  | error e=>exact hr
  | ok fl =>
    cases fl with
    | ret obj =>
      obtain⟨led,rfl,rfl⟩:=hr
      have hS:(s.heap.push (d9 led)).get? s.heap.objs.size=some (d9 led):=Heap.get?_push_size _ rfl
      have hT:Shared.TypeIs {s with heap:=s.heap.push (d9 led)} (.ref s.heap.objs.size) "set":=⟨_,hS,rfl⟩
      have hli:=F.called_set.init.lookup
      have hbi:=F.called_set.init.bind (.ref s.heap.objs.size)
      repeat (any_goals (first | assumption | wp_step))
      refine codeAny_mono (codeAny_call_builtin (R:=wants (fun r s₂=>r= .none/\∃h' tk,s₂={s with heap:=h',toks:=tk}/\
          h'.SetOf (strKind prog w) s.heap.objs.size (fun z=>(i9 (fun i=>zs.getD i ⟨#[]⟩) its.length).any (· == z)) (i9 (fun i=>zs.getD i ⟨#[]⟩) its.length).length/\
          (∀b o,b < s.heap.objs.size->s.heap.get? b=some o->h'.get? b=some o)) E) F.called_set.init.plain F.entry_set_init (check_set_init_1 hT ?_)) fun r₂ s₂ Cw=>?_
      . obtain⟨ol,Rz,hcl,nl,hdl⟩:=hl
        obtain⟨TQ,Lb,RA,HW⟩:=ol
        simp only at hcl hdl
        subst hcl;subst hdl
        have Oe:(s.heap.push (d9 led)).get? l=some {cls:=.type "list",dict:=Lb,data:=.seq its.toArray nl,slots:=HW}:=Heap.get?_push_of_some _ Rz
        have TR:=F.sub_list_set
        have TU:=F.sub_list_frozenset
        have hne:(Value.type "list" == Value.type "dict")=false:=by decide
        have hl1:(s.heap.push (d9 led)).IsList l its.toArray:=⟨_,Oe,rfl,nl,rfl⟩
        unfold Builtin.«set.__init__» noKeywords Builtin.Frozenset.updateFrom
        generalize TV:pyIter=PI
        wp_walk
        subst TV
        refine wpAny_pyIter_list hl1 ?_
        refine wpAny_bind (wpAny_runValue ?_)
        have hlS:l < s.heap.objs.size:=Heap.lt_size Rz
        have TX:A.in1.in1.in1.handled=none:=by simp[hh]
        have Of:l≠(s.heap.push (d9 led)).objs.size:=by
          rw[Heap.size_push];exact Nat.ne_of_lt (Nat.lt_succ_of_lt hlS)
        have hSf:s.heap.objs.size∉[(s.heap.push (d9 led)).objs.size,l]:=by
          rw[Heap.size_push];simp only[List.mem_cons,List.mem_singleton,List.not_mem_nil,or_false,not_or]
          exact⟨Nat.ne_of_lt (Nat.lt_succ_self _),Nat.ne_of_gt hlS⟩
        have hb':its.toArray.size+1 < scanBound:=by rw[List.size_toArray];exact hb
        have hval:∀(i:Nat) (v:Value),its.toArray[i]? =some v->∃t,v= .str ((fun i=>zs.getD i ⟨#[]⟩) i) t:=fun i v hv=>hi i v (by simpa using hv)
        refine Az ((Walks.list TX _ l Of its.toArray).toS) s.heap.objs.size
          hSf (fun i=>zs.getD i ⟨#[]⟩) hval hb' (its.toArray.size - 0) 0 _ (by omega) (Nat.zero_le _)
          ⟨⟨_,Heap.get?_push_size _ rfl,rfl,rfl⟩,(hl1.push _)⟩ ?Cv ?hR
        case Cv=>
          have hget:((s.heap.push (d9 led)).push {cls:=.type "list_iterator",data:=.fields #[.ref l,.int 0 0]}).get? s.heap.objs.size=some (d9 led):=Heap.get?_push_of_some _ hS
          exact SetOf_congr ((setObjOf_fresh (knd:=strKind prog w) led).setOf hget (by unfold scanBound;omega)) (fun _=>rfl) rfl
        case hR=>
          intro s' hm hS'
          rw[List.size_toArray] at hS'
          obtain⟨h',g',d',tk',os'⟩:=s'
          have eg:g'=s.gens:=hm.gens
          have ed:d'=s.drawn:=hm.drawn
          have eo:os'=s.os:=hm.os
          subst eg;subst ed;subst eo
          show wpAny _ _ _ _ _ _
          refine wpAny_pure ?_
          show wpAny _ _ (ret Value.none) _ _ _
          refine wpAny_pure ⟨rfl,h',tk',rfl,hS',fun b o hb e=>?_⟩
          have hb1:b≠s.heap.objs.size:=Nat.ne_of_lt hb
          have hb2:b≠(s.heap.push (d9 led)).objs.size:=by
            rw[Heap.size_push];exact Nat.ne_of_lt (Nat.lt_succ_of_lt hb)
          exact hm.heap b o (by simp only[List.mem_cons,List.mem_singleton,List.not_mem_nil,or_false,not_or];exact⟨hb1,hb2⟩) (Heap.get?_push_of_some _ (Heap.get?_push_of_some _ e))
      . cases r₂ with
        | error e=>exact Cw
        | ok Lc=>
          cases Lc with
          | ret r=>
            obtain⟨rfl,h',tk,rfl,hS',hk'⟩:=Cw
            repeat (any_goals (first | assumption | wp_step))
            exact h _ _ hS' hk'
          | _=>exact Cw.elim
    | _=>exact hr.elim
end
noncomputable def mO:List D->Option (List Str)
 | []=>some []
 | .str b :: ds=>(mO ds).map fun bs=>b :: bs
 | _=>none
theorem qN {F:Hp}:∀{vs:List V}{ds:List D}{bs:List Str},aR F vs ds->mO ds=some bs->vs=bs.map V.str
 | _,_,_,.nil,h=>by cases h;rfl
 | _,_,_,@aR.cons _ v d vs ds r rs,h=>by
  cases d <;> try (simp[mO] at h;done)
  obtain⟨bs,h1,h2⟩:=az (show(mO ds).map _=_ from h)
  subst h2
  cases r
  rw[qN rs h1]
  rfl
theorem EC {bs:List Str}{its:List Value}(r:Vals (bs.map V.str) its){i:Nat}{v:Value}(h:its[i]? =some v):∃t,v=Value.str (bs.getD i ⟨#[]⟩) t:=by
 induction bs generalizing its i with
 | nil=>cases r;cases h
 | cons b bs ih=>
  cases r with
  | cons r rs=>
   obtain⟨t,rfl⟩:=r
   cases i with
   | zero=>cases h;exact⟨t,rfl⟩
   | succ i=>exact ih rs h
noncomputable def mh:List D->Option U
 | [.lst ds]=>(mO ds).bind fun zs=>if zs.length<=1000 then some (.t (.int (i9 (fun i=>zs.getD i ⟨#[]⟩) zs.length).length)) else none
 | _=>none
theorem v8 {d:D}{u:U}(h:mh [d]=some u):∃ds zs,d= .lst ds/\mO ds=some zs/\zs.length<=1000/\u= .t (.int (i9 (fun i=>zs.getD i ⟨#[]⟩) zs.length).length):=by
 cases d with
 | lst ds=>
  obtain⟨zs,h5,h6⟩:=ah (show(mO ds).bind _=some u from h)
  split at h6
  ·rename_i hl;cases h6;exact⟨ds,zs,rfl,h5,hl,rfl⟩
  ·cases h6
 | _=>cases h
section
variable {X:Cx}{a:Expr}{pos p p1 p2:Pos}{ga:GD}
theorem AA (hc:X.calm=true) (Og:Gl X "len") (hm1:X.mg "len" =none) (Ez:Gl X "set") (hm2:X.mg "set" =none) (ha:JD X a ga)
  (hs1:starEach [.Call (.Name "set" p1) [a] [] p2] X.env=(false,eval (.Call (.Name "set" p1) [a] [] p2) X.env) :: starEach [] X.env:=by rfl)
  (hs2:starEach [a] X.env=(false,eval a X.env) :: starEach [] X.env:=by rfl):
  JE X (.Call (.Name "len" p) [.Call (.Name "set" p1) [a] [] p2] [] pos) (eP mh (aa ga aA)):=⟨fun B=>by
 rintro pins s σ H Q I ⟨S,F,u,S',R,hg,q⟩
 obtain⟨⟨dl,S1⟩,h1,hg⟩:=ah hg
 obtain⟨w',h2,hg⟩:=az hg
 cases hg
 obtain⟨⟨d,S2⟩,h3,h1⟩:=ah h1
 obtain⟨⟨dr,S3⟩,h4,h1⟩:=az h1
 cases h4
 cases h1
 obtain⟨ds,zs,rfl,h5,hlen,rfl⟩:=v8 h2
 refine wpAny_Call_Name_kw (jg I Og hm1 PySem.boot_len ?_ (by decide) (by decide))
 refine PyProof.Rows.callWith_builtin1 ?_ hs1 rfl
 rw[hs1]
 show wpAny _ _ (spliced ((false,eval (.Call (.Name "set" p1) [a] [] p2) X.env) :: backTo pos (starEach [] X.env))) _ _ s
 refine Calls.spliced_cons ?_
 refine wpAny_Call_Name_kw (jg I Ez hm2 PyProof.Rows.Boot.set ?_ (by decide) (by decide))
 refine PyProof.Rows.callWith_type1 (gg (jK (ha.h B) oN hs2 p2 pins s σ H (fun vs H1=>∃v F1,vs=[v]/\Rel X.K B S2 σ F1 H1/\Step S S2 σ F H F1 H1/\Rep F1 v (.lst ds)) I ⟨S,F,_,S2,R,h3,fun v F1 H1 R1 st1 r1=>⟨v,F1,rfl,R1,st1,r1⟩⟩) ?_) hs2 rfl
 rintro us s1 ⟨vs,H1,I1,r1,v,F1,rfl,R1,st1,rd⟩
 obtain⟨a',vs',rfl,fa,hla,mJ⟩:=R1.sub.iy rd
 obtain rfl:=qN mJ h5
 obtain⟨u',rfl,ru⟩:=vals1 r1
 cases ru
 obtain⟨its,rv,pl,hz⟩:=I1.list (.inl hla)
 have hil:its.length=zs.length:=by have:=rv.length;simpa using this.symm
 refine qM (zs:=zs) (I1.ok.hd hc) pl.isList (fun i v hv=>EC rv hv) (by rw[hil];unfold scanBound;omega) fun h' tk hS hk=>?_
 rw[hil] at hS
 refine Calls.spliced_nil ?_
 obtain⟨o,es,ep,t,ho,hex,hd,hel,hmem,hbd,hf,hn⟩:=hS
 refine call_len_set ho hex hd hf (by unfold scanBound at hbd;omega) ?_
 rw[hn]
 exact⟨.int _,H1,I1.kept (t':=tk+1+1) fun b o e=>hk b o (Heap.lt_size e) e,⟨_,rfl⟩,q (.int _) F1 H1 R1 st1 (.int _)⟩⟩
end
section
variable {X:Cx}{a:Expr}{x:Str}{px pos:Pos}{ga:GD}
end
noncomputable def look:U->Option D
 | .t d=>some d
 | .m (.lst ds)=>some (.lst ds)
 | .b (.lst ds)=>some (.lst ds)
 | _=>none
section
variable {X:Cx}{x y:Str}{p px py pos:Pos}{f:List D->Option U}
end
section
variable (S:SS) (i:Nat) (g:GD)
end
section
variable {X:Cx}{a b c e:Expr}{es:List Expr}{pos p p2 px:Pos}{x y:Str}
noncomputable def Ld:R2:=fun x y H Q=>∃l k xs,x= .ref l/\y= .int k/\Rd H l (.lst xs)/\-(2 ^ 63)<=k/\k < 2 ^ 63/\xs.length * k.toNat<=sizeLine/\
 ∀p,H p=none->Q (.ref p) (upd H p (.lst (List.replicate k.toNat xs).flatten))
theorem ED:qu X (binaryOp .Mult) Ld:=by
 intro pins s σ H x y v u Q I rx ry h
 obtain⟨l,k,xs,rfl,rfl,hH,h1,h2,hz,q⟩:=h
 cases rx
 obtain⟨t,rfl⟩:=ry
 obtain⟨z,its,n,r,hl,e⟩:=hH.vJ I
 have hlen:its.toArray.size * k.toNat<=sizeLine:=by rw[List.size_toArray,<-hl];exact hz
 have hcap:¬its.toArray.size * k.toNat > (2 ^ 63 - 1) / 8:=by
  have:(sizeLine:Nat)<=(2 ^ 63 - 1) / 8:=by decide
  omega
 have hfit:¬(!Builtin.List.listFitsIndex k)=true:=by
  rw[fitsIndex_both h1 h2]
  exact Bool.false_ne_true
 have Cy:¬Builtin.List.listTooLong (its.toArray.size * k.toNat)=true:=by
  rw[vK hlen]
  exact Bool.false_ne_true
 have hnew:List.foldl (fun x1 x2=>x1++x2) #[] (List.replicate (if its.toArray.isEmpty=true then 0 else k.toNat) its.toArray)=(List.replicate k.toNat its).flatten.toArray:=by
  have f0:∀m:Nat,List.foldl (fun x1 x2=>x1++x2) #[] (List.replicate m its.toArray)=(List.replicate m its).flatten.toArray:=fun m=>by
   have:=foldl_rep its m []
   rw[List.nil_append] at this
   exact this
  rw[f0]
  cases its with
  | nil=>simp
  | cons a r'=>rw[if_neg (by simp)]
 refine wpAny_binaryOp_repeat_ref (T:="list") (U:="int") (by decide) ⟨_,e,rfl⟩ (fun s'=>typeIs_int s' k t) noFill_list_mul F.fills_int_mul F.slot_int_rmul repeat_list F.slot_int_index.lookup
  (call_meets F.slot_int_rmul (typeIs_int s k t) F.entry_int_rmul (F.args_int_rmul_2 _ _) (int___rmul___int_list k t l its.toArray n)
   ⟨e,rfl,⟨_,e,rfl⟩,call_meets F.slot_list_mul ⟨_,e,rfl⟩ F.entry_list_mul (F.args_list_mul_2 _ _) (AutoListH.list___mul___list_int_3 l its.toArray n k t hfit hcap Cy) ⟨e,?_⟩⟩)
 rw[hnew]
 exact⟨.ref _,_,I.KS (t':=s.toks) (r.rep k.toNat) (by rw[len_rep,Nat.mul_comm];exact hz),rfl,q _ I.fresh⟩
theorem aR.rep {F:Hp}{vs:List V}{ds:List D}(r:aR F vs ds):∀k:Nat,aR F (List.replicate k vs).flatten (List.replicate k ds).flatten
 | 0=>.nil
 | k+1=>by rw[List.replicate_succ,List.replicate_succ,List.flatten_cons,List.flatten_cons];exact r.append (aR.rep r k)
noncomputable def v9:List D->Option U
 | [.lst ds,.int k]=>if 0<=k/\k.toNat<=100000/\ds.length * k.toNat<=100000 then some (.m (.lst (List.replicate k.toNat ds).flatten)) else none
 | _=>none
theorem EE:uI X (binaryOp .Mult) v9:=by
 intro pins s σ H x y v u Q I rx ry ⟨F,ds,w,sb,rs,hw,q⟩
 obtain⟨d,e,rfl,r1,r2⟩:=nN rs
 cases d <;> cases e <;> try (simp[v9] at hw;done)
 rename_i ds k
 obtain⟨⟨h1,h2,h3⟩,rfl⟩:=bU hw
 obtain⟨a,vs,rfl,fa,ha,mJ⟩:=sb.iy r1
 have hy:=g8 r2
 subst hy
 exact ED pins s σ H _ _ v u Q I rx ry ⟨a,k,vs,rfl,rfl,ha,by omega,by omega,by rw[mJ.length];exact Nat.le_trans h3 (by decide),
  fun p hp=>q _ F _ (iw.obj hp _) (sb.same (iw.obj (F:=F) hp _).same) ⟨p,rfl,hp,sb.fresh hp,_,aK,mJ.rep _⟩⟩
noncomputable def EF:List D->Option U
 | [.int i]=>some (.t (.int i))
 | [.bl k]=>some (.t (.int (if k then 1 else 0)))
 | _=>none
theorem AB:gq X (.type "int") (rP EF):=by
 intro pins s σ H xs us Q I r ⟨F,ds,w,sb,rs,hw,q⟩
 obtain⟨x,d,rfl,rfl,r1⟩:=lY (P:=fun _=>True) rs hw rfl (fun d _ _=>by cases d <;> rfl)
 cases d <;> try (simp[EF] at hw;done)
 ·cases hw
  have hx:=m5 r1
  subst hx
  exact sX pins s σ H _ us Q I r (.inr ⟨_,rfl,q _ F H (iw.refl ..) sb (.int _)⟩)
 ·cases hw
  have hx:=g8 r1
  subst hx
  exact sX pins s σ H _ us Q I r (.inl ⟨_,rfl,q _ F H (iw.refl ..) sb (.int _)⟩)
noncomputable def wc:V->List V->Hp->VK->Prop:=fun x vs H Q=>∃l b xs zs,x= .ref l/\vs=[.ref b]/\H l=some (.lst xs)/\Rd H b (.lst zs)/\xs.length+zs.length<=sizeLine/\Q .bM (upd H l (.lst (xs++zs)))
theorem xZ:Mk X "list.extend" wc:=by
 intro pins s σ H x vs v us Q I rx rv h
 obtain⟨l,b,xs,zs,rfl,rfl,hH,hB,hz,q⟩:=h
 cases rx
 obtain⟨u,rfl,ru⟩:=rv.one
 cases ru
 obtain⟨z,its,n,r,hl,e⟩:=I.vJ hH
 obtain⟨z2,its2,n2,r2,hl2,e2⟩:=hB.vJ I
 have hsz:its.toArray.size+its2.toArray.size<=sizeLine:=by rw[List.size_toArray,List.size_toArray];omega
 have Cy:¬(!its.toArray.isEmpty && Builtin.List.listTooLong (its.toArray.size+its2.toArray.size))=true:=by
  rw[vK hsz,Bool.and_false]
  exact Bool.false_ne_true
 refine call_meets F.slot_list_extend ⟨_,e,rfl⟩ F.entry_list_extend (F.args_list_extend_2 _ _)
  (AutoSeq1.list_extend_list_list_0 l its.toArray n b its2.toArray n2 Cy (by rw[List.size_toArray];omega) (by omega)) ⟨e,e2,?_⟩
 refine⟨.bM,_,I.KR (its':=its++its2) hH e (by simp) (r.append r2) ?_,rfl,q⟩
 rw[List.length_append]
 omega
noncomputable def jN:List D->MO->Option (D×MO)
 | [.lst es],.lst ds=>if ds.length+es.length<=100000 then some (.bM,.lst (ds++es)) else none
 | _,_=>none
theorem AD:Mu wc jN:=by
 intro F H a vs xs ds args res o' sb hH fa rs rx hw Q q
 unfold jN at hw
 split at hw
 ·rename_i es ds' e2
  cases e2
  obtain⟨hl,hw⟩:=bU hw
  cases hw
  cases rx with
  | cons r rr=>
   cases rr
   obtain⟨b,zs,rfl,fb,hb,Et⟩:=sb.iy r
   exact⟨a,b,vs,zs,rfl,rfl,hH,hb,by rw[rs.length,Et.length];exact Nat.le_trans hl (by decide),q .bM _ .bM ⟨_,aK,rs.append Et⟩⟩
 ·cases hw
theorem AE (a:List D) (o:MO) (h:cV o=false):jN a o=none:=by
 cases o with
 | lst ds=>cases h
 | dct k=>unfold jN;split <;> first | rfl | (rename_i e;cases e)
 | lU k=>unfold jN;split <;> first | rfl | (rename_i e;cases e)
 | ins C k=>unfold jN;split <;> first | rfl | (rename_i e;cases e)
noncomputable def nT:D->Bool
 | .bM=>true
 | _=>false
noncomputable def Cz:List D->Option U
 | [d,.bM]=>some (.t (.bl (nT d)))
 | _=>none
theorem EG:uI X (compareOp .Is) Cz:=by
 intro pins s σ H x y v u Q I rx ry ⟨F,ds,w,sb,rs,hw,q⟩
 obtain⟨d,e,rfl,r1,r2⟩:=nN rs
 cases e <;> try (cases d <;> simp[Cz] at hw;done)
 cases hw
 cases r2
 refine Hj pins s σ H _ _ v u Q I rx ry ⟨rfl,?_⟩
 have k:Rep F (V.bl (decide (x= .bM))) (.bl (nT d)):=by
  cases r1 <;> exact .bl _
 exact q _ F H (iw.refl ..) sb k
noncomputable def EH (f:Int->Int->Int) (i:Nat) (g:GD):GS:=fun S=>match S[i]? with
 | some (some (.t (.int n)))=>(g S).bind fun p=>match p.1 with
  | .int m=>(mD i (.t (.int (f n m))) p.2).map .nx
  | _=>none
 | _=>none
theorem HX {i:Nat}{pos':Pos}{op:Operator}{f:Int->Int->Int}{g:GD}(ho:Nm X op (Rh f)) (hN:X.N.Nodup) (hi:X.N[i]? =some x) (hx:Loc X.env.scope x) (he:JD X e g)
  (hf:X.fn x=true\/X.env.scope.names.lookup x=some .local:=by first | exact .inl rfl | exact .inr rfl | assumption):JS X (.AugAssign (.Name x pos') op e pos) (EH f i g):=
 ⟨fun B=>(G1 hN hi hx (he.h B) ho hf).imp fun D σ H ⟨S,F,o,R,h,k⟩=>by
 unfold EH at h
 split at h
 ·rename_i n hS
  obtain⟨⟨d,S1⟩,h1,h⟩:=ah h
  dsimp only at h
  split at h
  ·rename_i m
   obtain⟨S2,h2,h⟩:=az h
   subst h
   obtain⟨v,k1,k2⟩:=R.rep i _ hS
   have hv:v= .int n:=g8 k2
   subst hv
   refine⟨_,k1,S,F,_,S1,R,h1,fun y F1 H1 R1 st1 r1=>⟨n,m,rfl,g8 r1,?_⟩⟩
   exact k _ F1 H1 (R1.put h2 (.int _)) st1.ext.le
  ·cases h
 ·cases h⟩
theorem jx {x : Str} {cy : List Str} {cap : List Nat} {scope : Scope} {cl : List (Str × Addr)} (clos : closureFor scope X.env = pure cl) (mZ : ∀ z ∈ scope.names, z.2 ≠ .cell) (kind : scope.kind = .function) (names : ∀ z ∈ scope.names, z.2 = .local -> scope.names.lookup z.1 = some .local)
    (loc:scope.names.lookup x=some .local) (hc:cl.map (fun p=>X.env.cells.lookup p.1)=cl.map (fun p=>some p.2)) (only:∀z∈scope.names,z.2= .free->z.1∈cy) (hcl:cl.map (·.1)=cy.reverse\/cl.map (·.1)=cy) (nd:(x :: cy).Nodup)
    (slot:cap.map (fun i=>X.N[i]?)=cy.map some) (vis:cy.map (fun n=>X.env.scope.names.lookup n)=cy.map fun _=>some .cell) (rel:cy.map (fun n=>(relabel scope X.env).names.lookup n)=cy.map fun _=>some .cell):
    i7 X x cy cap scope cl:=by
  have all:∀{α β:Type}{f g:α->β}{l:List α},l.map f=l.map g->∀a∈l,f a=g a:=fun {α β f g l} h=>by
    induction l with
    | nil=>intro a m;cases m
    | cons b r ih=>
      intro a m
      rw[List.map_cons,List.map_cons] at h
      injection h with h1 h2
      rcases List.mem_cons.mp m with z | z
      . rw[z];exact h1
      . exact ih h2 a z
  have Le:∀n,n∈cy->∃c,cl.lookup n=some c:=fun n hn=>lookup_some (hcl.elim (fun z=>by rw[z];exact List.mem_reverse.mpr hn) fun z=>by rw[z];exact hn)
  have len:cap.length=cy.length:=by have:=congrArg List.length slot;simpa using this
  refine⟨clos,mZ,kind,names,loc,fun n c h=>all hc (n,c) (PySem.mem_of_lookup h),fun n h=>?_,nd,len,fun j n h=>?_,fun n h=>⟨.inl (all rel n h),Le n h,by rw[all vis n h];decide⟩⟩
  . refine Le n ?_
    have go:∀k,(k=NameKind.cell\/k=NameKind.free)->(relabel scope X.env).names.lookup n=some k->n∈cy:=fun k hk e=>by
      have m:=PySem.mem_of_lookup e
      unfold relabel at m
      obtain⟨⟨n',k'⟩,hm,q⟩:=List.mem_map.mp m
      by_cases hf:k'= .free
      . have h0:n'∈cy:=only _ hm hf
        have e1:n'=n:=by
          have h1:=congrArg Prod.fst q
          dsimp only at h1
          split at h1 <;> exact h1
        rw[<-e1]
        exact h0
      . have z:(k' == NameKind.free)=false:=by simpa using hf
        simp only[z,Bool.false_and] at q
        have q2:k'=k:=by
          have:=congrArg Prod.snd q
          simpa using this
        rcases hk with rfl | rfl
        . exact absurd q2 (mZ _ hm)
        . exact absurd q2 hf
    rcases h with h | h
    . exact go _ (.inl rfl) h
    . exact go _ (.inr rfl) h
  . have e:=congrArg (fun l=>l[j]?) slot
    simp only[List.getElem?_map,h,Option.map_some] at e
    cases q:cap[j]? with
    | none=>rw[q] at e;cases e
    | some i=>
      rw[q] at e
      exact⟨i,rfl,Option.some.inj e,.inr (.inl (all vis n (List.mem_of_getElem? h)))⟩
end
open AutoSeq1 (wpAny_loadPart')
noncomputable def nF (k:Bool) (h:Heap) (a:Addr) (its:Array Value):Prop:=match k with
 | true=>h.IsList a its
 | false=>h.IsTuple a its
noncomputable def kQ (k:Bool) (h:Heap) (it a:Addr) (i:Nat):Prop:=match k with
 | true=>h.IsListIter it a i
 | false=>h.IsTupleIter it a i
noncomputable def TY:Bool->String
 | true=>"list_iterator"
 | false=>"tuple_iterator"
noncomputable def Bl (k:Bool) (a:Addr):Obj:={cls:=.type (TY k),data:=.fields #[.ref a,.int 0 0]}
theorem nF.at {k:Bool}{h h':Heap}{a:Addr}{its:Array Value}(x:nF k h a its) (g:∀o,h.get? a=some o->h'.get? a=some o):nF k h' a its:=by
 cases k <;> exact let⟨o,ho,r⟩:=x;⟨o,g o ho,r⟩
theorem kQ.at {k:Bool}{h h':Heap}{it a:Addr}{i:Nat}(x:kQ k h it a i) (g:∀o,h.get? it=some o->h'.get? it=some o):kQ k h' it a i:=by
 cases k <;> exact let⟨o,ho,r⟩:=x;⟨o,g o ho,r⟩
theorem kQ.obj {k:Bool}{h:Heap}{it a:Addr}{i:Nat}(x:kQ k h it a i):∃o,h.get? it=some o/\∀v,o.data≠.cell v:=by
 cases k <;> exact let⟨o,ho,_,r⟩:=x;⟨o,ho,fun v z=>by rw[r] at z;cases z⟩
theorem kQ.new (k:Bool) (h:Heap) (a:Addr):kQ k (h.push (Bl k a)) h.objs.size a 0:=by
 cases k <;> exact⟨_,Heap.get?_push_size _ rfl,rfl,rfl⟩
section
variable {prog:Program}{w:World}{A:Around}{E:Value->Shared->Prop}{s:Shared}
theorem Gp {k:Bool}{a:Addr}{its:Array Value}{Q:Value->Shared->Prop}(h:nF k s.heap a its) (q:Q (.ref s.heap.objs.size) {s with heap:=s.heap.push (Bl k a)}):wpAny (model prog w) A (pyIter (.ref a)) Q E s:=by
 cases k with
 | true=>exact wpAny_pyIter_list h q
 | false=>exact wpAny_pyIter_tuple h q
theorem EI {ad t:Addr}{n:Nat}{vals:Array Value}{y:Value}{Q:Value->Shared->Prop}(st:s.heap.IsTupleIter ad t n) (hv:s.heap.IsTuple t vals) (hy:vals[n]? =some y)
  (q:∀h',h'.IsTupleIter ad t (n+1)->Heap.SameBut ad s.heap h'->Q y {s with heap:=h'}):wpAny (model prog w) A (Builtin.SmallTypes.nextOf (.ref ad)) Q E s:=by
 obtain⟨ob,hob,hcl,hdat⟩:=id st
 obtain⟨TZ,HY,_,nn,CA⟩:=hv
 unfold Builtin.SmallTypes.nextOf
 refine wpAny_bind (wpAny_callSpecial?_slot (name:=Str.ofString "__next__") st.typeIs F.slot_tuple_iterator_next (wpAny_call_entry F.slot_tuple_iterator_next st.typeIs F.entry_tuple_iterator_next ?_ (F.args_tuple_iterator_next_1 _)))
 show wpAny _ _ (field (.ref ad) 0 >>= _) _ _ s
 refine wpAny_bind (wpAny_field hob hdat (x:=.ref t) rfl ?_)
 show wpAny _ _ (if(Value.ref t == Value.none)=true then _ else _) _ _ s;rw[if_neg (show ¬((Value.ref t == Value.none)=true) from Bool.false_ne_true)]
 show wpAny _ _ (field (.ref ad) 1 >>= _) _ _ s
 refine wpAny_bind (wpAny_field hob hdat (x:=.int n 0) rfl ?_)
 show wpAny _ _ (seqItems? (.ref t) >>= _) _ _ s;refine wpAny_bind (wpAny_seqItems HY CA ?_)
 simp only[Int.toNat_natCast,hy]
 refine wpAny_bind (wpAny_setField hob hdat (by simp) (wpAny_pure ⟨y,rfl,wpAny_pure (q _ ?_ (Heap.SameBut.update ..))⟩))
 exact⟨_,Heap.get?_update_self _ hob (Obj.isFreed_of_fields (Obj.data_mapFields hdat _)),(Obj.cls_mapFields ..).trans hcl,by rw[Obj.data_mapFields hdat];simp[rawInt]⟩
theorem HZ {ad t:Addr}{n:Nat}{vals:Array Value}{Q:Value->Shared->Prop}(hn:A.handled=none) (st:s.heap.IsTupleIter ad t n) (hv:s.heap.IsTuple t vals) (hy:vals[n]? =none)
  (q:∀h' e,Heap.ExtBut ad s.heap h'->(∃o,h'.get? e=some o/\o.cls= .type "StopIteration")->E (.ref e) {s with heap:=h'}):wpAny (model prog w) A (Builtin.SmallTypes.nextOf (.ref ad)) Q E s:=by
 obtain⟨ob,hob,hcl,hdat⟩:=id st
 obtain⟨TZ,HY,_,nn,CA⟩:=hv
 unfold Builtin.SmallTypes.nextOf
 refine wpAny_bind (wpAny_callSpecial?_slot (name:=Str.ofString "__next__") st.typeIs F.slot_tuple_iterator_next (wpAny_call_entry F.slot_tuple_iterator_next st.typeIs F.entry_tuple_iterator_next ?_ (F.args_tuple_iterator_next_1 _)))
 show wpAny _ _ (field (.ref ad) 0 >>= _) _ _ s
 refine wpAny_bind (wpAny_field hob hdat (x:=.ref t) rfl ?_)
 show wpAny _ _ (if(Value.ref t == Value.none)=true then _ else _) _ _ s;rw[if_neg (show ¬((Value.ref t == Value.none)=true) from Bool.false_ne_true)]
 show wpAny _ _ (field (.ref ad) 1 >>= _) _ _ s
 refine wpAny_bind (wpAny_field hob hdat (x:=.int n 0) rfl ?_)
 show wpAny _ _ (seqItems? (.ref t) >>= _) _ _ s;refine wpAny_bind (wpAny_seqItems HY CA ?_)
 simp only[Int.toNat_natCast,hy]
 refine wpAny_bind (wpAny_rule (wpAny_bind (wpAny_setField hob hdat (by simp) ?_)))
 show wpAny _ _ (newExc (.type "StopIteration") [] >>= _) _ _ _;refine wpAny_bind ?_;simp only[newExc,newTuple]
 refine wpAny_bind (wpAny_newObj_type ?_ (by size_fits));refine wpAny_bind (m:=firstArgMember _ _) (wpAny_of_eq (a:=Value.none) (by first | rfl | (simp only[firstArgMember];rfl)) ?_)
 refine wpAny_newObj_type ?_ (by size_fits);simp only[raiseNew];refine wpAny_bind (wpAny_handled ?_)
 first | rw[show A.in1.handled=none from hn] | rw[hn]
 refine wpAny_bind (wpAny_pure (wpAny_throw ?_));exact q _ _ (((Heap.SameBut.update ..).extBut.push _).push _) ⟨_,Heap.get?_push_size _ rfl,rfl⟩
theorem nextK {k:Bool}{ad t:Addr}{n:Nat}{vals:Array Value}{y:Value}{Q:Value->Shared->Prop}(st:kQ k s.heap ad t n) (hv:nF k s.heap t vals) (hy:vals[n]? =some y)
  (q:∀h',kQ k h' ad t (n+1)->Heap.SameBut ad s.heap h'->Q y {s with heap:=h'}):wpAny (model prog w) A (Builtin.SmallTypes.nextOf (.ref ad)) Q E s:=by
 cases k with
 | true=>exact wpAny_nextOf_list_item st hv hy q
 | false=>exact EI st hv hy q
theorem AF {k:Bool}{ad t:Addr}{n:Nat}{vals:Array Value}{Q:Value->Shared->Prop}(hn:A.handled=none) (st:kQ k s.heap ad t n) (hv:nF k s.heap t vals) (hy:vals[n]? =none)
  (q:∀h' e,Heap.ExtBut ad s.heap h'->(∃o,h'.get? e=some o/\o.cls= .type "StopIteration")->E (.ref e) {s with heap:=h'}):wpAny (model prog w) A (Builtin.SmallTypes.nextOf (.ref ad)) Q E s:=by
 cases k with
 | true=>exact wpAny_nextOf_list_end hn st hv hy q
 | false=>exact HZ hn st hv hy q
theorem Ia {k:Bool}(hn:A.handled=none) (ad t:Addr) (hne:t≠ad) (vals:Array Value):Draws prog w A ad [ad,t] vals.size (fun i v=>vals[i]? =some v) (fun i h=>kQ k h ad t i/\nF k h t vals) where
 live:=fun _ _ st=>let⟨o,ho,_⟩:=st.1.obj;⟨o,ho⟩
 frame:=fun _ _ _ st hk=>⟨st.1.at fun o e=>hk ad (by simp) o e,st.2.at fun o e=>hk t (by simp) o e⟩
 item:=fun i s Q E hi st hQ=>nextK st.1 st.2 (y:=vals[i]) (by simp[hi]) fun h' Ib hs'=>hQ _ h' s.toks (by simp[hi]) ⟨Ib,st.2.at fun o e=>hs'.extBut _ _ hne e⟩ hs'
 done:=fun s Q E st hE=>AF hn st.1 st.2 (by simp) hE
end
theorem CB (l:Addr) (vals:Array Value) (n:Nat) (dct:Option Addr) (sl:Array (Option Value)):
  Meets (Builtin.«enumerate.__new__» ⟨[.type "enumerate",.ref l],[]⟩) (fun _ R s=>s.heap.get? l=some {cls:=.type "tuple",dict:=dct,data:=.seq vals n,slots:=sl}/\
   R (.ok (.ret (.ref (s.heap.push (Bl false l)).objs.size))) {s with heap:=(s.heap.push (Bl false l)).push {cls:=.type "enumerate",data:=.fields #[.none,.bool false,.ref s.heap.objs.size,rawInt 0,.none,.none]}}):=
 .of_wp fun prog w A R s h=>by
  obtain⟨hp,g,d,tk,os⟩:=s;obtain⟨hl,h⟩:=h
  have hsub:=sub_enumerate
  have hT:Heap.IsTuple (Shared.heap ⟨hp,g,d,tk,os⟩) l vals:=⟨_,hl,rfl,n,rfl⟩
  wp_walk using wpAny_loadPart' hl
  refine wpAny_stack_any fun st=>wpAny_pure ?_
  split
  ·rename_i c _ _ _ _ _
   cases(c == Value.type "enumerate")
   ·wp_walk using wpAny_loadPart' hl,wpAny_pyIter_tuple hT;exact⟨_,rfl,h⟩
   ·wp_walk using wpAny_loadPart' hl,wpAny_pyIter_tuple hT;exact⟨_,rfl,h⟩
  ·wp_walk using wpAny_loadPart' hl,wpAny_pyIter_tuple hT;exact⟨_,rfl,h⟩
section
variable {prog:Program}{w:World}{A:Around}{E:Value->Shared->Prop}{s:Shared}
theorem x8 {k:Bool}{l:Addr}{vals:Array Value}{Q:Value->Shared->Prop}(hL:nF k s.heap l vals)
  (h:∀h',IsEnum h' (s.heap.objs.size+1) s.heap.objs.size 0 .none->kQ k h' s.heap.objs.size l 0->(∀b o,s.heap.get? b=some o->h'.get? b=some o)->Q (.ref (s.heap.objs.size+1)) {s with heap:=h'}):
  wpAny (model prog w) A (call (.type "enumerate") [.ref l]) Q E s:=by
 cases k with
 | true=>exact call_enumerate_list hL fun h' a b _ c=>h h' a b c
 | false=>
  obtain⟨⟨c,dct,dt,sl⟩,hl,hc,n,hd⟩:=hL
  have hc:c= .type "tuple":=hc
  have hd:dt= .seq vals n:=hd
  subst hc hd
  refine callType_new F.called_enumerate (by decide) (F.typeCall_enumerate_1 _) (F.newCall_enumerate_1 _) (fun obj=>F.args_object_init_2 obj _) F.entry_enumerate_new (CB l vals n dct sl) ⟨hl,?_⟩
  have hz:(s.heap.push (Bl false l)).objs.size=s.heap.objs.size+1:=Heap.size_push ..
  show _/\_
  rw[hz]
  have he:IsEnum ((s.heap.push (Bl false l)).push {cls:=.type "enumerate",data:=.fields #[.none,.bool false,.ref s.heap.objs.size,rawInt 0,.none,.none]}) (s.heap.objs.size+1) s.heap.objs.size 0 .none:=by
   have:=Heap.get?_push_size (s.heap.push (Bl false l)) (o:={cls:=.type "enumerate",data:=.fields #[.none,.bool false,.ref s.heap.objs.size,rawInt 0,.none,.none]}) rfl
   rw[hz] at this;exact this
  exact⟨⟨_,he,rfl⟩,h _ he ((kQ.new false s.heap l).at fun o e=>Heap.get?_push_of_some _ e) fun b o x=>Heap.get?_push_of_some _ (Heap.get?_push_of_some _ x)⟩
end
theorem Ic {prog:Program}{w:World}{A:Around}{k:Bool}(hn:A.handled=none) (ad t:Addr) (vals:Array Value) (n:Nat) (he:vals[n]? =none):Draws prog w A ad [ad,t] n (fun _ _=>True) (fun i h=>kQ k h ad t i/\nF k h t vals/\i=n) where
 live:=fun _ _ st=>let⟨o,ho,_⟩:=st.1.obj;⟨o,ho⟩
 frame:=fun _ _ _ st hk=>⟨st.1.at fun o e=>hk ad (by simp) o e,st.2.1.at fun o e=>hk t (by simp) o e,st.2.2⟩
 item:=fun i s Q E hi st hQ=>absurd hi (by rw[st.2.2];exact Nat.lt_irrefl _)
 done:=fun s Q E st hE=>AF hn st.1 st.2.1 he hE
noncomputable def Bm (K:PySem.W.Frag) (H:Hp) (k:Bool) (a:Addr) (xs:List V):Prop:=match k with
 | true=>nC K H a xs
 | false=>vp K H a xs
section
variable {X:Cx}{pins:List (Addr×Obj)}{σ:St}{H:Hp}{s:Shared}
theorem Inv.EJ (I:Inv X pins σ H s){k:Bool}{a:Addr}{xs:List V}(h:Bm X.K H k a xs):∃its:List Value,Vals xs its/\nF k s.heap a its.toArray/\xs.length<=sizeLine:=by
 cases k with
 | true=>obtain⟨its,r,p,z⟩:=I.list h;exact⟨its,r,p.isList,z⟩
 | false=>obtain⟨its,r,p,z⟩:=I.tuple h;exact⟨its,r,p,z⟩
theorem Inv.EK (I:Inv X pins σ H s){k:Bool}{a:Addr}{xs ys:List V}(h:Bm X.K H k a xs) (h':Bm X.K H k a ys):xs=ys:=by
 cases k with
 | true=>exact I.vE h h'
 | false=>exact I.sV h h'
theorem Inv.uQ {t':Nat}{h':Heap}{fp:List Addr}(I:Inv X pins σ H s) (k:∀b o,b∉fp->s.heap.get? b=some o->h'.get? b=some o) (hf:∀b∈fp,kX X pins H b):Inv X pins σ H {s with heap:=h',toks:=t'}:=by
 have J5:∀b u,H b=some u->b∉fp:=fun b u e z=>by rw[(hf b z).1] at e;cases e
 refine I.step (g':=s.gens) (d':=s.drawn) (ch:=fp) (fun b hb=>?_) (fun b o _ _ hc e _=>k b o hc e) (fun b o _ _ hc e _=>⟨o.slots,k b o hc e⟩) (fun _ _ _ _ n=>n)
  (fun b o hc e=>⟨o,k b o hc e⟩) (fun _ _ e=>e) (fun _ _ _ e=>e) (fun b ps e=>⟨#[],by rw[e];simp⟩) (fun m hm=>?_) (fun b u e=>?_) I.bare
 ·obtain⟨_,f1,_,f3,f4,f5⟩:=hf b hb
  exact⟨f3,f1,f4,f5⟩
 ·obtain⟨o,es,ep,ho,r⟩:=hm
  exact⟨o,es,ep,k _ o (fun z=>(hf _ z).2.1 rfl) ho,r⟩
 ·refine(I.hok b u e).stay (fun c v hc q=>k c v ?_ q) (fun _ q=>q) fun _ _ q=>q
  rcases hc with z | z
  ·rw[z];exact J5 b u e
  ·exact J5 c _ z
theorem Inv.handed {t':Nat}{h':Heap}{fp:List Addr}{xs:List V}{its:List Value}(I:Inv X pins σ H s) (hf:∀b∈fp,kX X pins H b) (hlt:∀b∈fp,b < s.heap.objs.size) (k:∀b o,b∉fp->s.heap.get? b=some o->h'.get? b=some o)
  (ht:h'.get? s.heap.objs.size=some {cls:=.type "tuple",data:=.seq its.toArray}) (hv:Vals xs its) (hz:xs.length<=sizeLine):Inv X pins σ (upd H s.heap.objs.size (.tup xs)) {s with heap:=h',toks:=t'}:=by
 have I1:Inv X pins σ (upd H s.heap.objs.size (.tup xs)) {s with heap:=s.heap.push {cls:=.type "tuple",data:=.seq its.toArray},toks:=t'}:=
  I.laid (fun _ _ q=>Heap.get?_push_of_some _ q) (Nat.le_refl _) ⟨hz,its,hv,IsTup.new s.heap _⟩
 refine Inv.uQ (s:={s with heap:=s.heap.push {cls:=.type "tuple",data:=.seq its.toArray},toks:=t'}) (t':=t') (fp:=fp) I1 (fun b o hb e=>?_) fun b hb=>?_
 ·rcases Heap.get?_push_cases (show(s.heap.push {cls:=.type "tuple",data:=.seq its.toArray}).get? b=some o from e) with⟨z1,z2⟩ | z
  ·rw[z1,z2];exact ht
  ·exact k b o hb z
 ·obtain⟨f0,f1,f2,f3,f4,f5⟩:=hf b hb
  exact⟨by rw[aJ (Nat.ne_of_lt (hlt b hb))];exact f0,f1,f2,f3,f4,f5⟩
end
noncomputable def RB (K:PySem.W.Frag) (k:Bool) (a:Addr):It:=
 ⟨fun i H=>∃xs x,Bm K H k a xs/\xs[i]? =some x,fun i H x H'=>∃p y,H p=none/\x= .ref p/\H'=upd H p (.tup [.int i,y])/\∀xs,Bm K H k a xs->xs[i]? =some y,fun i H=>∃xs,Bm K H k a xs/\xs.length<=i⟩
theorem AG {P : Program} {w : World} {K : PySem.W.Frag} {elts : List Expr} {j : Nat} {pos : Pos} (k : Bool) (a it e : Addr) (hai : a ≠ it) (T5 : e ≠ a) (hei : e ≠ it) : Turn P w K (.Tuple elts j pos) (RB K k a) [e, it] e (fun i h => (∃ old, IsEnum h e it (i : Int) old) /\ kQ k h it a i) where
  mem:=by simp
  obj := fun i h ⟨⟨old, he⟩, st⟩ b hb => by
    rcases List.mem_cons.mp hb with z | z
    . subst z;exact⟨_,he,fun v z=>by cases z⟩
    . have z:b=it:=by simpa using z
      subst z
      exact st.obj
  keep:=fun i h h' ⟨⟨old,he⟩,st⟩ g=>⟨⟨old,g e (by simp) _ he⟩,st.at fun o q=>g it (by simp) o q⟩
  item:=by
    intro X hP hw hK hc i pins s σ H E I hf st hg
    subst hP hw hK
    obtain⟨xs,x,hq,hx⟩:=hg
    obtain⟨its,rv,p,hz⟩:=I.EJ hq
    obtain⟨u,hu,ru⟩:=rv.get hx
    obtain⟨⟨old,he⟩,hit⟩:=st
    have hsz:i < its.toArray.size:=by rw[List.size_toArray];exact(List.getElem?_eq_some_iff.mp hu).1
    refine wpAny_pyNext_enum_itemD (Ia (k:=k) (A:=X.A.in1) (I.ok.hd hc) it a hai its.toArray) he ⟨hit,p⟩ hsz hei (by simp[T5,hei]) fun y h' tk hy ho hs' hT Wa hk=>?_
    obtain⟨Ib,p'⟩:=hs'
    have ey:y=u:=by
      have h1:its.toArray[i]? =some u:=by simpa using hu
      rw[h1] at hy;exact(Option.some.inj hy).symm
    subst ey
    refine⟨_,rfl,wpAny_letOwnedTupleGo_enum ho fun h2 T6 hs2=>?_⟩
    have hs2:Heap.SameBut e h' h2:=hs2
    have elt:e < s.heap.objs.size:=Heap.lt_size he
    obtain⟨oi,T7,_⟩:=hit.obj
    have T8:it < s.heap.objs.size:=Heap.lt_size T7
    have Lf:∀b∈[e,it],b < s.heap.objs.size:=fun b hb=>by
      rcases List.mem_cons.mp hb with z | z
      . rw[z];exact elt
      . rw[show b=it by simpa using z];exact T8
    have I2:Inv X pins σ (upd H s.heap.objs.size (.tup [.int i,x])) {s with heap:=h2,toks:=tk+1}:=
      I.handed (its:=[.int i tk,y]) hf Lf (fun b o hb q=>(hs2.2 b fun z=>hb (by simp[z])).trans (hk b o (fun z=>hb (by simp[z])) (fun z=>hb (by simp[z])) q))
        ((hs2.2 _ (Nat.ne_of_gt elt)).trans hT) (.cons ⟨tk,rfl⟩ (.cons ru .nil)) (show 2<=sizeLine by decide)
    refine⟨.ref s.heap.objs.size,_,I2,rfl,⟨_,x,I.fresh,rfl,rfl,fun ys T9=>by rw[I.EK T9 hq];exact hx⟩,⟨⟨y,by simpa using T6⟩,Ib.at fun o q=>(hs2.2 _ (Ne.symm hei)).trans q⟩,fun b hb=>?_⟩
    rw[aJ (Nat.ne_of_lt (Lf b hb))]
    exact(hf b hb).1
  done:=by
    intro X hP hw hK hc i pins s σ H E I hf st hg
    subst hP hw hK
    obtain⟨xs,hq,hx⟩:=hg
    obtain⟨its,rv,p,hz⟩:=I.EJ hq
    obtain⟨⟨old,he⟩,hit⟩:=st
    have hl:=rv.length
    refine wpAny_pyNext_enum_endD (n:=i) (Ic (k:=k) (A:=X.A.in1) (I.ok.hd hc) it a its.toArray i (by simp;omega)) he ⟨hit,p,rfl⟩ fun h' hx=>?_
    exact⟨rfl,I.uQ (t':=s.toks) (fun b o hb q=>hx b o (fun z=>hb (by simp[z])) q) hf⟩
  self:=fun _ _ _ _ _ st h=>by
    obtain⟨⟨old,he⟩,_⟩:=st
    exact wpAny_pyIter_enum he h
noncomputable abbrev TupAt (h:Heap) (T:Addr) (vals:Array Value):Prop:=h.get? T=some {cls:=.type "tuple",data:=.seq vals}
section
variable {prog:Program}{w:World}{A:Around}{E:Value->Shared->Prop}{s:Shared}
theorem Ie {T:Addr}{vals:Array Value}{x:Value}{k:Nat}{Q:Unit->Shared->Prop}(hT:TupAt s.heap T vals) (hz:vals.size<=sizeLine) (h:∀h',TupAt h' T (vals.setIfInBounds k x)->Heap.SameBut T s.heap h'->Q () {s with heap:=h'}):
  wpAny (model prog w) A (updateSeq T (·.setIfInBounds k x)) Q E s:=by
 refine wpAny_updateSeq hT rfl (h _ ?_ (Heap.SameBut.update ..)) hz (by simp only[Array.size_setIfInBounds];omega);rw[TupAt,Heap.get?_update_self _ hT rfl];simp[Obj.mapSeq]
structure Ig (N:Nat) (k0 k1:Bool) (l0 l1:Nat) (i:Nat) (f0:Value) (h:Heap):Prop where
 z:IsZip h (N+4) (N+2) (N+3) f0
 ti:TupAt h (N+2) #[.ref N,.ref (N+1)]
 to:∃v:List Value,v.length=2/\TupAt h (N+3) v.toArray
 c0:kQ k0 h N l0 i
 c1:kQ k1 h (N+1) l1 i
noncomputable def jy (N:Nat):List Addr:=[(N+4),(N+2),(N+3),N,(N+1)]
theorem aL {N b:Nat}:b∈jy N↔N<=b/\b<=N+4:=by
 unfold jy
 simp only[List.mem_cons,List.not_mem_nil,or_false]
 omega
end
noncomputable abbrev zp (h:Heap) (k0 k1:Bool) (l0 l1:Nat):Heap:=((h.push (Bl k0 l0)).push (Bl k1 l1))
noncomputable abbrev zq (h:Heap) (k0 k1:Bool) (l0 l1:Nat):Heap:=(zp h k0 k1 l0 l1).push {cls:=.type "tuple",data:=.seq #[.ref h.objs.size,.ref (h.push (Bl k0 l0)).objs.size]}
noncomputable abbrev zu (h:Heap) (k0 k1:Bool) (l0 l1:Nat):Heap:=(zq h k0 k1 l0 l1).push {cls:=.type "tuple",data:=.seq #[.none,.none]}
noncomputable abbrev tX (h:Heap) (k0 k1:Bool) (l0 l1:Nat):Heap:=(zu h k0 k1 l0 l1).push {cls:=.type "zip",data:=.fields #[.none,.bool false,.bool false,.ref (zp h k0 k1 l0 l1).objs.size,.ref (zq h k0 k1 l0 l1).objs.size]}
theorem EL (k0 k1:Bool) (l0 l1:Nat) (v0 v1:Array Value):Meets (Builtin.«zip.__new__» ⟨[.type "zip",.ref l0,.ref l1],[]⟩) (fun _ R s=>nF k0 s.heap l0 v0/\nF k1 s.heap l1 v1/\R (.ok (.ret (.ref (zu s.heap k0 k1 l0 l1).objs.size))) {s with heap:=tX s.heap k0 k1 l0 l1}):=
 .of_wp fun prog w A R s h=>by
  obtain⟨hp,g,d,tk,os⟩:=s;obtain⟨q0,q1,h⟩:=h
  have hsub:=sub_zip
  have p0:nF k0 (Shared.heap ⟨hp,g,d,tk,os⟩) l0 v0:=q0.at fun o e=>e
  have p1:nF k1 (Shared.heap ⟨(hp.push (Bl k0 l0)),g,d,tk,os⟩) l1 v1:=q1.at fun o e=>Heap.get?_push_of_some _ (e)
  wp_walk using Gp p0,Gp p1
  exact⟨_,rfl,h⟩
theorem CC {prog:Program}{w:World}{A:Around}{E:Value->Shared->Prop}{s:Shared}{k0 k1:Bool}{l0 l1:Nat}{v0 v1:Array Value}{Q:Value->Shared->Prop}(q0:nF k0 s.heap l0 v0) (q1:nF k1 s.heap l1 v1)
  (h:∀h',Ig s.heap.objs.size k0 k1 l0 l1 0 .none h'->(∀c o,s.heap.get? c=some o->h'.get? c=some o)->Q (.ref (s.heap.objs.size+4)) {s with heap:=h'}):wpAny (model prog w) A (call (.type "zip") [.ref l0,.ref l1]) Q E s:=by
 refine callType_new F.called_zip (by decide) (F.typeCall_zip_2 _ _) (F.newCall_zip_2 _ _) (fun obj=>F.args_object_init_3 obj _ _) F.entry_zip_new (EL k0 k1 l0 l1 v0 v1) ⟨q0,q1,?_⟩
 have e0:(zp s.heap k0 k1 l0 l1).objs.size=s.heap.objs.size+2:=by simp only[Heap.size_push]
 have e1:(zq s.heap k0 k1 l0 l1).objs.size=s.heap.objs.size+3:=by rw[Heap.size_push,e0]
 have e2:(zu s.heap k0 k1 l0 l1).objs.size=s.heap.objs.size+4:=by rw[Heap.size_push,e1]
 have g2:(tX s.heap k0 k1 l0 l1).get? (zu s.heap k0 k1 l0 l1).objs.size=some _:=Heap.get?_push_size _ rfl
 have g1:(tX s.heap k0 k1 l0 l1).get? (zq s.heap k0 k1 l0 l1).objs.size=some _:=Heap.get?_push_of_some _ (Heap.get?_push_size _ rfl)
 have g0:(tX s.heap k0 k1 l0 l1).get? (zp s.heap k0 k1 l0 l1).objs.size=some _:=Heap.get?_push_of_some _ (Heap.get?_push_of_some _ (Heap.get?_push_size _ rfl))
 rw[e2,e0,e1] at g2
 rw[e1] at g1
 rw[e0] at g0
 simp only[Heap.size_push] at g0
 show _/\_
 rw[e2]
 refine⟨⟨_,g2,rfl⟩,h _ ⟨g2,g0,⟨[.none,.none],rfl,g1⟩,?_,?_⟩ fun c o x=>Heap.get?_push_of_some _ (Heap.get?_push_of_some _ (Heap.get?_push_of_some _ (Heap.get?_push_of_some _ (Heap.get?_push_of_some _ (x)))))⟩
 ·have:=(kQ.new k0 (s.heap) l0).at (h':=tX s.heap k0 k1 l0 l1) fun o e=>Heap.get?_push_of_some _ (Heap.get?_push_of_some _ (Heap.get?_push_of_some _ (Heap.get?_push_of_some _ (e))))
  simpa only[Heap.size_push] using this
 ·have:=(kQ.new k1 ((s.heap).push (Bl k0 l0)) l1).at (h':=tX s.heap k0 k1 l0 l1) fun o e=>Heap.get?_push_of_some _ (Heap.get?_push_of_some _ (Heap.get?_push_of_some _ (e)))
  simpa only[Heap.size_push] using this
section
variable {X:Cx}{a b c e:Expr}{body elts:List Expr}{pos p tpos:Pos}{jt:Nat}
theorem nF.lt {k:Bool}{h:Heap}{a:Addr}{its:Array Value}(x:nF k h a its):a < h.objs.size:=by
 cases k <;> exact let⟨o,ho,_⟩:=x;Heap.lt_size ho
noncomputable def Lg (K:PySem.W.Frag) (ta:TA):TI:=fun σ H R=>ta σ H fun vs H1=>∃k a xs,vs=[.ref a]/\Bm K H1 k a xs/\R (RB K k a) H1
theorem EM {ta:TA}(hg:Gl X "enumerate") (hm:X.mg "enumerate" =none) (ha:PA X [a] ta) (hs:starEach [a] X.env=[(false,eval a X.env)]:=by rfl):PI X (.Tuple elts jt tpos) (.Call (.Name "enumerate" p) [a] [] pos) (Lg X.K ta):=by
 intro pins s σ H R I h
 refine Call_ (jg I hg hm boot_enumerate (PyProof.Rows.callWith_type1 (gg (ha pos pins s σ H _ I h) fun us s1 ⟨vs,H1,I1,r1,q1⟩=>?_) hs rfl))
 obtain⟨k,a,xs,rfl,hq,q⟩:=q1
 cases r1 with
 | cons r rr=>
  cases rr
  cases r
  obtain⟨its,rv,p,hz⟩:=I1.EJ hq
  refine x8 p fun h' he hit hk=>wpAny_pyIter_enum he ?_
  have lt:=p.lt
  refine⟨s1.heap.objs.size+1,[s1.heap.objs.size+1,s1.heap.objs.size],_,_,H1,rfl,I1.kept (t':=s1.toks) hk,AG k a s1.heap.objs.size (s1.heap.objs.size+1) (Nat.ne_of_lt lt) (Nat.ne_of_gt (Nat.lt_succ_of_lt lt)) (Nat.succ_ne_self _),⟨⟨.none,he⟩,hit⟩,fun b hb=>?_,q⟩
  have hb:s1.heap.objs.size<=b:=by
   rcases List.mem_cons.mp hb with z | z
   ·rw[z];exact Nat.le_succ _
   ·rw[show b=s1.heap.objs.size by simpa using z];exact Nat.le_refl _
  exact I1.xA hb (I1.hok.fresh hb)
noncomputable def WalkN (J:It) (F:Hp) (ds:List D):Prop:=∀F' H',(∀b o,F b=some o->F' b=some o)->Sub F' H'->∀i,(∀d,ds[i]? =some d->J.go i H'/\∀x H2,J.Kl i H' x H2->∃F2,iw F' H' F2 H2/\Sub F2 H2/\Rep F2 x d)/\(ds.length<=i->J.stop i H')
noncomputable def Oh (K:PySem.W.Frag) (B:Base) (gi:GI):TI:=fun σ H R=>∃S F ds S',Rel K B S σ F H/\gi S=some (ds,S')/\∀J F' H',Rel K B S' σ F' H'->Step S S' σ F H F' H'->WalkN J F' ds->R J H'
structure RC (X:Cx) (tg e:Expr) (gi:GI):Prop where
 h:∀B,PI X tg e (Oh X.K B gi)
noncomputable def uR:D->Option (Bool×List D)
 | .lst ds=>some (true,ds)
 | .tup ds=>some (false,ds)
 | _=>none
theorem Sub.CD {K:PySem.W.Frag}{F H:Hp}{v:V}{d:D}{k:Bool}{ds:List D}(sb:Sub F H) (r:Rep F v d) (e:uR d=some (k,ds)):
  ∃a vs,v= .ref a/\aR F vs ds/\∀F' H',(∀b o,F b=some o->F' b=some o)->Sub F' H'->Bm K H' k a vs:=by
 cases d <;> try (cases e;done)
 ·cases e
  obtain⟨a,vs,rfl,fa,ha,rs⟩:=sb.j8 r
  exact⟨a,vs,rfl,rs,fun F' H' le sb'=>.inl (Rd.of (sb' a _ (le _ _ fa)))⟩
 ·cases e
  obtain⟨a,vs,rfl,fa,ha,rs⟩:=sb.iy r
  exact⟨a,vs,rfl,rs,fun F' H' le sb'=>.inl (Rd.of (sb' a _ (le _ _ fa)))⟩
noncomputable def pQ (ds:List D):List D:=ds.mapIdx fun i d=>.tup [.int i,d]
noncomputable def CF (gA:GA):GI:=fun S=>(gA S).bind fun p=>match p.1 with
 | [d]=>(uR d).map fun q=>(pQ q.2,p.2)
 | _=>none
theorem EN {gA:GA}(hg:Gl X "enumerate") (hm:X.mg "enumerate" =none) (ha:JA X [a] gA) (hs:starEach [a] X.env=[(false,eval a X.env)]:=by rfl):RC X (.Tuple elts jt tpos) (.Call (.Name "enumerate" p) [a] [] pos) (CF gA):=
 ⟨fun B=>PI.orelse fun σ H R0 ⟨S,F,ds,S',R,hg',k⟩=>by
 obtain⟨⟨args,S1⟩,h1,hg'⟩:=ah hg'
 refine⟨_,EM hg hm (ha.h B) hs,S,F,args,S1,R,h1,fun vs F1 H1 R1 st1 r1=>?_⟩
 dsimp only at hg'
 split at hg'
 ·obtain⟨⟨kk,es⟩,h2,hg'⟩:=az hg'
  cases hg'
  cases r1 with
  | cons r rr=>
   cases rr
   obtain⟨a,ws,rfl,rs,sq⟩:=R1.sub.CD (K:=X.K) r h2
   refine⟨kk,a,ws,rfl,sq F1 H1 (fun _ _ z=>z) R1.sub,k _ F1 H1 R1 st1 fun F' H' le sb i=>⟨fun d hd=>?_,fun hl=>⟨ws,sq F' H' le sb,by rw[rs.length];simpa[pQ] using hl⟩⟩⟩
   unfold pQ at hd
   rw[List.getElem?_mapIdx] at hd
   obtain⟨d0,hd0,rfl⟩:=az hd
   obtain⟨v,k1,k2⟩:=rs.get hd0
   refine⟨⟨ws,v,sq F' H' le sb,k1⟩,fun x H2 y=>?_⟩
   obtain⟨p,y,hp,rfl,rfl,hy⟩:=y
   have ey:=hy ws (sq F' H' le sb)
   rw[k1] at ey
   cases ey
   exact⟨_,iw.root sb hp _,sb.uG hp,.tup aK (.cons (.int _) (.cons (k2.le fun b o z=>lu (sb.fresh hp) b o (le b o z)) .nil))⟩
 ·cases hg'⟩
theorem EO {tg iter:Expr}{stmts:List Stmt}{s1:GS}{bd:GB}{gi:GI}(hp:PassesOwn (model X.prog X.w) X.A X.env X.xe) (hc:X.calm=true) (hi:RC X tg iter gi) (hg:JG X tg bd) (hb:JB X stmts s1) (hs:∀x,foldedSetIterable iter X.env x=pure x:=by intro _;rfl):
  JS X (.For tg iter stmts [] pos) (iR bd gi s1):=⟨fun B=>(BH hp hc (hi.h B) (hg.h B) (hb.h B) hs).imp fun D σ H ⟨S,F,o,R,h,k⟩=>by
 obtain⟨⟨ds,S1⟩,h1,h⟩:=ah h
 refine⟨S,F,ds,S1,R,h1,fun J F1 H1 R1 st1 w=>?_⟩
 refine⟨fun i m σ' H'=>∃S' F',Rel X.K B S' σ' F' H'/\(∀b o,F1 b=some o->F' b=some o)/\i<=ds.length/\m=ds.length - i/\loop bd s1 (ds.drop i) S'=some o,⟨_,S1,F1,R1,fun _ _ z=>z,Nat.zero_le _,rfl,h⟩,?_⟩
 rintro i m σ' H' ⟨S',F',R',le,hl,rfl,jo⟩
 have w':=w F' H' le R'.sub i
 by_cases hlt:i < ds.length
 ·have hd:ds[i]? =some ds[i]:=List.getElem?_eq_getElem hlt
  obtain⟨go,yl⟩:=w'.1 _ hd
  rw[List.drop_eq_getElem_cons hlt] at jo
  obtain⟨S2,e2,jo⟩:=ah jo
  obtain⟨o2,e3,jo⟩:=ah jo
  refine .inr ⟨go,_,fun σ2 H2 n=>⟨ds.length - (i+1),by omega,n⟩,fun x H2 y=>?_⟩
  obtain⟨F2,nw,Ua,rx⟩:=yl x H2 y
  have R2:=R'.new nw Ua
  have le:∀b o,F1 b=some o->F2 b=some o:=fun b o z=>nw.le b o (le b o z)
  refine⟨S',F2,_,S2,R2,rx,e2,fun σ3 R3=>⟨S2,F2,o2,R3,e3,?_⟩⟩
  cases o2 with
  | nx S3=>exact fun vR F4 H4 R4 qE=>⟨S3,F4,R4,fun b o z=>qE b o (le b o z),hlt,rfl,jo⟩
  | ct S3=>exact fun vR F4 H4 R4 qE=>⟨S3,F4,R4,fun b o z=>qE b o (le b o z),hlt,rfl,jo⟩
  | bk S3=>cases jo;exact fun vR F4 H4 R4 qE=>k vR F4 H4 R4 fun b o z=>qE b o (le b o (st1.ext.le b o z))
  | rt u S3=>cases jo;exact fun v vR F4 H4 R4 qE=>k v vR F4 H4 R4 fun b o z=>qE b o (le b o (st1.ext.le b o z))
 ·have e:i=ds.length:=by omega
  subst e
  rw[List.drop_length] at jo
  cases jo
  exact .inl ⟨w'.2 (Nat.le_refl _),k σ' F' H' R' fun b o z=>le b o (st1.ext.le b o z)⟩⟩
end
section
variable {X:Cx}{a b c e:Expr}{x y:Str}{p px py pos pos' tpos:Pos}{f:List D->Option U}{gb:GD}
end
noncomputable def zx:GE:=fun S=>some (.m (.lU []),S)
noncomputable def nU:GE:=fun S=>some (.m (.dct []),S)
section
variable {X:Cx}{a b c e k:Expr}{x y:Str}{p px py pos pos' tpos apos cpos:Pos}{gk:GD}
theorem zy:JE X (.Dict [] [] pos) zx:=⟨fun B=>BR.imp fun σ H Q ⟨S,F,u,S',R,hg,q⟩=>by
 cases hg
 intro p hp
 have n:=iw.obj (F:=F) hp (.dT [])
 have hn:¬cT S σ p:=fun m=>by obtain⟨o,ho⟩:=R.has m;rw[hp] at ho;cases ho
 exact q (.ref p) F _ (R.new n (R.sub.same n.same)) n.step ⟨p,rfl,hp,R.sub.fresh hp,⟨[],aK,.nil⟩,hn,none_of R.ext.there hp⟩⟩
theorem uS:JE X (.Dict [] [] pos) nU:=⟨fun B=>BQ.imp fun σ H Q ⟨S,F,u,S',R,hg,q⟩=>by
 cases hg
 intro p hp
 have n:=iw.obj (F:=F) hp (.dK [])
 have hn:¬cT S σ p:=fun m=>by obtain⟨o,ho⟩:=R.has m;rw[hp] at ho;cases ho
 exact q (.ref p) F _ (R.new n (R.sub.same n.same)) n.step ⟨p,rfl,hp,R.sub.fresh hp,⟨[],aK,.nil⟩,hn,none_of R.ext.there hp⟩⟩
noncomputable def ER:U->D->Option Bool
 | .m (.dct kvs),k=>(keyOf k).map fun kk=>(aT kvs kk).isSome
 | .b (.dct kvs),k=>(keyOf k).map fun kk=>(aT kvs kk).isSome
 | .m (.lU kvs),k=>(jW k).map fun kk=>(aT kvs kk).isSome
 | .b (.lU kvs),k=>(jW k).map fun kk=>(aT kvs kk).isSome
 | _,_=>none
noncomputable def x9 (n:Bool) (i:Nat) (g:GD):GD:=fun S=>(g S).bind fun p=>match p.2[i]? with
 | some (some u)=>(ER u p.1).map fun h=>(.bl (n != h),p.2)
 | _=>none
theorem nW {κ:Type} [DecidableEq κ] {F:Hp}{ws:List (κ×V)}{kvs:List (κ×D)}(pr:Paired (i6 F) ws kvs) (k:κ):(kZ ws k).isSome=(aT kvs k).isSome:=by
 cases e:aT kvs k with
 | none=>rw[lZ pr e];rfl
 | some d=>obtain⟨v,h,_⟩:=je pr e;rw[h];rfl
theorem ES {K:PySem.W.Frag}{F H:Hp}{v w:V}{u:U}{d:D}{h:Bool}(sb:Sub F H) (r:rU K F H v u) (rk:Rep F w d) (e:ER u d=some h):∃a o,v= .ref a/\jh H a w o/\o.isSome=h:=by
 unfold ER at e
 split at e
 ·obtain⟨kk,e1,rfl⟩:=az e
  obtain⟨a,rfl,fa,ws,ha,pr⟩:=r
  exact⟨a,_,rfl,jh.ky ha (ki rk e1),nW pr kk⟩
 ·obtain⟨kk,e1,rfl⟩:=az e
  obtain⟨a,rfl,fa,ws,ha,pr⟩:=r
  exact⟨a,_,rfl,jh.ky ha (ki rk e1),nW pr kk⟩
 ·obtain⟨kk,e1,rfl⟩:=az e
  obtain⟨a,rfl,fa,ws,ha,pr⟩:=r
  obtain⟨b,rfl,hb⟩:=lG sb rk e1
  exact⟨a,_,rfl,jh.t ha hb,nW pr kk⟩
 ·obtain⟨kk,e1,rfl⟩:=az e
  obtain⟨a,rfl,fa,ws,ha,pr⟩:=r
  obtain⟨b,rfl,hb⟩:=lG sb rk e1
  exact⟨a,_,rfl,jh.t ha hb,nW pr kk⟩
 ·cases e
theorem ET {B:Base}{n:Bool}{i:Nat}{σ:St}{H:Hp}{Q:VK}(h:tD X.K B (x9 n i gk) σ H Q):tD X.K B gk σ H fun y H1=>DS i σ H1 fun x H2=>∃a o,x= .ref a/\jh H2 a y o/\Q (.bl (n != o.isSome)) H2:=by
 obtain⟨S,F,d,S',R,hg,q⟩:=h
 obtain⟨⟨d1,S1⟩,h1,hg⟩:=ah hg
 dsimp only at hg
 split at hg
 ·rename_i u hS
  obtain⟨h,h2,hg⟩:=az hg
  cases hg
  refine⟨S,F,d1,_,R,h1,fun v F1 H1 R1 st1 r1=>?_⟩
  obtain⟨v0,hv0,r0⟩:=R1.rep i u hS
  obtain⟨a,o,e1,g1,e2⟩:=ES R1.sub r0 r1 h2
  refine⟨v0,hv0,a,o,e1,g1,?_⟩
  rw[e2]
  exact q (.bl _) F1 H1 R1 st1 (.bl _)
 ·cases hg
noncomputable def we (d:D):List D->Option Nat
 | []=>none
 | e :: ds=>if kO e d then some 0 else(we d ds).map (· +1)
noncomputable def CG (X:Cx):V->List V->Hp->VK->Prop:=fun x vs H Q=>∃l xs y F ds d j,x= .ref l/\vs=[y]/\H l=some (.lst xs)/\Sub F H/\aR F xs ds/\Rep F y d/\bH ds<=40/\ds.length < 100000/\we d ds=some j/\Q (.int j) H
theorem tY {d:D}:∀{ds:List D}{j:Nat},we d ds=some j->∃e,ds[j]? =some e/\kO e d=true/\∀m,m < j->∀g,ds[m]? =some g->kO g d=false
  | [],j,h=>by cases h
  | e :: ds, j, h => by
    unfold we at h
    split at h
    . rename_i he
      cases h
      exact⟨e,rfl,he,fun m hm=>absurd hm (Nat.not_lt_zero m)⟩
    . rename_i he
      obtain⟨i,hi,rfl⟩:=az h
      obtain⟨g,g1,g2,g3⟩:=tY hi
      refine⟨g,by simpa using g1,g2,fun m hm f hf=>?_⟩
      cases m with
      | zero=>simp at hf;subst hf;simpa using he
      | succ m=>exact g3 m (by omega) f (by simpa using hf)
theorem ya {F:Hp}{d:D}:∀{vs:List V}{ds:List D}{its:List Value}{m:Nat}{e:D}(hm:m < its.length),aR F vs ds->Vals vs its->ds[m]? =some e->Bk F d its[m]=kO e d
 | _,_,_,0,e,hm,.cons r _,.cons q _,h=>by simp at h;subst h;exact xU q r
 | _,_,_,m+1,e,hm,.cons _ rs,.cons _ qs,h=>ya (m:=m) (by simpa using hm) rs qs (by simpa using h)
 | _,_,_,_,_,hm,.nil,.nil,h=>by simp at h
theorem CH (hu:X.A.units+64 < cLine):Mk X "list.index" (CG X):=by
 intro pins s σ H x vs v us Q I rx rv h
 obtain⟨l,xs,y,F,ds,d,j,rfl,rfl,hH,sb,rs,ry,hd,hlen,hj,q⟩:=h
 cases rx
 obtain⟨u,rfl,ru⟩:=rv.one
 obtain⟨z,its,n,r,hl,e⟩:=I.vJ hH
 obtain⟨g,g1,g2,g3⟩:=tY hj
 obtain⟨h1,h2⟩:=nQ I sb (A:=X.A.in1) ry ru rs r (by show X.A.units+1+bH ds < cLine;omega)
 have hjl:j < ds.length:=(List.getElem?_eq_some_iff.mp g1).1
 have hji:j < its.length:=by rw[<-hl,rs.length];exact hjl
 refine call_meets PySem.F.slot_list_index ⟨_,e,rfl⟩ PySem.F.entry_list_index (PySem.F.args_list_index_2 _ _) (SeqAt.list_indexAt l its.toArray n none #[] u (Bk F d) j (by simpa using hji) (by omega) ?_ ?_) ⟨e,?_,⟨.int j,H,I.tok _,⟨_,rfl⟩,q⟩⟩
 ·rw[List.getElem_toArray,ya hji rs r g1];exact g2
 ·intro m hm Ub
  have hmd:m < ds.length:=by omega
  rw[List.getElem_toArray,ya (e:=ds[m]) (by simpa using hm) rs r (List.getElem?_eq_getElem hmd)]
  exact g3 m Ub _ (List.getElem?_eq_getElem hmd)
 ·intro w hw
  exact h1 w (by simpa using hw)
theorem CI {H:Hp}{a:Addr}{o:HO}(h:H a=some o):upd H a o=H:=by
 funext b
 by_cases hb:b=a
 ·subst hb;rw[aK,h]
 ·rw[aJ hb]
noncomputable def jX:List D->MO->Option (D×MO)
 | [d],.lst ds=>if bH ds<=40/\ds.length < 100000 then(we d ds).map fun j=>(.int (j:Nat),.lst ds) else none
 | _,_=>none
theorem CJ:Mu (CG X) jX:=by
 intro F H a vs xs ds args res o' sb hH fa rs rx hw Q q
 unfold jX at hw
 split at hw
 ·rename_i d ds' e2
  cases e2
  obtain⟨⟨h1,h2⟩,hw⟩:=lV hw
  obtain⟨j,hj,hw⟩:=az hw
  cases hw
  cases rx with
  | cons r rr=>
   cases rr
   have k:=q (.int j) (.lst vs) (.int _) ⟨vs,aK,rs⟩
   rw[CI hH] at k
   exact⟨a,vs,_,F,ds,d,j,rfl,rfl,hH,sb,rs,r,h1,h2,hj,k⟩
 ·cases hw
theorem CK (a:List D) (o:MO) (h:cV o=false):jX a o=none:=by
 cases o with
 | lst ds=>cases h
 | dct k=>unfold jX;split <;> first | rfl | (rename_i e;cases e)
 | lU k=>unfold jX;split <;> first | rfl | (rename_i e;cases e)
 | ins C k=>unfold jX;split <;> first | rfl | (rename_i e;cases e)
end
section
variable {X:Cx}{k v:Expr}{pos:Pos}{tk tv:TE}{gk gv:GD}
theorem tZ {i:Nat}{x:Str}{px:Pos}(hu:X.A.units+20 < cLine) (hk:JD X k gk) (hN:X.N[i]? =some x:=by rfl) (hv:Bv X.env.scope x:=by first | exact Or.inl rfl | exact Or.inr (Or.inl rfl) | exact Or.inr (Or.inr rfl)) (hd:(x == ("__debug__":Str))=false:=by decide) (hcd:(x == ("__classdict__":Str))=false:=by decide)
  (hm:behindInMarks .NotIn (.Name x px)=false:=by with_unfolding_all rfl):JT X (.Compare k [.NotIn] [.Name x px] pos) (qB (x9 true i gk)):=⟨fun B=>(GO (Ak hu (hk.h B) (iV hN hv hd hcd)) hm).imp fun σ H Q ⟨S,F,kk,S',R,hg,q⟩=>by
 have h:tD X.K B (x9 true i gk) σ H (fun v H'=>∃d,v= .bl d/\Q d H'):=⟨S,F,.bl kk,S',R,nM hg,fun v F' H' R' st r=>⟨kk,m5 r,q F' H' R' st⟩⟩
 have h2:=ET h
 simpa[tB,yX] using h2⟩
end
section
variable {X:Cx}{pins:List (Addr×Obj)}{σ:St}{H:Hp}{s:Shared}{a:Addr}{kvs:List (Str×Int)}
end
section
variable {X:Cx}{e f:Expr}{x:Str}{px pos apos cpos:Pos}{ty tx:TE}{g gd:GD}{a:Addr}{kvs:List (Str×Int)}
end
section
variable {X:Cx}{e:Expr}{x:Str}{px pos:Pos}{g:GD}{a:Addr}{zs:List Str}
end
noncomputable def Uc:U->D->Option (Option D)
 | .m (.dct kvs),k=>(keyOf k).map (aT kvs)
 | .b (.dct kvs),k=>(keyOf k).map (aT kvs)
 | .m (.lU kvs),k=>(jW k).map (aT kvs)
 | .b (.lU kvs),k=>(jW k).map (aT kvs)
 | _,_=>none
noncomputable def qO:U->Bool
 | .m (.dct _)=>true
 | .b (.dct _)=>true
 | .m (.lU _)=>true
 | .b (.lU _)=>true
 | _=>false
theorem CL {K:PySem.W.Frag}{F H:Hp}{v:V}{u:U}(r:rU K F H v u) (h:qO u=true):∃a,v= .ref a/\NG H a:=by
 unfold qO at h
 split at h
 ·obtain⟨a,rfl,fa,ws,ha,pr⟩:=r;exact⟨a,rfl,.inl ⟨ws,.inl ha⟩⟩
 ·obtain⟨a,rfl,fa,ws,ha,pr⟩:=r;exact⟨a,rfl,.inl ⟨ws,.inl ha⟩⟩
 ·obtain⟨a,rfl,fa,ws,ha,pr⟩:=r;exact⟨a,rfl,.inr ⟨ws,.inl ha⟩⟩
 ·obtain⟨a,rfl,fa,ws,ha,pr⟩:=r;exact⟨a,rfl,.inr ⟨ws,.inl ha⟩⟩
 ·cases h
section
variable {X:Cx}{e f:Expr}{x:Str}{px pos apos cpos:Pos}{gk gd:GD}{ge:GE}
end
end L2
end
section
namespace HT
open PySem PySem.Spec PyProof.Rows
section
variable {prog:Program}{w:World}{A:Around}{E:Value->Shared->Prop}{s:Shared}
end
end HT
namespace L2
open PySem PySem.Spec PyProof.Rows
section
variable {X:Cx}{e st:Expr}{te ts:TE}{pos p2:Pos}
end
noncomputable def nX:List Int->Int
 | []=>0
 | [a]=>a
 | a :: b :: r=>max a (nX (b :: r))
theorem zz : ∀ {ns : List Int} {M : Int}, M ∈ ns -> (∀ a ∈ ns, a <= M) -> nX ns = M
  | [],_,h,_=>by cases h
  | [a],M,h,_=>by rw[List.mem_singleton.mp h];rfl
  | a :: b :: r, M, h, k => by
    have hb : ∀ x ∈ b :: r, x <= nX (b :: r) := by
      have:∀(l:List Int),∀x∈l,x<=nX l:=by
        intro l
        induction l with
        | nil=>intro x hx;cases hx
        | cons a l ih=>
          intro x hx
          cases l with
          | nil=>rw[List.mem_singleton.mp hx];exact Int.le_refl _
          | cons b r=>
            show x<=max a (nX (b :: r))
            rcases List.mem_cons.mp hx with rfl | q
            . omega
            . have:=ih x q;omega
      exact this _
    have hm:∀(l:List Int),l≠[]->nX l∈l:=by
      intro l
      induction l with
      | nil=>intro z;exact absurd rfl z
      | cons a l ih=>
        intro _
        cases l with
        | nil=>exact List.mem_singleton.mpr rfl
        | cons b r=>
          have:=ih (by simp)
          show max a (nX (b :: r))∈_
          by_cases c:a<=nX (b :: r)
          . rw[Int.max_eq_right c];exact List.mem_cons_of_mem _ this
          . rw[Int.max_eq_left (by omega)];exact List.mem_cons_self
    have h1:=hm (a :: b :: r) (by simp)
    have h2:=k _ h1
    show max a (nX (b :: r))=M
    have h3:max a (nX (b :: r))<=M:=h2
    rcases List.mem_cons.mp h with rfl | q
    . omega
    . have:=hb M q;omega
noncomputable def nY:List D->Option U
 | [.lst ds]=>(aY ds).bind fun bs=>if bs=[] then none else some (.t (.int (nX bs)))
 | _=>none
theorem CM {α:Type}{p:Prop} [Decidable p] {x y:α}(h:(if p then none else some x)=some y):¬p/\x=y:=by
 by_cases c:p
 ·rw[if_pos c] at h;cases h
 ·rw[if_neg c] at h;exact⟨c,Option.some.inj h⟩
section
variable {X:Cx}
theorem yc (hc:X.calm=true):gq X (.builtin "max") (rP nY):=by
 intro pins s σ H xs us Q I r ⟨F,ds,w,sb,rs,hw,q⟩
 obtain⟨x,d,rfl,rfl,r1⟩:=lY (P:=fun _=>True) rs hw rfl (fun d _ _=>by cases d <;> rfl)
 cases d <;> try (simp[nY] at hw;done)
 rename_i ds
 obtain⟨bs,h1,hw⟩:=ah (show(aY ds).bind _=some w from hw)
 obtain⟨hne,rfl⟩:=CM hw
 obtain⟨a,vs,rfl,fa,ha,mJ⟩:=sb.iy r1
 obtain rfl:=m9 mJ h1
 obtain⟨u,rfl,ru⟩:=vals1 r
 cases ru
 obtain⟨its,rv,pl,hz⟩:=I.list (.inl ha)
 have hi:IntsAre its.toArray.toList bs:=intsAre_of rv
 obtain⟨ys,e⟩:=hi.allInts.items
 have hns:bs=ys.toList.map (·.1):=by rw[<-hi.numsOf,<-nums_intItems,<-e]
 have hb:0 < bs.length:=by cases bs with | nil=>exact absurd rfl hne | cons _ _=>simp
 have hsz:0 < ys.size:=by
  have h3:=hb;rw[hns,List.length_map,Array.length_toList] at h3;exact h3
 have hl:=pl.isList
 have e':its.toArray=intItems ys:=by rw[<-e]
 rw[e'] at hl
 refine max_intList (I.ok.hd hc) hl hsz fun v h' tk hv hk=>?_
 obtain⟨t,rfl⟩:=intItems_at hv
 obtain⟨k1,k2⟩:=argBest_gt (numAt ys) (ys.size - 1)
 have em:nX bs=numAt ys (argBest (fun i j=>decide (numAt ys i > numAt ys j)) (ys.size - 1)):=by
  refine zz ?_ fun a ha=>?_
  ·rw[hns,numAt_eq];exact getD_mem (by rw[List.length_map,Array.length_toList];omega)
  ·rw[hns] at ha
   obtain⟨j,hj,rfl⟩:=mem_getD ha
   rw[List.length_map,Array.length_toList] at hj
   rw[<-numAt_eq];exact k2 j (by omega)
 rw[<-em]
 exact⟨.int _,H,I.kept (t':=tk) hk,⟨t,rfl⟩,q _ F H (iw.refl ..) sb (.int _)⟩
end
@[simp] theorem Mw (ds:List D):nY [.lst ds]=(aY ds).bind fun bs=>if bs=[] then none else some (.t (.int (nX bs))):=rfl
end L2
namespace HT
open PySem PySem.Spec PyProof.Rows
section
variable {prog:Program}{w:World}{A:Around}{E:Value->Shared->Prop}{s:Shared}
end
end HT
namespace L2
open PySem PySem.Spec PyProof.Rows
section
variable {X:Cx}{pos:Pos}
end
end L2
end
section
namespace L2
open PySem PySem.Spec PyProof.Rows PySem.Calls
section
variable {prog:Program}{w:World}{A:Around}{E:Value->Shared->Prop}{s:Shared}{a I:Addr}{ep:Nat}{t:SetTable}
end
section
variable {X:Cx}{a:Expr}{pos p p1 p2:Pos}{ga:GD}
end
end L2
end
section
namespace L2
open PySem PySem.Spec PyProof.Rows
section
variable {X:Cx}{x:Str}{p:Pos}{a:Addr}
end
section
variable {X:Cx}{e:Expr}{es:List Expr}{gu:GU}{x:Str}{p pos:Pos}{k n i:Nat}{t:TA}
end
end L2
end
section
namespace L2
open PySem PySem.Spec PyProof.Rows PySem.Calls
section
variable {X:Cx}{o e:Expr}{m:Str}{apos cpos:Pos}{id:String}{go ge:GD}{f:List D->Option U}
end
section
variable {X:Cx}
end
end L2
end
section
namespace L2
open PySem PySem.Spec PyProof.Rows
section
variable {X:Cx}{C:Addr}{e value:Expr}{es:List Expr}{gu:GU}{x y m:Str}{px p pos pos' apos tpos:Pos}{f:Str}{fm:FM}{fa:Addr}{fd:FuncData}{ps:List Str}{k n i:Nat}{g:GD}
end
end L2
end
section
namespace L2
open PySem PySem.Spec PyProof.Rows PySem.Calls
section
variable {X:Cx}
end
section
variable {X:Cx}{e f:Expr}{x:Str}{px pos apos cpos:Pos}{ty tx:TE}{g gd:GD}{a:Addr}{kvs:List (Str×Int)}
end
section
variable {prog:Program}{w:World}{A:Around}{E:Value->Shared->Prop}{s:Shared}
theorem nZ {M:Model}{a:Addr}{Q:Option Obj->Shared->Prop}(h:Q (s.heap.get? a) s):wpAny M A (loadIfAlive a) Q E s:=fun Γ p _=>by
 unfold loadIfAlive
 rw[Sem.wp_loadIfAlive]
 exact(wpAny_pure h:wpAny M A (pure (s.heap.get? a)) Q E s) Γ p (by assumption)
noncomputable abbrev iB (h:Heap) (z TI TO:Addr) (f0 f1:Value):Prop:=h.get? z=some {cls:=.type "zip",dict:=none,data:=.fields #[f0,f1,.bool false,.ref TI,.ref TO],slots:=#[]}
noncomputable def Oi (f0 f1:Value):Prop:=(f0= .none\/∃T:Int,f0=rawInt T)/\∃b,f1= .bool b
structure ng (N:Nat) (k0 k1:Bool) (l0 l1:Nat) (i:Nat) (h:Heap):Prop where
 z:∃f0 f1,Oi f0 f1/\iB h (N+4) (N+2) (N+3) f0 f1
 ti:TupAt h (N+2) #[.ref N,.ref (N+1)]
 to:∃v:List Value,v.length=2/\TupAt h (N+3) v.toArray
 c0:kQ k0 h N l0 i
 c1:kQ k1 h (N+1) l1 i
theorem Ig.l {N:Nat}{k0 k1:Bool}{l0 l1 i:Nat}{h:Heap}(x:Ig N k0 k1 l0 l1 i .none h):ng N k0 k1 l0 l1 i h:=⟨⟨_,_,⟨.inl rfl,_,rfl⟩,x.z⟩,x.ti,x.to,x.c0,x.c1⟩
theorem wg {z TI TO : Addr} {f0 f1 : Value} {Q : Bool -> Shared -> Prop} (hz : iB s.heap z TI TO f0 f1) (hf : Oi f0 f1)
    (q:∀b h' g0 g1,Oi g0 g1->iB h' z TI TO g0 g1->Heap.SameBut z s.heap h'->Q b {s with heap:=h'}):wpAny (model prog w) A (Builtin.SmallTypes.ownedTupleIsFree (.ref z)) Q E s:=by
  unfold Builtin.SmallTypes.ownedTupleIsFree
  have same:Heap.SameBut z s.heap s.heap:=⟨rfl,fun _ _=>rfl⟩
  obtain⟨h0,b1,rfl⟩:=id hf
  rcases h0 with rfl | ⟨T,rfl⟩
  . exact wpAny_bind (wpAny_field hz rfl (x:=.none) rfl (wpAny_pure (q true s.heap _ _ hf hz same)))
  . refine wpAny_bind (wpAny_field hz rfl (x:=rawInt T) rfl ?_)
    show wpAny _ _ (loadIfAlive T.toNat >>= _) _ _ _
    refine wpAny_bind (nZ ?_)
    cases hl:s.heap.get? T.toNat with
    | none=>exact wpAny_pure (q true s.heap _ _ hf hz same)
    | some o=>
      show wpAny _ _ (field (.ref z) 1 >>= _) _ _ _
      refine wpAny_bind (wpAny_field hz rfl (x:=.bool b1) rfl ?_)
      cases b1 with
      | true=>exact wpAny_pure (q false s.heap _ _ hf hz same)
      | false=>
        show wpAny _ _ (setField (.ref z) 1 (.bool true) >>= _) _ _ _
        refine wpAny_bind (wpAny_setField_rec hz (by simp) fun h' hz' e'=>?_)
        exact wpAny_pure (q false h' (rawInt T) (.bool true) ⟨.inr ⟨T,rfl⟩,true,rfl⟩ hz' e')
theorem CN {N i:Nat}{k0 k1:Bool}{l0 l1:Nat}{v0 v1:Array Value}{x0 x1:Value}{Q:Option Value->Shared->Prop}(st:ng N k0 k1 l0 l1 i s.heap)
  (Lh:nF k0 s.heap l0 v0) (AH:v0[i]? =some x0) (CO:l0 < N)
  (Ih:nF k1 s.heap l1 v1) (AI:v1[i]? =some x1) (DN:l1 < N)
  (q:∀h',ng N k0 k1 l0 l1 (i+1) h'->TupAt h' s.heap.objs.size #[x0,x1]->(∀(b:Nat) o,b∉jy N->s.heap.get? b=some o->h'.get? b=some o)->Q (some (.ref s.heap.objs.size)) {s with heap:=h'}):
  wpAny (model prog w) A (pyNext (.ref (N+4))) Q E s:=by
 obtain⟨⟨f0,f1,hf,hz⟩,hTI,⟨w0,hw0,hTO⟩,d0,d1⟩:=st
 obtain⟨a0,a1,rfl⟩:∃a0 a1,w0=[a0,a1]:=by
  match w0,hw0 with
  | [a0,a1],_=>exact⟨_,_,rfl⟩
 have hT:s.TypeIs (.ref (N+4)) "zip":=⟨_,hz,rfl⟩
 unfold pyNext
 refine wpAny_bind (wpAny_attempt (wpAny_callSpecial?_slot (name:=Str.ofString "__next__") hT F.slot_zip_next (wpAny_call_entry F.slot_zip_next hT F.entry_zip_next ?_ (F.args_zip_next_1 _))))
 show wpAny _ _ (field (.ref (N+4)) 2 >>= _) _ _ _;refine wpAny_bind (wpAny_field hz rfl (x:=.bool false) rfl ?_)
 show wpAny _ _ (field (.ref (N+4)) 3 >>= _) _ _ _;refine wpAny_bind (wpAny_field hz rfl (x:=.ref (N+2)) rfl ?_)
 refine wpAny_bind (wpAny_seqItems hTI rfl ?_);show wpAny _ _ (Builtin.SmallTypes.ownedTupleIsFree (.ref (N+4)) >>= _) _ _ _
 refine wpAny_bind (wg hz hf fun fr qP q0 fl hf' hz' uc=>?_)
 clear hf hz hT
 have uc:Heap.SameBut (N+4) s.heap qP:=uc
 cases fr
 case false=>
  have Gq:∀(b:Nat) o,b∉jy N->s.heap.get? b=some o->qP.get? b=some o:=fun b o hb y=>(uc.2 b fun z=>hb (aL.mpr (by have z:@Eq Nat b _:=z;omega))).trans y
  have d0:kQ k0 qP N l0 i:=d0.at fun o y=>(uc.2 _ (by first | omega | (show @Ne Nat _ _;omega))).trans y
  have d1:kQ k1 qP (N+1) l1 i:=d1.at fun o y=>(uc.2 _ (by first | omega | (show @Ne Nat _ _;omega))).trans y
  have hTO:TupAt qP (N+3) #[a0,a1]:=(uc.2 _ (by first | omega | (show @Ne Nat _ _;omega))).trans hTO
  have hTI:TupAt qP (N+2) #[.ref N,.ref (N+1)]:=(uc.2 _ (by first | omega | (show @Ne Nat _ _;omega))).trans hTI
  have yf:nF k0 qP l0 v0:=Lh.at fun o y=>Gq _ o (fun z=>by have:=aL.mp z;omega) y
  have yg:nF k1 qP l1 v1:=Ih.at fun o y=>Gq _ o (fun z=>by have:=aL.mp z;omega) y
  simp only[Bool.false_eq_true,if_false]
  refine wpAny_bind ?_
  rw[<-Array.forIn_toList]
  simp only[List.forIn_cons,List.forIn_nil]
  refine wpAny_bind (wpAny_bind (wpAny_holding ?_));show wpAny _ _ (Builtin.SmallTypes.nextOf (.ref N) >>= _) _ _ _
  refine wpAny_bind (nextK d0 yf AH fun g1 c0 e1=>wpAny_pure (wpAny_pure ?_))
  have e1:Heap.SameBut N qP g1:=e1
  have m1:∀(b:Nat) o,b∉jy N->s.heap.get? b=some o->g1.get? b=some o:=fun b o hb y=>(e1.2 b fun z=>hb (aL.mpr (by have z:@Eq Nat b _:=z;omega))).trans (Gq b o hb y)
  have d1:kQ k1 g1 (N+1) l1 i:=d1.at fun o y=>(e1.2 _ (by first | omega | (show @Ne Nat _ _;omega))).trans y
  have yg:nF k1 g1 l1 v1:=Ih.at fun o y=>m1 _ o (fun z=>by have:=aL.mp z;omega) y
  refine wpAny_bind (wpAny_bind (wpAny_holding ?_));show wpAny _ _ (Builtin.SmallTypes.nextOf (.ref (N+1)) >>= _) _ _ _
  refine wpAny_bind (nextK d1 yg AI fun g2 c1 e2=>wpAny_pure (wpAny_pure (wpAny_pure ?_)))
  have e2:Heap.SameBut (N+1) g1 g2:=e2
  have s2:g2.objs.size=s.heap.objs.size:=by rw[e2.1,e1.1,uc.1]
  refine wpAny_bind (wpAny_newTuple ?_ (show 2<=sizeLine by decide))
  refine wpAny_pure ⟨_,rfl,wpAny_pure ?_⟩
  have keep:∀(b:Nat) o,b≠N->b≠N+1->qP.get? b=some o->(g2.push {cls:=.type "tuple",data:=.seq #[x0,x1]}).get? b=some o:=fun b o h1 h2 y=>Heap.get?_push_of_some _ ((e2.2 _ h2).trans ((e1.2 _ h1).trans y))
  have tt:TupAt (g2.push {cls:=.type "tuple",data:=.seq #[x0,x1]}) g2.objs.size #[x0,x1]:=Heap.get?_push_size _ rfl
  have q':=q (g2.push {cls:=.type "tuple",data:=.seq #[x0,x1]}) ⟨⟨_,_,hf',keep _ _ (by first | omega | (show @Ne Nat _ _;omega)) (by first | omega | (show @Ne Nat _ _;omega)) hz'⟩,keep _ _ (by first | omega | (show @Ne Nat _ _;omega)) (by first | omega | (show @Ne Nat _ _;omega)) hTI,⟨[a0,a1],rfl,keep _ _ (by first | omega | (show @Ne Nat _ _;omega)) (by first | omega | (show @Ne Nat _ _;omega)) hTO⟩,c0.at fun o y=>Heap.get?_push_of_some _ ((e2.2 _ (by first | omega | (show @Ne Nat _ _;omega))).trans y),c1.at fun o y=>Heap.get?_push_of_some _ y⟩ (by rw[<-s2];exact tt) fun b o hb y=>Heap.get?_push_of_some _ ((e2.2 b fun z=>hb (aL.mpr (by have z:@Eq Nat b _:=z;omega))).trans (m1 b o hb y))
  rw[<-s2] at q'
  exact q'
 simp only[if_true];refine wpAny_bind (wpAny_rule ?_);refine wpAny_bind (wpAny_field hz' rfl (x:=.ref (N+3)) rfl ?_)
 refine wpAny_bind (wpAny_setField_rec hz' (by simp) fun g0 z0 e0=>?_)
 have e0:Heap.SameBut (N+4) qP g0:=e0
 have e0:Heap.SameBut (N+4) s.heap g0:=⟨e0.1.trans uc.1,fun b hb=>(e0.2 b hb).trans (uc.2 b hb)⟩
 have z0:iB g0 (N+4) (N+2) (N+3) .ellipsis fl:=z0
 have e0:Heap.SameBut (N+4) s.heap g0:=e0
 refine wpAny_bind ?_;simp only[List.zipIdx_cons,List.zipIdx_nil,List.forIn_cons,List.forIn_nil]
 have t0:TupAt g0 (N+3) #[a0,a1]:=(e0.2 _ (by first | omega | (show @Ne Nat _ _;omega))).trans hTO
 have m0:∀(b:Nat) o,b∉jy N->s.heap.get? b=some o->g0.get? b=some o:=fun b o hb y=>(e0.2 b fun z=>hb (aL.mpr (by have z:@Eq Nat b _:=z;omega))).trans y
 have Mx:kQ k0 g0 N l0 i:=d0.at fun o y=>(e0.2 _ (by first | omega | (show @Ne Nat _ _;omega))).trans y
 have Ii:kQ k1 g0 (N+1) l1 i:=d1.at fun o y=>(e0.2 _ (by first | omega | (show @Ne Nat _ _;omega))).trans y
 refine wpAny_bind (wpAny_bind (wpAny_onRaise ?_));show wpAny _ _ (Builtin.SmallTypes.nextOf (.ref N) >>= _) _ _ _
 refine wpAny_bind (nextK Mx (Lh.at fun o y=>m0 _ o (fun z=>by have:=aL.mp z;omega) y) AH fun g1 c0 e1=>wpAny_pure ?_)
 have e1:Heap.SameBut N g0 g1:=e1
 have t1:TupAt g1 (N+3) #[a0,a1]:=(e1.2 _ (by first | omega | (show @Ne Nat _ _;omega))).trans t0
 refine wpAny_bind (wpAny_seqItems t1 rfl ?_);refine wpAny_bind (Ie t1 (show 2<=sizeLine by decide) fun g2 t2 e2=>?_)
 have t2:TupAt g2 (N+3) #[x0,a1]:=t2
 have e2:Heap.SameBut (N+3) g1 g2:=e2
 have z1:iB g2 (N+4) (N+2) (N+3) .ellipsis fl:=(e2.2 _ (by first | omega | (show @Ne Nat _ _;omega))).trans ((e1.2 _ (by first | omega | (show @Ne Nat _ _;omega))).trans z0)
 have m2:∀(b:Nat) o,b∉jy N->s.heap.get? b=some o->g2.get? b=some o:=fun b o hb y=>(e2.2 b fun z=>hb (aL.mpr (by have z:@Eq Nat b _:=z;omega))).trans ((e1.2 b fun z=>hb (aL.mpr (by have z:@Eq Nat b _:=z;omega))).trans (m0 b o hb y))
 refine wpAny_bind (wpAny_letGo (wpAny_pure ?_))
 have c0:kQ k0 g2 N l0 (i+1):=c0.at fun o y=>(e2.2 _ (by first | omega | (show @Ne Nat _ _;omega))).trans y
 have Ii:kQ k1 g2 (N+1) l1 i:=Ii.at fun o y=>(e2.2 _ (by first | omega | (show @Ne Nat _ _;omega))).trans ((e1.2 _ (by first | omega | (show @Ne Nat _ _;omega))).trans y)
 have i0:g2.get? (N+2)=s.heap.get? (N+2):=by rw[e2.2 _ (by first | omega | (show @Ne Nat _ _;omega)),e1.2 _ (by first | omega | (show @Ne Nat _ _;omega)),e0.2 _ (by first | omega | (show @Ne Nat _ _;omega))]
 have s0:g2.objs.size=s.heap.objs.size:=by rw[e2.1,e1.1,e0.1]
 refine wpAny_bind (wpAny_bind (wpAny_onRaise ?_));show wpAny _ _ (Builtin.SmallTypes.nextOf (.ref (N+1)) >>= _) _ _ _
 refine wpAny_bind (nextK Ii (Ih.at fun o y=>m2 _ o (fun z=>by have:=aL.mp z;omega) y) AI fun g3 c1 e3=>wpAny_pure ?_)
 have e3:Heap.SameBut (N+1) g2 g3:=e3
 have t3:TupAt g3 (N+3) #[x0,a1]:=(e3.2 _ (by first | omega | (show @Ne Nat _ _;omega))).trans t2
 refine wpAny_bind (wpAny_seqItems t3 rfl ?_);refine wpAny_bind (Ie t3 (show 2<=sizeLine by decide) fun g4 t4 e4=>?_)
 have t4:TupAt g4 (N+3) #[x0,x1]:=t4
 have e4:Heap.SameBut (N+3) g3 g4:=e4
 have z2:iB g4 (N+4) (N+2) (N+3) .ellipsis fl:=(e4.2 _ (by first | omega | (show @Ne Nat _ _;omega))).trans ((e3.2 _ (by first | omega | (show @Ne Nat _ _;omega))).trans z1)
 have m4:∀(b:Nat) o,b∉jy N->s.heap.get? b=some o->g4.get? b=some o:=fun b o hb y=>(e4.2 b fun z=>hb (aL.mpr (by have z:@Eq Nat b _:=z;omega))).trans ((e3.2 b fun z=>hb (aL.mpr (by have z:@Eq Nat b _:=z;omega))).trans (m2 b o hb y))
 refine wpAny_bind (wpAny_letGo (wpAny_pure (wpAny_pure ?_)))
 have c0:kQ k0 g4 N l0 (i+1):=c0.at fun o y=>(e4.2 _ (by first | omega | (show @Ne Nat _ _;omega))).trans ((e3.2 _ (by first | omega | (show @Ne Nat _ _;omega))).trans y)
 have c1:kQ k1 g4 (N+1) l1 (i+1):=c1.at fun o y=>(e4.2 _ (by first | omega | (show @Ne Nat _ _;omega))).trans y
 have i1:g4.get? (N+2)=s.heap.get? (N+2):=by rw[e4.2 _ (by first | omega | (show @Ne Nat _ _;omega)),e3.2 _ (by first | omega | (show @Ne Nat _ _;omega)),i0]
 have s1:g4.objs.size=s.heap.objs.size:=by rw[e4.1,e3.1,s0]
 refine wpAny_bind (wpAny_seqItems t4 rfl ?_);refine wpAny_bind (wpAny_newTuple ?_)
 have RE:(N+4) < g4.objs.size:=Heap.lt_size z2
 show wpAny _ _ (Builtin.SmallTypes.ownedTupleHandOut (.ref (N+4)) (.ref g4.objs.size) >>= _) _ _ _;refine wpAny_bind ?_;unfold Builtin.SmallTypes.ownedTupleHandOut
 have y0:iB (g4.push {cls:=.type "tuple",data:=.seq #[x0,x1]}) (N+4) (N+2) (N+3) .ellipsis fl:=Heap.get?_push_of_some _ z2
 refine wpAny_bind (wpAny_setField_rec y0 (by simp) fun f1 y1 r1=>?_)
 have y1:iB f1 (N+4) (N+2) (N+3) (rawInt g4.objs.size) fl:=y1
 refine wpAny_setField_rec y1 (by simp) fun f2 y2 r2=>?_
 have y2:iB f2 (N+4) (N+2) (N+3) (rawInt g4.objs.size) (.bool false):=y2
 have up:∀b o,b≠(N+4)->g4.get? b=some o->f2.get? b=some o:=fun b o hb y=>r2.extBut _ _ hb (r1.extBut _ _ hb (Heap.get?_push_of_some _ y))
 have tt:TupAt f2 g4.objs.size #[x0,x1]:=r2.extBut _ _ (Nat.ne_of_gt RE) (r1.extBut _ _ (Nat.ne_of_gt RE) (Heap.get?_push_size _ rfl))
 rw[s1] at y2 tt
 refine wpAny_pure ⟨_,rfl,wpAny_pure ?_⟩
 rw[s1]
 exact q f2 ⟨⟨_,_,⟨.inr ⟨_,rfl⟩,false,rfl⟩,y2⟩,up _ _ (by first | omega | (show @Ne Nat _ _;omega)) (i1.trans hTI),⟨[x0,x1],rfl,up _ _ (by first | omega | (show @Ne Nat _ _;omega)) t4⟩,c0.at fun o y=>up _ o (by first | omega | (show @Ne Nat _ _;omega)) y,c1.at fun o y=>up _ o (by first | omega | (show @Ne Nat _ _;omega)) y⟩ tt fun b o hb y=>up b o (fun z=>hb (aL.mpr (by have z:@Eq Nat b _:=z;omega))) (m4 b o hb y)
theorem EU {N i : Nat} {k0 k1 : Bool} {l0 l1 : Nat} {v0 v1 : Array Value} {Q : Option Value -> Shared -> Prop} (hn : A.handled = none) (st : ng N k0 k1 l0 l1 i s.heap)
    (Lh:nF k0 s.heap l0 v0) (CO:l0 < N)
    (Ih:nF k1 s.heap l1 v1) (DN:l1 < N)
    (hend:v0[i]? =none\/v1[i]? =none)
    (q:∀h',(∀(b:Nat) o,b∉jy N->s.heap.get? b=some o->h'.get? b=some o)->Q none {s with heap:=h'}):
    wpAny (model prog w) A (pyNext (.ref (N+4))) Q E s:=by
  obtain⟨⟨f0,f1,hf,hz⟩,hTI,⟨w0,hw0,hTO⟩,d0,d1⟩:=st
  obtain⟨a0,a1,rfl⟩:∃a0 a1,w0=[a0,a1]:=by
    match w0,hw0 with
    | [a0,a1],_=>exact⟨_,_,rfl⟩
  have hT:s.TypeIs (.ref (N+4)) "zip":=⟨_,hz,rfl⟩
  unfold pyNext
  refine wpAny_bind (wpAny_attempt (wpAny_callSpecial?_slot (name:=Str.ofString "__next__") hT F.slot_zip_next (wpAny_call_entry F.slot_zip_next hT F.entry_zip_next ?_ (F.args_zip_next_1 _))))
  show wpAny _ _ (field (.ref (N+4)) 2 >>= _) _ _ _;refine wpAny_bind (wpAny_field hz rfl (x:=.bool false) rfl ?_)
  show wpAny _ _ (field (.ref (N+4)) 3 >>= _) _ _ _;refine wpAny_bind (wpAny_field hz rfl (x:=.ref (N+2)) rfl ?_)
  refine wpAny_bind (wpAny_seqItems hTI rfl ?_);show wpAny _ _ (Builtin.SmallTypes.ownedTupleIsFree (.ref (N+4)) >>= _) _ _ _
  refine wpAny_bind (wg hz hf fun fr qP q0 fl hf' hz' uc=>?_)
  clear hf hz hT
  have uc:Heap.SameBut (N+4) s.heap qP:=uc
  cases fr
  case false=>
    have Gq:∀(b:Nat) o,b∉jy N->s.heap.get? b=some o->qP.get? b=some o:=fun b o hb y=>(uc.2 b fun z=>hb (aL.mpr (by have z:@Eq Nat b _:=z;omega))).trans y
    have d0:kQ k0 qP N l0 i:=d0.at fun o y=>(uc.2 _ (by first | omega | (show @Ne Nat _ _;omega))).trans y
    have d1:kQ k1 qP (N+1) l1 i:=d1.at fun o y=>(uc.2 _ (by first | omega | (show @Ne Nat _ _;omega))).trans y
    have hTO:TupAt qP (N+3) #[a0,a1]:=(uc.2 _ (by first | omega | (show @Ne Nat _ _;omega))).trans hTO
    have hTI:TupAt qP (N+2) #[.ref N,.ref (N+1)]:=(uc.2 _ (by first | omega | (show @Ne Nat _ _;omega))).trans hTI
    have yf:nF k0 qP l0 v0:=Lh.at fun o y=>Gq _ o (fun z=>by have:=aL.mp z;omega) y
    have yg:nF k1 qP l1 v1:=Ih.at fun o y=>Gq _ o (fun z=>by have:=aL.mp z;omega) y
    simp only[Bool.false_eq_true,if_false]
    refine wpAny_bind ?_
    rw[<-Array.forIn_toList]
    simp only[List.forIn_cons,List.forIn_nil]
    refine wpAny_bind (wpAny_bind (wpAny_holding ?_));show wpAny _ _ (Builtin.SmallTypes.nextOf (.ref N) >>= _) _ _ _
    cases AH:v0[i]? with
    | none=>
      refine wpAny_bind (AF hn d0 yf AH fun u1 e r1 he=>?_)
      have r1:Heap.ExtBut N qP u1:=r1
      obtain⟨oe,CP,hce⟩:=he
      exact wpAny_bind (wpAny_isInstance (T:="StopIteration") (b:=true) ⟨oe,CP,hce⟩ isSubtype_stop (wpAny_pure (q _ fun b o hb y=>r1 _ _ (fun z=>hb (aL.mpr (by have z:@Eq Nat b _:=z;omega))) (Gq b o hb y))))
    | some x0=>
      refine wpAny_bind (nextK d0 yf AH fun g1 c0 e1=>wpAny_pure (wpAny_pure ?_))
      have e1:Heap.SameBut N qP g1:=e1
      have m1:∀(b:Nat) o,b∉jy N->s.heap.get? b=some o->g1.get? b=some o:=fun b o hb y=>(e1.2 b fun z=>hb (aL.mpr (by have z:@Eq Nat b _:=z;omega))).trans (Gq b o hb y)
      have d1:kQ k1 g1 (N+1) l1 i:=d1.at fun o y=>(e1.2 _ (by first | omega | (show @Ne Nat _ _;omega))).trans y
      have yg:nF k1 g1 l1 v1:=Ih.at fun o y=>m1 _ o (fun z=>by have:=aL.mp z;omega) y
      refine wpAny_bind (wpAny_bind (wpAny_holding ?_));show wpAny _ _ (Builtin.SmallTypes.nextOf (.ref (N+1)) >>= _) _ _ _
      cases AI:v1[i]? with
      | none=>
        refine wpAny_bind (AF hn d1 yg AI fun u1 e r1 he=>?_)
        have r1:Heap.ExtBut (N+1) g1 u1:=r1
        obtain⟨oe,CP,hce⟩:=he
        exact wpAny_bind (wpAny_isInstance (T:="StopIteration") (b:=true) ⟨oe,CP,hce⟩ isSubtype_stop (wpAny_pure (q _ fun b o hb y=>r1 _ _ (fun z=>hb (aL.mpr (by have z:@Eq Nat b _:=z;omega))) (m1 b o hb y))))
      | some x1=>exact absurd hend (by simp only[AH,AI];rintro(h | h) <;> cases h)
  simp only[if_true];refine wpAny_bind (wpAny_rule ?_);refine wpAny_bind (wpAny_field hz' rfl (x:=.ref (N+3)) rfl ?_)
  refine wpAny_bind (wpAny_setField_rec hz' (by simp) fun g0 z0 e0=>?_)
  have e0:Heap.SameBut (N+4) qP g0:=e0
  have e0:Heap.SameBut (N+4) s.heap g0:=⟨e0.1.trans uc.1,fun b hb=>(e0.2 b hb).trans (uc.2 b hb)⟩
  have z0:iB g0 (N+4) (N+2) (N+3) .ellipsis fl:=z0
  have e0:Heap.SameBut (N+4) s.heap g0:=e0
  refine wpAny_bind ?_;simp only[List.zipIdx_cons,List.zipIdx_nil,List.forIn_cons,List.forIn_nil]
  have t0:TupAt g0 (N+3) #[a0,a1]:=(e0.2 _ (by first | omega | (show @Ne Nat _ _;omega))).trans hTO
  have m0:∀(b:Nat) o,b∉jy N->s.heap.get? b=some o->g0.get? b=some o:=fun b o hb y=>(e0.2 b fun z=>hb (aL.mpr (by have z:@Eq Nat b _:=z;omega))).trans y
  have Mx:kQ k0 g0 N l0 i:=d0.at fun o y=>(e0.2 _ (by first | omega | (show @Ne Nat _ _;omega))).trans y
  have Ii:kQ k1 g0 (N+1) l1 i:=d1.at fun o y=>(e0.2 _ (by first | omega | (show @Ne Nat _ _;omega))).trans y
  refine wpAny_bind (wpAny_bind (wpAny_onRaise ?_));show wpAny _ _ (Builtin.SmallTypes.nextOf (.ref N) >>= _) _ _ _
  have yf:nF k0 g0 l0 v0:=Lh.at fun o y=>m0 _ o (fun z=>by have:=aL.mp z;omega) y
  cases AH:v0[i]? with
  | none=>
    refine wpAny_bind (AF hn Mx yf AH fun u1 e r1 he=>?_)
    have r1:Heap.ExtBut N g0 u1:=r1
    obtain⟨oe,CP,hce⟩:=he
    have y1:iB u1 (N+4) (N+2) (N+3) .ellipsis fl:=r1 _ _ (by first | omega | (show @Ne Nat _ _;omega)) z0
    have Oj:e≠(N+4):=fun x=>by subst x;rw[y1] at CP;cases CP;simp at hce
    refine wpAny_setField_rec y1 (by simp) fun u2 _ r2=>?_
    have r2:Heap.SameBut (N+4) u1 u2:=r2
    refine wpAny_bind (wpAny_isInstance (T:="StopIteration") (b:=true) ⟨oe,r2.extBut _ _ Oj CP,hce⟩ isSubtype_stop (wpAny_pure (q _ fun b o hb y=>r2.extBut _ _ (fun z=>hb (aL.mpr (by have z:@Eq Nat b _:=z;omega))) (r1 _ _ (fun z=>hb (aL.mpr (by have z:@Eq Nat b _:=z;omega))) (m0 b o hb y)))))
  | some x0=>
    refine wpAny_bind (nextK Mx yf AH fun g1 c0 e1=>wpAny_pure ?_)
    have e1:Heap.SameBut N g0 g1:=e1
    have t1:TupAt g1 (N+3) #[a0,a1]:=(e1.2 _ (by first | omega | (show @Ne Nat _ _;omega))).trans t0
    refine wpAny_bind (wpAny_seqItems t1 rfl ?_);refine wpAny_bind (Ie t1 (show 2<=sizeLine by decide) fun g2 t2 e2=>?_)
    have t2:TupAt g2 (N+3) #[x0,a1]:=t2
    have e2:Heap.SameBut (N+3) g1 g2:=e2
    have z1:iB g2 (N+4) (N+2) (N+3) .ellipsis fl:=(e2.2 _ (by first | omega | (show @Ne Nat _ _;omega))).trans ((e1.2 _ (by first | omega | (show @Ne Nat _ _;omega))).trans z0)
    have m2:∀(b:Nat) o,b∉jy N->s.heap.get? b=some o->g2.get? b=some o:=fun b o hb y=>(e2.2 b fun z=>hb (aL.mpr (by have z:@Eq Nat b _:=z;omega))).trans ((e1.2 b fun z=>hb (aL.mpr (by have z:@Eq Nat b _:=z;omega))).trans (m0 b o hb y))
    refine wpAny_bind (wpAny_letGo (wpAny_pure ?_))
    have Ii:kQ k1 g2 (N+1) l1 i:=Ii.at fun o y=>(e2.2 _ (by first | omega | (show @Ne Nat _ _;omega))).trans ((e1.2 _ (by first | omega | (show @Ne Nat _ _;omega))).trans y)
    refine wpAny_bind (wpAny_bind (wpAny_onRaise ?_));show wpAny _ _ (Builtin.SmallTypes.nextOf (.ref (N+1)) >>= _) _ _ _
    have yg:nF k1 g2 l1 v1:=Ih.at fun o y=>m2 _ o (fun z=>by have:=aL.mp z;omega) y
    cases AI:v1[i]? with
    | none=>
      refine wpAny_bind (AF hn Ii yg AI fun u1 e r1 he=>?_)
      have r1:Heap.ExtBut (N+1) g2 u1:=r1
      obtain⟨oe,CP,hce⟩:=he
      have y1:iB u1 (N+4) (N+2) (N+3) .ellipsis fl:=r1 _ _ (by first | omega | (show @Ne Nat _ _;omega)) z1
      have Oj:e≠(N+4):=fun x=>by subst x;rw[y1] at CP;cases CP;simp at hce
      refine wpAny_setField_rec y1 (by simp) fun u2 _ r2=>?_
      have r2:Heap.SameBut (N+4) u1 u2:=r2
      refine wpAny_bind (wpAny_isInstance (T:="StopIteration") (b:=true) ⟨oe,r2.extBut _ _ Oj CP,hce⟩ isSubtype_stop (wpAny_pure (q _ fun b o hb y=>r2.extBut _ _ (fun z=>hb (aL.mpr (by have z:@Eq Nat b _:=z;omega))) (r1 _ _ (fun z=>hb (aL.mpr (by have z:@Eq Nat b _:=z;omega))) (m2 b o hb y)))))
    | some x1=>
        exact absurd hend (by simp only[AH,AI];rintro(h | h) <;> cases h)
end
theorem yh:typeLookup (.type "zip") "__len__" =pure none:=by rw[typeLookup_type,builtinLookup_eq_fast];kernel_rfl
theorem wj:typeLookup (.type "zip") "__length_hint__" =pure none:=by rw[typeLookup_type,builtinLookup_eq_fast];kernel_rfl
theorem ng.keep {N:Nat}{k0 k1:Bool}{l0 l1 i:Nat}{h h':Heap}(x:ng N k0 k1 l0 l1 i h) (g:∀b∈jy N,∀o,h.get? b=some o->h'.get? b=some o):ng N k0 k1 l0 l1 i h':=by
 obtain⟨⟨f0,f1,hf,hz⟩,hTI,⟨w0,hw0,hTO⟩,d0,d1⟩:=x
 exact⟨⟨f0,f1,hf,g _ (by rw[aL];omega) _ hz⟩,g _ (by rw[aL];omega) _ hTI,⟨w0,hw0,g _ (by rw[aL];omega) _ hTO⟩,d0.at fun o q=>g _ (by rw[aL];omega) o q,d1.at fun o q=>g _ (by rw[aL];omega) o q⟩
theorem ng.typeIs {N:Nat}{k0 k1:Bool}{l0 l1 i:Nat}{s:Shared}(x:ng N k0 k1 l0 l1 i s.heap):s.TypeIs (.ref (N+4)) "zip":=by
 obtain⟨⟨f0,f1,hf,hz⟩,_⟩:=x
 exact⟨_,hz,rfl⟩
theorem ng.lt {N:Nat}{k0 k1:Bool}{l0 l1 i:Nat}{h:Heap}(x:ng N k0 k1 l0 l1 i h):@LT.lt Nat _ (N+4) h.objs.size:=by
 obtain⟨⟨f0,f1,hf,hz⟩,_⟩:=x
 exact Heap.lt_size hz
noncomputable def ZW (K:PySem.W.Frag) (k0 k1:Bool) (l0 l1:Addr) (pZ p5:List V) (S:Addr) (W:Nat->List V->Hp->Prop):Prop:=∀i ys H,W i ys H->Bm K H k0 l0 pZ/\Bm K H k1 l1 p5/\H S=some (.lst ys)/\ys.length=i/\
 ∀x0 x1 p,pZ[i]? =some x0->p5[i]? =some x1->H p=none->W (i+1) (ys++[.ref p]) (upd (upd H p (.tup [x0,x1])) S (.lst (ys++[.ref p])))
theorem Vals.snoc {xs:List V}{us:List Value}{x:V}{u:Value}(r:Vals xs us) (q:RelV x u):Vals (xs++[x]) (us++[u]):=r.append (.cons q .nil)
section
variable {X:Cx}{pins:List (Addr×Obj)}{σ:St}{A:Around}{R:Result->Shared->Prop}{N:Nat}{k0 k1:Bool}{l0 l1:Nat}{pZ p5:List V}{S:Addr}{W:Nat->List V->Hp->Prop}{res:Value}
theorem EV (hh : A.handled = none) (CO : l0 < N) (DN : l1 < N) (zw : ZW X.K k0 k1 l0 l1 pZ p5 S W)
    (hR:∀ys H s',Inv X pins σ H s'->W (min pZ.length p5.length) ys H->R (.ok (.ret res)) s'):
    ∀(k i:Nat) (s:Shared) (H:Hp) (ys:List V),min pZ.length p5.length - i=k->i<=min pZ.length p5.length->Inv X pins σ H s->(∀b∈jy N,kX X pins H b)->ng N k0 k1 l0 l1 i s.heap->W i ys H->
    codeAny (model X.prog X.w) A (.builtin "list.extend.loop" ⟨[.ref S,.ref (N+4),res],[]⟩) R s:=by
  intro k
  induction k with
  | zero=>
    intro i s H ys hk hi I hf st hw
    have hin:i=min pZ.length p5.length:=by omega
    subst hin
    obtain⟨h0,h1,hS,hl,_⟩:=zw _ _ _ hw
    obtain⟨Li,My,p0,hz0⟩:=I.EJ h0
    obtain⟨Lj,Mz,p1,hz1⟩:=I.EJ h1
    have e0:=My.length
    have e1:=Mz.length
    refine codeAny_builtin F.entry_extend_loop ?_
    rw[Around.under_plainId F.plain_extend_loop _]
    show wpAny _ A.in1 (pyNext (.ref (N+4)) >>= _) _ _ s
    refine wpAny_bind (EU hh st p0 CO p1 DN ?_ fun h' hk'=>wpAny_pure (hR ys H _ (I.uQ (t':=s.toks) hk' hf) hw))
    simp only[List.getElem?_toArray,List.getElem?_eq_none_iff]
    omega
  | succ k ih=>
    intro i s H ys hk hi I hf st hw
    have hlt:i < min pZ.length p5.length:=by omega
    obtain⟨h0,h1,hS,hl,hstep⟩:=zw _ _ _ hw
    obtain⟨Li,My,p0,hz0⟩:=I.EJ h0
    obtain⟨Lj,Mz,p1,hz1⟩:=I.EJ h1
    obtain⟨x0,AH⟩:∃x,pZ[i]? =some x:=⟨pZ[i]'(by omega),List.getElem?_eq_getElem _⟩
    obtain⟨x1,AI⟩:∃x,p5[i]? =some x:=⟨p5[i]'(by omega),List.getElem?_eq_getElem _⟩
    obtain⟨u0,Ud,Ue⟩:=My.get AH
    obtain⟨u1,hu1,Ug⟩:=Mz.get AI
    have slt:∀b∈jy N,b < s.heap.objs.size:=fun b hb=>by have h1:=aL.mp hb;have h2:=st.lt;show @LT.lt Nat _ b s.heap.objs.size;omega
    refine codeAny_builtin F.entry_extend_loop ?_
    rw[Around.under_plainId F.plain_extend_loop _]
    show wpAny _ A.in1 (pyNext (.ref (N+4)) >>= _) _ _ s
    refine wpAny_bind (CN st p0 (by simpa using Ud) CO p1 (by simpa using hu1) DN fun h' st' hT hk'=>?_)
    have I2:Inv X pins σ (upd H s.heap.objs.size (.tup [x0,x1])) {s with heap:=h',toks:=s.toks}:=
      I.handed (its:=[u0,u1]) hf slt hk' hT (.cons Ue (.cons Ug .nil)) (show 2<=sizeLine by decide)
    have DM:upd H s.heap.objs.size (.tup [x0,x1]) S=some (.lst ys):=by rw[aJ (bh hS I.fresh)];exact hS
    obtain⟨Uh,its,n,RG,hoS⟩:=(show cN X.prog X.w _ _ S (.lst ys) from I2.hok S _ DM)
    show wpAny _ A.in1 (updateSeq S (·.push (.ref s.heap.objs.size)) >>= _) _ _ _
    have hS':h'.get? S=some {cls:=.type "list",data:=.seq its.toArray n}:=hoS
    have Ui:=RG.length
    have hyl:its.length<=sizeLine:=by rw[<-Ui];exact Uh
    refine wpAny_bind (wpAny_updateSeq hS' rfl (wpAny_pure ⟨plainId_quiet F.plain_extend_loop _,?_⟩) (by simpa using hyl) (by show(its.toArray.push _).size<=sizeLine+1;rw[Array.size_push,List.size_toArray];omega))
    have RH:=Heap.get?_update_self (Obj.mapSeq fun x=>x.push (.ref s.heap.objs.size)) hS' rfl
    have DO:∀b o,b≠S->h'.get? b=some o->(h'.update S (Obj.mapSeq fun x=>x.push (.ref s.heap.objs.size))).get? b=some o:=fun b o hb e=>(Heap.get?_update_other _ _ (Ne.symm hb)).trans e
    have RI:S∉jy N:=fun z=>by have:=(hf S z).1;rw[hS] at this;cases this
    have hl2:ys.length+1<=sizeLine:=by rw[hl];omega
    have I3:=I2.write (o:=.lst (ys++[.ref s.heap.objs.size])) (t':=s.toks) (h':=h'.update S (Obj.mapSeq fun x=>x.push (.ref s.heap.objs.size))) (x:=S) (e:=S) (by rw[DM];exact True.intro) (.inl rfl) DO ⟨_,RH⟩
      (show cN X.prog X.w _ _ S (.lst _) from⟨by rw[List.length_append];exact hl2,its++[.ref s.heap.objs.size],_,RG.snoc (show RelV (.ref s.heap.objs.size) (.ref s.heap.objs.size) from rfl),by
        have e:(its++[Value.ref s.heap.objs.size]).toArray=its.toArray.push (.ref s.heap.objs.size):=by simp
        rw[e];exact RH⟩)
    refine ih (i+1) _ _ _ (by omega) hlt I3 (fun b hb=>?_) (st'.keep fun b hb o q=>DO b o (fun z=>RI (z▸hb)) q) (hstep x0 x1 _ AH AI I.fresh)
    obtain⟨f0,f1,f2,f3,f4,f5⟩:=hf b hb
    have Ol:b≠S:=fun z=>RI (z▸hb)
    exact⟨by rw[aJ Ol,aJ (Nat.ne_of_lt (slt b hb))];exact f0,f1,f2,f3,f4,f5⟩
theorem CQ {s:Shared}{H:Hp}{ys:List V}(I:Inv X pins σ H s) (hS:H S=some (.lst ys)):ys.length<=sizeLine/\∃(its:List Value) (n:Nat),Vals ys its/\s.heap.get? S=some {cls:=.type "list",data:=.seq its.toArray n}:=
 (show cN X.prog X.w _ _ S (.lst ys) from I.hok S _ hS)
theorem Gr {s:Shared}{H:Hp}{h':Heap}{n:Nat}(I:Inv X pins σ H s) (hS:H S=some (.lst [])) (DO:∀b o,b≠S->s.heap.get? b=some o->h'.get? b=some o) (hn:h'.get? S=some {cls:=.type "list",data:=.seq #[] n}):Inv X pins σ H {s with heap:=h'}:=by
 have e:upd H S (.lst [])=H:=by
  funext b
  by_cases hb:b=S
  ·subst hb;rw[aK,hS]
  ·rw[aJ hb]
 have I2:=I.write (o:=.lst []) (t':=s.toks) (h':=h') (x:=S) (e:=S) (by rw[hS];exact True.intro) (.inl rfl) DO ⟨_,hn⟩ (show cN X.prog X.w _ _ S (.lst []) from⟨Nat.zero_le _,[],n,.nil,hn⟩)
 rw[e] at I2
 exact I2
theorem AJ {s:Shared}{H:Hp}(hh:A.handled=none) (CO:l0 < N) (DN:l1 < N) (Gs:S∉jy N) (zw:ZW X.K k0 k1 l0 l1 pZ p5 S W)
  (hR:∀ys H s',Inv X pins σ H s'->W (min pZ.length p5.length) ys H->R (.ok (.ret res)) s') (I:Inv X pins σ H s) (hf:∀b∈jy N,kX X pins H b) (st:ng N k0 k1 l0 l1 0 s.heap) (hw:W 0 [] H):
  wpAny (model X.prog X.w) A.in1 (Builtin.List.listExtendWith (.ref S) (.ref (N+4)) res)
   (fun fin s'=>match fin with | .done f=>R (.ok f) s' | .again c'=>c'.quiet=true/\codeAny (model X.prog X.w) A c' R s') (fun e s'=>R (.error e) s') s:=by
 obtain⟨_,_,Cv,_,_⟩:=zw _ _ _ hw
 obtain⟨_,its,n,rv,hS⟩:=CQ I Cv
 cases rv
 have hSI:S≠(N+4):=fun e=>Gs (e▸aL.mpr (by omega))
 unfold Builtin.List.listExtendWith
 refine wpAny_bind (wpAny_typeOf st.typeIs ?_)
 have h1:Builtin.List.listSameRef (.ref S) (.ref (N+4))=false:=by simp[Builtin.List.listSameRef,hSI]
 have h2:(Value.type "zip" == Value.type "list")=false:=by decide
 have h3:(Value.type "zip" == Value.type "tuple")=false:=by decide
 simp only[h1,h2,h3,Bool.or_false,Bool.false_eq_true,if_false]
 obtain⟨⟨f0,f1,Wb,hz⟩,_⟩:=id st
 refine wpAny_bind (wpAny_pyIter_slot st.typeIs F.slot_zip_iter (wpAny_call_entry F.slot_zip_iter st.typeIs F.entry_zip_iter (show wpAny _ _ (ret (.ref (N+4))) _ _ s from wpAny_pure ⟨_,rfl,"zip",_,st.typeIs,F.slot_zip_next.lookup,?_⟩) (F.args_zip_iter_1 _)))
 refine wpAny_bind (wpAny_holding ?_)
 unfold Builtin.List.listLengthHint
 refine wpAny_bind (wpAny_specialOf st.typeIs yh ?_)
 show wpAny _ A.in1 (specialOf (Value.ref (N+4)) (Str.ofString "__length_hint__") >>= _) _ _ _
 refine wpAny_bind (wpAny_specialOf st.typeIs wj ?_)
 refine wpAny_pure ?_
 show wpAny _ A.in1 (rule "list.extend.makes-room" >>= fun _=>Builtin.List.listTouch (.ref S) >>= fun _=>
  again (.builtin "list.extend.loop" ⟨[.ref S,.ref (N+4),res],[]⟩)) _ _ _
 refine wpAny_bind (wpAny_rule ?_)
 refine wpAny_bind ?_
 show wpAny _ A.in1 (updateSeq S (·.push .none) >>= fun _=>updateSeq S (·.pop)) _ _ _
 refine wpAny_bind (wpAny_updateSeq hS rfl ?_)
 have zA:=Heap.get?_update_self (Obj.mapSeq (·.push Value.none)) hS rfl
 refine wpAny_updateSeq (hz:=by seq_fits) zA rfl ?_
 have Lk:=Heap.get?_update_self (Obj.mapSeq (·.pop)) zA rfl
 have DO:∀b o,b≠S->s.heap.get? b=some o->((s.heap.update S (Obj.mapSeq (·.push Value.none))).update S (Obj.mapSeq (·.pop))).get? b=some o:=
  fun b o hb e=>(Heap.get?_update_other _ _ (Ne.symm hb)).trans ((Heap.get?_update_other _ _ (Ne.symm hb)).trans e)
 have I9:=Gr I Cv DO Lk
 exact wpAny_pure ⟨plainId_quiet F.plain_extend_loop _,EV hh CO DN zw hR _ 0 _ H [] rfl (Nat.zero_le _) I9 hf (st.keep fun b hb o e=>DO b o (fun z=>Gs (z▸hb)) e) hw⟩
theorem EW {s:Shared}{H:Hp}(hh:A.handled=none) (CO:l0 < N) (DN:l1 < N) (Gs:S∉jy N) (zw:ZW X.K k0 k1 l0 l1 pZ p5 S W)
  (hR:∀ys H s',Inv X pins σ H s'->W (min pZ.length p5.length) ys H->R (.ok (.ret .none)) s') (I:Inv X pins σ H s) (hf:∀b∈jy N,kX X pins H b) (st:ng N k0 k1 l0 l1 0 s.heap) (hw:W 0 [] H):
  wpAny (model X.prog X.w) A.in1 (Builtin.«list.__init__» ⟨[.ref S,.ref (N+4)],[]⟩)
   (fun fin s'=>match fin with | .done f=>R (.ok f) s' | .again c'=>c'.quiet=true/\codeAny (model X.prog X.w) A c' R s') (fun e s'=>R (.error e) s') s:=by
 obtain⟨_,_,Cv,_,_⟩:=zw _ _ _ hw
 obtain⟨_,its,n,rv,hS⟩:=CQ I Cv
 cases rv
 show wpAny _ A.in1 (do let old <-Builtin.List.listItems (.ref S);Builtin.List.listUpdate (.ref S) (fun _=>#[]);letGo old.toList.reverse;Builtin.List.listExtendWith (.ref S) (.ref (N+4)) .none) _ _ s
 refine wpAny_bind ?_
 unfold Builtin.List.listItems
 refine wpAny_bind (wpAny_seqItems hS rfl (wpAny_pure ?_))
 show wpAny _ A.in1 (updateSeq S (fun _=>#[]) >>= fun _=>letGo (#[]:Array Value).toList.reverse >>= fun _=>Builtin.List.listExtendWith (.ref S) (.ref (N+4)) .none) _ _ s
 refine wpAny_bind (wpAny_updateSeq hS rfl ?_)
 have zA:=Heap.get?_update_self (Obj.mapSeq (fun _=>(#[]:Array Value))) hS rfl
 have DO:∀b o,b≠S->s.heap.get? b=some o->(s.heap.update S (Obj.mapSeq (fun _=>(#[]:Array Value)))).get? b=some o:=
  fun b o hb e=>(Heap.get?_update_other _ _ (Ne.symm hb)).trans e
 refine wpAny_bind (wpAny_letGo ?_)
 exact AJ hh CO DN Gs zw hR (Gr I Cv DO zA) hf (st.keep fun b hb o e=>DO b o (fun z=>Gs (z▸hb)) e) hw
end
section
variable {X:Cx}{pins:List (Addr×Obj)}{σ:St}{A:Around}{E:Value->Shared->Prop}{N:Nat}{k0 k1:Bool}{l0 l1:Nat}{pZ p5:List V}
theorem wk {s:Shared}{H:Hp}{Q:Value->Shared->Prop}(hh:A.handled=none) (CO:l0 < N) (DN:l1 < N) (I:Inv X pins σ H s) (hf:∀b∈jy N,kX X pins H b) (st:ng N k0 k1 l0 l1 0 s.heap)
  (h:∀S,H S=none->∃W,ZW X.K k0 k1 l0 l1 pZ p5 S W/\W 0 [] (upd H S (.lst []))/\∀ys H' s',Inv X pins σ H' s'->W (min pZ.length p5.length) ys H'->Q (.ref S) s'):wpAny (model X.prog X.w) A (call (.type "list") [.ref (N+4)]) Q E s:=by
 refine callType_codes (Q₁:=fun obj s₁=>obj= .ref s.heap.objs.size/\s₁={s with heap:=s.heap.push {cls:=.type "list",data:=.seq #[]}}) F.called_list (F.typeCall_list_1 _) F.entry_list_init
  (code_list_new _ ⟨rfl,rfl⟩) fun obj s₁ h₁=>?_
 obtain⟨rfl,rfl⟩:=h₁
 have hS:(s.heap.push {cls:=.type "list",data:=.seq #[]}).get? s.heap.objs.size=some {cls:=.type "list",data:=.seq #[]}:=Heap.get?_push_size _ rfl
 have hn:H s.heap.objs.size=none:=I.hok.fresh (Nat.le_refl _)
 obtain⟨W,zw,w0,q⟩:=h _ hn
 have I1:=I.laid (a:=s.heap.objs.size) (o:=.lst []) (t':=s.toks) (h':=s.heap.push {cls:=.type "list",data:=.seq #[]}) (fun _ _ z=>Heap.get?_push_of_some _ z) (Nat.le_refl _) (show cN X.prog X.w _ _ _ (.lst []) from⟨Nat.zero_le _,[],0,.nil,hS⟩)
 have Gs:s.heap.objs.size∉jy N:=fun z=>by have h1:=aL.mp z;have h2:=st.lt;omega
 refine⟨⟨_,hS,rfl⟩,F.args_list_init_2 _ _,EW (A:=A.in1) hh CO DN Gs zw (fun ys H' s' I' w'=>⟨rfl,q ys H' s' I' w'⟩) I1 (fun b hb=>?_) (st.keep fun b hb o e=>Heap.get?_push_of_some _ e) w0⟩
 obtain⟨f0,f1,f2,f3,f4,f5⟩:=hf b hb
 have Ol:b≠s.heap.objs.size:=fun z=>Gs (z▸hb)
 exact⟨by rw[aJ Ol];exact f0,f1,f2,f3,f4,f5⟩
end
noncomputable def p6 (a b:List D):List D:=List.zipWith (fun a b=>.tup [a,b]) a b
noncomputable def qQ:List D->Option U
 | [d,e]=>(uR d).bind fun q=>(uR e).map fun r=>.m (.lst (p6 q.2 r.2))
 | _=>none
theorem CS {ds:List D}{u:U}(h:qQ ds=some u):∃d e k0 Au k1 Bo,ds=[d,e]/\uR d=some (k0,Au)/\uR e=some (k1,Bo)/\u= .m (.lst (p6 Au Bo)):=by
 unfold qQ at h
 split at h
 ·obtain⟨⟨k0,Au⟩,h1,h⟩:=ah h
  obtain⟨⟨k1,Bo⟩,h2,rfl⟩:=az h
  exact⟨_,_,k0,Au,k1,Bo,rfl,h1,h2,rfl⟩
 ·cases h
theorem take_snoc {α:Type}{l:List α}{i:Nat}{x:α}(h:l[i]? =some x):l.take (i+1)=l.take i++[x]:=by
 rw[List.take_succ,h];rfl
section
variable {X:Cx}{a b:Expr}{p p2 pos pos2:Pos}{t:TA}{ga gb:GD}{gA:GA}
theorem Om {K:PySem.W.Frag}{F0 H1:Hp}{S:Addr}{k0 k1:Bool}{a0 a1:Addr}{pZ p5:List V}{Au Bo:List D}(hS:H1 S=none) (r0:aR F0 pZ Au) (r1:aR F0 p5 Bo)
  (s0:∀F' H',(∀b o,F0 b=some o->F' b=some o)->Sub F' H'->Bm K H' k0 a0 pZ) (s1:∀F' H',(∀b o,F0 b=some o->F' b=some o)->Sub F' H'->Bm K H' k1 a1 p5):
  ZW K k0 k1 a0 a1 pZ p5 S fun i ys H=>∃F,iw F0 H1 F H/\Sub F H/\F S=none/\H S=some (.lst ys)/\ys.length=i/\aR F ys ((p6 Au Bo).take i):=by
 rintro i ys H ⟨F,n,sb,fS,MA,hl,rs⟩
 refine⟨s0 F H n.le sb,s1 F H n.le sb,MA,hl,fun x0 x1 q h0 h1 hq=>?_⟩
 have RJ:q≠S:=fun z=>by rw[z,MA] at hq;cases hq
 have fq:F q=none:=sb.fresh hq
 have le:∀b o,F b=some o->upd F q (.tup [x0,x1]) b=some o:=lu fq
 obtain⟨d0,e0,Uj⟩:∃d,Au[i]? =some d/\Rep F0 x0 d:=by
  have Oo:=r0.length
  have:i < Au.length:=by rw[<-Oo];exact(List.getElem?_eq_some_iff.mp h0).1
  obtain⟨v,e1,e2⟩:=r0.get (i:=i) (d:=Au[i]) (List.getElem?_eq_getElem this)
  rw[h0] at e1;cases e1
  exact⟨_,List.getElem?_eq_getElem this,e2⟩
 obtain⟨d1,e1,Uk⟩:∃d,Bo[i]? =some d/\Rep F0 x1 d:=by
  have Oo:=r1.length
  have:i < Bo.length:=by rw[<-Oo];exact(List.getElem?_eq_some_iff.mp h1).1
  obtain⟨v,e1,e2⟩:=r1.get (i:=i) (d:=Bo[i]) (List.getElem?_eq_getElem this)
  rw[h1] at e1;cases e1
  exact⟨_,List.getElem?_eq_getElem this,e2⟩
 have ez:(p6 Au Bo)[i]? =some (.tup [d0,d1]):=by
  unfold p6
  rw[List.getElem?_zipWith,e0,e1]
 refine⟨upd F q (.tup [x0,x1]),⟨fun c o z=>le c o (n.le c o z),fun c o z=>?_,fun c o z f=>?_⟩,fun c o z=>?_,?_,aK,by simp[hl],?_⟩
 ·have h1:c≠S:=bh z hS
  have h2:c≠q:=bh (n.same c o z) hq
  rw[aJ h1,aJ h2]
  exact n.same c o z
 ·have h2:c≠q:=bh (n.same c o z) hq
  rw[aJ h2]
  exact n.jU c o z f
 ·by_cases h2:c=q
  ·subst h2
   rw[aK] at z
   rw[aJ RJ,aK]
   exact z
  ·rw[aJ h2] at z
   have h1:c≠S:=fun w=>by rw[w,fS] at z;cases z
   rw[aJ h1,aJ h2]
   exact sb c o z
 ·rw[aJ (Ne.symm RJ)];exact fS
 ·rw[take_snoc ez]
  exact(rs.le le).append (.cons (.tup aK (.cons (Uj.le fun c o z=>le c o (n.le c o z)) (.cons (Uk.le fun c o z=>le c o (n.le c o z)) .nil))) .nil)
theorem yi (hc : X.calm = true) (hg : Gl X "list") (hm : X.mg "list" = none) (Ez : Gl X "zip") (hm2 : X.mg "zip" = none) (ha : PA X [a, b] t) (hs : starEach [a, b] X.env = [(false, eval a X.env), (false, eval b X.env)] := by rfl) (hs2 : starEach [b] X.env = [(false, eval b X.env)] := by rfl)
    (JF:starEach [.Call (.Name "zip" p2) [a,b] [] pos2] X.env=[(false,eval (.Call (.Name "zip" p2) [a,b] [] pos2) X.env)]:=by rfl):
    PE X (.Call (.Name "list" p) [.Call (.Name "zip" p2) [a,b] [] pos2] [] pos) (fun σ H Q=>t σ H fun vs H1=>rP qQ vs H1 Q):=by
  intro pins s σ H Q I h
  refine wpAny_Call_Name_kw (jg I hg hm PyProof.Rows.Boot.list ?_)
  refine PyProof.Rows.callWith_type1 ?_ (by rw[JF];rfl) rfl
  rw[JF]
  refine Calls.spliced_cons (Call_ (jg I Ez hm2 boot_zip (PyProof.Rows.callWith_type1 (gg (ha pos2 pins s σ H _ I h) fun us s1 ⟨vs,H1,I1,r1,q1⟩=>?_) (by rw[hs,hs2]) (by rw[hs2];rfl))))
  obtain⟨F0,ds,w,sb,rs,hw,q⟩:=q1
  obtain⟨d,e,k0,Au,k1,Bo,rfl,e0,e1,rfl⟩:=CS hw
  cases rs with
  | cons ra rs=>
    cases rs with
    | cons rb rs=>
      cases rs
      obtain⟨a0,pZ,rfl,y0,z0⟩:=sb.CD (K:=X.K) ra e0
      obtain⟨a1,p5,rfl,y1,z1⟩:=sb.CD (K:=X.K) rb e1
      obtain⟨u0,u1,rfl,v0,v1⟩:=r1.two
      cases v0
      cases v1
      obtain⟨Li,My,p0,hz0⟩:=I1.EJ (z0 F0 H1 (fun _ _ z=>z) sb)
      obtain⟨Lj,Mz,p1,hz1⟩:=I1.EJ (z1 F0 H1 (fun _ _ z=>z) sb)
      refine CC p0 p1 fun h' st hk=>Calls.spliced_nil ?_
      have I2:=I1.kept (t':=s1.toks) hk
      refine wk (X:=X) (pZ:=pZ) (p5:=p5) (I1.ok.hd hc) p0.lt p1.lt I2 (fun b hb=>?_) st.l fun S hS=>⟨_,Om hS y0 y1 z0 z1,⟨F0,iw.obj hS _,sb.same (iw.obj (F:=F0) hS _).same,sb.fresh hS,aK,rfl,.nil⟩,fun ys H' s' I' w'=>?_⟩
      . have hb:s1.heap.objs.size<=b:=(aL.mp hb).1
        exact I1.xA hb (I1.hok.fresh hb)
      . obtain⟨F,n,sb',fS,MA,hl,rs⟩:=w'
        refine⟨.ref S,H',I',rfl,q _ F H' n sb' ⟨S,rfl,hS,fS,ys,MA,?_⟩⟩
        rw[List.take_of_length_le (by unfold p6;rw[List.length_zipWith,<-y0.length,<-y1.length];exact Nat.le_refl _)] at rs
        exact rs
theorem yj (hc:X.calm=true) (hg:Gl X "list") (hm:X.mg "list" =none) (Ez:Gl X "zip") (hm2:X.mg "zip" =none) (ha:JA X [a,b] gA) (hs:starEach [a,b] X.env=[(false,eval a X.env),(false,eval b X.env)]:=by rfl) (hs2:starEach [b] X.env=[(false,eval b X.env)]:=by rfl)
  (JF:starEach [.Call (.Name "zip" p2) [a,b] [] pos2] X.env=[(false,eval (.Call (.Name "zip" p2) [a,b] [] pos2) X.env)]:=by rfl):
  JE X (.Call (.Name "list" p) [.Call (.Name "zip" p2) [a,b] [] pos2] [] pos) (eP qQ gA):=
 ⟨fun B=>(yi hc hg hm Ez hm2 (ha.h B) hs hs2 JF).imp fun σ H Q h=>ji (fun _ _ _ z=>z) h⟩
end
section
variable {X:Cx}{tg a b:Expr}{p pos:Pos}{ta:TA}{gA:GA}
variable {p2 pos2:Pos}
end
end L2
end
section
namespace L2
open PySem PySem.Spec PyProof.Rows
section
variable {M:Model}{A:Around}{E:Value->Shared->Prop}{s:Shared}{Q:Value->Shared->Prop}
end
noncomputable def Gu (g g':GS):GS:=fun S=>(g S).or (g' S)
theorem Gv {X:Cx}{st:List Stmt}{g g':GS}(h:JB X st g) (h':JB X st g'):JB X st (Gu g g'):=⟨fun B pins s σ H Q I ⟨S,F,o,R,hg,q⟩=>by
 unfold Gu at hg
 cases e:g S with
 | some o'=>
  rw[e] at hg
  exact h.h B pins s σ H Q I ⟨S,F,o,R,by rw[e];exact hg,q⟩
 | none=>
  rw[e] at hg
  exact h'.h B pins s σ H Q I ⟨S,F,o,R,hg,q⟩⟩
section
variable {prog:Program}{w:World}{K:Type} [DecidableEq K] {knd:HeapKind prog w K}{A:Around}{E:Value->Shared->Prop}{s:Shared}
theorem wm {d a : Addr} {xs : List (K × Addr × Value)} {k : K} {dflt : Value} {Q : Value -> Shared -> Prop} (hu : knd.room A) (hkey : knd.is s.heap k a) (hm : s.heap.DictOfH knd d xs)
    (h1:∀v,(atKey xs k).map (·.2)=some v->Q v {s with toks:=s.toks+knd.draws k})
    (h2:atKey xs k=none->∀h',h'.DictOfH knd d (storedH xs k a dflt)->Heap.SameBut d s.heap h'->Q dflt {s with heap:=h',toks:=s.toks+knd.draws k})
    (hsz:xs.length<=sizeLine):wpAny (model prog w) A (dictSetDefault d (.ref a) dflt) Q E s:=by
  obtain⟨o,es,ep,ho,hc,hd,he,his,hn⟩:=hm
  unfold dictSetDefault
  try with_reducible refine wpAny_holding ?_
  refine wpAny_bind (knd.pyHash hu hkey ?_)
  refine wpAny_bind (wpAny_dictFind_heap (s:={s with toks:=s.toks+knd.draws k}) hu hkey ho hd he his hn ?_ ?_)
  . intro hno
    have hnot:k∉xs.map (·.1):=not_mem_keys_of_get hno
    refine wpAny_bind (wpAny_rule (wpAny_bind (wpAny_updateDictKeys (hz:=by have e:=size_of_entries he;omega) (s:={s with toks:=s.toks+knd.draws k}) ho hd (wpAny_pure (h2 (atKey_none_of_get hno) _ ⟨_,_,ep+1,Heap.get?_update_self _ ho (Obj.isFreed_of_dict (Obj.data_mapDictKeys hd _)),
      hc.mapDictKeys _,Obj.data_mapDictKeys hd _,?_,?_,?_⟩ (Heap.SameBut.update ..))))))
    . rw[storedH_new (atKey_none_of_get hno)]
      simp[he,entryOfKey]
    . rw[storedH_new (atKey_none_of_get hno)]
      intro x hx
      rcases List.mem_append.mp hx with hx | hx
      . exact knd.keeps (his x hx) ho hd (Heap.SameBut.update ..)
      . simp only[List.mem_singleton] at hx
        subst hx
        exact knd.keeps hkey ho hd (Heap.SameBut.update ..)
    . rw[storedH_new (atKey_none_of_get hno)]
      rw[List.map_append,List.nodup_append]
      refine⟨hn,by simp,?_⟩
      intro x hx y hy
      simp only[List.map_cons,List.map_nil,List.mem_singleton] at hy
      subst hy
      exact fun e=>hnot (e▸hx)
  . intro j p hj
    refine wpAny_bind (wpAny_dictEntries (s:={s with toks:=s.toks+knd.draws k}) ho hd ?_)
    rw[entry_at he j,hj]
    exact wpAny_bind (wpAny_rule (wpAny_pure (h1 _ (by rw[atKey_of_get hn hj];rfl))))
theorem mQ (knd:HeapKind prog w K) (d a:Addr) (hd:(d == sysModules)=false) (dflt:Value):
  MeetsIn prog w (Builtin.«dict.setdefault» ⟨[.ref d,.ref a,dflt],[]⟩) (fun A R s=>knd.room A.in1/\∃k xs,knd.is s.heap k a/\s.heap.DictOfH knd d xs/\xs.length<=sizeLine/\
   (∀v,(atKey xs k).map (·.2)=some v->R (.ok (.ret v)) {s with toks:=s.toks+knd.draws k})/\
   (atKey xs k=none->∀h',h'.DictOfH knd d (storedH xs k a dflt)->Heap.SameBut d s.heap h'->R (.ok (.ret dflt)) {s with heap:=h',toks:=s.toks+knd.draws k})):=
 .of_wp fun A R s ⟨hu,k,xs,hkey,hm,hz,h1,h2⟩=>by
  unfold Builtin.«dict.setdefault»
  refine wpAny_bind ?_
  unfold Builtin.Dict.keyAndDefault
  refine wpAny_bind (wpAny_notOrdered_dict hm.typeIs ?_)
  show wpAny _ _ (pure (d,Value.ref a,some dflt)) _ _ s
  refine wpAny_pure ?_
  show wpAny _ _ (if(d == sysModules)=true then _ else(dictSetDefault d (.ref a) dflt >>= _)) _ _ s
  rw[if_neg (by rw[hd];exact Bool.false_ne_true)]
  exact wpAny_bind (wm hu hkey hm (fun v hv=>wpAny_pure ⟨v,rfl,h1 v hv⟩) (fun hn h' hm' hs'=>wpAny_pure ⟨dflt,rfl,h2 hn h' hm' hs'⟩) hz)
end
noncomputable def Ll (H:Hp) (a:Addr) (y v r:V) (H':Hp):Prop:=(jh H a y (some r)/\H'=H)\/(jh H a y none/\r=v/\qx H a y v H')
theorem Ij {y:V}{k k':Key}(a:D9 y k) (b:D9 y k'):k=k':=by
 rcases a with rfl | ⟨c,rfl,rfl⟩ <;> rcases b with e | ⟨c',e,rfl⟩
 ·exact Hs e
 ·cases k <;> cases e
 ·cases k' <;> cases e
 ·cases e;rfl
section
variable {X:Cx}{pins:List (Addr×Obj)}{σ:St}{H:Hp}{s:Shared}{a:Addr}{y v r:V}{u z:Value}{A:Around}{E:Value->Shared->Prop}
theorem CT {H' : Hp} {Q : Value -> Shared -> Prop} (hu : A.units + 20 < cLine) (I : Inv X pins σ H s) (g : Ll H a y v r H') (ry : RelV y u) (rv : RelV v z) (h : ∀ w' s', Inv X pins σ H' s' -> RelV r w' -> Q w' s') :
    wpAny (model X.prog X.w) A (call (.builtin "dict.setdefault") [.ref a,u,z]) Q E s:=by
  rcases g with⟨g,rfl⟩ | ⟨g,rfl,p⟩
  . rcases g with⟨kvs,k,e,ey,l⟩ | ⟨kvs,k,b,e,ey,eb,l⟩
    . obtain⟨hz,hd,vs,rel,dd⟩:=qw I.hok e
      obtain⟨w',hw,rw'⟩:=mC.some_of (v:=r) (o:=valueAt vs k) (by rw[l];exact rel.val k)
      refine call_meetsIn PySem.F.slot_dict_setdefault dd.typeIs PySem.F.entry_dict_setdefault (PySem.F.args_dict_setdefault_3 _ _ _) (kt_meets_setdefault (iM X.prog X.w) a (ey.is ry) hd z) ⟨vs,dd,by rw[<-rel.length];exact hz,fun x hx=>?_,fun hn=>?_⟩
      . rw[hw] at hx
        cases hx
        exact h _ _ (I.tok _) rw'
      . rw[hw] at hn;cases hn
    . subst ey
      cases(show u=Value.ref b from ry)
      obtain⟨hz,hd,xs,rel,dd⟩:=tF I.hok e
      obtain⟨w',hw,rw'⟩:=mC.some_of (v:=r) (o:=(atKey xs k).map (·.2)) (by rw[l];exact rel.val k)
      refine call_meetsIn PySem.F.slot_dict_setdefault dd.typeIs PySem.F.entry_dict_setdefault (PySem.F.args_dict_setdefault_3 _ _ _) (mQ (iP X.prog X.w) a b hd z) ⟨gn hu,k,xs,lq I.hok eb,dd,by rw[<-Paired.length rel];exact hz,fun x hx=>?_,fun hn=>?_⟩
      . rw[hw] at hx
        cases hx
        exact h _ _ (I.tok _) rw'
      . rw[hn] at hw;cases hw
  . rcases p with⟨kvs,k,e,ey,hl,rfl⟩ | ⟨kvs,k,b,e,ey,eb,hl,rfl⟩
    . have l:kZ kvs k=none:=by
        rcases g with⟨kvs',k',e',Lm,l⟩ | ⟨kvs',k',b',e',Lm,eb',l⟩
        . have:=Ij ey Lm
          subst this
          rcases e' with e' | ⟨w,e'⟩
          . rw[e] at e';cases e';exact l.symm
          . rw[e] at e';cases e'
        . rcases e' with e' | ⟨w,e'⟩ <;> (rw[e] at e';cases e')
      obtain⟨hz,hd,vs,rel,dd⟩:=Gf I.hok e
      have hn:valueAt vs k=none:=mC.none_of (by rw[<-l];exact rel.val k)
      refine call_meetsIn PySem.F.slot_dict_setdefault dd.typeIs PySem.F.entry_dict_setdefault (PySem.F.args_dict_setdefault_3 _ _ _) (kt_meets_setdefault (iM X.prog X.w) a (ey.is ry) hd z) ⟨vs,dd,by rw[<-rel.length];exact hz,fun x hx=>?_,fun _ h' Eb hs=>?_⟩
      . rw[hn] at hx;cases hx
      . have hl':(putK kvs k r).length<=sizeLine:=by have:=jL kvs k r;omega
        have he:∃q,h'.get? a=some q:=let⟨q,_,_,hq,_⟩:=Eb;⟨q,hq⟩
        exact h _ _ (qd I (by rw[e];exact True.intro) hs he (BN hl' hd (rel.put k rv) Eb)) rv
    . subst ey
      cases(show u=Value.ref b from ry)
      have l:kZ kvs k=none:=by
        rcases g with⟨kvs',k',e',Lm,l⟩ | ⟨kvs',k',b',e',Lm,eb',l⟩
        . rcases e' with e' | ⟨w,e'⟩ <;> (rw[e] at e';cases e')
        . cases Lm
          have kk:k=k':=(lq I.hok eb).1.inj (lq I.hok eb').1
          subst kk
          rcases e' with e' | ⟨w,e'⟩
          . rw[e] at e';cases e';exact l.symm
          . rw[e] at e';cases e'
      obtain⟨hz,hd,xs,rel,dd⟩:=BL I.hok e
      have hn:(atKey xs k).map (·.2)=none:=mC.none_of (by rw[<-l];exact rel.val k)
      refine call_meetsIn PySem.F.slot_dict_setdefault dd.typeIs PySem.F.entry_dict_setdefault (PySem.F.args_dict_setdefault_3 _ _ _) (mQ (iP X.prog X.w) a b hd z) ⟨gn hu,k,xs,lq I.hok eb,dd,by rw[<-Paired.length rel];exact hz,fun x hx=>?_,fun _ h' Eb hs=>?_⟩
      . rw[hn] at hx;cases hx
      . have hl':(putK kvs k r).length<=sizeLine:=by have:=jL kvs k r;omega
        obtain⟨q,es,ep,hq,h2,h3,h4,_,h5⟩:=Eb
        refine h _ _ (qd I (by rw[e];exact True.intro) hs ⟨q,hq⟩ ⟨hl',hd,_,(rel.put k eb rv).keeps fun c ys ec=>?_,q,es,ep,hq,h2,h3,h4,h5⟩) rv
        rw[aJ (FT ec e (fun z=>nomatch z))]
        exact ec
end
noncomputable def Ln (td ty tx:TE):TE:=fun σ H Q=>td σ H fun x H1=>∃a,x= .ref a/\NG H1 a/\ty σ H1 fun y H2=>tx σ H2 fun z H3=>∃r H4,Ll H3 a y z r H4/\Q r H4
section
variable {X:Cx}{o e f:Expr}{td ty tx:TE}{x:Str}{px pos apos cpos:Pos}{gk gd:GD}
theorem EX (hu:X.A.units+20 < cLine) (ho:PE X o td) (he:PE X e ty) (hf:PE X f tx) (m:M2 X o "setdefault" apos e f cpos):PE X (.Call (.Attribute o "setdefault" apos) [e,f] [] cpos) (Ln td ty tx):=by
 intro pins s σ H Q I h
 refine wpAny_Call_method m.base m.few m.line PySem.F.plainAttrs_dict PySem.F.slot_dict_setdefault PySem.F.type_dict_setdefault (gg (ho pins s σ H _ I h) fun u s1 ⟨x,H1,I1,rx,a,ex,d,q1⟩=>?_)
 subst ex
 obtain rfl:u=Value.ref a:=rx
 obtain⟨t1,t2,_⟩:=Hv I1 d
 refine⟨t1,t2,?_⟩
 rw[m.trees]
 refine Calls.callWith_builtin rfl (Calls.evalArgs_plain (Calls.spliced_cons (gg (he pins s1 σ H1 _ I1 q1) fun iv s2 ⟨y,H2,I2,ry,q2⟩=>
  Calls.spliced_cons (gg (hf pins s2 σ H2 _ I2 q2) fun fv s3 ⟨z,H3,I3,rz,ov,H4,g,q3⟩=>Calls.spliced_nil ?_))))
 exact CT hu I3 g ry rz fun w' s4 I4 rw'=>⟨_,H4,I4,rw',q3⟩
noncomputable def AK (o:MO) (k d:D):Option (D×MO):=match o with
 | .dct kvs=>(keyOf k).bind fun kk=>match aT kvs kk with
  | some e=>some (e,.dct kvs)
  | none=>if kvs.length < 100000 then some (d,.dct (putD kvs kk d)) else none
 | .lU kvs=>(jW k).bind fun kk=>match aT kvs kk with
  | some e=>some (e,.lU kvs)
  | none=>if kvs.length < 10000000 then some (d,.lU (putD kvs kk d)) else none
 | _=>none
noncomputable def pR (i:Nat) (gk gd:GD):GD:=fun S=>match S[i]? with
 | some (some u)=>if qO u then(gk S).bind fun p=>(gd p.2).bind fun q=>jH q.2 i fun o=>AK o p.1 q.1
  else none
 | _=>none
theorem CU {H:Hp}{a:Addr}{o:HO}(e:H a=some o):upd H a o=H:=by
 funext b
 by_cases h:b=a
 ·subst h;rw[aK,e]
 ·rw[aJ h]
theorem uT {i : Nat} (hu : X.A.units + 20 < cLine) (he : JD X e gk) (hf : JD X f gd) (hN : X.N[i]? = some x := by rfl) (hv : Bv X.env.scope x := by first | exact Or.inl rfl | exact Or.inr (Or.inl rfl) | exact Or.inr (Or.inr rfl))
    (hb:attributeBase (.Name x px) "setdefault" X.env (eval (.Name x px) X.env)=eval (.Name x px) X.env:=by rfl)
    (hfew:((backTo cpos (starEach [e,f] X.env)).all (fun x=>!x.1) && (backToKw cpos (keywordEach [] X.env)).all (fun x=>x.1.isSome) && decide (([e,f]:List Expr).length+([]:List Keyword).length+(if([]:List Keyword).isEmpty then 0 else 1) < 30))=true:=by rfl)
    (hline:(apos.endLine == cpos.line)=true:=by rfl) (htr:backTo cpos (starEach [e,f] X.env)=[(false,eval e X.env),(false,eval f X.env)]:=by rfl) (hd:(x == ("__debug__":Str))=false:=by decide) (hcd:(x == ("__classdict__":Str))=false:=by decide):
    JD X (.Call (.Attribute (.Name x px) "setdefault" apos) [e,f] [] cpos) (pR i gk gd):=
  ⟨fun B => (EX hu (iV hN hv hd hcd) (he.h B) (hf.h B) ⟨hb, hfew, hline, htr⟩).imp fun σ H Q ⟨S, F, d, S', R, hg, q⟩ => by
    unfold pR at hg
    split at hg
    . rename_i u hS
      split at hg
      . rename_i hD
        obtain⟨⟨d1,S1⟩,h1,hg⟩:=ah hg
        obtain⟨⟨d2,S2⟩,h2,hg⟩:=ah hg
        obtain⟨u2,u',mo,mo',DM,HP,hio,hfo,DJ,rfl⟩:=oU hg
        obtain⟨v0,hv0,r0⟩:=R.rep i u hS
        obtain⟨a,rfl,ha⟩:=CL r0 hD
        refine⟨.ref a,hv0,a,rfl,ha,S,F,d1,S1,R,h1,fun v1 F1 H1 R1 st1 r1=>⟨S1,F1,d2,_,R1,h2,fun v2 F2 H2 R2 st2 r2=>?_⟩⟩
        obtain⟨v3,RK,r3⟩:=R2.rep i u2 DM
        rw[hv0] at RK
        cases RK
        obtain⟨b,o2,e1,fa,e2,k⟩:=r3.cT HP
        cases e1
        rw[hio] at e2
        cases e2
        cases mo with
        | lst ds=>cases hfo
        | ins C kvs=>cases hfo
        | dct kvs=>
          obtain⟨kk,k1,hfo⟩:=ah hfo
          obtain⟨ws,ha1,pr⟩:=k
          have ky:=ki (r1.le st2.ext.le) k1
          cases hl:aT kvs kk with
          | some e0=>
            rw[hl] at hfo
            cases hfo
            obtain⟨v,z1,z2⟩:=je pr hl
            obtain⟨R3,st3⟩:=R2.write (ho:=.dK ws) DM DJ hv0 ⟨_,aK,pr⟩
            rw[CU ha1] at R3 st3
            exact⟨v,H2,.inl ⟨by rw[<-z1];exact jh.ky ha1 ky,rfl⟩,q v F2 H2 R3 ((st1.trans st2).trans st3) z2⟩
          | none=>
            rw[hl] at hfo
            obtain⟨hn,hfo⟩:=lV hfo
            cases hfo
            obtain⟨R3,st3⟩:=R2.write (ho:=.dK (putK ws kk v2)) DM DJ hv0 ⟨_,aK,nR pr r2⟩
            exact⟨v2,_,.inr ⟨by rw[<-lZ pr hl];exact jh.ky ha1 ky,rfl,qx.ky ha1 ky (by rw[bY pr];exact Nat.lt_of_lt_of_le hn (by decide))⟩,q v2 F2 _ R3 ((st1.trans st2).trans st3) r2⟩
        | lU kvs=>
          obtain⟨kk,k1,hfo⟩:=ah hfo
          obtain⟨ws,ha1,pr⟩:=k
          obtain⟨b',rfl,hb'⟩:=lG R2.sub (r1.le st2.ext.le) k1
          cases hl:aT kvs kk with
          | some e0=>
            rw[hl] at hfo
            cases hfo
            obtain⟨v,z1,z2⟩:=je pr hl
            obtain⟨R3,st3⟩:=R2.write (ho:=.dT ws) DM DJ hv0 ⟨_,aK,pr⟩
            rw[CU ha1] at R3 st3
            exact⟨v,H2,.inl ⟨by rw[<-z1];exact jh.t ha1 hb',rfl⟩,q v F2 H2 R3 ((st1.trans st2).trans st3) z2⟩
          | none=>
            rw[hl] at hfo
            obtain⟨hn,hfo⟩:=lV hfo
            cases hfo
            obtain⟨R3,st3⟩:=R2.write (ho:=.dT (putK ws kk v2)) DM DJ hv0 ⟨_,aK,nR pr r2⟩
            exact⟨v2,_,.inr ⟨by rw[<-lZ pr hl];exact jh.t ha1 hb',rfl,qx.t ha1 hb' (by rw[bY pr];exact Nat.lt_of_lt_of_le hn (by decide))⟩,q v2 F2 _ R3 ((st1.trans st2).trans st3) r2⟩
      . cases hg
    . cases hg⟩
end
noncomputable def kq:List D->Option U
 | [.lst ds]=>(aY ds).bind fun ns=>if ns.length<=1000 then some (.t (.int (firstMet (fun i=>ns.getD i 0) ns.length).length)) else none
 | _=>none
theorem uU {d:D}{u:U}(h:kq [d]=some u):∃ds ns,d= .lst ds/\aY ds=some ns/\ns.length<=1000/\u= .t (.int (firstMet (fun i=>ns.getD i 0) ns.length).length):=by
 cases d with
 | lst ds=>
  obtain⟨zs,h5,h6⟩:=ah (show(aY ds).bind _=some u from h)
  split at h6
  ·rename_i hl;cases h6;exact⟨ds,zs,rfl,h5,hl,rfl⟩
  ·cases h6
 | _=>cases h
theorem oh:∀{ns:List Int}{its:List Value},Vals (ns.map V.int) its->IntsAre its ns
 | [],_,r=>by cases r;exact .nil
 | n :: ns,_,r=>by
  cases r with
  | cons h t=>obtain⟨t',rfl⟩:=h;exact .cons _ _ (oh t)
section
variable {X:Cx}{a:Expr}{pos p p1 p2:Pos}{ga:GD}
theorem ym (hc:X.calm=true) (Og:Gl X "len") (hm1:X.mg "len" =none) (Ez:Gl X "set") (hm2:X.mg "set" =none) (ha:JD X a ga)
  (hs1:starEach [.Call (.Name "set" p1) [a] [] p2] X.env=(false,eval (.Call (.Name "set" p1) [a] [] p2) X.env) :: starEach [] X.env:=by rfl)
  (hs2:starEach [a] X.env=(false,eval a X.env) :: starEach [] X.env:=by rfl):
  JE X (.Call (.Name "len" p) [.Call (.Name "set" p1) [a] [] p2] [] pos) (eP kq (aa ga aA)):=⟨fun B=>by
 rintro pins s σ H Q I ⟨S,F,u,S',R,hg,q⟩
 obtain⟨⟨dl,S1⟩,h1,hg⟩:=ah hg
 obtain⟨w',h2,hg⟩:=az hg
 cases hg
 obtain⟨⟨d,S2⟩,h3,h1⟩:=ah h1
 obtain⟨⟨dr,S3⟩,h4,h1⟩:=az h1
 cases h4
 cases h1
 obtain⟨ds,ns,rfl,h5,hlen,rfl⟩:=uU h2
 refine wpAny_Call_Name_kw (jg I Og hm1 PySem.boot_len ?_ (by decide) (by decide))
 refine PyProof.Rows.callWith_builtin1 ?_ hs1 rfl
 rw[hs1]
 show wpAny _ _ (spliced ((false,eval (.Call (.Name "set" p1) [a] [] p2) X.env) :: backTo pos (starEach [] X.env))) _ _ s
 refine Calls.spliced_cons ?_
 refine wpAny_Call_Name_kw (jg I Ez hm2 PyProof.Rows.Boot.set ?_ (by decide) (by decide))
 refine PyProof.Rows.callWith_type1 (gg (jK (ha.h B) oN hs2 p2 pins s σ H (fun vs H1=>∃v F1,vs=[v]/\Rel X.K B S2 σ F1 H1/\Step S S2 σ F H F1 H1/\Rep F1 v (.lst ds)) I ⟨S,F,_,S2,R,h3,fun v F1 H1 R1 st1 r1=>⟨v,F1,rfl,R1,st1,r1⟩⟩) ?_) hs2 rfl
 rintro us s1 ⟨vs,H1,I1,r1,v,F1,rfl,R1,st1,rd⟩
 obtain⟨a',vs',rfl,fa,hla,mJ⟩:=R1.sub.iy rd
 obtain rfl:=m9 mJ h5
 obtain⟨u',rfl,ru⟩:=vals1 r1
 cases ru
 obtain⟨its,rv,pl,hz⟩:=I1.list (.inl hla)
 have hil:its.length=ns.length:=by have:=rv.length;simpa using this.symm
 refine call_set_list (ns:=ns) (I1.ok.hd hc) pl.isList (by simpa using oh rv) (by rw[List.size_toArray,hil];unfold scanBound;omega) fun h' tk hS hk=>?_
 have hz2:its.toArray.size=ns.length:=by rw[List.size_toArray,hil]
 rw[hz2] at hS
 refine Calls.spliced_nil ?_
 obtain⟨o,es,ep,t,ho,hex,hd,hel,hmem,hbd,hf,hn⟩:=hS
 refine call_len_set ho hex hd hf (by unfold scanBound at hbd;omega) ?_
 rw[hn]
 exact⟨.int _,H1,I1.kept (t':=tk+1+1) fun b o e=>hk b o (Heap.lt_size e) e,⟨_,rfl⟩,q (.int _) F1 H1 R1 st1 (.int _)⟩⟩
end
noncomputable def qh:List D->Option U
 | [d,.bM]=>some (.t (.bl (!nT d)))
 | _=>none
theorem yp {X:Cx}:uI X (compareOp .IsNot) qh:=by
 intro pins s σ H x y v u Q I rx ry ⟨F,ds,w,sb,rs,hw,q⟩
 obtain⟨d,e,rfl,r1,r2⟩:=nN rs
 cases e <;> try (cases d <;> simp[qh] at hw;done)
 cases hw
 cases r2
 refine D4 pins s σ H _ _ v u Q I rx ry ⟨rfl,?_⟩
 have k:Rep F (V.bl (!decide (x= .bM))) (.bl (!nT d)):=by
  cases r1 <;> exact .bl _
 exact q _ F H (iw.refl ..) sb k
@[simp] theorem JH (d:D):qh [d,.bM]=some (.t (.bl (!nT d))):=rfl
section
variable (S:SS) (d e:D) (o:MO) (i j:Nat) (g ga gb gc:GD) (ge:GE) (q q1 q2:GT) (gA:GA) (gu:GU) (a b:GS) (f f':List D->Option U) (fm:FM) (bd:GB) (gi:GI)
@[simp] theorem Oq:ak i S=match S[i]? with | some (some (.t d))=>some (.t d,S) | some (some (.s d))=>some (.s d,S) | some (some (.f d))=>some (.f d,S) | some (some _)=>some (.v i,S) | _=>none:=rfl
@[simp] theorem Ul:eC d S=some (d,S):=rfl
@[simp] theorem Ot:aA S=some ([],S):=rfl
@[simp] theorem MB:aa g gA S=(g S).bind fun p=>(gA p.2).map fun q=>(p.1 :: q.1,q.2):=rfl
@[simp] theorem Um:eP f gA S=(gA S).bind fun p=>(f p.1).map fun u=>(u,p.2):=rfl
@[simp] theorem Uo:eF ge S=(ge S).bind fun p=>fz p.1 p.2:=rfl
@[simp] theorem Up:eT g S=(g S).map fun p=>(.t p.1,p.2):=rfl
@[simp] theorem Ou:fz (.t d) S=some (d,S):=rfl
@[simp] theorem Ov (ds:List D):fz (.m (.lst ds)) S=some (.lst ds,S):=rfl
@[simp] theorem Ow:fz (.v i) S=match S[i]? with | some (some (.t d))=>some (d,S) | some (some (.m (.lst ds)))=>some (.lst ds,S.set i (some (.t (.lst ds)))) | _=>none:=rfl
@[simp] theorem Uq:qB g S=(g S).bind fun p=>match p.1 with | .bl k=>some (k,p.2) | _=>none:=rfl
@[simp] theorem Ox:Ci q S=(q S).map fun p=>(!p.1,p.2):=rfl
@[simp] theorem Oz:HD q1 q2 S=(q1 S).bind fun p=>if p.1 then q2 p.2 else some (false,p.2):=rfl
@[simp] theorem RL:Mq q1 q2 S=(q1 S).bind fun p=>if p.1 then some (true,p.2) else q2 p.2:=rfl
@[simp] theorem Ur:eQ q S=(q S).map fun p=>(.bl p.1,p.2):=rfl
@[simp] theorem MC:bA S=some (true,S):=rfl
@[simp] theorem OA:oR S=some (.nx S):=rfl
@[simp] theorem yq:aQ a b S=(a S).bind fun o=>match o with | .nx S1=>b S1 | o=>some o:=rfl
@[simp] theorem OB:bz i ge S=(ge S).bind fun p=>match p.1 with | .m o=>(mD i (.m o) p.2).map .nx | u=>(fz u p.2).bind fun q=>(mD i (.t q.1) q.2).map .nx:=rfl
@[simp] theorem dU (u:U):mD i u S=match S[i]? with | some (some (.b _))=>none | some _=>some (S.set i (some u)) | none=>none:=rfl
@[simp] theorem MD:jm ge S=(ge S).map fun p=>.nx p.2:=rfl
@[simp] theorem OC:d8 ge S=(ge S).bind fun p=>match p.1 with
 | .v i=>match p.2[i]? with
  | some (some (.t d))=>some (.rt (.t d) p.2)
  | some (some (.m o))=>some (.rt (.m o) (p.2.set i none))
  | _=>none
 | .s _=>none
 | .f _=>none
 | u=>some (.rt u p.2):=rfl
@[simp] theorem RM:xx q a b S=(q S).bind fun p=>if p.1 then a p.2 else b p.2:=rfl
@[simp] theorem OD:HK bd g S=(g S).bind fun p=>(bd p.1 p.2).map .nx:=rfl
@[simp] theorem ME:bName i d S=mD i (.t d) S:=rfl
@[simp] theorem nh:iR bd gi a S=(gi S).bind fun p=>loop bd a p.1 p.2:=rfl
@[simp] theorem Ik:Eu g S=(g S).bind fun p=>match p.1 with | .tup ds=>some (ds,p.2) | .lst ds=>some (ds,p.2) | _=>none:=rfl
@[simp] theorem qi:cU gA S=(gA S).bind fun p=>match p.1 with | [.int j]=>if j < 1000000/\-1000000 < j then some (iA 0 j.toNat,p.2) else none | _=>none:=rfl
@[simp] theorem Il:loop bd a [] S=some (.nx S):=rfl
@[simp] theorem OE:cz S=some ([],S):=rfl
@[simp] theorem OF:bq g gu S=(g S).bind fun p=>(gu p.2).map fun q=>(.t p.1 :: q.1,q.2):=rfl
@[simp] theorem OG:jI ge gu S=(ge S).bind fun p=>(gu p.2).map fun q=>(p.1 :: q.1,q.2):=rfl
@[simp] theorem MF:br fm gu S=(gu S).bind fun p=>if(slotsOf p.1).Nodup/\cF p.1<=1 then(cj p.2 p.1).bind fun us=>(fm us).bind fun r=>(wb p.1 r.2 p.2).map fun S2=>(r.1,S2) else none:=rfl
@[simp] theorem JJ:cj S []=some []:=rfl
@[simp] theorem Im (u:U) (us:List U):cj S (u :: us)=(resolve S u).bind fun w=>(cj S us).map fun ws=>w :: ws:=rfl
@[simp] theorem MG:resolve S (.t d)=some (.t d):=rfl
@[simp] theorem MH:resolve S (.m o)=some (.b o):=rfl
@[simp] theorem MI (ns:List Int):resolve S (.s ns)=some (.s ns):=rfl
@[simp] theorem MJ:resolve S (.v i)=match S[i]? with | some (some (.m o))=>some (.b o) | some (some (.b o))=>some (.b o) | _=>none:=rfl
@[simp] theorem Lo:slotsOf []=[]:=rfl
@[simp] theorem OH (us:List U):slotsOf (.t d :: us)=slotsOf us:=rfl
@[simp] theorem OI (us:List U):slotsOf (.m o :: us)=slotsOf us:=rfl
@[simp] theorem OJ (ns:List Int) (us:List U):slotsOf (.s ns :: us)=slotsOf us:=rfl
@[simp] theorem OL (us:List U):slotsOf (.v i :: us)=i :: slotsOf us:=rfl
@[simp] theorem Lp:cF []=0:=rfl
@[simp] theorem OM (us:List U):cF (.t d :: us)=cF us:=rfl
@[simp] theorem ON (us:List U):cF (.m o :: us)=cF us+1:=rfl
@[simp] theorem OO (ns:List Int) (us:List U):cF (.s ns :: us)=cF us:=rfl
@[simp] theorem OP (us:List U):cF (.v i :: us)=cF us:=rfl
@[simp] theorem Lq:wb [] [] S=some S:=rfl
@[simp] theorem OQ (us:List U) (os:List MO):wb (.t d :: us) os S=wb us os S:=by cases os <;> rfl
@[simp] theorem OR (ns:List Int) (us:List U) (os:List MO):wb (.s ns :: us) os S=wb us os S:=by cases os <;> rfl
@[simp] theorem OS (us:List U) (os:List MO):wb (.m o :: us) (o' :: os) S=wb us os S:=rfl
@[simp] theorem OT (us:List U) (os:List MO):wb (.v i :: us) (o :: os) S=match S[i]? with | some (some (.m _))=>wb us os (S.set i (some (.m o))) | some (some (.b _))=>wb us os (S.set i (some (.b o))) | _=>none:=rfl
@[simp] theorem OU:aV i gb S=match S[i]? with | some (some _)=>(gb S).bind fun p=>(match p.2[i]? with | some (some u)=>(jw u p.1).map fun d=>(d,p.2) | _=>none) | _=>none:=rfl
@[simp] theorem OV:fV i S=match S[i]? with | some (some u)=>(rY u).map fun n=>(.int (n:Nat),S) | _=>none:=rfl
@[simp] theorem Us (h:List D->MO->Option (D×MO)):eM i h gA S=if zj S i then(gA S).bind fun p=>jH p.2 i (h p.1) else none:=rfl
@[simp] theorem OW (gk gv:GD):Ay i gk gv S=(gv S).bind fun p=>match p.2[i]? with | some (some _)=>(gk p.2).bind fun r=>(jH r.2 i fun o=>(kI o r.1 p.1).map fun o'=>(.bM,o')).map fun z=>.nx z.2 | _=>none:=rfl
@[simp] theorem RN (Ts:List String):Mv Ts g S=(g S).bind fun p=>(qK Ts p.1).map fun b=>(.bl b,p.2):=rfl
@[simp] theorem Io (ds:List D) (k:Int):jw (.t (.tup ds)) (.int k)=dj ds k:=rfl
@[simp] theorem Ip (ds:List D) (k:Int):jw (.t (.lst ds)) (.int k)=dj ds k:=rfl
@[simp] theorem Iq (ds:List D) (k:Int):jw (.m (.lst ds)) (.int k)=dj ds k:=rfl
@[simp] theorem Ir (ds:List D) (k:Int):jw (.b (.lst ds)) (.int k)=dj ds k:=rfl
@[simp] theorem yr (kvs:List (Key×D)) (k:D):jw (.m (.dct kvs)) k=(keyOf k).bind (aT kvs):=by cases k <;> rfl
@[simp] theorem yt (kvs:List (Key×D)) (k:D):jw (.b (.dct kvs)) k=(keyOf k).bind (aT kvs):=by cases k <;> rfl
@[simp] theorem JK (ns:List Int) (k:Int):jw (.s ns) (.int k)=(dj ns k).map D.int:=rfl
@[simp] theorem MK (k:Int):keyOf (.int k)=some (.inl k):=rfl
@[simp] theorem ML (k:Str):keyOf (.str k)=some (.inr k):=rfl
@[simp] theorem JL (ds:List D):rY (.t (.tup ds))=some ds.length:=rfl
@[simp] theorem JM (ds:List D):rY (.t (.lst ds))=some ds.length:=rfl
@[simp] theorem JN (ds:List D):rY (.m (.lst ds))=some ds.length:=rfl
@[simp] theorem JO (ds:List D):rY (.b (.lst ds))=some ds.length:=rfl
@[simp] theorem Lr (ns:List Int):rY (.s ns)=some ns.length:=rfl
@[simp] theorem RO (C:Int->Int->Bool) (h:Int->Int->D) (x y:Int):Cj C h [.int x,.int y]=if C x y then some (.t (h x y)) else none:=rfl
@[simp] theorem Ls (x y:Int):iW [.int x,.int y]=some (.t (.int (x+y))):=rfl
@[simp] theorem Lu (x y:Str):iW [.str x,.str y]=if x.length+y.length<=100000 then some (.t (.str (x++y))) else none:=rfl
@[simp] theorem Lv (x y:List D):iW [.tup x,.tup y]=if x.length+y.length<=100000 then some (.t (.tup (x++y))) else none:=rfl
@[simp] theorem Lw (x y:List D):iW [.lst x,.lst y]=if x.length+y.length<=100000 then some (.m (.lst (x++y))) else none:=rfl
@[simp] theorem OX (x y:Int):uK [.int x,.int y]=if((decide (-(2 ^ 64) < x) && decide (x < 2 ^ 64)) || (decide (-(2 ^ 64) < y) && decide (y < 2 ^ 64))) then some (.t (.int (x * y))) else none:=rfl
@[simp] theorem OY (ds:List D):lz ds=if ds.length<=100000 then some (.t (.tup ds)) else none:=rfl
@[simp] theorem OZ (ds:List D):iu ds=if ds.length<=100000 then some (.m (.lst ds)) else none:=rfl
@[simp] theorem MM (ds:List D) (k:Int):qC [.tup ds,.int k]=(dj ds k).map .t:=rfl
@[simp] theorem MN (ds:List D) (k:Int):qC [.lst ds,.int k]=(dj ds k).map .t:=rfl
@[simp] theorem RP:DK [d,e]=if iS d<=40 then some (.t (.bl (kO d e))) else none:=rfl
@[simp] theorem RQ:Oa [d,e]=if iS d<=40 then some (.t (.bl (!kO d e))) else none:=rfl
@[simp] theorem MP (x y z:Int):La [.int x,.int y,.int z]=some (.t (.int (if y < x then(if z < y then z else y) else if z < x then z else x))):=rfl
@[simp] theorem Lx (ds:List D):pY [.tup ds]=some (.t (.int ds.length)):=rfl
@[simp] theorem Ly (ds:List D):pY [.lst ds]=some (.t (.int ds.length)):=rfl
@[simp] theorem JP (ds:List D):tV [.tup ds]=some (.m (.lst ds)):=rfl
@[simp] theorem JQ (ds:List D):tV [.lst ds]=some (.m (.lst ds)):=rfl
@[simp] theorem Iu (ds:List D):gG [.tup ds]=some (.t (.tup ds)):=rfl
@[simp] theorem Iv (ds:List D):gG [.lst ds]=some (.t (.tup ds)):=rfl
@[simp] theorem O0 (ds:List D):Cu [.lst ds]=(jV ds).map fun bs=>.t (.bl (bs.all id)):=rfl
@[simp] theorem MQ:mL [d]=if Gn d then some (.t (.str (toPy d).shown)) else none:=rfl
@[simp] theorem EY (x y:Str):kO (.str x) (.str y)=(x == y):=by simp[kO]
@[simp] theorem EZ (x y:Int):kO (.int x) (.int y)=(x == y):=by simp[kO]
@[simp] theorem MR (x:Int):iS (.int x)=0:=by simp[iS]
@[simp] theorem O1 (h:MO->Option (D×MO)):jH S i h=match S[i]? with | some (some (.m o))=>(h o).map fun r=>(r.1,S.set i (some (.m r.2))) | some (some (.b o))=>(h o).map fun r=>(r.1,S.set i (some (.b r.2))) | _=>none:=rfl
@[simp] theorem RS:zj S i=match S[i]? with | some (some (.m (.lst _)))=>true | some (some (.b (.lst _)))=>true | _=>false:=rfl
@[simp] theorem AL (kvs:List (Key×D)) (k:D):kI (.dct kvs) k d=(keyOf k).bind fun kk=>if kvs.length < 100000 then some (.dct (putD kvs kk d)) else none:=rfl
@[simp] theorem JR (ds:List D) (k:Int):kI (.lst ds) (.int k) d=(BS ds.length k).map fun j=>.lst (ds.set j d):=rfl
@[simp] theorem Lz (ds:List D):hAppend [d] (.lst ds)=if ds.length < 100000 then some (.bM,.lst (ds++[d])) else none:=rfl
@[simp] theorem JV:aN [] S=some []:=by cases S <;> rfl
@[simp] theorem MS (us:List U) (o2:MO):aN (.b o2 :: us) (some (.b o) :: S)=(aN us S).map fun os=>o :: os:=rfl
@[simp] theorem zB (us:List U) (x:Option U):aN (.t d :: us) (x :: S)=aN us S:=by cases x <;> rfl
end
end L2
end
section
namespace Sw
open PySem PySem.Spec PyProof.Rows L2
noncomputable def aP (T:List (Str×Int)):D:=.tup (T.map fun p=>.tup [.str p.1,.int p.2])
noncomputable def upTo (n:Nat):List Int:=(List.range n).map fun(k:Nat)=>(k:Int)
theorem wu (n:Nat):iA 0 n=(upTo n).map D.int:=by
 unfold iA upTo
 simp
noncomputable def Iw:D->Option (Str×Int)
 | .tup [.str z,.int i]=>some (z,i)
 | _=>none
noncomputable def wz:List D->Option (List (Str×Int))
 | []=>some []
 | d :: ds=>(Iw d).bind fun p=>(wz ds).map fun ps=>p :: ps
noncomputable def tabOf:D->Option (List (Str×Int))
 | .tup ds=>wz ds
 | _=>none
@[simp] theorem AM (T:List (Str×Int)):wz (T.map fun p=>.tup [.str p.1,.int p.2])=some T:=by
 induction T with
 | nil=>rfl
 | cons p T ih=>simp[wz,Iw,ih]
@[simp] theorem E1 (T:List (Str×Int)):tabOf (aP T)=some T:=AM T
theorem qR:∀{ds:List D}{T:List (Str×Int)},wz ds=some T->ds=T.map fun p=>.tup [.str p.1,.int p.2]
  | [],T,h=>by cases h;rfl
  | d :: ds, T, h => by
    obtain⟨p,h1,h⟩:=ah h
    obtain⟨ps,h2,h⟩:=az h
    subst h
    unfold Iw at h1
    split at h1
    . cases h1
      rw[qR h2]
      rfl
    . cases h1
theorem yu {d:D}{T:List (Str×Int)}(h:tabOf d=some T):d=aP T:=by
 unfold tabOf at h
 split at h
 ·rw[qR h];rfl
 ·cases h
theorem CV:∀(ts:List D) (S:SS),S.length=ts.length->aN (ts.map U.t) S=some []
 | [],S,_=>by cases S <;> rfl
 | d :: ts,[],h=>by cases h
 | d :: ts,x :: S,h=>by
  show aN (U.t d :: ts.map U.t) (x :: S)=_
  rw[zB]
  exact CV ts S (by simpa using h)
theorem Gw (S:SS):∀ts:List D,cj S (ts.map U.t)=some (ts.map U.t)
 | []=>rfl
 | d :: ts=>by
  show(some (U.t d)).bind _=_
  rw[Gw S ts]
  rfl
theorem LA:∀ts:List D,slotsOf (ts.map U.t)=[]
 | []=>rfl
 | d :: ts=>LA ts
theorem LB:∀ts:List D,cF (ts.map U.t)=0
 | []=>rfl
 | d :: ts=>LB ts
theorem Iz (S:SS):∀ts:List D,wb (ts.map U.t) [] S=some S
 | []=>rfl
 | d :: ts=>Iz S ts
theorem uV {cap:List Nat}{q:GT}{g:GD}{S:SS}{ts:List D}(hc:dR S cap=some (ts.map U.t)) (p:D->Bool) (f:D->D):∀(ds acc:List D),
    (∀d∈ds,q (some (.t d) :: ts.map fun x=>some (.t x))=some (p d,some (.t d) :: ts.map fun x=>some (.t x)))->(∀d∈ds,p d=true->g (some (.t d) :: ts.map fun x=>some (.t x))=some (f d,some (.t d) :: ts.map fun x=>some (.t x)))->
    bu cap q g ds S acc=some (acc++(ds.filter p).map f,S)
  | [],acc,_,_=>by simp[bu]
  | d :: ds, acc, hq, hg => by
    have em:(ts.map U.t).map some=ts.map fun x=>some (U.t x):=by simp
    have eo:aN (.t d :: ts.map U.t) (some (.t d) :: ts.map fun x=>some (.t x))=some []:=by rw[zB];exact CV ts _ (by simp)
    have q0:=hq d (List.mem_cons_self)
    unfold bu
    rw[hc]
    simp only[Option.bind_some]
    rw[if_pos ⟨by rw[LA];exact List.nodup_nil,by rw[LB];exact Nat.zero_le _⟩,Gw]
    simp only[Option.bind_some]
    rw[em,q0]
    simp only[Option.bind_some]
    by_cases hp:p d=true
    . rw[if_pos hp,hg d List.mem_cons_self hp]
      simp only[Option.bind_some]
      rw[eo]
      simp only[Option.bind_some]
      rw[Iz]
      simp only[Option.bind_some]
      rw[uV hc p f ds (acc++[f d]) (fun e he=>hq e (List.mem_cons_of_mem _ he)) (fun e he=>hg e (List.mem_cons_of_mem _ he)),List.filter_cons_of_pos hp]
      simp
    . rw[if_neg hp,eo]
      simp only[Option.bind_some]
      rw[Iz]
      simp only[Option.bind_some]
      rw[uV hc p f ds acc (fun e he=>hq e (List.mem_cons_of_mem _ he)) (fun e he=>hg e (List.mem_cons_of_mem _ he)),List.filter_cons_of_neg hp]
@[simp] theorem E2 (cap:List Nat) (gi:GI) (q:GT) (g:GD) (S:SS):dP cap gi q g S=(gi S).bind fun p=>if p.1.length<=100000 then(bu cap q g p.1 p.2 []).map fun r=>(.m (.lst r.1),r.2) else none:=rfl
theorem iY (g:GD) (S:SS):gF g S=(g S).bind fun p=>match p.1 with | .tup ds=>some (ds,p.2) | .lst ds=>some (ds,p.2) | .str z=>some (z.cps.toList.map fun c=>.str ⟨#[c]⟩,p.2) | _=>none:=rfl
theorem oW {α:Type}(f:α->Bool):∀ds:List α,jV (ds.map fun d=>.bl (f d))=some (ds.map f)
 | []=>rfl
 | d :: ds=>by simp[jV,oW f ds]
noncomputable def dZ (p:Str×Int):D:=.tup [.str p.1,.int p.2]
mutual
noncomputable def Sane:D->Prop
 | .int i=>i.natAbs < 10 ^ 30
 | .str z=>∀c∈z.cps.toList,c < 16 ^ 8
 | .tup ds=>ud ds
 | .lst ds=>ud ds
 | .bM=>True
 | .bl _=>True
noncomputable def ud:List D->Prop
 | []=>True
 | d :: ds=>Sane d/\ud ds
end
mutual
noncomputable def wD:D->Nat
 | .bM=>6
 | .bl _=>6
 | .int _=>40
 | .str z=>10 * z.length+2
 | .tup ds=>DP ds+4
 | .lst ds=>DP ds+4
noncomputable def DP:List D->Nat
 | []=>0
 | d :: ds=>wD d+2+DP ds
end
theorem AN (s:String):(Str.ofString s).length=s.length:=PySem.ofString_length s
theorem zC:∀(ts:List Str) (k:Nat) (acc:Str),(textFrom k acc ts).length<=acc.length+piled ts
  | [],k,acc=>Nat.le_refl _
  | t :: ts, k, acc => by
    have ih:=zC ts (k+1) (acc++(if k > 0 then ", " else "":String)++t)
    have e:(acc++(if k > 0 then ", " else "":String)++t).length<=acc.length+2+t.length:=by
      rw[strLen_append,strLen_append]
      split
      . show acc.length+2+t.length<=_;omega
      . show acc.length+0+t.length<=_;omega
    rw[piled_cons]
    show(textFrom (k+1) _ ts).length<=_
    omega
mutual
theorem shown_le:∀d:D,Sane d->(toPy d).shown.length<=wD d
 | .bM,_=>by show(Str.ofString "None").length<=6;decide
 | .bl b,_=>by cases b <;> (show(Str.ofString _).length<=6;decide)
 | .int i,h=>by
  show(Str.ofString (toString i)).length<=40
  rw[AN]
  exact Nat.le_trans (int_text_length_le10 (k:=30) (by decide) h) (by decide)
 | .str z,h=>PySem.StrLaws.reprText_len z h
 | .tup ds,h=>by
  have k:=oX ds h
  show(tupleText (PyData.shownAll (fC ds))).length<=DP ds+4
  unfold tupleText
  rw[strLen_append,strLen_append]
  have e1:("(":Str).length=1:=rfl
  have e2:((if(PyData.shownAll (fC ds)).length == 1 then ",)" else ")":String):Str).length<=2:=by split <;> decide
  by_cases hn:PyData.shownAll (fC ds)=[]
  ·rw[hn] at e2 ⊢
   have e3:(Str.join ", " []).length=0:=rfl
   omega
  ·have:=join_length_add _ hn
   omega
 | .lst ds,h=>by
  have k:=oX ds h
  show(listText (PyData.shownAll (fC ds))).length<=DP ds+4
  unfold listText
  rw[strLen_append]
  have e1:=zC (PyData.shownAll (fC ds)) 0 "["
  have e2:("[":Str).length=1:=rfl
  have e3:("]":Str).length=1:=rfl
  omega
theorem oX:∀ds:List D,ud ds->piled (PyData.shownAll (fC ds))<=DP ds
 | [],_=>Nat.le_refl _
 | d :: ds,h=>by
  show piled ((toPy d).shown :: PyData.shownAll (fC ds))<=wD d+2+DP ds
  rw[piled_cons]
  have:=shown_le d h.1
  have:=oX ds h.2
  omega
end
mutual
theorem pS:∀d:D,Sane d->(toPy d).showable=true
 | .bM,_=>rfl
 | .bl b,_=>rfl
 | .int i,h=>by
  show decide (i.natAbs.log2 < 1920)=true
  rw[decide_eq_true_eq]
  by_cases hz:i.natAbs=0
  ·rw[hz];decide
  ·exact(Nat.log2_lt hz).mpr (Nat.lt_trans h (Nat.lt_of_lt_of_le (show(10:Nat) ^ 30 < 2 ^ 100 by decide) (Nat.pow_le_pow_right (by decide) (by decide))))
 | .str z,_=>rfl
 | .tup ds,h=>by show PyData.showableAll (fC ds)=true;exact kJ ds h
 | .lst ds,h=>by show PyData.showableAll (fC ds)=true;exact kJ ds h
theorem kJ:∀ds:List D,ud ds->PyData.showableAll (fC ds)=true
 | [],_=>rfl
 | d :: ds,h=>by
  show((toPy d).showable && PyData.showableAll (fC ds))=true
  rw[pS d h.1,kJ ds h.2]
  rfl
end
mutual
theorem depth_eq:∀d:D,(toPy d).depth=iS d
 | .bM=>rfl
 | .bl _=>rfl
 | .int _=>rfl
 | .str _=>rfl
 | .tup ds=>by show PyData.depthAll (fC ds)+1=bH ds+1;rw[oY ds]
 | .lst ds=>by show PyData.depthAll (fC ds)+1=bH ds+1;rw[oY ds]
theorem oY:∀ds:List D,PyData.depthAll (fC ds)=bH ds
 | []=>rfl
 | d :: ds=>by show max (toPy d).depth (PyData.depthAll (fC ds))=max (iS d) (bH ds);rw[depth_eq d,oY ds]
end
theorem CW {d:D}(h:Sane d) (hw:wD d<=1000000) (hd:iS d<=20):Gn d:=
 ⟨pS d h,by rw[depth_eq];exact hd,Nat.le_trans (shown_le d h) (Nat.le_trans hw (by decide))⟩
structure yw (z:Str):Prop where
 len:z.length<=8
 Wc:∀c∈z.cps.toList,c < 16 ^ 8
structure ig (p:Str×Int):Prop where
 nm:yw p.1
 lo:0<=p.2
 hi:p.2<=10
theorem getD_mem {α:Type}{l:List α}{i:Nat}{x:α}(h:i < l.length):l.getD i x∈l:=by simp[List.getD,h]
noncomputable def yx (n:Nat):FM
 | [.s ns]=>if ns.length<=n then some (.t (.bl true),[]) else none
 | _=>none
theorem IA {K:PySem.W.Frag}{H:Hp}{a:Addr}{ns:List Int}{n:Nat}{E:XK}(hl:ns.length<=n) (hO:Eh H) (hS:nC K H a (ns.map V.int)):spT K 1 (yx n) [.ref a] H (fun v _=>v= .bl true) E:=by
 have sc:Eo K H a ns:=by
  rcases hS with(h | h) | h
  ·rcases hO a with z | ⟨o,xs,z⟩
   ·rw[h] at z;cases z
   ·rw[h] at z;cases z
  ·exact .inl h
  ·exact .inr h
 exact⟨rfl,fun _=>none,[.s ns],.t (.bl true),[],(fun b o z=>by cases z),.cons ⟨a,rfl,sc⟩ .nil,List.nodup_nil,by simp[yx,hl],fun v F' H' _ r=>m5 r⟩
end Sw
end
section
namespace L2
open PySem PySem.Spec PyProof.Rows
section
variable (S:SS) (d:D) (i:Nat) (g ga gb gc:GD) (gA:GA)
@[simp] theorem O2 (f:Int->Int->Int):EH f i g S=match S[i]? with
 | some (some (.t (.int n)))=>(g S).bind fun p=>match p.1 with
  | .int m=>(mD i (.t (.int (f n m))) p.2).map .nx
  | _=>none
 | _=>none:=rfl
@[simp] theorem O3:Cz [d,.bM]=some (.t (.bl (nT d))):=rfl
@[simp] theorem MT (k:Bool):EF [.bl k]=some (.t (.int (if k then 1 else 0))):=rfl
@[simp] theorem CY (ds:List D) (k:Int):v9 [.lst ds,.int k]=if 0<=k/\k.toNat<=100000/\ds.length * k.toNat<=100000 then some (.m (.lst (List.replicate k.toNat ds).flatten)) else none:=rfl
@[simp] theorem JX (es ds:List D):jN [.lst es] (.lst ds)=if ds.length+es.length<=100000 then some (.bM,.lst (ds++es)) else none:=rfl
@[simp] theorem MU:CF gA S=(gA S).bind fun p=>match p.1 with
 | [d]=>(uR d).map fun q=>(pQ q.2,p.2)
 | _=>none:=rfl
@[simp] theorem LC (ds:List D):uR (.lst ds)=some (true,ds):=rfl
@[simp] theorem LD (ds:List D):uR (.tup ds)=some (false,ds):=rfl
theorem fH (cap:List Nat) (gi:GI) (q:GT):dP cap gi q g S=(gi S).bind fun p=>if p.1.length<=100000 then(bu cap q g p.1 p.2 []).map fun r=>(.m (.lst r.1),r.2) else none:=rfl
@[simp] theorem MV (x y:Int):zo [.int x,.int y]=some (.t (.int (if y < x then y else x))):=rfl
end
end L2
namespace Sq
open PySem PySem.Spec PyProof.Rows L2 Sw
theorem oq {bd:GB}{body:GS}:∀(ds:List D) (I:List D->SS->Prop) (S:SS),I ds S->(∀d r S,I (d :: r) S->∃S1 S2,bd d S=some S1/\body S1=some (.nx S2)/\I r S2)->∃S',loop bd body ds S=some (.nx S')/\I [] S'
 | [],I,S,h,_=>⟨S,rfl,h⟩
 | d :: ds,I,S,h,k=>by
  obtain⟨S1,S2,e1,e2,h2⟩:=k d ds S h
  obtain⟨S',e,h'⟩:=oq ds I S2 h2 k
  refine⟨S',?_,h'⟩
  show((bd d S).bind fun S1=>(body S1).bind _)=_
  rw[e1,Option.bind_some,e2,Option.bind_some]
  exact e
theorem kK (cap : List Nat) (q : GT) (g : GD) (d : D) (ds : List D) (S : SS) (acc : List D) : bu cap q g (d :: ds) S acc = (bu cap q g [d] S acc).bind fun r => bu cap q g ds r.2 r.1 := by
  simp only[bu]
  cases dR S cap with
  | none=>rfl
  | some us =>
    simp only[Option.bind_some]
    split
    . cases cj S us with
      | none=>rfl
      | some ws =>
        simp only[Option.bind_some]
        cases q (some (.t d) :: ws.map some) with
        | none=>rfl
        | some p=>
          simp only[Option.bind_some]
          split
          . cases g p.2 with
            | none=>rfl
            | some r=>
              simp only[Option.bind_some]
              cases aN (.t d :: ws) r.2 with
              | none=>rfl
              | some outs=>
                simp only[Option.bind_some]
                cases wb us outs S with
                | none=>rfl
                | some S'=>rfl
          . cases aN (.t d :: ws) p.2 with
            | none=>rfl
            | some outs=>
              simp only[Option.bind_some]
              cases wb us outs S with
              | none=>rfl
              | some S'=>rfl
    . rfl
theorem qj {cap:List Nat}{g:GD}:∀(ds:List D) (I:List D->List D->SS->Prop) (S:SS) (acc:List D),I ds acc S->(∀d r acc S,I (d :: r) acc S->∃acc' S',bu cap bA g [d] S acc=some (acc',S')/\I r acc' S')->∃acc' S',bu cap bA g ds S acc=some (acc',S')/\I [] acc' S'
 | [],I,S,acc,h,_=>⟨acc,S,rfl,h⟩
 | d :: ds,I,S,acc,h,k=>by
  obtain⟨a1,S1,e1,h1⟩:=k d ds acc S h
  obtain⟨a2,S2,e2,h2⟩:=qj ds I S1 a1 h1 k
  exact⟨a2,S2,by rw[kK,e1];exact e2,h2⟩
theorem kL {α:Type}{l:List α}{i:Int}{x:α}(h0:0<=i) (h:l[i.toNat]? =some x):dj l i=some x:=by
 have hl:=(List.getElem?_eq_some_iff.mp h).1
 unfold dj BS
 rw[if_pos h0,if_pos (by omega)]
 exact h
theorem uW {α:Type}{l:List α}{i:Int}(h0:0<=i) (h1:i < l.length):∃x,dj l i=some x/\l[i.toNat]? =some x:=by
 have h:i.toNat < l.length:=by omega
 exact⟨l[i.toNat],kL h0 (List.getElem?_eq_getElem h),List.getElem?_eq_getElem h⟩
theorem kr {gA:GA}{S S':SS}{j:Int}(h:gA S=some ([.int j],S')) (h1:j < 1000000) (h2:-1000000 < j):cU gA S=some (iA 0 j.toNat,S'):=by
 unfold cU
 rw[h]
 simp only[Option.bind_some]
 rw[if_pos ⟨h1,h2⟩]
theorem IB (i n:Nat) (j:Int) (S:SS) (h:S[i]? =some (some (.t (.int j)))) (hj:j.toNat=n) (h1:j < 1000000) (h2:-1000000 < j):cU (aa (eF (ak i)) aA) S=some (iA 0 n,S):=by
 have e:(aa (eF (ak i)) aA) S=some ([.int j],S):=by simp[h]
 rw[kr e h1 h2,hj]
theorem uX (n:Nat):(-1000000:Int) < n:=Int.lt_of_lt_of_le (by decide) (Int.natCast_nonneg n)
theorem CZ (i n:Nat) (S:SS) (h:S[i]? =some (some (.t (.int n)))) (hn:n < 1000000):cU (aa (eF (ak i)) aA) S=some (iA 0 n,S):=
 IB i n n S h (Int.toNat_natCast n) (Int.ofNat_lt.mpr hn) (uX n)
theorem IC (ds:List D) (n:Nat) (k:Int) (hk:k.toNat=n) (h:ds.length * n<=100000) (h1:0<=k) (h2:n<=100000):v9 [.lst ds,.int k]=some (.m (.lst (List.replicate n ds).flatten)):=by
 subst hk
 rw[CY,if_pos ⟨h1,h2,h⟩]
theorem C0 (ds:List D) (n:Nat) (h:ds.length * n<=100000) (hn:n<=100000):v9 [.lst ds,.int n]=some (.m (.lst (List.replicate n ds).flatten)):=
 IC ds n n (Int.toNat_natCast n) h (Int.natCast_nonneg n) hn
theorem zD (x:D):∀n:Nat,(List.replicate n [x]).flatten=List.replicate n x
 | 0=>rfl
 | n+1=>by rw[List.replicate_succ,List.flatten_cons,zD x n];rfl
theorem C1 (x:D) (n:Nat) (hn:n<=100000):v9 [.lst [x],.int n]=some (.m (.lst (List.replicate n x))):=by
 rw[C0 [x] n (by rw[List.length_singleton,Nat.one_mul];exact hn) hn,zD]
noncomputable def jz:GS:=
 (aQ (bz 2 (eP iW (aa (eF (eP iW (aa (eF (eP uK (aa (eF (eP iW (aa (eF (eP vO (aa (eF (ak 0)) (aa (eF (eP Es (aa (eC (.int 10)) (aa (eC (.int 15)) aA)))) aA)))) (aa (eC (.int 1)) aA)))) (aa (eC (.int 48271)) aA)))) (aa (eF (eP uK (aa (eF (eP uK (aa (eF (ak 1)) (aa (eF (ak 1)) aA)))) (aa (eC (.int 16807)) aA)))) aA)))) (aa (eF (eP uK (aa (eF (ak 1)) (aa (eC (.int 7919)) aA)))) aA))))
 (d8 (eP vO (aa (eF (eP uK (aa (eF (eP vO (aa (eF (ak 2)) (aa (eC (.int 2147483647)) aA)))) (aa (eC (.int 69621)) aA)))) (aa (eC (.int 2147483629)) aA)))))
noncomputable def wA:FM:=bJ 3 jz
theorem E3:∀us r,wA us=some r->bJ 3 jz us=some r:=fun _ _ h=>h
theorem C2 (c k:Int) (h0:0<=k) (h1:k < 1000000):∃v,wA [.t (.int c),.t (.int k)]=some (.t (.int v),[])/\0<=v/\v < 2147483629:=by
 refine⟨(((c % 10 ^ 15+1) * 48271+k * k * 16807+k * 7919) % 2147483647 * 69621) % 2147483629,?_,Int.emod_nonneg _ (by decide),Int.emod_lt_of_pos _ (by decide)⟩
 have a1:-18446744073709551616 < k:=by omega
 have a2:k < 18446744073709551616:=by omega
 simp[wA,bJ,jz,aN,a1,a2]
noncomputable abbrev fd (c i l:Int):MO:=.lst [.int c,.int i,.int l]
noncomputable def fJ (dw:FM):GS:=
 (aQ (bz 2 (eP iW (aa (eF (eP uK (aa (eC (.int 7919)) (aa (eF (ak 1)) aA)))) (aa (eC (.int 1)) aA))))
 (aQ (xx (qB (eF (eP HG (aa (eF (ak 1)) (aa (fV 0) aA))))) (bz 2 (eT (aV 0 (eF (ak 1))))) (xx (qB (eF (eP Mr (aa (fV 0) (aa (eC (.int 0)) aA))))) (bz 2 (br dw (bq (aV 0 (eF (eP vO (aa (eF (ak 1)) (aa (fV 0) aA))))) (bq (eF (ak 1)) cz)))) oR))
 (d8 (eP iu (aa (eF (ak 2)) (aa (eC (.int 0)) (aa (eF (eP uK (aa (eF (eP Ck (aa (eF (ak 2)) (aa (eF (eP Es (aa (eC (.int 10)) (aa (eC (.int 18)) aA)))) aA)))) (aa (eF (eP EF (aa (eF (eP Rw (aa (eF (ak 2)) (aa (eF (eP Es (aa (eC (.int 10)) (aa (eC (.int 18)) aA)))) aA)))) aA))) aA)))) aA)))))))
noncomputable def pT:FM:=bJ 3 (fJ wA)
theorem C3:∀us r,pT us=some r->bJ 3 (fJ wA) us=some r:=fun _ _ h=>h
theorem zE {ns:List Int}{k:Int}(h0:0<=k) (h1:k < 1000) (hn:ns.length < 1000):∃c l,pT [.s ns,.t (.int k)]=some (.m (fd c 0 l),[]):=by
 have a1:-18446744073709551616 < k:=by omega
 have a2:k < 18446744073709551616:=by omega
 by_cases hk:k < ns.length
 ·obtain⟨x,hx,_⟩:=uW (l:=ns) h0 hk
  refine⟨x,(x - 10 ^ 18) * (if decide (10 ^ 18<=x)=true then 1 else 0),?_⟩
  have e:dj ns k=some x:=hx
  by_cases hc:(1000000000000000000:Int)<=x <;> simp[pT,bJ,fJ,aN,a1,a2,hk,e,hc]
 ·by_cases hp:0 < ns.length
  ·have Ut:(0:Int) < ns.length:=by omega
   have hne:(ns.length:Int)≠0:=by omega
   obtain⟨x,hx,_⟩:=uW (l:=ns) (i:=k % ns.length) (Int.emod_nonneg _ hne) (Int.emod_lt_of_pos _ Ut)
   obtain⟨v,hv,v0,v1⟩:=C2 x k h0 (by omega)
   have hc:¬(1000000000000000000:Int)<=v:=by omega
   refine⟨v,0,?_⟩
   simp[pT,bJ,fJ,aN,a1,a2,hk,hp,hx,hv,hc]
  ·have hc:¬(1000000000000000000:Int)<=7919 * k+1:=by omega
   refine⟨7919 * k+1,0,?_⟩
   simp[pT,bJ,fJ,aN,a1,a2,hk,hp,hc]
noncomputable def gQ (dw:FM):GS:=
 (aQ (Ay 0 (eC (.int 1)) (eF (eP iW (aa (aV 0 (eC (.int 1))) (aa (eC (.int 1)) aA)))))
 (aQ (xx (qB (eF (eP Mr (aa (aV 0 (eC (.int 2))) (aa (eC (.int 0)) aA))))) (aQ (bz 2 (eP vO (aa (aV 0 (eC (.int 2))) (aa (eF (ak 1)) aA))))
 (aQ (Ay 0 (eC (.int 2)) (eF (eP HH (aa (aV 0 (eC (.int 2))) (aa (eF (ak 1)) aA)))))
 (d8 (ak 2)))) oR)
 (d8 (eP vO (aa (eF (eP HH (aa (eF (br dw (bq (aV 0 (eC (.int 0))) (bq (aV 0 (eC (.int 1))) cz)))) (aa (eC (.int 7)) aA)))) (aa (eF (ak 1)) aA))))))
noncomputable def fh:FM:=bJ 3 (gQ wA)
theorem C4:∀us r,fh us=some r->bJ 3 (gQ wA) us=some r:=fun _ _ h=>h
theorem jO (c l:Int){i m:Int}(h0:0<=i) (h1:i < 900000) (m0:0 < m) (m1:m < 1000000):∃v l',fh [.b (fd c i l),.t (.int m)]=some (.t (.int v),[fd c (i+1) l'])/\0<=v/\v < m:=by
 have q0:∀(a b c:D),dj [a,b,c] 0=some a/\dj [a,b,c] 1=some b/\dj [a,b,c] 2=some c:=fun _ _ _=>⟨rfl,rfl,rfl⟩
 have q1:BS 3 1=some 1/\BS 3 2=some 2:=⟨rfl,rfl⟩
 have m2:m < 1073741824:=by omega
 by_cases hl:0 < l
 ·refine⟨l % m,l / m,?_,Int.emod_nonneg _ (by omega),Int.emod_lt_of_pos _ m0⟩
  simp[fh,bJ,gQ,aN,q0,q1,hl,m0,m2,jH,kI]
 ·obtain⟨v,hv,v0,v1⟩:=C2 c (i+1) (by omega) (by omega)
  refine⟨v / 7 % m,l,?_,Int.emod_nonneg _ (by omega),Int.emod_lt_of_pos _ m0⟩
  simp[fh,bJ,gQ,aN,q0,q1,hl,m0,m2,jH,kI,hv]
end Sq
end
section
namespace L2
open PySem PySem.Spec PyProof.Rows
noncomputable def iC:Option U->Bool
 | some (.b _)=>true
 | _=>false
@[simp] theorem RU:iC none=false:=rfl
@[simp] theorem RV (d:D):iC (some (.t d))=false:=rfl
@[simp] theorem RW (o:MO):iC (some (.m o))=false:=rfl
theorem cG (i:Nat) (u:U) (S:SS):mD i u S=(S[i]?).bind fun x=>if iC x then none else some (S.set i (some u)):=by
 unfold mD
 cases S[i]? with
 | none=>rfl
 | some x=>cases x with
  | none=>rfl
  | some u=>cases u <;> rfl
@[simp] theorem O4 (n:Nat) (bs:DI) (ds:List D) (S:SS):qD n bs (.tup ds) S=if ds.length=n then bs ds S else none:=rfl
@[simp] theorem MW (b:GB) (bs:DI) (d:D) (r:List D) (S:SS):iz b bs (d :: r) S=(b d S).bind fun S1=>bs r S1:=rfl
@[simp] theorem O5 (S:SS):rW [] S=some S:=rfl
@[simp] theorem MX (S:SS):zx S=some (.m (.lU []),S):=rfl
@[simp] theorem MY (S:SS):nU S=some (.m (.dct []),S):=rfl
@[simp] theorem yy (kvs:List (D×D)) (k:D):jw (.m (.lU kvs)) k=(jW k).bind (aT kvs):=by cases k <;> rfl
@[simp] theorem yz (kvs:List (D×D)) (k:D):jw (.b (.lU kvs)) k=(jW k).bind (aT kvs):=by cases k <;> rfl
@[simp] theorem AO (kvs:List (D×D)) (k d:D):kI (.lU kvs) k d=(jW k).bind fun kk=>if kvs.length < 10000000 then some (.lU (putD kvs kk d)) else none:=by cases k <;> rfl
@[simp] theorem LF (z:Str):tH (.str z)=true:=rfl
@[simp] theorem LG (b:Bool):tH (.bl b)=true:=rfl
@[simp] theorem LH (b:Int):tH (.int b)=true:=rfl
@[simp] theorem wB (d:D) (ds:List D):jX [d] (.lst ds)=if bH ds<=40/\ds.length < 100000 then(we d ds).map fun j=>(.int (j:Nat),.lst ds) else none:=rfl
theorem qT {bd:GB}{body:GS}(ds:List D) (I:Nat->SS->Prop) (S:SS) (h0:I 0 S) (hs:∀j d S,ds[j]? =some d->I j S->∃S1 S2,bd d S=some S1/\body S1=some (.nx S2)/\I (j+1) S2):∃S',loop bd body ds S=some (.nx S')/\I ds.length S':=by
 obtain⟨S',e,j,hr,hj,hI⟩:=Sq.oq (bd:=bd) (body:=body) ds (fun r S=>∃j,ds.drop j=r/\j<=ds.length/\I j S) S ⟨0,rfl,Nat.zero_le _,h0⟩ (by
  rintro d r S ⟨j,hr,hj,hI⟩
  have hlt:j < ds.length:=by
   have:=congrArg List.length hr
   rw[List.length_drop,List.length_cons] at this
   omega
  rw[List.drop_eq_getElem_cons hlt] at hr
  injection hr with h1 h2
  obtain⟨S1,S2,e1,e2,h3⟩:=hs j d S (by rw[List.getElem?_eq_getElem hlt,h1]) hI
  exact⟨S1,S2,e1,e2,j+1,h2,hlt,h3⟩)
 have:j=ds.length:=by
  have:=congrArg List.length hr
  rw[List.length_drop,List.length_nil] at this
  omega
 subst this
 exact⟨S',e,hI⟩
theorem wC {cap:List Nat}{g:GD}(ds:List D) (I:Nat->List D->SS->Prop) (S:SS) (h0:I 0 [] S) (hs:∀j d acc S,ds[j]? =some d->I j acc S->∃x S',bu cap bA g [d] S acc=some (acc++[x],S')/\I (j+1) (acc++[x]) S'):∃acc S',bu cap bA g ds S []=some (acc,S')/\I ds.length acc S':=by
 obtain⟨acc,S',e,j,hr,hj,hI⟩:=Sq.qj (cap:=cap) (g:=g) ds (fun r acc S=>∃j,ds.drop j=r/\j<=ds.length/\I j acc S) S [] ⟨0,rfl,Nat.zero_le _,h0⟩ (by
  rintro d r acc S ⟨j,hr,hj,hI⟩
  have hlt:j < ds.length:=by
   have:=congrArg List.length hr
   rw[List.length_drop,List.length_cons] at this
   omega
  rw[List.drop_eq_getElem_cons hlt] at hr
  injection hr with h1 h2
  obtain⟨x,S',e1,h3⟩:=hs j d acc S (by rw[List.getElem?_eq_getElem hlt,h1]) hI
  exact⟨_,S',e1,j+1,h2,hlt,h3⟩)
 have:j=ds.length:=by
  have:=congrArg List.length hr
  rw[List.length_drop,List.length_nil] at this
  omega
 subst this
 exact⟨acc,S',e,hI⟩
theorem comp_map {cap:List Nat}{g:GD}{S:SS}(f:D->D):∀(ds acc:List D),(∀d∈ds,∀acc,bu cap bA g [d] S acc=some (acc++[f d],S))->bu cap bA g ds S acc=some (acc++ds.map f,S)
 | [],acc,_=>by simp[bu]
 | d :: ds,acc,h=>by
  rw[Sq.kK,h d List.mem_cons_self,Option.bind_some,comp_map f ds (acc++[f d]) fun e he=>h e (List.mem_cons_of_mem _ he)]
  simp
theorem ou {n j:Nat}{d:D}(h:(iA 0 n)[j]? =some d):j < n/\d= .int j:=by
 unfold iA at h
 rw[List.getElem?_map] at h
 cases e:(List.range n)[j]? with
 | none=>rw[e] at h;cases h
 | some k=>
  rw[e] at h
  obtain⟨h1,h2⟩:=List.getElem?_eq_some_iff.mp e
  rw[List.getElem_range] at h2
  rw[List.length_range] at h1
  subst h2
  refine⟨h1,?_⟩
  have:=Option.some.inj h
  rw[<-this]
  show D.int (0+(j:Int))=_
  rw[Int.zero_add]
theorem gR (bd:GB) (body:GS) (d:D) (ds:List D) (S:SS):loop bd body (d :: ds) S=(bd d S).bind fun S1=>(body S1).bind fun o=>match o with
  | .nx S2=>loop bd body ds S2
  | .ct S2=>loop bd body ds S2
  | .bk S2=>some (.nx S2)
  | .rt u S2=>some (.rt u S2):=rfl
end L2
end
section
namespace Sw
open PySem PySem.Spec PyProof.Rows L2
noncomputable def one (p:Str×Int):List (Str×Int):=(upTo (p.2+1).toNat).map fun k=>(p.1,k)
noncomputable def cH (T:List (Str×Int)):List (Str×Int):=T.flatMap one
theorem ow (n:Nat):(upTo n).length=n:=by simp[upTo]
theorem lH:∀{T:List (Str×Int)},(∀p∈T,ig p)->(cH T).length<=11 * T.length
 | [],_=>Nat.le_refl _
 | p :: T,h=>by
  have ih:=lH (T:=T) fun q hq=>h q (List.mem_cons_of_mem _ hq)
  have a:=(h p List.mem_cons_self).lo
  have b:=(h p List.mem_cons_self).hi
  have e:(cH (p :: T)).length=(one p).length+(cH T).length:=by show(one p++cH T).length=_;rw[List.length_append]
  have e2:(one p).length=(p.2+1).toNat:=by unfold one;rw[List.length_map,ow]
  rw[e,e2]
  show _<=11 * (T.length+1)
  omega
theorem at2 (a b:D):dj [a,b] 0=some a/\dj [a,b] 1=some b:=⟨rfl,rfl⟩
noncomputable def fW:GS:=
 (jm (eT (eM 1 hAppend (aa (eF (eP lz (aa (aV 2 (eC (.int 0))) (aa (eF (ak 3)) aA)))) aA))))
noncomputable def dz:GS:=
 (iR (bName 3) (cU (aa (eF (eP iW (aa (aV 2 (eC (.int 1))) (aa (eC (.int 1)) aA)))) aA)) (fW))
noncomputable def gz:GS:=
 (aQ (bz 1 (eP iu aA))
 (aQ (iR (bName 2) (gF (eF (ak 0))) (dz))
 (d8 (ak 1))))
open Classical in
noncomputable def gj:FM
 | [.t td]=>(tabOf td).bind fun T=>if T.length<=4/\∀p∈T,ig p then some (.m (.lst ((cH T).map dZ)),[]) else none
 | _=>none
theorem C5 {T:List (Str×Int)}(h:T.length<=4) (h2:∀p∈T,ig p):gj [.t (aP T)]=some (.m (.lst ((cH T).map dZ)),[]):=by
 unfold gj
 simp only[E1,Option.bind_some]
 rw[if_pos ⟨h,h2⟩]
theorem zF {td:D}{p:Str×Int}:∀(ks:List Int) (acc:List D) (x:Option U),acc.length+ks.length < 1000->(x=none\/∃a,x=some (.t a))->
    ∃x',(x'=none\/∃a,x'=some (.t a))/\loop (bName 3) fW (ks.map D.int) [some (.t td),some (.m (.lst acc)),some (.t (dZ p)),x]=some (.nx [some (.t td),some (.m (.lst (acc++ks.map fun k=>dZ (p.1,k)))),some (.t (dZ p)),x'])
  | [],acc,x,_,hx=>⟨x,hx,by simp⟩
  | k :: ks, acc, x, hl, hx => by
    have hl:acc.length+(ks.length+1) < 1000:=hl
    obtain⟨x',hx',e⟩:=zF (td:=td) (p:=p) ks (acc++[dZ (p.1,k)]) (some (.t (.int k))) (by rw[List.length_append,List.length_singleton];omega) (.inr ⟨_,rfl⟩)
    refine⟨x',hx',?_⟩
    have eb:bName 3 (.int k) [some (.t td),some (.m (.lst acc)),some (.t (dZ p)),x]=some [some (.t td),some (.m (.lst acc)),some (.t (dZ p)),some (.t (.int k))]:=by
      rcases hx with rfl | ⟨a,rfl⟩ <;> rfl
    have h1:acc.length < 100000:=by omega
    have ew:fW [some (.t td),some (.m (.lst acc)),some (.t (dZ p)),some (.t (.int k))]=some (.nx [some (.t td),some (.m (.lst (acc++[dZ (p.1,k)]))),some (.t (dZ p)),some (.t (.int k))]):=by
      simp[fW,dZ,at2,h1]
    show((bName 3 (.int k) _).bind fun S1=>_)=_
    rw[eb,Option.bind_some,ew,Option.bind_some]
    show loop _ _ (ks.map D.int) _=_
    rw[e]
    simp
theorem E4 {p:Str×Int}{td:D}{acc:List D}{x:Option U}(h:ig p):cU (aa (eF (eP iW (aa (aV 2 (eC (.int 1))) (aa (eC (.int 1)) aA)))) aA) [some (.t td),some (.m (.lst acc)),some (.t (dZ p)),x]=some ((upTo (p.2+1).toNat).map D.int,[some (.t td),some (.m (.lst acc)),some (.t (dZ p)),x]):=by
 have a:=h.lo
 have b:=h.hi
 rw[<-wu]
 have h1:p.2+1 < 1000000:=by omega
 have h2:-1000000 < p.2+1:=by omega
 simp[dZ,at2,h1,h2]
theorem wF {td:D}:∀(T:List (Str×Int)) (acc:List D) (x y:Option U),(∀p∈T,ig p)->acc.length+11 * T.length < 900->(x=none\/∃a,x=some (.t a))->(y=none\/∃a,y=some (.t a))->
    ∃x' y',loop (bName 2) dz (T.map dZ) [some (.t td),some (.m (.lst acc)),y,x]=some (.nx [some (.t td),some (.m (.lst (acc++(cH T).map dZ))),y',x'])
  | [],acc,x,y,_,_,hx,hy=>⟨x,y,by simp[cH]⟩
  | p :: T, acc, x, y, h, hl, hx, hy => by
    have hp:=h p List.mem_cons_self
    have hl:acc.length+11 * (T.length+1) < 900:=hl
    have a:=hp.lo
    have b:=hp.hi
    have e2:(one p).length=(p.2+1).toNat:=by unfold one;rw[List.length_map,ow]
    obtain⟨x1,AI,e1⟩:=zF (td:=td) (p:=p) (upTo (p.2+1).toNat) acc x (by rw[ow];omega) hx
    have e3:(upTo (p.2+1).toNat).map (fun k=>dZ (p.1,k))=(one p).map dZ:=by unfold one;rw[List.map_map];rfl
    rw[e3] at e1
    obtain⟨x',y',e⟩:=wF (td:=td) T (acc++(one p).map dZ) x1 (some (.t (dZ p))) (fun q hq=>h q (List.mem_cons_of_mem _ hq)) (by rw[List.length_append,List.length_map,e2];omega) AI (.inr ⟨_,rfl⟩)
    refine⟨x',y',?_⟩
    have eb:bName 2 (dZ p) [some (.t td),some (.m (.lst acc)),y,x]=some [some (.t td),some (.m (.lst acc)),some (.t (dZ p)),x]:=by
      rcases hy with rfl | ⟨a,rfl⟩ <;> rfl
    have ew:dz [some (.t td),some (.m (.lst acc)),some (.t (dZ p)),x]=some (.nx [some (.t td),some (.m (.lst (acc++(one p).map dZ))),some (.t (dZ p)),x1]):=by
      unfold dz
      rw[nh,E4 hp,Option.bind_some]
      exact e1
    show((bName 2 (dZ p) _).bind fun S1=>_)=_
    rw[eb,Option.bind_some,ew,Option.bind_some]
    show loop _ _ (T.map dZ) _=_
    rw[e]
    have:cH (p :: T)=one p++cH T:=rfl
    rw[this,List.map_append,List.append_assoc]
theorem C6:∀us r,gj us=some r->bJ 4 gz us=some r:=by
 intro us r h
 unfold gj at h
 split at h
 ·rename_i td
  obtain⟨T,h1,h⟩:=ah h
  obtain⟨⟨h2,h3⟩,rfl⟩:=bU h
  have:=yu h1
  subst this
  obtain⟨x',y',e⟩:=wF (td:=aP T) T [] none none h3 (by simp only[List.length_nil];omega) (.inl rfl) (.inl rfl)
  rw[List.nil_append] at e
  have e:loop (bName 2) dz (T.map dZ) [some (.t (aP T)),some (.m (.lst [])),none,none]=_:=e
  have ei:gF (eF (ak 0)) [some (.t (aP T)),some (.m (.lst [])),none,none]=some (T.map dZ,[some (.t (aP T)),some (.m (.lst [])),none,none]):=rfl
  simp[bJ,gz,ei,e]
 ·cases h
end Sw
end
section
namespace Sq
open PySem PySem.Spec PyProof.Rows L2 Sw
theorem oz {n j:Nat}{d:D}{r:List D}(h:(iA 0 n).drop j=d :: r):j < n/\d= .int j/\(iA 0 n).drop (j+1)=r:=by
 have hl:j < n:=by
  have:=congrArg List.length h
  simp[iA] at this
  omega
 have h2:j < (iA 0 n).length:=by simpa[iA] using hl
 rw[List.drop_eq_getElem_cons h2] at h
 injection h with h3 h4
 refine⟨hl,?_,h4⟩
 rw[<-h3]
 simp[iA]
theorem jP (n:Nat):(iA 0 n).length=n:=by simp[iA]
noncomputable def xy (x:Option U):Prop:=x=none\/∃d,x=some (.t d)
theorem xy.t {d:D}:xy (some (.t d)):=.inr ⟨d,rfl⟩
theorem xy.n:xy none:=.inl rfl
noncomputable def lI:List D:=[.str "a",.str "ab",.str "abc",.str "now",.str "any",.str "name",.str "less",.str "x",.str "zzzzzzzz"]
theorem E5 {i:Int}(h0:0<=i) (h1:i < 9):∃z,dj lI i=some (.str z)/\yw z:=by
 have:i=0\/i=1\/i=2\/i=3\/i=4\/i=5\/i=6\/i=7\/i=8:=by omega
 rcases this with rfl | rfl | rfl | rfl | rfl | rfl | rfl | rfl | rfl <;> exact⟨_,rfl,by decide,by decide⟩
theorem E6 {i:Int}(h0:0<=i) (h1:i < 4):∃m:Int,dj [D.int 1,.int 2,.int 2,.int 3] i=some (.int m)/\1<=m/\m<=3:=by
 have:i=0\/i=1\/i=2\/i=3:=by omega
 rcases this with rfl | rfl | rfl | rfl <;> exact⟨_,rfl,by decide,by decide⟩
noncomputable def eU (aZ:FM):GS:=
 (aQ (bz 7 (eP zo (aa (eF (br aZ (jI (ak 0) (bq (eC (.int 3)) cz)))) (aa (eF (eP iW (aa (eF (eP Ck (aa (eF (ak 4)) (aa (eF (ak 3)) aA)))) (aa (eF (ak 6)) aA)))) aA))))
 (aQ (jm (eT (eM 5 hAppend (aa (eF (eP lz (aa (aV 1 (eF (eP vO (aa (eF (eP iW (aa (eF (ak 2)) (aa (eF (ak 6)) aA)))) (aa (eC (.int 9)) aA))))) (aa (eF (ak 7)) aA)))) aA))))
 (bz 4 (eP Ck (aa (eF (eP Ck (aa (eF (ak 4)) (aa (eF (ak 7)) aA)))) (aa (eC (.int 1)) aA))))))
noncomputable def ir (aZ:FM):GS:=
 (aQ (bz 1 (eP iu (aa (eC (.str "a")) (aa (eC (.str "ab")) (aa (eC (.str "abc")) (aa (eC (.str "now")) (aa (eC (.str "any")) (aa (eC (.str "name")) (aa (eC (.str "less")) (aa (eC (.str "x")) (aa (eC (.str "zzzzzzzz")) aA)))))))))))
 (aQ (bz 2 (br aZ (jI (ak 0) (bq (eC (.int 9)) cz))))
 (aQ (bz 3 (eP qC (aa (eF (eP iu (aa (eC (.int 1)) (aa (eC (.int 2)) (aa (eC (.int 2)) (aa (eC (.int 3)) aA)))))) (aa (eF (br aZ (jI (ak 0) (bq (eC (.int 4)) cz)))) aA))))
 (aQ (bz 4 (eT (eC (.int 5))))
 (aQ (bz 5 (eP iu aA))
 (aQ (iR (bName 6) (cU (aa (eF (ak 3)) aA)) (eU aZ))
 (d8 (eP gG (aa (eF (ak 5)) aA)))))))))
noncomputable def AQ:FM:=bJ 8 (ir fh)
theorem C7:∀us r,AQ us=some r->bJ 8 (ir fh) us=some r:=fun _ _ h=>h
theorem C8 {c i l st m left k:Int}{T:List (Str×Int)}{x6 x7:Option U}(hi:0<=i) (hi1:i < 800000) (hs:0<=st) (hk:0<=k) (hl:0<=left - m+k) (hT:T.length < 10) (h6:xy x6) (h7:xy x7):
  ∃z v l' S1,bName 6 (.int k) [some (.b (fd c i l)),some (.m (.lst lI)),some (.t (.int st)),some (.t (.int m)),some (.t (.int left)),some (.m (.lst (T.map dZ))),x6,x7]=some S1/\ig (z,v)/\v<=left - m+k/\
   eU fh S1=some (.nx [some (.b (fd c (i+1) l')),some (.m (.lst lI)),some (.t (.int st)),some (.t (.int m)),some (.t (.int (left - v - 1))),some (.m (.lst ((T++[(z,v)]).map dZ))),some (.t (.int k)),some (.t (.int v))]):=by
 obtain⟨v,l',e1,v0,v1⟩:=jO c l hi (by omega) (m:=3) (by omega) (by omega)
 obtain⟨z,e2,nz⟩:=E5 (i:=(st+k) % 9) (Int.emod_nonneg _ (by decide)) (Int.emod_lt_of_pos _ (by decide))
 have hlen:(T.map dZ).length < 100000:=by rw[List.length_map];omega
 have e3:T.length < 100000:=by omega
 refine⟨z,if left - m+k < v then left - m+k else v,l',[some (.b (fd c i l)),some (.m (.lst lI)),some (.t (.int st)),some (.t (.int m)),some (.t (.int left)),some (.m (.lst (T.map dZ))),some (.t (.int k)),x7],?_,⟨nz,?_,?_⟩,?_,?_⟩
 ·rcases h6 with rfl | ⟨d,rfl⟩ <;> rfl
 ·show(0:Int)<=if left - m+k < v then left - m+k else v;split <;> omega
 ·show(if left - m+k < v then left - m+k else v:Int)<=10;split <;> omega
 ·split <;> omega
 ·rcases h7 with rfl | ⟨d,rfl⟩ <;> simp[eU,e1,e2,e3,dZ,jH,hAppend,zj]
noncomputable def cI:GS:=
 (jm (eT (eM 1 jN (aa (eF (dP [2] (cU (aa (eF (eP iW (aa (eF (ak 3)) (aa (eC (.int 1)) aA)))) aA)) bA (eF (eP lz (aa (eF (ak 1)) (aa (eF (ak 0)) aA)))))) aA))))
noncomputable def cW:GS:=
 (aQ (bz 1 (eP iu aA))
 (aQ (iR (qD 2 (iz (bName 2) (iz (bName 3) rW))) (Eu (eF (ak 0))) (cI))
 (d8 (ak 1))))
noncomputable def fK:FM:=bJ 4 cW
theorem C9:∀us r,fK us=some r->bJ 4 cW us=some r:=fun _ _ h=>h
theorem AR {p:Str×Int}{td:D}{acc:List D}{x2 x3:Option U}(hp:ig p) (ha:acc.length < 1000) (h2:xy x2) (h3:xy x3):∃S1,qD 2 (iz (bName 2) (iz (bName 3) rW)) (dZ p) [some (.t td),some (.m (.lst acc)),x2,x3]=some S1/\
  cI S1=some (.nx [some (.t td),some (.m (.lst (acc++(one p).map dZ))),some (.t (.str p.1)),some (.t (.int p.2))]):=by
 refine⟨[some (.t td),some (.m (.lst acc)),some (.t (.str p.1)),some (.t (.int p.2))],?_,?_⟩
 ·rcases h2 with rfl | ⟨a,rfl⟩ <;> rcases h3 with rfl | ⟨b,rfl⟩ <;> rfl
 ·have a:=hp.lo
  have b:=hp.hi
  have b1:p.2+1 < 1000000:=by omega
  have b2:-1000000 < p.2+1:=by omega
  have e:=uV (cap:=[2]) (q:=bA) (g:=eF (eP lz (aa (eF (ak 1)) (aa (eF (ak 0)) aA)))) (S:=[some (.t td),some (.m (.lst acc)),some (.t (.str p.1)),some (.t (.int p.2))]) (ts:=[.str p.1]) rfl (fun _=>true) (fun d=>.tup [.str p.1,d]) (iA 0 (p.2+1).toNat) [] (fun d _=>rfl) (fun d _ _=>by simp)
  have e5:(iA 0 (p.2+1).toNat).map (fun d=>D.tup [.str p.1,d])=(one p).map dZ:=by rw[wu];unfold one dZ;simp
  have e6:((one p).map dZ).length=(p.2+1).toNat:=by unfold one;rw[List.length_map,List.length_map,ow]
  rw[List.filter_eq_self.mpr (fun _ _=>rfl),e5,List.nil_append] at e
  have l1:(p.2+1).toNat<=100000:=by omega
  have l2:acc.length+((one p).map dZ).length<=100000:=by rw[e6];omega
  simp only[List.length_map] at l2
  simp[cI,E2,b1,b2,jP,l1,e,l2,zj,jH]
theorem uY {T:List (Str×Int)}(h:T.length<=4) (h2:∀p∈T,ig p):fK [.t (aP T)]=some (.m (.lst ((cH T).map dZ)),[]):=by
 obtain⟨S',e,done,rest,x2,x3,hd,hr,q2,q3,hs⟩:=oq (bd:=qD 2 (iz (bName 2) (iz (bName 3) rW))) (body:=cI) (T.map dZ)
  (fun r S=>∃(done rest:List (Str×Int)) (x2 x3:Option U),T=done++rest/\r=rest.map dZ/\xy x2/\xy x3/\S=[some (.t (aP T)),some (.m (.lst ((cH done).map dZ))),x2,x3])
  [some (.t (aP T)),some (.m (.lst [])),none,none] ⟨[],T,none,none,rfl,rfl,.n,.n,rfl⟩ (by
  rintro d r S ⟨done,rest,x2,x3,hd,hr,q2,q3,rfl⟩
  cases rest with
  | nil=>cases hr
  | cons p rest=>
   injection hr with hr1 hr2
   subst hr1
   have hl:=lH (T:=done) fun q hq=>h2 q (by rw[hd];exact List.mem_append_left _ hq)
   have hdl:done.length<=4:=by have:=congrArg List.length hd;simp at this;omega
   obtain⟨S1,e1,e2⟩:=AR (p:=p) (td:=aP T) (acc:=(cH done).map dZ) (x2:=x2) (x3:=x3) (h2 p (by rw[hd];simp)) (by rw[List.length_map];omega) q2 q3
   refine⟨S1,_,e1,e2,done++[p],rest,some (.t (.str p.1)),some (.t (.int p.2)),by rw[hd];simp,hr2,.t,.t,?_⟩
   have:cH (done++[p])=cH done++one p:=by simp[cH]
   rw[this,List.map_append])
 have:rest=[]:=by
  cases rest with
  | nil=>rfl
  | cons a b=>cases hr
 subst this
 rw[List.append_nil] at hd
 subst hd
 subst hs
 have e:loop (qD 2 (iz (bName 2) (iz (bName 3) rW))) cI (T.map dZ) [some (.t (aP T)),some (.m (.lst [])),none,none]=_:=e
 have ei:Eu (eF (ak 0)) [some (.t (aP T)),some (.m (.lst [])),none,none]=some (T.map dZ,[some (.t (aP T)),some (.m (.lst [])),none,none]):=rfl
 simp only[fK,bJ,cW]
 simp[ei,e,aN,-Ik]
noncomputable def eu (aZ:FM) (aD:FM):GS:=
 (jm (eT (eM 5 hAppend (aa (eF (eP gG (aa (eF (dP [0,3] (cU (aa (eF (ak 4)) aA)) bA (eF (br aZ (jI (ak 1) (bq (eF (ak 2)) cz)))))) aA))) aA))))
noncomputable def cJ (aZ:FM) (aD:FM):GS:=
 (aQ (bz 3 (eP iW (aa (eC (.int 1)) (aa (eF (br aZ (jI (ak 0) (bq (eC (.int 7)) cz)))) aA))))
 (aQ (bz 4 (eP pY (aa (eF (br aD (bq (eF (ak 1)) cz))) aA)))
 (aQ (bz 5 (eP iu aA))
 (aQ (iR (bName 6) (cU (aa (eF (ak 3)) aA)) (eu aZ aD))
 (aQ (bz 7 (dP [0,2] (cU (aa (eF (ak 3)) aA)) bA (aV 2 (eF (br aZ (jI (ak 1) (bq (fV 2) cz)))))))
 (aQ (xx (qB (eF (eP DK (aa (eF (br aZ (jI (ak 0) (bq (eC (.int 3)) cz)))) (aa (eC (.int 0)) aA))))) (bz 7 (eP v9 (aa (eF (eP iu (aa (aV 2 (eC (.int 0))) aA))) (aa (eF (ak 3)) aA)))) oR)
 (d8 (eP lz (aa (eF (eP gG (aa (eF (ak 5)) aA))) (aa (eF (eP gG (aa (eF (ak 7)) aA))) aA))))))))))
noncomputable def zG:FM:=bJ 8 (cJ fh fK)
theorem Dc:∀us r,zG us=some r->bJ 8 (cJ fh fK) us=some r:=fun _ _ h=>h
noncomputable def aY (r:List Int):D:=.tup (r.map D.int)
theorem Dd (c l : Int) {i m : Int} {a1 a2 a4 a5 a6 a7 : Option U} (n : Nat) (hi : 0 <= i) (hn : i + n < 800000) (m0 : 0 < m) (m1 : m < 1000000) :
    ∃(vs:List Int) (l':Int),bu [0,3] bA (eF (br fh (jI (ak 1) (bq (eF (ak 2)) cz)))) (iA 0 n) [some (.b (fd c i l)),a1,a2,some (.t (.int m)),a4,a5,a6,a7] []=some (vs.map D.int,[some (.b (fd c (i+n) l')),a1,a2,some (.t (.int m)),a4,a5,a6,a7])/\vs.length=n/\∀v∈vs,0<=v/\v < m:=by
  obtain⟨acc',S',e,j,vs,l',hr,hj,rfl,hl,hv,rfl⟩:=qj (cap:=[0,3]) (g:=eF (br fh (jI (ak 1) (bq (eF (ak 2)) cz)))) (iA 0 n)
    (fun r acc S=>∃(j:Nat) (vs:List Int) (l':Int),(iA 0 n).drop j=r/\j<=n/\acc=vs.map D.int/\vs.length=j/\(∀v∈vs,0<=v/\v < m)/\S=[some (.b (fd c (i+j) l')),a1,a2,some (.t (.int m)),a4,a5,a6,a7])
    [some (.b (fd c i l)),a1,a2,some (.t (.int m)),a4,a5,a6,a7] [] ⟨0,[],l,rfl,Nat.zero_le _,rfl,rfl,by simp,by simp⟩ (by
      rintro d r acc S ⟨j,vs,l',hr,hj,rfl,hl,hv,rfl⟩
      obtain⟨hjn,rfl,hr'⟩:=oz hr
      obtain⟨v,l'',e1,v0,v1⟩:=jO c l' (i:=i+j) (m:=m) (by omega) (by omega) m0 m1
      refine⟨(vs++[v]).map D.int,[some (.b (fd c (i+((j+1:Nat):Int)) l'')),a1,a2,some (.t (.int m)),a4,a5,a6,a7],?_,j+1,vs++[v],l'',hr',hjn,rfl,by simp[hl],?_,rfl⟩
      . have e2:i+((j+1:Nat):Int)=i+j+1:=by push_cast;omega
        rw[e2]
        simp[bu,dR,jq,e1,aN]
      . intro w hw
        rcases List.mem_append.mp hw with q | q
        . exact hv w q
        . rw[show w=v by simpa using q];exact⟨v0,v1⟩)
  have hj:j=n:=by
    have:=congrArg List.length hr
    simp[iA] at this
    omega
  subst hj
  exact⟨vs,l',e,hl,hv⟩
theorem De (c l : Int) {i : Int} {menu : List D} {a1 a3 a4 a5 a6 a7 : Option U} (n : Nat) (hi : 0 <= i) (hn : i + n < 800000) (m0 : 0 < menu.length) (m1 : menu.length < 1000) :
    ∃(vs:List D) (l':Int),bu [0,2] bA (aV 2 (eF (br fh (jI (ak 1) (bq (fV 2) cz))))) (iA 0 n) [some (.b (fd c i l)),a1,some (.t (.lst menu)),a3,a4,a5,a6,a7] []=some (vs,[some (.b (fd c (i+n) l')),a1,some (.t (.lst menu)),a3,a4,a5,a6,a7])/\vs.length=n/\∀v∈vs,v∈menu:=by
  obtain⟨acc',S',e,j,l',hr,hj,hl,hv,rfl⟩:=qj (cap:=[0,2]) (g:=aV 2 (eF (br fh (jI (ak 1) (bq (fV 2) cz))))) (iA 0 n)
    (fun r acc S=>∃(j:Nat) (l':Int),(iA 0 n).drop j=r/\j<=n/\acc.length=j/\(∀v∈acc,v∈menu)/\S=[some (.b (fd c (i+j) l')),a1,some (.t (.lst menu)),a3,a4,a5,a6,a7])
    [some (.b (fd c i l)),a1,some (.t (.lst menu)),a3,a4,a5,a6,a7] [] ⟨0,l,rfl,Nat.zero_le _,rfl,by simp,by simp⟩ (by
      rintro d r acc S ⟨j,l',hr,hj,hl,hv,rfl⟩
      obtain⟨hjn,rfl,hr'⟩:=oz hr
      obtain⟨v,l'',e1,v0,v1⟩:=jO c l' (i:=i+j) (m:=menu.length) (by omega) (by omega) (by omega) (by omega)
      obtain⟨x,e3,e4⟩:=uW (l:=menu) v0 v1
      refine⟨acc++[x],[some (.b (fd c (i+((j+1:Nat):Int)) l'')),a1,some (.t (.lst menu)),a3,a4,a5,a6,a7],?_,j+1,l'',hr',hjn,by simp[hl],?_,rfl⟩
      . have e2:i+((j+1:Nat):Int)=i+j+1:=by push_cast;omega
        rw[e2]
        simp[bu,dR,jq,e1,aN,e3]
      . intro w hw
        rcases List.mem_append.mp hw with q | q
        . exact hv w q
        . rw[show w=x by simpa using q];exact List.mem_of_getElem? e4)
  have hj:j=n:=by
    have:=congrArg List.length hr
    simp[iA] at this
    omega
  subst hj
  exact⟨acc',l',e,hl,hv⟩
structure bR (wide:Nat) (N:List (List Int)):Prop where
 pos:0 < N.length
 few:N.length<=7
 row:∀r∈N,r.length=wide/\∀v∈r,0<=v/\v < N.length
theorem AS (c l:Int){i:Int}{td md:D}{N:List (List Int)}{n wide j:Nat}{x6:Option U}(hi:0<=i) (hi2:i < 750000) (hw:wide<=44) (hn:0 < n) (hn2:n<=7) (hN:N.length<=7) (h6:xy x6):
  ∃(vs:List Int) (l':Int) (S1:SS),bName 6 (.int j) [some (.b (fd c i l)),some (.t td),some (.t md),some (.t (.int n)),some (.t (.int wide)),some (.m (.lst (N.map aY))),x6,none]=some S1/\
   eu fh fK S1=some (.nx [some (.b (fd c (i+wide) l')),some (.t td),some (.t md),some (.t (.int n)),some (.t (.int wide)),some (.m (.lst ((N++[vs]).map aY))),some (.t (.int j)),none])/\vs.length=wide/\∀v∈vs,0<=v/\v < (n:Int):=by
 obtain⟨vs,l'',e4,hl,hv⟩:=Dd c l (i:=i) (m:=n) (a1:=some (.t td)) (a2:=some (.t md)) (a4:=some (.t (.int wide))) (a5:=some (.m (.lst (N.map aY)))) (a6:=some (.t (.int j))) (a7:=none) wide (by omega) (by omega) (by omega) (by omega)
 refine⟨vs,l'',[some (.b (fd c i l)),some (.t td),some (.t md),some (.t (.int n)),some (.t (.int wide)),some (.m (.lst (N.map aY))),some (.t (.int j)),none],?_,?_,hl,hv⟩
 ·rcases h6 with rfl | ⟨d,rfl⟩ <;> rfl
 ·have b1:=fun S h=>CZ 4 wide S h (by omega)
  have b3:wide<=100000:=by omega
  have b4:N.length < 100000:=by omega
  simp[eu,fH,-qi,b1,b3,b4,jP,e4,zj,jH,hAppend,aY]
theorem bB {a b:GS}{S S1:SS}(h:a S=some (.nx S1)):aQ a b S=b S1:=by
 show(a S).bind _=_
 rw[h]
 rfl
theorem E7 (c l:Int){i:Int}{T:List (Str×Int)}{menu:List D}(hi:0<=i) (hi2:i < 700000) (hT:T.length<=4) (hp:∀p∈T,ig p) (m0:0 < menu.length) (m1:menu.length < 1000):
  ∃(N:List (List Int)) (M:List D) (i' l':Int),zG [.b (fd c i l),.t (aP T),.t (.lst menu)]=some (.t (.tup [.tup (N.map aY),.tup M]),[fd c i' l'])/\bR (cH T).length N/\M.length=N.length/\∀x∈M,x∈menu:=by
 obtain⟨a,l1,e1,a0,a1⟩:=jO c l hi (by omega) (m:=7) (by omega) (by omega)
 have e2:=uY hT hp
 have hw:=lH hp
 generalize Uu:(cH T).length=wide at hw
 obtain⟨n,hn⟩:∃n:Nat,(1+a)=(n:Int):=⟨(1+a).toNat,by omega⟩
 obtain⟨S1,e3,j,N,i2,l2,x6,hr,hj,hN,ID,h6,q1,q2,rfl⟩:=oq (bd:=bName 6) (body:=eu fh fK) (iA 0 n)
  (fun r S=>∃(j:Nat) (N:List (List Int)) (i' l':Int) (x6:Option U),(iA 0 n).drop j=r/\j<=n/\N.length=j/\(∀r∈N,r.length=wide/\∀v∈r,0<=v/\v < (n:Int))/\xy x6/\i<=i'/\i'<=i+1+44 * (j:Int)/\
   S=[some (.b (fd c i' l')),some (.t (aP T)),some (.t (.lst menu)),some (.t (.int n)),some (.t (.int wide)),some (.m (.lst (N.map aY))),x6,none])
  [some (.b (fd c (i+1) l1)),some (.t (aP T)),some (.t (.lst menu)),some (.t (.int n)),some (.t (.int wide)),some (.m (.lst [])),none,none] ⟨0,[],i+1,l1,none,rfl,Nat.zero_le _,rfl,by simp,.n,by omega,by omega,by simp⟩ (by
   rintro d r S ⟨j,N,i',l',x6,hr,hj,hN,ID,h6,q1,q2,rfl⟩
   obtain⟨hjn,rfl,hr'⟩:=oz hr
   obtain⟨vs,l'',S1,e4,e5,hl,hv⟩:=AS c l' (i:=i') (td:=aP T) (md:=.lst menu) (N:=N) (n:=n) (wide:=wide) (j:=j) (x6:=x6) (by omega) (by omega) (by omega) (by omega) (by omega) (by omega) h6
   refine⟨S1,_,e4,e5,j+1,N++[vs],i'+wide,l'',some (.t (.int j)),hr',hjn,by simp[hN],?_,.t,by omega,by push_cast;omega,rfl⟩
   intro q hq
   rcases List.mem_append.mp hq with z | z
   ·exact ID q z
   ·rw[show q=vs by simpa using z];exact⟨hl,hv⟩)
 have hj:j=n:=by
  have:=congrArg List.length hr
  simp[iA] at this
  omega
 subst hj
 obtain⟨M,l3,e6,hM,O6⟩:=De c l2 (i:=i2) (menu:=menu) (a1:=some (.t (aP T))) (a3:=some (.t (.int j))) (a4:=some (.t (.int wide))) (a5:=some (.m (.lst (N.map aY)))) (a6:=x6) (a7:=none) j (by omega) (by omega) m0 m1
 obtain⟨b,l4,e7,b0,b1⟩:=jO c l3 (i:=i2+j) (m:=3) (by omega) (by omega) (by omega) (by omega)
 obtain⟨x0,e8,e9⟩:=uW (l:=menu) (i:=0) (by omega) (by omega)
 have c1:=fun S h=>CZ 3 j S h (by omega)
 have c2:=C1 x0 j (by omega)
 have c3:j<=100000:=by omega
 have mo:bR wide N:=⟨by omega,by omega,fun r hr=>by rw[hN];exact ID r hr⟩
 have h0:(bz 3 (eP iW (aa (eC (.int 1)) (aa (eF (br fh (jI (ak 0) (bq (eC (.int 7)) cz)))) aA)))) [some (.b (fd c i l)),some (.t (aP T)),some (.t (.lst menu)),none,none,none,none,none]=some (.nx [some (.b (fd c (i+1) l1)),some (.t (aP T)),some (.t (.lst menu)),some (.t (.int j)),none,none,none,none]):=by simp[e1,hn]
 have h1:(bz 4 (eP pY (aa (eF (br fK (bq (eF (ak 1)) cz))) aA))) [some (.b (fd c (i+1) l1)),some (.t (aP T)),some (.t (.lst menu)),some (.t (.int j)),none,none,none,none]=some (.nx [some (.b (fd c (i+1) l1)),some (.t (aP T)),some (.t (.lst menu)),some (.t (.int j)),some (.t (.int wide)),none,none,none]):=by simp[e2,Uu]
 have h2:(bz 5 (eP iu aA)) [some (.b (fd c (i+1) l1)),some (.t (aP T)),some (.t (.lst menu)),some (.t (.int j)),some (.t (.int wide)),none,none,none]=some (.nx [some (.b (fd c (i+1) l1)),some (.t (aP T)),some (.t (.lst menu)),some (.t (.int j)),some (.t (.int wide)),some (.m (.lst [])),none,none]):=by simp[]
 have h3:(iR (bName 6) (cU (aa (eF (ak 3)) aA)) (eu fh fK)) [some (.b (fd c (i+1) l1)),some (.t (aP T)),some (.t (.lst menu)),some (.t (.int j)),some (.t (.int wide)),some (.m (.lst [])),none,none]=some (.nx [some (.b (fd c i2 l2)),some (.t (aP T)),some (.t (.lst menu)),some (.t (.int j)),some (.t (.int wide)),some (.m (.lst (N.map aY))),x6,none]):=by simp[-qi,c1,e3]
 have h4:(bz 7 (dP [0,2] (cU (aa (eF (ak 3)) aA)) bA (aV 2 (eF (br fh (jI (ak 1) (bq (fV 2) cz))))))) [some (.b (fd c i2 l2)),some (.t (aP T)),some (.t (.lst menu)),some (.t (.int j)),some (.t (.int wide)),some (.m (.lst (N.map aY))),x6,none]=some (.nx [some (.b (fd c (i2+j) l3)),some (.t (aP T)),some (.t (.lst menu)),some (.t (.int j)),some (.t (.int wide)),some (.m (.lst (N.map aY))),x6,some (.m (.lst M))]):=by simp[-qi,c1,fH,jP,c3,e6]
 have h5:(xx (qB (eF (eP DK (aa (eF (br fh (jI (ak 0) (bq (eC (.int 3)) cz)))) (aa (eC (.int 0)) aA))))) (bz 7 (eP v9 (aa (eF (eP iu (aa (aV 2 (eC (.int 0))) aA))) (aa (eF (ak 3)) aA)))) oR) [some (.b (fd c (i2+j) l3)),some (.t (aP T)),some (.t (.lst menu)),some (.t (.int j)),some (.t (.int wide)),some (.m (.lst (N.map aY))),x6,some (.m (.lst M))]=some (.nx [some (.b (fd c (i2+j+1) l4)),some (.t (aP T)),some (.t (.lst menu)),some (.t (.int j)),some (.t (.int wide)),some (.m (.lst (N.map aY))),x6,some (.m (.lst (if b=0 then List.replicate j x0 else M)))]):=by
  by_cases hb:b=0
  ·subst hb;simp[e7,-CY,c2,e8]
  ·simp[hb,e7]
 have Uv:(d8 (eP lz (aa (eF (eP gG (aa (eF (ak 5)) aA))) (aa (eF (eP gG (aa (eF (ak 7)) aA))) aA)))) [some (.b (fd c (i2+j+1) l4)),some (.t (aP T)),some (.t (.lst menu)),some (.t (.int j)),some (.t (.int wide)),some (.m (.lst (N.map aY))),x6,some (.m (.lst (if b=0 then List.replicate j x0 else M)))]=some (.rt (.t (.tup [.tup (N.map aY),.tup (if b=0 then List.replicate j x0 else M)])) [some (.b (fd c (i2+j+1) l4)),some (.t (aP T)),some (.t (.lst menu)),some (.t (.int j)),some (.t (.int wide)),some (.t (.lst (N.map aY))),x6,some (.t (.lst (if b=0 then List.replicate j x0 else M)))]):=by simp
 have all:cJ fh fK [some (.b (fd c i l)),some (.t (aP T)),some (.t (.lst menu)),none,none,none,none,none]=some (.rt (.t (.tup [.tup (N.map aY),.tup (if b=0 then List.replicate j x0 else M)])) [some (.b (fd c (i2+j+1) l4)),some (.t (aP T)),some (.t (.lst menu)),some (.t (.int j)),some (.t (.int wide)),some (.t (.lst (N.map aY))),x6,some (.t (.lst (if b=0 then List.replicate j x0 else M)))]):=by
  unfold cJ
  rw[bB h0,bB h1,bB h2,bB h3,bB h4,bB h5,Uv]
 refine⟨N,if b=0 then List.replicate j x0 else M,i2+j+1,l4,?_,mo,?_,?_⟩
 ·show(cJ fh fK [some (.b (fd c i l)),some (.t (aP T)),some (.t (.lst menu)),none,none,none,none,none]).bind _=_
  rw[all]
  rfl
 ·split
  ·rw[List.length_replicate];exact hN.symm
  ·omega
 ·split
  ·intro x hx;rw[List.eq_of_mem_replicate hx];exact List.mem_of_getElem? e9
  ·exact O6
end Sq
end
section
namespace Sx
open PySem PySem.Spec PyProof.Rows L2 Sw Sq
noncomputable def kP (i:Nat):Str:=(["a","ab","abc","now","any","name","less","x","zzzzzzzz"]:List Str).getD i ""
theorem AU:∀a b:Fin 9,kP a=kP b->a=b:=by decide
theorem Df {i:Int}(h0:0<=i) (h1:i < 9):dj lI i=some (.str (kP i.toNat))/\yw (kP i.toNat):=by
 have:i=0\/i=1\/i=2\/i=3\/i=4\/i=5\/i=6\/i=7\/i=8:=by omega
 rcases this with rfl | rfl | rfl | rfl | rfl | rfl | rfl | rfl | rfl <;> exact⟨rfl,by decide,by decide⟩
theorem AV {c i l st m left k:Int}{T:List (Str×Int)}{x6 x7:Option U}(hi:0<=i) (hi1:i < 800000) (hs:0<=st) (hk:0<=k) (hl:0<=left - m+k) (hT:T.length < 10) (h6:xy x6) (h7:xy x7):
  ∃v l' S1,bName 6 (.int k) [some (.b (fd c i l)),some (.m (.lst lI)),some (.t (.int st)),some (.t (.int m)),some (.t (.int left)),some (.m (.lst (T.map dZ))),x6,x7]=some S1/\ig (kP ((st+k) % 9).toNat,v)/\v<=left - m+k/\
   Sq.eU fh S1=some (.nx [some (.b (fd c (i+1) l')),some (.m (.lst lI)),some (.t (.int st)),some (.t (.int m)),some (.t (.int (left - v - 1))),some (.m (.lst ((T++[(kP ((st+k) % 9).toNat,v)]).map dZ))),some (.t (.int k)),some (.t (.int v))]):=by
 obtain⟨z,v,l',S1,b1,b2,b3,b4⟩:=C8 (c:=c) (i:=i) (l:=l) (st:=st) (m:=m) (left:=left) (k:=k) (T:=T) hi hi1 hs hk hl hT h6 h7
 have:=Df (i:=(st+k) % 9) (Int.emod_nonneg _ (by decide)) (Int.emod_lt_of_pos _ (by decide))
 obtain⟨v2,l2,e1,v0,v1⟩:=jO c l hi (by omega) (m:=3) (by omega) (by omega)
 have hlen:(T.map dZ).length < 100000:=by rw[List.length_map];omega
 have e3:T.length < 100000:=by omega
 refine⟨if left - m+k < v2 then left - m+k else v2,l2,[some (.b (fd c i l)),some (.m (.lst lI)),some (.t (.int st)),some (.t (.int m)),some (.t (.int left)),some (.m (.lst (T.map dZ))),some (.t (.int k)),x7],?_,⟨this.2,?_,?_⟩,?_,?_⟩
 ·rcases h6 with rfl | ⟨d,rfl⟩ <;> rfl
 ·show(0:Int)<=if left - m+k < v2 then left - m+k else v2;split <;> omega
 ·show(if left - m+k < v2 then left - m+k else v2:Int)<=10;split <;> omega
 ·split <;> omega
 ·rcases h7 with rfl | ⟨d,rfl⟩ <;> simp[Sq.eU,e1,this.1,e3,dZ,jH,hAppend,zj]
theorem Dg {st:Nat}{j:Nat}(hj:j<=3):((List.range j).map fun k=>kP ((st+k) % 9)).Nodup:=by
 have go:∀(a b:Nat),a < b->b < 3->kP ((st+a) % 9)≠kP ((st+b) % 9):=fun a b h1 h2 e=>by
  have:=AU ⟨(st+a) % 9,Nat.mod_lt _ (by decide)⟩ ⟨(st+b) % 9,Nat.mod_lt _ (by decide)⟩ e
  have:=congrArg Fin.val this
  simp only at this
  omega
 rw[List.nodup_iff_pairwise_ne,List.pairwise_map]
 refine(List.pairwise_lt_range).imp_of_mem fun {a b} ha hb h e=>go a b h (by have:=List.mem_range.mp hb;omega) e
theorem E8 (c l:Int){i:Int}(h0:0<=i) (h1:i < 700000):∃T i' l',AQ [.b (fd c i l)]=some (.t (aP T),[fd c i' l'])/\0 < T.length/\T.length<=3/\(∀p∈T,ig p)/\i<=i'/\i'<=i+10/\(T.map (·.1)).Nodup:=by
 obtain⟨st,l1,e1,s0,s1⟩:=jO c l h0 (by omega) (m:=9) (by omega) (by omega)
 obtain⟨a,l2,e2,a0,a1⟩:=jO c l1 (i:=i+1) (by omega) (by omega) (m:=4) (by omega) (by omega)
 obtain⟨m,e3,m0,m1⟩:=E6 a0 a1
 obtain⟨S',e4,j,T,i',l',x6,x7,left,hr,hj,LI,hT,hi,hi2,hleft,h6,h7,rfl⟩:=oq (bd:=bName 6) (body:=Sq.eU fh) (iA 0 m.toNat)
  (fun r S=>∃(j:Nat) (T:List (Str×Int)) (i' l':Int) (x6 x7:Option U) (left:Int),(iA 0 m.toNat).drop j=r/\j<=m.toNat/\T.map (·.1)=(List.range j).map (fun k=>kP ((st.toNat+k) % 9))/\(∀p∈T,ig p)/\i<=i'/\i'=i+2+j/\0<=left - m+j/\xy x6/\xy x7/\
   S=[some (.b (fd c i' l')),some (.m (.lst lI)),some (.t (.int st)),some (.t (.int m)),some (.t (.int left)),some (.m (.lst (T.map dZ))),x6,x7])
  [some (.b (fd c (i+1+1) l2)),some (.m (.lst lI)),some (.t (.int st)),some (.t (.int m)),some (.t (.int 5)),some (.m (.lst [])),none,none]
  ⟨0,[],i+1+1,l2,none,none,5,rfl,Nat.zero_le _,rfl,by simp,by omega,by push_cast;omega,by push_cast;omega,.n,.n,rfl⟩ (by
  rintro d r S ⟨j,T,i',l',x6,x7,left,hr,hj,LI,hT,hi,hi2,hleft,h6,h7,rfl⟩
  obtain⟨hjn,rfl,hr'⟩:=oz hr
  have LJ:T.length=j:=by have:=congrArg List.length LI;simpa using this
  obtain⟨v,l'',S1,b1,b2,b3,b4⟩:=AV (c:=c) (i:=i') (l:=l') (st:=st) (m:=m) (left:=left) (k:=j) (T:=T) (by omega) (by omega) s0 (by omega) hleft (by omega) h6 h7
  have en:((st+(j:Int)) % 9).toNat=(st.toNat+j) % 9:=by omega
  rw[en] at b2 b4
  refine⟨S1,_,b1,b4,j+1,T++[(kP ((st.toNat+j) % 9),v)],i'+1,l'',_,_,left - v - 1,hr',hjn,?_,?_,by omega,by push_cast;omega,by push_cast;omega,.t,.t,rfl⟩
  ·rw[List.map_append,LI,List.range_succ,List.map_append]
   rfl
  ·intro p hp
   rcases List.mem_append.mp hp with q | q
   ·exact hT p q
   ·rw[show p=(kP ((st.toNat+j) % 9),v) by simpa using q];exact b2)
 have hj:j=m.toNat:=by
  have:=congrArg List.length hr
  simp[iA] at this
  omega
 have LJ:T.length=j:=by have:=congrArg List.length LI;simpa using this
 refine⟨T,i',l',?_,by omega,by omega,hT,hi,by omega,by rw[LI];exact Dg (by omega)⟩
 have b1:m < 1000000:=by omega
 have b2:-1000000 < m:=by omega
 simp[AQ,bJ,Sq.ir,e1,e2,e3,b1,b2,aN,aP]
 simp only[lI] at e4
 rw[e4]
 simp[dZ]
theorem zH {p q:Str×Int}(h:q∈one p):q.1=p.1:=by
 obtain⟨k,_,rfl⟩:=List.mem_map.mp h
 rfl
theorem zI:∀{T:List (Str×Int)},(T.map (·.1)).Nodup->(cH T).Nodup
  | [],_=>List.nodup_nil
  | p :: T, h => by
    obtain⟨h1,h2⟩:=List.nodup_cons.mp (show(p.1 :: T.map (·.1)).Nodup from h)
    show(one p++cH T).Nodup
    refine List.nodup_append.mpr ⟨?_,zI h2,fun a ha b hb e=>?_⟩
    . unfold one Sw.upTo
      rw[List.map_map]
      refine List.Pairwise.map _ (fun a b h=>?_) List.nodup_range
      intro z
      have:=congrArg Prod.snd z
      simp only[Function.comp] at this
      exact h (by exact_mod_cast this)
    . subst e
      obtain⟨q,hq,ha2⟩:=List.mem_flatMap.mp hb
      exact h1 (by rw[<-zH ha,zH ha2];exact List.mem_map_of_mem hq)
end Sx
end
section
namespace Sl
open PySem PySem.Spec PyProof.Rows L2
section
variable {κ:Type} [DecidableEq κ]
noncomputable def kR (acc:List κ):List κ->List κ
 | []=>acc
 | k :: ks=>kR (if k∈acc then acc else acc++[k]) ks
theorem jQ {x:κ}:∀{ks acc:List κ},x∈kR acc ks↔x∈acc\/x∈ks
  | [],acc=>by simp[kR]
  | k :: ks, acc => by
    show x∈kR (if k∈acc then acc else acc++[k]) ks↔_
    rw[jQ]
    by_cases h:k∈acc
    . rw[if_pos h,List.mem_cons]
      constructor
      . rintro(a | a);exact .inl a;exact .inr (.inr a)
      . rintro(a | rfl | a);exact .inl a;exact .inl h;exact .inr a
    . rw[if_neg h,List.mem_append,List.mem_singleton,List.mem_cons,or_assoc]
theorem yC:∀{ks acc:List κ},acc.Nodup->(kR acc ks).Nodup
  | [],acc,h=>h
  | k :: ks, acc, h => by
    show(kR (if k∈acc then acc else acc++[k]) ks).Nodup
    refine yC ?_
    by_cases c:k∈acc
    . rw[if_pos c];exact h
    . rw[if_neg c,List.nodup_append]
      exact⟨h,by simp,fun a ha b hb e=>c (by rw[<-List.mem_singleton.mp hb,<-e];exact ha)⟩
theorem zJ:∀(ks acc:List κ),∃r,kR acc ks=acc++r
 | [],acc=>⟨[],by simp[kR]⟩
 | k :: ks,acc=>by
  obtain⟨r,e⟩:=zJ ks (if k∈acc then acc else acc++[k])
  by_cases h:k∈acc
  ·rw[if_pos h] at e;exact⟨r,by show kR (if k∈acc then acc else acc++[k]) ks=_;rw[if_pos h,e]⟩
  ·rw[if_neg h] at e;exact⟨k :: r,by show kR (if k∈acc then acc else acc++[k]) ks=_;rw[if_neg h,e,List.append_assoc];rfl⟩
noncomputable def fu (ks:List κ):List Nat:=ks.map fun k=>(kR [] ks).idxOf k
theorem oA (ks:List κ):(fu ks).length=ks.length:=List.length_map ..
end
noncomputable def na (ns:List Nat) (i:Nat):Nat:=ns.getD i 0
theorem jY {ns:List Nat}{i:Nat}(h:i < ns.length):ns[i]? =some (na ns i):=by
 unfold na
 rw[List.getD_eq_getElem?_getD,List.getElem?_eq_getElem h]
 rfl
theorem yD {ns:List Nat}{i:Nat}(h:i < ns.length):na ns i∈ns:=List.mem_of_getElem? (jY h)
structure yE (ns:List Nat) (c:Nat):Prop where
 lt:∀v∈ns,v < c
 on:∀v,v < c->v∈ns
section
variable {κ:Type} [DecidableEq κ]
theorem zK {ks:List κ}{i:Nat}{k:κ}(h:ks[i]? =some k):na (fu ks) i=(kR [] ks).idxOf k:=by
 unfold na fu
 rw[List.getD_eq_getElem?_getD,List.getElem?_map,h]
 rfl
theorem qk {ks:List κ}{i j:Nat}{a b:κ}(ha:ks[i]? =some a) (hb:ks[j]? =some b):na (fu ks) i=na (fu ks) j↔a=b:=by
 rw[zK ha,zK hb]
 have ma:a∈kR [] ks:=jQ.mpr (.inr (List.mem_of_getElem? ha))
 have mb:b∈kR [] ks:=jQ.mpr (.inr (List.mem_of_getElem? hb))
 constructor
 ·intro e
  have la:=List.idxOf_lt_length_of_mem ma
  have lb:=List.idxOf_lt_length_of_mem mb
  have ea:(kR [] ks)[(kR [] ks).idxOf a]=a:=List.getElem_idxOf la
  have eb:(kR [] ks)[(kR [] ks).idxOf b]=b:=List.getElem_idxOf lb
  rw[<-ea,<-eb]
  simp only[e]
 ·rintro rfl;rfl
theorem oB (ks:List κ):yE (fu ks) (kR [] ks).length where
 lt:=fun v hv=>by
  obtain⟨k,hk,rfl⟩:=List.mem_map.mp hv
  exact List.idxOf_lt_length_of_mem (jQ.mpr (.inr hk))
 on:=fun v hv=>by
  have m:(kR [] ks)[v]∈ks:=by
   rcases jQ.mp (List.getElem_mem hv) with h | h
   ·cases h
   ·exact h
  refine List.mem_map.mpr ⟨_,m,?_⟩
  exact List.Nodup.idxOf_getElem (yC List.nodup_nil) v hv
end
theorem Dh {ns:List Nat}:ns.Nodup↔∀i j,i < j->j < ns.length->na ns i≠na ns j:=by
 rw[List.nodup_iff_pairwise_ne,List.pairwise_iff_getElem]
 constructor
 ·intro h i j hij hj e
  have a:=jY (ns:=ns) (i:=i) (by omega)
  have b:=jY hj
  refine h i j (by omega) hj hij ?_
  rw[List.getElem?_eq_getElem (by omega)] at a b
  rw[Option.some.inj a,Option.some.inj b]
  exact e
 ·intro h i j hi hj hij e
  have a:=jY hi
  have b:=jY hj
  rw[List.getElem?_eq_getElem (by omega)] at a b
  exact h i j hij hj (by rw[<-Option.some.inj a,<-Option.some.inj b];exact e)
theorem zL {ns:List Nat}{c:Nat}(h:yE ns c) (hc:c < ns.length):∃i j,i < j/\j < ns.length/\na ns i=na ns j:=by
 apply Classical.byContradiction
 intro hn
 have nd:ns.Nodup:=Dh.mpr fun i j hij hj e=>hn ⟨i,j,hij,hj,e⟩
 have:=nd.length_le_of_subset (l₂:=List.range c) fun v hv=>List.mem_range.mpr (h.lt v hv)
 rw[List.length_range] at this
 omega
theorem uZ {ns:List Nat}{c:Nat}(h:yE ns c) (hc:ns.length<=c){i j:Nat}(hi:i < ns.length) (hj:j < ns.length) (e:na ns i=na ns j):i=j:=by
 apply Classical.byContradiction
 intro hn
 have sub:∀v∈List.range c,v∈ns.eraseIdx j:=fun v hv=>by
  obtain⟨k,hk⟩:=List.getElem?_of_mem (h.on v (List.mem_range.mp hv))
  rw[List.mem_eraseIdx_iff_getElem?]
  by_cases c:k=j
  ·subst c
   rw[jY hj] at hk
   exact⟨i,hn,by rw[jY hi,e,<-hk]⟩
  ·exact⟨k,c,hk⟩
 have:=List.nodup_range.length_le_of_subset sub
 rw[List.length_range,List.length_eraseIdx_of_lt hj] at this
 omega
theorem AW {ns ns':List Nat}{c c' n:Nat}(h:yE ns c) (h':yE ns' c') (hl:ns.length=n) (hl':ns'.length=n) (fin:∀i j,i < n->j < n->na ns' i=na ns' j->na ns i=na ns j){f g:Nat}(hf:f < n) (hg:g < n) (e:na ns f=na ns g) (ne:na ns' f≠na ns' g):c+1<=c':=by
 have rep:∀v,v < c->ns.idxOf v < n/\na ns (ns.idxOf v)=v:=fun v hv=>by
  have m:=h.on v hv
  have l:=List.idxOf_lt_length_of_mem m
  refine⟨by omega,?_⟩
  have a:=jY l
  rw[List.getElem?_eq_getElem l,List.getElem_idxOf l] at a
  exact(Option.some.inj a).symm
 have v0:na ns f < c:=h.lt _ (yD (by omega))
 obtain⟨w,hw,Uw,hwn⟩:∃w,w < n/\na ns w=na ns f/\na ns' w≠na ns' (ns.idxOf (na ns f)):=by
  by_cases q:na ns' f=na ns' (ns.idxOf (na ns f))
  ·exact⟨g,hg,e.symm,fun z=>ne (q.trans z.symm)⟩
  ·exact⟨f,hf,rfl,q⟩
 have nd:(na ns' w :: (List.range c).map fun v=>na ns' (ns.idxOf v)).Nodup:=by
  rw[List.nodup_cons]
  constructor
  ·intro m
   obtain⟨v,hv,ev⟩:=List.mem_map.mp m
   have r:=rep v (List.mem_range.mp hv)
   have z:=fin _ _ r.1 hw ev
   rw[r.2,Uw] at z
   rw[z] at ev
   exact hwn ev.symm
  ·rw[List.nodup_iff_pairwise_ne,List.pairwise_map]
   refine List.Pairwise.imp_of_mem (R:=fun a b=>a≠b) ?_ (List.nodup_iff_pairwise_ne.mp List.nodup_range)
   intro a b ha hb hab q
   have ra:=rep a (List.mem_range.mp ha)
   have rb:=rep b (List.mem_range.mp hb)
   have z:=fin _ _ ra.1 rb.1 q
   rw[ra.2,rb.2] at z
   exact hab z
 have sub:∀v∈(na ns' w :: (List.range c).map fun v=>na ns' (ns.idxOf v)),v∈List.range c':=fun v hv=>by
  rw[List.mem_range]
  rcases List.mem_cons.mp hv with rfl | m
  ·exact h'.lt _ (yD (by omega))
  ·obtain⟨u,hu,rfl⟩:=List.mem_map.mp m
   have r:=rep u (List.mem_range.mp hu)
   exact h'.lt _ (yD (by omega))
 have:=nd.length_le_of_subset sub
 simpa using this
section
variable (nx:Nat->Nat->Nat) (wd:Nat->D) (W:Nat)
noncomputable def led:List Nat->Nat->Nat
 | [],s=>s
 | c :: cs,s=>led cs (nx s c)
noncomputable def Gx:Nat->Nat->Nat->Prop
 | 0,s,t=>wd s=wd t
 | i+1,s,t=>Gx i s t/\∀c,c < W->Gx i (nx s c) (nx t c)
variable {nx wd W}
theorem u5:∀{i:Nat}{s t:Nat},Gx nx wd W i s t->∀cs:List Nat,cs.length<=i->(∀c∈cs,c < W)->wd (led nx cs s)=wd (led nx cs t)
 | 0,s,t,h,cs,hl,_=>by
  cases cs with
  | nil=>exact h
  | cons=>simp at hl
 | i+1,s,t,h,cs,hl,hc=>by
  cases cs with
  | nil=>exact u5 h.1 [] (Nat.zero_le _) (by simp)
  | cons c cs=>exact u5 (h.2 c (hc c List.mem_cons_self)) cs (by simpa using hl) fun d hd=>hc d (List.mem_cons_of_mem _ hd)
theorem oZ {n:Nat}{ns:List Nat}(hn:∀s c,s < n->c < W->nx s c < n) (hw:∀s t,s < n->t < n->na ns s=na ns t->wd s=wd t) (hs:∀c s t,c < W->s < n->t < n->na ns s=na ns t->na ns (nx s c)=na ns (nx t c)):
  ∀(i:Nat) (s t:Nat),s < n->t < n->na ns s=na ns t->Gx nx wd W i s t
 | 0,s,t,a,b,e=>hw s t a b e
 | i+1,s,t,a,b,e=>⟨oZ hn hw hs i s t a b e,fun c hc=>oZ hn hw hs i _ _ (hn s c a hc) (hn t c b hc) (hs c s t hc a b e)⟩
structure Pt (n:Nat) (nx:Nat->Nat->Nat) (wd:Nat->D) (W:Nat) (rows:List (List Nat)) (ns:List Nat) (c:Nat):Prop where
 first:rows[0]? =some []
 cols:∀cs∈rows,∀d∈cs,d < W
 short:∀(k:Nat) (cs:List Nat),rows[k]? =some cs->cs.length<=k
 len:ns.length=n
 cls:yE ns c
 eqv:∀s t,s < n->t < n->(na ns s=na ns t↔∀cs∈rows,wd (led nx cs s)=wd (led nx cs t))
 few:rows.length<=c
theorem Pt.step {n:Nat}{rows:List (List Nat)}{ns ns':List Nat}{c c':Nat}(h:Pt n nx wd W rows ns c) (h':yE ns' c') (hl':ns'.length=n){f g d k:Nat}{cs:List Nat}(hf:f < n) (hg:g < n) (hd:d < W) (e:na ns f=na ns g)
    (hk:rows[k]? =some cs) (ne:wd (led nx cs (nx f d))≠wd (led nx cs (nx g d))) (he:∀s t,s < n->t < n->(na ns' s=na ns' t↔na ns s=na ns t/\wd (led nx cs (nx s d))=wd (led nx cs (nx t d)))):Pt n nx wd W (rows++[d :: cs]) ns' c' where
  first:=by
    have:=h.first
    have l:0 < rows.length:=(List.getElem?_eq_some_iff.mp this).1
    rw[List.getElem?_append_left l]
    exact this
  cols:=fun q hq=>by
    rcases List.mem_append.mp hq with m | m
    . exact h.cols q m
    . rw[List.mem_singleton.mp m]
      intro x hx
      rcases List.mem_cons.mp hx with rfl | hx
      . exact hd
      . exact h.cols cs (List.mem_of_getElem? hk) x hx
  short:=fun j q hq=>by
    have lk:=(List.getElem?_eq_some_iff.mp hk).1
    by_cases c:j < rows.length
    . rw[List.getElem?_append_left c] at hq;exact h.short j q hq
    . rw[List.getElem?_append_right (by omega)] at hq
      have jl:=(List.getElem?_eq_some_iff.mp hq).1
      simp at jl
      have:j=rows.length:=by omega
      subst this
      rw[Nat.sub_self] at hq
      cases hq
      have:=h.short k cs hk
      simp
      omega
  len:=hl'
  cls:=h'
  eqv := fun s t hs ht => by
    rw[he s t hs ht,h.eqv s t hs ht]
    constructor
    . rintro⟨a,b⟩ q hq
      rcases List.mem_append.mp hq with m | m
      . exact a q m
      . rw[List.mem_singleton.mp m];exact b
    . intro a
      exact⟨fun q hq=>a q (List.mem_append_left _ hq),a (d :: cs) (List.mem_append_right _ List.mem_cons_self)⟩
  few:=by
    have z:=AW h.cls h' h.len hl' (fun i j hi hj q=>((he i j hi hj).mp q).1) hf hg e (fun q=>ne ((he f g hf hg).mp q).2)
    have:=h.few
    rw[List.length_append,List.length_singleton]
    omega
theorem Pt.unlike {n:Nat}{rows:List (List Nat)}{ns:List Nat}{c:Nat}(h:Pt n nx wd W rows ns c){s t:Nat}(hs:s < n) (ht:t < n) (ne:na ns s≠na ns t):∃(k:Nat) (cs:List Nat),rows[k]? =some cs/\wd (led nx cs s)≠wd (led nx cs t):=by
 apply Classical.byContradiction
 intro hn
 refine ne ((h.eqv s t hs ht).mpr fun cs hcs=>?_)
 obtain⟨k,hk⟩:=List.getElem?_of_mem hcs
 exact Classical.byContradiction fun z=>hn ⟨k,cs,hk,z⟩
end
theorem E9 {l:List Int}{c:Nat}(nd:l.Nodup) (h:∀v:Int,v∈l↔∃k:Nat,k < c/\v=k):l.length=c:=by
 have a:=nd.length_le_of_subset (l₂:=(List.range c).map fun k:Nat=>(k:Int)) fun v hv=>by
  obtain⟨k,hk,rfl⟩:=(h v).mp hv
  exact List.mem_map.mpr ⟨k,List.mem_range.mpr hk,rfl⟩
 have nr:((List.range c).map fun k:Nat=>(k:Int)).Nodup:=by
  rw[List.nodup_iff_pairwise_ne,List.pairwise_map]
  exact(List.nodup_iff_pairwise_ne.mp List.nodup_range).imp fun h e=>h (Int.ofNat_inj.mp e)
 have b:=nr.length_le_of_subset (l₂:=l) fun v hv=>by
  obtain⟨k,hk,rfl⟩:=List.mem_map.mp hv
  exact(h _).mpr ⟨k,List.mem_range.mp hk,rfl⟩
 simp at a b
 omega
end Sl
end
section
namespace Sl
open PySem PySem.Spec PyProof.Rows L2 Sw
section
variable {κ:Type} [DecidableEq κ]
noncomputable def ent:Nat->List κ->List (κ×D)
 | _,[]=>[]
 | i,k :: ks=>(k,.int (i:Nat)) :: ent (i+1) ks
theorem oE:∀(ks:List κ) (i:Nat),(ent i ks).length=ks.length
 | [],_=>rfl
 | k :: ks,i=>congrArg Nat.succ (oE ks (i+1))
theorem wG:∀(ks:List κ) (i:Nat) (k:κ),ent i (ks++[k])=ent i ks++[(k,.int ((i+ks.length:Nat):Int))]
 | [],_,_=>rfl
 | g :: ks,i,k=>by
  show _ :: ent (i+1) (ks++[k])=_
  rw[wG ks (i+1) k,show i+1+ks.length=i+(ks.length+1) by omega]
  rfl
theorem wH : ∀ {ks : List κ} {k : κ} (i : Nat), k ∈ ks -> aT (ent i ks) k = some (.int ((i + ks.idxOf k : Nat) : Int))
  | [],_,_,h=>by cases h
  | g :: ks, k, i, h => by
    unfold aT
    by_cases e:g=k
    . subst e
      simp[ent]
    . have m:k∈ks:=by
        rcases List.mem_cons.mp h with rfl | m
        . exact absurd rfl e
        . exact m
      have ih:=wH (i+1) m
      unfold aT at ih
      rw[show ent i (g :: ks)=(g,.int (i:Nat)) :: ent (i+1) ks from rfl,List.find?_cons_of_neg (by simpa using e),ih]
      have:(g :: ks).idxOf k=ks.idxOf k+1:=by rw[List.idxOf_cons,cond_eq_ite,if_neg (by simpa using e)]
      rw[this]
      congr 3
      omega
theorem mj {ks:List κ}{k:κ}(h:k∈ks):aT (ent 0 ks) k=some (.int (ks.idxOf k:Nat)):=by
 rw[wH 0 h,Nat.zero_add]
theorem jR:∀{ks:List κ}{k:κ}(i:Nat),k∉ks->aT (ent i ks) k=none
  | [],_,_,_=>rfl
  | g :: ks, k, i, h => by
    have ih:=jR (ks:=ks) (k:=k) (i+1) fun m=>h (List.mem_cons_of_mem _ m)
    unfold aT at ih ⊢
    rw[show ent i (g :: ks)=(g,.int (i:Nat)) :: ent (i+1) ks from rfl,List.find?_cons_of_neg (by
      simp only[decide_eq_true_eq];rintro rfl;exact h List.mem_cons_self)]
    exact ih
theorem wI {kvs:List (κ×D)}{k:κ}(h:aT kvs k=none):(kvs.any fun kv=>decide (kv.1=k))=false:=by
 unfold aT at h
 rw[Option.map_eq_none_iff,List.find?_eq_none] at h
 rw[List.any_eq_false]
 exact fun x hx=>h x hx
theorem ql {kvs:List (κ×D)}{k:κ}{d:D}(h:aT kvs k=none):putD kvs k d=kvs++[(k,d)]:=by
 unfold putD
 rw[wI h]
 rfl
theorem zM {ks:List κ}{k:κ}(h:k∉ks):putD (ent 0 ks) k (.int (ks.length:Nat))=ent 0 (ks++[k]):=by
 rw[ql (jR 0 h),wG,Nat.zero_add]
structure Kk (mk:List (κ×D)->MO) (ky:D->Option κ):Prop where
 has:∀kvs d k,ky d=some k->ER (.m (mk kvs)) d=some (aT kvs k).isSome
 rd:∀kvs d k,ky d=some k->jw (.m (mk kvs)) d=aT kvs k
 rb:∀kvs d k,ky d=some k->jw (.b (mk kvs)) d=aT kvs k
 wr:∀kvs d k v,ky d=some k->kvs.length < 100000->kI (mk kvs) d v=some (mk (putD kvs k v))
 ln:∀kvs,rY (.m (mk kvs))=some kvs.length
 dc:∀kvs,qO (.m (mk kvs))=true
 df:∀kvs d k v,ky d=some k->kvs.length < 100000->AK (mk kvs) d v=some (match aT kvs k with | some e=>(e,mk kvs) | none=>(v,mk (putD kvs k v)))
end
theorem Fb:Kk MO.dct keyOf where
 has:=fun kvs d k h=>by show(keyOf d).map _=_;rw[h];rfl
 rd:=fun kvs d k h=>by rw[yr,h];rfl
 rb:=fun kvs d k h=>by rw[yt,h];rfl
 wr:=fun kvs d k v h hl=>by rw[AL,h,Option.bind_some,if_pos hl]
 ln:=fun kvs=>rfl
 dc:=fun kvs=>rfl
 df:=fun kvs d k v h hl=>by
  show(keyOf d).bind _=_
  rw[h,Option.bind_some]
  cases aT kvs k with
  | some e=>rfl
  | none=>exact if_pos hl
theorem LK:Kk MO.lU jW where
 has:=fun kvs d k h=>by show(jW d).map _=_;rw[h];rfl
 rd:=fun kvs d k h=>by rw[yy,h];rfl
 rb:=fun kvs d k h=>by rw[yz,h];rfl
 wr:=fun kvs d k v h hl=>by rw[AO,h,Option.bind_some,if_pos (by omega)]
 ln:=fun kvs=>rfl
 dc:=fun kvs=>rfl
 df:=fun kvs d k v h hl=>by
  show(jW d).bind _=_
  rw[h,Option.bind_some]
  cases aT kvs k with
  | some e=>rfl
  | none=>exact if_pos (by omega)
noncomputable def iD (ns:List Nat):List D:=ns.map fun n=>.int (n:Nat)
noncomputable def cu:GS:=
 (xx (qB (x9 true 1 (eF (ak 2)))) (Ay 1 (eF (ak 2)) (fV 1)) oR)
noncomputable def wJ:GS:=
 (xx (qB (x9 true 1 (eF (ak 2)))) (Ay 1 (eF (ak 2)) (fV 1)) oR)
noncomputable def cX:GS:=
 (Gu (aQ (bz 1 nU)
 (aQ (iR (bName 2) (gF (eF (ak 0))) (cu))
 (d8 (dP [1] (gF (eF (ak 0))) bA (aV 1 (eF (ak 0)))))))
 (aQ (bz 1 zx)
 (aQ (iR (bName 2) (gF (eF (ak 0))) (wJ))
 (d8 (dP [1] (gF (eF (ak 0))) bA (aV 1 (eF (ak 0))))))))
noncomputable def jJ:FM:=bJ 3 cX
theorem Fc:∀us r,jJ us=some r->bJ 3 cX us=some r:=fun _ _ h=>h
section
variable {κ:Type} [DecidableEq κ] {mk:List (κ×D)->MO}{ky:D->Option κ}
theorem Di (K:Kk mk ky){sd d:D}{k:κ}{acc:List κ}(h:ky d=some k) (hl:acc.length < 1000):cu [some (.t sd),some (.m (mk (ent 0 acc))),some (.t d)]=some (.nx [some (.t sd),some (.m (mk (ent 0 (if k∈acc then acc else acc++[k])))),some (.t d)]):=by
 by_cases m:k∈acc
 ·have e:=K.has (ent 0 acc) d k h
  rw[mj m] at e
  rw[if_pos m]
  simp[cu,x9,e]
 ·have e:=K.has (ent 0 acc) d k h
  rw[jR 0 m] at e
  have e2:=K.wr (ent 0 acc) d k (.int (acc.length:Nat)) h (by rw[oE];omega)
  rw[zM m] at e2
  have e3:=K.ln (ent 0 acc)
  rw[oE] at e3
  rw[if_neg m]
  simp[cu,x9,e,e2,e3,jH]
theorem wK (K:Kk mk ky){sd:D}:∀(ds:List D) (ks:List κ) (acc:List κ) (x:Option U),ds.map ky=ks.map some->acc.length+ds.length < 1000->iC x=false->
    ∃x',loop (bName 2) cu ds [some (.t sd),some (.m (mk (ent 0 acc))),x]=some (.nx [some (.t sd),some (.m (mk (ent 0 (kR acc ks)))),x'])
  | [],ks,acc,x,h,_,_=>by
    cases ks with
    | nil=>exact⟨x,rfl⟩
    | cons=>cases h
  | d :: ds, ks, acc, x, h, hl, hx => by
    cases ks with
    | nil=>cases h
    | cons k ks=>
      have hl:acc.length+(ds.length+1) < 1000:=hl
      injection h with h1 h2
      obtain⟨x',e⟩:=wK K (sd:=sd) ds ks (if k∈acc then acc else acc++[k]) (some (.t d)) h2 (by split <;> (try rw[List.length_append,List.length_singleton]) <;> omega) rfl
      refine⟨x',?_⟩
      have eb:bName 2 d [some (.t sd),some (.m (mk (ent 0 acc))),x]=some [some (.t sd),some (.m (mk (ent 0 acc))),some (.t d)]:=by simp[-dU,cG,hx]
      rw[gR,eb,Option.bind_some,Di K h1 (by omega),Option.bind_some]
      exact e
theorem wL (K : Kk mk ky) {sd : D} {acc : List κ} {x : Option U} : ∀ (ds : List D) (ks : List κ) (out : List D), ds.map ky = ks.map some -> (∀ k ∈ ks, k ∈ acc) ->
    bu [1] bA (aV 1 (eF (ak 0))) ds [some (.t sd),some (.m (mk (ent 0 acc))),x] out=some (out++iD (ks.map fun k=>acc.idxOf k),[some (.t sd),some (.m (mk (ent 0 acc))),x])
  | [],ks,out,h,_=>by
    cases ks with
    | nil=>simp[bu,iD]
    | cons=>cases h
  | d :: ds, ks, out, h, hm => by
    cases ks with
    | nil=>cases h
    | cons k ks=>
      injection h with h1 h2
      have e:=K.rb (ent 0 acc) d k h1
      rw[mj (hm k List.mem_cons_self)] at e
      have e1:bu [1] bA (aV 1 (eF (ak 0))) [d] [some (.t sd),some (.m (mk (ent 0 acc))),x] out=some (out++[.int (acc.idxOf k:Nat)],[some (.t sd),some (.m (mk (ent 0 acc))),x]):=by
        simp[bu,dR,jq,e,aN]
      rw[Sq.kK,e1,Option.bind_some]
      refine(wL K (sd:=sd) (x:=x) ds ks (out++[D.int ((acc.idxOf k:Nat):Int)]) h2 fun q hq=>hm q (List.mem_cons_of_mem _ hq)).trans ?_
      simp[iD]
theorem wM (K:Kk mk ky){sd:D}{ds:List D}{ks:List κ}(hs:sd= .tup ds\/sd= .lst ds) (hk:ds.map ky=ks.map some) (hl:ds.length < 1000):
  ∃a S,(aQ (iR (bName 2) (gF (eF (ak 0))) (cu)) (d8 (dP [1] (gF (eF (ak 0))) bA (aV 1 (eF (ak 0)))))) [some (.t sd),some (.m (mk [])),none]=some (.rt (.m (.lst (iD (fu ks)))) (a :: S)):=by
 obtain⟨x,e⟩:=wK K (sd:=sd) ds ks [] none hk (by simpa using hl) rfl
 have e2:=wL K (sd:=sd) (acc:=kR [] ks) (x:=x) ds ks [] hk fun k h=>jQ.mpr (.inr h)
 have hz:ds.length<=100000:=by omega
 rw[List.nil_append] at e2
 have e:loop (bName 2) cu ds [some (.t sd),some (.m (mk [])),none]=some (.nx [some (.t sd),some (.m (mk (ent 0 (kR [] ks)))),x]):=e
 rcases hs with rfl | rfl
 ·exact⟨_,_,by simp[iY,e,fH,e2,hz,fu];exact⟨rfl,rfl⟩⟩
 ·exact⟨_,_,by simp[iY,e,fH,e2,hz,fu];exact⟨rfl,rfl⟩⟩
end
theorem IE {sd:D}{ds:List D}{ks:List Key}(hs:sd= .tup ds\/sd= .lst ds) (hk:ds.map keyOf=ks.map some) (hl:ds.length < 1000):jJ [.t sd]=some (.m (.lst (iD (fu ks))),[]):=by
 obtain⟨a,S,e⟩:=wM Fb hs hk hl
 have eg:cX [some (.t sd),none,none]=some (.rt (.m (.lst (iD (fu ks)))) (a :: S)):=by
  unfold cX Gu
  rw[show(aQ (bz 1 nU) (aQ (iR (bName 2) (gF (eF (ak 0))) (cu)) (d8 (dP [1] (gF (eF (ak 0))) bA (aV 1 (eF (ak 0))))))) [some (.t sd),none,none]=some (.rt (.m (.lst (iD (fu ks)))) (a :: S)) from e]
  rfl
 show(cX [some (.t sd),none,none]).bind _=_
 rw[eg]
 rfl
theorem IF {sd : D} {ds : List D} {ks : List D} (hs : sd = .tup ds \/ sd = .lst ds) (h0 : ds ≠ []) (hk : ds.map jW = ks.map some) (hl : ds.length < 1000) : jJ [.t sd] = some (.m (.lst (iD (fu ks))), []) := by
  obtain⟨a,S,e⟩:=wM LK hs hk hl
  have no : (aQ (bz 1 nU) (aQ (iR (bName 2) (gF (eF (ak 0))) (cu)) (d8 (dP [1] (gF (eF (ak 0))) bA (aV 1 (eF (ak 0))))))) [some (.t sd), none, none] = none := by
    cases ds with
    | nil=>exact absurd rfl h0
    | cons d ds=>
      cases ks with
      | nil=>cases hk
      | cons k ks=>
        injection hk with h1 h2
        cases d with
        | tup zs=>
          have ew:cu [some (.t sd),some (.m (.dct [])),some (.t (.tup zs))]=none:=rfl
          have el:loop (bName 2) cu (.tup zs :: ds) [some (.t sd),some (.m (.dct [])),none]=none:=by
            rw[gR,show bName 2 (.tup zs) [some (.t sd),some (.m (.dct [])),none]=some [some (.t sd),some (.m (.dct [])),some (.t (.tup zs))] from rfl,Option.bind_some,ew]
            rfl
          rcases hs with rfl | rfl <;> simp[iY,el]
        | _=>cases h1
  have eg:cX [some (.t sd),none,none]=some (.rt (.m (.lst (iD (fu ks)))) (a :: S)):=by
    unfold cX Gu
    rw[no]
    exact e
  show(cX [some (.t sd),none,none]).bind _=_
  rw[eg]
  rfl
theorem u9 {bd : GB} {body : GS} {I : Nat -> SS -> Prop} {P : U -> SS -> Prop} : ∀ (ds : List D) (k : Nat) (S : SS), I k S -> (∀ j d S, ds[j]? = some d -> I (k + j) S -> ∃ S1, bd d S = some S1 /\ ((∃ S2, body S1 = some (.nx S2) /\ I (k + j + 1) S2) \/ ∃ u S2, body S1 = some (.rt u S2) /\ P u S2)) ->
    (∃S',loop bd body ds S=some (.nx S')/\I (k+ds.length) S')\/∃u S',loop bd body ds S=some (.rt u S')/\P u S'
  | [],k,S,h,_=>.inl ⟨S,rfl,h⟩
  | d :: ds, k, S, h, hs => by
    obtain⟨S1,e1,⟨S2,e2,h2⟩ | ⟨u,S2,e2,h2⟩⟩:=hs 0 d S rfl h
    . rcases u9 ds (k+1) S2 h2 (fun j d' S' hd hI=>by
        obtain⟨S1,a,b⟩:=hs (j+1) d' S' hd (by rw[show k+(j+1)=k+1+j by omega];exact hI)
        rw[show k+(j+1)+1=k+1+j+1 by omega] at b
        exact⟨S1,a,b⟩) with⟨S',e,h'⟩ | ⟨u,S',e,h'⟩
      . refine .inl ⟨S',?_,?_⟩
        . rw[gR,e1,Option.bind_some,e2,Option.bind_some];exact e
        . rw[List.length_cons,show k+(ds.length+1)=k+1+ds.length by omega];exact h'
      . exact .inr ⟨u,S',by rw[gR,e1,Option.bind_some,e2,Option.bind_some];exact e,h'⟩
    . exact .inr ⟨u,S2,by rw[gR,e1,Option.bind_some,e2,Option.bind_some],h2⟩
noncomputable def rw' (N:List (List Int)) (s:Nat):List Int:=N.getD s []
noncomputable def fT (N:List (List Int)) (s c:Nat):Nat:=((rw' N s).getD c 0).toNat
noncomputable def nD (N:List (List Int)):D:=.tup (N.map Sq.aY)
theorem rw_get {N:List (List Int)}{s:Nat}(h:s < N.length):N[s]? =some (rw' N s):=by
 unfold rw'
 rw[List.getD_eq_getElem?_getD,List.getElem?_eq_getElem h]
 rfl
theorem rw_len {W:Nat}{N:List (List Int)}{s:Nat}(mo:Sq.bR W N) (h:s < N.length):(rw' N s).length=W:=(mo.row _ (List.mem_of_getElem? (rw_get h))).1
theorem fj {W:Nat}{N:List (List Int)}{s c:Nat}(mo:Sq.bR W N) (h:s < N.length) (hc:c < W):(rw' N s)[c]? =some (fT N s c:Nat)/\fT N s c < N.length:=by
 obtain⟨r1,r2⟩:=mo.row _ (List.mem_of_getElem? (rw_get h))
 have hl:c < (rw' N s).length:=by omega
 have v:=r2 _ (List.getElem_mem hl)
 unfold fT
 rw[List.getD_eq_getElem?_getD,List.getElem?_eq_getElem hl]
 simp only[Option.getD_some]
 exact⟨by congr 1;omega,by omega⟩
theorem mq {N:List (List Int)}{s:Nat}(h:s < N.length):dj (N.map Sq.aY) (s:Int)=some (.tup ((rw' N s).map D.int)):=
 Sq.kL (Int.natCast_nonneg s) (by rw[Int.toNat_natCast,List.getElem?_map,rw_get h];rfl)
theorem mz {W:Nat}{N:List (List Int)}{s c:Nat}(mo:Sq.bR W N) (h:s < N.length) (hc:c < W):dj ((rw' N s).map D.int) (c:Int)=some (.int (fT N s c:Nat)):=
 Sq.kL (Int.natCast_nonneg c) (by rw[Int.toNat_natCast,List.getElem?_map,(fj mo h hc).1];rfl)
theorem qU {ns:List Nat}{s:Nat}(h:s < ns.length):dj (iD ns) (s:Int)=some (.int (na ns s:Nat)):=
 Sq.kL (Int.natCast_nonneg s) (by rw[Int.toNat_natCast,iD,List.getElem?_map,jY h];rfl)
structure Fs (ns:List Nat) (j:Nat) (kvs:List (Key×D)):Prop where
 yes:∀v e,aT kvs (.inl v)=some e->∃f:Nat,f < j/\e= .int (f:Nat)/\v=((na ns f:Nat):Int)
 no:∀v,aT kvs (.inl v)=none->∀i,i < j->v≠((na ns i:Nat):Int)
 few:kvs.length<=j
theorem look_same {κ:Type} [DecidableEq κ] {kvs:List (κ×D)}{k:κ}{d:D}(h:aT kvs k=none):aT (kvs++[(k,d)]) k=some d:=by
 unfold aT at h ⊢
 rw[Option.map_eq_none_iff] at h
 rw[List.find?_append,h]
 simp
theorem qV {κ:Type} [DecidableEq κ] {kvs:List (κ×D)}{k k':κ}{d:D}(h:k≠k'):aT (kvs++[(k,d)]) k'=aT kvs k':=by
 unfold aT
 rw[List.find?_append,List.find?_cons_of_neg (by simpa using h),List.find?_nil,Option.or_none]
theorem IG (ns:List Nat):Fs ns 0 [] where
 yes:=fun v e h=>by cases h
 no:=fun v _ i hi=>by omega
 few:=Nat.le_refl _
theorem Fs.step {ns : List Nat} {j : Nat} {kvs : List (Key × D)} (F : Fs ns j kvs) (hj : j < 1000) : ∃ (f : Nat) (kvs' : List (Key × D)), AK (.dct kvs) (.int (na ns j : Nat)) (.int (j : Nat)) = some (.int (f : Nat), .dct kvs') /\ Fs ns (j + 1) kvs' /\ na ns f = na ns j /\ (f < j \/ (f = j /\ ∀ i, i < j -> na ns i ≠ na ns j)) := by
  have hl:kvs.length < 100000:=by have:=F.few;omega
  cases e:aT kvs (.inl ((na ns j:Nat):Int)) with
  | some d=>
    obtain⟨f,hf,rfl,hv⟩:=F.yes _ _ e
    have hv:na ns j=na ns f:=Int.ofNat_inj.mp hv
    refine⟨f,kvs,?_,⟨fun v e' h=>?_,fun v h i hi=>?_,by have:=F.few;omega⟩,hv.symm,.inl hf⟩
    . rw[Fb.df kvs _ _ _ rfl hl,e]
    . obtain⟨g,hg,r⟩:=F.yes v e' h;exact⟨g,by omega,r⟩
    . by_cases c:i < j
      . exact F.no v h i c
      . have:i=j:=by omega
        subst this
        rintro rfl
        rw[e] at h
        cases h
  | none=>
    refine⟨j,putD kvs (.inl ((na ns j:Nat):Int)) (.int (j:Nat)),?_,⟨fun v e' h=>?_,fun v h i hi=>?_,?_⟩,rfl,.inr ⟨rfl,fun i hi q=>F.no _ e i hi (by rw[q])⟩⟩
    . rw[Fb.df kvs _ _ _ rfl hl,e]
    . rw[ql e] at h
      by_cases c:v=((na ns j:Nat):Int)
      . subst c
        rw[look_same e] at h
        cases h
        exact⟨j,by omega,rfl,rfl⟩
      . rw[qV (by intro q;injection q with q;exact c q.symm)] at h
        obtain⟨g,hg,r⟩:=F.yes v e' h
        exact⟨g,by omega,r⟩
    . rw[ql e] at h
      by_cases c:v=((na ns j:Nat):Int)
      . subst c
        rw[look_same e] at h
        cases h
      . rw[qV (by intro q;injection q with q;exact c q.symm)] at h
        by_cases ci:i < j
        . exact F.no v h i ci
        . have:i=j:=by omega
          subst this
          exact c
    . rw[ql e,List.length_append,List.length_singleton];have:=F.few;omega
noncomputable def dQ:GS:=
 (aQ (bz 6 (eT (pR 3 (aV 1 (eF (ak 4))) (eF (ak 4)))))
 (xx (qB (eF (eP Oa (aa (aV 1 (eF (eP qC (aa (aV 0 (eF (ak 6))) (aa (eF (ak 2)) aA))))) (aa (aV 1 (aV 5 (eF (ak 2)))) aA))))) (d8 (eP lz (aa (eF (ak 6)) (aa (eF (ak 4)) (aa (eF (ak 2)) aA))))) oR))
noncomputable def gT:GS:=
 (aQ (bz 3 nU)
 (iR (qD 2 (iz (bName 4) (iz (bName 5) rW))) (CF (aa (eF (ak 0)) aA)) (dQ)))
noncomputable def cY:GS:=
 (aQ (iR (bName 2) (cU (aa (eF (eP pY (aa (aV 0 (eC (.int 0))) aA))) aA)) (gT))
 (d8 (eT (eC .bM))))
noncomputable def dB:FM:=bJ 7 cY
theorem AX:∀us r,dB us=some r->bJ 7 cY us=some r:=fun _ _ h=>h
theorem Dj {aF aW rf rj : List D} {kvs kvs' : List (Key × D)} {cc jj nj ff a b p q : Int} {x6 : Option U} (h6 : iC x6 = false) (h1 : dj aW jj = some (.int nj)) (h2 : AK (.dct kvs) (.int nj) (.int jj) = some (.int ff, .dct kvs')) (h3 : dj aF ff = some (.tup rf))
    (h4:dj rf cc=some (.int a)) (h5:dj rj cc=some (.int b)) (h7:dj aW a=some (.int p)) (h8:dj aW b=some (.int q)):
    dQ [some (.t (.tup aF)),some (.t (.lst aW)),some (.t (.int cc)),some (.m (.dct kvs)),some (.t (.int jj)),some (.t (.tup rj)),x6]=
      some (if p=q then .nx [some (.t (.tup aF)),some (.t (.lst aW)),some (.t (.int cc)),some (.m (.dct kvs')),some (.t (.int jj)),some (.t (.tup rj)),some (.t (.int ff))]
        else .rt (.t (.tup [.int ff,.int jj,.int cc])) [some (.t (.tup aF)),some (.t (.lst aW)),some (.t (.int cc)),some (.m (.dct kvs')),some (.t (.int jj)),some (.t (.tup rj)),some (.t (.int ff))]):=by
  have ed:kO (.int p) (.int q)=decide (p=q):=by
    show(p == q)=_
    by_cases c:p=q <;> simp[c]
  by_cases c:p=q
  . rw[if_pos c]
    rw[decide_eq_true c] at ed
    simp[-dU,cG,dQ,pR,qO,jH,h1,h2,h3,h4,h5,h6,h7,h8,ed]
  . rw[if_neg c]
    rw[decide_eq_false c] at ed
    simp[-dU,cG,dQ,pR,qO,jH,h1,h2,h3,h4,h5,h6,h7,h8,ed]
noncomputable def yF (N:List (List Int)) (ns:List Nat) (c j:Nat):Prop:=∀s t,s < j->t < j->na ns s=na ns t->na ns (fT N s c)=na ns (fT N t c)
structure LL (W:Nat) (N:List (List Int)) (ns:List Nat) (f g c:Nat):Prop where
 hf:f < N.length
 hg:g < N.length
 hc:c < W
 eq:na ns f=na ns g
 ne:na ns (fT N f c)≠na ns (fT N g c)
theorem Fd {W c j : Nat} {N : List (List Int)} {ns : List Nat} {kvs : List (Key × D)} {x6 : Option U} (mo : Sq.bR W N) (hn : ns.length = N.length) (hj : j < N.length) (hc : c < W) (F : Fs ns j kvs) (h6 : iC x6 = false) (Sm : yF N ns c j) :
    (∃kvs' MZ,iC MZ=false/\Fs ns (j+1) kvs'/\yF N ns c (j+1)/\dQ [some (.t (nD N)),some (.t (.lst (iD ns))),some (.t (.int c)),some (.m (.dct kvs)),some (.t (.int j)),some (.t (.tup ((rw' N j).map D.int))),x6]=some (.nx [some (.t (nD N)),some (.t (.lst (iD ns))),some (.t (.int c)),some (.m (.dct kvs')),some (.t (.int j)),some (.t (.tup ((rw' N j).map D.int))),MZ]))\/
    ∃(f:Nat) (a b:Option U) (S:SS),LL W N ns f j c/\dQ [some (.t (nD N)),some (.t (.lst (iD ns))),some (.t (.int c)),some (.m (.dct kvs)),some (.t (.int j)),some (.t (.tup ((rw' N j).map D.int))),x6]=some (.rt (.t (.tup [.int f,.int j,.int c])) (a :: b :: S)):=by
  have few:=mo.few
  obtain⟨f,kvs',e1,F',ef,hf⟩:=F.step (by omega)
  have hfn:f < N.length:=by omega
  have z:=Dj (aF:=N.map Sq.aY) (aW:=iD ns) (x6:=x6) h6 (qU (by omega)) e1 (mq hfn) (mz mo hfn hc) (mz mo hj hc) (qU (by rw[hn];exact(fj mo hfn hc).2)) (qU (by rw[hn];exact(fj mo hj hc).2))
  by_cases q:na ns (fT N f c)=na ns (fT N j c)
  . refine .inl ⟨kvs',some (.t (.int f)),rfl,F',?_,by rw[if_pos (by rw[q])] at z;exact z⟩
    have key:∀s,s < j->na ns s=na ns j->na ns (fT N s c)=na ns (fT N j c):=fun s hs es=>by
      rcases hf with hf | ⟨rfl,no⟩
      . rw[Sm s f hs hf (es.trans ef.symm),q]
      . exact absurd es (no s hs)
    intro s t hs ht O7
    by_cases cs:s < j
    . by_cases ct:t < j
      . exact Sm s t cs ct O7
      . have:t=j:=by omega
        subst this
        exact key s cs O7
    . have:s=j:=by omega
      subst this
      by_cases ct:t < s
      . exact(key t ct O7.symm).symm
      . have:t=s:=by omega
        rw[this]
  . refine .inr ⟨f,_,_,_,⟨hfn,hj,hc,ef,q⟩,by rw[if_neg (fun h=>q (Int.ofNat_inj.mp h))] at z;exact z⟩
theorem II {W c:Nat}{N:List (List Int)}{ns:List Nat}{x3 x4 x5 x6:Option U}(mo:Sq.bR W N) (hn:ns.length=N.length) (hc:c < W) (h3:iC x3=false) (h4:iC x4=false) (h5:iC x5=false) (h6:iC x6=false):
  (∃y3 y4 y5 y6,iC y3=false/\iC y4=false/\iC y5=false/\iC y6=false/\yF N ns c N.length/\gT [some (.t (nD N)),some (.t (.lst (iD ns))),some (.t (.int c)),x3,x4,x5,x6]=some (.nx [some (.t (nD N)),some (.t (.lst (iD ns))),some (.t (.int c)),y3,y4,y5,y6]))\/
  ∃(f g:Nat) (a b:Option U) (S:SS),LL W N ns f g c/\gT [some (.t (nD N)),some (.t (.lst (iD ns))),some (.t (.int c)),x3,x4,x5,x6]=some (.rt (.t (.tup [.int f,.int g,.int c])) (a :: b :: S)):=by
 have e0:gT [some (.t (nD N)),some (.t (.lst (iD ns))),some (.t (.int c)),x3,x4,x5,x6]=loop (qD 2 (iz (bName 4) (iz (bName 5) rW))) dQ (pQ (N.map Sq.aY)) [some (.t (nD N)),some (.t (.lst (iD ns))),some (.t (.int c)),some (.m (.dct [])),x4,x5,x6]:=by
  generalize (c:Int)=cc
  simp[-dU,cG,gT,h3,nD]
 rw[e0]
 rcases u9 (bd:=qD 2 (iz (bName 4) (iz (bName 5) rW))) (body:=dQ)
  (I:=fun j S=>∃kvs y4 y5 y6,iC y4=false/\iC y5=false/\iC y6=false/\Fs ns j kvs/\yF N ns c j/\S=[some (.t (nD N)),some (.t (.lst (iD ns))),some (.t (.int c)),some (.m (.dct kvs)),y4,y5,y6])
  (P:=fun u S=>∃(f g:Nat) (a b:Option U) (S':SS),LL W N ns f g c/\u= .t (.tup [.int f,.int g,.int c])/\S=a :: b :: S') (pQ (N.map Sq.aY)) 0 _ ⟨[],x4,x5,x6,h4,h5,h6,IG ns,fun s t hs=>by omega,rfl⟩ (by
  rintro j d S hd ⟨kvs,y4,y5,y6,k4,k5,k6,F,Sm,rfl⟩
  rw[Nat.zero_add] at F Sm ⊢
  unfold pQ at hd
  rw[List.getElem?_mapIdx] at hd
  have hj:j < N.length:=by
   apply Classical.byContradiction
   intro h
   rw[List.getElem?_eq_none (by rw[List.length_map];omega)] at hd
   cases hd
  rw[List.getElem?_map,rw_get hj] at hd
  have hd:D.tup [.int j,.tup ((rw' N j).map D.int)]=d:=Option.some.inj hd
  subst hd
  refine⟨[some (.t (nD N)),some (.t (.lst (iD ns))),some (.t (.int c)),some (.m (.dct kvs)),some (.t (.int j)),some (.t (.tup ((rw' N j).map D.int))),y6],?_,?_⟩
  ·generalize (j:Int)=jj
   generalize (c:Int)=cc
   simp[-dU,cG,k4,k5]
  ·rcases Fd (x6:=y6) mo hn hj hc F k6 Sm with⟨kvs',MZ,a1,a2,a3,a4⟩ | ⟨f,a,b,S',sp,e⟩
   ·exact .inl ⟨_,a4,kvs',_,_,MZ,rfl,rfl,a1,a2,a3,rfl⟩
   ·exact .inr ⟨_,_,e,f,j,a,b,S',sp,rfl,rfl⟩) with⟨S',e,kvs,y4,y5,y6,k4,k5,k6,_,Sm,rfl⟩ | ⟨u,S',e,f,g,a,b,O8,sp,rfl,rfl⟩
 ·rw[Nat.zero_add,pQ,List.length_mapIdx,List.length_map] at Sm
  exact .inl ⟨_,y4,y5,y6,rfl,k4,k5,k6,Sm,e⟩
 ·exact .inr ⟨f,g,a,b,O8,sp,e⟩
theorem IJ {r0 rs:List D}{x:List (Option U)}(h:dj rs 0=some (.tup r0)) (hl:r0.length < 1000):cU (aa (eF (eP pY (aa (aV 0 (eC (.int 0))) aA))) aA) (some (.t (.tup rs)) :: x)=some (iA 0 r0.length,some (.t (.tup rs)) :: x):=by
 have e:(aa (eF (eP pY (aa (aV 0 (eC (.int 0))) aA))) aA) (some (.t (.tup rs)) :: x)=some ([.int (r0.length:Nat)],some (.t (.tup rs)) :: x):=by simp[h]
 have hb:r0.length < 1000000:=by omega
 rw[Sq.kr e (Int.ofNat_lt.mpr hb) (Sq.uX _),Int.toNat_natCast]
theorem Dk {W : Nat} {N : List (List Int)} {ns : List Nat} (mo : Sq.bR W N) (hW : W < 1000) (hn : ns.length = N.length) :
    (dB [.t (nD N),.t (.lst (iD ns))]=some (.t .bM,[])/\∀c,c < W->yF N ns c N.length)\/∃f g c:Nat,dB [.t (nD N),.t (.lst (iD ns))]=some (.t (.tup [.int f,.int g,.int c]),[])/\LL W N ns f g c:=by
  have r0:=IJ (rs:=N.map Sq.aY) (r0:=(rw' N 0).map D.int) (x:=[some (.t (.lst (iD ns))),none,none,none,none,none]) (mq mo.pos) (by rw[List.length_map,rw_len mo mo.pos];exact hW)
  rw[List.length_map,rw_len mo mo.pos] at r0
  replace r0:cU (aa (eF (eP pY (aa (aV 0 (eC (.int 0))) aA))) aA) [some (.t (nD N)),some (.t (.lst (iD ns))),none,none,none,none,none]=some (iA 0 W,[some (.t (nD N)),some (.t (.lst (iD ns))),none,none,none,none,none]):=r0
  rcases u9 (bd:=bName 2) (body:=gT)
    (I:=fun j S=>∃y2 y3 y4 y5 y6,iC y2=false/\iC y3=false/\iC y4=false/\iC y5=false/\iC y6=false/\(∀c,c < j->yF N ns c N.length)/\S=[some (.t (nD N)),some (.t (.lst (iD ns))),y2,y3,y4,y5,y6])
    (P:=fun u S=>∃(f g c:Nat) (a b:Option U) (S':SS),LL W N ns f g c/\u= .t (.tup [.int f,.int g,.int c])/\S=a :: b :: S') (iA 0 W) 0 [some (.t (nD N)),some (.t (.lst (iD ns))),none,none,none,none,none] ⟨none,none,none,none,none,rfl,rfl,rfl,rfl,rfl,fun c h=>by omega,rfl⟩ (by
    rintro j d S hd ⟨y2,y3,y4,y5,y6,k2,k3,k4,k5,k6,Sm,rfl⟩
    obtain⟨hj,rfl⟩:=ou hd
    rw[Nat.zero_add] at Sm ⊢
    refine⟨[some (.t (nD N)),some (.t (.lst (iD ns))),some (.t (.int j)),y3,y4,y5,y6],?_,?_⟩
    . generalize (j:Int)=jj
      simp[-dU,cG,k2]
    . rcases II mo hn hj k3 k4 k5 k6 with⟨z3,z4,z5,z6,a3,a4,a5,a6,sm,e⟩ | ⟨f,g,a,b,S',sp,e⟩
      . refine .inl ⟨_,e,_,z3,z4,z5,z6,rfl,a3,a4,a5,a6,fun c hc=>?_,rfl⟩
        by_cases q:c < j
        . exact Sm c q
        . have:c=j:=by omega
          subst this
          exact sm
      . exact .inr ⟨_,_,e,f,g,j,a,b,S',sp,rfl,rfl⟩) with⟨S',e,y2,y3,y4,y5,y6,_,_,_,_,_,Sm,rfl⟩ | ⟨u,S',e,f,g,c,a,b,O8,sp,rfl,rfl⟩
  . refine .inl ⟨?_,fun c hc=>Sm c (by rw[Sq.jP];omega)⟩
    have all:cY [some (.t (nD N)),some (.t (.lst (iD ns))),none,none,none,none,none]=some (.rt (.t .bM) [some (.t (nD N)),some (.t (.lst (iD ns))),y2,y3,y4,y5,y6]):=by
      unfold cY
      rw[Sq.bB (S1:=[some (.t (nD N)),some (.t (.lst (iD ns))),y2,y3,y4,y5,y6])]
      . simp
      . rw[nh,r0]
        exact e
    show(cY [some (.t (nD N)),some (.t (.lst (iD ns))),none,none,none,none,none]).bind _=_
    rw[all]
    rfl
  . refine .inr ⟨f,g,c,?_,sp⟩
    have all:cY [some (.t (nD N)),some (.t (.lst (iD ns))),none,none,none,none,none]=some (.rt (.t (.tup [.int f,.int g,.int c])) (a :: b :: O8)):=by
      unfold cY
      rw[yq,nh,r0,Option.bind_some,e]
      rfl
    show(cY [some (.t (nD N)),some (.t (.lst (iD ns))),none,none,none,none,none]).bind _=_
    rw[all]
    rfl
noncomputable def Wd (d:D):Prop:=(∃b,d= .bl b)\/∃z,d= .str z
theorem Gy {a b:D}(ha:Wd a) (hb:Wd b):kO a b=true↔a=b:=by
 rcases ha with⟨x,rfl⟩ | ⟨x,rfl⟩ <;> rcases hb with⟨y,rfl⟩ | ⟨y,rfl⟩
 ·show(x == y)=true↔_
  rw[beq_iff_eq]
  exact⟨fun h=>(by rw[h]),fun h=>(by injection h)⟩
 ·exact⟨fun h=>(by cases h),fun h=>(by cases h)⟩
 ·exact⟨fun h=>(by cases h),fun h=>(by cases h)⟩
 ·show(x == y)=true↔_
  rw[beq_iff_eq]
  exact⟨fun h=>(by rw[h]),fun h=>(by injection h)⟩
theorem IK {a:D}(ha:Wd a):iS a<=40:=by rcases ha with⟨x,rfl⟩ | ⟨x,rfl⟩ <;> exact Nat.zero_le _
theorem Dl {x y:Bool}(h:bI x=bI y):x=y:=by cases x <;> cases y <;> first | rfl | (exact absurd h (by decide))
theorem LM {a b:D}(ha:Wd a) (hb:Wd b) (h:nf a=nf b):a=b:=by
 rcases ha with⟨x,rfl⟩ | ⟨x,rfl⟩ <;> rcases hb with⟨y,rfl⟩ | ⟨y,rfl⟩
 ·simp only[nf] at h;injection h with h;rw[Dl h]
 ·simp[nf] at h
 ·simp[nf] at h
 ·simpa[nf] using h
theorem LN {a:D}(ha:Wd a) (n:Nat):d7 n a=true:=by rcases ha with⟨x,rfl⟩ | ⟨x,rfl⟩ <;> cases n <;> rfl
noncomputable def yG:D->Key
 | .bl b=>.inl (bI b)
 | .str z=>.inr z
 | _=>.inl 0
theorem LO {a:D}(ha:Wd a):keyOf a=some (yG a):=by rcases ha with⟨x,rfl⟩ | ⟨x,rfl⟩ <;> rfl
theorem Fe {a b:D}(ha:Wd a) (hb:Wd b) (h:yG a=yG b):a=b:=by
 rcases ha with⟨x,rfl⟩ | ⟨x,rfl⟩ <;> rcases hb with⟨y,rfl⟩ | ⟨y,rfl⟩
 ·injection h with h;rw[Dl h]
 ·cases h
 ·cases h
 ·injection h with h;rw[h]
noncomputable def bG (M:List D) (s:Nat):D:=M.getD s .bM
theorem ku {M:List D}{s:Nat}(h:s < M.length):M[s]? =some (bG M s):=by
 unfold bG
 rw[List.getD_eq_getElem?_getD,List.getElem?_eq_getElem h]
 rfl
theorem wN {M:List D}{s:Nat}(h:s < M.length):dj M (s:Int)=some (bG M s):=
 Sq.kL (Int.natCast_nonneg s) (by rw[Int.toNat_natCast];exact ku h)
theorem gr {M:List D}{s:Nat}(h:s < M.length):bG M s∈M:=List.mem_of_getElem? (ku h)
noncomputable def eB (N:List (List Int)) (M:List D) (cs:List Nat):List D:=(List.range N.length).map fun s=>bG M (led (fT N) cs s)
theorem o7 {W:Nat}{N:List (List Int)}(mo:Sq.bR W N):∀{cs:List Nat}{s:Nat},(∀c∈cs,c < W)->s < N.length->led (fT N) cs s < N.length
 | [],s,_,hs=>hs
 | c :: cs,s,h,hs=>o7 (cs:=cs) (s:=fT N s c) mo (fun d hd=>h d (List.mem_cons_of_mem _ hd)) (fj mo hs (h c List.mem_cons_self)).2
theorem vc {N:List (List Int)}{M:List D}{cs:List Nat}{s:Nat}(h:s < N.length):dj (eB N M cs) (s:Int)=some (bG M (led (fT N) cs s)):=
 Sq.kL (Int.natCast_nonneg s) (by rw[Int.toNat_natCast,eB,List.getElem?_map,List.getElem?_range h];rfl)
noncomputable def gB:GS:=
 (EH (fun i j=>i+j) 3 (eC (.int 1)))
noncomputable def cK:GS:=
 (aQ (bz 3 (eT (eC (.int 0))))
 (aQ (qF 100000 (qB (eF (eP DK (aa (eF (eP qC (aa (aV 0 (eF (ak 3))) (aa (eF (ak 1)) aA)))) (aa (eF (eP qC (aa (aV 0 (eF (ak 3))) (aa (eF (ak 2)) aA)))) aA))))) (gB))
 (d8 (ak 3))))
noncomputable def dW:FM:=bJ 4 cK
theorem AY:∀us r,dW us=some r->bJ 4 cK us=some r:=fun _ _ h=>h
theorem Ff {V ra:List D}{i j k:Int}{a b:D}(h1:dj V k=some (.lst ra)) (h2:dj ra i=some a) (h3:dj ra j=some b) (hd:iS a<=40):
  (qB (eF (eP DK (aa (eF (eP qC (aa (aV 0 (eF (ak 3))) (aa (eF (ak 1)) aA)))) (aa (eF (eP qC (aa (aV 0 (eF (ak 3))) (aa (eF (ak 2)) aA)))) aA))))) [some (.b (.lst V)),some (.t (.int i)),some (.t (.int j)),some (.t (.int k))]=some (kO a b,[some (.b (.lst V)),some (.t (.int i)),some (.t (.int j)),some (.t (.int k))]):=by
 simp[h1,h2,h3,hd]
theorem Fg {V:List D}{i j k:Int}:gB [some (.b (.lst V)),some (.t (.int i)),some (.t (.int j)),some (.t (.int k))]=some (.nx [some (.b (.lst V)),some (.t (.int i)),some (.t (.int j)),some (.t (.int (k+1)))]):=by
 simp[gB]
theorem zN {V : List D} {Rs : List (List Nat)} {N : List (List Int)} {M : List D} {W s t : Nat} (mo : Sq.bR W N) (hM : M.length = N.length) (hw : ∀ x ∈ M, Wd x) (hV : V = Rs.map fun cs => .lst (eB N M cs)) (hR : ∀ cs ∈ Rs, ∀ d ∈ cs, d < W) (hs : s < N.length) (ht : t < N.length) {k : Nat} {cs : List Nat} (hk : Rs[k]? = some cs) (ne : bG M (led (fT N) cs s) ≠ bG M (led (fT N) cs t)) :
    ∀(m fuel:Nat),m<=k->k - m < fuel->∃r cs',Rs[r]? =some cs'/\bG M (led (fT N) cs' s)≠bG M (led (fT N) cs' t)/\mK (qB (eF (eP DK (aa (eF (eP qC (aa (aV 0 (eF (ak 3))) (aa (eF (ak 1)) aA)))) (aa (eF (eP qC (aa (aV 0 (eF (ak 3))) (aa (eF (ak 2)) aA)))) aA))))) gB fuel [some (.b (.lst V)),some (.t (.int s)),some (.t (.int t)),some (.t (.int m))]=some (.nx [some (.b (.lst V)),some (.t (.int s)),some (.t (.int t)),some (.t (.int (r:Nat)))])
  | m,0,h,h'=>by omega
  | m,fuel+1,h,h'=>by
    have hm:m < Rs.length:=by have:=(List.getElem?_eq_some_iff.mp hk).1;omega
    obtain⟨c1,e1⟩:∃c1,Rs[m]? =some c1:=⟨_,List.getElem?_eq_getElem hm⟩
    have hc1:=hR c1 (List.mem_of_getElem? e1)
    have a1:dj V (m:Int)=some (.lst (eB N M c1)):=Sq.kL (Int.natCast_nonneg m) (by rw[Int.toNat_natCast,hV,List.getElem?_map,e1];rfl)
    have ws:Wd (bG M (led (fT N) c1 s)):=hw _ (gr (by rw[hM];exact o7 mo hc1 hs))
    have wt:Wd (bG M (led (fT N) c1 t)):=hw _ (gr (by rw[hM];exact o7 mo hc1 ht))
    have q:=Ff a1 (vc (M:=M) hs) (vc (M:=M) ht) (IK ws)
    unfold mK
    rw[q,Option.bind_some]
    by_cases c:bG M (led (fT N) c1 s)=bG M (led (fT N) c1 t)
    . have mk:m≠k:=by
        rintro rfl
        rw[hk] at e1
        cases e1
        exact ne c
      obtain⟨r,cs',b1,b2,b3⟩:=zN mo hM hw hV hR hs ht hk ne (m+1) fuel (by omega) (by omega)
      refine⟨r,cs',b1,b2,?_⟩
      rw[(Gy ws wt).mpr c]
      simp only[if_true]
      rw[Fg,Option.bind_some]
      exact b3
    . refine⟨m,c1,e1,c,?_⟩
      have:kO (bG M (led (fT N) c1 s)) (bG M (led (fT N) c1 t))=false:=by
        rw[<-Bool.not_eq_true]
        exact fun h=>c ((Gy ws wt).mp h)
      rw[this]
      rfl
theorem Dm {V:List D}{Rs:List (List Nat)}{N:List (List Int)}{M:List D}{W s t:Nat}(mo:Sq.bR W N) (hM:M.length=N.length) (hw:∀x∈M,Wd x) (hV:V=Rs.map fun cs=>.lst (eB N M cs)) (hR:∀cs∈Rs,∀d∈cs,d < W) (hs:s < N.length) (ht:t < N.length){k:Nat}{cs:List Nat}(hk:Rs[k]? =some cs) (hl:Rs.length < 1000) (ne:bG M (led (fT N) cs s)≠bG M (led (fT N) cs t)):
  ∃r cs',Rs[r]? =some cs'/\bG M (led (fT N) cs' s)≠bG M (led (fT N) cs' t)/\dW [.b (.lst V),.t (.int s),.t (.int t)]=some (.t (.int (r:Nat)),[.lst V]):=by
 have hk':=(List.getElem?_eq_some_iff.mp hk).1
 obtain⟨r,cs',b1,b2,b3⟩:=zN mo hM hw hV hR hs ht hk ne 0 100000 (Nat.zero_le _) (by omega)
 refine⟨r,cs',b1,b2,?_⟩
 have all:cK [some (.b (.lst V)),some (.t (.int s)),some (.t (.int t)),none]=some (.rt (.t (.int (r:Nat))) [some (.b (.lst V)),some (.t (.int s)),some (.t (.int t)),some (.t (.int (r:Nat)))]):=by
  unfold cK
  rw[Sq.bB (S1:=[some (.b (.lst V)),some (.t (.int s)),some (.t (.int t)),some (.t (.int ((0:Nat):Int)))]) (by generalize (s:Int)=ss;generalize (t:Int)=tt;simp),Sq.bB (show qF 100000 _ _ _=_ from b3)]
  generalize (s:Int)=ss
  generalize (t:Int)=tt
  generalize (r:Int)=rr
  simp
 show(cK [some (.b (.lst V)),some (.t (.int s)),some (.t (.int t)),none]).bind _=_
 rw[all]
 rfl
noncomputable def bO (ao:FM) (aE:FM) (aG:FM) (aq:FM):GS:=
 (aQ (bz 7 (br aG (bq (eF (ak 1)) (bq (eF (ak 6)) cz))))
 (aQ (xx (qB (eF (eP Cz (aa (eF (ak 7)) (aa (eC .bM) aA))))) (d8 (eT (eC .bM))) oR)
 (aQ (bz 8 (eT (aV 7 (eC (.int 2)))))
 (aQ (bz 9 (br aq (jI (ak 5) (bq (eF (eP qC (aa (aV 1 (aV 7 (eC (.int 0)))) (aa (eF (ak 8)) aA)))) (bq (eF (eP qC (aa (aV 1 (aV 7 (eC (.int 1)))) (aa (eF (ak 8)) aA)))) cz)))))
 (aQ (jm (eT (eM 4 hAppend (aa (eF (eP iW (aa (eF (eP lz (aa (aV 3 (eF (ak 8))) aA))) (aa (aV 4 (eF (ak 9))) aA)))) aA))))
 (aQ (bz 10 (dP [9,8,5] (gF (eF (ak 1))) bA (eF (eP qC (aa (aV 3 (eF (ak 1))) (aa (aV 0 (eF (ak 2))) aA))))))
 (aQ (jm (eT (eM 5 hAppend (aa (eF (ak 10)) aA))))
 (bz 6 (br aE (bq (eF (eP qQ (aa (eF (ak 6)) (aa (eF (ak 10)) aA)))) cz))))))))))
noncomputable def bN (ao:FM) (aE:FM) (aG:FM) (aq:FM):GS:=
 (aQ (bz 3 (br ao (bq (eF (ak 0)) cz)))
 (aQ (bz 4 (eP iu (aa (eF (eP lz aA)) aA)))
 (aQ (bz 5 (eP iu (aa (eF (eP tV (aa (eF (ak 2)) aA))) aA)))
 (aQ (bz 6 (br aE (bq (eF (ak 2)) cz)))
 (aQ (qF 100000 (qB (eF (eP HG (aa (eF (eP iW (aa (eF (eP nY (aa (eF (ak 6)) aA))) (aa (eC (.int 1)) aA)))) (aa (fV 1) aA))))) (bO ao aE aG aq))
 (d8 (eP gG (aa (eF (ak 4)) aA))))))))
noncomputable def O9 (ao:FM) (aE:FM) (aG:FM) (aq:FM):GS:=
 (bz 3 (br ao (bq (eF (ak 0)) cz)))
noncomputable def Pa (ao:FM) (aE:FM) (aG:FM) (aq:FM):GS:=
 (bz 4 (eP iu (aa (eF (eP lz aA)) aA)))
noncomputable def Pb (ao:FM) (aE:FM) (aG:FM) (aq:FM):GS:=
 (bz 5 (eP iu (aa (eF (eP tV (aa (eF (ak 2)) aA))) aA)))
noncomputable def Pc (ao:FM) (aE:FM) (aG:FM) (aq:FM):GS:=
 (bz 6 (br aE (bq (eF (ak 2)) cz)))
noncomputable def RX (ao:FM) (aE:FM) (aG:FM) (aq:FM):GS:=
 (qF 100000 (qB (eF (eP HG (aa (eF (eP iW (aa (eF (eP nY (aa (eF (ak 6)) aA))) (aa (eC (.int 1)) aA)))) (aa (fV 1) aA))))) (bO ao aE aG aq))
noncomputable def RY (ao:FM) (aE:FM) (aG:FM) (aq:FM):GS:=
 (d8 (eP gG (aa (eF (ak 4)) aA)))
theorem Gz (ao:FM) (aE:FM) (aG:FM) (aq:FM):bN ao aE aG aq=aQ (O9 ao aE aG aq) (aQ (Pa ao aE aG aq) (aQ (Pb ao aE aG aq) (aQ (Pc ao aE aG aq) (aQ (RX ao aE aG aq) (RY ao aE aG aq))))):=rfl
noncomputable def LP (ao:FM) (aE:FM) (aG:FM) (aq:FM):GS:=
 (bz 7 (br aG (bq (eF (ak 1)) (bq (eF (ak 6)) cz))))
noncomputable def LQ (ao:FM) (aE:FM) (aG:FM) (aq:FM):GS:=
 (xx (qB (eF (eP Cz (aa (eF (ak 7)) (aa (eC .bM) aA))))) (d8 (eT (eC .bM))) oR)
noncomputable def Pd (ao:FM) (aE:FM) (aG:FM) (aq:FM):GS:=
 (bz 8 (eT (aV 7 (eC (.int 2)))))
noncomputable def Pe (ao:FM) (aE:FM) (aG:FM) (aq:FM):GS:=
 (bz 9 (br aq (jI (ak 5) (bq (eF (eP qC (aa (aV 1 (aV 7 (eC (.int 0)))) (aa (eF (ak 8)) aA)))) (bq (eF (eP qC (aa (aV 1 (aV 7 (eC (.int 1)))) (aa (eF (ak 8)) aA)))) cz)))))
noncomputable def Pf (ao:FM) (aE:FM) (aG:FM) (aq:FM):GS:=
 (jm (eT (eM 4 hAppend (aa (eF (eP iW (aa (eF (eP lz (aa (aV 3 (eF (ak 8))) aA))) (aa (aV 4 (eF (ak 9))) aA)))) aA))))
noncomputable def Pg (ao:FM) (aE:FM) (aG:FM) (aq:FM):GS:=
 (bz 10 (dP [9,8,5] (gF (eF (ak 1))) bA (eF (eP qC (aa (aV 3 (eF (ak 1))) (aa (aV 0 (eF (ak 2))) aA))))))
noncomputable def Ph (ao:FM) (aE:FM) (aG:FM) (aq:FM):GS:=
 (jm (eT (eM 5 hAppend (aa (eF (ak 10)) aA))))
noncomputable def Pj (ao:FM) (aE:FM) (aG:FM) (aq:FM):GS:=
 (bz 6 (br aE (bq (eF (eP qQ (aa (eF (ak 6)) (aa (eF (ak 10)) aA)))) cz)))
theorem GC (ao:FM) (aE:FM) (aG:FM) (aq:FM):bO ao aE aG aq=aQ (LP ao aE aG aq) (aQ (LQ ao aE aG aq) (aQ (Pd ao aE aG aq) (aQ (Pe ao aE aG aq) (aQ (Pf ao aE aG aq) (aQ (Pg ao aE aG aq) (aQ (Ph ao aE aG aq) (Pj ao aE aG aq))))))):=rfl
theorem RZ (a b c:D):dj [a,b,c] 0=some a/\dj [a,b,c] 1=some b/\dj [a,b,c] 2=some c:=⟨rfl,rfl,rfl⟩
section
variable {f1 f2 f3 f4:FM}{td md:D}{aF aW H RD VD rf rg cr told qW:List D}{f g d a b r:Int}{hd:D}{y7 y8 y9 kT:Option U}
theorem Fi (h7:iC y7=false) (es:f3 [.t (.tup aF),.t (.lst aW)]=some (.t .bM,[])):
  ∃S,bO f1 f2 f3 f4 [some (.t td),some (.t (.tup aF)),some (.t md),some (.m (.lst H)),some (.m (.lst RD)),some (.m (.lst VD)),some (.t (.lst aW)),y7,y8,y9,kT]=some (.rt (.t .bM) (some (.t td) :: some (.t (.tup aF)) :: some (.t md) :: S)):=by
 rw[GC]
 have s0:LP f1 f2 f3 f4 [some (.t td),some (.t (.tup aF)),some (.t md),some (.m (.lst H)),some (.m (.lst RD)),some (.m (.lst VD)),some (.t (.lst aW)),y7,y8,y9,kT]=some (.nx [some (.t td),some (.t (.tup aF)),some (.t md),some (.m (.lst H)),some (.m (.lst RD)),some (.m (.lst VD)),some (.t (.lst aW)),some (.t .bM),y8,y9,kT]):=by simp[-dU,cG,LP,es,h7]
 rw[Sq.bB s0,yq]
 have s1:LQ f1 f2 f3 f4 [some (.t td),some (.t (.tup aF)),some (.t md),some (.m (.lst H)),some (.m (.lst RD)),some (.m (.lst VD)),some (.t (.lst aW)),some (.t .bM),y8,y9,kT]=some (.rt (.t .bM) [some (.t td),some (.t (.tup aF)),some (.t md),some (.m (.lst H)),some (.m (.lst RD)),some (.m (.lst VD)),some (.t (.lst aW)),some (.t .bM),y8,y9,kT]):=by simp[LQ,nT]
 rw[s1]
 exact⟨_,rfl⟩
theorem Fj (h7:iC y7=false) (h8:iC y8=false) (h9:iC y9=false) (h10:iC kT=false) (es:f3 [.t (.tup aF),.t (.lst aW)]=some (.t (.tup [.int f,.int g,.int d]),[]))
  (e1:dj aF f=some (.tup rf)) (e2:dj rf d=some (.int a)) (e3:dj aF g=some (.tup rg)) (e4:dj rg d=some (.int b)) (ef:f4 [.b (.lst VD),.t (.int a),.t (.int b)]=some (.t (.int r),[.lst VD]))
  (e5:dj H d=some hd) (e6:dj RD r=some (.tup cr)) (l1:1+cr.length<=100000) (l2:RD.length < 100000) (l3:VD.length < 100000) (l4:aF.length<=100000)
  (ec:∀z4 AZ,bu [9,8,5] bA (eF (eP qC (aa (aV 3 (eF (ak 1))) (aa (aV 0 (eF (ak 2))) aA)))) aF [some (.t td),some (.t (.tup aF)),some (.t md),some (.m (.lst H)),z4,some (.m (.lst VD)),some (.t (.lst aW)),some (.t (.tup [.int f,.int g,.int d])),some (.t (.int d)),some (.t (.int r)),AZ] []=some (told,[some (.t td),some (.t (.tup aF)),some (.t md),some (.m (.lst H)),z4,some (.m (.lst VD)),some (.t (.lst aW)),some (.t (.tup [.int f,.int g,.int d])),some (.t (.int d)),some (.t (.int r)),AZ]))
  (en:f2 [.t (.lst (p6 aW told))]=some (.m (.lst qW),[])):
  bO f1 f2 f3 f4 [some (.t td),some (.t (.tup aF)),some (.t md),some (.m (.lst H)),some (.m (.lst RD)),some (.m (.lst VD)),some (.t (.lst aW)),y7,y8,y9,kT]=some (.nx [some (.t td),some (.t (.tup aF)),some (.t md),some (.m (.lst H)),some (.m (.lst (RD++[.tup (hd :: cr)]))),some (.m (.lst (VD++[.lst told]))),some (.m (.lst qW)),some (.t (.tup [.int f,.int g,.int d])),some (.t (.int d)),some (.t (.int r)),some (.t (.lst told))]):=by
 rw[GC]
 have s0:LP f1 f2 f3 f4 [some (.t td),some (.t (.tup aF)),some (.t md),some (.m (.lst H)),some (.m (.lst RD)),some (.m (.lst VD)),some (.t (.lst aW)),y7,y8,y9,kT]=some (.nx [some (.t td),some (.t (.tup aF)),some (.t md),some (.m (.lst H)),some (.m (.lst RD)),some (.m (.lst VD)),some (.t (.lst aW)),some (.t (.tup [.int f,.int g,.int d])),y8,y9,kT]):=by simp[-dU,cG,LP,es,h7]
 have s1:LQ f1 f2 f3 f4 [some (.t td),some (.t (.tup aF)),some (.t md),some (.m (.lst H)),some (.m (.lst RD)),some (.m (.lst VD)),some (.t (.lst aW)),some (.t (.tup [.int f,.int g,.int d])),y8,y9,kT]=some (.nx [some (.t td),some (.t (.tup aF)),some (.t md),some (.m (.lst H)),some (.m (.lst RD)),some (.m (.lst VD)),some (.t (.lst aW)),some (.t (.tup [.int f,.int g,.int d])),y8,y9,kT]):=by simp[LQ,nT]
 have s2:Pd f1 f2 f3 f4 [some (.t td),some (.t (.tup aF)),some (.t md),some (.m (.lst H)),some (.m (.lst RD)),some (.m (.lst VD)),some (.t (.lst aW)),some (.t (.tup [.int f,.int g,.int d])),y8,y9,kT]=some (.nx [some (.t td),some (.t (.tup aF)),some (.t md),some (.m (.lst H)),some (.m (.lst RD)),some (.m (.lst VD)),some (.t (.lst aW)),some (.t (.tup [.int f,.int g,.int d])),some (.t (.int d)),y9,kT]):=by simp[-dU,cG,Pd,RZ,h8]
 have s3:Pe f1 f2 f3 f4 [some (.t td),some (.t (.tup aF)),some (.t md),some (.m (.lst H)),some (.m (.lst RD)),some (.m (.lst VD)),some (.t (.lst aW)),some (.t (.tup [.int f,.int g,.int d])),some (.t (.int d)),y9,kT]=some (.nx [some (.t td),some (.t (.tup aF)),some (.t md),some (.m (.lst H)),some (.m (.lst RD)),some (.m (.lst VD)),some (.t (.lst aW)),some (.t (.tup [.int f,.int g,.int d])),some (.t (.int d)),some (.t (.int r)),kT]):=by simp[-dU,cG,Pe,RZ,e1,e2,e3,e4,ef,h9]
 have s4:Pf f1 f2 f3 f4 [some (.t td),some (.t (.tup aF)),some (.t md),some (.m (.lst H)),some (.m (.lst RD)),some (.m (.lst VD)),some (.t (.lst aW)),some (.t (.tup [.int f,.int g,.int d])),some (.t (.int d)),some (.t (.int r)),kT]=some (.nx [some (.t td),some (.t (.tup aF)),some (.t md),some (.m (.lst H)),some (.m (.lst (RD++[.tup (hd :: cr)]))),some (.m (.lst VD)),some (.t (.lst aW)),some (.t (.tup [.int f,.int g,.int d])),some (.t (.int d)),some (.t (.int r)),kT]):=by simp[Pf,e5,e6,l1,l2,jH,hAppend,zj]
 have s5:Pg f1 f2 f3 f4 [some (.t td),some (.t (.tup aF)),some (.t md),some (.m (.lst H)),some (.m (.lst (RD++[.tup (hd :: cr)]))),some (.m (.lst VD)),some (.t (.lst aW)),some (.t (.tup [.int f,.int g,.int d])),some (.t (.int d)),some (.t (.int r)),kT]=some (.nx [some (.t td),some (.t (.tup aF)),some (.t md),some (.m (.lst H)),some (.m (.lst (RD++[.tup (hd :: cr)]))),some (.m (.lst VD)),some (.t (.lst aW)),some (.t (.tup [.int f,.int g,.int d])),some (.t (.int d)),some (.t (.int r)),some (.m (.lst told))]):=by simp[-dU,cG,Pg,fH,iY,l4,ec,h10]
 have s6:Ph f1 f2 f3 f4 [some (.t td),some (.t (.tup aF)),some (.t md),some (.m (.lst H)),some (.m (.lst (RD++[.tup (hd :: cr)]))),some (.m (.lst VD)),some (.t (.lst aW)),some (.t (.tup [.int f,.int g,.int d])),some (.t (.int d)),some (.t (.int r)),some (.m (.lst told))]=some (.nx [some (.t td),some (.t (.tup aF)),some (.t md),some (.m (.lst H)),some (.m (.lst (RD++[.tup (hd :: cr)]))),some (.m (.lst (VD++[.lst told]))),some (.t (.lst aW)),some (.t (.tup [.int f,.int g,.int d])),some (.t (.int d)),some (.t (.int r)),some (.t (.lst told))]):=by simp[Ph,l3,jH,hAppend,zj]
 have ez:qQ [.lst aW,.lst told]=some (.m (.lst (p6 aW told))):=rfl
 have s7:Pj f1 f2 f3 f4 [some (.t td),some (.t (.tup aF)),some (.t md),some (.m (.lst H)),some (.m (.lst (RD++[.tup (hd :: cr)]))),some (.m (.lst (VD++[.lst told]))),some (.t (.lst aW)),some (.t (.tup [.int f,.int g,.int d])),some (.t (.int d)),some (.t (.int r)),some (.t (.lst told))]=some (.nx [some (.t td),some (.t (.tup aF)),some (.t md),some (.m (.lst H)),some (.m (.lst (RD++[.tup (hd :: cr)]))),some (.m (.lst (VD++[.lst told]))),some (.m (.lst qW)),some (.t (.tup [.int f,.int g,.int d])),some (.t (.int d)),some (.t (.int r)),some (.t (.lst told))]):=by simp[Pj,ez,en]
 rw[Sq.bB s0,Sq.bB s1,Sq.bB s2,Sq.bB s3,Sq.bB s4,Sq.bB s5,Sq.bB s6,s7]
theorem Fl {mx:Int}{u6:U}(h6:u6= .m (.lst aW)\/u6= .t (.lst aW)) (em:nY [.lst aW]=some (.t (.int mx))):
  (qB (eF (eP HG (aa (eF (eP iW (aa (eF (eP nY (aa (eF (ak 6)) aA))) (aa (eC (.int 1)) aA)))) (aa (fV 1) aA))))) [some (.t td),some (.t (.tup aF)),some (.t md),some (.m (.lst H)),some (.m (.lst RD)),some (.m (.lst VD)),some u6,y7,y8,y9,kT]=some (decide (mx+1 < (aF.length:Nat)),[some (.t td),some (.t (.tup aF)),some (.t md),some (.m (.lst H)),some (.m (.lst RD)),some (.m (.lst VD)),some (.t (.lst aW)),y7,y8,y9,kT]):=by
 rcases h6 with rfl | rfl <;> simp[em]
end
noncomputable def wO (ns:List Nat) (N:List (List Int)) (M:List D) (cs:List Nat) (s:Nat):D:=.tup [.int (na ns s:Nat),nf (bG M (led (fT N) cs s))]
theorem IL {ns:List Nat}{n:Nat}(h:ns.length=n):iD ns=(List.range n).map fun s=>D.int (na ns s:Nat):=by
 subst h
 unfold iD
 apply List.ext_getElem?
 intro i
 rw[List.getElem?_map,List.getElem?_map]
 by_cases c:i < ns.length
 ·rw[jY c,List.getElem?_range c]
  rfl
 ·rw[List.getElem?_eq_none (by omega),List.getElem?_eq_none (by rw[List.length_range];omega)]
  rfl
theorem zip_map {α:Type}(f g:α->D):∀l:List α,p6 (l.map f) (l.map g)=l.map fun s=>.tup [f s,g s]
 | []=>rfl
 | x :: l=>by
  have:=zip_map f g l
  unfold p6 at this ⊢
  simp only[List.map_cons,List.zipWith_cons_cons,this]
theorem keys_map {α:Type}(f:α->D) (k:α->D) (l:List α) (h:∀x∈l,jW (f x)=some (k x)):(l.map f).map jW=(l.map k).map some:=by
 rw[List.map_map,List.map_map]
 exact List.map_congr_left h
theorem IM {ns:List Nat}{c:Nat}(h:yE ns c) (hc:0 < c):nY [.lst (iD ns)]=some (.t (.int ((c - 1:Nat):Int))):=by
 have e:L2.aY (iD ns)=some (ns.map fun n:Nat=>(n:Int)):=by
  unfold iD
  clear h
  induction ns with
  | nil=>rfl
  | cons n ns ih=>simp only[List.map_cons,L2.aY,ih];rfl
 have m:((c - 1:Nat):Int)∈ns.map fun n:Nat=>(n:Int):=List.mem_map.mpr ⟨c - 1,h.on _ (by omega),rfl⟩
 have e2:nX (ns.map fun n:Nat=>(n:Int))=((c - 1:Nat):Int):=zz m fun a ha=>by
  obtain⟨v,hv,rfl⟩:=List.mem_map.mp ha
  have:=h.lt v hv
  omega
 show(L2.aY (iD ns)).bind _=_
 rw[e,Option.bind_some,if_neg (List.ne_nil_of_mem m),e2]
noncomputable def fX (H:List D) (cs:List Nat):D:=.tup (cs.map (bG H))
theorem Fo {VD rd w acc:List D}{d r a:Int}{x:D}{z0 z1 z2 z3 z4 z6 z7 AZ:Option U}(h1:dj rd d=some (.int a)) (h2:dj VD r=some (.lst w)) (h3:dj w a=some x):
  bu [9,8,5] bA (eF (eP qC (aa (aV 3 (eF (ak 1))) (aa (aV 0 (eF (ak 2))) aA)))) [.tup rd] [z0,z1,z2,z3,z4,some (.m (.lst VD)),z6,z7,some (.t (.int d)),some (.t (.int r)),AZ] acc=some (acc++[x],[z0,z1,z2,z3,z4,some (.m (.lst VD)),z6,z7,some (.t (.int d)),some (.t (.int r)),AZ]):=by
 simp[bu,dR,jq,h1,h2,h3,aN]
theorem LR {W:Nat}{N:List (List Int)}{M:List D}{Rs:List (List Nat)}{cs:List Nat}{c k:Nat}(mo:Sq.bR W N) (hc:c < W) (hk:Rs[k]? =some cs){z0 z1 z2 z3 z4 z6 z7 AZ:Option U}:
  bu [9,8,5] bA (eF (eP qC (aa (aV 3 (eF (ak 1))) (aa (aV 0 (eF (ak 2))) aA)))) (N.map Sq.aY) [z0,z1,z2,z3,z4,some (.m (.lst (Rs.map fun cs=>.lst (eB N M cs)))),z6,z7,some (.t (.int c)),some (.t (.int k)),AZ] []=some (eB N M (c :: cs),[z0,z1,z2,z3,z4,some (.m (.lst (Rs.map fun cs=>.lst (eB N M cs)))),z6,z7,some (.t (.int c)),some (.t (.int k)),AZ]):=by
 have a1:dj (Rs.map fun cs=>D.lst (eB N M cs)) (k:Int)=some (.lst (eB N M cs)):=Sq.kL (Int.natCast_nonneg k) (by rw[Int.toNat_natCast,List.getElem?_map,hk];rfl)
 obtain⟨acc,S',e,rfl,rfl⟩:=wC (cap:=[9,8,5]) (g:=eF (eP qC (aa (aV 3 (eF (ak 1))) (aa (aV 0 (eF (ak 2))) aA)))) (N.map Sq.aY)
  (fun j acc S=>acc=(List.range j).map (fun s=>bG M (led (fT N) (c :: cs) s))/\S=[z0,z1,z2,z3,z4,some (.m (.lst (Rs.map fun cs=>.lst (eB N M cs)))),z6,z7,some (.t (.int c)),some (.t (.int k)),AZ]) _ ⟨rfl,rfl⟩ (by
  rintro j d acc S hd ⟨rfl,rfl⟩
  have hj:j < N.length:=by
   have:=(List.getElem?_eq_some_iff.mp hd).1
   rwa [List.length_map] at this
  rw[List.getElem?_map,rw_get hj] at hd
  have hd:D.tup ((rw' N j).map D.int)=d:=Option.some.inj hd
  subst hd
  refine⟨bG M (led (fT N) (c :: cs) j),_,Fo (mz mo hj hc) a1 (vc (fj mo hj hc).2),?_,rfl⟩
  rw[List.range_succ,List.map_append]
  rfl)
 rw[e,List.length_map]
 rfl
theorem yH {ns:List Nat}{c:Nat}(h:yE ns c):c<=ns.length:=by
 have:=List.nodup_range.length_le_of_subset (l₁:=List.range c) (l₂:=ns) fun v hv=>h.on v (List.mem_range.mp hv)
 rwa [List.length_range] at this
theorem yI {W:Nat}{N:List (List Int)}{M:List D}(mo:Sq.bR W N) (hM:M.length=N.length) (hw:∀x∈M,Wd x){cs:List Nat}{s:Nat}(hc:∀c∈cs,c < W) (hs:s < N.length):Wd (bG M (led (fT N) cs s)):=hw _ (gr (by rw[hM];exact o7 mo hc hs))
noncomputable def oF (N:List (List Int)) (M:List D) (ns:List Nat) (cs:List Nat):List Nat:=fu ((List.range N.length).map (wO ns N M cs))
theorem Fp {W:Nat}{N:List (List Int)}{M:List D}{ns cs:List Nat}(mo:Sq.bR W N) (hM:M.length=N.length) (hw:∀x∈M,Wd x) (hn:ns.length=N.length) (hc:∀c∈cs,c < W):
  jJ [.t (.lst (p6 (iD ns) (eB N M cs)))]=some (.m (.lst (iD (oF N M ns cs))),[]):=by
 have e:p6 (iD ns) (eB N M cs)=(List.range N.length).map fun s=>.tup [.int (na ns s:Nat),bG M (led (fT N) cs s)]:=by
  rw[IL hn,eB,zip_map]
 rw[e]
 have few:=mo.few
 have pos:=mo.pos
 refine IF (.inr rfl) ?_ (keys_map _ (wO ns N M cs) _ fun s hs=>?_) ?_
 ·intro h
  have:=congrArg List.length h
  rw[List.length_map,List.length_range,List.length_nil] at this
  omega
 ·have w:=yI mo hM hw hc (List.mem_range.mp hs)
  have k:d7 8 (.tup [.int (na ns s:Nat),bG M (led (fT N) cs s)])=true:=by
   show([D.int (na ns s:Nat),bG M (led (fT N) cs s)]).all (d7 7)=true
   simp only[List.all_cons,List.all_nil,LN w,Bool.and_true]
   rfl
  show(if d7 8 (.tup [.int (na ns s:Nat),bG M (led (fT N) cs s)])=true then some (nf (.tup [.int (na ns s:Nat),bG M (led (fT N) cs s)])) else none)=_
  rw[if_pos k]
  rfl
 ·rw[List.length_map,List.length_range];omega
theorem fin_eq {W:Nat}{N:List (List Int)}{M:List D}{ns cs:List Nat}(mo:Sq.bR W N) (hM:M.length=N.length) (hw:∀x∈M,Wd x) (hc:∀c∈cs,c < W){s t:Nat}(hs:s < N.length) (ht:t < N.length):
  na (oF N M ns cs) s=na (oF N M ns cs) t↔na ns s=na ns t/\bG M (led (fT N) cs s)=bG M (led (fT N) cs t):=by
 have get:∀i,i < N.length->((List.range N.length).map (wO ns N M cs))[i]? =some (wO ns N M cs i):=fun i hi=>by
  rw[List.getElem?_map,List.getElem?_range hi];rfl
 unfold oF
 rw[qk (get s hs) (get t ht)]
 unfold wO
 constructor
 ·intro h
  injection h with h
  injection h with h1 h2
  injection h1 with h1
  injection h2 with h2 _
  exact⟨Int.ofNat_inj.mp h1,LM (yI mo hM hw hc hs) (yI mo hM hw hc ht) h2⟩
 ·rintro⟨h1,h2⟩
  rw[h1,h2]
noncomputable abbrev M0:GT:=(qB (eF (eP HG (aa (eF (eP iW (aa (eF (eP nY (aa (eF (ak 6)) aA))) (aa (eC (.int 1)) aA)))) (aa (fV 1) aA)))))
noncomputable abbrev Fq (td:D) (N:List (List Int)) (M H:List D) (Rs:List (List Nat)) (u6:U) (y7 y8 y9 kT:Option U):SS:=[some (.t td),some (.t (.tup (N.map Sq.aY))),some (.t (.tup M)),some (.m (.lst H)),some (.m (.lst (Rs.map (fX H)))),some (.m (.lst (Rs.map fun cs=>.lst (eB N M cs)))),some u6,y7,y8,y9,kT]
noncomputable def yJ (N:List (List Int)) (M:List D) (W:Nat):Prop:=∃ns c,ns.length=N.length/\yE ns c/\c < N.length/\(∀s t,s < N.length->t < N.length->na ns s=na ns t->bG M s=bG M t)/\∀c,c < W->yF N ns c N.length
theorem zO {W : Nat} {N : List (List Int)} {M H : List D} {td : D} (mo : Sq.bR W N) (hW : W < 1000) (hM : M.length = N.length) (hw : ∀ x ∈ M, Wd x) (hH : H.length = W) :
    ∀(m:Nat) (Rs:List (List Nat)) (ns:List Nat) (c:Nat) (u6:U) (y7 y8 y9 kT:Option U),Pt N.length (fT N) (bG M) W Rs ns c->N.length < Rs.length+m->(u6= .m (.lst (iD ns))\/u6= .t (.lst (iD ns)))->iC y7=false->iC y8=false->iC y9=false->iC kT=false->
    (∃S,mK M0 (bO gj jJ dB dW) m (Fq td N M H Rs u6 y7 y8 y9 kT)=some (.rt (.t .bM) (some (.t td) :: some (.t (.tup (N.map Sq.aY))) :: some (.t (.tup M)) :: S))/\yJ N M W)\/
    ∃R5 ns' c' v6 z7 z8 z9 AZ,mK M0 (bO gj jJ dB dW) m (Fq td N M H Rs u6 y7 y8 y9 kT)=some (.nx (Fq td N M H R5 v6 z7 z8 z9 AZ))/\Pt N.length (fT N) (bG M) W R5 ns' c'/\N.length<=c'
  | 0,Rs,ns,c,u6,y7,y8,y9,kT,P,hm,_,_,_,_,_=>by
    have:=yH P.cls
    have:=P.few
    have:=P.len
    omega
  | m + 1, Rs, ns, c, u6, y7, y8, y9, kT, P, hm, h6, h7, h8, h9, h10 => by
    have few:=mo.few
    have pos:=mo.pos
    have We:=yH P.cls
    have Ux:=P.few
    have IP:=P.len
    have rpos:0 < Rs.length:=(List.getElem?_eq_some_iff.mp P.first).1
    have em:=IM P.cls (by omega)
    have q:=Fl (td:=td) (md:=.tup M) (aF:=N.map Sq.aY) (H:=H) (RD:=Rs.map (fX H)) (VD:=Rs.map fun cs=>.lst (eB N M cs)) (y7:=y7) (y8:=y8) (y9:=y9) (kT:=kT) h6 em
    have hq:decide ((((c - 1:Nat):Int))+1 < ((N.map Sq.aY).length:Nat))=decide (c < N.length):=by
      rw[List.length_map]
      exact decide_eq_decide.mpr ⟨fun h=>by omega,fun h=>by omega⟩
    rw[hq] at q
    unfold mK
    rw[show M0 (Fq td N M H Rs u6 y7 y8 y9 kT)=_ from q,Option.bind_some]
    by_cases hc:c < N.length
    . rw[decide_eq_true hc]
      simp only[if_true]
      rcases Dk mo hW IP with⟨es,sm⟩ | ⟨f,g,d,es,sp⟩
      . left
        obtain⟨S,e⟩:=Fi (f1:=gj) (f2:=jJ) (f3:=dB) (f4:=dW) (td:=td) (md:=.tup M) (H:=H) (RD:=Rs.map (fX H)) (VD:=Rs.map fun cs=>.lst (eB N M cs)) (y8:=y8) (y9:=y9) (kT:=kT) h7 es
        rw[e]
        refine⟨S,rfl,ns,c,IP,P.cls,hc,fun s t hs ht e=>?_,sm⟩
        exact(P.eqv s t hs ht).mp e [] (List.mem_of_getElem? P.first)
      . have R6:=fj mo sp.hf sp.hc
        have nb:=fj mo sp.hg sp.hc
        obtain⟨k,Wf,hk,Uy⟩:=P.unlike R6.2 nb.2 sp.ne
        obtain⟨r,cs,hr,ne,ef⟩:=Dm (V:=Rs.map fun cs=>.lst (eB N M cs)) mo hM hw rfl P.cols R6.2 nb.2 hk (by omega) Uy
        have hcs:=P.cols cs (List.mem_of_getElem? hr)
        have hcl:cs.length<=r:=P.short r cs hr
        have hrl:=(List.getElem?_eq_some_iff.mp hr).1
        have hds:∀x∈d :: cs,x < W:=fun x hx=>by
          rcases List.mem_cons.mp hx with rfl | hx
          . exact sp.hc
          . exact hcs x hx
        have e6:dj (Rs.map (fX H)) (r:Int)=some (.tup (cs.map (bG H))):=Sq.kL (Int.natCast_nonneg r) (by rw[Int.toNat_natCast,List.getElem?_map,hr];rfl)
        have z:=Fj (f1:=gj) (f2:=jJ) (f3:=dB) (f4:=dW) (td:=td) (md:=.tup M) (H:=H) (RD:=Rs.map (fX H)) (y7:=y7) (y8:=y8) (y9:=y9) (kT:=kT) h7 h8 h9 h10 es (mq sp.hf) (mz mo sp.hf sp.hc) (mq sp.hg) (mz mo sp.hg sp.hc) ef (wN (by rw[hH];exact sp.hc)) e6 (by rw[List.length_map];omega) (by rw[List.length_map];omega) (by rw[List.length_map];omega) (by rw[List.length_map];omega)
          (fun z4 AZ=>LR mo sp.hc hr) (Fp mo hM hw IP hds)
        rw[z,Option.bind_some]
        have P':Pt N.length (fT N) (bG M) W (Rs++[d :: cs]) (oF N M ns (d :: cs)) _:=P.step (oB _) (by rw[oA,List.length_map,List.length_range]) sp.hf sp.hg sp.hc sp.eq hr ne fun s t hs ht=>fin_eq mo hM hw hds hs ht
        have:=zO (td:=td) mo hW hM hw hH m (Rs++[d :: cs]) (oF N M ns (d :: cs)) _ (.m (.lst (iD (oF N M ns (d :: cs))))) (some (.t (.tup [.int f,.int g,.int d]))) (some (.t (.int d))) (some (.t (.int r))) (some (.t (.lst (eB N M (d :: cs))))) P' (by rw[List.length_append,List.length_singleton];omega) (.inl rfl) rfl rfl rfl rfl
        rw[show Fq td N M H (Rs++[d :: cs]) (.m (.lst (iD (oF N M ns (d :: cs))))) (some (.t (.tup [.int f,.int g,.int d]))) (some (.t (.int d))) (some (.t (.int r))) (some (.t (.lst (eB N M (d :: cs)))))=[some (.t td),some (.t (.tup (N.map Sq.aY))),some (.t (.tup M)),some (.m (.lst H)),some (.m (.lst (Rs.map (fX H)++[.tup (bG H d :: cs.map (bG H))]))),some (.m (.lst ((Rs.map fun cs=>.lst (eB N M cs))++[.lst (eB N M (d :: cs))]))),some (.m (.lst (iD (oF N M ns (d :: cs))))),some (.t (.tup [.int f,.int g,.int d])),some (.t (.int d)),some (.t (.int r)),some (.t (.lst (eB N M (d :: cs))))] by
          unfold Fq
          rw[List.map_append,List.map_append]
          rfl] at this
        exact this
    . rw[decide_eq_false hc]
      exact .inr ⟨Rs,ns,c,_,y7,y8,y9,kT,rfl,P,by omega⟩
noncomputable def wQ:FM:=bJ 11 (bN gj jJ dB dW)
theorem Dn:∀us r,wQ us=some r->bJ 11 (bN gj jJ dB dW) us=some r:=fun _ _ h=>h
theorem Ft {W:Nat}{N:List (List Int)}{M:List D}(mo:Sq.bR W N) (hM:M.length=N.length) (hw:∀x∈M,Wd x):Pt N.length (fT N) (bG M) W [[]] (fu (M.map yG)) (kR [] (M.map yG)).length where
  first:=rfl
  cols:=fun cs h d hd=>by rw[List.mem_singleton.mp h] at hd;cases hd
  short:=fun k cs h=>by
    cases k with
    | zero=>cases h;exact Nat.le_refl _
    | succ k=>cases h
  len:=by rw[oA,List.length_map,hM]
  cls:=oB _
  eqv := fun s t hs ht => by
    have get:∀i,i < N.length->(M.map yG)[i]? =some (yG (bG M i)):=fun i hi=>by
      rw[List.getElem?_map,ku (by omega)];rfl
    rw[qk (get s hs) (get t ht)]
    constructor
    . intro h cs hcs
      rw[List.mem_singleton.mp hcs]
      exact Fe (hw (bG M s) (gr (by omega))) (hw (bG M t) (gr (by omega))) h
    . intro h
      have:=h [] List.mem_cons_self
      rw[show bG M s=bG M t from this]
  few:=by
    have pos:=mo.pos
    have m:yG (bG M 0)∈kR [] (M.map yG):=jQ.mpr (.inr (List.mem_map_of_mem (gr (by omega))))
    exact List.length_pos_of_mem m
theorem Fv {T:List (Str×Int)}{N:List (List Int)}{M:List D}(hT:T.length<=4) (hp:∀p∈T,ig p) (mo:Sq.bR (cH T).length N) (hM:M.length=N.length) (hw:∀x∈M,Wd x):
  (wQ [.t (aP T),.t (nD N),.t (.tup M)]=some (.t .bM,[])/\yJ N M (cH T).length)\/
  ∃Rs ns c,wQ [.t (aP T),.t (nD N),.t (.tup M)]=some (.t (.tup (Rs.map (fX ((cH T).map dZ)))),[])/\Pt N.length (fT N) (bG M) (cH T).length Rs ns c/\N.length<=c:=by
 have few:=mo.few
 have hl:=lH hp
 have e0:=C5 hT hp
 have e3:=IE (sd:=.tup M) (ds:=M) (ks:=M.map yG) (.inl rfl) (by rw[List.map_map];exact List.map_congr_left fun x hx=>LO (hw x hx)) (by omega)
 generalize hH:(cH T).map dZ=H at e0
 have Uz:H.length=(cH T).length:=by rw[<-hH,List.length_map]
 have t0:eB N M []=M:=by
  unfold eB
  apply List.ext_getElem?
  intro i
  rw[List.getElem?_map]
  by_cases c:i < N.length
  ·rw[List.getElem?_range c,ku (by omega)];rfl
  ·rw[List.getElem?_eq_none (l:=M) (by omega),List.getElem?_eq_none (by rw[List.length_range];omega)];rfl
 generalize hnd:nD N=nd
 have s0:O9 gj jJ dB dW [some (.t (aP T)),some (.t nd),some (.t (.tup M)),none,none,none,none,none,none,none,none]=some (.nx [some (.t (aP T)),some (.t nd),some (.t (.tup M)),some (.m (.lst H)),none,none,none,none,none,none,none]):=by
  generalize aP T=td at e0
  generalize gj=f1 at e0
  simp[O9,e0]
 have s1:Pa gj jJ dB dW [some (.t (aP T)),some (.t nd),some (.t (.tup M)),some (.m (.lst H)),none,none,none,none,none,none,none]=some (.nx [some (.t (aP T)),some (.t nd),some (.t (.tup M)),some (.m (.lst H)),some (.m (.lst [.tup []])),none,none,none,none,none,none]):=by
  generalize aP T=td
  simp[Pa]
 have s2:Pb gj jJ dB dW [some (.t (aP T)),some (.t nd),some (.t (.tup M)),some (.m (.lst H)),some (.m (.lst [.tup []])),none,none,none,none,none,none]=some (.nx [some (.t (aP T)),some (.t nd),some (.t (.tup M)),some (.m (.lst H)),some (.m (.lst [.tup []])),some (.m (.lst [.lst M])),none,none,none,none,none]):=by
  generalize aP T=td
  simp[Pb]
 have s3:Pc gj jJ dB dW [some (.t (aP T)),some (.t nd),some (.t (.tup M)),some (.m (.lst H)),some (.m (.lst [.tup []])),some (.m (.lst [.lst M])),none,none,none,none,none]=some (.nx [some (.t (aP T)),some (.t nd),some (.t (.tup M)),some (.m (.lst H)),some (.m (.lst [.tup []])),some (.m (.lst [.lst M])),some (.m (.lst (iD (fu (M.map yG))))),none,none,none,none]):=by
  generalize aP T=td
  generalize jJ=f2 at e3
  simp[Pc,e3]
 subst hnd
 have w:=zO (td:=aP T) mo (by omega) hM hw Uz 100000 [[]] (fu (M.map yG)) _ (.m (.lst (iD (fu (M.map yG))))) none none none none (Ft mo hM hw) (by simp;omega) (.inl rfl) rfl rfl rfl rfl
 have es:Fq (aP T) N M H [[]] (.m (.lst (iD (fu (M.map yG))))) none none none none=[some (.t (aP T)),some (.t (nD N)),some (.t (.tup M)),some (.m (.lst H)),some (.m (.lst [.tup []])),some (.m (.lst [.lst M])),some (.m (.lst (iD (fu (M.map yG))))),none,none,none,none]:=by
  unfold Fq
  rw[List.map_singleton,List.map_singleton,t0]
  rfl
 rw[es] at w
 rcases w with⟨S,e,np⟩ | ⟨Rs,ns,c,v6,z7,z8,z9,AZ,e,P,hc⟩
 ·left
  refine⟨?_,np⟩
  have all:bN gj jJ dB dW [some (.t (aP T)),some (.t (nD N)),some (.t (.tup M)),none,none,none,none,none,none,none,none]=some (.rt (.t .bM) (some (.t (aP T)) :: some (.t (.tup (N.map Sq.aY))) :: some (.t (.tup M)) :: S)):=by
   rw[Gz,Sq.bB s0,Sq.bB s1,Sq.bB s2,Sq.bB s3,yq]
   show(mK M0 (bO gj jJ dB dW) 100000 _).bind _=_
   rw[e]
   rfl
  show(bN gj jJ dB dW [some (.t (aP T)),some (.t (nD N)),some (.t (.tup M)),none,none,none,none,none,none,none,none]).bind _=_
  rw[all]
  rfl
 ·right
  refine⟨Rs,ns,c,?_,P,hc⟩
  have all:∃S,bN gj jJ dB dW [some (.t (aP T)),some (.t (nD N)),some (.t (.tup M)),none,none,none,none,none,none,none,none]=some (.rt (.t (.tup (Rs.map (fX H)))) (some (.t (aP T)) :: some (.t (.tup (N.map Sq.aY))) :: some (.t (.tup M)) :: S)):=by
   rw[Gz,Sq.bB s0,Sq.bB s1,Sq.bB s2,Sq.bB s3,Sq.bB (show RX gj jJ dB dW _=_ from e)]
   generalize aP T=td
   exact⟨_,by simp[RY,Fq];rfl⟩
  obtain⟨S,all⟩:=all
  show(bN gj jJ dB dW [some (.t (aP T)),some (.t (nD N)),some (.t (.tup M)),none,none,none,none,none,none,none,none]).bind _=_
  rw[all]
  rfl
noncomputable def bw:GS:=
 (aQ (jm (eT (pR 1 (eF (ak 3)) (fV 1))))
 (jm (eT (eM 2 hAppend (aa (aV 1 (eF (ak 3))) aA)))))
noncomputable def o8:GS:=
 (aQ (jm (eT (pR 1 (eF (ak 3)) (fV 1))))
 (jm (eT (eM 2 hAppend (aa (aV 1 (eF (ak 3))) aA)))))
noncomputable def bD:GS:=
 (Gu (aQ (bz 1 nU)
 (aQ (bz 2 (eP iu aA))
 (aQ (iR (bName 3) (gF (eF (ak 0))) (bw))
 (d8 (ak 2)))))
 (aQ (bz 1 zx)
 (aQ (bz 2 (eP iu aA))
 (aQ (iR (bName 3) (gF (eF (ak 0))) (o8))
 (d8 (ak 2))))))
noncomputable def jS:FM:=bJ 4 bD
theorem Dp:∀us r,jS us=some r->bJ 4 bD us=some r:=fun _ _ h=>h
section
variable {κ:Type} [DecidableEq κ] {mk:List (κ×D)->MO}{ky:D->Option κ}
noncomputable def o9 (acc:List κ) (k:κ):List κ:=if k∈acc then acc else acc++[k]
theorem Dq (acc:List κ) (k:κ):k∈o9 acc k:=by
 unfold o9
 split
 ·assumption
 ·simp
theorem Dr (acc:List κ) (k:κ):(o9 acc k).length<=acc.length+1:=by
 unfold o9
 split
 ·omega
 ·rw[List.length_append,List.length_singleton];omega
theorem IQ (K:Kk mk ky){d:D}{k:κ}{acc:List κ}(h:ky d=some k) (hl:acc.length < 1000):∃e,AK (mk (ent 0 acc)) d (.int (acc.length:Nat))=some (e,mk (ent 0 (o9 acc k))):=by
 rw[K.df _ _ _ _ h (by rw[oE];omega)]
 unfold o9
 by_cases m:k∈acc
 ·rw[mj m,if_pos m];exact⟨_,rfl⟩
 ·rw[jR 0 m,if_neg m,zM m];exact⟨_,rfl⟩
theorem Ds {sd d e v:D}{o o':MO}{out:List D}{n:Nat}(hd:qO (.m o)=true) (hn:rY (.m o)=some n) (h1:AK o d (.int (n:Nat))=some (e,o')) (h2:jw (.m o') d=some v) (hl:out.length < 100000):
  bw [some (.t sd),some (.m o),some (.m (.lst out)),some (.t d)]=some (.nx [some (.t sd),some (.m o'),some (.m (.lst (out++[v]))),some (.t d)]):=by
 simp[bw,pR,hd,hn,h1,h2,hl,jH,zj,hAppend]
theorem zP (K:Kk mk ky){sd:D}:∀(ds:List D) (ks:List κ) (acc:List κ) (out:List D) (x:Option U),ds.map ky=ks.map some->acc.length+ds.length < 1000->out.length+ds.length < 1000->iC x=false->
    ∃x',loop (bName 3) bw ds [some (.t sd),some (.m (mk (ent 0 acc))),some (.m (.lst out)),x]=some (.nx [some (.t sd),some (.m (mk (ent 0 (kR acc ks)))),some (.m (.lst (out++iD (ks.map fun k=>(kR acc ks).idxOf k)))),x'])
  | [],ks,acc,out,x,h,_,_,_=>by
    cases ks with
    | nil=>exact⟨x,by simp[loop,iD,kR]⟩
    | cons=>cases h
  | d :: ds, ks, acc, out, x, h, hl, ho, hx => by
    cases ks with
    | nil=>cases h
    | cons k ks=>
      have hl:acc.length+(ds.length+1) < 1000:=hl
      have ho:out.length+(ds.length+1) < 1000:=ho
      injection h with h1 h2
      have hm:=Dq acc k
      have hle:=Dr acc k
      obtain⟨x',e⟩:=zP K (sd:=sd) ds ks (o9 acc k) (out++[D.int (((o9 acc k).idxOf k:Nat):Int)]) (some (.t d)) h2 (by omega) (by rw[List.length_append,List.length_singleton];omega) rfl
      refine⟨x',?_⟩
      obtain⟨e0,df⟩:=IQ K h1 (show acc.length < 1000 by omega)
      have rd:=K.rd (ent 0 (o9 acc k)) d k h1
      rw[mj hm] at rd
      have R7:=K.ln (ent 0 acc)
      rw[oE] at R7
      have ew:=Ds (sd:=sd) (out:=out) (K.dc (ent 0 acc)) R7 df rd (by omega)
      have eb:bName 3 d [some (.t sd),some (.m (mk (ent 0 acc))),some (.m (.lst out)),x]=some [some (.t sd),some (.m (mk (ent 0 acc))),some (.m (.lst out)),some (.t d)]:=by simp[-dU,cG,hx]
      rw[gR,eb,Option.bind_some,ew,Option.bind_some]
      refine e.trans ?_
      obtain⟨r,er⟩:=zJ ks (o9 acc k)
      have ei:(kR (o9 acc k) ks).idxOf k=(o9 acc k).idxOf k:=by rw[er,List.idxOf_append,if_pos hm]
      have ed:kR acc (k :: ks)=kR (o9 acc k) ks:=rfl
      rw[ed,List.map_cons,ei]
      simp[iD]
theorem zQ (K:Kk mk ky){sd:D}{ds:List D}{ks:List κ}(hs:sd= .tup ds\/sd= .lst ds) (hk:ds.map ky=ks.map some) (hl:ds.length < 1000):
  ∃a S,(aQ (bz 2 (eP iu aA)) (aQ (iR (bName 3) (gF (eF (ak 0))) (bw)) (d8 (ak 2)))) [some (.t sd),some (.m (mk [])),none,none]=some (.rt (.m (.lst (iD (fu ks)))) (a :: S)):=by
 obtain⟨x,e⟩:=zP K (sd:=sd) ds ks [] [] none hk (by simpa using hl) (by simpa using hl) rfl
 replace e:loop (bName 3) bw ds [some (.t sd),some (.m (mk [])),some (.m (.lst [])),none]=_:=e
 rw[List.nil_append] at e
 rcases hs with rfl | rfl
 ·exact⟨_,_,by simp[iY,e,fu];exact⟨rfl,rfl⟩⟩
 ·exact⟨_,_,by simp[iY,e,fu];exact⟨rfl,rfl⟩⟩
end
theorem Fw {sd:D}{ds:List D}{ks:List Key}(hs:sd= .tup ds\/sd= .lst ds) (hk:ds.map keyOf=ks.map some) (hl:ds.length < 1000):jS [.t sd]=some (.m (.lst (iD (fu ks))),[]):=by
 obtain⟨a,S,e⟩:=zQ Fb hs hk hl
 have eg:bD [some (.t sd),none,none,none]=some (.rt (.m (.lst (iD (fu ks)))) (a :: S)):=by
  unfold bD Gu
  rw[show(aQ (bz 1 nU) (aQ (bz 2 (eP iu aA)) (aQ (iR (bName 3) (gF (eF (ak 0))) (bw)) (d8 (ak 2))))) [some (.t sd),none,none,none]=some (.rt (.m (.lst (iD (fu ks)))) (a :: S)) from e]
  rfl
 show(bD [some (.t sd),none,none,none]).bind _=_
 rw[eg]
 rfl
theorem Fx {sd : D} {ds : List D} {ks : List D} (hs : sd = .tup ds \/ sd = .lst ds) (h0 : ds ≠ []) (hk : ds.map jW = ks.map some) (hl : ds.length < 1000) : jS [.t sd] = some (.m (.lst (iD (fu ks))), []) := by
  obtain⟨a,S,e⟩:=zQ LK hs hk hl
  have no : (aQ (bz 1 nU) (aQ (bz 2 (eP iu aA)) (aQ (iR (bName 3) (gF (eF (ak 0))) (bw)) (d8 (ak 2))))) [some (.t sd), none, none, none] = none := by
    cases ds with
    | nil=>exact absurd rfl h0
    | cons d ds=>
      cases ks with
      | nil=>cases hk
      | cons k ks=>
        injection hk with h1 h2
        cases d with
        | tup zs=>
          have ew:bw [some (.t sd),some (.m (.dct [])),some (.m (.lst [])),some (.t (.tup zs))]=none:=rfl
          have el:loop (bName 3) bw (.tup zs :: ds) [some (.t sd),some (.m (.dct [])),some (.m (.lst [])),none]=none:=by
            rw[gR,show bName 3 (.tup zs) [some (.t sd),some (.m (.dct [])),some (.m (.lst [])),none]=some [some (.t sd),some (.m (.dct [])),some (.m (.lst [])),some (.t (.tup zs))] from rfl,Option.bind_some,ew]
            rfl
          rcases hs with rfl | rfl <;> simp[iY,el]
        | _=>cases h1
  have eg:bD [some (.t sd),none,none,none]=some (.rt (.m (.lst (iD (fu ks)))) (a :: S)):=by
    unfold bD Gu
    rw[no]
    exact e
  show(bD [some (.t sd),none,none,none]).bind _=_
  rw[eg]
  rfl
noncomputable def jc:List D:=[.bl true,.bl false,.str "yes",.str "no",.str "open",.str "True",.str ""]
noncomputable def aw (i:Nat):D:=jc.getD i .bM
noncomputable def mR (d:D):Str:=(toPy d).shown
theorem IS:∀i j:Fin 7,mR (aw i)=mR (aw j)->i=j:=by decide +kernel
theorem Fy:∀i:Fin 7,44∉(mR (aw i)).cps.toList:=by decide +kernel
theorem yK {d:D}(h:d∈jc):∃i:Fin 7,d=aw i:=by
 obtain⟨i,hi,e⟩:=List.getElem_of_mem h
 refine⟨⟨i,hi⟩,?_⟩
 unfold aw
 rw[List.getD_eq_getElem?_getD,List.getElem?_eq_getElem hi,e]
 rfl
theorem Dt {a b:D}(ha:a∈jc) (hb:b∈jc) (h:mR a=mR b):a=b:=by
 obtain⟨i,rfl⟩:=yK ha
 obtain⟨j,rfl⟩:=yK hb
 rw[IS i j h]
theorem zR {a:D}(ha:a∈jc):44∉(mR a).cps.toList:=by
 obtain⟨i,rfl⟩:=yK ha
 exact Fy i
theorem LS {a:D}(ha:a∈jc):Wd a:=by
 unfold jc at ha
 simp only[List.mem_cons,List.not_mem_nil,or_false] at ha
 rcases ha with rfl | rfl | rfl | rfl | rfl | rfl | rfl
 ·exact .inl ⟨_,rfl⟩
 ·exact .inl ⟨_,rfl⟩
 all_goals exact .inr ⟨_,rfl⟩
theorem Du:∀z∈(["yes","no","open","True",""]:List Str),(z.cps.toList.all fun c=>decide (c < 16 ^ 8))=true/\z.length<=4:=by decide +kernel
theorem zS {a:D}(ha:a∈jc):Sane a/\wD a<=42/\iS a=0:=by
 have str:∀z∈(["yes","no","open","True",""]:List Str),Sane (.str z)/\wD (.str z)<=42/\iS (.str z)=0:=fun z hz=>by
  obtain⟨h1,h2⟩:=Du z hz
  refine⟨fun c hc=>?_,?_,rfl⟩
  ·exact of_decide_eq_true (List.all_eq_true.mp h1 c hc)
  ·show 10 * z.length+2<=42;omega
 unfold jc at ha
 simp only[List.mem_cons,List.not_mem_nil,or_false] at ha
 rcases ha with rfl | rfl | rfl | rfl | rfl | rfl | rfl
 ·exact⟨True.intro,by show 6<=42;omega,rfl⟩
 ·exact⟨True.intro,by show 6<=42;omega,rfl⟩
 all_goals exact str _ (by simp)
theorem zT:∀{ds:List D},(∀d∈ds,d∈jc)->ud ds/\DP ds<=44 * ds.length/\bH ds=0
 | [],_=>⟨True.intro,Nat.le_refl _,rfl⟩
 | d :: ds,h=>by
  obtain⟨a1,a2,a3⟩:=zS (h d List.mem_cons_self)
  obtain⟨b1,b2,b3⟩:=zT (ds:=ds) fun e he=>h e (List.mem_cons_of_mem _ he)
  refine⟨⟨a1,b1⟩,?_,?_⟩
  ·show wD d+2+DP ds<=44 * (ds.length+1);omega
  ·show max (iS d) (bH ds)=0;omega
theorem wR {d:D}(h:Gn d):mL [d]=some (.t (.str (mR d))):=by show(if Gn d then some (U.t (.str (toPy d).shown)) else none)=_;rw[if_pos h];rfl
theorem IT {d:D}(h:d∈jc):mL [d]=some (.t (.str (mR d))):=by
 obtain⟨a1,a2,a3⟩:=zS h
 exact wR (CW a1 (by omega) (by omega))
theorem Fz {ds:List D}(h:∀d∈ds,d∈jc) (hl:ds.length<=100):mL [.lst ds]=some (.t (.str (mR (.lst ds)))):=by
 obtain⟨a1,a2,a3⟩:=zT h
 exact wR (CW (d:=.lst ds) a1 (by show DP ds+4<=_;omega) (by show bH ds+1<=20;omega))
theorem Dv {c:Nat}:∀{a b r s:List Nat},c∉a->c∉b->a++c :: r=b++c :: s->a=b/\r=s
 | [],[],r,s,_,_,h=>by cases h;exact⟨rfl,rfl⟩
 | [],y :: b,r,s,_,hb,h=>by cases h;exact absurd List.mem_cons_self hb
 | x :: a,[],r,s,ha,_,h=>by cases h;exact absurd List.mem_cons_self ha
 | x :: a,y :: b,r,s,ha,hb,h=>by
  injection h with h1 h2
  obtain⟨e1,e2⟩:=Dv (fun m=>ha (List.mem_cons_of_mem _ m)) (fun m=>hb (List.mem_cons_of_mem _ m)) h2
  rw[h1,e1]
  exact⟨rfl,e2⟩
theorem wU (a b:Str) (r:List Str):(Str.join ", " (a :: b :: r)).cps.toList=a.cps.toList++44 :: 32 :: (Str.join ", " (b :: r)).cps.toList:=by
 show(a++(", ":Str)++Str.join ", " (b :: r)).cps.toList=_
 have e:(", ":Str).cps.toList=[44,32]:=by decide +kernel
 rw[Str.cps_append,Str.cps_append,Array.toList_append,Array.toList_append,e]
 simp
theorem wV:∀{as bs:List Str},as.length=bs.length->(∀p∈as,44∉p.cps.toList)->(∀p∈bs,44∉p.cps.toList)->Str.join ", " as=Str.join ", " bs->as=bs
 | [],[],_,_,_,_=>rfl
 | [],_ :: _,h,_,_,_=>by cases h
 | _ :: _,[],h,_,_,_=>by cases h
 | [a],[b],_,_,_,h=>by rw[show a=b from h]
 | [a],b :: b2 :: r,h,_,_,_=>by simp at h
 | a :: a2 :: r,[b],h,_,_,_=>by simp at h
 | a :: a2 :: r,b :: b2 :: s,hl,ha,hb,h=>by
  have e:=congrArg (fun z:Str=>z.cps.toList) h
  rw[wU,wU] at e
  obtain⟨e1,e2⟩:=Dv (ha a List.mem_cons_self) (hb b List.mem_cons_self) e
  injection e2 with _ e2
  have q:Str.join ", " (a2 :: r)=Str.join ", " (b2 :: s):=Str.ext' (Array.toList_inj.mp e2)
  have ab:a=b:=Str.ext' (Array.toList_inj.mp e1)
  rw[ab,wV (by simpa using hl) (fun p hp=>ha p (List.mem_cons_of_mem _ hp)) (fun p hp=>hb p (List.mem_cons_of_mem _ hp)) q]
theorem pe:∀ds:List D,PyData.shownAll (fC ds)=ds.map mR
 | []=>rfl
 | d :: ds=>by
  have:=pe ds
  rw[shownAll_eq_map] at this ⊢
  show(toPy d).shown :: (fC ds).map PyData.shown=_
  rw[this]
  rfl
theorem FA {as bs:List D}(hl:as.length=bs.length) (ha:∀d∈as,d∈jc) (hb:∀d∈bs,d∈jc) (h:mR (.lst as)=mR (.lst bs)):as=bs:=by
 have e:("[":Str)++Str.join ", " (as.map mR)++"]" =("[":Str)++Str.join ", " (bs.map mR)++"]":=by
  rw[<-pe,<-pe,<-PyData.shown_list,<-PyData.shown_list]
  exact h
 have e2:Str.join ", " (as.map mR)=Str.join ", " (bs.map mR):=by
  have:=congrArg (fun z:Str=>z.cps.toList) e
  simp only[Str.cps_append,Array.toList_append] at this
  rw[List.append_cancel_right_eq,List.append_cancel_left_eq] at this
  exact Str.ext' (Array.toList_inj.mp this)
 have e3:=wV (by rw[List.length_map,List.length_map,hl]) (fun p hp=>by obtain⟨d,hd,rfl⟩:=List.mem_map.mp hp;exact zR (ha d hd)) (fun p hp=>by obtain⟨d,hd,rfl⟩:=List.mem_map.mp hp;exact zR (hb d hd)) e2
 clear h e e2
 induction as generalizing bs with
 | nil=>cases bs with
  | nil=>rfl
  | cons=>cases hl
 | cons a as ih=>cases bs with
  | nil=>cases hl
  | cons b bs=>
   injection e3 with h1 h2
   rw[Dt (ha a List.mem_cons_self) (hb b List.mem_cons_self) h1,ih (by simpa using hl) (fun d hd=>ha d (List.mem_cons_of_mem _ hd)) (fun d hd=>hb d (List.mem_cons_of_mem _ hd)) h2]
noncomputable def eG (aC:FM):GS:=
 (aQ (bz 4 (dP [2,0] (cU (aa (fV 0) aA)) bA (eF (eP lz (aa (aV 1 (eF (ak 0))) (aa (eF (eP gG (aa (eF (dP [1] (gF (aV 2 (eF (ak 0)))) bA (aV 1 (eF (ak 0))))) aA))) aA))))))
 (bz 2 (br aC (bq (eF (ak 4)) cz))))
noncomputable def cL (aC:FM):GS:=
 (aQ (bz 2 (br aC (bq (eF (dP [] (gF (eF (ak 1))) bA (eF (eP mL (aa (eF (ak 0)) aA))))) cz)))
 (aQ (iR (bName 3) (cU (aa (fV 0) aA)) (eG aC))
 (d8 (ak 2))))
noncomputable def Pk (aC:FM):GS:=
 (bz 2 (br aC (bq (eF (dP [] (gF (eF (ak 1))) bA (eF (eP mL (aa (eF (ak 0)) aA))))) cz)))
noncomputable def Pn (aC:FM):GS:=
 (iR (bName 3) (cU (aa (fV 0) aA)) (eG aC))
noncomputable def R8 (aC:FM):GS:=
 (d8 (ak 2))
theorem LU (aC:FM):cL aC=aQ (Pk aC) (aQ (Pn aC) (R8 aC)):=rfl
noncomputable def Po (aC:FM):GS:=
 (bz 4 (dP [2,0] (cU (aa (fV 0) aA)) bA (eF (eP lz (aa (aV 1 (eF (ak 0))) (aa (eF (eP gG (aa (eF (dP [1] (gF (aV 2 (eF (ak 0)))) bA (aV 1 (eF (ak 0))))) aA))) aA))))))
noncomputable def Pp (aC:FM):GS:=
 (bz 2 (br aC (bq (eF (ak 4)) cz)))
theorem cb_eq (aC:FM):eG aC=aQ (Po aC) (Pp aC):=rfl
noncomputable def M1:FM:=bJ 5 (cL jS)
theorem IU:∀us r,M1 us=some r->bJ 5 (cL jS) us=some r:=fun _ _ h=>h
noncomputable abbrev M3:GD:=aV 1 (eF (ak 0))
noncomputable abbrev FD:GD:=(eF (eP lz (aa (aV 1 (eF (ak 0))) (aa (eF (eP gG (aa (eF (dP [1] (gF (aV 2 (eF (ak 0)))) bA (aV 1 (eF (ak 0))))) aA))) aA))))
theorem FE {aW acc:List D}{v:Int}{x:D}{z0 z2:Option U}(h:dj aW v=some x):bu [1] bA M3 [.int v] [z0,some (.b (.lst aW)),z2] acc=some (acc++[x],[z0,some (.b (.lst aW)),z2]):=by
 simp[bu,dR,jq,h,aN]
noncomputable def fN (ns:List Nat):D->D
 | .int v=>.int (na ns v.toNat:Nat)
 | _=>.bM
theorem LV {W k:Nat}{N:List (List Int)}{ns:List Nat}{z0 z2:Option U}(mo:Sq.bR W N) (hn:ns.length=N.length) (hk:k < N.length):
  bu [1] bA M3 ((rw' N k).map D.int) [z0,some (.b (.lst (iD ns))),z2] []=some ((List.range W).map fun c=>D.int (na ns (fT N k c):Nat),[z0,some (.b (.lst (iD ns))),z2]):=by
 have:=comp_map (cap:=[1]) (g:=M3) (S:=[z0,some (.b (.lst (iD ns))),z2]) (fN ns) ((rw' N k).map D.int) [] (fun d hd acc=>by
  obtain⟨v,hv,rfl⟩:=List.mem_map.mp hd
  obtain⟨v0,v1⟩:=(mo.row _ (List.mem_of_getElem? (rw_get hk))).2 v hv
  refine FE ?_
  obtain⟨m,rfl⟩:∃m:Nat,v=m:=⟨v.toNat,by omega⟩
  rw[qU (by omega)]
  rfl)
 rw[this,List.nil_append,List.map_map]
 congr 2
 apply List.ext_getElem?
 intro c
 rw[List.getElem?_map,List.getElem?_map]
 by_cases q:c < W
 ·rw[(fj mo hk q).1,List.getElem?_range q]
  rfl
 ·rw[List.getElem?_eq_none (by rw[rw_len mo hk];omega),List.getElem?_eq_none (by rw[List.length_range];omega)]
  rfl
theorem Dw {aW aF rk outs acc:List D}{k nk:Int}{z1 z3 z4:Option U}(h1:dj aW k=some (.int nk)) (h2:dj aF k=some (.tup rk)) (hl:rk.length<=100000)
  (h3:∀z0 z2,bu [1] bA M3 rk [z0,some (.b (.lst aW)),z2] []=some (outs,[z0,some (.b (.lst aW)),z2])):
  bu [2,0] bA FD [.int k] [some (.t (.tup aF)),z1,some (.m (.lst aW)),z3,z4] acc=some (acc++[.tup [.int nk,.tup outs]],[some (.t (.tup aF)),z1,some (.m (.lst aW)),z3,z4]):=by
 simp[bu,dR,jq,h1,h2,iY,fH,hl,h3,aN]
noncomputable def kk (N:List (List Int)) (W:Nat) (ns:List Nat) (k:Nat):D:=.tup [.int (na ns k:Nat),.tup ((List.range W).map fun c=>D.int (na ns (fT N k c):Nat))]
theorem IV {W:Nat}{N:List (List Int)}{ns:List Nat}{z1 z3 z4:Option U}(mo:Sq.bR W N) (hW:W < 1000) (hn:ns.length=N.length):
  bu [2,0] bA FD (iA 0 N.length) [some (.t (.tup (N.map Sq.aY))),z1,some (.m (.lst (iD ns))),z3,z4] []=some ((List.range N.length).map (kk N W ns),[some (.t (.tup (N.map Sq.aY))),z1,some (.m (.lst (iD ns))),z3,z4]):=by
 obtain⟨acc,S',e,rfl,rfl⟩:=wC (cap:=[2,0]) (g:=FD) (iA 0 N.length)
  (fun j acc S=>acc=(List.range j).map (kk N W ns)/\S=[some (.t (.tup (N.map Sq.aY))),z1,some (.m (.lst (iD ns))),z3,z4]) _ ⟨rfl,rfl⟩ (by
  rintro j d acc S hd ⟨rfl,rfl⟩
  obtain⟨hj,rfl⟩:=ou hd
  refine⟨kk N W ns j,_,Dw (qU (by omega)) (mq hj) (by rw[List.length_map,rw_len mo hj];omega) (fun z0 z2=>LV mo hn hj),?_,rfl⟩
  rw[List.range_succ,List.map_append]
  rfl)
 rw[e,Sq.jP]
theorem wW:∀l:List Int,FQ (l.map D.int)=l.map D.int
 | []=>rfl
 | x :: l=>by show nf (.int x) :: FQ (l.map D.int)=_;rw[wW l];rfl
theorem IW (N:List (List Int)) (W:Nat) (ns:List Nat) (k:Nat):jW (kk N W ns k)=some (kk N W ns k):=by
 have e:(List.range W).map (fun c=>D.int (na ns (fT N k c):Nat))=((List.range W).map fun c=>((na ns (fT N k c):Nat):Int)).map D.int:=by rw[List.map_map];rfl
 unfold kk
 rw[e]
 generalize ((List.range W).map fun c=>((na ns (fT N k c):Nat):Int))=l
 generalize ((na ns k:Nat):Int)=a
 have al:(l.map D.int).all (d7 6)=true:=by
  rw[List.all_eq_true]
  intro x hx
  obtain⟨v,_,rfl⟩:=List.mem_map.mp hx
  rfl
 have k8:d7 8 (.tup [.int a,.tup (l.map D.int)])=true:=by
  show([D.int a,D.tup (l.map D.int)]).all (d7 7)=true
  simp only[List.all_cons,List.all_nil,Bool.and_true]
  show(true && (l.map D.int).all (d7 6))=true
  rw[al]
  rfl
 show(if d7 8 (.tup [.int a,.tup (l.map D.int)])=true then some (nf (.tup [.int a,.tup (l.map D.int)])) else none)=_
 rw[if_pos k8]
 show some (D.tup [.int a,.tup (FQ (l.map D.int))])=_
 rw[wW]
theorem LW {N:List (List Int)}{W:Nat}{ns:List Nat}{s t:Nat}:kk N W ns s=kk N W ns t↔na ns s=na ns t/\∀c,c < W->na ns (fT N s c)=na ns (fT N t c):=by
 unfold kk
 constructor
 ·intro h
  injection h with h
  injection h with h1 h2
  injection h1 with h1
  injection h2 with h2 _
  injection h2 with h2
  refine⟨Int.ofNat_inj.mp h1,fun c hc=>?_⟩
  have:=congrArg (fun l=>l[c]?) h2
  simp only[List.getElem?_map,List.getElem?_range hc,Option.map_some] at this
  injection this with this
  injection this with this
  exact Int.ofNat_inj.mp this
 ·rintro⟨h1,h2⟩
  rw[h1]
  congr 3
  congr 1
  exact List.map_congr_left fun c hc=>by rw[h2 c (List.mem_range.mp hc)]
noncomputable def next (N:List (List Int)) (W:Nat) (ns:List Nat):List Nat:=fu ((List.range N.length).map (kk N W ns))
theorem next_eq {N:List (List Int)}{W:Nat}{ns:List Nat}{s t:Nat}(hs:s < N.length) (ht:t < N.length):na (next N W ns) s=na (next N W ns) t↔na ns s=na ns t/\∀c,c < W->na ns (fT N s c)=na ns (fT N t c):=by
 have get:∀i,i < N.length->((List.range N.length).map (kk N W ns))[i]? =some (kk N W ns i):=fun i hi=>by
  rw[List.getElem?_map,List.getElem?_range hi];rfl
 unfold next
 rw[qk (get s hs) (get t ht),LW]
theorem Dy {N:List (List Int)}{W:Nat}{ns:List Nat}(mo:Sq.bR W N):jS [.t (.lst ((List.range N.length).map (kk N W ns)))]=some (.m (.lst (iD (next N W ns))),[]):=by
 have few:=mo.few
 have pos:=mo.pos
 refine Fx (.inr rfl) ?_ ?_ ?_
 ·intro h
  have:=congrArg List.length h
  rw[List.length_map,List.length_range,List.length_nil] at this
  omega
 ·rw[List.map_map,List.map_map]
  exact List.map_congr_left fun k _=>IW N W ns k
 ·rw[List.length_map,List.length_range];omega
theorem Dz {aF:List D}{z:List (Option U)}(hl:aF.length < 1000):cU (aa (fV 0) aA) (some (.t (.tup aF)) :: z)=some (iA 0 aF.length,some (.t (.tup aF)) :: z):=by
 have e:(aa (fV 0) aA) (some (.t (.tup aF)) :: z)=some ([.int (aF.length:Nat)],some (.t (.tup aF)) :: z):=by simp
 have hb:aF.length < 1000000:=by omega
 rw[Sq.kr e (Int.ofNat_lt.mpr hb) (Sq.uX _),Int.toNat_natCast]
section
variable {f:FM}{aF aW firsts qW:List D}{z1 x3 x4:Option U}
theorem FF (h4:iC x4=false) (hl:aF.length < 1000) (e1:∀y3 y4,bu [2,0] bA FD (iA 0 aF.length) [some (.t (.tup aF)),z1,some (.m (.lst aW)),y3,y4] []=some (firsts,[some (.t (.tup aF)),z1,some (.m (.lst aW)),y3,y4])) (e2:f [.t (.lst firsts)]=some (.m (.lst qW),[])):
  eG f [some (.t (.tup aF)),z1,some (.m (.lst aW)),x3,x4]=some (.nx [some (.t (.tup aF)),z1,some (.m (.lst qW)),x3,some (.t (.lst firsts))]):=by
 have g:=fun z=>Dz (z:=z) hl
 have hz:(iA 0 aF.length).length<=100000:=by rw[Sq.jP];omega
 rw[cb_eq]
 have s0:Po f [some (.t (.tup aF)),z1,some (.m (.lst aW)),x3,x4]=some (.nx [some (.t (.tup aF)),z1,some (.m (.lst aW)),x3,some (.m (.lst firsts))]):=by
  simp[-dU,-qi,cG,Po,fH,g,hz,e1,h4]
 have s1:Pp f [some (.t (.tup aF)),z1,some (.m (.lst aW)),x3,some (.m (.lst firsts))]=some (.nx [some (.t (.tup aF)),z1,some (.m (.lst qW)),x3,some (.t (.lst firsts))]):=by
  simp[Pp,e2]
 rw[Sq.bB s0,s1]
end
theorem LX {W : Nat} {N : List (List Int)} {M : List D} (mo : Sq.bR W N) (hW : W < 1000) (hM : M.length = N.length) (hw : ∀ x ∈ M, x ∈ jc) :
    ∃ns c,M1 [.t (nD N),.t (.tup M)]=some (.m (.lst (iD ns)),[])/\ns.length=N.length/\yE ns c/\∀s t,s < N.length->t < N.length->(na ns s=na ns t↔Gx (fT N) (bG M) W N.length s t):=by
  have few:=mo.few
  have hr:(N.map Sq.aY).length < 1000:=by rw[List.length_map];omega
  have ec:=comp_map (cap:=[]) (g:=eF (eP mL (aa (eF (ak 0)) aA))) (S:=[some (.t (nD N)),some (.t (.tup M)),none,none,none]) (fun d=>.str (mR d)) M [] (fun d hd acc=>by
    have:=IT (hw d hd)
    simp[bu,dR,this,aN])
  rw[List.nil_append] at ec
  have e1:=Fw (sd:=.lst (M.map fun d=>.str (mR d))) (ds:=M.map fun d=>.str (mR d)) (ks:=M.map fun d=>Sum.inr (mR d)) (.inr rfl) (by rw[List.map_map,List.map_map];rfl) (by rw[List.length_map];omega)
  have O6:M.length<=100000:=by omega
  have s0:Pk jS [some (.t (nD N)),some (.t (.tup M)),none,none,none]=some (.nx [some (.t (nD N)),some (.t (.tup M)),some (.m (.lst (iD (fu (M.map fun d=>(Sum.inr (mR d):Key)))))),none,none]):=by
    generalize jS=f at e1
    generalize nD N=nd at ec
    simp[Pk,iY,fH,O6,ec,e1]
  obtain⟨S',e,ns,c,x3,x4,h3,h4,hl,hc,heq,rfl⟩:=qT (bd:=bName 3) (body:=eG jS) (iA 0 N.length)
    (fun j S=>∃ns c x3 x4,iC x3=false/\iC x4=false/\ns.length=N.length/\yE ns c/\(∀s t,s < N.length->t < N.length->(na ns s=na ns t↔Gx (fT N) (bG M) W j s t))/\S=[some (.t (nD N)),some (.t (.tup M)),some (.m (.lst (iD ns))),x3,x4])
    [some (.t (nD N)),some (.t (.tup M)),some (.m (.lst (iD (fu (M.map fun d=>(Sum.inr (mR d):Key)))))),none,none]
    ⟨_, _, none, none, rfl, rfl, by rw [oA, List.length_map, hM], oB _, fun s t hs ht => by
      have get:∀i,i < N.length->(M.map fun d=>(Sum.inr (mR d):Key))[i]? =some (Sum.inr (mR (bG M i))):=fun i hi=>by
        rw[List.getElem?_map,ku (by omega)];rfl
      rw[qk (get s hs) (get t ht)]
      constructor
      . intro h
        injection h with h
        exact Dt (hw _ (gr (by omega))) (hw _ (gr (by omega))) h
      . intro h
        rw[show bG M s=bG M t from h],rfl⟩ (by
    rintro j d S hd ⟨ns,c,x3,x4,h3,h4,hl,hc,heq,rfl⟩
    obtain⟨hj,rfl⟩:=ou hd
    refine⟨[some (.t (nD N)),some (.t (.tup M)),some (.m (.lst (iD ns))),some (.t (.int j)),x4],_,?_,FF (f:=jS) h4 hr (fun y3 y4=>by rw[List.length_map];exact IV mo hW hl) (Dy mo),next N W ns,_,some (.t (.int j)),_,rfl,rfl,by unfold next;rw[oA,List.length_map,List.length_range],oB _,fun s t hs ht=>?_,rfl⟩
    . generalize (j:Int)=jj
      simp[-dU,cG,h3]
    . rw[next_eq hs ht,heq s t hs ht]
      constructor
      . rintro⟨a,b⟩
        exact⟨a,fun c hc=>(heq _ _ (fj mo hs hc).2 (fj mo ht hc).2).mp (b c hc)⟩
      . rintro⟨a,b⟩
        exact⟨a,fun c hc=>(heq _ _ (fj mo hs hc).2 (fj mo ht hc).2).mpr (b c hc)⟩)
  rw[Sq.jP] at heq
  refine⟨ns,c,?_,hl,hc,heq⟩
  have g:=Dz (z:=[some (.t (.tup M)),some (.m (.lst (iD (fu (M.map fun d=>(Sum.inr (mR d):Key)))))),none,none]) hr
  rw[List.length_map] at g
  have s1:Pn jS [some (.t (nD N)),some (.t (.tup M)),some (.m (.lst (iD (fu (M.map fun d=>(Sum.inr (mR d):Key)))))),none,none]=some (.nx [some (.t (nD N)),some (.t (.tup M)),some (.m (.lst (iD ns))),x3,x4]):=by
    unfold Pn
    rw[nh,show cU (aa (fV 0) aA) [some (.t (nD N)),some (.t (.tup M)),some (.m (.lst (iD (fu (M.map fun d=>(Sum.inr (mR d):Key)))))),none,none]=some (iA 0 N.length,[some (.t (nD N)),some (.t (.tup M)),some (.m (.lst (iD (fu (M.map fun d=>(Sum.inr (mR d):Key)))))),none,none]) from g]
    exact e
  have all:∃a b S,cL jS [some (.t (nD N)),some (.t (.tup M)),none,none,none]=some (.rt (.m (.lst (iD ns))) (a :: b :: S)):=by
    rw[LU,Sq.bB s0,Sq.bB s1]
    generalize iD ns=l
    exact⟨_,_,_,by simp[R8];exact⟨rfl,rfl,rfl⟩⟩
  obtain⟨a,b,S,all⟩:=all
  show(cL jS [some (.t (nD N)),some (.t (.tup M)),none,none,none]).bind _=_
  rw[all]
  rfl
theorem IX {p q:Str×Int}:kO (dZ p) (dZ q)=true↔p=q:=by
 constructor
 ·intro h
  have h:(kO (.str p.1) (.str q.1) && (kO (.int p.2) (.int q.2) && true))=true:=h
  simp only[EY,EZ,Bool.and_true,Bool.and_eq_true,beq_iff_eq] at h
  exact Prod.ext h.1 h.2
 ·rintro rfl
  exact lC _
theorem DA:∀{H:List (Str×Int)}{j:Nat}{h:Str×Int},H.Nodup->H[j]? =some h->we (dZ h) (H.map dZ)=some j
 | [],_,_,_,e=>by cases e
 | g :: H,0,h,nd,e=>by
  have e:g=h:=by simpa using e
  subst e
  show(if kO (dZ g) (dZ g)=true then some 0 else _)=_
  rw[if_pos (lC _)]
 | g :: H,j+1,h,nd,e=>by
  have e:H[j]? =some h:=by simpa using e
  obtain⟨n1,n2⟩:=List.nodup_cons.mp nd
  show(if kO (dZ g) (dZ h)=true then some 0 else(we (dZ h) (H.map dZ)).map (· +1))=_
  rw[if_neg (fun z=>n1 (by rw[IX.mp z];exact List.mem_of_getElem? e)),DA n2 e]
  rfl
theorem vd:∀H:List (Str×Int),bH (H.map dZ)<=1
 | []=>Nat.zero_le _
 | h :: H=>by
  have:=vd H
  show max (iS (dZ h)) (bH (H.map dZ))<=1
  have:iS (dZ h)=1:=rfl
  omega
noncomputable abbrev jf (T:List (Str×Int)):List D:=(cH T).map dZ
theorem LY {T:List (Str×Int)}{c:Nat}(hc:c < (cH T).length):∃h,(cH T)[c]? =some h/\bG (jf T) c=dZ h:=by
 refine⟨(cH T)[c],List.getElem?_eq_getElem hc,?_⟩
 have:=ku (M:=jf T) (s:=c) (by rw[List.length_map];exact hc)
 rw[List.getElem?_map,List.getElem?_eq_getElem hc] at this
 exact(Option.some.inj this).symm
noncomputable def iT (aD:FM):GS:=
 (bz 2 (eP qC (aa (aV 1 (eF (ak 2))) (aa (eM 4 jX (aa (eF (ak 5)) aA)) aA))))
noncomputable def gH (aD:FM):GS:=
 (aQ (bz 4 (br aD (bq (eF (ak 0)) cz)))
 (aQ (iR (bName 5) (gF (eF (ak 3))) (iT aD))
 (d8 (ak 2))))
noncomputable def wX:FM:=bJ 6 (gH Sq.fK)
theorem DB:∀us r,wX us=some r->bJ 6 (gH Sq.fK) us=some r:=fun _ _ h=>h
theorem FG {f:FM}{td rd dd:D}{aF rf H:List D}{s c a:Int}(h1:dj aF s=some (.tup rf)) (h2:jX [dd] (.lst H)=some (.int c,.lst H)) (h3:dj rf c=some (.int a)):
  iT f [some (.t td),some (.t (.tup aF)),some (.t (.int s)),some (.t rd),some (.m (.lst H)),some (.t dd)]=some (.nx [some (.t td),some (.t (.tup aF)),some (.t (.int a)),some (.t rd),some (.m (.lst H)),some (.t dd)]):=by
 simp[-wB,iT,zj,jH,h1,h2,h3]
theorem zU {f:FM}{W:Nat}{N:List (List Int)}{T:List (Str×Int)}{td rd:D}(mo:Sq.bR (cH T).length N) (nd:(cH T).Nodup) (hl:(cH T).length < 1000):∀(cs:List Nat) (s:Nat) (x:Option U),s < N.length->(∀c∈cs,c < (cH T).length)->iC x=false->
    ∃x',loop (bName 5) (iT f) (cs.map (bG (jf T))) [some (.t td),some (.t (nD N)),some (.t (.int s)),some (.t rd),some (.m (.lst (jf T))),x]=some (.nx [some (.t td),some (.t (nD N)),some (.t (.int (led (fT N) cs s:Nat))),some (.t rd),some (.m (.lst (jf T))),x'])
  | [],s,x,_,_,_=>⟨x,rfl⟩
  | c :: cs, s, x, hs, hc, hx => by
    have hcc:=hc c List.mem_cons_self
    obtain⟨h,e1,e2⟩:=LY hcc
    obtain⟨x',e⟩:=zU (f:=f) (W:=W) (td:=td) (rd:=rd) mo nd hl cs (fT N s c) (some (.t (dZ h))) (fj mo hs hcc).2 (fun d hd=>hc d (List.mem_cons_of_mem _ hd)) rfl
    refine⟨x',?_⟩
    have dp:bH (jf T)<=1:=vd (cH T)
    have hi:jX [dZ h] (.lst (jf T))=some (.int (c:Nat),.lst (jf T)):=by
      rw[wB,if_pos ⟨by omega,by rw[List.length_map];omega⟩,DA nd e1]
      rfl
    have ew:=FG (f:=f) (td:=td) (rd:=rd) (mq hs) hi (mz mo hs hcc)
    have eb:bName 5 (dZ h) [some (.t td),some (.t (nD N)),some (.t (.int s)),some (.t rd),some (.m (.lst (jf T))),x]=some [some (.t td),some (.t (nD N)),some (.t (.int s)),some (.t rd),some (.m (.lst (jf T))),some (.t (dZ h))]:=by
      generalize (s:Int)=ss
      simp[-dU,cG,hx]
    rw[List.map_cons,e2,gR,eb,Option.bind_some]
    rw[show iT f [some (.t td),some (.t (nD N)),some (.t (.int s)),some (.t rd),some (.m (.lst (jf T))),some (.t (dZ h))]=_ from ew,Option.bind_some]
    exact e
structure Tb (T:List (Str×Int)):Prop where
 hT:T.length<=4
 hp:∀p∈T,ig p
 nd:(cH T).Nodup
theorem Tb.hl {T:List (Str×Int)}(t:Tb T):(cH T).length < 1000:=by have:=lH t.hp;have:=t.hT;omega
theorem IY {T : List (Str × Int)} {N : List (List Int)} {cs : List Nat} {s : Nat} (t : Tb T) (mo : Sq.bR (cH T).length N) (hs : s < N.length) (hc : ∀ c ∈ cs, c < (cH T).length) :
    wX [.t (aP T),.t (nD N),.t (.int s),.t (fX (jf T) cs)]=some (.t (.int (led (fT N) cs s:Nat)),[]):=by
  have e0:=Sq.uY t.hT t.hp
  obtain⟨x,e⟩:=zU (f:=Sq.fK) (W:=0) (td:=aP T) (rd:=fX (jf T) cs) mo t.nd t.hl cs s none hs hc rfl
  have all:∃a b c d S,gH Sq.fK [some (.t (aP T)),some (.t (nD N)),some (.t (.int s)),some (.t (fX (jf T) cs)),none,none]=some (.rt (.t (.int (led (fT N) cs s:Nat))) (a :: b :: c :: d :: S)):=by
    unfold gH
    rw[Sq.bB (S1:=[some (.t (aP T)),some (.t (nD N)),some (.t (.int s)),some (.t (fX (jf T) cs)),some (.m (.lst (jf T))),none])]
    . rw[Sq.bB (S1:=[some (.t (aP T)),some (.t (nD N)),some (.t (.int (led (fT N) cs s:Nat))),some (.t (fX (jf T) cs)),some (.m (.lst (jf T))),x])]
      . generalize ((led (fT N) cs s:Nat):Int)=v
        exact⟨_,_,_,_,_,by simp;exact⟨rfl,rfl,rfl,rfl,rfl⟩⟩
      . have ei:gF (eF (ak 3)) [some (.t (aP T)),some (.t (nD N)),some (.t (.int s)),some (.t (fX (jf T) cs)),some (.m (.lst (jf T))),none]=some (cs.map (bG (jf T)),[some (.t (aP T)),some (.t (nD N)),some (.t (.int s)),some (.t (fX (jf T) cs)),some (.m (.lst (jf T))),none]):=rfl
        rw[nh,ei]
        exact e
    . generalize Sq.fK=f at e0
      generalize aP T=td at e0
      generalize (s:Int)=ss
      simp[e0]
  obtain⟨a,b,c,d,S,all⟩:=all
  show(gH Sq.fK [some (.t (aP T)),some (.t (nD N)),some (.t (.int s)),some (.t (fX (jf T) cs)),none,none]).bind _=_
  rw[all]
  rfl
noncomputable def eV (aD:FM):GS:=
 (d8 (eT (eQ (HD (qB (Mv ["tuple"] (eF (ak 1)))) (qB (eF (eP Cu (aa (eF (dP [0] (gF (eF (ak 1))) bA (eF (eP DL (aa (eF (ak 0)) (aa (eF (br aD (bq (eF (ak 1)) cz))) aA)))))) aA))))))))
noncomputable def ve:FM:=bJ 2 (eV Sq.fK)
theorem A0:∀us r,ve us=some r->bJ 2 (eV Sq.fK) us=some r:=fun _ _ h=>h
theorem IZ {d:D}:∀{ds:List D},d∈ds->inD d ds=true:=fun {ds} h=>List.any_eq_true.mpr ⟨d,h,lC d⟩
theorem FH {f:FM}{td d:D}{H acc:List D}{z1:Option U}(e0:f [.t td]=some (.m (.lst H),[])) (h1:bH H<=40) (h2:inD d H=true):
  bu [0] bA (eF (eP DL (aa (eF (ak 0)) (aa (eF (br f (bq (eF (ak 1)) cz))) aA)))) [d] [some (.t td),z1] acc=some (acc++[.bl true],[some (.t td),z1]):=by
 have e:DL [d,.lst H]=some (.t (.bl true)):=by
  rw[<-h2]
  have:DL [d,.lst H]=if bH H<=40 then some (.t (.bl (inD d H))) else none:=by cases d <;> rfl
  rw[this,if_pos h1]
 simp[bu,dR,jq,e0,e,aN]
theorem DC {T:List (Str×Int)}{cs:List Nat}(t:Tb T) (hl:cs.length < 1000) (hc:∀c∈cs,c < (cH T).length):ve [.t (aP T),.t (fX (jf T) cs)]=some (.t (.bl true),[]):=by
 have e0:=Sq.uY t.hT t.hp
 have dp:bH (jf T)<=1:=vd (cH T)
 have e1:=comp_map (cap:=[0]) (g:=(eF (eP DL (aa (eF (ak 0)) (aa (eF (br Sq.fK (bq (eF (ak 1)) cz))) aA))))) (S:=[some (.t (aP T)),some (.t (fX (jf T) cs))]) (fun _=>.bl true) (cs.map (bG (jf T))) [] (fun d hd acc=>by
  obtain⟨c,h1,rfl⟩:=List.mem_map.mp hd
  exact FH e0 (Nat.le_trans dp (by decide)) (IZ (gr (by rw[List.length_map];exact hc c h1))))
 rw[List.nil_append] at e1
 have e2:=oW (fun _:D=>true) (cs.map (bG (jf T)))
 have e3:((cs.map (bG (jf T))).map fun _:D=>true).all id=true:=by simp
 have hz:(cs.map (bG (jf T))).length<=100000:=by rw[List.length_map];omega
 have ty:qK ["tuple"] (.tup (cs.map (bG (jf T))))=some true:=rfl
 show bJ 2 (eV Sq.fK) [.t (aP T),.t (fX (jf T) cs)]=_
 unfold fX at e1 ⊢
 generalize cs.map (bG (jf T))=l at e1 e2 e3 hz ty ⊢
 generalize aP T=td at e1 ⊢
 generalize Sq.fK=f at e1 ⊢
 simp[bJ,eV,ty,iY,fH,hz,e1,e2,e3,aN]
theorem DE {n:Nat}{g:GS}{us:List U}{d:D}{S:SS}(h:g (us.map some++List.replicate (n - us.length) none)=some (.rt (.t d) S)) (ho:aN us S=some []):bJ n g us=some (.t d,[]):=by
 unfold bJ
 rw[h]
 simp only[Option.bind_some,ho,Option.map_some]
theorem qX {κ : Type} [DecidableEq κ] : ∀ (l acc : List κ), l.foldl step_dedup acc = kR acc l
  | [],acc=>rfl
  | x :: l, acc => by
    show l.foldl step_dedup (step_dedup acc x)=kR (if x∈acc then acc else acc++[x]) l
    rw[qX l]
    congr 1
    unfold step_dedup
    by_cases h:x∈acc
    . have e:(acc.any fun y=>y == x)=true:=List.any_eq_true.mpr ⟨x,h,beq_self_eq_true x⟩
      rw[if_pos h,if_pos e]
    . have e:¬(acc.any fun y=>y == x)=true:=fun z=>by
        obtain⟨y,hy,e⟩:=List.any_eq_true.mp z
        exact h (by rw[<-eq_of_beq e];exact hy)
      rw[if_neg h,if_neg e]
theorem zV {κ:Type} [DecidableEq κ]:∀(l acc:List κ),(acc++l).Nodup->kR acc l=acc++l
 | [],acc,_=>by simp[kR]
 | x :: l,acc,h=>by
  have hx:x∉acc:=fun m=>(List.nodup_append.mp h).2.2 x m x List.mem_cons_self rfl
  show kR (if x∈acc then acc else acc++[x]) l=_
  rw[if_neg hx,zV l (acc++[x]) (by rw[List.append_assoc];exact h),List.append_assoc]
  rfl
theorem wY {α:Type}(l:List α) (x:α):(List.range l.length).map (fun i=>l.getD i x)=l:=by
 apply List.ext_getElem?
 intro i
 rw[List.getElem?_map]
 by_cases c:i < l.length
 ·rw[List.getElem?_range c]
  show some (l.getD i x)=_
  rw[List.getD_eq_getElem?_getD,List.getElem?_eq_getElem c]
  rfl
 ·rw[List.getElem?_eq_none (l:=l) (by omega),List.getElem?_eq_none (by rw[List.length_range];omega)];rfl
theorem strs_map:∀zs:List Str,mO (zs.map D.str)=some zs
 | []=>rfl
 | z :: zs=>by simp[mO,strs_map zs]
theorem A1 {zs:List Str}(h:zs.Nodup) (hl:zs.length<=1000):mh [.lst (zs.map D.str)]=some (.t (.int (zs.length:Nat))):=by
 have e:i9 (fun i=>zs.getD i ⟨#[]⟩) zs.length=zs:=by
  unfold i9
  rw[wY,qX,zV zs [] (by simpa using h),List.nil_append]
 show(mO (zs.map D.str)).bind _=_
 rw[strs_map,Option.bind_some,if_pos hl,e]
theorem wZ {ns : List Nat} {c : Nat} (h : yE ns c) (hl : ns.length <= 1000) : kq [.lst (iD ns)] = some (.t (.int (c : Nat))) := by
  have e:L2.aY (iD ns)=some (ns.map fun n:Nat=>(n:Int)):=by
    unfold iD
    clear h hl
    induction ns with
    | nil=>rfl
    | cons n ns ih=>simp only[List.map_cons,L2.aY,ih];rfl
  have e2:(firstMet (fun i=>(ns.map fun n:Nat=>(n:Int)).getD i 0) (ns.map fun n:Nat=>(n:Int)).length).length=c:=by
    unfold firstMet
    rw[wY,qX]
    refine E9 (yC List.nodup_nil) fun v=>?_
    rw[jQ]
    constructor
    . rintro(m | m)
      . cases m
      . obtain⟨n,hn,rfl⟩:=List.mem_map.mp m
        exact⟨n,h.lt n hn,rfl⟩
    . rintro⟨k,hk,rfl⟩
      exact .inr (List.mem_map.mpr ⟨k,h.on k hk,rfl⟩)
  show(L2.aY (iD ns)).bind _=_
  rw[e,Option.bind_some,if_pos (by rw[List.length_map];exact hl),e2]
noncomputable def fY (iE:FM):GS:=
 (jm (eT (eM 4 hAppend (aa (eF (eP mL (aa (eF (dP [2,1,5,0] (gF (eF (ak 3))) bA (aV 1 (eF (br iE (bq (eF (ak 4)) (bq (eF (ak 2)) (bq (eF (ak 3)) (bq (eF (ak 0)) cz))))))))) aA))) aA))))
noncomputable def cP (iE:FM):GS:=
 (aQ (bz 4 (eP iu aA))
 (aQ (iR (bName 5) (cU (aa (fV 1) aA)) (fY iE))
 (d8 (eP DK (aa (eF (eP mh (aa (eF (ak 4)) aA))) (aa (fV 4) aA))))))
noncomputable def FI:FM:=bJ 6 (cP wX)
theorem FJ:∀us r,FI us=some r->bJ 6 (cP wX) us=some r:=fun _ _ h=>h
theorem FL {f:FM}{td nd one:D}{M acc:List D}{s v:Int}{x:D}{z3 z4:Option U}(h1:f [.t td,.t nd,.t (.int s),.t one]=some (.t (.int v),[])) (h2:dj M v=some x):
  bu [2,1,5,0] bA (aV 1 (eF (br f (bq (eF (ak 4)) (bq (eF (ak 2)) (bq (eF (ak 3)) (bq (eF (ak 0)) cz))))))) [one] [some (.t td),some (.t nd),some (.t (.tup M)),z3,z4,some (.t (.int s))] acc=some (acc++[x],[some (.t td),some (.t nd),some (.t (.tup M)),z3,z4,some (.t (.int s))]):=by
 simp[bu,dR,jq,h1,h2,aN]
noncomputable def wl (N:List (List Int)) (M:List D) (Rs:List (List Nat)) (s:Nat):List D:=Rs.map fun cs=>bG M (led (fT N) cs s)
section
variable {T:List (Str×Int)}{N:List (List Int)}{M:List D}{Rs:List (List Nat)}
theorem yL (mo:Sq.bR (cH T).length N) (hM:M.length=N.length) (hw:∀x∈M,x∈jc) (hR:∀cs∈Rs,∀c∈cs,c < (cH T).length){s:Nat}(hs:s < N.length):∀d∈wl N M Rs s,d∈jc:=fun d hd=>by
 obtain⟨cs,hc,rfl⟩:=List.mem_map.mp hd
 exact hw _ (gr (by rw[hM];exact o7 mo (hR cs hc) hs))
theorem zW (t:Tb T) (mo:Sq.bR (cH T).length N) (hM:M.length=N.length){s:Nat}(hs:s < N.length){z3 z4:Option U}:∀(Rs:List (List Nat)) (acc:List D),(∀cs∈Rs,∀c∈cs,c < (cH T).length)->
  bu [2,1,5,0] bA (aV 1 (eF (br wX (bq (eF (ak 4)) (bq (eF (ak 2)) (bq (eF (ak 3)) (bq (eF (ak 0)) cz))))))) (Rs.map (fX (jf T))) [some (.t (aP T)),some (.t (nD N)),some (.t (.tup M)),z3,z4,some (.t (.int s))] acc=some (acc++wl N M Rs s,[some (.t (aP T)),some (.t (nD N)),some (.t (.tup M)),z3,z4,some (.t (.int s))])
 | [],acc,_=>by simp[bu,wl]
 | cs :: Rs,acc,h=>by
  have hc:=h cs List.mem_cons_self
  rw[List.map_cons,Sq.kK,FL (IY t mo hs hc) (wN (by rw[hM];exact o7 mo hc hs)),Option.bind_some]
  refine(zW t mo hM hs Rs (acc++[bG M (led (fT N) cs s)]) fun d hd=>h d (List.mem_cons_of_mem _ hd)).trans ?_
  rw[List.append_assoc]
  rfl
theorem pw_turn {f:FM}{td nd md:D}{aF L ws:List D}{s:Int}{z:Str}(hr:aF.length<=100000) (e1:bu [2,1,5,0] bA (aV 1 (eF (br f (bq (eF (ak 4)) (bq (eF (ak 2)) (bq (eF (ak 3)) (bq (eF (ak 0)) cz))))))) aF [some (.t td),some (.t nd),some (.t md),some (.t (.tup aF)),some (.m (.lst L)),some (.t (.int s))] []=some (ws,[some (.t td),some (.t nd),some (.t md),some (.t (.tup aF)),some (.m (.lst L)),some (.t (.int s))]))
  (e2:mL [.lst ws]=some (.t (.str z))) (hl:L.length < 100000):fY f [some (.t td),some (.t nd),some (.t md),some (.t (.tup aF)),some (.m (.lst L)),some (.t (.int s))]=some (.nx [some (.t td),some (.t nd),some (.t md),some (.t (.tup aF)),some (.m (.lst (L++[.str z]))),some (.t (.int s))]):=by
 simp[fY,iY,fH,hr,e1,e2,hl,zj,jH,hAppend]
theorem I0 {aF:List D}{a:Option U}{z:List (Option U)}(hl:aF.length < 1000):cU (aa (fV 1) aA) (a :: some (.t (.tup aF)) :: z)=some (iA 0 aF.length,a :: some (.t (.tup aF)) :: z):=by
 have e:(aa (fV 1) aA) (a :: some (.t (.tup aF)) :: z)=some ([.int (aF.length:Nat)],a :: some (.t (.tup aF)) :: z):=by simp
 have hb:aF.length < 1000000:=by omega
 rw[Sq.kr e (Int.ofNat_lt.mpr hb) (Sq.uX _),Int.toNat_natCast]
theorem Ja {a b c d x:Option U}{zs:List Str}(h:mh [.lst (zs.map D.str)]=some (.t (.int (zs.length:Nat)))):(d8 (eP DK (aa (eF (eP mh (aa (eF (ak 4)) aA))) (aa (fV 4) aA)))) [a,b,c,d,some (.m (.lst (zs.map D.str))),x]=some (.rt (.t (.bl true)) [a,b,c,d,some (.t (.lst (zs.map D.str))),x]):=by
 have e:(zs.map D.str).length=zs.length:=List.length_map ..
 generalize zs.map D.str=l at h e ⊢
 have q:DK [.int (zs.length:Nat),.int (zs.length:Nat)]=some (.t (.bl true)):=by
  show(if iS (.int (zs.length:Nat))<=40 then some (U.t (.bl (kO (.int (zs.length:Nat)) (.int (zs.length:Nat))))) else none)=_
  rw[if_pos (show iS (.int (zs.length:Nat))<=40 from Nat.zero_le _),lC]
 simp[h,e,q]
theorem Jb (t:Tb T) (mo:Sq.bR (cH T).length N) (hM:M.length=N.length) (hw:∀x∈M,x∈jc) (hR:∀cs∈Rs,∀c∈cs,c < (cH T).length) (hl:Rs.length<=100) (hn:∀s t,s < t->t < N.length->wl N M Rs s≠wl N M Rs t):
  FI [.t (aP T),.t (nD N),.t (.tup M),.t (.tup (Rs.map (fX (jf T))))]=some (.t (.bl true),[]):=by
 have few:=mo.few
 have UA:(Rs.map (fX (jf T))).length<=100000:=by rw[List.length_map];omega
 have g:=I0 (aF:=N.map Sq.aY) (a:=some (.t (aP T))) (z:=[some (.t (.tup M)),some (.t (.tup (Rs.map (fX (jf T))))),some (.m (.lst [])),none]) (by rw[List.length_map];omega)
 rw[List.length_map] at g
 replace g:cU (aa (fV 1) aA) [some (.t (aP T)),some (.t (nD N)),some (.t (.tup M)),some (.t (.tup (Rs.map (fX (jf T))))),some (.m (.lst [])),none]=some (iA 0 N.length,[some (.t (aP T)),some (.t (nD N)),some (.t (.tup M)),some (.t (.tup (Rs.map (fX (jf T))))),some (.m (.lst [])),none]):=g
 obtain⟨S',e,x5,h5,rfl⟩:=qT (bd:=bName 5) (body:=fY wX) (iA 0 N.length)
  (fun j S=>∃x5,iC x5=false/\S=[some (.t (aP T)),some (.t (nD N)),some (.t (.tup M)),some (.t (.tup (Rs.map (fX (jf T))))),some (.m (.lst (((List.range j).map fun s=>mR (.lst (wl N M Rs s))).map D.str))),x5])
  [some (.t (aP T)),some (.t (nD N)),some (.t (.tup M)),some (.t (.tup (Rs.map (fX (jf T))))),some (.m (.lst [])),none] ⟨none,rfl,rfl⟩ (by
  rintro j d S hd ⟨x5,h5,rfl⟩
  obtain⟨hj,rfl⟩:=ou hd
  have pc:=fun z3 z4=>zW t mo hM hj (z3:=z3) (z4:=z4) Rs [] hR
  simp only[List.nil_append] at pc
  refine⟨[some (.t (aP T)),some (.t (nD N)),some (.t (.tup M)),some (.t (.tup (Rs.map (fX (jf T))))),some (.m (.lst (((List.range j).map fun s=>mR (.lst (wl N M Rs s))).map D.str))),some (.t (.int j))],_,?_,pw_turn UA (pc _ _) (Fz (yL mo hM hw hR hj) (by unfold wl;rw[List.length_map];exact hl)) (by rw[List.length_map,List.length_map,List.length_range];omega),some (.t (.int j)),rfl,?_⟩
  ·generalize (j:Int)=jj
   simp[-dU,cG,h5]
  ·rw[List.range_succ,List.map_append,List.map_append]
   rfl)
 rw[Sq.jP] at e
 have nd:((List.range N.length).map fun s=>mR (.lst (wl N M Rs s))).Nodup:=by
  rw[List.nodup_iff_pairwise_ne,List.pairwise_map]
  refine List.pairwise_lt_range.imp_of_mem fun {a b} ha hb hab he=>?_
  have ha:=List.mem_range.mp ha
  have hb:=List.mem_range.mp hb
  exact hn a b hab hb (FA (by unfold wl;rw[List.length_map,List.length_map]) (yL mo hM hw hR ha) (yL mo hM hw hR hb) he)
 have hs:=A1 nd (by rw[List.length_map,List.length_range];omega)
 have all:∃S,cP wX [some (.t (aP T)),some (.t (nD N)),some (.t (.tup M)),some (.t (.tup (Rs.map (fX (jf T))))),none,none]=some (.rt (.t (.bl true)) (some (.t (aP T)) :: some (.t (nD N)) :: some (.t (.tup M)) :: some (.t (.tup (Rs.map (fX (jf T))))) :: S)):=by
  unfold cP
  rw[Sq.bB (S1:=[some (.t (aP T)),some (.t (nD N)),some (.t (.tup M)),some (.t (.tup (Rs.map (fX (jf T))))),some (.m (.lst [])),none]) rfl]
  rw[Sq.bB (S1:=[some (.t (aP T)),some (.t (nD N)),some (.t (.tup M)),some (.t (.tup (Rs.map (fX (jf T))))),some (.m (.lst (((List.range N.length).map fun s=>mR (.lst (wl N M Rs s))).map D.str))),x5])]
  ·exact⟨_,Ja hs⟩
  ·rw[nh,g]
   exact e
 obtain⟨S,all⟩:=all
 exact DE all rfl
end
theorem A2 {W:Nat}{N:List (List Int)}{M:List D}{ns:List Nat}{c:Nat}(mo:Sq.bR W N) (np:yJ N M W) (hl:ns.length=N.length) (hc:yE ns c) (heq:∀s t,s < N.length->t < N.length->(na ns s=na ns t↔Gx (fT N) (bG M) W N.length s t)):c < N.length:=by
 obtain⟨n0,c0,l0,UB,CO,hw,sm⟩:=np
 apply Classical.byContradiction
 intro h
 obtain⟨i,j,hij,hj,e⟩:=zL UB (by omega)
 have eq:=oZ (nx:=fT N) (wd:=bG M) (W:=W) (n:=N.length) (ns:=n0) (fun s c hs hc=>(fj mo hs hc).2) hw (fun c s t hc hs ht e=>sm c hc s t hs ht e) N.length i j (by omega) (by omega) e
 have:=uZ hc (by omega) (i:=i) (j:=j) (by omega) (by omega) ((heq i j (by omega) (by omega)).mpr eq)
 omega
theorem qY {W n:Nat}{nx:Nat->Nat->Nat}{wd:Nat->D}{Rs:List (List Nat)}{ns:List Nat}{c:Nat}(P:Pt n nx wd W Rs ns c):Rs.length<=n/\∀cs∈Rs,cs.length<=n:=by
 have a:=yH P.cls
 have b:=P.few
 have d:=P.len
 refine⟨by omega,fun cs h=>?_⟩
 obtain⟨k,hk⟩:=List.getElem?_of_mem h
 have:=P.short k cs hk
 have:=(List.getElem?_eq_some_iff.mp hk).1
 omega
theorem yM {W:Nat}{N:List (List Int)}{M:List D}{Rs:List (List Nat)}{n1 ns:List Nat}{c1 c:Nat}(P:Pt N.length (fT N) (bG M) W Rs n1 c1) (h1:N.length<=c1) (hl:ns.length=N.length) (hc:yE ns c) (heq:∀s t,s < N.length->t < N.length->(na ns s=na ns t↔Gx (fT N) (bG M) W N.length s t)):¬c < N.length:=by
 intro h
 obtain⟨i,j,hij,hj,e⟩:=zL hc (by omega)
 have eq:=(heq i j (by omega) (by omega)).mp e
 have z:=(P.eqv i j (by omega) (by omega)).mpr fun cs hcs=>u5 eq cs ((qY P).2 cs hcs) (P.cols cs hcs)
 have:=uZ P.cls (by rw[P.len];exact h1) (i:=i) (j:=j) (by rw[P.len];omega) (by rw[P.len];omega) z
 omega
theorem yN {W:Nat}{N:List (List Int)}{M:List D}{Rs:List (List Nat)}{n1:List Nat}{c1:Nat}(P:Pt N.length (fT N) (bG M) W Rs n1 c1) (h1:N.length<=c1):∀s t,s < t->t < N.length->wl N M Rs s≠wl N M Rs t:=fun s t hst ht e=>by
 have z:=(P.eqv s t (by omega) ht).mpr (List.map_inj_left.mp e)
 have:=uZ P.cls (by rw[P.len];exact h1) (i:=s) (j:=t) (by rw[P.len];omega) (by rw[P.len];omega) z
 omega
noncomputable def ni (fL:FM) (fM:FM) (cZ:FM) (dg:FM) (dh:FM) (dX:FM) (cM:FM):GS:=
 (aQ (HK (qD 2 (iz (bName 4) (iz (bName 5) rW))) (eF (br cZ (jI (br fM (jI (ak 0) (bq (eF (eP iW (aa (eC (.int 1)) (aa (eF (ak 3)) aA)))) cz))) (bq (eF (ak 1)) (bq (aV 2 (eF (ak 3))) cz))))))
 (aQ (bz 6 (br dg (bq (eF (ak 1)) (bq (eF (ak 4)) (bq (eF (ak 5)) cz)))))
 (xx (qB (eF (eP HG (aa (eF (eP kq (aa (eF (br dh (bq (eF (ak 4)) (bq (eF (ak 5)) cz)))) aA))) (aa (fV 4) aA))))) (xx (qB (eF (eP qh (aa (eF (ak 6)) (aa (eC .bM) aA))))) (d8 (eT (eC (.bl false)))) oR) (xx (Mq (Ci (qB (Mv ["tuple"] (eF (ak 6))))) (qB (eF (eP Mr (aa (fV 6) (aa (fV 4) aA)))))) (d8 (eT (eC (.bl false)))) (xx (Mq (Ci (qB (eF (eP Cu (aa (eF (dP [1] (gF (eF (ak 6))) bA (eF (br dX (bq (eF (ak 1)) (bq (eF (ak 0)) cz)))))) aA))))) (Ci (qB (eF (br cM (bq (eF (ak 1)) (bq (eF (ak 4)) (bq (eF (ak 5)) (bq (eF (ak 6)) cz))))))))) (d8 (eT (eC (.bl false)))) oR)))))
noncomputable def w4 (fL:FM) (fM:FM) (cZ:FM) (dg:FM) (dh:FM) (dX:FM) (cM:FM):GS:=
 (aQ (bz 1 (br fL (jI (br fM (jI (ak 0) (bq (eC (.int 0)) cz))) cz)))
 (aQ (bz 2 (eP iu (aa (eF (eP iu (aa (eC (.bl true)) (aa (eC (.bl false)) aA)))) (aa (eF (eP iu (aa (eC (.str "yes")) (aa (eC (.str "no")) (aa (eC (.str "open")) aA))))) (aa (eF (eP iu (aa (eC (.str "True")) (aa (eC (.bl true)) (aa (eC (.str "")) (aa (eC (.str "yes")) aA)))))) (aa (eF (eP iu (aa (eC (.bl false)) (aa (eC (.bl true)) aA)))) aA))))))
 (aQ (iR (bName 3) (cU (aa (eC (.int 4)) aA)) (ni fL fM cZ dg dh dX cM))
 (d8 (eT (eC (.bl true)))))))
section
variable {f1 f2 f3 f4 f5 f6 f7:FM}{ns:List Int}{td:D}{ue menu aF M nums rd bs:List D}{ls:List Bool}{k c l i' l':Int}{cnt:Nat}{x4 x5 x6:Option U}
theorem Jc (h4:iC x4=false) (h5:iC x5=false) (h6:iC x6=false) (e1:f2 [.s ns,.t (.int (1+k))]=some (.m (Sq.fd c 0 l),[])) (e2:dj ue k=some (.lst menu)) (e3:f3 [.b (Sq.fd c 0 l),.t td,.t (.lst menu)]=some (.t (.tup [.tup aF,.tup M]),[Sq.fd c i' l']))
  (e4:f4 [.t td,.t (.tup aF),.t (.tup M)]=some (.t .bM,[])) (e5:f5 [.t (.tup aF),.t (.tup M)]=some (.m (.lst nums),[])) (e6:kq [.lst nums]=some (.t (.int (cnt:Nat)))) (hc:cnt < aF.length):
  ni f1 f2 f3 f4 f5 f6 f7 [some (.s ns),some (.t td),some (.m (.lst ue)),some (.t (.int k)),x4,x5,x6]=some (.nx [some (.s ns),some (.t td),some (.m (.lst ue)),some (.t (.int k)),some (.t (.tup aF)),some (.t (.tup M)),some (.t .bM)]):=by
 simp[-dU,cG,ni,e1,e2,e3,e4,e5,e6,hc,h4,h5,h6,nT]
theorem Jd (h4:iC x4=false) (h5:iC x5=false) (h6:iC x6=false) (e1:f2 [.s ns,.t (.int (1+k))]=some (.m (Sq.fd c 0 l),[])) (e2:dj ue k=some (.lst menu)) (e3:f3 [.b (Sq.fd c 0 l),.t td,.t (.lst menu)]=some (.t (.tup [.tup aF,.tup M]),[Sq.fd c i' l']))
  (e4:f4 [.t td,.t (.tup aF),.t (.tup M)]=some (.t (.tup rd),[])) (e5:f5 [.t (.tup aF),.t (.tup M)]=some (.m (.lst nums),[])) (e6:kq [.lst nums]=some (.t (.int (cnt:Nat)))) (hc:¬cnt < aF.length) (hr:¬aF.length < rd.length) (hr2:rd.length<=100000)
  (e7:∀S:SS,S[1]? =some (some (.t td))->bu [1] bA (eF (br f6 (bq (eF (ak 1)) (bq (eF (ak 0)) cz)))) rd S []=some (bs,S)) (e8:jV bs=some ls) (e9:ls.all id=true) (Pq:f7 [.t td,.t (.tup aF),.t (.tup M),.t (.tup rd)]=some (.t (.bl true),[])):
  ni f1 f2 f3 f4 f5 f6 f7 [some (.s ns),some (.t td),some (.m (.lst ue)),some (.t (.int k)),x4,x5,x6]=some (.nx [some (.s ns),some (.t td),some (.m (.lst ue)),some (.t (.int k)),some (.t (.tup aF)),some (.t (.tup M)),some (.t (.tup rd))]):=by
 have ty:qK ["tuple"] (.tup rd)=some true:=rfl
 simp[-dU,cG,ni,e1,e2,e3,e4,e5,e6,hc,hr,hr2,e7,e8,e9,Pq,h4,h5,h6,ty,iY,fH]
theorem FN {td:D}{S:SS}(hS:S[1]? =some (some (.t td))){g:FM}:∀(rd acc:List D),(∀d∈rd,g [.t td,.t d]=some (.t (.bl true),[]))->bu [1] bA (eF (br g (bq (eF (ak 1)) (bq (eF (ak 0)) cz)))) rd S acc=some (acc++rd.map fun _=>D.bl true,S):=fun rd acc h=>
 comp_map (fun _=>D.bl true) rd acc fun d hd acc=>by
  have:=h d hd
  simp[bu,dR,jq,hS,this,aN]
end
noncomputable abbrev LZ (g:FM->FM->FM->FM->FM->FM->FM->GS):GS:=g Sq.AQ Sq.pT Sq.zG wQ M1 ve FI
noncomputable def jZ:List D:=[.lst [.bl true,.bl false],.lst [.str "yes",.str "no",.str "open"],.lst [.str "True",.bl true,.str "",.str "yes"],.lst [.bl false,.bl true]]
theorem FO {j:Nat}(h:j < 4):∃menu,dj jZ (j:Int)=some (.lst menu)/\(∀x∈menu,x∈jc)/\0 < menu.length/\menu.length < 1000:=by
 have:j=0\/j=1\/j=2\/j=3:=by omega
 rcases this with rfl | rfl | rfl | rfl
 ·exact⟨[.bl true,.bl false],rfl,by simp[jc],by decide,by decide⟩
 ·exact⟨[.str "yes",.str "no",.str "open"],rfl,by simp[jc],by decide,by decide⟩
 ·exact⟨[.str "True",.bl true,.str "",.str "yes"],rfl,by simp[jc],by decide,by decide⟩
 ·exact⟨[.bl false,.bl true],rfl,by simp[jc],by decide,by decide⟩
theorem FP {ns:List Int}{T:List (Str×Int)}{j:Nat}{x4 x5 x6:Option U}(t:Tb T) (hns:ns.length < 1000) (hj:j < 4) (h4:iC x4=false) (h5:iC x5=false) (h6:iC x6=false):
  ∃y4 y5 y6,iC y4=false/\iC y5=false/\iC y6=false/\LZ ni [some (.s ns),some (.t (aP T)),some (.m (.lst jZ)),some (.t (.int j)),x4,x5,x6]=some (.nx [some (.s ns),some (.t (aP T)),some (.m (.lst jZ)),some (.t (.int j)),y4,y5,y6]):=by
 obtain⟨menu,em,mw,m0,m1⟩:=FO hj
 obtain⟨c,l,e1⟩:=Sq.zE (ns:=ns) (k:=1+j) (by omega) (by omega) hns
 obtain⟨N,M,i',l',e3,mo,hM,hm⟩:=Sq.E7 c l (i:=0) (T:=T) (menu:=menu) (by omega) (by omega) t.hT t.hp m0 m1
 have hw:∀x∈M,x∈jc:=fun x hx=>mw x (hm x hx)
 obtain⟨nums,cnt,e5,nl,Je,neq⟩:=LX mo t.hl hM hw
 have few:=mo.few
 have e6:=wZ Je (by omega)
 rcases Fv t.hT t.hp mo hM (fun x hx=>LS (hw x hx)) with⟨e4,np⟩ | ⟨Rs,n1,c1,e4,P,h1⟩
 ·have lt:=A2 mo np nl Je neq
  exact⟨_,_,_,rfl,rfl,rfl,Jc h4 h5 h6 e1 em e3 e4 e5 e6 (by rw[List.length_map];exact lt)⟩
 ·have ge:=yM P h1 nl Je neq
  obtain⟨r1,r2⟩:=qY P
  have Pq:=Jb t mo hM hw P.cols (by omega) (yN P h1)
  refine⟨_,_,_,rfl,rfl,rfl,Jd h4 h5 h6 e1 em e3 e4 e5 e6 (by rw[List.length_map];exact ge) (by rw[List.length_map,List.length_map];omega) (by rw[List.length_map];omega) (fun S hS=>FN hS (Rs.map (fX (jf T))) [] fun d hd=>?_) (oW (fun _=>true) _) (by simp) Pq⟩
  obtain⟨cs,hcs,rfl⟩:=List.mem_map.mp hd
  exact DC t (by have:=r2 cs hcs;omega) (P.cols cs hcs)
theorem A3 : ∀ us r, yx 63 us = some r -> bJ 7 (LZ w4) us = some r := by
  intro us r h
  unfold yx at h
  split at h
  . rename_i ns
    obtain⟨hl,rfl⟩:=bU h
    obtain⟨c,l,e1⟩:=Sq.zE (ns:=ns) (k:=0) (by omega) (by omega) (by omega)
    obtain⟨T,i',l',e2,t0,t1,t2,_,_,nn⟩:=Sx.E8 c l (i:=0) (by omega) (by omega)
    have t:Tb T:=⟨by omega,t2,Sx.zI nn⟩
    obtain⟨S',e7,x3,x4,x5,x6,h3,h4,h5,h6,rfl⟩:=qT (bd:=bName 3) (body:=LZ ni) (iA 0 4)
      (fun j S=>∃x3 x4 x5 x6:Option U,iC x3=false/\iC x4=false/\iC x5=false/\iC x6=false/\S=[some (.s ns),some (.t (aP T)),some (.m (.lst jZ)),x3,x4,x5,x6])
      [some (.s ns),some (.t (aP T)),some (.m (.lst jZ)),none,none,none,none] ⟨none,none,none,none,rfl,rfl,rfl,rfl,rfl⟩ (by
        rintro j d S hd ⟨x3,x4,x5,x6,h3,h4,h5,h6,rfl⟩
        obtain⟨hj,rfl⟩:=ou hd
        obtain⟨y4,y5,y6,g4,g5,g6,e⟩:=FP (ns:=ns) (T:=T) (j:=j) t (by omega) hj h4 h5 h6
        refine⟨_,_,?_,e,some (.t (.int j)),y4,y5,y6,rfl,g4,g5,g6,rfl⟩
        generalize (j:Int)=jj
        simp[-dU,cG,h3])
    have g:cU (aa (eC (.int 4)) aA) [some (.s ns),some (.t (aP T)),some (.m (.lst jZ)),none,none,none,none]=some (iA 0 4,[some (.s ns),some (.t (aP T)),some (.m (.lst jZ)),none,none,none,none]):=Sq.kr (j:=4) rfl (by decide) (by decide)
    have all:LZ w4 [some (.s ns),none,none,none,none,none,none]=some (.rt (.t (.bl true)) [some (.s ns),some (.t (aP T)),some (.m (.lst jZ)),x3,x4,x5,x6]):=by
      unfold LZ w4 at *
      rw[Sq.bB (S1:=[some (.s ns),some (.t (aP T)),none,none,none,none,none]),Sq.bB (S1:=[some (.s ns),some (.t (aP T)),some (.m (.lst jZ)),none,none,none,none]),Sq.bB (S1:=[some (.s ns),some (.t (aP T)),some (.m (.lst jZ)),x3,x4,x5,x6])]
      . rfl
      . rw[nh,g]
        exact e7
      . rfl
      . generalize Sq.AQ=f1 at e2
        generalize Sq.pT=f2 at e1
        generalize aP T=td at e2
        simp[e1,e2]
    exact DE all rfl
  . cases h
end Sl
end
section
namespace K41
open PySem PySem.Spec PyProof.Rows L2
def top (i:Nat):Stmt:=PySem.Challenge.pw_surewatch_k41_parting_rows.main.body.getD i (.Pass ⟨0,0,0,0⟩)
open L2 Sw Sq Sl
noncomputable abbrev cQ:Stmt:=top 1
theorem fZ:bX ["table","happenings","entry","k"] ["table"] (aH cQ):=⟨rfl,rfl,rfl,by decide +kernel,rfl,by decide +kernel,by decide +kernel⟩
theorem pg {P:Program}{w:World}{K:PySem.W.Frag}{mg:Str->Option Value}{base:Heap}{f:Addr}{fd:FuncData}{n:Nat}{fm:FM}(F:qy K "happenings_of" "happenings_of" cQ f fd) (bV:mg "range" =none)
  (hf:∀us r,fm us=some r->bJ 4 (gz) us=some r):cD P w K mg base jE (n+1) f fd ["table"] (spT K 1 fm):=
 vW (g:=gz) F fZ (fun cdv A outer s H E hr=>(aB (aU (i:=1) fZ.nd rfl (by first | exact Or.inl rfl | exact Or.inr rfl) (fc aI))
  (aB (ie PassesOwn.never rfl (ia (JE.d (aj 0))) (cE (i:=2) fZ.nd rfl (by first | exact Or.inl rfl | exact Or.inr rfl)) (aO (ie PassesOwn.never rfl (dm rfl bV (au (JE.d (bT fU (bg (i:=2) (bx hr) aM (fun _ _=>rfl)) aM)) aI)) (cE (i:=3) fZ.nd rfl (by first | exact Or.inl rfl | exact Or.inr rfl)) (aO (g9 (JD.e (iN (i:=1) PySem.F.slot_list_append PySem.F.type_list_append gJ gM gP (au (JE.d (lA (au (bg (i:=2) (bx hr) aM (fun _ _=>rfl)) (au (JE.d (aj 3)) aI)))) aI))))))))
  (aO (cB (aj 1)))))) hf
noncomputable abbrev iF:Stmt:=top 3
theorem iU:bX ["signs","numbers","sign"] ["signs"] (aH iF):=⟨rfl,rfl,rfl,by decide +kernel,rfl,by decide +kernel,by decide +kernel⟩
theorem w5 {P:Program}{w:World}{K:PySem.W.Frag}{mg:Str->Option Value}{base:Heap}{f:Addr}{fd:FuncData}{n:Nat}{fm:FM}(F:qy K "numbered" "numbered" iF f fd) (eL:mg "len" =none)
  (hf:∀us r,fm us=some r->bJ 3 (cX) us=some r):cD P w K mg base jE (n+1) f fd ["signs"] (spT K 1 fm):=
 vW (g:=cX) F iU (fun cdv A outer s H E hr=>(Gv (aB (aU (i:=1) iU.nd rfl (by first | exact Or.inl rfl | exact Or.inr rfl) uS)
  (aB (ie PassesOwn.never rfl (ia (JE.d (aj 0))) (cE (i:=2) iU.nd rfl (by first | exact Or.inl rfl | exact Or.inr rfl)) (aO (kN (tZ (i:=1) (bx hr) (JE.d (aj 2))) (aO (uP (i:=1) (bx hr) (JE.d (aj 2)) (gm (i:=1) rfl eL))) kH)))
  (aO (cB (i8 (kj (i:=1) rfl (by decide) rfl (by decide) rfl rfl (by decide) (by decide) rfl rfl rfl) rfl (ia (JE.d (aj 0))) (fun _ _ _ _=>gw) (fun _ _ _ _=>(bg (i:=1) (bx hr) (JE.d (aj 0)) (fun _ _=>rfl))))))))
  (aB (aU (i:=1) iU.nd rfl (by first | exact Or.inl rfl | exact Or.inr rfl) zy)
  (aB (ie PassesOwn.never rfl (ia (JE.d (aj 0))) (cE (i:=2) iU.nd rfl (by first | exact Or.inl rfl | exact Or.inr rfl)) (aO (kN (tZ (i:=1) (bx hr) (JE.d (aj 2))) (aO (uP (i:=1) (bx hr) (JE.d (aj 2)) (gm (i:=1) rfl eL))) kH)))
  (aO (cB (i8 (kj (i:=1) rfl (by decide) rfl (by decide) rfl rfl (by decide) (by decide) rfl rfl rfl) rfl (ia (JE.d (aj 0))) (fun _ _ _ _=>gw) (fun _ _ _ _=>(bg (i:=1) (bx hr) (JE.d (aj 0)) (fun _ _=>rfl)))))))))) hf
noncomputable abbrev iG:Stmt:=top 5
theorem gU:bX ["nexts","numbers","column","firsts","spot","leads","first"] ["nexts","numbers"] (aH iG):=⟨rfl,rfl,rfl,by decide +kernel,rfl,by decide +kernel,by decide +kernel⟩
theorem xg {P:Program}{w:World}{K:PySem.W.Frag}{mg:Str->Option Value}{base:Heap}{f:Addr}{fd:FuncData}{n:Nat}{fm:FM}(F:qy K "split_of" "split_of" iG f fd) (eL:mg "len" =none) (bV:mg "range" =none) (nq:mg "enumerate" =none)
  (hf:∀us r,fm us=some r->bJ 7 (cY) us=some r):cD P w K mg base jE (n+1) f fd ["nexts","numbers"] (spT K 2 fm):=
 vW (g:=cY) F gU (fun cdv A outer s H E hr=>(aB (ie PassesOwn.never rfl (dm rfl bV (au (JE.d (iQ tL rfl eL PySem.boot_len (au (bg (i:=0) (bx hr) aM (fun _ _=>rfl)) aI))) aI)) (cE (i:=2) gU.nd rfl (by first | exact Or.inl rfl | exact Or.inr rfl)) (aB (aU (i:=3) gU.nd rfl (by first | exact Or.inl rfl | exact Or.inr rfl) uS)
  (aO (EO PassesOwn.never rfl (EN rfl nq (au (JE.d (aj 0)) aI)) (xS rfl (j9 (cE (i:=4) gU.nd rfl (by first | exact Or.inl rfl | exact Or.inr rfl)) (j9 (cE (i:=5) gU.nd rfl (by first | exact Or.inl rfl | exact Or.inr rfl)) uL))) (aB (aU (i:=6) gU.nd rfl (by first | exact Or.inl rfl | exact Or.inr rfl) (JD.e (uT (i:=3) (bx hr) (bg (i:=1) (bx hr) (JE.d (aj 4)) (fun _ _=>rfl)) (JE.d (aj 4)))))
  (aO (kN (jk (HR hr.units) (bg (i:=1) (bx hr) (JE.d (pL vP (bg (i:=0) (bx hr) (JE.d (aj 6)) (fun _ _=>rfl)) (JE.d (aj 2)) (fun _ _=>rfl))) (fun _ _=>rfl)) (bg (i:=1) (bx hr) (bg (i:=5) (bx hr) (JE.d (aj 2)) (fun _ _=>rfl)) (fun _ _=>rfl))) (aO (cB (lA (au (JE.d (aj 6)) (au (JE.d (aj 4)) (au (JE.d (aj 2)) aI)))))) kH)))))))
  (aO (cB (JD.e uH))))) hf
noncomputable abbrev dD:Stmt:=top 6
theorem bE:bX ["table","nexts","words","happenings","rows","several","numbers","split","column","at","told"] ["table","nexts","words"] (aH dD):=⟨rfl,rfl,rfl,by decide +kernel,rfl,by decide +kernel,by decide +kernel⟩
theorem p7 {P:Program}{w:World}{K:PySem.W.Frag}{mg:Str->Option Value}{base:Heap}{f:Addr}{fd:FuncData}{n:Nat}{fm:FM}(F:qy K "parting_rows" "parting_rows" dD f fd) (zX:mg "list" =none) (Jf:mg "max" =none) (eL:mg "len" =none) (Jg:mg "zip" =none) (dF:mg "tuple" =none)
  {jA:Addr}{lJ:FuncData}{ao:FM}(qZ:cD P w K mg base jE n jA lJ ["table"] (spT K 1 ao)) (q8:Binds K lJ ["table"] []) (q9:PySem.W.keepIn K (.ref jA)=true) (rm:mg "happenings_of" =some (.ref jA))
  {pq:Addr}{uf:FuncData}{aE:FM}(ug:cD P w K mg base jE n pq uf ["signs"] (spT K 1 aE)) (uh:Binds K uf ["signs"] []) (um:PySem.W.keepIn K (.ref pq)=true) (uo:mg "numbered" =some (.ref pq))
  {pA:Addr}{uq:FuncData}{aG:FM}(A4:cD P w K mg base jE n pA uq ["nexts","numbers"] (spT K 2 aG)) (A5:Binds K uq ["nexts","numbers"] []) (A6:PySem.W.keepIn K (.ref pA)=true) (A7:mg "split_of" =some (.ref pA))
  {j0:Addr}{mS:FuncData}{aq:FM}(r9:cD P w K mg base jE n j0 mS ["several","one","other"] (spT K 3 aq)) (se:Binds K mS ["several","one","other"] []) (sf:PySem.W.keepIn K (.ref j0)=true) (sr:mg "first_unlike" =some (.ref j0))
  (hf:∀us r,fm us=some r->bJ 11 (bN ao aE aG aq) us=some r):cD P w K mg base jE (n+1) f fd ["table","nexts","words"] (spT K 3 fm):=
 vW (g:=bN ao aE aG aq) F bE (fun cdv A outer s H E hr=>(aB (aU (i:=3) bE.nd rfl (by first | exact Or.inl rfl | exact Or.inr rfl) (bC qZ hr rfl rm q9 q8 (aX (JE.d (aj 0)) bQ)))
  (aB (aU (i:=4) bE.nd rfl (by first | exact Or.inl rfl | exact Or.inr rfl) (fc (au (JE.d (lA aI)) aI)))
  (aB (aU (i:=5) bE.nd rfl (by first | exact Or.inl rfl | exact Or.inr rfl) (fc (au (JE.d (gK xW rfl zX PyProof.Rows.Boot.list (au (JE.d (aj 2)) aI))) aI)))
  (aB (aU (i:=6) bE.nd rfl (by first | exact Or.inl rfl | exact Or.inr rfl) (bC ug hr rfl uo um uh (aX (JE.d (aj 2)) bQ)))
  (aB (vU PassesOwn.never (jk xQ (JE.d (bT fU (JE.d (iQ (yc rfl) rfl Jf PyProof.Rows.Boot.max (au (JE.d (aj 6)) aI))) aM)) (gm (i:=1) rfl eL)) (aB (aU (i:=7) bE.nd rfl (by first | exact Or.inl rfl | exact Or.inr rfl) (bC A4 hr rfl A7 A6 A5 (aX (JE.d (aj 1)) (aX (JE.d (aj 6)) bQ))))
  (aB (kN (jk EG (JE.d (aj 7)) uH) (aO (cB (JD.e uH))) kH)
  (aB (aU (i:=8) bE.nd rfl (by first | exact Or.inl rfl | exact Or.inr rfl) (JD.e (bg (i:=7) (bx hr) aM (fun _ _=>rfl))))
  (aB (aU (i:=9) bE.nd rfl (by first | exact Or.inl rfl | exact Or.inr rfl) (bC r9 hr rfl sr sf se (iX (aj 5) (aX (JE.d (pL vP (bg (i:=1) (bx hr) (bg (i:=7) (bx hr) aM (fun _ _=>rfl)) (fun _ _=>rfl)) (JE.d (aj 8)) (fun _ _=>rfl))) (aX (JE.d (pL vP (bg (i:=1) (bx hr) (bg (i:=7) (bx hr) aM (fun _ _=>rfl)) (fun _ _=>rfl)) (JE.d (aj 8)) (fun _ _=>rfl))) bQ)))))
  (aB (g9 (JD.e (iN (i:=4) PySem.F.slot_list_append PySem.F.type_list_append gJ gM gP (au (JE.d (bT fU (JE.d (lA (au (bg (i:=3) (bx hr) (JE.d (aj 8)) (fun _ _=>rfl)) aI))) (bg (i:=4) (bx hr) (JE.d (aj 9)) (fun _ _=>rfl)))) aI))))
  (aB (qH (i:=10) bE.nd rfl (by first | exact Or.inl rfl | exact Or.inr rfl) (jx (cy:=["at","column","several"]) (cap:=[9,8,5]) rfl (by decide) rfl (by decide) rfl rfl (by decide) (by first | exact Or.inl rfl | exact Or.inr rfl) (by decide) rfl rfl rfl) rfl (ia (JE.d (aj 1))) (fun _ _ _ _=>gw) (fun _ _ _ _=>(JE.d (pL vP (bg (i:=3) (bx hr) (JE.d (aj 1)) (fun _ _=>rfl)) (bg (i:=0) (bx hr) (JE.d (aj 2)) (fun _ _=>rfl)) (fun _ _=>rfl)))))
  (aB (g9 (JD.e (iN (i:=5) PySem.F.slot_list_append PySem.F.type_list_append gJ gM gP (au (JE.d (aj 10)) aI))))
  (aO (aU (i:=6) bE.nd rfl (by first | exact Or.inl rfl | exact Or.inr rfl) (bC ug hr rfl uo um uh (aX (JE.d (yj rfl rfl zX rfl Jg (au (JE.d (aj 6)) (au (JE.d (aj 10)) aI)))) bQ))))))))))))
  (aO (cB (gK gO rfl dF PyProof.Rows.Boot.tuple (au (JE.d (aj 4)) aI)))))))))) hf
noncomputable abbrev dG:Stmt:=top 7
theorem iZ:bX ["several","one","other","at"] ["several","one","other"] (aH dG):=⟨rfl,rfl,rfl,by decide +kernel,rfl,by decide +kernel,by decide +kernel⟩
theorem p8 {P:Program}{w:World}{K:PySem.W.Frag}{mg:Str->Option Value}{base:Heap}{f:Addr}{fd:FuncData}{n:Nat}{fm:FM}(F:qy K "first_unlike" "first_unlike" dG f fd)
  (hf:∀us r,fm us=some r->bJ 4 (cK) us=some r):cD P w K mg base jE (n+1) f fd ["several","one","other"] (spT K 3 fm):=
 vW (g:=cK) F iZ (fun cdv A outer s H E hr=>(aB (aU (i:=3) iZ.nd rfl (by first | exact Or.inl rfl | exact Or.inr rfl) (JD.e aM))
  (aB (vU PassesOwn.never (jk (xT hr.units) (JE.d (pL vP (bg (i:=0) (bx hr) (JE.d (aj 3)) (fun _ _=>rfl)) (JE.d (aj 1)) (fun _ _=>rfl))) (JE.d (pL vP (bg (i:=0) (bx hr) (JE.d (aj 3)) (fun _ _=>rfl)) (JE.d (aj 2)) (fun _ _=>rfl)))) (aO (HX (i:=3) G2 iZ.nd rfl (by first | exact Or.inl rfl | exact Or.inr rfl) aM)))
  (aO (cB (aj 3)))))) hf
noncomputable abbrev iH:Stmt:=top 9
theorem pU:bX ["_law_cell","_law_k","_law_by"] ["_law_cell","_law_k"] (aH iH):=⟨rfl,rfl,rfl,by decide +kernel,rfl,by decide +kernel,by decide +kernel⟩
theorem xh {P:Program}{w:World}{K:PySem.W.Frag}{mg:Str->Option Value}{base:Heap}{f:Addr}{fd:FuncData}{n:Nat}{fm:FM}(F:qy K "_law_mix" "_law_mix" iH f fd)
  (hf:∀us r,fm us=some r->bJ 3 (jz) us=some r):cD P w K mg base jE (n+1) f fd ["_law_cell","_law_k"] (spT K 2 fm):=
 vW (g:=jz) F pU (fun cdv A outer s H E hr=>(aB (aU (i:=2) pU.nd rfl (by first | exact Or.inl rfl | exact Or.inr rfl) (bT fU (JE.d (bT fU (JE.d (bT kG (JE.d (bT fU (JE.d (bT kF (JE.d (aj 0)) (JE.d (bT uJ aM aM)))) aM)) aM)) (JE.d (bT kG (JE.d (bT kG (JE.d (aj 1)) (JE.d (aj 1)))) aM)))) (JE.d (bT kG (JE.d (aj 1)) aM))))
  (aO (cB (bT kF (JE.d (bT kG (JE.d (bT kF (JE.d (aj 2)) aM)) aM)) aM))))) hf
noncomputable abbrev gW:Stmt:=top 10
theorem jd:bX ["_law_script","_law_k","_law_cell"] ["_law_script","_law_k"] (aH gW):=⟨rfl,rfl,rfl,by decide +kernel,rfl,by decide +kernel,by decide +kernel⟩
theorem vf {P:Program}{w:World}{K:PySem.W.Frag}{mg:Str->Option Value}{base:Heap}{f:Addr}{fd:FuncData}{n:Nat}{fm:FM}(F:qy K "_law_feed" "_law_feed" gW f fd) (eL:mg "len" =none) (Jh:mg "int" =none)
  {iI:Addr}{kB:FuncData}{dw:FM}(pB:cD P w K mg base jE n iI kB ["_law_cell","_law_k"] (spT K 2 dw)) (pC:Binds K kB ["_law_cell","_law_k"] []) (pD:PySem.W.keepIn K (.ref iI)=true) (pF:mg "_law_mix" =some (.ref iI))
  (hf:∀us r,fm us=some r->bJ 3 (fJ dw) us=some r):cD P w K mg base jE (n+1) f fd ["_law_script","_law_k"] (spT K 2 fm):=
 vW (g:=fJ dw) F jd (fun cdv A outer s H E hr=>(aB (aU (i:=2) jd.nd rfl (by first | exact Or.inl rfl | exact Or.inr rfl) (bT fU (JE.d (bT kG aM (JE.d (aj 1)))) aM))
  (aB (kN (jk xQ (JE.d (aj 1)) (gm (i:=0) rfl eL)) (aO (aU (i:=2) jd.nd rfl (by first | exact Or.inl rfl | exact Or.inr rfl) (JD.e (bg (i:=0) (bx hr) (JE.d (aj 1)) (fun _ _=>rfl))))) (aO (kN (jk xR (gm (i:=0) rfl eL) aM) (aO (aU (i:=2) jd.nd rfl (by first | exact Or.inl rfl | exact Or.inr rfl) (bC pB hr rfl pF pD pC (aX (bg (i:=0) (bx hr) (JE.d (bT kF (JE.d (aj 1)) (gm (i:=0) rfl eL))) (fun _ _=>rfl)) (aX (JE.d (aj 1)) bQ))))) kH)))
  (aO (cB (fc (au (JE.d (aj 2)) (au aM (au (JE.d (bT kG (JE.d (bT qg (JE.d (aj 2)) (JE.d (bT uJ aM aM)))) (JE.d (gK AB rfl Jh PyProof.Rows.Boot.int (au (JE.d (xN HJ (JE.d (aj 2)) (JE.d (bT uJ aM aM)))) aI))))) aI))))))))) hf
noncomputable abbrev gX:Stmt:=top 11
theorem oG:bX ["_law_feed_here","_law_many","_law_found"] ["_law_feed_here","_law_many"] (aH gX):=⟨rfl,rfl,rfl,by decide +kernel,rfl,by decide +kernel,by decide +kernel⟩
theorem vg {P:Program}{w:World}{K:PySem.W.Frag}{mg:Str->Option Value}{base:Heap}{f:Addr}{fd:FuncData}{n:Nat}{fm:FM}(F:qy K "_law_take" "_law_take" gX f fd)
  {iI:Addr}{kB:FuncData}{dw:FM}(pB:cD P w K mg base jE n iI kB ["_law_cell","_law_k"] (spT K 2 dw)) (pC:Binds K kB ["_law_cell","_law_k"] []) (pD:PySem.W.keepIn K (.ref iI)=true) (pF:mg "_law_mix" =some (.ref iI))
  (hf:∀us r,fm us=some r->bJ 3 (gQ dw) us=some r):cD P w K mg base jE (n+1) f fd ["_law_feed_here","_law_many"] (spT K 2 fm):=
 vW (g:=gQ dw) F oG (fun cdv A outer s H E hr=>(aB (uP (i:=0) (bx hr) aM (JE.d (bT fU (bg (i:=0) (bx hr) aM (fun _ _=>rfl)) aM)))
  (aB (kN (jk xR (bg (i:=0) (bx hr) aM (fun _ _=>rfl)) aM) (aB (aU (i:=2) oG.nd rfl (by first | exact Or.inl rfl | exact Or.inr rfl) (bT kF (bg (i:=0) (bx hr) aM (fun _ _=>rfl)) (JE.d (aj 1))))
  (aB (uP (i:=0) (bx hr) aM (JE.d (bT zg (bg (i:=0) (bx hr) aM (fun _ _=>rfl)) (JE.d (aj 1)))))
  (aO (cB (aj 2))))) kH)
  (aO (cB (bT kF (JE.d (bT zg (JE.d (bC pB hr rfl pF pD pC (aX (bg (i:=0) (bx hr) aM (fun _ _=>rfl)) (aX (bg (i:=0) (bx hr) aM (fun _ _=>rfl)) bQ)))) aM)) (JE.d (aj 1)))))))) hf
noncomputable abbrev gf:Stmt:=top 12
theorem bZ:bX ["_law_feed_here","_law_pool","_law_start","_law_many","_law_left","_law_table_here","_law_k","_law_most"] ["_law_feed_here"] (aH gf):=⟨rfl,rfl,rfl,by decide +kernel,rfl,by decide +kernel,by decide +kernel⟩
theorem su {P:Program}{w:World}{K:PySem.W.Frag}{mg:Str->Option Value}{base:Heap}{f:Addr}{fd:FuncData}{n:Nat}{fm:FM}(F:qy K "_law_table" "_law_table" gf f fd) (bV:mg "range" =none) (Ji:mg "min" =none) (dF:mg "tuple" =none)
  {gI:Addr}{jB:FuncData}{aZ:FM}(fO:cD P w K mg base jE n gI jB ["_law_feed_here","_law_many"] (spT K 2 aZ)) (fP:Binds K jB ["_law_feed_here","_law_many"] []) (fQ:PySem.W.keepIn K (.ref gI)=true) (fR:mg "_law_take" =some (.ref gI))
  (hf:∀us r,fm us=some r->bJ 8 (ir aZ) us=some r):cD P w K mg base jE (n+1) f fd ["_law_feed_here"] (spT K 1 fm):=
 vW (g:=ir aZ) F bZ (fun cdv A outer s H E hr=>(aB (aU (i:=1) bZ.nd rfl (by first | exact Or.inl rfl | exact Or.inr rfl) (fc (au gD (au gD (au gD (au gD (au gD (au gD (au gD (au gD (au gD aI)))))))))))
  (aB (aU (i:=2) bZ.nd rfl (by first | exact Or.inl rfl | exact Or.inr rfl) (bC fO hr rfl fR fQ fP (iX (aj 0) (aX aM bQ))))
  (aB (aU (i:=3) bZ.nd rfl (by first | exact Or.inl rfl | exact Or.inr rfl) (pL vP (JE.d (fc (au aM (au aM (au aM (au aM aI)))))) (JE.d (bC fO hr rfl fR fQ fP (iX (aj 0) (aX aM bQ)))) (fun _ _=>rfl)))
  (aB (aU (i:=4) bZ.nd rfl (by first | exact Or.inl rfl | exact Or.inr rfl) (JD.e aM))
  (aB (aU (i:=5) bZ.nd rfl (by first | exact Or.inl rfl | exact Or.inr rfl) (fc aI))
  (aB (ie PassesOwn.never rfl (dm rfl bV (au (JE.d (aj 3)) aI)) (cE (i:=6) bZ.nd rfl (by first | exact Or.inl rfl | exact Or.inr rfl)) (aB (aU (i:=7) bZ.nd rfl (by first | exact Or.inl rfl | exact Or.inr rfl) (iQ (xV rfl) rfl Ji PyProof.Rows.Boot.min (au (JE.d (bC fO hr rfl fR fQ fP (iX (aj 0) (aX aM bQ)))) (au (JE.d (bT fU (JE.d (bT qg (JE.d (aj 4)) (JE.d (aj 3)))) (JE.d (aj 6)))) aI))))
  (aB (g9 (JD.e (iN (i:=5) PySem.F.slot_list_append PySem.F.type_list_append gJ gM gP (au (JE.d (lA (au (bg (i:=1) (bx hr) (JE.d (bT kF (JE.d (bT fU (JE.d (aj 2)) (JE.d (aj 6)))) aM)) (fun _ _=>rfl)) (au (JE.d (aj 7)) aI)))) aI))))
  (aO (aU (i:=4) bZ.nd rfl (by first | exact Or.inl rfl | exact Or.inr rfl) (bT qg (JE.d (bT qg (JE.d (aj 4)) (JE.d (aj 7)))) aM))))))
  (aO (cB (gK gO rfl dF PyProof.Rows.Boot.tuple (au (JE.d (aj 5)) aI))))))))))) hf
noncomputable abbrev cA:Stmt:=top 13
theorem dY:bX ["_law_table_here","_law_found","_law_name","_law_most"] ["_law_table_here"] (aH cA):=⟨rfl,rfl,rfl,by decide +kernel,rfl,by decide +kernel,by decide +kernel⟩
theorem nu {P:Program}{w:World}{K:PySem.W.Frag}{mg:Str->Option Value}{base:Heap}{f:Addr}{fd:FuncData}{n:Nat}{fm:FM}(F:qy K "_law_happenings" "_law_happenings" cA f fd) (bV:mg "range" =none)
  (hf:∀us r,fm us=some r->bJ 4 (cW) us=some r):cD P w K mg base jE (n+1) f fd ["_law_table_here"] (spT K 1 fm):=
 vW (g:=cW) F dY (fun cdv A outer s H E hr=>(aB (aU (i:=1) dY.nd rfl (by first | exact Or.inl rfl | exact Or.inr rfl) (fc aI))
  (aB (ie PassesOwn.never rfl (HM (JE.d (aj 0))) (xS rfl (j9 (cE (i:=2) dY.nd rfl (by first | exact Or.inl rfl | exact Or.inr rfl)) (j9 (cE (i:=3) dY.nd rfl (by first | exact Or.inl rfl | exact Or.inr rfl)) uL))) (aO (g9 (JD.e (iN (i:=1) PySem.F.slot_list_extend PySem.F.type_list_extend xZ AD AE (au (JE.d (i8 (kj (i:=2) rfl (by decide) rfl (by decide) rfl rfl (by decide) (by decide) rfl rfl rfl) rfl (dm rfl bV (au (JE.d (bT fU (JE.d (aj 3)) aM)) aI)) (fun _ _ _ _=>gw) (fun _ _ _ _=>(JE.d (lA (au (JE.d (aj 1)) (au (JE.d (aj 0)) aI))))))) aI))))))
  (aO (cB (aj 1)))))) hf
noncomputable abbrev dH:Stmt:=top 14
theorem cC:bX ["_law_feed_here","_law_table_here","_law_menu","_law_many","_law_wide","_law_nexts","_law_spot","_law_marks"] ["_law_feed_here","_law_table_here","_law_menu"] (aH dH):=⟨rfl,rfl,rfl,by decide +kernel,rfl,by decide +kernel,by decide +kernel⟩
theorem p9 {P:Program}{w:World}{K:PySem.W.Frag}{mg:Str->Option Value}{base:Heap}{f:Addr}{fd:FuncData}{n:Nat}{fm:FM}(F:qy K "_law_machine" "_law_machine" dH f fd) (eL:mg "len" =none) (bV:mg "range" =none) (dF:mg "tuple" =none)
  {gI:Addr}{jB:FuncData}{aZ:FM}(fO:cD P w K mg base jE n gI jB ["_law_feed_here","_law_many"] (spT K 2 aZ)) (fP:Binds K jB ["_law_feed_here","_law_many"] []) (fQ:PySem.W.keepIn K (.ref gI)=true) (fR:mg "_law_take" =some (.ref gI))
  {bf:Addr}{bK:FuncData}{aD:FM}(dI:cD P w K mg base jE n bf bK ["_law_table_here"] (spT K 1 aD)) (dJ:Binds K bK ["_law_table_here"] []) (dM:PySem.W.keepIn K (.ref bf)=true) (dN:mg "_law_happenings" =some (.ref bf))
  (hf:∀us r,fm us=some r->bJ 8 (cJ aZ aD) us=some r):cD P w K mg base jE (n+1) f fd ["_law_feed_here","_law_table_here","_law_menu"] (spT K 3 fm):=
 vW (g:=cJ aZ aD) F cC (fun cdv A outer s H E hr=>(aB (aU (i:=3) cC.nd rfl (by first | exact Or.inl rfl | exact Or.inr rfl) (bT fU aM (JE.d (bC fO hr rfl fR fQ fP (iX (aj 0) (aX aM bQ))))))
  (aB (aU (i:=4) cC.nd rfl (by first | exact Or.inl rfl | exact Or.inr rfl) (iQ tL rfl eL PySem.boot_len (au (JE.d (bC dI hr rfl dN dM dJ (aX (JE.d (aj 1)) bQ))) aI)))
  (aB (aU (i:=5) cC.nd rfl (by first | exact Or.inl rfl | exact Or.inr rfl) (fc aI))
  (aB (ie PassesOwn.never rfl (dm rfl bV (au (JE.d (aj 3)) aI)) (cE (i:=6) cC.nd rfl (by first | exact Or.inl rfl | exact Or.inr rfl)) (aO (g9 (JD.e (iN (i:=5) PySem.F.slot_list_append PySem.F.type_list_append gJ gM gP (au (JE.d (gK gO rfl dF PyProof.Rows.Boot.tuple (au (JE.d (i8 (jx (cy:=["_law_feed_here","_law_many"]) (cap:=[0,3]) rfl (by decide) rfl (by decide) rfl rfl (by decide) (by first | exact Or.inl rfl | exact Or.inr rfl) (by decide) rfl rfl rfl) rfl (dm rfl bV (au (JE.d (aj 4)) aI)) (fun _ _ _ _=>gw) (fun _ _ _ _=>(JE.d (bC fO hr rfl fR fQ fP (iX (aj 1) (aX (JE.d (aj 2)) bQ))))))) aI))) aI))))))
  (aB (qH (i:=7) cC.nd rfl (by first | exact Or.inl rfl | exact Or.inr rfl) (jx (cy:=["_law_feed_here","_law_menu"]) (cap:=[0,2]) rfl (by decide) rfl (by decide) rfl rfl (by decide) (by first | exact Or.inl rfl | exact Or.inr rfl) (by decide) rfl rfl rfl) rfl (dm rfl bV (au (JE.d (aj 3)) aI)) (fun _ _ _ _=>gw) (fun _ _ _ _=>(bg (i:=2) (bx hr) (JE.d (bC fO hr rfl fR fQ fP (iX (aj 1) (aX (gm (i:=2) rfl eL) bQ)))) (fun _ _=>rfl))))
  (aB (kN (jk (xT hr.units) (JE.d (bC fO hr rfl fR fQ fP (iX (aj 0) (aX aM bQ)))) aM) (aO (aU (i:=7) cC.nd rfl (by first | exact Or.inl rfl | exact Or.inr rfl) (bT EE (JE.d (fc (au (bg (i:=2) (bx hr) aM (fun _ _=>rfl)) aI))) (JE.d (aj 3))))) kH)
  (aO (cB (lA (au (JE.d (gK gO rfl dF PyProof.Rows.Boot.tuple (au (JE.d (aj 5)) aI))) (au (JE.d (gK gO rfl dF PyProof.Rows.Boot.tuple (au (JE.d (aj 7)) aI))) aI)))))))))))) hf
noncomputable abbrev iJ:Stmt:=top 15
theorem jT:bX ["_law_table_here","_law_nexts","_law_spot","_law_row","_law_happenings_here","_law_happening"] ["_law_table_here","_law_nexts","_law_spot","_law_row"] (aH iJ):=⟨rfl,rfl,rfl,by decide +kernel,rfl,by decide +kernel,by decide +kernel⟩
theorem xj {P:Program}{w:World}{K:PySem.W.Frag}{mg:Str->Option Value}{base:Heap}{f:Addr}{fd:FuncData}{n:Nat}{fm:FM}(F:qy K "_law_led" "_law_led" iJ f fd)
  {bf:Addr}{bK:FuncData}{aD:FM}(dI:cD P w K mg base jE n bf bK ["_law_table_here"] (spT K 1 aD)) (dJ:Binds K bK ["_law_table_here"] []) (dM:PySem.W.keepIn K (.ref bf)=true) (dN:mg "_law_happenings" =some (.ref bf))
  (hf:∀us r,fm us=some r->bJ 6 (gH aD) us=some r):cD P w K mg base jE (n+1) f fd ["_law_table_here","_law_nexts","_law_spot","_law_row"] (spT K 4 fm):=
 vW (g:=gH aD) F jT (fun cdv A outer s H E hr=>(aB (aU (i:=4) jT.nd rfl (by first | exact Or.inl rfl | exact Or.inr rfl) (bC dI hr rfl dN dM dJ (aX (JE.d (aj 0)) bQ)))
  (aB (ie PassesOwn.never rfl (ia (JE.d (aj 3))) (cE (i:=5) jT.nd rfl (by first | exact Or.inl rfl | exact Or.inr rfl)) (aO (aU (i:=2) jT.nd rfl (by first | exact Or.inl rfl | exact Or.inr rfl) (pL vP (bg (i:=1) (bx hr) (JE.d (aj 2)) (fun _ _=>rfl)) (iN (i:=4) PySem.F.slot_list_index PySem.F.type_list_index (CH hr.units) CJ CK (au (JE.d (aj 5)) aI)) (fun _ _=>rfl)))))
  (aO (cB (aj 2)))))) hf
noncomputable abbrev cR:Stmt:=top 16
theorem bW:bX ["_law_firsts","_law_numbers","_law_found","_law_first"] ["_law_firsts"] (aH cR):=⟨rfl,rfl,rfl,by decide +kernel,rfl,by decide +kernel,by decide +kernel⟩
theorem pG {P:Program}{w:World}{K:PySem.W.Frag}{mg:Str->Option Value}{base:Heap}{f:Addr}{fd:FuncData}{n:Nat}{fm:FM}(F:qy K "_law_numbered" "_law_numbered" cR f fd) (eL:mg "len" =none)
  (hf:∀us r,fm us=some r->bJ 4 (bD) us=some r):cD P w K mg base jE (n+1) f fd ["_law_firsts"] (spT K 1 fm):=
 vW (g:=bD) F bW (fun cdv A outer s H E hr=>(Gv (aB (aU (i:=1) bW.nd rfl (by first | exact Or.inl rfl | exact Or.inr rfl) uS)
  (aB (aU (i:=2) bW.nd rfl (by first | exact Or.inl rfl | exact Or.inr rfl) (fc aI))
  (aB (ie PassesOwn.never rfl (ia (JE.d (aj 0))) (cE (i:=3) bW.nd rfl (by first | exact Or.inl rfl | exact Or.inr rfl)) (aB (g9 (JD.e (uT (i:=1) (bx hr) (JE.d (aj 3)) (gm (i:=1) rfl eL))))
  (aO (g9 (JD.e (iN (i:=2) PySem.F.slot_list_append PySem.F.type_list_append gJ gM gP (au (bg (i:=1) (bx hr) (JE.d (aj 3)) (fun _ _=>rfl)) aI)))))))
  (aO (cB (aj 2))))))
  (aB (aU (i:=1) bW.nd rfl (by first | exact Or.inl rfl | exact Or.inr rfl) zy)
  (aB (aU (i:=2) bW.nd rfl (by first | exact Or.inl rfl | exact Or.inr rfl) (fc aI))
  (aB (ie PassesOwn.never rfl (ia (JE.d (aj 0))) (cE (i:=3) bW.nd rfl (by first | exact Or.inl rfl | exact Or.inr rfl)) (aB (g9 (JD.e (uT (i:=1) (bx hr) (JE.d (aj 3)) (gm (i:=1) rfl eL))))
  (aO (g9 (JD.e (iN (i:=2) PySem.F.slot_list_append PySem.F.type_list_append gJ gM gP (au (bg (i:=1) (bx hr) (JE.d (aj 3)) (fun _ _=>rfl)) aI)))))))
  (aO (cB (aj 2)))))))) hf
noncomputable abbrev dO:Stmt:=top 17
theorem eO:bX ["_law_nexts","_law_marks","_law_found","_law_turn","_law_firsts"] ["_law_nexts","_law_marks"] (aH dO):=⟨rfl,rfl,rfl,by decide +kernel,rfl,by decide +kernel,by decide +kernel⟩
theorem qb {P:Program}{w:World}{K:PySem.W.Frag}{mg:Str->Option Value}{base:Heap}{f:Addr}{fd:FuncData}{n:Nat}{fm:FM}(F:qy K "_law_classes" "_law_classes" dO f fd) (ur:mg "repr" =none) (eL:mg "len" =none) (bV:mg "range" =none) (dF:mg "tuple" =none)
  {jC:Addr}{lK:FuncData}{aC:FM}(lM:cD P w K mg base jE n jC lK ["_law_firsts"] (spT K 1 aC)) (lN:Binds K lK ["_law_firsts"] []) (lO:PySem.W.keepIn K (.ref jC)=true) (lP:mg "_law_numbered" =some (.ref jC))
  (hf:∀us r,fm us=some r->bJ 5 (cL aC) us=some r):cD P w K mg base jE (n+1) f fd ["_law_nexts","_law_marks"] (spT K 2 fm):=
 vW (g:=cL aC) F eO (fun cdv A outer s H E hr=>(aB (aU (i:=2) eO.nd rfl (by first | exact Or.inl rfl | exact Or.inr rfl) (bC lM hr rfl lP lO lN (aX (JE.d (i8 (xM (by decide) (by decide) rfl (by decide) rfl) rfl (ia (JE.d (aj 1))) (fun _ _ _ _=>gw) (fun _ _ _ _=>(JE.d (iQ (qL hr.gd hr.units) rfl ur PyProof.Rows.Boot.repr (au (JE.d (aj 0)) aI)))))) bQ)))
  (aB (ie PassesOwn.never rfl (dm rfl bV (au (gm (i:=0) rfl eL) aI)) (cE (i:=3) eO.nd rfl (by first | exact Or.inl rfl | exact Or.inr rfl)) (aB (qH (i:=4) eO.nd rfl (by first | exact Or.inl rfl | exact Or.inr rfl) (jx (cy:=["_law_found","_law_nexts"]) (cap:=[2,0]) rfl (by decide) rfl (by decide) rfl rfl (by decide) (by first | exact Or.inl rfl | exact Or.inr rfl) (by decide) rfl rfl rfl) rfl (dm rfl bV (au (gm (i:=0) rfl eL) aI)) (fun _ _ _ _=>gw) (fun _ _ _ _=>(JE.d (lA (au (bg (i:=1) (bx hr) (JE.d (aj 0)) (fun _ _=>rfl)) (au (JE.d (gK gO rfl dF PyProof.Rows.Boot.tuple (au (JE.d (i8 (kj (i:=1) rfl (by decide) rfl (by decide) rfl rfl (by decide) (by decide) rfl rfl rfl) rfl (ia (bg (i:=2) (bx hr) (JE.d (aj 0)) (fun _ _=>rfl))) (fun _ _ _ _=>gw) (fun _ _ _ _=>(bg (i:=1) (bx hr) (JE.d (aj 0)) (fun _ _=>rfl))))) aI))) aI))))))
  (aO (aU (i:=2) eO.nd rfl (by first | exact Or.inl rfl | exact Or.inr rfl) (bC lM hr rfl lP lO lN (aX (JE.d (aj 4)) bQ))))))
  (aO (cB (aj 2)))))) hf
noncomputable abbrev eY:Stmt:=top 18
theorem rq:bX ["_law_table_here","_law_thing"] ["_law_table_here","_law_thing"] (aH eY):=⟨rfl,rfl,rfl,by decide +kernel,rfl,by decide +kernel,by decide +kernel⟩
theorem rA {P:Program}{w:World}{K:PySem.W.Frag}{mg:Str->Option Value}{base:Heap}{f:Addr}{fd:FuncData}{n:Nat}{fm:FM}(F:qy K "_law_is_row" "_law_is_row" eY f fd) (gY:mg "isinstance" =none) (dF:mg "tuple" =none) (A8:mg "all" =none)
  {bf:Addr}{bK:FuncData}{aD:FM}(dI:cD P w K mg base jE n bf bK ["_law_table_here"] (spT K 1 aD)) (dJ:Binds K bK ["_law_table_here"] []) (dM:PySem.W.keepIn K (.ref bf)=true) (dN:mg "_law_happenings" =some (.ref bf))
  (hf:∀us r,fm us=some r->bJ 2 (Sl.eV aD) us=some r):cD P w K mg base jE (n+1) f fd ["_law_table_here","_law_thing"] (spT K 2 fm):=
 vW (g:=Sl.eV aD) F rq (fun cdv A outer s H E hr=>(aO (cB (JD.e (HF (tT rfl gY rfl dF PyProof.Rows.Boot.tuple (JE.d (aj 1))) (HE (JE.d (iQ (tU rfl) rfl A8 PyProof.Rows.Boot.all (au (JE.d (i8 (kj (i:=0) rfl (by decide) rfl (by decide) rfl rfl (by decide) (by decide) rfl rfl rfl) rfl (ia (JE.d (aj 1))) (fun _ _ _ _=>gw) (fun _ _ _ _=>(JE.d (xN (HS hr.units) (JE.d (aj 0)) (JE.d (bC dI hr rfl dN dM dJ (aX (JE.d (aj 1)) bQ))) (by with_unfolding_all rfl)))))) aI))))))))) hf
noncomputable abbrev cS:Stmt:=top 19
theorem iK:bX ["_law_table_here","_law_nexts","_law_marks","_law_rows","_law_lists","_law_spot"] ["_law_table_here","_law_nexts","_law_marks","_law_rows"] (aH cS):=⟨rfl,rfl,rfl,by decide +kernel,rfl,by decide +kernel,by decide +kernel⟩
theorem pH {P:Program}{w:World}{K:PySem.W.Frag}{mg:Str->Option Value}{base:Heap}{f:Addr}{fd:FuncData}{n:Nat}{fm:FM}(F:qy K "_law_part_all" "_law_part_all" cS f fd) (eL:mg "len" =none) (bV:mg "range" =none) (ur:mg "repr" =none) (A9:mg "set" =none)
  {pI:Addr}{uu:FuncData}{iE:FM}(Ba:cD P w K mg base jE n pI uu ["_law_table_here","_law_nexts","_law_spot","_law_row"] (spT K 4 iE)) (Bb:Binds K uu ["_law_table_here","_law_nexts","_law_spot","_law_row"] []) (Bc:PySem.W.keepIn K (.ref pI)=true) (Bd:mg "_law_led" =some (.ref pI))
  (hf:∀us r,fm us=some r->bJ 6 (cP iE) us=some r):cD P w K mg base jE (n+1) f fd ["_law_table_here","_law_nexts","_law_marks","_law_rows"] (spT K 4 fm):=
 vW (g:=cP iE) F iK (fun cdv A outer s H E hr=>(aB (aU (i:=4) iK.nd rfl (by first | exact Or.inl rfl | exact Or.inr rfl) (fc aI))
  (aB (ie PassesOwn.never rfl (dm rfl bV (au (gm (i:=1) rfl eL) aI)) (cE (i:=5) iK.nd rfl (by first | exact Or.inl rfl | exact Or.inr rfl)) (aO (g9 (JD.e (iN (i:=4) PySem.F.slot_list_append PySem.F.type_list_append gJ gM gP (au (JE.d (iQ (qL hr.gd hr.units) rfl ur PyProof.Rows.Boot.repr (au (JE.d (i8 (jx (cy:=["_law_marks","_law_nexts","_law_spot","_law_table_here"]) (cap:=[2,1,5,0]) rfl (by decide) rfl (by decide) rfl rfl (by decide) (by first | exact Or.inl rfl | exact Or.inr rfl) (by decide) rfl rfl rfl) rfl (ia (JE.d (aj 3))) (fun _ _ _ _=>gw) (fun _ _ _ _=>(bg (i:=1) (bx hr) (JE.d (bC Ba hr rfl Bd Bc Bb (aX (JE.d (aj 4)) (aX (JE.d (aj 2)) (aX (JE.d (aj 3)) (aX (JE.d (aj 0)) bQ)))))) (fun _ _=>rfl))))) aI))) aI))))))
  (aO (cB (xN (xT hr.units) (JE.d (AA rfl rfl eL rfl A9 (JE.d (aj 4)))) (gm (i:=4) rfl eL))))))) hf
noncomputable abbrev oH:Stmt:=top 20
theorem nv:bX ["_law_script","_law_table_here","_law_menus","_law_k","_law_nexts","_law_marks","_law_found"] ["_law_script"] (aH oH):=⟨rfl,rfl,rfl,by decide +kernel,rfl,by decide +kernel,by decide +kernel⟩
theorem Jj {P:Program}{w:World}{K:PySem.W.Frag}{mg:Str->Option Value}{base:Heap}{f:Addr}{fd:FuncData}{n:Nat}{fm:FM}(F:qy K "law" "law" oH f fd) (bV:mg "range" =none) (eL:mg "len" =none) (A9:mg "set" =none) (gY:mg "isinstance" =none) (dF:mg "tuple" =none) (A8:mg "all" =none)
  {lQ:Addr}{pW:FuncData}{fL:FM}(xm:cD P w K mg base jE n lQ pW ["_law_feed_here"] (spT K 1 fL)) (xq:Binds K pW ["_law_feed_here"] []) (xr:PySem.W.keepIn K (.ref lQ)=true) (xu:mg "_law_table" =some (.ref lQ))
  {nA:Addr}{rB:FuncData}{fM:FM}(rC:cD P w K mg base jE n nA rB ["_law_script","_law_k"] (spT K 2 fM)) (rD:Binds K rB ["_law_script","_law_k"] []) (rE:PySem.W.keepIn K (.ref nA)=true) (rF:mg "_law_feed" =some (.ref nA))
  {j3:Addr}{mT:FuncData}{cZ:FM}(sy:cD P w K mg base jE n j3 mT ["_law_feed_here","_law_table_here","_law_menu"] (spT K 3 cZ)) (sA:Binds K mT ["_law_feed_here","_law_table_here","_law_menu"] []) (sC:PySem.W.keepIn K (.ref j3)=true) (sD:mg "_law_machine" =some (.ref j3))
  {j4:Addr}{mU:FuncData}{dg:FM}(sE:cD P w K mg base jE n j4 mU ["table","nexts","words"] (spT K 3 dg)) (sF:Binds K mU ["table","nexts","words"] []) (sG:PySem.W.keepIn K (.ref j4)=true) (sH:mg "parting_rows" =some (.ref j4))
  {j5:Addr}{mV:FuncData}{dh:FM}(sI:cD P w K mg base jE n j5 mV ["_law_nexts","_law_marks"] (spT K 2 dh)) (sJ:Binds K mV ["_law_nexts","_law_marks"] []) (sL:PySem.W.keepIn K (.ref j5)=true) (sM:mg "_law_classes" =some (.ref j5))
  {kM:Addr}{oJ:FuncData}{dX:FM}(vh:cD P w K mg base jE n kM oJ ["_law_table_here","_law_thing"] (spT K 2 dX)) (vj:Binds K oJ ["_law_table_here","_law_thing"] []) (vm:PySem.W.keepIn K (.ref kM)=true) (vn:mg "_law_is_row" =some (.ref kM))
  {jD:Addr}{lR:FuncData}{cM:FM}(rG:cD P w K mg base jE n jD lR ["_law_table_here","_law_nexts","_law_marks","_law_rows"] (spT K 4 cM)) (rH:Binds K lR ["_law_table_here","_law_nexts","_law_marks","_law_rows"] []) (rJ:PySem.W.keepIn K (.ref jD)=true) (rK:mg "_law_part_all" =some (.ref jD))
  (hf:∀us r,fm us=some r->bJ 7 (Sl.w4 fL fM cZ dg dh dX cM) us=some r):cD P w K mg base jE (n+1) f fd ["_law_script"] (spT K 1 fm):=
 vW (g:=Sl.w4 fL fM cZ dg dh dX cM) F nv (fun cdv A outer s H E hr=>(aB (aU (i:=1) nv.nd rfl (by first | exact Or.inl rfl | exact Or.inr rfl) (bC xm hr rfl xu xr xq (iX (bC rC hr rfl rF rE rD (iX (aj 0) (aX aM bQ))) bQ)))
  (aB (aU (i:=2) nv.nd rfl (by first | exact Or.inl rfl | exact Or.inr rfl) (fc (au (JE.d (fc (au nK (au nK aI)))) (au (JE.d (fc (au gD (au gD (au gD aI))))) (au (JE.d (fc (au gD (au nK (au gD (au gD aI)))))) (au (JE.d (fc (au nK (au nK aI)))) aI))))))
  (aB (ie PassesOwn.never rfl (dm rfl bV (au aM aI)) (cE (i:=3) nv.nd rfl (by first | exact Or.inl rfl | exact Or.inr rfl)) (aB (HL (JE.d (bC sy hr rfl sD sC sA (iX (bC rC hr rfl rF rE rD (iX (aj 0) (aX (JE.d (bT fU aM (JE.d (aj 3)))) bQ))) (aX (JE.d (aj 1)) (aX (bg (i:=2) (bx hr) (JE.d (aj 3)) (fun _ _=>rfl)) bQ))))) (xS rfl (j9 (cE (i:=4) nv.nd rfl (by first | exact Or.inl rfl | exact Or.inr rfl)) (j9 (cE (i:=5) nv.nd rfl (by first | exact Or.inl rfl | exact Or.inr rfl)) uL))))
  (aB (aU (i:=6) nv.nd rfl (by first | exact Or.inl rfl | exact Or.inr rfl) (bC sE hr rfl sH sG sF (aX (JE.d (aj 1)) (aX (JE.d (aj 4)) (aX (JE.d (aj 5)) bQ)))))
  (aO (kN (jk xQ (JE.d (ym rfl rfl eL rfl A9 (JE.d (bC sI hr rfl sM sL sJ (aX (JE.d (aj 4)) (aX (JE.d (aj 5)) bQ)))))) (gm (i:=4) rfl eL)) (aO (kN (jk yp (JE.d (aj 6)) uH) (aO (cB (JD.e nK))) kH)) (aO (kN (JW.t (Gh (xP (xO (tT rfl gY rfl dF PyProof.Rows.Boot.tuple (JE.d (aj 6))))) (tK (jk xR (gm (i:=6) rfl eL) (gm (i:=4) rfl eL))))) (aO (cB (JD.e nK))) (aO (kN (JW.t (Gh (xP (xO (JE.d (iQ (tU rfl) rfl A8 PyProof.Rows.Boot.all (au (JE.d (i8 (kj (i:=1) rfl (by decide) rfl (by decide) rfl rfl (by decide) (by decide) rfl rfl rfl) rfl (ia (JE.d (aj 6))) (fun _ _ _ _=>gw) (fun _ _ _ _=>(JE.d (bC vh hr rfl vn vm vj (aX (JE.d (aj 1)) (aX (JE.d (aj 0)) bQ))))))) aI))))) (tK (xP (xO (JE.d (bC rG hr rfl rK rJ rH (aX (JE.d (aj 1)) (aX (JE.d (aj 4)) (aX (JE.d (aj 5)) (aX (JE.d (aj 6)) bQ))))))))))) (aO (cB (JD.e nK))) kH)))))))))
  (aO (cB (JD.e nK))))))) hf
end K41
end
namespace K41
open PySem L2 Sw Sq Sl
set_option maxHeartbeats 0 in
theorem all_mk {l:PySem.W.OpenLaw}{w:World}{K:PySem.W.Frag}{h:Heap}{mg:Str->Option Value}{fa f1 f2 f3 f4 f5 f6 f7 f8 f9 Pr f11 Pu Pw Px Py Pz PB:Addr}(X:K.In h) (G:h.Ns mainGlobals mg) (K6:mg "law" =some (.ref fa))
  {UC UD UE UG UH UI UJ UK UL UM UN UO UP UQ UR US UT UU PD PF PJ PK PL PM PN PO PR PU PV PX PY PZ P0 L0:Option Addr}{UW sl2 UX UY UZ U0 U1 U3 U4 P1 P4 P5 P6 P7 P8 P9 Qa:Array (Option Value)} {U5 U6 U7 U8 R9 U9 Va Vb Vc Vd Sa Ve Vf Vg Vh Vi Sd Vj Vk Vl Vm Vn Se Vo Vp Vq Vr Vs Sg Vt Vu Vv Vw Vx Sh Vy Vz VA VB VC Si VE VF VG VH VI Sj VJ VL VM VN VO Sk VP Qc Qd Qe Qg L1 Qh Qi Qj Qk Ql L3 Qm Qn Qo Qp Qq L4 Qs Qt Qu Qv Qw L5 Qx Qy Qz QA QB L6 QC QD QE QF QG L7 QH QI QJ QK QL L8 QM QN Ma Mb Mc Jk Me:Value}
  (a1:PySem.W.nsIn K mainGlobals "happenings_of" =some (some (.ref f1))) (l1:K.lookup f1=some ⟨U5,UC,.func (PySem.W.fnOf "happenings_of" "happenings_of" (bS cQ) (bL cQ) (aH cQ) .none U6 U7 U8 UD R9 U9),UW⟩) (c1:PySem.W.codeIn K R9 "happenings_of" =true) (k1:PySem.W.keepIn K (.ref f1)=true)
  (a2:PySem.W.nsIn K mainGlobals "numbered" =some (some (.ref f2))) (l2:K.lookup f2=some ⟨Va,UE,.func (PySem.W.fnOf "numbered" "numbered" (bS iF) (bL iF) (aH iF) .none Vb Vc Vd UG Sa Ve),sl2⟩) (c2:PySem.W.codeIn K Sa "numbered" =true) (k2:PySem.W.keepIn K (.ref f2)=true)
  (a3:PySem.W.nsIn K mainGlobals "split_of" =some (some (.ref f3))) (l3:K.lookup f3=some ⟨Vf,UH,.func (PySem.W.fnOf "split_of" "split_of" (bS iG) (bL iG) (aH iG) .none Vg Vh Vi UI Sd Vj),UX⟩) (c3:PySem.W.codeIn K Sd "split_of" =true) (k3:PySem.W.keepIn K (.ref f3)=true)
  (a4:PySem.W.nsIn K mainGlobals "parting_rows" =some (some (.ref f4))) (l4:K.lookup f4=some ⟨Vk,UJ,.func (PySem.W.fnOf "parting_rows" "parting_rows" (bS dD) (bL dD) (aH dD) .none Vl Vm Vn UK Se Vo),UY⟩) (c4:PySem.W.codeIn K Se "parting_rows" =true) (k4:PySem.W.keepIn K (.ref f4)=true)
  (a5:PySem.W.nsIn K mainGlobals "first_unlike" =some (some (.ref f5))) (l5:K.lookup f5=some ⟨Vp,UL,.func (PySem.W.fnOf "first_unlike" "first_unlike" (bS dG) (bL dG) (aH dG) .none Vq Vr Vs UM Sg Vt),UZ⟩) (c5:PySem.W.codeIn K Sg "first_unlike" =true) (k5:PySem.W.keepIn K (.ref f5)=true)
  (a6:PySem.W.nsIn K mainGlobals "_law_mix" =some (some (.ref f6))) (l6:K.lookup f6=some ⟨Vu,UN,.func (PySem.W.fnOf "_law_mix" "_law_mix" (bS iH) (bL iH) (aH iH) .none Vv Vw Vx UO Sh Vy),U0⟩) (c6:PySem.W.codeIn K Sh "_law_mix" =true) (k6:PySem.W.keepIn K (.ref f6)=true)
  (a7:PySem.W.nsIn K mainGlobals "_law_feed" =some (some (.ref f7))) (l7:K.lookup f7=some ⟨Vz,UP,.func (PySem.W.fnOf "_law_feed" "_law_feed" (bS gW) (bL gW) (aH gW) .none VA VB VC UQ Si VE),U1⟩) (c7:PySem.W.codeIn K Si "_law_feed" =true) (k7:PySem.W.keepIn K (.ref f7)=true)
  (a8:PySem.W.nsIn K mainGlobals "_law_take" =some (some (.ref f8))) (l8:K.lookup f8=some ⟨VF,UR,.func (PySem.W.fnOf "_law_take" "_law_take" (bS gX) (bL gX) (aH gX) .none VG VH VI US Sj VJ),U3⟩) (c8:PySem.W.codeIn K Sj "_law_take" =true) (k8:PySem.W.keepIn K (.ref f8)=true)
  (a9:PySem.W.nsIn K mainGlobals "_law_table" =some (some (.ref f9))) (l9:K.lookup f9=some ⟨VL,UT,.func (PySem.W.fnOf "_law_table" "_law_table" (bS gf) (bL gf) (aH gf) .none VM VN VO UU Sk VP),U4⟩) (c9:PySem.W.codeIn K Sk "_law_table" =true) (k9:PySem.W.keepIn K (.ref f9)=true)
  (a10:PySem.W.nsIn K mainGlobals "_law_happenings" =some (some (.ref Pr))) (QO:K.lookup Pr=some ⟨Qc,PD,.func (PySem.W.fnOf "_law_happenings" "_law_happenings" (bS cA) (bL cA) (aH cA) .none Qd Qe Qg PF L1 Qh),P1⟩) (QS:PySem.W.codeIn K L1 "_law_happenings" =true) (JY:PySem.W.keepIn K (.ref Pr)=true)
  (a11:PySem.W.nsIn K mainGlobals "_law_machine" =some (some (.ref f11))) (QT:K.lookup f11=some ⟨Qi,PJ,.func (PySem.W.fnOf "_law_machine" "_law_machine" (bS dH) (bL dH) (aH dH) .none Qj Qk Ql PK L3 Qm),P4⟩) (QU:PySem.W.codeIn K L3 "_law_machine" =true) (M4:PySem.W.keepIn K (.ref f11)=true)
  (a12:PySem.W.nsIn K mainGlobals "_law_led" =some (some (.ref Pu))) (QV:K.lookup Pu=some ⟨Qn,PL,.func (PySem.W.fnOf "_law_led" "_law_led" (bS iJ) (bL iJ) (aH iJ) .none Qo Qp Qq PM L4 Qs),P5⟩) (c12:PySem.W.codeIn K L4 "_law_led" =true) (Hz:PySem.W.keepIn K (.ref Pu)=true)
  (a13:PySem.W.nsIn K mainGlobals "_law_numbered" =some (some (.ref Pw))) (QW:K.lookup Pw=some ⟨Qt,PN,.func (PySem.W.fnOf "_law_numbered" "_law_numbered" (bS cR) (bL cR) (aH cR) .none Qu Qv Qw PO L5 Qx),P6⟩) (QX:PySem.W.codeIn K L5 "_law_numbered" =true) (M5:PySem.W.keepIn K (.ref Pw)=true)
  (a14:PySem.W.nsIn K mainGlobals "_law_classes" =some (some (.ref Px))) (QY:K.lookup Px=some ⟨Qy,PR,.func (PySem.W.fnOf "_law_classes" "_law_classes" (bS dO) (bL dO) (aH dO) .none Qz QA QB PU L6 QC),P7⟩) (QZ:PySem.W.codeIn K L6 "_law_classes" =true) (M6:PySem.W.keepIn K (.ref Px)=true)
  (a15:PySem.W.nsIn K mainGlobals "_law_is_row" =some (some (.ref Py))) (Q0:K.lookup Py=some ⟨QD,PV,.func (PySem.W.fnOf "_law_is_row" "_law_is_row" (bS eY) (bL eY) (aH eY) .none QE QF QG PX L7 QH),P8⟩) (Q2:PySem.W.codeIn K L7 "_law_is_row" =true) (M7:PySem.W.keepIn K (.ref Py)=true)
  (a16:PySem.W.nsIn K mainGlobals "_law_part_all" =some (some (.ref Pz))) (Q3:K.lookup Pz=some ⟨QI,PY,.func (PySem.W.fnOf "_law_part_all" "_law_part_all" (bS cS) (bL cS) (aH cS) .none QJ QK QL PZ L8 QM),P9⟩) (Q4:PySem.W.codeIn K L8 "_law_part_all" =true) (M8:PySem.W.keepIn K (.ref Pz)=true)
  (a17:PySem.W.nsIn K mainGlobals "law" =some (some (.ref PB))) (Q5:K.lookup PB=some ⟨QN,P0,.func (PySem.W.fnOf "law" "law" (bS oH) (bL oH) (aH oH) .none Ma Mb Mc L0 Jk Me),Qa⟩) (Q6:PySem.W.codeIn K Jk "law" =true) (Q7:PySem.W.keepIn K (.ref PB)=true)
  (yO:PySem.W.nsIn K mainGlobals "range" =some none) (Jl:PySem.W.nsIn K mainGlobals "len" =some none) (nB:PySem.W.nsIn K mainGlobals "enumerate" =some none) (DF:PySem.W.nsIn K mainGlobals "list" =some none) (Jm:PySem.W.nsIn K mainGlobals "max" =some none) (Jo:PySem.W.nsIn K mainGlobals "zip" =some none) (yP:PySem.W.nsIn K mainGlobals "tuple" =some none) (Jp:PySem.W.nsIn K mainGlobals "int" =some none) (Jq:PySem.W.nsIn K mainGlobals "min" =some none) (DG:PySem.W.nsIn K mainGlobals "repr" =some none) (lT:PySem.W.nsIn K mainGlobals "isinstance" =some none) (Jr:PySem.W.nsIn K mainGlobals "all" =some none) (Js:PySem.W.nsIn K mainGlobals "set" =some none):
  ∃fd:FuncData,(∀(s:Shared) (v:Value),BindsTo s fd ⟨[v],[]⟩ [("_law_script",v)])/\∀base:Heap,K.In base->base.Ns mainGlobals mg->cD l.prog w K mg base jE 4 fa fd ["_law_script"] (spT K 1 (yx 63)):=by
 have e:=K6.symm.trans (PySem.W.mg_of X G a17)
 cases e
 have F1:=fy (st:=cQ) l1 c1 k1
 have b1:=F1.binds (ps:=["table"]) fun _ _ _ _ _ _ us hl=>match us,hl with | [_],_=>rfl
 have n1:=PySem.W.mg_of X G a1
 have F2:=fy (st:=iF) l2 c2 k2
 have b2:=F2.binds (ps:=["signs"]) fun _ _ _ _ _ _ us hl=>match us,hl with | [_],_=>rfl
 have n2:=PySem.W.mg_of X G a2
 have F3:=fy (st:=iG) l3 c3 k3
 have b3:=F3.binds (ps:=["nexts","numbers"]) fun _ _ _ _ _ _ us hl=>match us,hl with | [_,_],_=>rfl
 have n3:=PySem.W.mg_of X G a3
 have F4:=fy (st:=dD) l4 c4 k4
 have b4:=F4.binds (ps:=["table","nexts","words"]) fun _ _ _ _ _ _ us hl=>match us,hl with | [_,_,_],_=>rfl
 have n4:=PySem.W.mg_of X G a4
 have F5:=fy (st:=dG) l5 c5 k5
 have b5:=F5.binds (ps:=["several","one","other"]) fun _ _ _ _ _ _ us hl=>match us,hl with | [_,_,_],_=>rfl
 have n5:=PySem.W.mg_of X G a5
 have F6:=fy (st:=iH) l6 c6 k6
 have b6:=F6.binds (ps:=["_law_cell","_law_k"]) fun _ _ _ _ _ _ us hl=>match us,hl with | [_,_],_=>rfl
 have n6:=PySem.W.mg_of X G a6
 have F7:=fy (st:=gW) l7 c7 k7
 have b7:=F7.binds (ps:=["_law_script","_law_k"]) fun _ _ _ _ _ _ us hl=>match us,hl with | [_,_],_=>rfl
 have n7:=PySem.W.mg_of X G a7
 have F8:=fy (st:=gX) l8 c8 k8
 have b8:=F8.binds (ps:=["_law_feed_here","_law_many"]) fun _ _ _ _ _ _ us hl=>match us,hl with | [_,_],_=>rfl
 have n8:=PySem.W.mg_of X G a8
 have F9:=fy (st:=gf) l9 c9 k9
 have b9:=F9.binds (ps:=["_law_feed_here"]) fun _ _ _ _ _ _ us hl=>match us,hl with | [_],_=>rfl
 have n9:=PySem.W.mg_of X G a9
 have So:=fy (st:=cA) QO QS JY
 have Q8:=So.binds (ps:=["_law_table_here"]) fun _ _ _ _ _ _ us hl=>match us,hl with | [_],_=>rfl
 have Q9:=PySem.W.mg_of X G a10
 have Ss:=fy (st:=dH) QT QU M4
 have VQ:=Ss.binds (ps:=["_law_feed_here","_law_table_here","_law_menu"]) fun _ _ _ _ _ _ us hl=>match us,hl with | [_,_,_],_=>rfl
 have VR:=PySem.W.mg_of X G a11
 have Su:=fy (st:=iJ) QV c12 Hz
 have VS:=Su.binds (ps:=["_law_table_here","_law_nexts","_law_spot","_law_row"]) fun _ _ _ _ _ _ us hl=>match us,hl with | [_,_,_,_],_=>rfl
 have VT:=PySem.W.mg_of X G a12
 have Sv:=fy (st:=cR) QW QX M5
 have VU:=Sv.binds (ps:=["_law_firsts"]) fun _ _ _ _ _ _ us hl=>match us,hl with | [_],_=>rfl
 have VV:=PySem.W.mg_of X G a13
 have Sy:=fy (st:=dO) QY QZ M6
 have VW:=Sy.binds (ps:=["_law_nexts","_law_marks"]) fun _ _ _ _ _ _ us hl=>match us,hl with | [_,_],_=>rfl
 have VX:=PySem.W.mg_of X G a14
 have Sz:=fy (st:=eY) Q0 Q2 M7
 have VY:=Sz.binds (ps:=["_law_table_here","_law_thing"]) fun _ _ _ _ _ _ us hl=>match us,hl with | [_,_],_=>rfl
 have VZ:=PySem.W.mg_of X G a15
 have SA:=fy (st:=cS) Q3 Q4 M8
 have V0:=SA.binds (ps:=["_law_table_here","_law_nexts","_law_marks","_law_rows"]) fun _ _ _ _ _ _ us hl=>match us,hl with | [_,_,_,_],_=>rfl
 have V1:=PySem.W.mg_of X G a16
 have V2:=fy (st:=oH) Q5 Q6 Q7
 have bV:=PySem.W.mg_none_of X G yO
 have eL:=PySem.W.mg_none_of X G Jl
 have nq:=PySem.W.mg_none_of X G nB
 have zX:=PySem.W.mg_none_of X G DF
 have Jf:=PySem.W.mg_none_of X G Jm
 have Jg:=PySem.W.mg_none_of X G Jo
 have dF:=PySem.W.mg_none_of X G yP
 have Jh:=PySem.W.mg_none_of X G Jp
 have Ji:=PySem.W.mg_none_of X G Jq
 have ur:=PySem.W.mg_none_of X G DG
 have gY:=PySem.W.mg_none_of X G lT
 have A8:=PySem.W.mg_none_of X G Jr
 have A9:=PySem.W.mg_none_of X G Js
 refine⟨PySem.W.fnOf "law" "law" (bS oH) (bL oH) (aH oH) .none Ma Mb Mc L0 Jk Me,fun s v=>.of_eq rfl,fun base _ _=>?_⟩
 have rL:=pg (P:=l.prog) (w:=w) (K:=K) (mg:=mg) (base:=base) (n:=0) F1 bV (fm:=gj) C6
 have Be:=w5 (P:=l.prog) (w:=w) (K:=K) (mg:=mg) (base:=base) (n:=0) F2 eL (fm:=jJ) Fc
 have Bf:=xg (P:=l.prog) (w:=w) (K:=K) (mg:=mg) (base:=base) (n:=0) F3 eL bV nq (fm:=dB) AX
 have sN:=p8 (P:=l.prog) (w:=w) (K:=K) (mg:=mg) (base:=base) (n:=0) F5 (fm:=dW) AY
 have uv:=xh (P:=l.prog) (w:=w) (K:=K) (mg:=mg) (base:=base) (n:=0) F6 (fm:=wA) E3
 have iL:=nu (P:=l.prog) (w:=w) (K:=K) (mg:=mg) (base:=base) (n:=0) So bV (fm:=fK) C9
 have rM:=pG (P:=l.prog) (w:=w) (K:=K) (mg:=mg) (base:=base) (n:=0) Sv eL (fm:=jS) Dp
 have sO:=p7 (P:=l.prog) (w:=w) (K:=K) (mg:=mg) (base:=base) (n:=1) F4 zX Jf eL Jg dF (rL.mono (by omega)) b1 k1 n1 (Be.mono (by omega)) b2 k2 n2 (Bf.mono (by omega)) b3 k3 n3 (sN.mono (by omega)) b5 k5 n5 (fm:=wQ) Dn
 have yQ:=vf (P:=l.prog) (w:=w) (K:=K) (mg:=mg) (base:=base) (n:=1) F7 eL Jh (uv.mono (by omega)) b6 k6 n6 (fm:=pT) C3
 have rN:=vg (P:=l.prog) (w:=w) (K:=K) (mg:=mg) (base:=base) (n:=1) F8 (uv.mono (by omega)) b6 k6 n6 (fm:=fh) C4
 have Bg:=xj (P:=l.prog) (w:=w) (K:=K) (mg:=mg) (base:=base) (n:=1) Su (iL.mono (by omega)) Q8 JY Q9 (fm:=wX) DB
 have sP:=qb (P:=l.prog) (w:=w) (K:=K) (mg:=mg) (base:=base) (n:=1) Sy ur eL bV dF (rM.mono (by omega)) VU M5 VV (fm:=M1) IU
 have vo:=rA (P:=l.prog) (w:=w) (K:=K) (mg:=mg) (base:=base) (n:=1) Sz gY dF A8 (iL.mono (by omega)) Q8 JY Q9 (fm:=ve) A0
 have xw:=su (P:=l.prog) (w:=w) (K:=K) (mg:=mg) (base:=base) (n:=2) F9 bV Ji dF (rN.mono (by omega)) b8 k8 n8 (fm:=AQ) C7
 have sQ:=p9 (P:=l.prog) (w:=w) (K:=K) (mg:=mg) (base:=base) (n:=2) Ss eL bV dF (rN.mono (by omega)) b8 k8 n8 (iL.mono (by omega)) Q8 JY Q9 (fm:=zG) Dc
 have rO:=pH (P:=l.prog) (w:=w) (K:=K) (mg:=mg) (base:=base) (n:=2) SA eL bV ur A9 (Bg.mono (by omega)) VS Hz VT (fm:=FI) FJ
 exact Jj (P:=l.prog) (w:=w) (K:=K) (mg:=mg) (base:=base) (n:=3) V2 bV eL A9 gY dF A8 (xw.mono (by omega)) b9 k9 n9 (yQ.mono (by omega)) b7 k7 n7 (sQ.mono (by omega)) VQ M4 VR (sO.mono (by omega)) b4 k4 n4 (sP.mono (by omega)) VW M6 VX (vo.mono (by omega)) VY M7 VZ (rO.mono (by omega)) V0 M8 V1 A3
theorem walk {l:PySem.W.OpenLaw}{q:Program}{loose:List Str}{XP:(Str->Option Value)->Heap->Prop}{YP:World->Heap->Prop}{d:DefRec}{K:Params->PySem.W.Frag}(hn:l.most=some 63) (hdf:d.params.defaults=[])
  (hY:∀(w:World) (h:Heap),YP w h->(K w.params).In h)
  (F:∀(w:World) (mg:Str->Option Value) (fa:Addr) (h:Heap),(K w.params).In h->h.Ns mainGlobals mg->mg d.name=some (.ref fa)->
   ∃fd:FuncData,(∀(s:Shared) (u:Value),BindsTo s fd ⟨[u],[]⟩ [("_law_script",u)])/\∀base:Heap,(K w.params).In base->base.Ns mainGlobals mg->cD l.prog w (K w.params) mg base jE 4 fa fd ["_law_script"] (spT (K w.params) 1 (yx 63))):
  PySem.W.WalkO q loose XP YP l.row.toRowW d [] (fun f vs=>PySem.call f vs):=
 L2.Ei (n:=63) (k:=4) (x:="_law_script") (CX:=fun _=>jE) (sp:=fun w=>spT (K w.params) 1 (yx 63)) hn (by decide) hdf ⟨rfl,by decide,by decide,rfl⟩ hY F (fun w H a ns hl hO hS=>IA hl hO hS) fun _ _ _ _ _ z=>z
end K41
open PySem PySem.W PyProof.Rows
noncomputable def PySem.W.Fast.tw1402951195663497306:Nat->Stmt:=K41.top
theorem PySem.W.Fast.te1402951195663497306:K41.top=PySem.W.Fast.tw1402951195663497306:=rfl
def K41.sc:Scope:=PySem.Challenge.pw_surewatch_k41_parting_rows.main.scope
noncomputable def PySem.W.Fast.tw6504454626219221902:Scope:=K41.sc
theorem PySem.W.Fast.te6504454626219221902:K41.sc=PySem.W.Fast.tw6504454626219221902:=rfl
def K41.pw:Program:={main:={body:=[K41.top 0,K41.top 1,K41.top 2,K41.top 3,K41.top 4,K41.top 5,K41.top 6,K41.top 7,K41.top 8,K41.top 9,K41.top 10,K41.top 11,K41.top 12,K41.top 13,K41.top 14,K41.top 15,K41.top 16,K41.top 17,K41.top 18,K41.top 19,K41.top 20],scope:=K41.sc,futureAnnotations:=false,file:="/claim/cut.py",more:=[]},modules:=[],parses:=[],absent:=[],harvested:=[],given:={argv:=[],stdin:=[],environ:=some [([76,67,95,65,76,76],[67,46,85,84,70,45,56])]}}
def K41.rw:OpenLaw:={prog:=K41.pw,name:=(PySem.Str.ofString "law"),about:=[(PySem.Str.ofString "parting_rows")],foot:=12,most:=some 63,bound:=none,writes:=false}
noncomputable def PySem.W.Fast.tw8185868530292454048:=0
noncomputable def PySem.W.Fast.tw7408560516838052094:=0
noncomputable def PySem.W.Fast.tw7878688264838247497:=0
noncomputable def PySem.W.Fast.tw7111360641339916796:=0
noncomputable def PySem.W.Fast.tw7070103855778662050:=0
noncomputable def PySem.W.Fast.tw11604993966701738624:=0
noncomputable def PySem.W.Fast.tw11332537198946156321:=0
noncomputable def PySem.W.Fast.tw10670292536520172601:=0
noncomputable def PySem.W.Fast.tw2555521404421402064:=0
noncomputable def PySem.W.Fast.tw1953809453703423160:=0
noncomputable def PySem.W.Fast.tw16680345717960170537:=0
noncomputable def PySem.W.Fast.tw3832054289272473836:=0
noncomputable def PySem.W.Fast.tw16290741526407040522:=0
noncomputable def PySem.W.Fast.tw2154626810234458147:=0
noncomputable def PySem.W.Fast.tw4569306141300982286:=0
noncomputable def PySem.W.Fast.tw12888501694406814588:=0
noncomputable def PySem.W.Fast.tw4064908412176430919:=0
noncomputable def PySem.W.Fast.tw2641867374420937596:=0
noncomputable def PySem.W.Fast.tw12477660046027248440:=0
noncomputable def PySem.W.Fast.tw6419987607000015674:=0
noncomputable def PySem.W.Fast.tw15061718734490430786:=0
noncomputable def PySem.W.Fast.tw14884294130330864840:=0
noncomputable def PySem.W.Fast.tw9746493106819620890:=0
noncomputable def PySem.W.Fast.tw7356498982662032537:=0
noncomputable def PySem.W.Fast.tw7587006305462501043:=0
noncomputable def PySem.W.Fast.tw5175020215356586416:=0
noncomputable def PySem.W.Fast.tw12382269520544658799:=0
noncomputable def PySem.W.Fast.tw18144833135930054151:=0
noncomputable def PySem.W.Fast.tw18239598597967675983:=0
noncomputable def PySem.W.Fast.tw11387967038541908750:=0
noncomputable def PySem.W.Fast.tw16484422064861917563:=0
noncomputable def PySem.W.Fast.tw5922286365860755624:=0
noncomputable def PySem.W.Fast.tw10856557668676280569:=0
set_option maxRecDepth 100000 in
set_option maxHeartbeats 0 in
theorem K41.holds:K41.rw.Holds:=by
 w_on;o_law;k_head;(case hw=>w_witness2)
 k_fill
 refine K41.walk (l:=K41.rw) rfl rfl (fun w h Y=>PySem.W.kIn_of Y) ?F
 case F=>
  intro w mg fa h KX G hmg
  refine' K41.all_mk KX G hmg ?a1 ?l1 ?c1 ?k1 ?a2 ?l2 ?c2 ?k2 ?a3 ?l3 ?c3 ?k3 ?a4 ?l4 ?c4 ?k4 ?a5 ?l5 ?c5 ?k5 ?a6 ?l6 ?c6 ?k6 ?a7 ?l7 ?c7 ?k7 ?a8 ?l8 ?c8 ?k8 ?a9 ?l9 ?c9 ?k9 ?a10 ?QO ?QS ?JY ?a11 ?QT ?QU ?M4 ?a12 ?QV ?c12 ?Hz ?a13 ?QW ?QX ?M5 ?a14 ?QY ?QZ ?M6 ?a15 ?Q0 ?Q2 ?M7 ?a16 ?Q3 ?Q4 ?M8 ?a17 ?Q5 ?Q6 ?Q7 ?yO ?Jl ?nB ?DF ?Jm ?Jo ?yP ?Jp ?Jq ?DG ?lT ?Jr ?Js
  (case a1=>k_is);(case l1=>k_is);(case c1=>k_is);(case k1=>k_is)
  (case a2=>k_is);(case l2=>k_is);(case c2=>k_is);(case k2=>k_is)
  (case a3=>k_is);(case l3=>k_is);(case c3=>k_is);(case k3=>k_is)
  (case a4=>k_is);(case l4=>k_is);(case c4=>k_is);(case k4=>k_is)
  (case a5=>k_is);(case l5=>k_is);(case c5=>k_is);(case k5=>k_is)
  (case a6=>k_is);(case l6=>k_is);(case c6=>k_is);(case k6=>k_is)
  (case a7=>k_is);(case l7=>k_is);(case c7=>k_is);(case k7=>k_is)
  (case a8=>k_is);(case l8=>k_is);(case c8=>k_is);(case k8=>k_is)
  (case a9=>k_is);(case l9=>k_is);(case c9=>k_is);(case k9=>k_is)
  (case a10=>k_is);(case QO=>k_is);(case QS=>k_is);(case JY=>k_is)
  (case a11=>k_is);(case QT=>k_is);(case QU=>k_is);(case M4=>k_is)
  (case a12=>k_is);(case QV=>k_is);(case c12=>k_is);(case Hz=>k_is)
  (case a13=>k_is);(case QW=>k_is);(case QX=>k_is);(case M5=>k_is)
  (case a14=>k_is);(case QY=>k_is);(case QZ=>k_is);(case M6=>k_is)
  (case a15=>k_is);(case Q0=>k_is);(case Q2=>k_is);(case M7=>k_is)
  (case a16=>k_is);(case Q3=>k_is);(case Q4=>k_is);(case M8=>k_is)
  (case a17=>k_is);(case Q5=>k_is);(case Q6=>k_is);(case Q7=>k_is)
  (case yO=>k_is);(case Jl=>k_is);(case nB=>k_is);(case DF=>k_is);(case Jm=>k_is);(case Jo=>k_is);(case yP=>k_is);(case Jp=>k_is);(case Jq=>k_is);(case DG=>k_is);(case lT=>k_is);(case Jr=>k_is);(case Js=>k_is)
theorem PySem.Challenge.cw_surewatch_k41_parting_rows_holds : PySem.Challenge.rw_surewatch_k41_parting_rows.Holds :=
 K41.holds
