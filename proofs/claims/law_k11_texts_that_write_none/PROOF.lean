import PyProof.Rows.All
import Wide.All
import OpenK.AllK
import Wide.FinOn
import PyProof.EqAt
import PyProof.EqKinds
import PyProof.TupleCall
import Lean
import PySem.Challenge.RW_surewatch_k11_texts_that_write_none
set_option Elab.async false
set_option linter.all false
set_option maxRecDepth 100000
abbrev BBB:=List PySem.Str
abbrev BBC:=List PySem.Expr
abbrev BBD:=List Int
abbrev BBE:=List PySem.Addr
abbrev BBF:=List PySem.Env
abbrev BBG:=List PySem.Value
abbrev BBH:=List PySem.Stmt
abbrev BBI:=List PySem.Keyword
abbrev BBJ:=List Nat
abbrev BBL:=Option PySem.Expr
abbrev BBM:=Option Int
abbrev BBN:=Option PySem.Addr
abbrev BBP:=Option PySem.Value
abbrev BBS:=Option Nat
noncomputable section
abbrev BBT(x:PySem.Str):Prop:=(x == ("__debug__":PySem.Str))=false
abbrev BBU(x:PySem.Str):Prop:=(x == ("__classdict__":PySem.Str))=false
abbrev AAD:=PySem.W.Frag
abbrev AAE:=PySem.Value->PySem.Shared->Prop
abbrev AAF:=PySem.Str->Option PySem.Value
abbrev AAG:=List (PySem.Addr×PySem.Obj)
abbrev AAJ:=List (PySem.Str×Int)
abbrev AAK:=Array PySem.Value
abbrev AAL:=List PySem.Value
abbrev aae:=@PySem.wpAny_bind
abbrev aag:=@Option.bind_some
abbrev aah:=@PySem.wpAny_pure
abbrev aam:=@List.size_toArray
abbrev aan:=@PySem.Heap.get?_push_of_some
abbrev aao:=@List.mem_cons
abbrev aap:=@Nat.le_refl
abbrev aaq:=@PySem.Heap.lt_size
abbrev aar:=@List.length_cons
abbrev aas:=@List.length_map
abbrev aat:=@PySem.wpAny_mono
abbrev aau:=@Nat.lt_of_lt_of_le
abbrev aav:=@List.mem_singleton
abbrev aaw:=@List.mem_append_right
abbrev aax:=@List.map_cons
abbrev aay:=@List.getElem?_eq_some_iff
abbrev aaz:=@List.mem_cons_of_mem
abbrev aaA:=@Nat.le_trans
abbrev aaB:=@List.length_append
abbrev aaF:=@PySem.W.mg_of
abbrev aaG:=@List.getElem?_set_ne
abbrev aa4:=@List.not_mem_nil
abbrev aa5:=@PySem.Heap.get?_push_size
abbrev aa6:=@PyProof.Rows.slot_tuple_getitem
abbrev abe:=@List.map_nil
abbrev abf:=@List.mem_cons_self
abbrev abg:=@decide_eq_false
abbrev abh:=@Option.some.inj
abbrev abi:=@List.getElem?_map
abbrev abr:=@Nat.ne_of_lt
abbrev abt:=@Bool.and_eq_true
abbrev abu:=@List.getElem?_eq_getElem
abbrev abv:=@List.getElem?_set_self
abbrev abw:=@Array.length_toList
abbrev abx:=@PySem.W.mg_none_of
abbrev abA:=@PySem.Calls.spliced_cons
abbrev abB:=@PySem.Heap.get?_update_other
abbrev abN:=@PySem.wpAny_newObj_type
abbrev abO:=@decide_eq_true_eq
abbrev abP:=@List.mem_append
abbrev abS:=@PySem.wpAny_passesOwn
abbrev abU:=@List.append_nil
abbrev abV:=@List.mem_append_left
abbrev abW:=@PySem.wpAny_holding
abbrev ab2:=@Array.getElem?_eq_some_iff
abbrev ab5:=@PySem.wpAny_field
abbrev ab7:=@PySem.wpAny_truthy_bool
abbrev ab9:=@List.replicate_succ
abbrev ace:=@Classical.byContradiction
abbrev acf:=@PySem.wpAny_Call_Name_kw
abbrev acg:=@or_false
abbrev ach:=@List.mem_of_getElem?
abbrev aci:=@List.nodup_cons
abbrev ack:=@List.find?_cons
abbrev acm:=@List.length_nil
abbrev acn:=@List.length_set
abbrev acq:=@PySem.mem_of_lookup
abbrev acw:=@PySem.F.slot_str_split
abbrev acy:=@Nat.lt_irrefl
abbrev acz:=@Ne.symm
abbrev acA:=@PySem.W.callWith_K
abbrev acB:=@decide_eq_true
abbrev acC:=@PySem.Heap.get?_update_self
abbrev acD:=@List.length_singleton
abbrev acE:=@PySem.boot_len
abbrev acF:=@Nat.le_of_ble_eq_true
abbrev acG:=@List.drop_eq_getElem_cons
abbrev acH:=@List.getElem?_eq_none_iff
abbrev acI:=@Nat.zero_le
abbrev acJ:=@PySem.W.looks_findIn
abbrev acK:=@List.mem_map
abbrev acL:=@Int.add_zero
abbrev acS:=@PySem.wpAny_loadPart_at
abbrev adD:=@List.filter_cons_of_pos
abbrev adE:=@List.filter_cons_of_neg
abbrev adF:=@PySem.Calls.callWith_builtin
abbrev adG:=@PySem.Heap.size_after_update
abbrev adH:=@PySem.Obj.data_mapFields
abbrev adI:=@PySem.W.kia_one
abbrev adJ:=@Option.map_some
abbrev adK:=@PyProof.Rows.Boot.str
abbrev adL:=@PySem.PassesOwn.never
abbrev adM:=@PySem.F.slot_str_join
abbrev adN:=@PySem.F.type_str_join
abbrev adO:=@List.flatten_cons
abbrev adP:=@PySem.Calls.evalArgs_plain
abbrev adQ:=@Bool.and_eq_true_iff
abbrev adR:=@List.length_drop
abbrev adU:=@List.all_eq_true
abbrev adW:=@List.lookup_cons
abbrev ad3:=@List.cons_ne_nil
abbrev ad5:=@beq_eq_false_iff_ne
abbrev ad6:=@List.filterMap_cons
abbrev ad7:=@PySem.wpAny_getItem_str_slice
abbrev aeg:=@PyProof.Rows.Boot.tuple
abbrev aeh:=@Bool.false_ne_true
abbrev aei:=@Int.emod_lt_of_pos
abbrev aej:=@List.map_append
abbrev aek:=@of_decide_eq_true
abbrev aen:=@PySem.Calls.spliced_nil
abbrev aet:=@PySem.W.methodCall_KW
abbrev aev:=@PySem.F.slot_dict_get
abbrev aew:=@List.nodup_nil
abbrev aeA:=@PyProof.Rows.Boot.isinstance
abbrev aeC:=@PySem.Obj.isFreed_of_fields
abbrev aeD:=@PySem.wpAny_call
abbrev aeE:=@PySem.wpAny_isSubtype_exc
abbrev aeF:=@List.getElem?_append_left
abbrev aeG:=@Int.emod_nonneg
abbrev aeH:=@PySem.codeAny_mono
abbrev aeI:=@PySem.F.args_tuple_add_2
abbrev aeJ:=@PySem.F.args_str_split_2
abbrev aeK:=@Nat.pow_succ
abbrev aeL:=@PySem.typeIs_str
abbrev aeM:=@PySem.call_meets
abbrev aeN:=@PySem.F.plainAttrs_dict
abbrev aeO:=@PySem.F.entry_tuple_add
abbrev aeP:=@PySem.wpAny_callSpecial?_slot
abbrev aeQ:=@PySem.F.entry_str_split
abbrev aeR:=@PySem.wpAny_Call_method
abbrev aeS:=@Int.toNat_natCast
abbrev aeT:=@List.append_assoc
abbrev aeU:=@List.reverse_cons
abbrev aeV:=@List.flatMap_cons
abbrev aeW:=@PySem.sizeLine_eq
abbrev aeX:=@PySem.F.slot_tuple_add
abbrev aeY:=@List.drop_of_length_le
abbrev aeZ:=@PySem.F.type_str_split
abbrev ae0:=@List.any_cons
abbrev ae1:=@PySem.wpAny_execs_cons
abbrev afd:=@List.length_take
abbrev afe:=@if_false
abbrev afg:=@List.drop_length
abbrev afh:=@Classical.choose_spec
abbrev afi:=@PySem.plainObj_wpAny_Assign_Attribute
abbrev afj:=@Nat.le_of_lt
abbrev afl:=@PySem.Heap.get?_none_of_le
abbrev afm:=@PySem.wpAny_execs_nil
abbrev afn:=@beq_iff_eq
abbrev afo:=@PySem.wpAny_typeOf
abbrev afp:=@PySem.Txt.slice_le
abbrev afq:=@PySem.post_val_or_str
abbrev afr:=@PySem.codeAny_call_builtin
abbrev afw:=@Nat.not_lt
abbrev afx:=@PySem.W.plainGet_of
abbrev afy:=@PySem.W.looks_clsIn
abbrev afz:=@PySem.W.callWith_K0
abbrev afA:=@List.length_reverse
abbrev afB:=@PySem.Heap.size_push
abbrev afC:=@PyProof.Rows.slicePart_none
abbrev afD:=@Bool.and_false
abbrev afE:=@PySem.wpAny_setField
abbrev afF:=@PyProof.Rows.callWith_type1
abbrev afG:=@List.all_cons
abbrev afH:=@PySem.wpAny_standAt
abbrev afI:=@Sum.inr.injEq
abbrev afJ:=@List.getD_eq_getElem?_getD
abbrev afK:=@PySem.wpAny_sequenceKey
abbrev afL:=@PySem.slot_list_getitem
abbrev afM:=@PySem.F.slot_dict_getitem
abbrev afN:=@List.mem_of_find?_eq_some
abbrev afO:=@Nat.lt_succ_self
abbrev afP:=@PySem.noFill_tuple_add
abbrev afQ:=@PySem.wpAny_call_entry
abbrev afR:=@PySem.F.slot_dict_update
abbrev afS:=@List.any_eq_true
abbrev afT:=@PySem.F.slot_list_append
abbrev afU:=@PySem.F.type_list_append
abbrev afV:=@List.getElem?_replicate
abbrev afW:=@PySem.F.args_dict_get_3
abbrev afX:=@Int.eq_ofNat_of_zero_le
abbrev afY:=@List.of_mem_zip
abbrev afZ:=@Nat.le_succ
abbrev af0:=@List.mem_range
abbrev af1:=@Bool.false_and
abbrev af2:=@List.map_drop
section
section
namespace L2
open PySem PySem.Spec PyProof.Rows
inductive D where
 | cM | bl (b:Bool) | int (i:Int) | str (z:Str) | tup (ds:List D) | lst (ds:List D)
mutual
noncomputable def D.same:D->D->Bool
 | .cM,.cM=>true
 | .bl a,.bl b=>a == b
 | .int a,.int b=>a == b
 | .str a,.str b=>decide (a=b)
 | .tup a,.tup b=>D.xP a b
 | .lst a,.lst b=>D.xP a b
 | _,_=>false
noncomputable def D.xP:List D->List D->Bool
 | [],[]=>true
 | a :: as,b :: bs=>D.same a b && D.xP as bs
 | _,_=>false
end
mutual
theorem D.same_refl:∀a:D,D.same a a=true
 | .cM=>rfl
 | .bl _=>by simp[D.same]
 | .int _=>by simp[D.same]
 | .str _=>by simp[D.same]
 | .tup a=>by unfold D.same;exact D.wj a
 | .lst a=>by unfold D.same;exact D.wj a
theorem D.wj:∀a:List D,D.xP a a=true
 | []=>rfl
 | a :: as=>by unfold D.xP;rw[D.same_refl a,D.wj as];rfl
end
mutual
theorem D.same_eq:∀{a b:D},D.same a b=true->a=b
 | .cM,b,h=>by cases b <;> simp[D.same] at h ⊢
 | .bl _,b,h=>by cases b <;> simp[D.same] at h ⊢;exact h
 | .int _,b,h=>by cases b <;> simp[D.same] at h ⊢;exact h
 | .str _,b,h=>by cases b <;> simp[D.same] at h ⊢;exact h
 | .tup a,b,h=>by
  cases b with
  | tup b=>unfold D.same at h;rw[D.A0 h]
  | _=>simp[D.same] at h
 | .lst a,b,h=>by
  cases b with
  | lst b=>unfold D.same at h;rw[D.A0 h]
  | _=>simp[D.same] at h
theorem D.A0:∀{a b:List D},D.xP a b=true->a=b
 | [],b,h=>by cases b <;> simp[D.xP] at h ⊢
 | a :: as,b,h=>by
  cases b with
  | nil=>simp[D.xP] at h
  | cons b bs=>
   unfold D.xP at h;rw[abt] at h;rw[D.same_eq h.1,D.A0 h.2]
end
noncomputable instance:DecidableEq D:=fun a b=>if h:D.same a b=true then isTrue (D.same_eq h) else isFalse fun e=>h (e▸D.same_refl a)
noncomputable def bI (b:Bool):Int:=if b then 1 else 0
mutual
noncomputable def nf:D->D
 | .bl b=>.int (bI b)
 | .tup ds=>.tup (nfs ds)
 | d=>d
noncomputable def nfs:List D->List D
 | []=>[]
 | d :: ds=>nf d :: nfs ds
end
noncomputable def Dw:Nat->D->Bool
 | _,.bl _=>true
 | _,.int _=>true
 | _,.str _=>true
 | n+1,.tup ds=>ds.all (Dw n)
 | _,_=>false
section
variable {prog:Program}{w:World}{E:AAE}
def EW {A:Around}{s:Shared}{b:Bool}{Q:Int->Shared->Prop}(h:Q (hashInt (bI b)) {s with toks:=s.toks+1}):wpAny (model prog w) A (pyHash (.bool b)) Q E s:=by
 refine PySem.W.pyHash_slot (T:="bool") rfl F.slot_bool_hash F.entry_int_hash (F.args_int_hash_1 _) (beq_builtin_none _) (.inl rfl) ?_;cases b
 ·exact(show wpAny _ _ (do ret (<-mkInt 0)) _ _ s from aae (wpAny_mkInt (aah ⟨_,_,rfl,h⟩)))
 ·exact(show wpAny _ _ (do ret (<-mkInt 1)) _ _ s from aae (wpAny_mkInt (aah ⟨_,_,rfl,h⟩)))
end
end L2
end
namespace L2
open PySem PySem.Spec PyProof.Rows
variable {H H':Hp}{a C:Addr}{o:Obj}{u:Value}{P prog:Program}{w:World}{g':Array GenState}{t' i k:Nat}{ch fp:BBE}{N ps:BBB}{x qual:Str}{M:Model}{A:Around}{E Q:AAE}{X:Cx}{pos:Pos}{pins:AAG}{σ:St}{op:CmpOp}{K:AAD}{es:BBC}{tg:Expr}{body:BBH}{r:R2}{g:Int->Int->Int}{us:AAL}{y:V}{mA mg:AAF}{pl:Sem Bool}{kw:List (Str×Value)}{base:Heap}{outer:BBF}{vs:List V}{scope:Scope}{kvs:List (D×V)}{Qi:List (TE×TE)}
abbrev Key:=Sum Int Str
def A1:Key->Value->Bool
 | .inl k,.bool b=>decide (k=bI b)
 | .inl k,v=>Value.isInt k v
 | .inr x,v=>Value.isStrOf x v
noncomputable def aby (w:World):Key->Int
 | .inl k=>hashInt k
 | .inr x=>hashStr w x
theorem eG:∀{k:Key}{v:Value},A1 k v=true->(∃i t,k=Sum.inl i/\v=Value.int i t)\/(∃b,k=Sum.inl (bI b)/\v=Value.bool b)\/(∃x t,k=Sum.inr x/\v=Value.str x t)
 | .inl i,v,h=>by
  cases v with
  | bool b=>exact .inr (.inl ⟨b,by rw[aek (show decide (i=bI b)=true from h)],rfl⟩)
  | int j t=>obtain⟨t,e⟩:=Value.isInt_shape (k:=i) (v:=Value.int j t) h;exact .inl ⟨i,t,rfl,e⟩
  | _=>exact absurd h (by simp[A1,Value.isInt])
 | .inr x,v,h=>by
  obtain⟨t,e⟩:=Value.isStrOf_shape (x:=x) (v:=v) h;exact .inr (.inr ⟨x,t,rfl,e⟩)
def Kq (i:Int) (t:Tok):A1 (.inl i) (.int i t)=true:=by simp[A1,Value.isInt]
def Kr (x:Str) (t:Tok):A1 (.inr x) (.str x t)=true:=by simp[A1,Value.isStrOf]
def Dy (a b:Int):decide ((Sum.inl a:Key)=Sum.inl b)=(a == b):=by
 by_cases e:a=b
 ·subst e;simp
 ·have h:¬(Sum.inl a:Key)=Sum.inl b:=fun q=>e (Sum.inl.inj q);rw[abg h];exact(ad5.mpr e).symm
def Up (a b:Str):decide ((Sum.inr a:Key)=Sum.inr b)=decide (a=b):=by
 by_cases e:a=b
 ·subst e;simp
 ·have h:¬(Sum.inr a:Key)=Sum.inr b:=fun q=>e (Sum.inr.inj q);rw[abg h,abg e]
def Mi (a:Int) (b:Str):decide ((Sum.inl a:Key)=Sum.inr b)=false:=abg (fun q=>nomatch q)
def Mj (a:Str) (b:Int):decide ((Sum.inr a:Key)=Sum.inl b)=false:=abg (fun q=>nomatch q)
def dZ (prog:Program) (w:World):PySem.KeyKind prog w Key where
 is:=A1
 hash:=aby w
 inj:=fun v a b ha hb=>by
  rcases eG ha with⟨i,t,rfl,rfl⟩ | ⟨c,rfl,rfl⟩ | ⟨x,t,rfl,rfl⟩
  ·rcases eG hb with⟨j,u,rfl,e⟩ | ⟨c',rfl,e⟩ | ⟨y,u,rfl,e⟩
   ·injection e with e1 _;rw[e1]
   ·exact nomatch e
   ·exact nomatch e
  ·rcases eG hb with⟨j,u,rfl,e⟩ | ⟨c',rfl,e⟩ | ⟨y,u,rfl,e⟩
   ·exact nomatch e
   ·injection e with e1;rw[e1]
   ·exact nomatch e
  ·rcases eG hb with⟨j,u,rfl,e⟩ | ⟨c',rfl,e⟩ | ⟨y,u,rfl,e⟩
   ·exact nomatch e
   ·exact nomatch e
   ·injection e with e1 _;rw[e1]
 byValue:=fun k v h=>by
  rcases eG h with⟨i,t,rfl,rfl⟩ | ⟨c,rfl,rfl⟩ | ⟨x,t,rfl,rfl⟩ <;> rfl
 pyHash:=fun hv h=>by
  rcases eG hv with⟨i,t,rfl,rfl⟩ | ⟨c,rfl,rfl⟩ | ⟨x,t,rfl,rfl⟩
  ·exact wpAny_pyHash_int h
  ·exact EW h
  ·exact wpAny_pyHash_str h
 eqBool:=fun hu hv h=>by
  rcases eG hu with⟨i,t,rfl,rfl⟩ | ⟨c,rfl,rfl⟩ | ⟨x,t,rfl,rfl⟩
  ·rcases eG hv with⟨j,u,rfl,rfl⟩ | ⟨c',rfl,rfl⟩ | ⟨y,u,rfl,rfl⟩
   ·rw[Dy] at h;exact wpAny_eqBool_int h
   ·rw[Dy] at h;exact SeqAt.EqAt.int_bool i t c' _ _ _ _ h
   ·rw[Mi] at h;exact SeqAt.EqAt.int_str i t y u _ _ _ _ h
  ·rcases eG hv with⟨j,u,rfl,rfl⟩ | ⟨c',rfl,rfl⟩ | ⟨y,u,rfl,rfl⟩
   ·rw[Dy] at h;exact SeqAt.EqAt.bool_int c j u _ _ _ _ h
   ·have e:(bI c == bI c')=(c == c'):=by cases c <;> cases c' <;> rfl
    rw[Dy,e] at h;exact SeqAt.EqAt.bool_bool c c' _ _ _ _ h
   ·rw[Mi] at h;exact SeqAt.EqAt.bool_str c y u _ _ _ _ h
  ·rcases eG hv with⟨j,u,rfl,rfl⟩ | ⟨c',rfl,rfl⟩ | ⟨y,u,rfl,rfl⟩
   ·rw[Mj] at h;exact SeqAt.EqAt.str_int x t j u _ _ _ _ h
   ·rw[Mj] at h;exact SeqAt.EqAt.str_bool x t c' _ _ _ _ h
   ·rw[Up] at h;exact wpAny_eqBool_str h
 «strs»:=fun k x t v h=>by
  rcases eG h with⟨i,u,rfl,e⟩ | ⟨c,rfl,e⟩ | ⟨y,u,rfl,e⟩
  ·exact nomatch e
  ·exact nomatch e
  ·injection e with e1 _
   subst e1;cases v <;> rfl
def EX (prog:Program) (w:World) (i:Int) (t:Tok):(dZ prog w).is (.inl i) (.int i t)=true:=Kq i t
def tM (prog:Program) (w:World) (x:Str) (t:Tok):(dZ prog w).is (.inr x) (.str x t)=true:=Kr x t
inductive V where
 | cM | bl (b:Bool) | int (i:Int) | str (x:Str) | byt (b:Array UInt8) | flt (b:UInt64) | ref (a:Addr) | ty (n:String)
 deriving DecidableEq
def RelV:V->Value->Prop
 | .cM,u=>u=Value.none
 | .bl b,u=>u=Value.bool b
 | .int i,u=>∃t,u=Value.int i t
 | .str x,u=>∃t,u=Value.str x t
 | .byt b,u=>∃t,u=Value.bytes b t
 | .flt b,u=>∃t,u=Value.float b t
 | .ref a,u=>u=Value.ref a
 | .ty n,u=>u=Value.type n
abbrev Vals:List V->BBG->Prop:=Paired RelV
def Vals.length {xs:List V}{us:AAL}(r:Vals xs us):xs.length=us.length:=Paired.length r
theorem Vals.get:∀{xs:List V}{us:AAL}{i:Nat}{x:V},Vals xs us->xs[i]? =some x->∃u,us[i]? =some u/\RelV x u
 | _,_,_,_,.nil,e=>by simp at e
 | _,_,0,_,.cons r _,e=>by simp at e;subst e;exact⟨_,rfl,r⟩
 | _,_,i+1,x,.cons _ t,e=>by
  obtain⟨u,h1,h2⟩:=Vals.get (i:=i) (x:=x) t (by simpa using e);exact⟨u,by simpa using h1,h2⟩
theorem Vals.set {x:V}{u:Value}(r:RelV x u):∀{xs:List V}{us:AAL}(i:Nat),Vals xs us->Vals (xs.set i x) (us.set i u)
 | _,_,_,.nil=>.nil
 | _,_,0,.cons _ t=>.cons r t
 | _,_,i+1,.cons q t=>.cons q (Vals.set r i t)
theorem Vals.append:∀{xs ys:List V}{us ws:AAL},Vals xs us->Vals ys ws->Vals (xs++ys) (us++ws)
 | _,_,_,_,.nil,s=>s
 | _,_,_,_,.cons r t,s=>.cons r (Vals.append t s)
theorem Vals.take:∀{xs:List V}{us:AAL}(n:Nat),Vals xs us->Vals (xs.take n) (us.take n)
 | _,_,0,_=>.nil
 | _,_,_+1,.nil=>.nil
 | _,_,n+1,.cons r t=>.cons r (Vals.take n t)
theorem Vals.drop:∀{xs:List V}{us:AAL}(n:Nat),Vals xs us->Vals (xs.drop n) (us.drop n)
 | _,_,0,r=>r
 | _,_,_+1,.nil=>.nil
 | _,_,n+1,.cons _ t=>Vals.drop n t
def tN:Option V->BBP->Prop
 | some v,some u=>RelV v u
 | none,none=>True
 | _,_=>False
def KV {κ:Type}:List (κ×V)->List (κ×Value)->Prop:=Paired fun(p:κ×V) (q:κ×Value)=>p.1=q.1/\RelV p.2 q.2
noncomputable def kV:Key->V
 | .inl i=>.int i
 | .inr x=>.str x
inductive HO where
 | lst (xs:List V)
 | tup (xs:List V)
 | dK (kvs:List (Key×V)) | dT (kvs:List (D×V))
 | set (S:Int->Bool) (n:Nat)
 | ins (C dx:Addr) (fs:List (Str×V))
 | own (x:Addr)
 | vV (C dx:Addr) (fs:List (Str×V))
 | xd (fs:List (Str×V))
 | met (f x:Addr)
 | B6 (lo hi:Int)
 | mZ (o:Obj) (u:HO)
 | Tc (ps:AAK)
 | ext (φ:Heap->Prop)
abbrev Hp:=Addr->Option HO
mutual
inductive Rep (H:Hp):V->D->Prop
 | cM:Rep H .cM .cM
 | bl (b:Bool):Rep H (.bl b) (.bl b)
 | int (i:Int):Rep H (.int i) (.int i)
 | str (z:Str):Rep H (.str z) (.str z)
 | tup {a:Addr}{vs:List V}{ds:List D}(e:H a=some (.tup vs)) (r:bY H vs ds):Rep H (.ref a) (.tup ds)
 | lst {a:Addr}{vs:List V}{ds:List D}(e:H a=some (.lst vs)\/∃o,H a=some (.mZ o (.lst vs))) (r:bY H vs ds):Rep H (.ref a) (.lst ds)
inductive bY (H:Hp):List V->List D->Prop
 | nil:bY H [] []
 | cons {v:V}{d:D}{vs:List V}{ds:List D}(r:Rep H v d) (rs:bY H vs ds):bY H (v :: vs) (d :: ds)
end
mutual
theorem Rep.tups {H H':Hp}(ht:∀b xs,H b=some (.tup xs)->H' b=some (.tup xs)):∀(d:D){n:Nat}{v:V},Rep H v d->Dw n d=true->Rep H' v d
 | .cM,n,_,_,k=>by simp[Dw] at k
 | .bl b,n,_,r,k=>by cases r;exact .bl b
 | .lst _,n,_,_,k=>by simp[Dw] at k
 | .int i,n,_,r,k=>by cases r;exact .int i
 | .str i,n,_,r,k=>by cases r;exact .str i
 | .tup ds,n,_,r,k=>by
  cases n with
  | zero=>simp[Dw] at k
  | succ n=>
   cases r with
   | @tup a vs _ e rs=>exact .tup (ht _ _ e) (bY.tups ht ds rs k)
theorem bY.tups {H H':Hp}(ht:∀b xs,H b=some (.tup xs)->H' b=some (.tup xs)):∀(ds:List D){n:Nat}{vs:List V},bY H vs ds->ds.all (Dw n)=true->bY H' vs ds
 | [],n,_,r,k=>by cases r;exact .nil
 | d :: ds,n,_,r,k=>by
  rw[afG,abt] at k;cases r with
  | cons r1 r2=>exact .cons (Rep.tups ht d r1 k.1) (bY.tups ht ds r2 k.2)
end
def Kd (H:Hp) (b:Addr) (k:D):Prop:=∃d,Rep H (.ref b) d/\Dw 8 d=true/\nf d=k
def Kd.tups {H H':Hp}{b:Addr}{k:D}(x:Kd H b k) (ht:∀b xs,H b=some (.tup xs)->H' b=some (.tup xs)):Kd H' b k:=by
 obtain⟨d,r,hk,e⟩:=x;exact⟨d,Rep.tups ht d r hk,hk,e⟩
noncomputable def upd (H:Hp) (a:Addr) (o:HO):Hp:=fun b=>if b=a then some o else H b
def aY {o:HO}:upd H a o a=some o:=by unfold upd;rw[if_pos rfl]
def aX {b:Addr}{o:HO}(h:b≠a):upd H a o b=H b:=by unfold upd;rw[if_neg h]
def aeB {b:Addr}{o u:HO}(h:H a=some o) (h':H b=some u) (d:o≠u):a≠b:=by
 intro e;subst e;rw[h] at h';exact d (abh h')
def cD {b:Addr}{o:HO}(h:H a=some o) (h':H b=none):a≠b:=by
 intro e;subst e;rw[h] at h';cases h'
section
variable (P:Program)(w:World)
def g7 (H:Hp) (h:Heap) (a:Addr):HO->Prop
 | .lst xs=>xs.length<=sizeLine/\∃(its:AAL) (n:Nat),Vals xs its/\h.get? a=some {cls:=.type "list",data:=.seq its.toArray n}
 | .tup xs=>xs.length<=sizeLine/\∃its:BBG,Vals xs its/\IsTup h a its.toArray
 | .dK kvs=>kvs.length<=sizeLine/\(a == sysModules)=false/\∃vs,KV kvs vs/\h.DictOf (dZ P w) a vs
 | .dT _=>False
 | .set S n=>h.SetOf (intKind P w) a S n
 | .ins C dx fs=>H dx=some (.own a)/\fs.length<=1000/\dx≠a/\h.get? a=some (PySem.W.instObj C dx)/\
   ∃mA,h.Ns1 dx mA/\(∀f,tN (fs.lookup f) (mA f))/\PySem.Within mA (fs.map (·.1))
 | .vV C dx fs=>H dx=some (.own a)/\fs.length<=1000/\dx≠a/\(∃oe vs,h.get? a=some oe/\oe.cls= .ref C/\oe.dict=some dx/\oe.data= .fields vs)/\∃mA,h.Ns1 dx mA/\(∀f,tN (fs.lookup f) (mA f))/\PySem.Within mA (fs.map (·.1))
 | .own _=>∃o,h.get? a=some o
 | .xd fs=>∃mA,h.Ns1 a mA/\(∀f,tN (fs.lookup f) (mA f))/\PySem.Within mA (fs.map (·.1))
 | .B6 lo hi=>∃t u v,h.get? a=some {cls:=.type "range",data:=.fields #[.int lo t,.int hi u,.int 1 v]}
 | .mZ o u=>h.get? a=some o/\g7 H h a u
 | .Tc ps=>h.get? a=some {cls:=.none,data:=.fields ps}
 | .met f x=>h.get? a=some (PySem.W.methodObj (.ref f) (.ref x))
 | .ext φ=>φ h/\(∃o,h.get? a=some o)/\∀h1 h2:Heap,φ h1->(∀o,h1.get? a=some o->h2.get? a=some o)->φ h2
def sO (H:Hp) (h:Heap):Prop:=∀a o,H a=some o->g7 P w H h a o
end
section
variable {P:Program}{w:World}{H H':Hp}{h h':Heap}{a:Addr}{o:HO}
def g7.lt (x:g7 P w H h a o):a < h.objs.size:=by
 cases o with
 | lst xs=>obtain⟨_,_,_,_,e⟩:=x;exact aaq e
 | tup xs=>obtain⟨_,_,_,p⟩:=x;exact p.lt
 | dK kvs=>obtain⟨_,_,_,_,o,_,_,e,_⟩:=x;exact aaq e
 | dT kvs=>exact x.elim
 | set S n=>obtain⟨o,_,_,_,e,_⟩:=x;exact aaq e
 | ins C dx fs=>obtain⟨_,_,_,e,_⟩:=x;exact aaq e
 | vV C dx fs=>obtain⟨_,_,_,⟨_,_,e,_⟩,_⟩:=x;exact aaq e
 | own y=>obtain⟨_,e⟩:=x;exact aaq e
 | xd fs=>obtain⟨_,⟨_,_,_,e,_⟩,_⟩:=x;exact aaq e
 | B6 lo hi=>obtain⟨_,_,_,e⟩:=x;exact aaq e
 | mZ ob u=>obtain⟨e,_⟩:=x;exact aaq e
 | Tc ps=>exact aaq (show h.get? a=some _ from x)
 | met f y=>exact aaq (show h.get? a=some _ from x)
 | ext φ=>obtain⟨_,⟨_,e⟩,_⟩:=x;exact aaq e
theorem Paired.Ks {α β:Type}{F G:α->β->Prop}:∀{l₁:List α}{l₂:List β},Paired F l₁ l₂->(∀a b,F a b->G a b)->Paired G l₁ l₂
 | _,_,.nil,_=>.nil
 | _,_,.cons r t,f=>.cons (f _ _ r) (Paired.Ks t f)
def g7.stay (x:g7 P w H h a o) (k:∀b u,(b=a\/H b=some (.own a))->h.get? b=some u->h'.get? b=some u)
  (ho:∀b,H b=some (.own a)->H' b=some (.own a)) (ht:∀b xs,H b=some (.tup xs)->H' b=some (.tup xs)):g7 P w H' h' a o:=by
 induction o with
 | lst xs=>obtain⟨z,its,n,r,e⟩:=x;exact⟨z,its,n,r,k _ _ (.inl rfl) e⟩
 | tup xs=>obtain⟨z,its,r,ob,e,c⟩:=x;exact⟨z,its,r,ob,k _ _ (.inl rfl) e,c⟩
 | dK kvs=>obtain⟨z,y,vs,r,ob,es,ep,e,c⟩:=x;exact⟨z,y,vs,r,ob,es,ep,k _ _ (.inl rfl) e,c⟩
 | dT kvs=>exact x.elim
 | set S n=>obtain⟨ob,es,ep,t,e,c⟩:=x;exact⟨ob,es,ep,t,k _ _ (.inl rfl) e,c⟩
 | ins C dx fs=>
  obtain⟨d,z,ne,e,mA,⟨od,es,ep,e2,c⟩,r⟩:=x;exact⟨ho _ d,z,ne,k _ _ (.inl rfl) e,mA,⟨od,es,ep,k _ _ (.inr d) e2,c⟩,r⟩
 | vV C dx fs=>
  obtain⟨d,z,ne,⟨oe,vs,e,r1⟩,mA,⟨od,es,ep,e2,c⟩,r⟩:=x;exact⟨ho _ d,z,ne,⟨oe,vs,k _ _ (.inl rfl) e,r1⟩,mA,⟨od,es,ep,k _ _ (.inr d) e2,c⟩,r⟩
 | own y=>obtain⟨ob,e⟩:=x;exact⟨ob,k _ _ (.inl rfl) e⟩
 | xd fs=>obtain⟨mA,⟨od,es,ep,e,c⟩,r⟩:=x;exact⟨mA,⟨od,es,ep,k _ _ (.inl rfl) e,c⟩,r⟩
 | B6 lo hi=>obtain⟨t,u,v,e⟩:=x;exact⟨t,u,v,k _ _ (.inl rfl) e⟩
 | mZ ob u ih=>obtain⟨e,q⟩:=x;exact⟨k _ _ (.inl rfl) e,ih q⟩
 | Tc ps=>
  have e:h.get? a=some {cls:=.none,data:=.fields ps}:=x;show h'.get? a=some {cls:=.none,data:=.fields ps};exact k a _ (.inl rfl) e
 | met f y=>
  have e:h.get? a=some (PySem.W.methodObj (.ref f) (.ref y)):=x;show h'.get? a=some (PySem.W.methodObj (.ref f) (.ref y));exact k a _ (.inl rfl) e
 | ext φ=>obtain⟨p,⟨o,e⟩,st⟩:=x;exact⟨st _ _ p fun o q=>k _ _ (.inl rfl) q,⟨o,k _ _ (.inl rfl) e⟩,st⟩
def sO.lt (x:sO P w H h) (e:H a=some o):a < h.objs.size:=(x a o e).lt
def sO.fresh (x:sO P w H h) (e:h.objs.size<=a):H a=none:=by
 cases q:H a with
 | none=>rfl
 | some u=>exact absurd (aau (x.lt q) e) (acy _)
def sO.kept (x:sO P w H h) (k:∀b u,h.get? b=some u->h'.get? b=some u):sO P w H h':=fun a o e=>
 (x a o e).stay (fun b u _ q=>k b u q) (fun _ q=>q) fun _ _ q=>q
def sO.laid (x:sO P w H h) (k:∀b u,h.get? b=some u->h'.get? b=some u) (hp:h.objs.size<=a) (new:g7 P w (upd H a o) h' a o):sO P w (upd H a o) h':=fun b u e=>by
 have hn:=x.fresh hp;by_cases hb:b=a
 ·subst hb;rw[aY] at e;cases e;exact new
 ·rw[aX hb] at e;exact(x b u e).stay (fun c v _ q=>k c v q) (fun c q=>by rw[aX (cD q hn)];exact q) fun c xs q=>by rw[aX (cD q hn)];exact q
end
def Rd (H:Hp) (a:Addr) (u:HO):Prop:=H a=some u\/∃o,H a=some (.mZ o u)
def Rd.of {u:HO}(h:H a=some u):Rd H a u:=.inl h
def Rd.ok {h:Heap}{u:HO}(r:Rd H a u) (x:sO P w H h):g7 P w H h a u:=by
 rcases r with r | ⟨o,r⟩
 ·exact x a u r
 ·obtain⟨_,q⟩:=x a _ r;exact q
def XO:Option HO->Prop
 | some (.lst _)=>True
 | some (.dK _)=>True
 | some (.dT _)=>True
 | some (.set _ _)=>True
 | some (.ins _ _ _)=>True
 | some (.vV _ _ _)=>True
 | some (.xd _)=>True
 | some (.ext _)=>True
 | _=>False
section
variable {P:Program}{w:World}{H:Hp}{h h':Heap}{x e:Addr}{o':HO}
def sO.write (ok:sO P w H h) (mu:XO (H x)) (he:e=x\/H e=some (.own x)) (k:∀b u,b≠e->h.get? b=some u->h'.get? b=some u) (Xj:∃u,h'.get? e=some u)
  (new:g7 P w (upd H x o') h' x o'):sO P w (upd H x o') h':=fun b u q=>by
 have XR:∀c y,H c=some (.own y)->c≠x:=fun c y r z=>by subst z;rw[r] at mu;exact mu
 have abz:∀c xs,H c=some (.tup xs)->c≠x:=fun c xs r z=>by subst z;rw[r] at mu;exact mu
 by_cases hb:b=x
 ·subst hb;rw[aY] at q;cases q;exact new
 ·rw[aX hb] at q;by_cases IF:b=e
  ·have q':H b=some (.own x):=by
    rcases he with z | z
    ·exact absurd (IF.trans z) hb
    ·rw[IF];exact z
   rw[q] at q';cases q';obtain⟨v,hv⟩:=Xj;exact⟨v,by rw[IF];exact hv⟩
  ·refine(ok b u q).stay (fun c v hc r=>k c v ?_ r) (fun c r=>by rw[aX (XR c b r)];exact r) fun c xs r=>by rw[aX (abz c xs r)];exact r
   rcases hc with rfl | hc
   ·exact IF
   ·rintro rfl;rcases he with z | z
    ·exact XR c b hc z
    ·rw[hc] at z;cases z;exact hb rfl
end
structure Un (fs ex:BBE) (H H':Hp) (h h':Heap):Prop where
 keep:∀b o,h.get? b=some o->H b=none->b∉fs->b∉ex->h'.get? b=some o
 slot:∀b o,h.get? b=some o->H b=none->b∈fs->b∉ex->∃sl,h'.get? b=some {o with slots:=sl}
 free:∀b o,h.get? b=some o->H b=none->b∉ex->H' b=none
 there:∀b o,h.get? b=some o->b∉ex->∃o',h'.get? b=some o'
 tups:∀b xs,H b=some (.tup xs)->H' b=some (.tup xs)
 Al:∀b o u,H b=some (.mZ o u)->H' b=some (.mZ o u)
 A2:∀b ps,H b=some (.Tc ps)->∃more,H' b=some (.Tc (ps++more))
section
variable {fs ex:BBE}{H H1:Hp}{h h1 h':Heap}{a x e:Addr}{o:HO}
def Un.any (u:Un fs ex H H1 h h1){b:Addr}{ob:Obj}(q:h.get? b=some ob) (n:H b=none) (hx:b∉ex):∃sl,h1.get? b=some {ob with slots:=sl}:=by
 by_cases hb:b∈fs
 ·exact u.slot b ob q n hb hx
 ·exact⟨ob.slots,u.keep b ob q n hb hx⟩
def Un.kept (k:∀b u,h.get? b=some u->h'.get? b=some u):Un fs ex H H h h':=
 ⟨fun b ob q _ _ _=>k b ob q,fun b ob q _ _ _=>⟨ob.slots,k b ob q⟩,fun _ _ _ n _=>n,fun b ob q _=>⟨ob,k b ob q⟩,fun _ _ q=>q,fun _ _ _ q=>q,fun _ ps q=>⟨#[],by rw[q];simp⟩⟩
def Un.refl:Un fs ex H H h h:=Un.kept fun _ _ q=>q
def Un.laid (k:∀b u,h.get? b=some u->h'.get? b=some u) (hp:h.objs.size<=a) (hn:H a=none):Un fs ex H (upd H a o) h h' where
 keep:=fun b u q _ _ _=>k b u q
 slot:=fun b u q _ _ _=>⟨u.slots,k b u q⟩
 free:=fun b u q n _=>by rw[aX (abr (aau (aaq q) hp))];exact n
 there:=fun b u q _=>⟨u,k b u q⟩
 tups:=fun b xs q=>by rw[aX (cD q hn)];exact q
 Al:=fun b u xs q=>by rw[aX (cD q hn)];exact q
 A2:=fun b ps q=>⟨#[],by rw[aX (cD q hn),q];simp⟩
def Un.write (mu:XO (H x)) (he:e=x\/H e=some (.own x)) (k:∀b u,b≠e->h.get? b=some u->h'.get? b=some u) (Xj:∃u,h'.get? e=some u):Un fs ex H (upd H x o) h h':=by
 have hx:∀b,H b=none->b≠x:=fun b n z=>by subst z;rw[n] at mu;exact mu
 have hb:∀b,H b=none->b≠e:=fun b n z=>by
  subst z;rcases he with r | r
  ·exact hx b n r
  ·rw[n] at r;cases r
 have hm:∀b u,H b=some u->¬XO (some u)->b≠x:=fun b u q nm z=>by subst z;rw[q] at mu;exact nm mu
 refine⟨fun b u q n _ _=>k b u (hb b n) q,fun b u q n _ _=>⟨u.slots,k b u (hb b n) q⟩,fun b u q n _=>by rw[aX (hx b n)];exact n,fun b u q _=>?_,
  fun b xs q=>by rw[aX (hm b _ q fun z=>z)];exact q,fun b u xs q=>by rw[aX (hm b _ q fun z=>z)];exact q,fun b ps q=>⟨#[],by rw[aX (hm b _ q fun z=>z),q];simp⟩⟩
 by_cases IF:b=e
 ·subst IF;exact Xj
 ·exact⟨u,k b u IF q⟩
end
noncomputable def trk (h:Heap) (H:Hp):BBE:=(List.range h.objs.size).filter fun a=>(H a).isSome
def Dz (h:Heap) (H:Hp):Heap:=PySem.W.hideAll h (trk h H)
def Ku (h:Heap) (H:Hp):(Dz h H).objs.size=h.objs.size:=PySem.W.hideAll_size _ _
def Ml {h:Heap}{b:Addr}(e:h.get? b=some o) (n:H b=none):(Dz h H).get? b=some o:=
 PySem.W.hideAll_get _ e fun hm=>by
  have q:(H b).isSome=true:=(List.mem_filter.mp hm).2;rw[n] at q;simp at q
def PV {h:Heap}{b:Addr}(e:(Dz h H).get? b=some o):h.get? b=some o/\H b=none:=by
 have e':h.get? b=some o:=PySem.W.of_hideAll (trk h H) e;refine⟨e',?_⟩;cases q:H b with
 | none=>rfl
 | some x=>
  have hm:b∈trk h H:=List.mem_filter.mpr ⟨af0.mpr (aaq e'),by simp[q]⟩;have z:(Dz h H).get? b=none:=PySem.W.hideAll_none (trk h H) hm;rw[z] at e;cases e
noncomputable def PX (g h:Heap) (L:Addr):List (Addr×Obj):=(List.range h.objs.size).filterMap fun a=>if a=L\/(g.get? a).isSome=true then none else(h.get? a).map fun o=>(a,o)
def rest (g h:Heap) (L d:Addr):List (Addr×Obj):=(PX g h L).filter fun p=>decide (p.1≠d)
structure Mod (K:AAD) (mg:AAF) (base:Heap):Prop where
 PY:K.In base
 glob:base.Ns mainGlobals mg
 blt:∃mb,base.Ns builtinsNs mb/\∀x:Str,x≠"__name__"->mb x=bootBuiltins x
 nolimit:base.NoLimit
structure Cx where
 prog:Program
 w:World
 K:PySem.W.Frag
 mg:Str->BBP
 base:Heap
 A:Around
 N:BBB
 s₀:Shared
 H₀:Hp
 env:Env
 outer:BBF
 stack:BBF
 ex:BBE
 fn:Str->Bool
 calm:Bool
 pn:List (Addr×Obj)
 xe:Value->Shared->Prop
noncomputable def frs (l:BBF):BBE:=l.filterMap (·.frame)
abbrev Cx.fs (X:Cx):BBE:=frs X.outer
def xN (sc:Scope) (x:Str):Prop:=sc.names.lookup x=some .local\/sc.names.lookup x=some .cell\/sc.names.lookup x=some .free
def Loc (sc:Scope) (x:Str):Prop:=sc.names.lookup x=some .local\/sc.names.lookup x=some .cell
def Look (env:Env) (h:Heap) (m:AAF) (x:Str) (u:Value):Prop:=
 (env.kindOf x=some .local/\m x=some u)\/((env.kindOf x=some .cell\/env.kindOf x=some .free)/\∃c,env.cells.lookup x=some c/\h.IsCell c (some u))
structure Cx.Ok (X:Cx):Prop where
 mod:Mod X.K X.mg X.base
 kind:X.env.scope.kind= .function
 glob:X.env.globals=mainGlobals
 blt:X.env.builtins=builtinsNs
 above:X.s₀.heap.objs.size<=X.env.locals
 inj:∀x y c,X.env.cells.lookup x=some c->X.env.cells.lookup y=some c->x=y
 has:∀x,(X.env.kindOf x=some .cell\/X.env.kindOf x=some .free)->∃c,X.env.cells.lookup x=some c
 Td:∀x c,X.fn x=true->X.env.cells.lookup x=some c->X.s₀.heap.objs.size<=c
 hd:X.calm=true->X.A.handled=none
 frames:X.A.frames=some X.stack
 stk:X.stack=X.outer\/(X.stack=X.env :: X.outer/\X.env.frame=some X.env.locals)
 Xk:∀b∈X.ex,b≠X.env.locals/\∀x c,X.env.cells.lookup x=some c->c≠b
 bs:∀b o,X.base.get? b=some o->X.s₀.heap.get? b=some o/\X.H₀ b=none
 L6:X.base.objs.size<=X.s₀.heap.objs.size
 EY:∀b o,X.base.get? b=some o->b∉X.ex
 EZ:∀b∈X.ex,b∉X.fs
 wm:X.s₀.heap.FunFrames X.base X.outer
 Pu:∀b∈X.fs,X.H₀ b=none
structure Inv (X:Cx) (pins:AAG) (σ:List (Option V)) (H:Hp) (s:Shared):Prop where
 ok:X.Ok
 os:s.os=X.s₀.os
 bare:AllBare s.gens
 base:Un X.fs X.ex X.H₀ H X.s₀.heap s.heap
 loc:∃m,s.heap.Ns X.env.locals m/\∀(i:Nat) (x:Str) (v:V),X.N[i]? =some x->σ[i]? =some (some v)->xN X.env.scope x->∃u,RelV v u/\Look X.env s.heap m x u
 cell:∀x c,X.env.cells.lookup x=some c->∃v,s.heap.IsCell c v
 free:H X.env.locals=none
 n8:∀x c,X.env.cells.lookup x=some c->H c=none
 pin:∀p∈X.pn++pins,s.heap.get? p.1=some p.2/\H p.1=none/\p.1≠X.env.locals/\p.1∉X.fs/\∀v,p.2.data≠.cell v
 hok:sO X.prog X.w H s.heap
 len:σ.length=X.N.length
section
variable {X:Cx}{pins:AAG}{σ:List (Option V)}{H H':Hp}{s:Shared}{h':Heap}
def Cx.Ok.m8 (ok:X.Ok){b:Addr}(e:X.base.get? b=some o):b∉X.fs:=fun hb=>by
 have:=(ok.wm.mem hb).1;rw[e] at this;cases this
def Inv.bs (I:Inv X pins σ H s):∀b o,X.base.get? b=some o->s.heap.get? b=some o/\H b=none:=fun b o e=>
 ⟨I.base.keep b o (I.ok.bs b o e).1 (I.ok.bs b o e).2 (I.ok.m8 e) (I.ok.EY b o e),I.base.free b o (I.ok.bs b o e).1 (I.ok.bs b o e).2 (I.ok.EY b o e)⟩
def Inv.bk (I:Inv X pins σ H s):∀b o,X.base.get? b=some o->s.heap.get? b=some o:=fun b o e=>(I.bs b o e).1
def Inv.mod (I:Inv X pins σ H s):Mod X.K X.mg X.base:=I.ok.mod
def Inv.sV (I:Inv X pins σ H s):X.K.In s.heap:=I.ok.mod.PY.keeps I.bk
def Inv.lt (I:Inv X pins σ H s):X.env.locals < s.heap.objs.size:=let⟨_,hn,_⟩:=I.loc;hn.lt
def Inv.sz (I:Inv X pins σ H s):X.s₀.heap.objs.size<=s.heap.objs.size:=aaA I.ok.above (afj I.lt)
def Inv.XS (I:Inv X pins σ H s)(h:s.heap.objs.size<=a):a∉X.fs:=fun hb=>by
 obtain⟨_,o,ho,_⟩:=I.ok.wm.mem hb;exact absurd (aau (aaq ho) (aaA I.sz h)) (acy _)
def Inv.PZ (I:Inv X pins σ H s):∀x c,X.env.cells.lookup x=some c->c≠X.env.locals:=fun x c e z=>by
 obtain⟨v,o,ho,hd⟩:=I.cell x c e;obtain⟨m,⟨o',es,ep,ho',hd',_⟩,_⟩:=I.loc;rw[z,ho'] at ho;cases ho;rw[hd'] at hd;cases hd
def Inv.wm (I:Inv X pins σ H s):s.heap.FunFrames X.base X.outer:=by
 have all:∀(l:BBF),(∀b∈frs l,b∈X.fs)->X.s₀.heap.FunFrames X.base l->s.heap.FunFrames X.base l:=by
  intro l
  induction l with
  | nil=>intro _ _;trivial
  | cons env r ih=>
   intro hs hl;obtain⟨hk,⟨L,o,hf,hn,ho,hd⟩,hr⟩:=hl;have hL:L∈X.fs:=hs L (by unfold frs;rw[ad6,hf];exact abf);obtain⟨sl,e⟩:=I.base.slot L o ho (I.ok.Pu L hL) hL fun z=>I.ok.EZ L z hL;exact⟨hk,⟨L,_,hf,hn,e,hd⟩,ih (fun b hb=>hs b (by unfold frs;rw[ad6,hf];exact aaz _ hb)) hr⟩
 exact all X.outer (fun _ hb=>hb) I.ok.wm
def Inv.stack (I:Inv X pins σ H s):s.heap.FunFrames X.base X.stack:=by
 rcases I.ok.stk with e | ⟨e,hf⟩
 ·rw[e];exact I.wm
 ·rw[e];obtain⟨m,hn,_⟩:=I.loc;refine .cons (by rw[I.ok.kind];decide) hf hn ?_ I.wm;exact afl (aaA I.ok.L6 I.ok.above)
def Inv.DA (I:Inv X pins σ H s):∀b∈frs X.stack,b∈X.env.locals :: X.fs:=fun b hb=>by
 rcases I.ok.stk with e | ⟨e,hf⟩
 ·rw[e] at hb;exact aaz _ hb
 ·rw[e] at hb;unfold frs at hb;rw[ad6,hf] at hb;exact hb
def Inv.ve (I:Inv X pins σ H s):∀b∈frs X.stack,H b=none:=fun b hb=>by
 rcases aao.mp (I.DA b hb) with e | hb
 ·rw[e];exact I.free
 ·obtain⟨_,o,ho,_⟩:=I.ok.wm.mem hb;exact I.base.free b o ho (I.ok.Pu b hb) fun z=>I.ok.EZ b z hb
def Inv.step {d':Drawn}(I:Inv X pins σ H s)
  (hch:∀b∈ch,(b∈X.ex\/X.s₀.heap.objs.size<=b)/\b≠X.env.locals/\(∀x c,X.env.cells.lookup x=some c->c≠b)/\∀p∈X.pn++pins,p.1≠b)
  (keep:∀b o,b≠X.env.locals->b∉X.fs->b∉ch->s.heap.get? b=some o->H b=none->h'.get? b=some o)
  (slot:∀b o,b≠X.env.locals->b∈X.fs->b∉ch->s.heap.get? b=some o->H b=none->∃sl,h'.get? b=some {o with slots:=sl}) (free:∀b o,b∉ch->s.heap.get? b=some o->H b=none->H' b=none)
  (there:∀b o,b∉ch->s.heap.get? b=some o->∃o',h'.get? b=some o')
  (tups:∀b xs,H b=some (.tup xs)->H' b=some (.tup xs)) (Al:∀b o u,H b=some (.mZ o u)->H' b=some (.mZ o u)) (A2:∀b ps,H b=some (.Tc ps)->∃more,H' b=some (.Tc (ps++more)))
  (ns:∀m,s.heap.Ns X.env.locals m->h'.Ns X.env.locals m) (hok:sO X.prog X.w H' h') (hg:AllBare g'):
  Inv X pins σ H' {s with heap:=h',gens:=g',drawn:=d',toks:=t'}:=by
 have Xl:∀b o,X.s₀.heap.get? b=some o->b≠X.env.locals:=fun b o e=>abr (aau (aaq e) I.ok.above);have neC:∀b o,X.s₀.heap.get? b=some o->b∉X.ex->b∉ch:=fun b o e hx hb=>by
  rcases(hch b hb).1 with z | z
  ·exact hx z
  ·exact absurd (aau (aaq e) z) (acy _)
 have cellK:∀x c,X.env.cells.lookup x=some c->∀v,s.heap.IsCell c v->h'.IsCell c v:=fun x c e v ⟨o,ho,hd⟩=>by
  have XT:c∉ch:=fun z=>(hch c z).2.2.1 x c e rfl;by_cases hc:c∈X.fs
  ·obtain⟨sl,q⟩:=slot c o (I.PZ x c e) hc XT ho (I.n8 x c e);exact⟨_,q,hd⟩
  ·exact⟨o,keep c o (I.PZ x c e) hc XT ho (I.n8 x c e),hd⟩
 refine⟨I.ok,I.os,hg,⟨fun b o e n hb hx=>?_,fun b o e n hb hx=>?_,fun b o e n hx=>?_,fun b o e hx=>?_,fun b xs e=>tups b xs (I.base.tups b xs e),fun b o xs e=>Al b o xs (I.base.Al b o xs e),fun b ps e=>?_⟩,?_,fun x c e=>?_,?_,fun x c e=>?_,fun p hp=>?_,hok,I.len⟩
 ·exact keep b o (Xl b o e) hb (neC b o e hx) (I.base.keep b o e n hb hx) (I.base.free b o e n hx)
 ·obtain⟨sl,e1⟩:=I.base.slot b o e n hb hx;obtain⟨sl',e2⟩:=slot b _ (Xl b o e) hb (neC b o e hx) e1 (I.base.free b o e n hx);exact⟨sl',e2⟩
 ·obtain⟨o',e1⟩:=I.base.there b o e hx;exact free b o' (neC b o e hx) e1 (I.base.free b o e n hx)
 ·obtain⟨o',e1⟩:=I.base.there b o e hx;exact there b o' (neC b o e hx) e1
 ·obtain⟨m1,e1⟩:=I.base.A2 b ps e;obtain⟨m2,e2⟩:=A2 b _ e1;exact⟨m1++m2,by rw[e2,Array.append_assoc]⟩
 ·obtain⟨m,hn,hl⟩:=I.loc;refine⟨m,ns m hn,fun i x v e1 e2 e3=>?_⟩;obtain⟨u,r,l⟩:=hl i x v e1 e2 e3;refine⟨u,r,?_⟩;rcases l with l | ⟨k,c,e,z⟩
  ·exact .inl l
  ·exact .inr ⟨k,c,e,cellK x c e _ z⟩
 ·obtain⟨v,z⟩:=I.cell x c e;exact⟨v,cellK x c e v z⟩
 ·obtain⟨m,⟨o,_,_,ho,_⟩,_⟩:=I.loc;exact free _ o (fun z=>(hch _ z).2.1 rfl) ho I.free
 ·obtain⟨v,o,ho,hd⟩:=I.cell x c e;exact free c o (fun z=>(hch c z).2.2.1 x c e rfl) ho (I.n8 x c e)
 ·obtain⟨e,n,ne,nf,d⟩:=I.pin p hp;have XT:p.1∉ch:=fun z=>(hch p.1 z).2.2.2 p hp rfl;exact⟨keep p.1 p.2 ne nf XT e n,free p.1 p.2 XT e n,ne,nf,d⟩
def Inv.un (I:Inv X pins σ H s) (u:Un X.fs [] H H' s.heap h') (hok:sO X.prog X.w H' h'):Inv X pins σ H' {s with heap:=h',toks:=t'}:=by
 obtain⟨m,⟨o,es,ep,ho,r⟩,_⟩:=id I.loc;obtain⟨sl,hL⟩:=u.any ho I.free (by simp);exact I.step (g':=s.gens) (d':=s.drawn) (ch:=[]) (fun _ z=>nomatch z) (fun b o _ hb _ e n=>u.keep b o e n hb (by simp)) (fun b o _ hb _ e n=>u.slot b o e n hb (by simp)) (fun b o _ e n=>u.free b o e n (by simp)) (fun b o _ e=>u.there b o e (by simp)) u.tups u.Al u.A2 (fun m' hm=>by
  obtain⟨o',es',ep',ho',r'⟩:=hm;rw[ho] at ho';cases ho';exact⟨_,es',ep',hL,r'⟩) hok I.bare
def Inv.call {d':Drawn}(I:Inv X pins σ H s) (u:Un (frs X.stack) ch H H' s.heap h') (hok:sO X.prog X.w H' h') (hg:AllBare g')
  (hch:∀b∈ch,(b∈X.ex\/X.s₀.heap.objs.size<=b)/\b≠X.env.locals/\(∀x c,X.env.cells.lookup x=some c->c≠b)/\∀p∈X.pn++pins,p.1≠b):
  Inv X pins σ H' {s with heap:=h',gens:=g',drawn:=d',toks:=t'}:=by
 obtain⟨m,⟨o,es,ep,ho,r⟩,_⟩:=id I.loc;obtain⟨sl,hL⟩:=u.any ho I.free fun z=>(hch _ z).2.1 rfl;exact I.step (ch:=ch) hch (fun b o hL hb hc e n=>u.keep b o e n (fun z=>(aao.mp (I.DA b z)).elim hL hb) hc) (fun b o _ _ hc e n=>u.any e n hc) (fun b o hc e n=>u.free b o e n hc) (fun b o hc e=>u.there b o e hc) u.tups u.Al u.A2 (fun m' hm=>by
  obtain⟨o',es',ep',ho',r'⟩:=hm;rw[ho] at ho';cases ho';exact⟨_,es',ep',hL,r'⟩) hok hg
def Inv.turned {it:Addr}(I:Inv X pins σ H s) (k:∀b o,b≠it->s.heap.get? b=some o->h'.get? b=some o) (hn:H it=none) (hL:it≠X.env.locals)
  (h1:it∈X.ex\/X.s₀.heap.objs.size<=it) (h2:∀x c,X.env.cells.lookup x=some c->c≠it) (h3:∀p∈X.pn++pins,p.1≠it):Inv X pins σ H {s with heap:=h',toks:=t'}:=by
 have nit:∀b u,H b=some u->b≠it:=fun b u e z=>by rw[z,hn] at e;cases e
 refine I.step (g':=s.gens) (d':=s.drawn) (ch:=[it]) (fun b hb=>?_) (fun b o _ _ hc e _=>k b o (fun z=>hc (by simp[z])) e) (fun b o _ _ hc e _=>⟨o.slots,k b o (fun z=>hc (by simp[z])) e⟩) (fun _ _ _ _ n=>n)
  (fun b o hc e=>⟨o,k b o (fun z=>hc (by simp[z])) e⟩) (fun _ _ e=>e) (fun _ _ _ e=>e) (fun b ps e=>⟨#[],by rw[e];simp⟩) (fun m hm=>?_) (fun b u e=>?_) I.bare
 ·have e:b=it:=by simpa using hb
  subst e;exact⟨h1,hL,h2,h3⟩
 ·obtain⟨o,es,ep,ho,r⟩:=hm;exact⟨o,es,ep,k _ o (acz hL) ho,r⟩
 ·refine(I.hok b u e).stay (fun c v hc q=>k c v ?_ q) (fun _ q=>q) fun _ _ q=>q;rcases hc with z | z
  ·rw[z];exact nit b u e
  ·exact nit c _ z
def Inv.tok (I:Inv X pins σ H s) (t:Nat):Inv X pins σ H {s with toks:=t}:=I.un (h':=s.heap) (t':=t) Un.refl I.hok
def Inv.kept {t':Nat}(I:Inv X pins σ H s) (k:∀b u,s.heap.get? b=some u->h'.get? b=some u):Inv X pins σ H {s with heap:=h',toks:=t'}:=I.un (Un.kept k) (I.hok.kept k)
def Inv.laid {a:Addr}{o:HO}{t':Nat}(I:Inv X pins σ H s) (k:∀b u,s.heap.get? b=some u->h'.get? b=some u) (hp:s.heap.objs.size<=a) (new:g7 X.prog X.w (upd H a o) h' a o):
  Inv X pins σ (upd H a o) {s with heap:=h',toks:=t'}:=I.un (Un.laid k hp (I.hok.fresh hp)) (I.hok.laid k hp new)
def Inv.write {x e:Addr}{o:HO}{t':Nat}(I:Inv X pins σ H s) (mu:XO (H x)) (he:e=x\/H e=some (.own x)) (k:∀b u,b≠e->s.heap.get? b=some u->h'.get? b=some u) (Xj:∃u,h'.get? e=some u)
  (new:g7 X.prog X.w (upd H x o) h' x o):Inv X pins σ (upd H x o) {s with heap:=h',toks:=t'}:=I.un (Un.write mu he k Xj) (I.hok.write mu he k Xj new)
def Inv.IG {Te:AAG}(I:Inv X pins σ H s) (h:∀p∈Te,s.heap.get? p.1=some p.2/\H p.1=none/\p.1≠X.env.locals/\p.1∉X.fs/\∀v,p.2.data≠.cell v):Inv X Te σ H s:=
 ⟨I.ok,I.os,I.bare,I.base,I.loc,I.cell,I.free,I.n8,fun p hp=>(abP.mp hp).elim (fun z=>I.pin p (abV _ z)) (h p),I.hok,I.len⟩
def A3 (hN:N.Nodup){j:Nat}(a:N[i]? =some x) (b:N[j]? =some x):i=j:=by
 obtain⟨h1,e1⟩:=aay.mp a;obtain⟨h2,e2⟩:=aay.mp b;exact(List.getElem_inj hN).mp (e1.trans e2.symm)
def Kv {v:V}{Q:Unit->Shared->Prop}(I:Inv X pins σ H s) (hN:X.N.Nodup) (hi:X.N[i]? =some x) (hx:Loc X.env.scope x) (r:RelV v u)
  (h:∀s',Inv X pins (σ.set i (some v)) H s'->(∃a,Heap.SameBut a s.heap s'.heap/\(a=X.env.locals\/X.env.cells.lookup x=some a))->Q () s') (hf:X.fn x=true\/X.env.scope.names.lookup x=some .local:=by first | exact .inl rfl | exact .inr rfl | assumption):wpAny M A (storeName X.env x u) Q E s:=by
 obtain⟨m,hn,hl⟩:=id I.loc;have hcls:(X.env.scope.kind == .class || (X.env.scope.kind == .module && X.env.locals != X.env.globals))=false:=by rw[I.ok.kind];rfl
 have Kw:i < σ.length:=by rw[I.len];exact(aay.mp hi).1
 have PZ:=I.PZ;have tracked:∀{a:Addr}{h':Heap},(∃o,s.heap.get? a=some o/\H a=none)->Heap.SameBut a s.heap h'->sO X.prog X.w H h':=fun {a h'} ha hs b ob e=>by
  obtain⟨_,_,hfree⟩:=ha;refine(I.hok b ob e).stay (fun c w' hc q=>(hs.2 c ?_).trans q) (fun _ q=>q) fun _ _ q=>q;rintro rfl;rcases hc with rfl | hc
  ·rw[hfree] at e;cases e
  ·rw[hfree] at hc;cases hc
 rcases hx with hk | hk
 ·refine wpAny_storeName_local hk hn (fun h' hn' hs=>?_) hcls;obtain⟨oL,_,_,hoL,_⟩:=id hn;refine h _ ⟨I.ok,I.os,I.bare,⟨fun b o e n hb hx=>?_,fun b o e n hb hx=>?_,I.base.free,fun b o e hx=>?_,I.base.tups,I.base.Al,I.base.A2⟩,⟨_,hn',fun j y v' e1 e2 e3=>?_⟩,fun y c e=>?_,I.free,I.n8,fun p hp=>?_,tracked ⟨oL,hoL,I.free⟩ hs,by simpa using I.len⟩ ⟨_,hs,.inl rfl⟩
  ·exact(hs.2 b (abr (aau (aaq e) I.ok.above))).trans (I.base.keep b o e n hb hx)
  ·obtain⟨sl,e1⟩:=I.base.slot b o e n hb hx;exact⟨sl,(hs.2 b (abr (aau (aaq e) I.ok.above))).trans e1⟩
  ·obtain⟨o',e1⟩:=I.base.there b o e hx;exact⟨o',(hs.2 b (abr (aau (aaq e) I.ok.above))).trans e1⟩
  ·by_cases hj:j=i
   ·subst hj;rw[hi] at e1;cases e1;rw[abv Kw] at e2;cases e2;exact⟨u,r,.inl ⟨hk,by simp⟩⟩
   ·rw[aaG (acz hj)] at e2;obtain⟨u',r',q⟩:=hl j y v' e1 e2 e3;refine⟨u',r',?_⟩;rcases q with⟨k,e⟩ | ⟨k,c,e,z⟩
    ·refine .inl ⟨k,?_⟩;have:y≠x:=fun e=>hj (A3 hN e1 (e▸hi));simp[this,e]
    ·exact .inr ⟨k,c,e,z.sameBut hs (PZ y c e)⟩
  ·obtain⟨w',z⟩:=I.cell y c e;exact⟨w',z.sameBut hs (PZ y c e)⟩
  ·obtain⟨e,n,ne,nf,d⟩:=I.pin p hp;exact⟨(hs.2 p.1 ne).trans e,n,ne,nf,d⟩
 ·have hfn:X.fn x=true:=by
   rcases hf with z | z
   ·exact z
   ·rw[z] at hk;cases hk
  obtain⟨c,hc⟩:=I.ok.has x (.inl hk);obtain⟨w',z⟩:=I.cell x c hc;refine wpAny_storeName_cell I.ok.kind hk hc z (fun h' hc' hs=>?_);obtain⟨oc,hoc,abC⟩:=id z;refine h {s with heap:=h'} ⟨I.ok,I.os,I.bare,⟨fun b o e n hb hx=>?_,fun b o e n hb hx=>?_,I.base.free,fun b o e hx=>?_,I.base.tups,I.base.Al,I.base.A2⟩,⟨m,hn.sameBut hs (acz (PZ x c hc)),fun j y v' e1 e2 e3=>?_⟩,fun y c' e=>?_,I.free,I.n8,fun p hp=>?_,tracked ⟨oc,hoc,I.n8 x c hc⟩ hs,by simpa using I.len⟩ ⟨c,hs,.inr hc⟩
  ·exact(hs.2 b (abr (aau (aaq e) (I.ok.Td x c hfn hc)))).trans (I.base.keep b o e n hb hx)
  ·obtain⟨sl,e1⟩:=I.base.slot b o e n hb hx;exact⟨sl,(hs.2 b (abr (aau (aaq e) (I.ok.Td x c hfn hc)))).trans e1⟩
  ·obtain⟨o',e1⟩:=I.base.there b o e hx;exact⟨o',(hs.2 b (abr (aau (aaq e) (I.ok.Td x c hfn hc)))).trans e1⟩
  ·by_cases hj:j=i
   ·subst hj;rw[hi] at e1;cases e1;rw[abv Kw] at e2;cases e2;exact⟨u,r,.inr ⟨.inl hk,c,hc,hc'⟩⟩
   ·rw[aaG (acz hj)] at e2;obtain⟨u',r',q⟩:=hl j y v' e1 e2 e3;refine⟨u',r',?_⟩;rcases q with q | ⟨k,c',e,z'⟩
    ·exact .inl q
    ·refine .inr ⟨k,c',e,z'.sameBut hs ?_⟩;rintro rfl;exact hj (A3 hN e1 (I.ok.inj _ _ _ e hc▸hi))
  ·by_cases hcc:c'=c
   ·subst hcc;exact⟨_,hc'⟩
   ·obtain⟨w2,z2⟩:=I.cell y c' e;exact⟨w2,z2.sameBut hs hcc⟩
  ·obtain⟨e,n,ne,nf,d⟩:=I.pin p hp;refine⟨(hs.2 p.1 ?_).trans e,n,ne,nf,d⟩;intro q;rw[q,hoc] at e;have q':oc=p.2:=abh e;exact d w' (by rw[<-q'];exact abC)
def xQ {v:V}{Q:Unit->Shared->Prop}(I:Inv X pins σ H s) (hN:X.N.Nodup) (hi:X.N[i]? =some x) (hx:Loc X.env.scope x) (r:RelV v u)
  (h:∀s',Inv X pins (σ.set i (some v)) H s'->Q () s') (hf:X.fn x=true\/X.env.scope.names.lookup x=some .local:=by first | exact .inl rfl | exact .inr rfl | assumption):wpAny M A (storeName X.env x u) Q E s:=
 Kv I hN hi hx r (fun s' I' _=>h s' I') hf
def Inv.Tg {s':Shared}(I:Inv X pins σ H s) (ho:s'.os=s.os) (u:Un (frs X.stack) ch H H' s.heap s'.heap) (hok:sO X.prog X.w H' s'.heap) (hg:AllBare s'.gens)
  (hch:∀b∈ch,(b∈X.ex\/X.s₀.heap.objs.size<=b)/\b≠X.env.locals/\(∀x c,X.env.cells.lookup x=some c->c≠b)/\∀p∈X.pn++pins,p.1≠b):Inv X pins σ H' s':=by
 obtain⟨h',g',d',t',o'⟩:=s';have e:o'=s.os:=ho;subst e;exact I.call (g':=g') (t':=t') (d':=d') u hok hg hch
end
abbrev XK:=Value->BBN->Hp->Prop
abbrev St:=List (Option V)
abbrev VK:=V->Hp->Prop
abbrev TE:=St->Hp->VK->Prop
abbrev TT:=St->Hp->(Bool->Hp->Prop)->Prop
abbrev TA:=St->Hp->(List V->Hp->Prop)->Prop
structure Ends where
 nx:St->Hp->Prop
 rt:VK
 bk:St->Hp->Prop:=fun _ _=>False
 ct:St->Hp->Prop:=fun _ _=>False
abbrev TS:=Ends->St->Hp->Prop
inductive EP (X:Cx) (pins:AAG) (σ:St) (Q:VK) (u:Value) (s':Shared):Prop
 | mk (v:V) (H':Hp) (I:Inv X pins σ H' s') (r:RelV v u) (q:Q v H')
def TP (X:Cx) (pins:AAG) (σ:St) (Q:Bool->Hp->Prop) (b:Bool) (s':Shared):Prop:=∃H',Inv X pins σ H' s'/\Q b H'
inductive AP (X:Cx) (pins:AAG) (σ:St) (Q:List V->Hp->Prop) (us:AAL) (s':Shared):Prop
 | mk (vs:List V) (H':Hp) (I:Inv X pins σ H' s') (r:Vals vs us) (q:Q vs H')
def SP (X:Cx) (pins:AAG) (D:Ends) (f:Flow) (s':Shared):Prop:=
 match f with
 | .next=>∃σ' H',Inv X pins σ' H' s'/\D.nx σ' H'
 | .brk=>∃σ' H',Inv X pins σ' H' s'/\D.bk σ' H'
 | .cont=>∃σ' H',Inv X pins σ' H' s'/\D.ct σ' H'
 | .ret u=>∃v σ' H',Inv X pins σ' H' s'/\RelV v u/\D.rt v H'
def PE (X:Cx) (e:Expr) (t:TE):Prop:=
 ∀(pins:AAG) (s:Shared) (σ:St) (H:Hp) (Q:VK),Inv X pins σ H s->t σ H Q->wpAny (model X.prog X.w) X.A (eval e X.env) (EP X pins σ Q) X.xe s
def PT (X:Cx) (e:Expr) (t:TT):Prop:=
 ∀(pins:AAG) (s:Shared) (σ:St) (H:Hp) (Q:Bool->Hp->Prop),Inv X pins σ H s->t σ H Q->wpAny (model X.prog X.w) X.A (isTrue e X.env (eval e X.env)) (TP X pins σ Q) X.xe s
def PW (X:Cx) (e:Expr) (t:TT):Prop:=
 ∀(whole:Sem Value) (pins:AAG) (s:Shared) (σ:St) (H:Hp) (Q:Bool->Hp->Prop),Inv X pins σ H s->t σ H Q->wpAny (model X.prog X.w) X.A (isTrue e X.env whole) (TP X pins σ Q) X.xe s
def PW.pt {e:Expr}{t:TT}(h:PW X e t):PT X e t:=h _
def PA (X:Cx) (es:BBC) (t:TA):Prop:=
 ∀(pos:Pos) (pins:AAG) (s:Shared) (σ:St) (H:Hp) (Q:List V->Hp->Prop),Inv X pins σ H s->t σ H Q->wpAny (model X.prog X.w) X.A (spliced (backTo pos (starEach es X.env))) (AP X pins σ Q) X.xe s
def PS (X:Cx) (st:Stmt) (t:TS):Prop:=
 ∀(pins:AAG) (s:Shared) (σ:St) (H:Hp) (D:Ends),Inv X pins σ H s->t D σ H->wpAny (model X.prog X.w) X.A (exec st X.env) (SP X pins D) X.xe s
def DB (X:Cx) (st:BBH) (t:TS):Prop:=
 ∀(pins:AAG) (s:Shared) (σ:St) (H:Hp) (D:Ends),Inv X pins σ H s->t D σ H->wpAny (model X.prog X.w) X.A (execs st X.env) (SP X pins D) X.xe s
def dN {α:Type}{t:Sem α}{Q Q':α->Shared->Prop}{s:Shared}(h:wpAny M A t Q E s) (hQ:∀a s,Q a s->Q' a s):wpAny M A t Q' E s:=aat h hQ fun _ _ x=>x
section
variable {X:Cx}
def P0 (i:Nat):TE:=fun σ H Q=>∃v,σ[i]? =some (some v)/\Q v H
def tC (v:V):TE:=fun _ H Q=>Q v H
def eL (hN:X.N[i]? =some x) (hv:xN X.env.scope x) (hd:BBT x:=by decide) (hcd:BBU x:=by decide):PE X (.Name x pos) (P0 i):=by
 intro pins s σ H Q I h;obtain⟨v,e,h⟩:=h;obtain⟨m,hn,hl⟩:=I.loc;obtain⟨u,r,l⟩:=hl i x v hN e hv;have fin:EP X pins σ Q u s:=⟨v,H,I,r,h⟩
 rcases l with⟨hk,hm⟩ | ⟨hk,c,hc,hcell⟩
 ·exact wpAny_Name (wpAny_loadName_local I.ok.kind hk hn hm fin) hd
 ·rcases hk with hk | hk
  ·exact wpAny_Name (wpAny_loadName_cell I.ok.kind hk hc hcell fin) hd
  ·exact wpAny_Name (wpAny_loadName_free I.ok.kind hk hc hcell fin hcd) hd
def Uq {i j pos}:PE X (.Constant (.int i) j pos) (tC (.int i)):=fun _ _ _ H _ I h=>wpAny_Constant_int ⟨.int i,H,I.tok _,⟨_,rfl⟩,h⟩
def XU {b j pos}:PE X (.Constant (.bool b) j pos) (tC (.bl b)):=fun _ _ _ H _ I h=>Constant_bool ⟨.bl b,H,I,rfl,h⟩
def GP {j pos}:PE X (.Constant .none j pos) (tC .cM):=fun _ _ _ H _ I h=>Constant_none ⟨.cM,H,I,rfl,h⟩
def Mm {x j pos}:PE X (.Constant (.str x) j pos) (tC (.str x)):=fun _ _ _ H _ I h=>Calls.Constant_str ⟨.str x,H,I.tok _,⟨_,rfl⟩,h⟩
def Gl (X:Cx) (x:Str):Prop:=X.env.kindOf x=some .globalImplicit
def pN {s:Shared}(I:Inv X pins σ H s) (hg:Gl X x) (hm:X.mg x=some u) (h:Q u s)
  (hd:BBT x:=by decide):wpAny (model X.prog X.w) X.A (eval (.Name x pos) X.env) Q E s:=
 Calls.Name_function_global I.ok.kind hg (Calls.loadGlobal_global (by rw[I.ok.glob];exact I.mod.glob.keeps I.bk) hm h) hd
def DC {s:Shared}(I:Inv X pins σ H s) (hg:Gl X x) (hm:X.mg x=none) (hv:bootBuiltins x=some u) (h:Q u s)
  (hn:x≠"__name__":=by decide) (hd:BBT x:=by decide):wpAny (model X.prog X.w) X.A (eval (.Name x pos) X.env) Q E s:=by
 obtain⟨mb,h1,h2⟩:=I.mod.blt;exact Calls.Name_function_global I.ok.kind hg (Calls.loadGlobal_builtin (by rw[I.ok.glob];exact I.mod.glob.keeps I.bk) hm (by rw[I.ok.blt];exact h1.keeps I.bk) ((h2 x hn).trans hv) h) hd
def pO {v:V}(hg:Gl X x) (hm:X.mg x=some u) (r:RelV v u) (hd:BBT x:=by decide):PE X (.Name x pos) (tC v):=
 fun _ _ _ H _ I h=>pN I hg hm ⟨v,H,I,r,h⟩ hd
def II {v:V}(hg:Gl X x) (hm:X.mg x=none) (hv:bootBuiltins x=some u) (r:RelV v u) (hn:x≠"__name__":=by decide) (hd:BBT x:=by decide):PE X (.Name x pos) (tC v):=
 fun _ _ _ H _ I h=>DC I hg hm hv ⟨v,H,I,r,h⟩ hn hd
variable {a b:Expr}{ta tb:TE}{pos:Pos}
def PC (X:Cx) (op:CmpOp) (a b:Expr) (t:TE):Prop:=
 ∀(pins:AAG) (s:Shared) (σ:St) (H:Hp) (Q:VK),Inv X pins σ H s->t σ H Q->
  wpAny (model X.prog X.w) X.A (eval a X.env) (fun v s₁=>wpAny (model X.prog X.w) X.A (eval b X.env) (fun u s₂=>wpAny (model X.prog X.w) X.A (compareOp op v u) (EP X pins σ Q) X.xe s₂) X.xe s₁) X.xe s
def E1 (b:Expr)(h:op≠.In) (h2:op≠.NotIn):behindInMarks op b=false:=by
 have e1:(op == CmpOp.In)=false:=by cases op <;> first | rfl | exact absurd rfl h
 have e2:(op == CmpOp.NotIn)=false:=by cases op <;> first | rfl | exact absurd rfl h2
 cases b <;> simp[behindInMarks,e1,e2]
def tB (t:TE):TT:=fun σ H Q=>t σ H fun x H1=>∃c,x= .bl c/\Q c H1
def Ur {t:TE}(h:PC X op a b t) (h1:behindInMarks op b=false:=by first | exact E1 _ (by decide) (by decide) | rfl):PE X (.Compare a [op] [b] pos) t:=fun pins s σ H Q I hw=>wpAny_Compare1 (h pins s σ H Q I hw) h1
def Us {t:TE}(h:PC X op a b t) (h1:behindInMarks op b=false:=by first | exact E1 _ (by decide) (by decide) | rfl):PT X (.Compare a [op] [b] pos) (tB t):=by
 intro pins s σ H Q I hw;refine wpAny_isTrue_Compare1 (dN (h pins s σ H _ I hw) fun v s1 h1=>dN h1 fun u s2 h2=>dN h2 fun c s3 hh=>?_) h1;obtain⟨x,H1,I1,r1,q1⟩:=hh;obtain⟨d,rfl,q⟩:=q1;cases r1;exact ab7 ⟨H1,I1,q⟩
def Ut {e:Expr}{t:TE}(h:PE X e t) (he:∀whole,isTrue e X.env whole=(do let v <-whole;standAt e.pos;holding [v] (truthy v)):=by intro _;rfl):PT X e (tB t):=by
 intro pins s σ H Q I hw;refine isTrue_plain (dN (h pins s σ H _ I hw) fun v s1 hh=>?_) (he _);obtain⟨x,H1,I1,r1,q1⟩:=hh;obtain⟨d,rfl,q⟩:=q1;cases r1;exact ab7 ⟨H1,I1,q⟩
variable {tA tB':TT}{rest:BBC}
def abD (t u:TT):TT:=fun σ H Q=>t σ H fun c H1=>if c=true then u σ H1 Q else Q false H1
def tOr (t u:TT):TT:=fun σ H Q=>t σ H fun c H1=>if c=true then Q true H1 else u σ H1 Q
def abE (t:TT):TT:=fun σ H Q=>t σ H fun c H1=>Q (!c) H1
def pw_and1 (ha:PT X a tA):PW X (.BoolOp .And [a] pos) tA:=by
 intro wh pins s σ H Q I h;refine isTrue_and (dN (ha pins s σ H Q I h) fun c s1 e=>?_);cases c with
 | true=>exact isTrue_and_nil e
 | false=>exact e
def pw_or1 (ha:PT X a tA):PW X (.BoolOp .Or [a] pos) tA:=by
 intro wh pins s σ H Q I h;refine isTrue_or (dN (ha pins s σ H Q I h) fun c s1 e=>?_);cases c with
 | false=>exact isTrue_or_nil e
 | true=>exact e
def pw_and (ha:PT X a tA) (hb:PW X (.BoolOp .And (b :: rest) pos) tB'):PW X (.BoolOp .And (a :: b :: rest) pos) (abD tA tB'):=by
 intro wh pins s σ H Q I h;refine isTrue_and (dN (ha pins s σ H _ I h) fun c s1 hh=>?_);obtain⟨H1,I1,q1⟩:=hh;cases c with
 | true=>exact hb wh pins s1 σ H1 Q I1 q1
 | false=>exact⟨H1,I1,q1⟩
def pw_or (ha:PT X a tA) (hb:PW X (.BoolOp .Or (b :: rest) pos) tB'):PW X (.BoolOp .Or (a :: b :: rest) pos) (tOr tA tB'):=by
 intro wh pins s σ H Q I h;refine isTrue_or (dN (ha pins s σ H _ I h) fun c s1 hh=>?_);obtain⟨H1,I1,q1⟩:=hh;cases c with
 | true=>exact⟨H1,I1,q1⟩
 | false=>exact hb wh pins s1 σ H1 Q I1 q1
def Uu (ha:PT X a tA):PT X (.UnaryOp .Not a pos) (abE tA):=by
 intro pins s σ H Q I h;exact isTrue_not (ha pins s σ H (fun c H1=>Q (!c) H1) I h)
def XW (ta tb:TE):TE:=fun σ H Q=>ta σ H fun x H1=>∃c,x= .bl c/\if c=true then tb σ H1 Q else Q (.bl false) H1
def abF (ta tb:TE):TE:=fun σ H Q=>ta σ H fun x H1=>∃c,x= .bl c/\if c=true then Q (.bl true) H1 else tb σ H1 Q
def XX (ta:TE):TE:=fun σ H Q=>ta σ H fun x H1=>∃c,x= .bl c/\Q (.bl (!c)) H1
def Uv {op}{t:TE}(h:PE X a t):PE X (.BoolOp op [a] pos) t:=fun pins s σ H Q I hw=>BoolOp_one (h pins s σ H Q I hw)
def Uw (ha:PE X a ta) (hb:PE X (.BoolOp .And (b :: rest) pos) tb):PE X (.BoolOp .And (a :: b :: rest) pos) (XW ta tb):=by
 intro pins s σ H Q I h;refine BoolOp_and (dN (ha pins s σ H _ I h) fun v s1 hh=>?_);obtain⟨x,H1,I1,r1,q1⟩:=hh;obtain⟨c,rfl,q1⟩:=q1;cases r1;refine ab7 ?_;cases c with
 | true=>exact hb pins s1 σ H1 Q I1 q1
 | false=>exact⟨.bl false,H1,I1,rfl,q1⟩
def XY (ha:PE X a ta) (hb:PE X (.BoolOp .Or (b :: rest) pos) tb):PE X (.BoolOp .Or (a :: b :: rest) pos) (abF ta tb):=by
 intro pins s σ H Q I h;refine BoolOp_or (dN (ha pins s σ H _ I h) fun v s1 hh=>?_);obtain⟨x,H1,I1,r1,q1⟩:=hh;obtain⟨c,rfl,q1⟩:=q1;cases r1;refine ab7 ?_;cases c with
 | false=>exact hb pins s1 σ H1 Q I1 q1
 | true=>exact⟨.bl true,H1,I1,rfl,q1⟩
def Ux (ha:PE X a ta):PE X (.UnaryOp .Not a pos) (XX ta):=by
 intro pins s σ H Q I h;refine UnaryOp_ (dN (ha pins s σ H _ I h) fun v s1 hh=>?_);obtain⟨x,H1,I1,r1,q1⟩:=hh;obtain⟨c,rfl,q1⟩:=q1;cases r1;exact not_of (ab7 ⟨.bl (!c),H1,I1,rfl,q1⟩)
def tIf (t:TT) (ta tb:TE):TE:=fun σ H Q=>t σ H fun c H1=>if c=true then ta σ H1 Q else tb σ H1 Q
def Mn {c:Expr}(hc:PT X c tA) (ha:PE X a ta) (hb:PE X b tb):PE X (.IfExp c a b pos) (tIf tA ta tb):=by
 intro pins s σ H Q I h;refine wpAny_IfExp (dN (hc pins s σ H _ I h) fun d s1 hh=>?_);obtain⟨H1,I1,q1⟩:=hh;cases d with
 | true=>exact ha pins s1 σ H1 Q I1 q1
 | false=>exact hb pins s1 σ H1 Q I1 q1
end
def yV (K:AAD) (H:Hp) (a:Addr) (xs:List V):Prop:=
 Rd H a (.lst xs)\/
  ∃(o:Obj) (its:AAK) (n:Nat),K.lookup a=some o/\o.cls= .type "list"/\o.dict=none/\o.data= .seq its n/\its.size<=sizeLine/\Vals xs its.toList
def B7 (K:AAD) (H:Hp) (a:Addr) (xs:List V):Prop:=
 Rd H a (.tup xs)\/
  ∃(o:Obj) (its:AAK) (n:Nat),K.lookup a=some o/\o.cls= .type "tuple"/\o.data= .seq its n/\its.size<=sizeLine/\Vals xs its.toList
noncomputable def abG:Value->Option V
 | .none=>some .cM
 | .bool b=>some (.bl b)
 | .int i _=>some (.int i)
 | .str x _=>some (.str x)
 | .bytes b _=>some (.byt b)
 | .float b _=>some (.flt b)
 | .ref a=>some (.ref a)
 | .type n=>some (.ty n)
 | _=>none
def RelV.abs {x:V}(r:RelV x u):abG u=some x:=by
 cases x with
 | cM=>cases r;rfl
 | bl _=>cases r;rfl
 | int _=>obtain⟨t,rfl⟩:=r;rfl
 | str _=>obtain⟨t,rfl⟩:=r;rfl
 | byt _=>obtain⟨t,rfl⟩:=r;rfl
 | flt _=>obtain⟨t,rfl⟩:=r;rfl
 | ref _=>cases r;rfl
 | ty _=>cases r;rfl
def RelV.inj {x y:V}{u:Value}(r:RelV x u) (q:RelV y u):x=y:=abh (r.abs.symm.trans q.abs)
theorem Vals.inj:∀{xs ys:List V}{us:AAL},Vals xs us->Vals ys us->xs=ys
 | _,_,_,.nil,.nil=>rfl
 | _,_,_,.cons r t,.cons r' t'=>by rw[r.inj r',Vals.inj t t']
section
variable {X:Cx}{pins:AAG}{σ:St}{H:Hp}{s:Shared}{a:Addr}{xs ys:List V}
def yV.of (h:H a=some (.lst xs)):yV K H a xs:=.inl (.inl h)
def B7.of (h:H a=some (.tup xs)):B7 K H a xs:=.inl (.inl h)
def Inv.list (I:Inv X pins σ H s) (h:yV X.K H a xs):∃its:BBG,Vals xs its/\PlainL s.heap a its.toArray/\xs.length<=sizeLine:=by
 rcases h with h | ⟨o,its,n,hk,hc,hd,hs,hz,r⟩
 ·obtain⟨z,its,n,r,e⟩:=h.ok I.hok;exact⟨its,r,⟨_,n,e,rfl,rfl,rfl⟩,z⟩
 ·refine⟨its.toList,r,⟨o,n,I.sV a o hk,hc,hd,by simpa using hs⟩,?_⟩;have e:=r.length;simp only[abw] at e;lia
def Inv.tuple (I:Inv X pins σ H s) (h:B7 X.K H a xs):∃its:BBG,Vals xs its/\IsTup s.heap a its.toArray/\xs.length<=sizeLine:=by
 rcases h with h | ⟨o,its,n,hk,hc,hs,hz,r⟩
 ·obtain⟨z,its,r,p⟩:=h.ok I.hok;exact⟨its,r,p,z⟩
 ·refine⟨its.toList,r,⟨o,I.sV a o hk,hc,n,by simpa using hs⟩,?_⟩;have e:=r.length;simp only[abw] at e;lia
def Inv.Mp (I:Inv X pins σ H s) (h:yV X.K H a xs) (h':yV X.K H a ys):xs=ys:=by
 obtain⟨its,r,⟨o,n,e,_,_,d⟩,_⟩:=I.list h;obtain⟨its',r',⟨o',n',e',_,_,d'⟩,_⟩:=I.list h';rw[e] at e';cases e';rw[d] at d';injection d' with d1 _
 have:its=its':=by simpa using congrArg Array.toList d1
 subst this;exact r.inj r'
def Inv.Ky (I:Inv X pins σ H s) (h:B7 X.K H a xs) (h':B7 X.K H a ys):xs=ys:=by
 obtain⟨its,r,⟨o,e,_,n,d⟩,_⟩:=I.tuple h;obtain⟨its',r',⟨o',e',_,n',d'⟩,_⟩:=I.tuple h';rw[e] at e';cases e';rw[d] at d';injection d' with d1 _
 have:its=its':=by simpa using congrArg Array.toList d1
 subst this;exact r.inj r'
end
noncomputable abbrev Cx.B8 (X:Cx) (E:AAE):Cx:={X with xe:=E}
noncomputable abbrev Cx.L7 (X:Cx):Cx:=X.B8 fun _ _=>False
def Cx.Ok.B8 {X:Cx}(ok:X.Ok) (E:AAE):(X.B8 E).Ok:=
 ⟨ok.mod,ok.kind,ok.glob,ok.blt,ok.above,ok.inj,ok.has,ok.Td,ok.hd,ok.frames,ok.stk,ok.Xk,ok.bs,ok.L6,ok.EY,ok.EZ,ok.wm,ok.Pu⟩
def Cx.Ok.tR (ok:(X.B8 E).Ok):X.Ok:=
 ⟨ok.mod,ok.kind,ok.glob,ok.blt,ok.above,ok.inj,ok.has,ok.Td,ok.hd,ok.frames,ok.stk,ok.Xk,ok.bs,ok.L6,ok.EY,ok.EZ,ok.wm,ok.Pu⟩
section
variable {X:Cx}{pins:AAG}{σ:St}{H:Hp}{s:Shared}{E:AAE}
def Inv.B8 (I:Inv X pins σ H s) (E:AAE):Inv (X.B8 E) pins σ H s:=⟨I.ok.B8 E,I.os,I.bare,I.base,I.loc,I.cell,I.free,I.n8,I.pin,I.hok,I.len⟩
def Inv.tR (I:Inv (X.B8 E) pins σ H s):Inv X pins σ H s:=⟨I.ok.tR,I.os,I.bare,I.base,I.loc,I.cell,I.free,I.n8,I.pin,I.hok,I.len⟩
def SP.tR {D:Ends}{f:Flow}{s':Shared}(h:SP (X.B8 E) pins D f s'):SP X pins D f s':=by
 cases f with
 | next=>obtain⟨σ',H',I,q⟩:=h;exact⟨σ',H',I.tR,q⟩
 | brk=>obtain⟨σ',H',I,q⟩:=h;exact⟨σ',H',I.tR,q⟩
 | cont=>obtain⟨σ',H',I,q⟩:=h;exact⟨σ',H',I.tR,q⟩
 | ret u=>obtain⟨v,σ',H',I,r,q⟩:=h;exact⟨v,σ',H',I.tR,r,q⟩
def DB.L7 {st:BBH}{t:TS}(h:DB X.L7 st t):DB X st t:=fun pins s σ H D I hw=>
 aat (h pins s σ H D (I.B8 _) hw) (fun _ _ q=>q.tR) fun _ _ z=>False.elim z
end
section
variable {X:Cx}{st:Stmt}{rest:BBH}{t u:TS}{e:Expr}{te:TE}{pos:Pos}
def XZ:TS:=fun D σ H=>D.nx σ H
def abH (t u:TS):TS:=fun D σ H=>t {D with nx:=u D} σ H
def P1:DB X [] XZ:=fun _ _ σ H _ I h=>afm ⟨σ,H,I,h⟩
def Mq (h1:PS X st t) (h2:DB X rest u):DB X (st :: rest) (abH t u):=by
 intro pins s σ H D I h;refine ae1 (dN (h1 pins s σ H {D with nx:=u D} I h) fun f s1 q=>?_);cases f with
 | next=>
  obtain⟨σ',H',I',q⟩:=q;exact h2 pins s1 σ' H' D I' q
 | ret v=>exact q
 | brk=>exact q
 | cont=>exact q
def IJ (h1:PS X st t):DB X [st] t:=by
 intro pins s σ H D I h;refine ae1 (dN (h1 pins s σ H D I h) fun f s1 q=>?_);cases f with
 | next=>exact afm q
 | ret v=>exact q
 | brk=>exact q
 | cont=>exact q
def Inv.quiet {s:Shared}(I:Inv X pins σ H s):interactive X.env=false:=by simp[interactive,I.ok.kind]
def X0 (te:TE):TS:=fun D σ H=>te σ H fun _ H1=>D.nx σ H1
def P4 (he:PE X e te) (hs:swapsWith e none pos.line X.env=pure false:=by rfl):PS X (.Expr e pos) (X0 te):=by
 intro pins s σ H D I h;exact wpAny_Expr_any (dN (he pins s σ H _ I h) fun v s1 ⟨x,H1,I1,r1,q1⟩=>⟨σ,H1,I1,q1⟩) I.quiet hs
def abI (te:TE):TS:=fun D σ H=>te σ H D.rt
def Uy (he:PE X e te):PS X (.Return (some e) pos) (abI te):=by
 intro pins s σ H D I h;exact wpAny_Return_some (dN (he pins s σ H _ I h) fun v s1 ⟨x,H1,I1,r1,q1⟩=>⟨x,σ,H1,I1,r1,q1⟩)
def abJ (c:TT) (t u:TS):TS:=fun D σ H=>c σ H fun b H1=>if b=true then t D σ H1 else u D σ H1
def X3 {c:Expr}{a b:BBH}{tc:TT}(hc:PT X c tc) (ha:DB X a t) (hb:DB X b u):PS X (.If c a b pos) (abJ tc t u):=by
 intro pins s σ H D I h;refine wpAny_If (dN (hc pins s σ H _ I h) fun d s1 hh=>?_);obtain⟨H1,I1,q1⟩:=hh;cases d with
 | true=>exact ha pins s1 σ H1 D I1 q1
 | false=>exact hb pins s1 σ H1 D I1 q1
end
abbrev TG:=V->St->Hp->(St->Hp->Prop)->Prop
abbrev Th:=List V->St->Hp->(St->Hp->Prop)->Prop
def PG (X:Cx) (target:Expr) (t:TG):Prop:=
 ∀(pins:AAG) (s:Shared) (σ:St) (H:Hp) (v:V) (u:Value) (Q:St->Hp->Prop),Inv X pins σ H s->RelV v u->t v σ H Q->
  wpAny (model X.prog X.w) X.A (assign target X.env u) (fun _ s'=>∃σ' H',Inv X pins σ' H' s'/\Q σ' H') X.xe s
def Ti (X:Cx) (ts:BBC) (t:Th):Prop:=
 ∀(pins:AAG) (s:Shared) (σ:St) (H:Hp) (vs:List V) (us:AAL) (Q:St->Hp->Prop),Inv X pins σ H s->Vals vs us->t vs σ H Q->
  wpAny (model X.prog X.w) X.A (assignInOrder ((assignEach ts X.env).map (·.2)) us) (fun _ s'=>∃σ' H',Inv X pins σ' H' s'/\Q σ' H') X.xe s
abbrev Uz:=V->V->V->Hp->(Hp->Prop)->Prop
def X4 (X:Cx) (t:Uz):Prop:=
 ∀(pins:AAG) (s:Shared) (σ:St) (H:Hp) (o i v:V) (ov iv u:Value) (Q:Hp->Prop),Inv X pins σ H s->RelV o ov->RelV i iv->RelV v u->t o i v H Q->
  wpAny (model X.prog X.w) X.A (setItem ov iv u) (fun _ s'=>∃H',Inv X pins σ H' s'/\Q H') X.xe s
section
variable {X:Cx}{pos:Pos}
def IK (i:Nat):TG:=fun v σ H Q=>Q (σ.set i (some v)) H
def IL (hN:X.N.Nodup) (hi:X.N[i]? =some x) (hx:Loc X.env.scope x) (hf:X.fn x=true\/X.env.scope.names.lookup x=some .local:=by first | exact .inl rfl | exact .inr rfl | assumption):PG X (.Name x pos) (IK i):=by
 intro pins s σ H v u Q I r h;exact wpAny_assign_Name (xQ I hN hi hx r (fun s' I'=>⟨_,H,I',h⟩) hf)
noncomputable def abK:Th:=fun vs σ H Q=>vs=[]/\Q σ H
noncomputable def X5 (t:TG) (u:Th):Th:=fun vs σ H Q=>∃v r,vs=v :: r/\t v σ H fun σ' H'=>u r σ' H' Q
def P5:Ti X [] abK:=by
 intro pins s σ H vs us Q I r h;obtain⟨e,h⟩:=h;subst e;cases r;exact assignInOrder_nil ⟨σ,H,I,h⟩
def Mr {e:Expr}{t:TG}{u:Th}(h1:PG X e t) (h2:Ti X es u)
  (hs:(assignEach (e :: es) X.env).map (·.2)=assign e X.env :: (assignEach es X.env).map (·.2):=by rfl):Ti X (e :: es) (X5 t u):=by
 intro pins s σ H vs us Q I r h;obtain⟨v,vr,e1,h⟩:=h;subst e1;cases r with
 | cons r rr=>
  rw[hs];refine assignInOrder_cons (dN (h1 pins s σ H _ _ _ I r h) fun _ s1 hh=>?_);obtain⟨σ1,H1,I1,q1⟩:=hh;exact h2 pins s1 σ1 H1 _ _ Q I1 rr q1
def abL (K:AAD) (n:Nat) (t:Th):TG:=fun v σ H Q=>∃a xs,v= .ref a/\B7 K H a xs/\xs.length=n/\t xs σ H Q
def UA {t:Th}{n:Nat}(hc:X.calm=true) (h:Ti X es t)
  (hn:(assignEach es X.env).length=n:=by rfl) (hst:(assignEach es X.env).findIdx? (·.1)=none:=by rfl):PG X (.Tuple es k pos) (abL X.K n t):=by
 intro pins s σ H v u Q I r hw;obtain⟨a,xs,e1,hq,hl,hw⟩:=hw;subst e1;cases r;obtain⟨its,rv,ht,hz⟩:=I.tuple hq;refine assign_Tuple_tuple (I.ok.hd hc) ht (by simp[hn,<-hl,rv.length]) hst fun h' hx=>?_;have I1:Inv X pins σ H {s with heap:=h'}:=I.kept (t':=s.toks) fun b o e=>hx b o (abr (aaq e)) e;exact h pins _ σ H xs _ Q I1 (by simpa using rv) hw
def abM (to ti:TE) (t:Uz):TG:=fun v σ H Q=>to σ H fun o H1=>ti σ H1 fun i H2=>t o i v H2 fun H3=>Q σ H3
def Ms {o i:Expr}{to ti:TE}{t:Uz}(ho:PE X o to) (hi:PE X i ti) (hs:X4 X t)
  (ha:∀v,assign (.Subscript o i pos) X.env v=(do
   let ov <-holding [v] (eval o X.env)
   let iv <-holding [v,ov] (eval i X.env)
   standAt pos
   holding [v,ov,iv] (setItem ov iv v)
   release [v,ov,iv] []):=by intro _;rfl):PG X (.Subscript o i pos) (abM to ti t):=by
 intro pins s σ H v u Q I r h;rw[ha];refine aae (abW (dN (ho pins s σ H _ I h) fun ov s1 hh=>?_));obtain⟨x,H1,I1,r1,q1⟩:=hh;refine aae (abW (dN (hi pins s1 σ H1 _ I1 q1) fun iv s2 hh=>?_));obtain⟨y,H2,I2,r2,q2⟩:=hh;refine aae (afH (aae (abW (dN (hs pins s2 σ H2 x y v ov iv u _ I2 r1 r2 r q2) fun _ s3 hh=>?_))));obtain⟨H3,I3,q3⟩:=hh;exact wpAny_release ⟨σ,H3,I3,q3⟩
def UB (te:TE) (g:TG):TS:=fun D σ H=>te σ H fun x H1=>g x σ H1 D.nx
def GQ {e:Expr}{te:TE}{g:TG}(he:PE X e te) (hg:PG X tg g) (hs:swapsWithSole [tg] e pos.line X.env=pure false:=by rfl) (hw:swappedStores [tg] e X.env=pure none:=by rfl)
  (h1:(assignEach [tg] X.env).map (·.2)=[assign tg X.env]:=by rfl):PS X (.Assign [tg] e pos) (UB te g):=by
 intro pins s σ H D I h;refine wpAny_Assign_stores (dN (he pins s σ H _ I h) fun v s1 hh=>?_) hs hw;obtain⟨x,H1,I1,r1,q1⟩:=hh;rw[h1];exact dN (hg pins s1 σ H1 x v _ I1 r1 q1) fun _ s2 q=>q
def Mt {e:Expr}{te:TE}{pos':Pos}(hN:X.N.Nodup) (hi:X.N[i]? =some x) (hx:Loc X.env.scope x) (he:PE X e te) (hs:swapsWith e (some (.Name x pos')) pos.line X.env=pure false:=by rfl) (hf:X.fn x=true\/X.env.scope.names.lookup x=some .local:=by first | exact .inl rfl | exact .inr rfl | assumption):
  PS X (.Assign [.Name x pos'] e pos) (UB te (IK i)):=by
 intro pins s σ H D I h;refine wpAny_Assign_Name (dN (he pins s σ H _ I h) fun v s1 hh=>?_) hs;obtain⟨y,H1,I1,r1,q1⟩:=hh;exact xQ I1 hN hi hx r1 (fun s2 I2=>⟨_,H1,I2,q1⟩) hf
end
structure It where
 go:Nat->Hp->Prop
 Tj:Nat->Hp->V->Hp->Prop
 stop:Nat->Hp->Prop
def xR (X:Cx) (pins:AAG) (H:Hp) (b:Addr):Prop:=
 H b=none/\b≠X.env.locals/\b∉X.fs/\(b∈X.ex\/X.s₀.heap.objs.size<=b)/\(∀x c,X.env.cells.lookup x=some c->c≠b)/\∀p∈X.pn++pins,p.1≠b
def Inv.Mu {s:Shared}{b:Addr}(I:Inv X pins σ H s) (hb:s.heap.objs.size<=b) (hn:H' b=none):xR X pins H' b:=by
 refine⟨hn,Nat.ne_of_gt (aau I.lt hb),I.XS hb,.inr (aaA I.sz hb),fun x c e z=>?_,fun p hp z=>?_⟩
 ·obtain⟨v,q⟩:=I.cell x c e;exact absurd (aau q.lt (by rw[z];exact hb)) (acy _)
 ·exact absurd (aau (aaq (I.pin p hp).1) (by rw[z];exact hb)) (acy _)
structure Turn (P:Program) (w:World) (K:AAD) (tg:Expr) (J:It) (fp:BBE) (it:Addr) (tn:Nat->Heap->Prop):Prop where
 mem:it∈fp
 obj:∀i h,tn i h->∀b∈fp,∃o,h.get? b=some o/\∀v,o.data≠.cell v
 keep:∀i h h',tn i h->(∀b∈fp,∀o,h.get? b=some o->h'.get? b=some o)->tn i h'
 item:∀(X:Cx),X.prog=P->X.w=w->X.K=K->X.calm=true->∀(i:Nat) (pins:AAG) (s:Shared) (σ:St) (H:Hp) (E:AAE),Inv X pins σ H s->(∀b∈fp,xR X pins H b)->tn i s.heap->J.go i H->
  wpAny (model P w) X.A (pyNext (.ref it)) (fun r s1=>∃u,r=some u/\
   wpAny (model P w) X.A (letOwnedTupleGo tg (.ref it) u) (fun _ s2=>∃x H',Inv X pins σ H' s2/\RelV x u/\J.Tj i H x H'/\tn (i+1) s2.heap/\∀b∈fp,H' b=none) E s1) E s
 done:∀(X:Cx),X.prog=P->X.w=w->X.K=K->X.calm=true->∀(i:Nat) (pins:AAG) (s:Shared) (σ:St) (H:Hp) (E:AAE),Inv X pins σ H s->(∀b∈fp,xR X pins H b)->tn i s.heap->J.stop i H->
  wpAny (model P w) X.A (pyNext (.ref it)) (fun r s1=>r=none/\Inv X pins σ H s1) E s
 self:∀(A:Around) (i:Nat) (s:Shared) (Q:AAE) (E:AAE),tn i s.heap->Q (.ref it) s->wpAny (model P w) A (pyIter (.ref it)) Q E s
abbrev TI:=St->Hp->(It->Hp->Prop)->Prop
def PIE (X:Cx) (pins:AAG) (σ:St) (tg:Expr) (R:It->Hp->Prop) (itv:Value) (s2:Shared):Prop:=
 ∃(it:Addr) (fp:BBE) (tn:Nat->Heap->Prop) (J:It) (H':Hp),itv= .ref it/\Inv X pins σ H' s2/\Turn X.prog X.w X.K tg J fp it tn/\tn 0 s2.heap/\(∀b∈fp,xR X pins H' b)/\R J H'
def PI (X:Cx) (tg iter:Expr) (wi:TI):Prop:=
 ∀(pins:AAG) (s:Shared) (σ:St) (H:Hp) (R:It->Hp->Prop),Inv X pins σ H s->wi σ H R->
  wpAny (model X.prog X.w) X.A (eval iter X.env) (fun v s1=>wpAny (model X.prog X.w) X.A (pyIter v) (PIE X pins σ tg R) X.xe s1) X.xe s
def Mv {s:Shared}{it:Addr}{n:String}{vs:AAK}{Q:Unit->Shared->Prop}(ho:s.heap.get? it=some o) (hc:o.cls= .type n) (hd:o.data= .fields vs)
    (hn:["enumerate","zip","dict_itemiterator","dict_reverseitemiterator","odict_iterator","itertools.zip_longest","itertools.pairwise"].contains n=false) (hQ:Q () s):wpAny M A (letOwnedTupleGo tg (.ref it) u) Q E s:=by
  unfold letOwnedTupleGo;cases tg <;> first
    | exact aah hQ
    | (cases u <;> first
        | exact aah hQ
        | (refine aae (wpAny_load ho ?_)
           rw[hc,hd];show wpAny M A (if(["enumerate","zip","dict_itemiterator","dict_reverseitemiterator","odict_iterator","itertools.zip_longest","itertools.pairwise"].contains n && vs[0]? == some (rawInt _))=true then _ else _) Q E s;rw[if_neg (by intro h;rw[hn,af1] at h;cases h)];exact aah hQ))
noncomputable def Itl (K:AAD) (a:Addr):It:=
 ⟨fun i H=>∃xs x,yV K H a xs/\xs[i]? =some x,fun i H x H'=>H'=H/\∀xs,yV K H a xs->xs[i]? =some x,fun i H=>∃xs,yV K H a xs/\xs.length<=i⟩
noncomputable def Itt (K:AAD) (a:Addr):It:=
 ⟨fun i H=>∃xs x,B7 K H a xs/\xs[i]? =some x,fun i H x H'=>H'=H/\∀xs,B7 K H a xs->xs[i]? =some x,fun i H=>∃xs,B7 K H a xs/\xs.length<=i⟩
noncomputable def Itr (lo:Int) (n:Nat):It:=⟨fun i _=>i < n,fun i H x H'=>H'=H/\x= .int (lo+i),fun i _=>n<=i⟩
def Kz (a it:Addr):Turn P w K tg (Itl K a) [it] it (fun i h=>h.IsListIter it a i) where
 mem:=by simp
 obj:=fun i h st b hb=>by
  have e:b=it:=by simpa using hb
  subst e;obtain⟨o,e,c,d⟩:=st;exact⟨o,e,fun v z=>by rw[d] at z;cases z⟩
 keep:=fun i h h' st k=>st.at fun o e=>k it (by simp) o e
 item:=by
  intro X hP hw hK hc i pins s σ H E I hf st hg;subst hP hw hK;obtain⟨xs,x,hq,hx⟩:=hg;obtain⟨its,rv,p,hz⟩:=I.list hq;obtain⟨u,hu,ru⟩:=rv.get hx;obtain⟨f0,f1,f2,f3,f4,f5⟩:=hf it (by simp);refine wpAny_pyNext_list_item st p.isList (x:=u) (by simpa using hu) fun h' st' sb=>?_;have I1:Inv X pins σ H {s with heap:=h'}:=I.turned (t':=s.toks) (fun b o hb e=>(sb.2 b hb).trans e) f0 f1 f3 f4 f5;obtain⟨o,e,c,d⟩:=id st';exact⟨u,rfl,Mv (s:={s with heap:=h'}) e c d (by decide) ⟨x,H,I1,ru,⟨rfl,fun ys hy=>by rw[I.Mp hy hq];exact hx⟩,st',fun b hb=>(hf b hb).1⟩⟩
 done:=by
  intro X hP hw hK hc i pins s σ H E I hf st hg;subst hP hw hK;obtain⟨xs,hq,hx⟩:=hg;obtain⟨its,rv,p,hz⟩:=I.list hq;obtain⟨f0,f1,f2,f3,f4,f5⟩:=hf it (by simp);have hl:=rv.length;exact wpAny_pyNext_list_end (I.ok.hd hc) st p.isList (by simp;lia) fun h' eb=>⟨rfl,I.turned (t':=s.toks) (fun b o hb e=>eb b o hb e) f0 f1 f3 f4 f5⟩
 self:=fun _ _ _ _ _ st h=>wpAny_pyIter_listiter st h
def GR (a it:Addr):Turn P w K tg (Itt K a) [it] it (fun i h=>h.IsTupleIter it a i) where
 mem:=by simp
 obj:=fun i h st b hb=>by
  have e:b=it:=by simpa using hb
  subst e;obtain⟨o,e,c,d⟩:=st;exact⟨o,e,fun v z=>by rw[d] at z;cases z⟩
 keep:=fun i h h' st k=>st.at fun o e=>k it (by simp) o e
 item:=by
  intro X hP hw hK hc i pins s σ H E I hf st hg;subst hP hw hK;obtain⟨xs,x,hq,hx⟩:=hg;obtain⟨its,rv,p,hz⟩:=I.tuple hq;obtain⟨u,hu,ru⟩:=rv.get hx;obtain⟨f0,f1,f2,f3,f4,f5⟩:=hf it (by simp);refine wpAny_pyNext_tuple_item st (show s.heap.IsTuple a its.toArray from p) (x:=u) (by simpa using hu) fun h' st' sb=>?_;have I1:Inv X pins σ H {s with heap:=h'}:=I.turned (t':=s.toks) (fun b o hb e=>(sb.2 b hb).trans e) f0 f1 f3 f4 f5;obtain⟨o,e,c,d⟩:=id st';exact⟨u,rfl,Mv (s:={s with heap:=h'}) e c d (by decide) ⟨x,H,I1,ru,⟨rfl,fun ys hy=>by rw[I.Ky hy hq];exact hx⟩,st',fun b hb=>(hf b hb).1⟩⟩
 done:=by
  intro X hP hw hK hc i pins s σ H E I hf st hg;subst hP hw hK;obtain⟨xs,hq,hx⟩:=hg;obtain⟨its,rv,p,hz⟩:=I.tuple hq;obtain⟨f0,f1,f2,f3,f4,f5⟩:=hf it (by simp);have hl:=rv.length;exact wpAny_pyNext_tuple_end (I.ok.hd hc) st (show s.heap.IsTuple a its.toArray from p) (by simp;lia) fun h' eb=>⟨rfl,I.turned (t':=s.toks) (fun b o hb e=>eb b o hb e) f0 f1 f3 f4 f5⟩
 self:=fun _ _ _ _ _ st h=>wpAny_pyIter_tupleiter st h
def GV (it:Addr) (lo:Int) (n:Nat):Turn P w K tg (Itr lo n) [it] it (fun i h=>IsRangeIter h it (lo+(i:Nat) * 1) ((n:Int) - (i:Nat)) 1) where
 mem:=by simp
 obj:=fun i h st b hb=>by
  have e:b=it:=by simpa using hb
  subst e;exact⟨_,st,fun v z=>by
   have z':Data.fields _=Data.cell v:=z;cases z'⟩
 keep:=fun i h h' st k=>k it (by simp) _ st
 item:=by
  intro X hP hw hK hc i pins s σ H E I hf st hg;subst hP hw hK;obtain⟨f0,f1,f2,f3,f4,f5⟩:=hf it (by simp);have W:=Walks.range (prog:=X.prog) (w:=X.w) (I.ok.hd hc) it lo 1 n;refine W.item i s _ _ hg st fun v h' tk hv st' kk=>?_;obtain⟨t,rfl⟩:=hv;have I1:Inv X pins σ H {s with heap:=h',toks:=tk}:=I.turned (fun b o hb e=>kk b o (by simpa using hb) e) f0 f1 f3 f4 f5;refine⟨_,rfl,Mv (s:={s with heap:=h',toks:=tk}) (n:="range_iterator") st' rfl rfl (by decide) ⟨.int (lo+i),H,I1,⟨t,?_⟩,⟨rfl,rfl⟩,st',fun b hb=>(hf b hb).1⟩⟩;rw[Int.mul_one]
 done:=by
  intro X hP hw hK hc i pins s σ H E I hf st hg;subst hP hw hK;obtain⟨f0,f1,f2,f3,f4,f5⟩:=hf it (by simp);exact wpAny_pyNext_range_end (I.ok.hd hc) st (by have:n<=i:=hg;lia) fun h' eb=>⟨rfl,I.turned (t':=s.toks) (fun b o hb e=>eb b o hb e) f0 f1 f3 f4 f5⟩
 self:=fun _ _ _ _ _ st h=>wpAny_pyIter_rangeiter st h
section
variable {X:Cx}{tg:Expr}
def X6 (K:AAD) (tl:TE):TI:=fun σ H R=>tl σ H fun x H1=>∃a,x= .ref a/\(∃xs,yV K H1 a xs)/\R (Itl K a) H1
def abQ (K:AAD) (tl:TE):TI:=fun σ H R=>tl σ H fun x H1=>∃a,x= .ref a/\(∃xs,B7 K H1 a xs)/\R (Itt K a) H1
def P6 {l:Expr}{tl:TE}(hl:PE X l tl):PI X tg l (X6 X.K tl):=by
 intro pins s σ H R I h;refine dN (hl pins s σ H _ I h) fun v s1 hh=>?_;obtain⟨x,H1,I1,r1,q1⟩:=hh;obtain⟨a,e,⟨xs,hq⟩,q⟩:=q1;subst e;cases r1;obtain⟨its,rv,p,hz⟩:=I1.list hq;refine wpAny_pyIter_list p.isList ?_;refine⟨s1.heap.objs.size,[s1.heap.objs.size],_,_,H1,rfl,I1.kept (t':=s1.toks) fun b o e=>aan _ e,Kz a _,⟨_,aa5 _ rfl,rfl,rfl⟩,fun b hb=>?_,q⟩;have e:b=s1.heap.objs.size:=by simpa using hb
 subst e;exact I1.Mu (aap _) (I1.hok.fresh (aap _))
def UC {l:Expr}{tl:TE}(hl:PE X l tl):PI X tg l (abQ X.K tl):=by
 intro pins s σ H R I h;refine dN (hl pins s σ H _ I h) fun v s1 hh=>?_;obtain⟨x,H1,I1,r1,q1⟩:=hh;obtain⟨a,e,⟨xs,hq⟩,q⟩:=q1;subst e;cases r1;obtain⟨its,rv,p,hz⟩:=I1.tuple hq;refine wpAny_pyIter_tuple (show s1.heap.IsTuple a its.toArray from p) ?_;refine⟨s1.heap.objs.size,[s1.heap.objs.size],_,_,H1,rfl,I1.kept (t':=s1.toks) fun b o e=>aan _ e,GR a _,⟨_,aa5 _ rfl,rfl,rfl⟩,fun b hb=>?_,q⟩;have e:b=s1.heap.objs.size:=by simpa using hb
 subst e;exact I1.Mu (aap _) (I1.hok.fresh (aap _))
def Mw {s:Shared}{R:It->Hp->Prop}{lo hi:Int}{t u v:Tok}{tk:Nat}(I:Inv X pins σ H s) (h1:-(2 ^ 62)<=lo) (h2:lo < 2 ^ 62) (h3:-(2 ^ 62)<=hi) (h4:hi < 2 ^ 62)
  (q:R (Itr lo (hi - lo).toNat) H):wpAny (model X.prog X.w) X.A (pyIter (.ref s.heap.objs.size)) (PIE X pins σ tg R) E {s with heap:=s.heap.push {cls:=.type "range",data:=.fields #[.int lo t,.int hi u,.int 1 v]},toks:=tk}:=by
 refine wpAny_pyIter_range (IsRange.new ..) (small_one h1 h2 h3 h4) ?_;have I1:Inv X pins σ H {s with heap:=s.heap.push {cls:=.type "range",data:=.fields #[.int lo t,.int hi u,.int 1 v]},toks:=tk}:=I.kept fun b o e=>aan _ e;refine⟨(s.heap.push {cls:=.type "range",data:=.fields #[.int lo t,.int hi u,.int 1 v]}).objs.size,[(s.heap.push {cls:=.type "range",data:=.fields #[.int lo t,.int hi u,.int 1 v]}).objs.size],_,_,H,rfl,
  I1.kept (t':=tk) fun b o e=>aan _ e,GV _ lo (hi - lo).toNat,?_,fun b hb=>?_,q⟩
 ·have e1:lo+((0:Nat):Int) * 1=lo:=by simp
  have e2:(((hi - lo).toNat:Nat):Int) - ((0:Nat):Int)=Builtin.Range.rangeSize lo hi 1:=by rw[rangeSize_one];split <;> lia
  show IsRangeIter _ _ (lo+((0:Nat):Int) * 1) ((((hi - lo).toNat:Nat):Int) - ((0:Nat):Int)) 1;rw[e1,e2];exact aa5 _ rfl
 ·have e:b=(s.heap.push {cls:=.type "range",data:=.fields #[.int lo t,.int hi u,.int 1 v]}).objs.size:=by simpa using hb
  subst e;exact I1.Mu (aap _) (I1.hok.fresh (aap _))
def X7 (ta:TA):TI:=fun σ H R=>ta σ H fun vs H1=>∃j:Int,vs=[.int j]/\-(2 ^ 62)<=j/\j < 2 ^ 62/\R (Itr 0 j.toNat) H1
def KA {a:Expr}{ta:TA}{p:Pos}(hg:Gl X "range") (hm:X.mg "range" =none) (ha:PA X [a] ta) (hs:starEach [a] X.env=[(false,eval a X.env)]:=by rfl):PI X tg (.Call (.Name "range" p) [a] [] pos) (X7 ta):=by
 intro pins s σ H R I h;refine Call_ (DC I hg hm boot_range (afF (dN (ha pos pins s σ H _ I h) fun us s1 hh=>?_) hs rfl));obtain⟨vs,H1,I1,r1,q1⟩:=hh;obtain⟨j,e,q1,q2,q⟩:=q1;subst e;cases r1 with
 | cons r rr=>
  cases rr;obtain⟨t,rfl⟩:=r;exact call_range_1 (Mw I1 (by lia) (by lia) q1 q2 (by simpa using q))
def abR (wi:TI) (g:TG) (tb:TS):TS:=fun D σ H=>wi σ H fun J H1=>∃W:Nat->Nat->St->Hp->Prop,(∃m,W 0 m σ H1)/\∀i m σ H,W i m σ H->
 (J.stop i H/\D.nx σ H)\/(J.go i H/\∃N:St->Hp->Prop,(∀σ' H',N σ' H'->∃m',m' < m/\W (i+1) m' σ' H')/\∀x H',J.Tj i H x H'->g x σ H' fun σ2 H2=>tb {D with nx:=N,ct:=N,bk:=D.nx} σ2 H2)
noncomputable def tU (fp:BBE) (h:Heap):List (Addr×Obj):=fp.filterMap fun b=>(h.get? b).map fun o=>(b,o)
def iu {h:Heap}{b:Addr}(hb:b∈fp) (e:h.get? b=some o):(b,o)∈tU fp h:=List.mem_filterMap.mpr ⟨b,hb,by rw[e];rfl⟩
def CG {h:Heap}{p:Addr×Obj}(hp:p∈tU fp h):p.1∈fp/\h.get? p.1=some p.2:=by
 obtain⟨b,hb,e⟩:=List.mem_filterMap.mp hp;cases q:h.get? b with
 | none=>rw[q] at e;cases e
 | some o=>
  rw[q] at e;have e':(b,o)=p:=abh e;subst e';exact⟨hb,q⟩
def Inv.pinned {s:Shared}(I:Inv X pins σ H s) (hf:∀b∈fp,xR X pins H b) (ho:∀b∈fp,∃o,s.heap.get? b=some o/\∀v,o.data≠.cell v):Inv X (pins++tU fp s.heap) σ H s:=
 I.IG fun p hp=>(abP.mp hp).elim (fun z=>I.pin p (aaw _ z)) fun z=>by
  obtain⟨hb,e⟩:=CG z;obtain⟨f0,f1,f2,_⟩:=hf p.1 hb;obtain⟨o,e',d⟩:=ho p.1 hb;rw[e] at e';cases e';exact⟨e,f0,f1,f2,d⟩
def Inv.n9 {pl:AAG}{s:Shared}(I:Inv X (pins++pl) σ H s):Inv X pins σ H s:=I.IG fun p hp=>I.pin p (aaw _ (abV _ hp))
def UD {iter:Expr}{wi:TI}{g:TG}{tb:TS}(hp:PassesOwn (model X.prog X.w) X.A X.env X.xe) (hc:X.calm=true) (hi:PI X tg iter wi) (hg:PG X tg g) (hb:DB X body tb)
  (hs:∀x,foldedSetIterable iter X.env x=pure x:=by intro _;rfl):PS X (.For tg iter body [] pos) (abR wi g tb):=by
 intro pins s σ H D I h;refine wpAny_For (dN (hi pins s σ H _ I h) fun v s1 h1=>dN h1 fun itv s2 h2=>?_) hs;obtain⟨it,fp,tn,J,H2,e,I2,T,st2,f2,W,⟨m0,w0⟩,turn⟩:=h2;subst e;have KC:∀{H':Hp},(∀b∈fp,H' b=none)->∀b∈fp,xR X pins H' b:=fun hn b hb=>⟨hn b hb,(f2 b hb).2⟩
 refine codeAny_forLoop_any (fun n s'=>∃i σ' H',Inv X pins σ' H' s'/\tn i s'.heap/\(∀b∈fp,H' b=none)/\W i n σ' H') ?_ m0 ⟨0,σ,H2,I2,st2,fun b hb=>(f2 b hb).1,w0⟩;rintro n s3 ⟨i,σ3,H3,I3,st3,fr3,w3⟩;rcases turn i n σ3 H3 w3 with⟨stop,qn⟩ | ⟨go,N,hN,step⟩
 ·refine abS hp (dN (T.done X rfl rfl rfl hc i pins s3 σ3 H3 X.xe I3 (KC fr3) st3 stop) fun r s4 hh=>?_);obtain⟨hr,I4⟩:=hh;subst hr;exact afm ⟨σ3,H3,I4,qn⟩
 ·refine abS hp (dN (T.item X rfl rfl rfl hc i pins s3 σ3 H3 X.xe I3 (KC fr3) st3 go) fun r s4 hh=>?_);obtain⟨u,hr,h4⟩:=hh;subst hr;refine abS hp (dN h4 fun _ s5 hh=>?_);obtain⟨x,H5,I5,r5,y5,UE,fr5⟩:=hh;have I5':=I5.pinned (KC fr5) (T.obj _ _ UE);refine abS hp (dN (hg _ s5 σ3 H5 x u _ I5' r5 (step x H5 y5)) fun _ s6 hh=>?_);obtain⟨X8,H6,I6,q6⟩:=hh;refine abS hp (dN (hb _ s6 X8 H6 _ I6 q6) fun f s7 q7=>?_);have again:∀{B9:St}{H7:Hp},Inv X (pins++tU fp s5.heap) B9 H7 s7->N B9 H7->∃m,m < n/\∃i σ' H',Inv X pins σ' H' s7/\tn i s7.heap/\(∀b∈fp,H' b=none)/\W i m σ' H':=fun {B9 H7} I7 n7=>by
   obtain⟨m',hm,w7⟩:=hN B9 H7 n7;refine⟨m',hm,i+1,B9,H7,I7.n9,T.keep _ _ _ UE fun b hb o e=>(I7.pin (b,o) (aaw _ (aaw _ (iu hb e)))).1,fun b hb=>?_,w7⟩;obtain⟨o,e,d⟩:=T.obj _ _ UE b hb;exact(I7.pin (b,o) (aaw _ (aaw _ (iu hb e)))).2.1
  cases f with
  | next=>obtain⟨B9,H7,I7,n7⟩:=q7;exact again I7 n7
  | cont=>obtain⟨B9,H7,I7,n7⟩:=q7;exact again I7 n7
  | brk=>obtain⟨B9,H7,I7,q7⟩:=q7;exact⟨B9,H7,I7.n9,q7⟩
  | ret v=>obtain⟨x7,B9,H7,I7,r7,q7⟩:=q7;exact⟨x7,B9,H7,I7.n9,r7,q7⟩
end
abbrev R2:=V->V->Hp->VK->Prop
def zQ (X:Cx) (f:Value->Value->Sem Value) (r:R2):Prop:=
 ∀(pins:AAG) (s:Shared) (σ:St) (H:Hp) (x y:V) (v u:Value) (Q:VK),Inv X pins σ H s->RelV x v->RelV y u->r x y H Q->
  wpAny (model X.prog X.w) X.A (f v u) (EP X pins σ Q) X.xe s
def Yb (X:Cx) (f:Value->Sem Value) (r:V->Hp->VK->Prop):Prop:=
 ∀(pins:AAG) (s:Shared) (σ:St) (H:Hp) (x:V) (v:Value) (Q:VK),Inv X pins σ H s->RelV x v->r x H Q->
  wpAny (model X.prog X.w) X.A (f v) (EP X pins σ Q) X.xe s
def jK (X:Cx) (f:Value) (r:List V->Hp->VK->Prop):Prop:=
 ∀(pins:AAG) (s:Shared) (σ:St) (H:Hp) (xs:List V) (us:AAL) (Q:VK),Inv X pins σ H s->Vals xs us->r xs H Q->
  wpAny (model X.prog X.w) X.A (call f us) (EP X pins σ Q) X.xe s
def UG (r:R2) (ta tb:TE):TE:=fun σ H Q=>ta σ H fun x H1=>tb σ H1 fun y H2=>r x y H2 Q
def tUn (r:V->Hp->VK->Prop) (ta:TE):TE:=fun σ H Q=>ta σ H fun x H1=>r x H1 Q
def rI (C:Int->Int->Prop) (g:Int->Int->V):R2:=fun x y H Q=>∃i j,x= .int i/\y= .int j/\C i j/\Q (g i j) H
def UH (g:Int->Int->V):R2:=fun x y H Q=>∃i j,x= .int i/\y= .int j/\Q (g i j) H
def rU (g:Int->V):V->Hp->VK->Prop:=fun x H Q=>∃i,x= .int i/\Q (g i) H
section
variable {X:Cx}{a b:Expr}{ta tb:TE}{pos:Pos}
def UI (ha:PE X a ta) (hb:PE X b tb){s:Shared}{R:V->V->Hp->Prop}(I:Inv X pins σ H s)
  (h:ta σ H fun x H1=>tb σ H1 fun y H2=>R x y H2){f:Value->Value->Sem Value}
  (hf:∀v u s2 x y H2,Inv X pins σ H2 s2->RelV x v->RelV y u->R x y H2->wpAny (model X.prog X.w) X.A (f v u) Q X.xe s2):
  wpAny (model X.prog X.w) X.A (eval a X.env) (fun v s₁=>wpAny (model X.prog X.w) X.A (eval b X.env) (fun u s₂=>wpAny (model X.prog X.w) X.A (f v u) Q X.xe s₂) X.xe s₁) X.xe s:=by
 refine dN (ha pins s σ H _ I h) fun v s1 hh=>?_;obtain⟨x,H1,I1,r1,q1⟩:=hh;refine dN (hb pins s1 σ H1 _ I1 q1) fun u s2 hh=>?_;obtain⟨y,H2,I2,r2,q2⟩:=hh;exact hf v u s2 x y H2 I2 r1 r2 q2
def Yc {op:Operator}(ho:zQ X (binaryOp op) r) (ha:PE X a ta) (hb:PE X b tb):PE X (.BinOp a op b pos) (UG r ta tb):=by
 intro pins s σ H Q I h;exact wpAny_BinOp (UI ha hb I h fun v u s2 x y H2 I2 rx ry q=>ho pins s2 σ H2 x y v u Q I2 rx ry q)
def Yd {op:UnaryOp}{r:V->Hp->VK->Prop}(ho:Yb X (unaryOp op) r) (ha:PE X a ta):PE X (.UnaryOp op a pos) (tUn r ta):=by
 intro pins s σ H Q I h;exact UnaryOp_ (dN (ha pins s σ H _ I h) fun v s1 ⟨x,H1,I1,r1,q1⟩=>ho pins s1 σ H1 x v Q I1 r1 q1)
def opI {f:Value->Value->Sem Value}{C:Int->Int->Prop}
  (rule:∀(i j:Int) (t u:Tok) (s:Shared) (Q:AAE) (E:AAE),C i j->Q (.int (g i j) s.toks) {s with toks:=s.toks+1}->wpAny (model X.prog X.w) X.A (f (.int i t) (.int j u)) Q E s):
  zQ X f (rI C fun i j=>.int (g i j)):=by
 intro pins s σ H x y v u Q I rx ry h;obtain⟨i,j,rfl,rfl,hc,q⟩:=h;obtain⟨t,rfl⟩:=rx;obtain⟨t',rfl⟩:=ry;exact rule i j t t' s _ _ hc ⟨.int (g i j),H,I.tok _,⟨_,rfl⟩,q⟩
def Ye {f:Value->Value->Sem Value}
  (rule:∀(i j:Int) (t u:Tok) (s:Shared) (Q:AAE) (E:AAE),Q (.int (g i j) s.toks) {s with toks:=s.toks+1}->wpAny (model X.prog X.w) X.A (f (.int i t) (.int j u)) Q E s):
  zQ X f (UH fun i j=>.int (g i j)):=by
 intro pins s σ H x y v u Q I rx ry h;obtain⟨i,j,rfl,rfl,q⟩:=h;obtain⟨t,rfl⟩:=rx;obtain⟨t',rfl⟩:=ry;exact rule i j t t' s _ _ ⟨.int (g i j),H,I.tok _,⟨_,rfl⟩,q⟩
def UJ {f:Value->Value->Sem Value}{g:Int->Int->Bool}
  (rule:∀(i j:Int) (t u:Tok) (s:Shared) (Q:AAE) (E:AAE),Q (.bool (g i j)) s->wpAny (model X.prog X.w) X.A (f (.int i t) (.int j u)) Q E s):
  zQ X f (UH fun i j=>.bl (g i j)):=by
 intro pins s σ H x y v u Q I rx ry h;obtain⟨i,j,rfl,rfl,q⟩:=h;obtain⟨t,rfl⟩:=rx;obtain⟨t',rfl⟩:=ry;exact rule i j t t' s _ _ ⟨.bl (g i j),H,I,rfl,q⟩
def Yg (i j:Int):Prop:=0 < j/\j < 1073741824
def abT (i j:Int):Prop:=0<=j/\j<=1000000/\i.natAbs < 2 ^ 64
def UK (i j:Int):Prop:=(-(2 ^ 64) < i/\i < 2 ^ 64)\/(-(2 ^ 64) < j/\j < 2 ^ 64)
def UK.ok {i j:Int}(h:UK i j):IntMulOk i j:=by
 rcases h with⟨h1,h2⟩ | ⟨h1,h2⟩
 ·exact .of_left (intBits_le_64 h1 h2)
 ·exact .of_right (intBits_le_64 h1 h2)
def UL:zQ X (binaryOp .Add) (UH fun i j=>.int (i+j)):=Ye fun _ _ _ _ _ _ _ q=>add_int q
def UM:zQ X (binaryOp .Sub) (UH fun i j=>.int (i - j)):=Ye fun _ _ _ _ _ _ _ q=>sub_int q
def UN:zQ X (binaryOp .Mult) (rI UK fun i j=>.int (i * j)):=opI fun _ _ _ _ _ _ _ hc q=>mul_int q hc.ok
def P7:zQ X (binaryOp .FloorDiv) (rI Yg fun i j=>.int (i / j)):=opI fun i j _ _ _ _ _ hc q=>by
 have h1:(0:Int) < j:=hc.1;have h2:j < 1073741824:=hc.2;exact floordiv_int (by lia) (by rw[Int.fdiv_eq_ediv_of_nonneg i (by lia)];exact q) (.inl (PyProof.noPylong_small (by lia)))
def UO:zQ X (binaryOp .Mod) (rI (fun _ j=>0 < j) fun i j=>.int (i % j)):=opI fun i j _ _ _ _ _ hc q=>by
 have h1:(0:Int) < j:=hc;exact mod_int' (by lia) (by rw[Int.fmod_eq_emod_of_nonneg i (by lia)];exact q)
def UP:zQ X (binaryOp .Pow) (rI abT fun i j=>.int (i ^ j.toNat)):=opI fun _ _ _ _ _ _ _ hc q=>pow_int_small hc.1 hc.2.1 hc.2.2 q
def unI {f:Value->Sem Value}{g:Int->Int}
  (rule:∀(i:Int) (t:Tok) (s:Shared) (Q:AAE) (E:AAE),Q (.int (g i) s.toks) {s with toks:=s.toks+1}->wpAny (model X.prog X.w) X.A (f (.int i t)) Q E s):
  Yb X f (rU fun i=>.int (g i)):=by
 intro pins s σ H x v Q I rx h;obtain⟨i,rfl,q⟩:=h;obtain⟨t,rfl⟩:=rx;exact rule i t s _ _ ⟨.int (g i),H,I.tok _,⟨_,rfl⟩,q⟩
def UQ:Yb X (unaryOp .USub) (rU fun i=>.int (-i)):=unI fun _ _ _ _ _ q=>neg_int q
end
section
variable {X:Cx}{a b c:Expr}{ta tb tc:TE}{pos:Pos}
def DE {s:Shared}{Q:VK}{k k':Bool}(I:Inv X pins σ H s) (q:Q (.bl k) H) (e:k=k'):EP X pins σ Q (.bool k') s:=by
 subst e;exact⟨.bl k,H,I,rfl,q⟩
def Yh:zQ X (compareOp .Lt) (UH fun i j=>.bl (decide (i < j))):=UJ fun _ _ _ _ _ _ _ q=>lt_int q
def Yi:zQ X (compareOp .LtE) (UH fun i j=>.bl (decide (i<=j))):=UJ fun _ _ _ _ _ _ _ q=>le_int q
def Yj:zQ X (compareOp .Gt) (UH fun i j=>.bl (decide (j < i))):=UJ fun _ _ _ _ _ _ _ q=>gt_int q
def KD:zQ X (compareOp .In) (fun x y H Q=>∃i j,x= .str i/\y= .str j/\Q (.bl (!(Builtin.Str.occurrences j i 0 j.length 1).isEmpty)) H):=by
 intro pins s σ H x y v u Q I rx ry h;obtain⟨i,j,rfl,rfl,q⟩:=h;obtain⟨t,rfl⟩:=rx;obtain⟨t',rfl⟩:=ry;exact in_str (DE I q rfl)
def UR:zQ X (compareOp .Is) (fun x y H Q=>y= .cM/\Q (.bl (decide (x= .cM))) H):=by
 intro pins s σ H x y v u Q I rx ry h;obtain⟨rfl,q⟩:=h;cases ry;refine is_none_gen (DE I q ?_);cases x <;> first
  | (cases rx;rfl)
  | (obtain⟨t,rfl⟩:=rx;rfl)
def IM:zQ X (compareOp .IsNot) (fun x y H Q=>y= .cM/\Q (.bl (!decide (x= .cM))) H):=by
 intro pins s σ H x y v u Q I rx ry h;obtain⟨rfl,q⟩:=h;cases ry;refine isnot_none_gen (DE I q ?_);cases x <;> first
  | (cases rx;rfl)
  | (obtain⟨t,rfl⟩:=rx;rfl)
def DF:zQ X (compareOp .NotIn) (fun x y H Q=>∃i j,x= .str i/\y= .str j/\Q (.bl (!(!(Builtin.Str.occurrences j i 0 j.length 1).isEmpty))) H):=by
 intro pins s σ H x y v u Q I rx ry h;obtain⟨i,j,rfl,rfl,q⟩:=h;obtain⟨t,rfl⟩:=rx;obtain⟨t',rfl⟩:=ry;exact notIn_str (DE I q rfl)
def GW (b:Expr)(h:op≠.In:=by decide) (h2:op≠.NotIn:=by decide):behindInMarks op b=false:=by
 have e1:(op == CmpOp.In)=false:=by cases op <;> first | rfl | exact absurd rfl h
 have e2:(op == CmpOp.NotIn)=false:=by cases op <;> first | rfl | exact absurd rfl h2
 cases b <;> simp[behindInMarks,e1,e2]
def DG (ho:zQ X (compareOp op) r) (ha:PE X a ta) (hb:PE X b tb) (hm:behindInMarks op b=false):PE X (.Compare a [op] [b] pos) (UG r ta tb):=by
 intro pins s σ H Q I h;exact wpAny_Compare1 (UI ha hb I h fun v u s2 x y H2 I2 rx ry q=>ho pins s2 σ H2 x y v u Q I2 rx ry q) hm
def Tn (t:TE):TT:=fun σ H Q=>t σ H fun x H'=>∃k,x= .bl k/\Q k H'
def IP (ho:zQ X (compareOp op) r) (ha:PE X a ta) (hb:PE X b tb) (hm:behindInMarks op b=false):PT X (.Compare a [op] [b] pos) (Tn (UG r ta tb)):=by
 intro pins s σ H Q I h;refine wpAny_isTrue_Compare1 (dN (ha pins s σ H _ I h) fun v s1 ⟨x,H1,I1,r1,q1⟩=>dN (hb pins s1 σ H1 _ I1 q1) fun u s2 ⟨y,H2,I2,r2,q2⟩=>
  dN (ho pins s2 σ H2 x y v u _ I2 r1 r2 q2) fun c s3 ⟨z,H3,I3,r3,k,e,q3⟩=>?_) hm
 subst e;cases r3;exact ab7 ⟨H3,I3,q3⟩
def Mx (r r':R2) (ta tb tc:TE):TE:=fun σ H Q=>ta σ H fun x H1=>tb σ H1 fun y H2=>r x y H2 fun z H3=>∃k,z= .bl k/\
 (if k=true then tc σ H3 fun w' H4=>r' y w' H4 Q else Q (.bl false) H3)
def My {op':CmpOp}{r':R2}(ho:zQ X (compareOp op) r) (ho':zQ X (compareOp op') r') (ha:PE X a ta) (hb:PE X b tb) (hc:PE X c tc)
  (hm:lastMarks [op,op'] [b,c]=false:=by with_unfolding_all rfl):PT X (.Compare a [op,op'] [b,c] pos) (Tn (Mx r r' ta tb tc)):=by
 intro pins s σ H Q I h;refine isTrue_chain (dN (ha pins s σ H _ I h) fun v s1 ⟨x,H1,I1,r1,q1⟩=>test_link (dN (hb pins s1 σ H1 _ I1 q1) fun u s2 ⟨y,H2,I2,r2,q2⟩=>
  dN (ho pins s2 σ H2 x y v u _ I2 r1 r2 q2) fun d s3 ⟨z,H3,I3,r3,k,e,q3⟩=>?_)) hm
 subst e;cases r3;refine ab7 ?_;cases k with
 | false=>
  obtain⟨k',e',q'⟩:=q3;cases e';exact ite_ff ⟨H3,I3,q'⟩
 | true=>
  refine ite_tt (test_last (dN (hc pins s3 σ H3 _ I3 q3) fun w' s4 ⟨z',H4,I4,r4,q4⟩=>dN (ho' pins s4 σ H4 y z' u w' _ I4 r2 r4 q4) fun d' s5 hh=>?_));obtain⟨z2,H5,I5,r5,k2,e2,q5⟩:=hh;subst e2;cases r5;exact ab7 ⟨H5,I5,q5⟩
def yW:(sizeLine:Nat) < 2 ^ 63:=by rw[aeW];decide
def GY:zQ X (binaryOp .Add) (fun x y H Q=>∃i j,x= .str i/\y= .str j/\i.length+j.length<=sizeLine/\Q (.str (i++j)) H):=by
 intro pins s σ H x y v u Q I rx ry h;obtain⟨i,j,rfl,rfl,hz,q⟩:=h;obtain⟨t,rfl⟩:=rx;obtain⟨t',rfl⟩:=ry;exact add_str (fun t' tk=>⟨.str (i++j),H,I.tok _,⟨_,rfl⟩,q⟩) hz
def vals1 {x:V}(r:Vals [x] us):∃u,us=[u]/\RelV x u:=by
 cases r with
 | cons r1 r2=>cases r2;exact⟨_,rfl,r1⟩
def vals2 {x:V}(r:Vals [x,y] us):∃u w',us=[u,w']/\RelV x u/\RelV y w':=by
 cases r with
 | cons r1 r2=>
  cases r2 with
  | cons r3 r4=>cases r4;exact⟨_,_,rfl,r1,r3⟩
def KG (hc:X.calm=true):jK X (.builtin "max") (fun xs H Q=>∃i j,xs=[.int i,.int j]/\Q (.int (if j > i then j else i)) H):=by
 intro pins s σ H xs us Q I r h;obtain⟨i,j,rfl,q⟩:=h;obtain⟨u,w',rfl,⟨t,rfl⟩,⟨t',rfl⟩⟩:=vals2 r;refine max_two_ints (I.ok.hd hc) fun h' tk k=>⟨_,H,I.kept k,?_,q⟩
 by_cases hj:j > i
 ·rw[if_pos hj,if_pos hj];exact⟨_,rfl⟩
 ·rw[if_neg hj,if_neg hj];exact⟨_,rfl⟩
end
structure GZ (h:Heap) (x dx C:Addr) (mA:AAF):Prop where
 obj:h.get? x=some (PySem.W.instObj C dx)
 ns:h.Ns1 dx mA
 ne:dx≠x
def CH {h:Heap}{dx:Addr}(n:h.Ns1 dx mA):∃od,h.get? dx=some od/\∀name,PySem.W.lookIn name od=some (mA name):=by
 obtain⟨o,es,ep,ho,hd,hk,_,hm⟩:=n;refine⟨o,ho,fun name=>?_⟩;have e:=hm name;unfold nsFind findBy at e;rw[<-Array.find?_toList] at e;unfold PySem.W.lookIn;rw[hd];dsimp only;split
 ·rename_i y q;rw[q] at e;exact congrArg some e
 ·rename_i q;rw[q] at e;have a:es.toList.any (·.refKey)=false:=by
   rw[List.any_eq_false];intro y hy;obtain⟨z,t,hkey⟩:=hk y (Array.mem_toList_iff.mp hy);simp[DictEntry.refKey,hkey]
  have a':¬es.toList.any (·.refKey)=true:=by rw[a];exact aeh
  rw[if_neg a'];exact congrArg some e
def GZ.look {h:Heap}{x dx:Addr}(I:GZ h x dx C mA):∃od,PySem.W.InstAt h x (PySem.W.instObj C dx) C (some od)/\∀name,PySem.W.lookIn name od=some (mA name):=
 let⟨od,ho,hl⟩:=CH I.ns
 ⟨od,⟨I.obj,rfl,rfl,ho⟩,hl⟩
section
variable {prog:Program}{w:World}{A:Around}{E:AAE}{s:Shared}{K:AAD}{x dx C f:Addr}{mA:AAF}{name:Str}{v:Value}
def get_map {expr:Bool}(X:K.In s.heap) (I:GZ s.heap x dx C mA) (hg:PySem.W.plainGet K C name=true) (hh:PySem.W.hasDictIn K C=true)
  (ha:PySem.W.findIn K (.ref C) name=some none) (hv:mA name=some v) (hv':PySem.W.handedIn v=true) (h:Q v {s with toks:=s.toks+1}):
  wpAny (model prog w) A (getAttr (.ref x) name expr) Q E s:=by
 obtain⟨od,J,hl⟩:=I.look;exact PySem.W.get_value X J (afx hg).1 (PySem.W.findObj_own hh ha rfl (by rw[hl,hv])) hv' h
def Mz {Q:Value×BBG->Shared->Prop}(X:K.In s.heap) (I:GZ s.heap x dx C mA) (hg:PySem.W.plainGet K C name=true)
  (hf:PySem.W.findIn K (.ref C) name=some (some (.ref f))) (ht:PySem.W.isFn K (.ref f)=true) (hv:mA name=none) (h:Q (.ref f,[.ref x]) s):
  wpAny (model prog w) A (getMethod (.ref x) name pl) Q E s:=by
 obtain⟨od,J,hl⟩:=I.look;exact PySem.W.method_fn X J (afx hg).1 (afx hg).2 hf (afn.mp ht) (by show(PySem.W.lookIn name od).map (·.isSome)=some false;rw[hl,hv];rfl) h
def P8 {ns:BBB}{Q:Unit->Shared->Prop}(X:K.In s.heap) (I:GZ s.heap x dx C mA)
  (hs:PySem.W.findIn K (.ref C) "__setattr__" =some (some (.builtin "object.__setattr__"))) (hp:PySem.W.plainOver K C=true) (ht:PySem.W.takerIn K C name=some none) (hh:PySem.W.hasDictIn K C=true)
  (hw:PySem.Within mA ns) (hsz:ns.length<=sizeLine)
  (h:∀h',GZ h' x dx C (fun y=>if y=name then some v else mA y)->Heap.SameBut dx s.heap h'->Q () {s with heap:=h',toks:=s.toks+2}):
  wpAny (model prog w) A (setAttr (.ref x) name v) Q E s:=by
 obtain⟨od,J,hl⟩:=I.look;refine PySem.W.set_plain X J hs (PySem.W.osa_open (s:={s with toks:=s.toks+1}) (r:=none) X J hp ht fun b=>?_);obtain⟨cd,hc,hd'⟩:=PySem.W.any_some hh;have hx:s.heap.get? x=some ⟨.ref C,some dx,.plain,#[]⟩:=I.obj;refine aae (aah (aae (aae (wpAny_loadPart hx (aae (PySem.W.Looks.here (s:={s with toks:=s.toks+1}) (afy X hc) ?_))))));rw[hd'];refine aah (a:=some dx) (aae (aah (aae ?_)));refine wpAny_nsSet1 (s:={s with toks:=s.toks+1}) I.ns fun h' hn2 hs2=>?_;obtain⟨oD,esD,epD,hoD,hdD,hcD⟩:=hn2.count (PySem.Within.cons name v hw);refine aae (wpAny_lookBehind hoD (by rw[hdD];exact pastItsLine_dict (aaA hcD (by rw[aar];lia))) ?_);exact aah (h _ ⟨(hs2.2 _ (acz I.ne)).trans I.obj,hn2,I.ne⟩ hs2)
def MA {R:Result->Shared->Prop}{vs:AAL}(X:K.In s.heap) (hm:PySem.W.makesIn K C=true)
  (hi:PySem.W.findIn K (.ref C) "__init__" =some (some (.ref f))) (hf:PySem.W.typeIn K (.ref f)=some (.type "function"))
  (h:codeAny (model prog w) (A.under (.builtin "type.__call__" ⟨.ref C :: vs,kw⟩)) (.call (.ref f) ⟨.ref (s.heap.objs.size+1) :: vs,kw⟩) (PySem.W.InitBack (s.heap.objs.size+1) R)
   {s with heap:=(s.heap.push PySem.W.emptyDict).push (PySem.W.instObj C s.heap.objs.size)}):
  codeAny (model prog w) A (.call (.ref C) ⟨vs,kw⟩) R s:=by
 obtain⟨hh,g,d,t,os⟩:=s;exact PySem.W.make_core (PySem.W.makes_of X hm) (acJ X hi) (fun self=>PySem.W.bind_fn X self hf) (.inl rfl) h
end
noncomputable def pL (f:Str) (v:V):List (Str×V)->List (Str×V)
 | []=>[(f,v)]
 | (g,x) :: r=>if g=f then(g,v) :: r else(g,x) :: pL f v r
theorem zR (f g:Str) (v:V):∀fs:List (Str×V),(pL f v fs).lookup g=if g=f then some v else fs.lookup g
 | []=>by
  show List.lookup g [(f,v)]=_;by_cases h:g=f
  ·have hb:(g == f)=true:=afn.mpr h;simp only[List.lookup,hb,if_pos h]
  ·have hb:(g == f)=false:=ad5.mpr h;simp only[List.lookup,hb,if_neg h]
 | (k,x) :: r=>by
  have ih:=zR f g v r;rw[show pL f v ((k,x) :: r)=(if k=f then(k,v) :: r else(k,x) :: pL f v r) from rfl];by_cases hk:k=f
  ·rw[if_pos hk];by_cases h:g=k
   ·have hb:(g == k)=true:=afn.mpr h;simp only[List.lookup,hb,if_pos (h.trans hk)]
   ·have hb:(g == k)=false:=ad5.mpr h;simp only[List.lookup,hb,if_neg (fun e:g=f=>h (e.trans hk.symm))]
  ·rw[if_neg hk];by_cases h:g=k
   ·have hb:(g == k)=true:=afn.mpr h;simp only[List.lookup,hb,if_neg (fun e:g=f=>hk (h.symm.trans e))]
   ·have hb:(g == k)=false:=ad5.mpr h;simp only[List.lookup,hb];exact ih
theorem yX (f:Str) (v:V):∀fs:List (Str×V),f∈(pL f v fs).map (·.1)/\∀g,g∈fs.map (·.1)->g∈(pL f v fs).map (·.1)
 | []=>⟨by simp[pL],fun g h=>by simp at h⟩
 | (k,x) :: r=>by
  obtain⟨i1,i2⟩:=yX f v r;rw[show pL f v ((k,x) :: r)=(if k=f then(k,v) :: r else(k,x) :: pL f v r) from rfl];by_cases hk:k=f
  ·rw[if_pos hk];subst hk;exact⟨by simp,fun g h=>by simpa using h⟩
  ·rw[if_neg hk];refine⟨?_,fun g h=>?_⟩
   ·rw[aax];exact aaz _ i1
   ·rw[aax] at h ⊢;rcases aao.mp h with e | e
    ·exact aao.mpr (.inl e)
    ·exact aaz _ (i2 g e)
theorem zS (f:Str) (v:V):∀fs:List (Str×V),(pL f v fs).length<=fs.length+1
 | []=>by simp[pL]
 | (k,x) :: r=>by
  have ih:=zS f v r;rw[show pL f v ((k,x) :: r)=(if k=f then(k,v) :: r else(k,x) :: pL f v r) from rfl];by_cases hk:k=f
  ·rw[if_pos hk,aar,aar];lia
  ·rw[if_neg hk,aar,aar];lia
def tN.some_of {v:V}{o:BBP}(r:tN (some v) o):∃u,o=some u/\RelV v u:=by
 cases o with
 | none=>exact(show False from r).elim
 | some u=>exact⟨u,rfl,r⟩
def tN.none_of {o:BBP}(r:tN none o):o=none:=by
 cases o with
 | none=>rfl
 | some u=>exact(show False from r).elim
def CI {v:V}(r:RelV v u):PySem.W.handedIn u=true:=by
 cases v with
 | cM=>cases(show u=Value.none from r);rfl
 | bl b=>cases(show u=Value.bool b from r);rfl
 | int i=>obtain⟨t,e⟩:=(show ∃t,u=Value.int i t from r);cases e;rfl
 | str x=>obtain⟨t,e⟩:=(show ∃t,u=Value.str x t from r);cases e;rfl
 | byt b=>obtain⟨t,e⟩:=(show ∃t,u=Value.bytes b t from r);cases e;rfl
 | flt b=>obtain⟨t,e⟩:=(show ∃t,u=Value.float b t from r);cases e;rfl
 | ref a=>cases(show u=Value.ref a from r);rfl
 | ty n=>cases(show u=Value.type n from r);rfl
section
variable {P:Program}{w:World}{H:Hp}{h:Heap}{a C dx:Addr}{fs:List (Str×V)}
def DH (hok:sO P w H h) (e:H a=some (.ins C dx fs)):∃mA,GZ h a dx C mA/\(∀f,tN (fs.lookup f) (mA f))/\PySem.Within mA (fs.map (·.1))/\fs.length<=1000/\H dx=some (.own a):=by
 obtain⟨d,z,ne,ob,mA,n,r,q⟩:=(show g7 P w H h a (.ins C dx fs) from hok a _ e)
 exact⟨mA,⟨ob,n,ne⟩,r,q,z,d⟩
end
structure AF (K:AAD) (C:Addr):Prop where
 pg:PySem.W.plainGet K C Str.empty=true
 hd:PySem.W.hasDictIn K C=true
 po:PySem.W.plainOver K C=true
 sa:PySem.W.findIn K (.ref C) "__setattr__" =some (some (.builtin "object.__setattr__"))
def AF.get (c:AF K C) (f:Str):PySem.W.plainGet K C f=true:=c.pg
def fX (K:AAD) (C:Addr) (f:Str):Prop:=PySem.W.findIn K (.ref C) f=some none
def fX.Yk {f:Str}(n:fX K C f):PySem.W.takerIn K C f=some none:=by
 unfold PySem.W.takerIn;rw[show PySem.W.findIn K (.ref C) f=some none from n];rfl
structure Meth (K:AAD) (C:Addr) (m:Str) (f:Addr):Prop where
 at_:PySem.W.findIn K (.ref C) m=some (some (.ref f))
 fn:PySem.W.isFn K (.ref f)=true
 kp:PySem.W.keepIn K (.ref f)=true
section
variable {X:Cx}{pins:AAG}{σ:St}{H:Hp}{s:Shared}{a C dx:Addr}{fs:List (Str×V)}{f:Str}{v:V}{A:Around}{E:AAE}
def A4 {b:Bool}(I:Inv X pins σ H s) (e:H a=some (.ins C dx fs)) (c:AF X.K C) (n:fX X.K C f) (l:fs.lookup f=some v)
  (h:∀u s',Inv X pins σ H s'->RelV v u->Q u s'):wpAny (model X.prog X.w) A (getAttr (.ref a) f b) Q E s:=by
 obtain⟨mA,O,r,_,_,_⟩:=DH I.hok e;obtain⟨u,hu,ru⟩:=tN.some_of (v:=v) (o:=mA f) (by rw[<-l];exact r f);exact get_map I.sV O (c.get f) c.hd n hu (CI ru) (h u _ (I.tok _) ru)
def qZ {m:Str}{g:Addr}{Q:Value×BBG->Shared->Prop}(I:Inv X pins σ H s) (e:H a=some (.ins C dx fs)) (c:AF X.K C) (k:Meth X.K C m g) (l:fs.lookup m=none)
  (h:Q (.ref g,[.ref a]) s):wpAny (model X.prog X.w) A (getMethod (.ref a) m pl) Q E s:=by
 obtain⟨mA,O,r,_,_,_⟩:=DH I.hok e;have hn:mA m=none:=tN.none_of (by rw[<-l];exact r m);exact Mz I.sV O (c.get m) k.at_ k.fn hn h
def A5 {Q:Unit->Shared->Prop}(I:Inv X pins σ H s) (e:H a=some (.ins C dx fs)) (c:AF X.K C) (n:fX X.K C f) (hl:fs.length < 1000) (ry:RelV y u)
  (h:∀s',Inv X pins σ (upd H a (.ins C dx (pL f y fs))) s'->Q () s'):wpAny (model X.prog X.w) A (setAttr (.ref a) f u) Q E s:=by
 obtain⟨mA,O,r,wi,_,ho⟩:=DH I.hok e;have hz:(fs.map (·.1)).length<=sizeLine:=by rw[aas,aeW];lia
 refine P8 I.sV O c.sa c.po n.Yk c.hd wi hz fun h' O' sb=>h _ ?_;have hd:∃o,h'.get? dx=some o:=let⟨o,_,_,e',_⟩:=O'.ns;⟨o,e'⟩
 refine I.write (x:=a) (e:=dx) (by rw[e];exact True.intro) (.inr ho) (fun b q hb z=>(sb.2 b hb).trans z) hd ?_;refine⟨by rw[aX O.ne];exact ho,?_,O.ne,O'.obj,_,O'.ns,fun g=>?_,fun g hg=>?_⟩
 ·have:=zS f y fs;lia
 ·show tN ((pL f y fs).lookup g) (if g=f then some u else mA g);rw[zR];by_cases q:g=f
  ·rw[if_pos q,if_pos q];exact ry
  ·rw[if_neg q,if_neg q];exact r g
 ·by_cases q:g=f
  ·rw[q];exact(yX f y fs).1
  ·refine(yX f y fs).2 g (wi g fun z=>hg ?_);show(if g=f then some u else mA g)=none;rw[if_neg q];exact z
def Inv.made (I:Inv X pins σ H s):Inv X pins σ (upd (upd H s.heap.objs.size (.own (s.heap.objs.size+1))) (s.heap.objs.size+1) (.ins C s.heap.objs.size []))
  {s with heap:=(s.heap.push PySem.W.emptyDict).push (PySem.W.instObj C s.heap.objs.size)}:=by
 have e1:(s.heap.push PySem.W.emptyDict).get? s.heap.objs.size=some PySem.W.emptyDict:=aa5 s.heap rfl;have e2:((s.heap.push PySem.W.emptyDict).push (PySem.W.instObj C s.heap.objs.size)).get? (s.heap.objs.size+1)=some (PySem.W.instObj C s.heap.objs.size):=by
  have:=aa5 (s.heap.push PySem.W.emptyDict) (o:=PySem.W.instObj C s.heap.objs.size) rfl
  rwa [afB] at this
 have e3:(s.heap.push PySem.W.emptyDict).Ns s.heap.objs.size (fun _=>none):=⟨PySem.W.emptyDict,#[],_,e1,rfl,(fun e he=>absurd he (by simp)),fun _=>rfl⟩
 have I1:=I.laid (a:=s.heap.objs.size) (o:=.own (s.heap.objs.size+1)) (h':=s.heap.push PySem.W.emptyDict) (t':=s.toks) (fun b u q=>aan _ q) (aap _) ⟨_,e1⟩;refine I1.laid (a:=s.heap.objs.size+1) (o:=.ins C s.heap.objs.size []) (t':=s.toks) (fun b u q=>aan _ q) (Nat.le_of_eq (afB _ _)) ?_;have ne:s.heap.objs.size≠s.heap.objs.size+1:=abr (afO _);refine⟨by rw[aX ne,aY],acI _,ne,e2,fun _=>none,(Heap.Ns1.of_empty e3).at fun o q=>aan _ q,fun _=>True.intro,fun y hy=>absurd rfl hy⟩
def IQ {env:Env}{e:Expr}(hb:attributeBase e f env (eval e env)=eval e env)
  (h:wpAny (model prog w) A (eval e env) (fun o s₁=>wpAny (model prog w) A (getAttr o f true) Q E s₁) E s):wpAny (model prog w) A (eval (.Attribute e f pos) env) Q E s:=
 Attribute_any_ h (by rw[arm_eval_Attribute,hb])
end
def abX (K:AAD) (ta:TE) (f:Str):TE:=fun σ H Q=>ta σ H fun x H1=>∃a C dx fs v,x= .ref a/\H1 a=some (.ins C dx fs)/\AF K C/\fX K C f/\fs.lookup f=some v/\Q v H1
def abY (K:AAD) (ta tv:TE) (f:Str):TS:=fun D σ H=>tv σ H fun y H1=>ta σ H1 fun x H2=>∃a C dx fs,x= .ref a/\H2 a=some (.ins C dx fs)/\AF K C/\fX K C f/\fs.length < 1000/\
 D.nx σ (upd H2 a (.ins C dx (pL f y fs)))
def US (X:Cx) (op:Operator) (rd:V->V->Hp->VK->Prop):Prop:=
 ∀(pins:AAG) (s:Shared) (σ:St) (H:Hp) (x y:V) (u v:Value) (Q:VK),Inv X pins σ H s->RelV x u->RelV y v->rd x y H Q->wpAny (model X.prog X.w) X.A (inplaceOp op u v) (EP X pins σ Q) X.xe s
def P9 (K:AAD) (ta tv:TE) (rd:V->V->Hp->VK->Prop) (f:Str):TS:=fun D σ H=>ta σ H fun x H1=>∃a C dx fs v,x= .ref a/\H1 a=some (.ins C dx fs)/\AF K C/\fX K C f/\fs.lookup f=some v/\
 tv σ H1 fun y H2=>rd v y H2 fun z H3=>∃Xm fs',H3 a=some (.ins C Xm fs')/\fs'.length < 1000/\D.nx σ (upd H3 a (.ins C Xm (pL f z fs')))
section
variable {X:Cx}{o e value:Expr}{f:Str}{pos pos' tpos:Pos}{ta tv:TE}
def UT (he:PE X e ta) (hb:attributeBase e f X.env (eval e X.env)=eval e X.env):PE X (.Attribute e f pos) (abX X.K ta f):=by
 intro pins s σ H Q I h;refine IQ hb (dN (he pins s σ H _ I h) fun u s1 hh=>?_);obtain⟨x,H1,I1,rx,a,C,dx,fs,v,ex,ea,c,n,l,q⟩:=hh;subst ex;obtain rfl:u=Value.ref a:=rx;exact A4 I1 ea c n l fun u' s2 I2 ru=>⟨v,H1,I2,ru,q⟩
def UU (ha:PE X o ta) (hv:PE X value tv) (hs:swapsWith value (some (.Attribute o f pos')) pos.line X.env=pure false):PS X (.Assign [.Attribute o f pos'] value pos) (abY X.K ta tv f):=by
 intro pins s σ H D I h;refine afi (dN (hv pins s σ H _ I h) fun u s1 ⟨y,H1,I1,ry,q⟩=>dN (ha pins s1 σ H1 _ I1 q) fun ov s2 hh=>?_) hs;obtain⟨x,H2,I2,rx,a,C,dx,fs,ex,ea,c,n,l,q2⟩:=hh;subst ex;obtain rfl:ov=Value.ref a:=rx;exact A5 I2 ea c n l ry fun s3 I3=>⟨σ,_,I3,q2⟩
def KH {op:Operator}{rd:V->V->Hp->VK->Prop}(ha:PE X o ta) (hv:PE X value tv) (hop:US X op rd):PS X (.AugAssign (.Attribute o f tpos) op value pos) (P9 X.K ta tv rd f):=by
 intro pins s σ H D I h;refine wpAny_AugAssign_AttributeAny (dN (ha pins s σ H _ I h) fun ov s1 hh=>?_);obtain⟨x,H1,I1,rx,a,C,dx,fs,v,ex,ea,c,n,l,q⟩:=hh;subst ex;obtain rfl:ov=Value.ref a:=rx;refine A4 I1 ea c n l fun u s2 I2 ru=>dN (hv pins s2 σ H1 _ I2 q) fun w3 s3 ⟨y,H2,I3,ry,q3⟩=>dN (hop pins s3 σ H2 v y u w3 _ I3 ru ry q3) fun w4 s4 hh=>?_;obtain⟨z,H3,I4,rz,Xm,fs',ea',l',q4⟩:=hh;exact A5 I4 ea' c n l' rz fun s5 I5=>⟨σ,_,I5,q4⟩
def abZ:V->V->Hp->VK->Prop:=fun x y H Q=>∃i j,x= .int i/\y= .int j/\Q (.int (i+j)) H
def A6:US X .Add abZ:=by
 rintro pins s σ H x y u v Q I rx ry ⟨i,j,rfl,rfl,q⟩;obtain⟨t,rfl⟩:=(show ∃t,u=Value.int i t from rx)
 obtain⟨t',rfl⟩:=(show ∃t',v=Value.int j t' from ry)
 exact PyProof.Rows.iadd_int ⟨.int (i+j),H,I.tok _,⟨_,rfl⟩,q⟩
end
structure dM (k:Nat) (A:Around):Prop where
 hd:A.handled=none
 dp:A.depth+3 * k+5 < recursionLimit
 un:A.units+16 * k+200 < cLine
 gd:A.guards=some []
def dM.mono {j:Nat}(r:dM k A) (h:j<=k):dM j A:=⟨r.hd,by have:=r.dp;lia,by have:=r.un;lia,r.gd⟩
def dM.deeper {k:Nat}{A:Around}(r:dM (k+1) A) (env:Env):dM k (A.deeper env):=
 ⟨r.hd,by have:=r.dp;show A.depth+1+3 * k+5 < _;lia,by have:=r.un;show A.units+3+16 * k+200 < _;lia,r.gd⟩
def G0 :(A.under (.builtin "type.__call__" ⟨.ref C :: us,kw⟩)).depth=A.depth+1:=by
 first | rfl | simp[Around.under,Code.weight,Code.isCreation,Code.isGuard,Code.isCaller,Code.frames,Code.isFrame,guardIds]
def G1 :(A.under (.builtin "type.__call__" ⟨.ref C :: us,kw⟩)).units=A.units+1:=by
 first | rfl | simp[Around.under,Code.cUnits,Code.frames,Code.isFrame]
def dM.make (r:dM (k+1) A) (C:Addr) (us:AAL) (kw:List (Str×Value)):dM k (A.under (.builtin "type.__call__" ⟨.ref C :: us,kw⟩)):=
 ⟨r.hd,by have:=r.dp;rw[G0];lia,by have:=r.un;rw[G1];lia,r.gd⟩
def dM.depth {k:Nat}{A:Around}(r:dM k A):A.depth < recursionLimit:=by have:=r.dp;lia
def dM.units {k:Nat}{A:Around}(r:dM k A):A.units+64 < cLine:=by have:=r.un;lia
def MB:TA:=fun _ H Q=>Q [] H
def To (ta:TE) (tr:TA):TA:=fun σ H Q=>ta σ H fun x H1=>tr σ H1 fun xs H2=>Q (x :: xs) H2
section
variable {X:Cx}{e:Expr}{es:BBC}{te:TE}{t:TA}{pos:Pos}
def tV:PA X [] MB:=fun _ _ _ _ H Q I h=>aen ⟨[],H,I,.nil,h⟩
def j9 (ha:PE X e te) (hr:PA X es t) (hs:starEach (e :: es) X.env=(false,eval e X.env) :: starEach es X.env:=by rfl):PA X (e :: es) (To te t):=by
 intro pos pins s σ H Q I h;rw[hs];show wpAny _ _ (spliced ((false,eval e X.env) :: backTo pos (starEach es X.env))) _ _ s;refine abA (dN (ha pins s σ H _ I h) fun u s1 hh=>?_);obtain⟨x,H1,I1,r1,q1⟩:=hh;exact dN (hr pos pins s1 σ H1 _ I1 q1) fun us s2 ⟨xs,H2,I2,r2,q2⟩=>⟨x :: xs,H2,I2,.cons r1 r2,q2⟩
def ab0 (t:TA):TE:=fun σ H Q=>t σ H fun xs H1=>xs.length<=sizeLine/\∀p,H1 p=none->Q (.ref p) (upd H1 p (.tup xs))
def ab1 (t:TA):TE:=fun σ H Q=>t σ H fun xs H1=>xs.length<=sizeLine/\∀p,H1 p=none->Q (.ref p) (upd H1 p (.lst xs))
def MC {x1}(h:PA X es t):PE X (.Tuple es x1 pos) (ab0 t):=by
 intro pins s σ H Q I hq;refine wpAny_Tuple_spliced (dN (h pos pins s σ H _ I hq) fun us s1 ⟨xs,H1,I1,r,z,q⟩=>⟨by rw[<-r.length];exact z,?_⟩);have hf:H1 s1.heap.objs.size=none:=I1.hok.fresh (aap _);refine⟨.ref s1.heap.objs.size,upd H1 s1.heap.objs.size (.tup xs),I1.laid (t':=s1.toks) (fun b u e=>aan _ e) (aap _) ?_,rfl,q _ hf⟩;exact⟨z,us,r,⟨_,aa5 _ rfl,rfl,_,rfl⟩⟩
def UW (h:PA X es t):PE X (.List es pos) (ab1 t):=by
 intro pins s σ H Q I hq;refine wpAny_List_spliced (dN (h pos pins s σ H _ I hq) fun us s1 ⟨xs,H1,I1,r,z,q⟩=>⟨by rw[<-r.length];exact z,?_⟩);have hf:H1 s1.heap.objs.size=none:=I1.hok.fresh (aap _);refine⟨.ref s1.heap.objs.size,upd H1 s1.heap.objs.size (.lst xs),I1.laid (t':=s1.toks) (fun b u e=>aan _ e) (aap _) ?_,rfl,q _ hf⟩;exact⟨z,us,0,r,aa5 _ rfl⟩
end
abbrev Sp:=List V->Hp->VK->XK->Prop
abbrev KJ:=BBF->Hp->Shared->XK->Value->Shared->Prop
structure G2 (P:Program) (w:World) (K:AAD) (mg:AAF) (base:Heap) (A:Around) (outer:BBF) (s:Shared) (H:Hp):Prop where
 frames:A.frames=some outer
 mod:Mod K mg base
 bs:∀b o,base.get? b=some o->s.heap.get? b=some o/\H b=none
 L6:base.objs.size<=s.heap.objs.size
 wm:s.heap.FunFrames base outer
 Pu:∀b∈frs outer,H b=none
 hok:sO P w H s.heap
 bare:AllBare s.gens
def CE (outer:BBF) (P:Program) (w:World) (H:Hp) (s:Shared) (Q:VK) (u:Value) (s':Shared):Prop:=
 ∃v H',s'.os=s.os/\AllBare s'.gens/\Un (frs outer) [] H H' s.heap s'.heap/\sO P w H' s'.heap/\RelV v u/\Q v H'
def CR (CX:KJ) (outer:BBF) (P:Program) (w:World) (H:Hp) (s:Shared) (Q:VK) (E:XK) (r:Result) (s':Shared):Prop:=
 match r with
 | .ok (.ret u)=>CE outer P w H s Q u s'
 | .ok _=>False
 | .error e=>CX outer H s E e s'
structure gQ (P:Program) (w:World) (K:AAD) (mg:AAF) (base:Heap) (CX:KJ) (k:Nat) (f:Addr) (fd:FuncData) (ps:BBB) (sp:Sp):Prop where
 len:∀vs H Q E,sp vs H Q E->vs.length=ps.length
 run:∀(A:Around) (outer:BBF) (s:Shared) (H:Hp) (args:Args) (us:AAL) (vs:List V) (Q:VK) (E:XK),dM k A->G2 P w K mg base A outer s H->BindsTo s fd args (ps.zip us)->Vals vs us->sp vs H Q E->
  codeAny (model P w) A (.call (.ref f) args) (CR CX outer P w H s Q E) s
def gQ.mono {P:Program}{w:World}{K:AAD}{mg:AAF}{base:Heap}{CX:KJ}{j k:Nat}{f:Addr}{fd:FuncData}{ps:BBB}{sp:Sp}(F:gQ P w K mg base CX j f fd ps sp) (h:j<=k):
  gQ P w K mg base CX k f fd ps sp:=⟨F.len,fun A outer s H args us vs Q E hr=>F.run A outer s H args us vs Q E (hr.mono h)⟩
def G2.make {s:Shared}(e:G2 P w K mg base A outer s H) (C:Addr) (us:AAL) (kw:List (Str×Value)):
  G2 P w K mg base (A.under (.builtin "type.__call__" ⟨.ref C :: us,kw⟩)) outer s H:=⟨by first | exact e.frames | (simpa[Around.under,Code.envs,Code.isFrame,pushEnvs] using e.frames),e.mod,e.bs,e.L6,e.wm,e.Pu,e.hok,e.bare⟩
section
variable {X:Cx}{pins:AAG}{σ:St}{H:Hp}{s s':Shared}
def Inv.Qa (I:Inv X pins σ H s):G2 X.prog X.w X.K X.mg X.base X.A X.stack s H:=
 ⟨I.ok.frames,I.ok.mod,I.bs,aaA I.ok.L6 I.sz,I.stack,I.ve,I.hok,I.bare⟩
def Inv.after {Q:VK}(I:Inv X pins σ H s) (h:CE X.stack X.prog X.w H s Q u s'):EP X pins σ Q u s':=by
 obtain⟨v,H',os,bare,un,hok,r,q⟩:=h;obtain⟨hh,g,d,t,os'⟩:=s';obtain rfl:os'=s.os:=os;exact⟨v,H',I.call (h':=hh) (g':=g) (d':=d) (t':=t) (ch:=[]) un hok bare (fun b z=>absurd z (by simp)),r,q⟩
end
def Tp (sp:Sp) (sW:List V) (E:XK) (t:TA):TE:=fun σ H Q=>t σ H fun vs H1=>sp (vs++sW) H1 Q E
def Tq (C:Addr) (m:Str) (sp:Sp) (sW:List V) (E:XK) (ta:TE) (t:TA):TE:=fun σ H Q=>ta σ H fun x H1=>∃a dx fs,x= .ref a/\H1 a=some (.ins C dx fs)/\fs.lookup m=none/\
 t σ H1 fun vs H2=>sp (x :: (vs++sW)) H2 Q E
def Yl (C:Addr) (sp:Sp) (sW:List V) (E:XK) (t:TA):TE:=fun σ H Q=>t σ H fun vs H1=>∀x dx,H1 x=none->H1 dx=none->dx≠x->
 sp (.ref x :: (vs++sW)) (upd (upd H1 dx (.own x)) x (.ins C dx [])) (fun v H2=>v= .cM/\Q (.ref x) H2) E
def Binds (K:AAD) (fd:FuncData) (ps:BBB) (ds:AAL):Prop:=
 ∀(s:Shared) (us:AAL),K.In s.heap->(us++ds).length=ps.length->BindsTo s fd ⟨us,[]⟩ (ps.zip (us++ds))
def Binds.all {fd:FuncData}(h:∀us:BBG,us.length=ps.length->bindArgs fd ⟨us,[]⟩=pure (ps.zip us)):Binds K fd ps []:=fun s us _ hl=>by
 rw[abU] at hl ⊢;exact .of_eq (h us hl)
def Passes (CX:KJ) (X:Cx) (E:XK):Prop:=∀(pins:AAG) (σ:St) (H:Hp) (s:Shared) (e:Value) (s':Shared),Inv X pins σ H s->CX X.stack H s E e s'->X.xe e s'
section
variable {X:Cx}{CX:KJ}{k:Nat}{f C:Addr}{fd:FuncData}{ps:BBB}{sp:Sp}{sW:List V}{ds:AAL}{E:XK}{x m:Str}{p pos apos:Pos}{e o:Expr}{es:BBC}{ta:TE}{t:TA}
def DI {s:Shared}{Q:VK}(F:gQ X.prog X.w X.K X.mg X.base CX k f fd ps sp) (hr:dM k X.A) (hb:Binds X.K fd ps ds) (hd:Vals sW ds) (hx:Passes CX X E)
  (I:Inv X pins σ H s) (r:Vals vs us) (h:sp (vs++sW) H Q E):wpAny (model X.prog X.w) X.A (call (.ref f) us) (EP X pins σ Q) X.xe s:=by
 have r2:Vals (vs++sW) (us++ds):=r.append hd;have hl:(us++ds).length=ps.length:=by rw[<-r2.length];exact F.len _ _ _ _ h
 refine aeD (aeH (F.run X.A X.stack s H ⟨us,[]⟩ (us++ds) (vs++sW) Q E hr I.Qa (hb s us I.sV hl) r2 h) fun r s' hq=>?_);cases r with
 | error e=>exact hx pins σ H s e s' I hq
 | ok fl=>
  cases fl with
  | ret u=>exact I.after hq
  | next=>exact False.elim hq
  | brk=>exact False.elim hq
  | cont=>exact False.elim hq
def Qc (F:gQ X.prog X.w X.K X.mg X.base CX k f fd ps sp) (hr:dM k X.A) (hg:Gl X x) (hm:X.mg x=some (.ref f)) (hk:PySem.W.keepIn X.K (.ref f)=true) (hb:Binds X.K fd ps ds) (hd:Vals sW ds) (hx:Passes CX X E)
  (ha:PA X (e :: es) t) (hdb:BBT x:=by decide) (he:starEach (e :: es) X.env=(false,eval e X.env) :: starEach es X.env:=by rfl) (hpl:(backTo pos (starEach es X.env)).any (·.1)=false:=by rfl):
  PE X (.Call (.Name x p) (e :: es) [] pos) (Tp sp sW E t):=by
 intro pins s σ H Q I h;refine acf (pN I hg hm ?_ hdb);refine acA (h₀:=X.base) I.ok.mod.PY hk (dN (ha pos pins s σ H _ I h) fun us s1 ⟨vs,H1,I1,r,q⟩=>⟨I1.sV,?_⟩) he hpl;exact DI F hr hb hd hx I1 r q
def MD (F:gQ X.prog X.w X.K X.mg X.base CX k f fd ps sp) (hr:dM k X.A) (hg:Gl X x) (hm:X.mg x=some (.ref f)) (hk:PySem.W.keepIn X.K (.ref f)=true) (hb:Binds X.K fd ps ds) (hd:Vals sW ds) (hx:Passes CX X E)
  (hdb:BBT x:=by decide):PE X (.Call (.Name x p) [] [] pos) (Tp sp sW E MB):=by
 intro pins s σ H Q I h;refine acf (pN I hg hm ?_ hdb);exact afz I.sV hk (DI (us:=[]) F hr hb hd hx I .nil h)
def Qd (he:PE X o ta) (c:AF X.K C) (hm:Meth X.K C m f) (F:gQ X.prog X.w X.K X.mg X.base CX k f fd ps sp) (hr:dM k X.A) (hb:Binds X.K fd ps ds) (hd:Vals sW ds) (hx:Passes CX X E) (ha:PA X (e :: es) t)
  (hst:starEach (e :: es) X.env=(false,eval e X.env) :: starEach es X.env:=by rfl) (hpl:(backTo pos (starEach es X.env)).any (·.1)=false:=by rfl)
  (ht:eval (.Call (.Attribute o m apos) (e :: es) [] pos) X.env=(do
   let ov <-eval o X.env
   standAt apos.atName
   let(f,first) <-holding [ov] (getMethod ov m pl)
   callWith pos f first (backTo pos (starEach (e :: es) X.env)) (backToKw pos (keywordEach [] X.env))):=by rfl):
  PE X (.Call (.Attribute o m apos) (e :: es) [] pos) (Tq C m sp sW E ta t):=by
 intro pins s σ H Q I h;refine aet (pl:=pl) (dN (he pins s σ H _ I h) fun u s1 hh=>?_) ht;obtain⟨x,H1,I1,rx,a,dx,fs,ex,ea,l,q⟩:=hh;subst ex;obtain rfl:u=Value.ref a:=rx;refine qZ I1 ea c hm l ?_;refine acA (first:=[.ref a]) (h₀:=X.base) I.ok.mod.PY hm.kp (dN (ha pos pins s1 σ H1 _ I1 q) fun us s2 ⟨vs,H2,I2,r,q2⟩=>⟨I2.sV,?_⟩) hst hpl;exact DI (us:=.ref a :: us) (vs:=.ref a :: vs) F hr hb hd hx I2 (.cons rfl r) q2
def ME (he:PE X o ta) (c:AF X.K C) (hm:Meth X.K C m f) (F:gQ X.prog X.w X.K X.mg X.base CX k f fd ps sp) (hr:dM k X.A) (hb:Binds X.K fd ps ds) (hd:Vals sW ds) (hx:Passes CX X E)
  (ht:eval (.Call (.Attribute o m apos) [] [] pos) X.env=(do
   let ov <-eval o X.env
   standAt apos.atName
   let(f,first) <-holding [ov] (getMethod ov m pl)
   callWith pos f first (backTo pos (starEach [] X.env)) (backToKw pos (keywordEach [] X.env))):=by rfl):
  PE X (.Call (.Attribute o m apos) [] [] pos) (Tq C m sp sW E ta MB):=by
 intro pins s σ H Q I h;refine aet (pl:=pl) (dN (he pins s σ H _ I h) fun u s1 hh=>?_) ht;obtain⟨x,H1,I1,rx,a,dx,fs,ex,ea,l,q⟩:=hh;subst ex;obtain rfl:u=Value.ref a:=rx;refine qZ I1 ea c hm l ?_;exact afz (first:=[.ref a]) I1.sV hm.kp (DI (us:=[.ref a]) (vs:=[.ref a]) F hr hb hd hx I1 (.cons rfl .nil) q)
structure Mk (K:AAD) (C f:Addr):Prop where
 makes:PySem.W.makesIn K C=true
 init:PySem.W.findIn K (.ref C) "__init__" =some (some (.ref f))
 fn:PySem.W.isFn K (.ref f)=true
 kp:PySem.W.keepIn K (.ref C)=true
def MF {s:Shared}{Q:VK}(M:Mk X.K C f) (F:gQ X.prog X.w X.K X.mg X.base CX k f fd ps sp) (hr:dM (k+1) X.A) (hb:Binds X.K fd ps ds) (hd:Vals sW ds)
  (hx:Passes CX X E) (I:Inv X pins σ H s) (r:Vals vs us)
  (h:∀x dx,H x=none->H dx=none->dx≠x->sp (.ref x :: (vs++sW)) (upd (upd H dx (.own x)) x (.ins C dx [])) (fun v H2=>v= .cM/\Q (.ref x) H2) E):
  wpAny (model X.prog X.w) X.A (call (.ref C) us) (EP X pins σ Q) X.xe s:=by
 have hq:=h (s.heap.objs.size+1) s.heap.objs.size (I.hok.fresh (afZ _)) (I.hok.fresh (aap _)) (abr (afO _));have I2:=Inv.made (C:=C) I;have r2:Vals (V.ref (s.heap.objs.size+1) :: (vs++sW)) (Value.ref (s.heap.objs.size+1) :: (us++ds)):=.cons rfl (r.append hd);have hl:(Value.ref (s.heap.objs.size+1) :: us++ds).length=ps.length:=by
  have e:=r2.length;rw[F.len _ _ _ _ hq] at e;exact e.symm
 refine aeD (MA (f:=f) I.sV M.makes M.init (afn.mp M.fn) (aeH (F.run _ X.stack _ _ ⟨Value.ref (s.heap.objs.size+1) :: us,[]⟩ (Value.ref (s.heap.objs.size+1) :: (us++ds)) _ _ E (hr.make C us [])
  (I2.Qa.make C us []) (hb _ (Value.ref (s.heap.objs.size+1) :: us) I2.sV hl) r2 hq) fun r s' hq'=>?_))
 cases r with
 | error e=>exact hx pins σ _ _ e s' I2 hq'
 | ok fl=>
  cases fl with
  | ret u=>
   obtain⟨v,H',I3,rv,ev,q3⟩:=I2.after hq';subst ev;exact⟨rv,⟨V.ref (s.heap.objs.size+1),H',I3,rfl,q3⟩⟩
  | next=>exact False.elim hq'
  | brk=>exact False.elim hq'
  | cont=>exact False.elim hq'
def Qe (M:Mk X.K C f) (F:gQ X.prog X.w X.K X.mg X.base CX k f fd ps sp) (hr:dM (k+1) X.A) (hg:Gl X x) (hm:X.mg x=some (.ref C)) (hb:Binds X.K fd ps ds) (hd:Vals sW ds) (hx:Passes CX X E)
  (ha:PA X (e :: es) t) (hdb:BBT x:=by decide) (he:starEach (e :: es) X.env=(false,eval e X.env) :: starEach es X.env:=by rfl) (hpl:(backTo pos (starEach es X.env)).any (·.1)=false:=by rfl):
  PE X (.Call (.Name x p) (e :: es) [] pos) (Yl C sp sW E t):=by
 intro pins s σ H Q I h;refine acf (pN I hg hm ?_ hdb);refine acA (h₀:=X.base) I.ok.mod.PY M.kp (dN (ha pos pins s σ H _ I h) fun us s1 ⟨vs,H1,I1,r,q⟩=>⟨I1.sV,?_⟩) he hpl;exact MF M F hr hb hd hx I1 r q
end
structure bD (N P:BBB) (sc:Scope):Prop where
 kind:sc.kind= .function
 co:sc.isCoroutine=false
 gen:sc.isGenerator=false
 nd:N.Nodup
 pre:N.take P.length=P
 par:∀x∈P,sc.names.lookup x=some .local\/sc.names.lookup x=some .cell
 UX:∀y∈sc.names,y.2≠.free
theorem CJ {kindOf:Str->Option NameKind}{x:Str}:∀{binds:List (Str×Value)}{m:AAF},(∀v,(x,v)∉binds)->bindL kindOf binds m x=m x
 | [],_,_=>rfl
 | (n,v) :: r,m,h=>by
  unfold bindL;rw[CJ fun w hw=>h w (aaz _ hw)];split
  ·have:x≠n:=by rintro rfl;exact h v abf
   simp[this]
  ·rfl
theorem CK {kindOf:Str->Option NameKind}{x:Str}:∀{binds:List (Str×Value)}{m:AAF},(∀v,(x,v)∉binds)->bindC kindOf binds m x=m x
 | [],_,_=>rfl
 | (n,v) :: r,m,h=>by
  unfold bindC;rw[CK fun w hw=>h w (aaz _ hw)];split
  ·rfl
  ·have:x≠n:=by rintro rfl;exact h v abf
   simp[this]
theorem CL {kindOf:Str->Option NameKind}{x:Str}{v:Value}:∀{P:BBB}{vs:AAL}{i:Nat}{m:AAF},P.Nodup->P[i]? =some x->vs[i]? =some v->kindOf x=some .local->
  bindL kindOf (P.zip vs) m x=some v
 | [],_,_,_,_,h,_,_=>by simp at h
 | _ :: _,[],_,_,_,_,h,_=>by simp at h
 | p :: P,w :: vs,0,m,nd,h1,h2,hk=>by
  simp at h1 h2;subst h1;subst h2;show bindL kindOf ((p,w) :: P.zip vs) m p=_;unfold bindL;rw[CJ fun v hv=>(aci.mp nd).1 (afY hv).1,if_pos hk];simp
 | p :: P,w :: vs,i+1,m,nd,h1,h2,hk=>by
  show bindL kindOf ((p,w) :: P.zip vs) m x=_;unfold bindL;exact CL (i:=i) (aci.mp nd).2 (by simpa using h1) (by simpa using h2) hk
theorem CM {kindOf:Str->Option NameKind}{x:Str}{v:Value}:∀{P:BBB}{vs:AAL}{i:Nat}{m:AAF},P.Nodup->P[i]? =some x->vs[i]? =some v->kindOf x≠some .local->
  bindC kindOf (P.zip vs) m x=some v
 | [],_,_,_,_,h,_,_=>by simp at h
 | _ :: _,[],_,_,_,_,h,_=>by simp at h
 | p :: P,w :: vs,0,m,nd,h1,h2,hk=>by
  simp at h1 h2;subst h1;subst h2;show bindC kindOf ((p,w) :: P.zip vs) m p=_;unfold bindC;rw[CK fun v hv=>(aci.mp nd).1 (afY hv).1,if_neg hk];simp
 | p :: P,w :: vs,i+1,m,nd,h1,h2,hk=>by
  show bindC kindOf ((p,w) :: P.zip vs) m x=_;unfold bindC;exact CM (i:=i) (aci.mp nd).2 (by simpa using h1) (by simpa using h2) hk
noncomputable def start (N:BBB) (vs:List V):St:=vs.map some++List.replicate (N.length - vs.length) none
noncomputable def wu (CX:KJ) (P:Program) (w:World) (K:AAD) (mg:AAF) (base:Heap) (N:BBB) (qual:Str) (scope:Scope) (f:Addr) (cd:Value) (A:Around) (outer:BBF) (s:Shared) (H:Hp) (E:XK):Cx where
 prog:=P
 w:=w
 K:=K
 mg:=mg
 base:=base
 A:=A.deeper (envOfC qual scope s.heap.objs.size f cd)
 N:=N
 s₀:=s
 H₀:=H
 env:=envOfC qual scope s.heap.objs.size f cd
 outer:=outer
 stack:=envOfC qual scope s.heap.objs.size f cd :: outer
 ex:=[]
 calm:=true
 fn:=fun _=>true
 pn:=[]
 xe:=fun e s'=>wpAny (model P w) (A.deeper (envOfC qual scope s.heap.objs.size f cd)) (leaving (envOfC qual scope s.heap.objs.size f cd) e) (fun _ s''=>CX outer H s E e s'') (fun e' s''=>CX outer H s E e' s'') s'
def E2 {sc:Scope}{n:Nat}(h:sc.names.lookup x=some .cell):∃c,(cellsFrom n sc.names []).lookup x=some c:=by
 have q:=PySem.W.cellsFrom_some sc.names n [] (.inl h);exact Option.isSome_iff_exists.mp q
def KL {CX:KJ}{f:Addr}{cd:Value}{s s1:Shared}{E:XK}
  (S:bD N ps scope) (hd:A.handled=none) (e0:G2 P w K mg base A outer s H) (hl:vs.length=ps.length) (r:Vals vs us)
  (x:InCallC s s.heap.objs.size (bindL (envOfC qual scope s.heap.objs.size f cd).kindOf (ps.zip us) fun _=>none) (cellsFrom (s.heap.objs.size+1) scope.names []) (bindC (envOfC qual scope s.heap.objs.size f cd).kindOf (ps.zip us) fun _=>none) s1):
  Inv (wu CX P w K mg base N qual scope f cd A outer s H E) [] (start N vs) H s1:=by
 have hpl:ps.length<=N.length:=by have:=congrArg List.length S.pre;rw[afd] at this;lia
 obtain⟨h1,tk,rfl,hk⟩:=x.done;have Ym:∀b:Addr,b∉(wu CX P w K mg base N qual scope f cd A outer s H E).ex:=fun b z=>absurd (show b∈([]:BBE) from z) (by simp);refine⟨⟨e0.mod,S.kind,rfl,rfl,aap _,fun y z c h1 h2=>?_,fun y hy=>?_,fun y c _ h=>?_,fun _=>hd,Around.frames_deeper e0.frames,.inr ⟨rfl,rfl⟩,fun b z=>absurd z (Ym b),e0.bs,e0.L6,fun b _ _=>Ym b,fun b z=>absurd z (Ym b),e0.wm,e0.Pu⟩,
  rfl,e0.bare,Un.kept hk,⟨_,x.toInCall.ns,fun i y v h1 h2 h3=>?_⟩,fun y c h=>⟨_,x.cell y c h⟩,e0.hok.fresh (aap _),fun y c h=>?_,fun p hp=>absurd (show p∈([]:AAG) from hp) (by simp),e0.hok.kept hk,?_⟩
 ·exact name_of_addr x.apart (acq h1) (acq h2)
 ·have hy:scope.names.lookup y=some .cell\/scope.names.lookup y=some .free:=hy;rcases hy with hy | hy
  ·exact E2 hy
  ·exact absurd rfl (S.UX _ (acq hy))
 ·exact afj (x.above y c (acq h))
 ·have hi:i < vs.length:=by
   unfold start at h2;by_cases hi:i < vs.length
   ·exact hi
   ·rw[List.getElem?_append_right (by simpa using hi)] at h2;rw[afV] at h2;split at h2 <;> cases h2
  have ha:vs[i]? =some v:=by
   unfold start at h2;rw[aeF (by simpa using hi),abi] at h2;cases e:vs[i]? with
   | none=>rw[e] at h2;cases h2
   | some a=>rw[e] at h2;cases h2;rfl
  obtain⟨u,hu,rv⟩:=r.get ha;have hp:ps[i]? =some y:=by
   rw[<-S.pre,List.getElem?_take_of_lt (by lia)];exact h1
  have ndP:ps.Nodup:=by rw[<-S.pre];exact S.nd.sublist (List.take_sublist _ _)
  refine⟨u,rv,?_⟩;rcases S.par y (ach hp) with k | k
  ·exact .inl ⟨k,CL ndP hp hu k⟩
  ·obtain⟨c,e⟩:=E2 (n:=s.heap.objs.size+1) k;refine .inr ⟨.inl k,c,e,?_⟩;have q:=x.cell y c e;rw[CM ndP hp hu (by show scope.names.lookup y≠_;rw[k];decide)] at q;exact q
 ·exact e0.hok.fresh (afj (x.above y c (acq h)))
 ·unfold start;show _=N.length;rw[aaB,aas,List.length_replicate];lia
def Tr {CX:KJ}{f:Addr}{name:Str}{params:Arguments}{dV kV doc pm cdv ct oc:Value}{an od:BBN}
  {osl:Array (BBP)}{sp:Sp}(lk:K.lookup f=some ⟨oc,od,.func (PySem.W.fnOf name qual params body scope dV kV doc pm an cdv ct),osl⟩) (hcd:PySem.W.codeIn K cdv qual=true) (S:bD N ps scope)
  (len:∀vs H Q E,sp vs H Q E->vs.length=ps.length)
  (hbody:∀(A:Around) (outer:BBF) (s:Shared) (H:Hp) (vs:List V) (Q:VK) (E:XK),dM k (A.deeper (envOfC qual scope s.heap.objs.size f cdv))->sp vs H Q E->
   ∃t,DB (wu CX P w K mg base N qual scope f cdv A outer s H E) body t/\t {nx:=fun _ H'=>Q .cM H',rt:=Q} (start N vs) H):
  gQ P w K mg base CX (k+1) f (PySem.W.fnOf name qual params body scope dV kV doc pm an cdv ct) ps sp:=by
 refine⟨len,fun A outer s H args us vs Q E hr e0 hb r Pw=>?_⟩;have hl:=len _ _ _ _ Pw;have KX:K.In s.heap:=e0.mod.PY.keeps fun b o e=>(e0.bs b o e).1;have lim:s.heap.NoLimit:=e0.mod.nolimit.keeps fun b o e=>(e0.bs b o e).1;have hkind:∀y∈ps.zip us,scope.names.lookup y.1=some .local\/(scope.names.lookup y.1=some .cell/\((cellsFrom (s.heap.objs.size+1) scope.names []).lookup y.1).isSome=true):=fun⟨n,v⟩ hy=>by
  rcases S.par n (afY hy).1 with q | q
  ·exact .inl q
  ·exact .inr ⟨q,PySem.W.cellsFrom_some _ _ _ (.inl q)⟩
 refine codeAny_call_function hr.depth (KX _ _ lk) rfl S.co S.gen rfl (PySem.W.codeRec_of KX hcd) (hb _ _ _ _ ?_);refine wpAny_newFunctionEnv_cells S.kind hkind fun env he s1 x=>?_;subst he;refine⟨lim.keeps x.toInCall.keep,codeAny_func ?_⟩;obtain⟨t,ht,hq⟩:=hbody A outer s H vs Q E (hr.deeper _) Pw;have I:Inv (wu CX P w K mg base N qual scope f cdv A outer s H E) [] (start N vs) H s1:=KL S hr.hd e0 hl r x;refine aat (ht [] s1 (start N vs) H _ I hq) (fun fl s' hs=>?_) fun e s' hs=>hs;have fin:∀{σ':St}{H':Hp}{v:V}{u:Value},Inv (wu CX P w K mg base N qual scope f cdv A outer s H E) [] σ' H' s'->RelV v u->Q v H'->CE outer P w H s Q u s':=
  fun {σ' H' v u} J rv q=>⟨v,H',J.os,J.bare,J.base,J.hok,rv,q⟩
 cases fl with
 | ret u=>
  obtain⟨v,σ',H',J,rv,q⟩:=hs;exact fin J rv q
 | next=>
  obtain⟨σ',H',J,q⟩:=hs;exact fin (v:=V.cM) (u:=Value.none) J rfl q
 | brk=>
  obtain⟨_,_,_,q⟩:=hs;exact False.elim q
 | cont=>
  obtain⟨_,_,_,q⟩:=hs;exact False.elim q
section
variable {X:Cx}{x:Str}{p pos:Pos}{e:Expr}{es:BBC}{t:TA}{id T:String}{r:List V->Hp->VK->Prop}
def tCB (r:List V->Hp->VK->Prop) (t:TA):TE:=fun σ H Q=>t σ H fun vs H1=>r vs H1 Q
def kO (hc:jK X (.builtin id) r) (hg:Gl X x) (hm:X.mg x=none) (hv:bootBuiltins x=some (.builtin id)) (ha:PA X (e :: es) t) (hn:x≠"__name__":=by decide) (hdb:BBT x:=by decide)
  (he:starEach (e :: es) X.env=(false,eval e X.env) :: starEach es X.env:=by rfl) (hpl:(backTo pos (starEach es X.env)).any (·.1)=false:=by rfl):PE X (.Call (.Name x p) (e :: es) [] pos) (tCB r t):=by
 intro pins s σ H Q I h;refine acf (DC I hg hm hv ?_ hn hdb);exact PyProof.Rows.callWith_builtin1 (dN (ha pos pins s σ H _ I h) fun us s1 ⟨vs,H1,I1,r1,q1⟩=>hc pins s1 σ H1 vs us Q I1 r1 q1) he hpl
def KN (hc:jK X (.type T) r) (hg:Gl X x) (hm:X.mg x=none) (hv:bootBuiltins x=some (.type T)) (ha:PA X (e :: es) t) (hn:x≠"__name__":=by decide) (hdb:BBT x:=by decide)
  (he:starEach (e :: es) X.env=(false,eval e X.env) :: starEach es X.env:=by rfl) (hpl:(backTo pos (starEach es X.env)).any (·.1)=false:=by rfl):PE X (.Call (.Name x p) (e :: es) [] pos) (tCB r t):=by
 intro pins s σ H Q I h;refine acf (DC I hg hm hv ?_ hn hdb);exact afF (dN (ha pos pins s σ H _ I h) fun us s1 ⟨vs,H1,I1,r1,q1⟩=>hc pins s1 σ H1 vs us Q I1 r1 q1) he hpl
end
section
variable {κ:Type} [DecidableEq κ]
noncomputable def yY (kvs:List (κ×V)) (k:κ):Option V:=(kvs.find? fun kv=>decide (kv.1=k)).map (·.2)
noncomputable def putK (kvs:List (κ×V)) (k:κ) (v:V):List (κ×V):=
 if(kvs.any fun kv=>decide (kv.1=k))=true then kvs.map (fun kv=>if kv.1=k then(kv.1,v) else kv) else kvs++[(k,v)]
def E3 {p:κ×V}{r:List (κ×V)}{k:κ}(e:p.1=k):yY (p :: r) k=some p.2:=by simp[yY,ack,e]
def A7 {p:κ×V}{r:List (κ×V)}{k:κ}(e:¬p.1=k):yY (p :: r) k=yY r k:=by simp[yY,ack,e]
def zT (kvs:List (κ×V)) (k:κ) (v:V):(putK kvs k v).length<=kvs.length+1:=by
 unfold putK;split
 ·rw[aas];lia
 ·rw[aaB,aar,acm];lia
def tN.getD {o:Option V}{u:BBP}{d:V}{d':Value}(r:tN o u) (rd:RelV d d'):RelV (o.getD d) (u.getD d'):=by
 cases o with
 | none=>cases u with
  | none=>exact rd
  | some _=>exact(show False from r).elim
 | some _=>cases u with
  | none=>exact(show False from r).elim
  | some _=>exact r
def KV.val {kvs:List (κ×V)}{vs:List (κ×Value)}(r:KV kvs vs) (k:κ):tN (yY kvs k) (valueAt vs k):=by
 unfold KV at r
 induction r with
 | nil=>exact True.intro
 | @cons p q ps qs h t ih=>
  obtain⟨h1,h2⟩:=h;by_cases e:p.1=k
  ·have e':q.1=k:=h1.symm.trans e;have b:valueAt (q :: qs) k=some q.2:=by simp[valueAt,ack,e']
   rw[E3 e,b];exact h2
  ·have e':¬q.1=k:=fun z=>e (h1.trans z);have b:valueAt (q :: qs) k=valueAt qs k:=by simp[valueAt,ack,e']
   rw[A7 e,b];exact ih
def KV.any {kvs:List (κ×V)}{vs:List (κ×Value)}(r:KV kvs vs) (k:κ):(kvs.any fun kv=>decide (kv.1=k))=vs.any fun kv=>decide (kv.1=k):=by
 unfold KV at r
 induction r with
 | nil=>rfl
 | cons h t ih=>rw[ae0,ae0,ih,h.1]
def KV.repl {kvs:List (κ×V)}{vs:List (κ×Value)}(r:KV kvs vs) (k:κ)(ry:RelV y u):
  KV (kvs.map fun kv=>if kv.1=k then(kv.1,y) else kv) (vs.map fun kv=>if kv.1=k then(kv.1,u) else kv):=by
 unfold KV at r ⊢
 induction r with
 | nil=>exact .nil
 | @cons p q ps qs h t ih=>
  rw[aax,aax];refine .cons ?_ ih;obtain⟨h1,h2⟩:=h;by_cases e:p.1=k
  ·rw[if_pos e,if_pos (h1.symm.trans e)];exact⟨h1,ry⟩
  ·rw[if_neg e,if_neg (fun z=>e (h1.trans z))];exact⟨h1,h2⟩
def KV.put {kvs:List (κ×V)}{vs:List (κ×Value)}(r:KV kvs vs) (k:κ)(ry:RelV y u):KV (putK kvs k y) (stored vs k u):=by
 unfold putK stored;rw[r.any k];by_cases e:(vs.any fun kv=>decide (kv.1=k))=true
 ·rw[if_pos e,if_pos e];exact r.repl k ry
 ·rw[if_neg e,if_neg e];exact Paired.snoc r ⟨rfl,ry⟩
def KV.length {kvs:List (κ×V)}{vs:List (κ×Value)}(r:KV kvs vs):kvs.length=vs.length:=Paired.length r
end
def E4 {k:Key}(r:RelV (kV k) u):(dZ P w).is k u=true:=by
 cases k with
 | inl i=>obtain⟨t,e⟩:=(show ∃t,u=Value.int i t from r);subst e;exact EX P w i t
 | inr x=>obtain⟨t,e⟩:=(show ∃t,u=Value.str x t from r);subst e;exact tM P w x t
section
variable {P:Program}{w:World}{H:Hp}{h:Heap}{a:Addr}
def Tt {u:HO}(ok:sO P w H h) (e:Rd H a u):g7 P w H h a u:=e.ok ok
def CN {kvs:List (Key×V)}(ok:sO P w H h) (e:Rd H a (.dK kvs)):kvs.length<=sizeLine/\(a == sysModules)=false/\∃vs,KV kvs vs/\h.DictOf (dZ P w) a vs:=
 show g7 P w H h a (.dK kvs) from Tt ok e
def IS {kvs:List (Key×V)}(ok:sO P w H h) (e:H a=some (.dK kvs)):kvs.length<=sizeLine/\(a == sysModules)=false/\∃vs,KV kvs vs/\h.DictOf (dZ P w) a vs:=CN ok (.inl e)
def E5 (ok:sO P w H h) (e:Rd H a (.dT kvs)):False:=Tt ok e
def Tu (ok:sO P w H h) (e:H a=some (.dT kvs)):False:=E5 ok (.inl e)
end
def UY (y:V) (k:Key):Prop:=y=kV k\/∃b,y= .bl b/\k= .inl (bI b)
def UY.is {P:Program}{w:World}{y:V}{k:Key}{u:Value}(e:UY y k) (r:RelV y u):(dZ P w).is k u=true:=by
 rcases e with rfl | ⟨b,rfl,rfl⟩
 ·exact E4 r
 ·cases r;exact acB rfl
def vL (H:Hp) (a:Addr) (y:V) (r:Option V):Prop:=
 (∃kvs k,Rd H a (.dK kvs)/\UY y k/\r=yY kvs k)\/∃kvs k b,Rd H a (.dT kvs)/\y= .ref b/\Kd H b k/\r=yY kvs k
def E6 (H:Hp) (a:Addr) (y v:V) (H':Hp):Prop:=
 (∃kvs k,H a=some (.dK kvs)/\UY y k/\kvs.length < sizeLine/\H'=upd H a (.dK (putK kvs k v)))\/
 ∃kvs k b,H a=some (.dT kvs)/\y= .ref b/\Kd H b k/\kvs.length < sizeLine/\H'=upd H a (.dT (putK kvs k v))
def vL.t {b:Addr}{k:D}(e:H a=some (.dT kvs)) (eb:Kd H b k):vL H a (.ref b) (yY kvs k):=.inr ⟨kvs,k,b,.inl e,rfl,eb,rfl⟩
def E6.t {b:Addr}{k:D}{v:V}(e:H a=some (.dT kvs)) (eb:Kd H b k) (hl:kvs.length < sizeLine):
  E6 H a (.ref b) v (upd H a (.dT (putK kvs k v))):=.inr ⟨kvs,k,b,e,rfl,eb,hl,rfl⟩
section
variable {X:Cx}{pins:AAG}{σ:St}{H:Hp}{s:Shared}{a:Addr}{y v:V}{u r:Value}{o:Option V}{A:Around}{E:AAE}
def Inv.big (I:Inv X pins σ H s):sysModules < s.heap.objs.size:=by
 have h:mainGlobals < s.heap.objs.size:=(I.mod.glob.keeps I.bk).lt;exact Nat.lt_trans (by decide) h
def KO (hu:A.units+20 < cLine) (I:Inv X pins σ H s) (g:vL H a y (some v)) (ry:RelV y u) (h:∀w' s',Inv X pins σ H s'->RelV v w'->Q w' s'):
  wpAny (model X.prog X.w) A (getItem (.ref a) u) Q E s:=by
 rcases g with⟨kvs,k,e,ey,l⟩ | ⟨kvs,k,b,e,ey,eb,l⟩
 ·obtain⟨z,hd,vs,rel,dd⟩:=CN I.hok e;obtain⟨w',hw,rw'⟩:=tN.some_of (v:=v) (o:=valueAt vs k) (by rw[l];exact rel.val k);exact wpAny_getItem_of (ey.is ry) dd.mapOf hw (h w' _ (I.tok _) rw')
 ·subst ey;cases(show u=Value.ref b from ry);exact(E5 I.hok e).elim
def DJ {h':Heap}{ob:HO}(I:Inv X pins σ H s) (mu:XO (H a)) (hs:Heap.SameBut a s.heap h') (he:∃q,h'.get? a=some q) (new:g7 X.prog X.w (upd H a ob) h' a ob):
  Inv X pins σ (upd H a ob) {s with heap:=h',toks:=t'}:=
 I.write (x:=a) (e:=a) mu (.inl rfl) (fun b q hb z=>(hs.2 b hb).trans z) he new
def G3 {h':Heap}{kvs:List (Key×V)}{vs:List (Key×Value)}(z:kvs.length<=sizeLine) (hd:(a == sysModules)=false) (rel:KV kvs vs) (dd:h'.DictOf (dZ P w) a vs):
  g7 P w H' h' a (.dK kvs):=⟨z,hd,vs,rel,dd⟩
def KP {Q:Unit->Shared->Prop}(hu:A.units+20 < cLine) (I:Inv X pins σ H s) (g:E6 H a y v H') (ry:RelV y u) (rv:RelV v r) (h:∀s',Inv X pins σ H' s'->Q () s'):
  wpAny (model X.prog X.w) A (setItem (.ref a) u r) Q E s:=by
 rcases g with⟨kvs,k,e,ey,l,eH⟩ | ⟨kvs,k,b,e,ey,eb,l,eH⟩
 ·subst eH;obtain⟨z,hd,vs,rel,dd⟩:=IS I.hok e;have hz:vs.length<=sizeLine:=by rw[<-rel.length];exact z
  have hl:(putK kvs k v).length<=sizeLine:=by have:=zT kvs k v;lia
  refine wpAny_setItem_pairs (hsz:=hz) (ey.is ry) dd fun h' Qg hs=>h _ ?_;have he:∃q,h'.get? a=some q:=let⟨q,_,_,hq,_⟩:=Qg;⟨q,hq⟩
  exact DJ I (by rw[e];exact True.intro) hs he (G3 hl hd (rel.put k rv) Qg)
 ·subst ey eH;cases(show u=Value.ref b from ry);exact(Tu I.hok e).elim
end
section
variable {X:Cx}{pins:AAG}{σ:St}{H:Hp}{s:Shared}{a:Addr}{kvs:List (Key×V)}{A:Around}{E:AAE}
def Yn (I:Inv X pins σ H s) (e:Rd H a (.dK kvs)) (h:∀t s',Inv X pins σ H s'->Q (.int kvs.length t) s'):wpAny (model X.prog X.w) A (call (.builtin "len") [.ref a]) Q E s:=by
 obtain⟨z,hd,vs,rel,dd⟩:=CN I.hok e;refine call_len_dict hd dd (by rw[<-rel.length];rw[aeW] at z;lia) ?_;rw[<-rel.length];exact h _ _ (I.tok _)
end
def Qh (i:Expr):Prop:=∀ov iv,subscripted i false ov iv=operate [ov,iv] (getItem ov iv)
def IT {s:Shared}{env:Env}{value slice:Expr}{T id:String}
  (hl:typeLookup (.type T) "__getitem__" =pure (some (.builtin id))) (hs:Qh slice)
  (h:wpAny (model prog w) A (eval value env) (fun o s₁=>wpAny (model prog w) A (eval slice env) (fun i s₂=>s₂.TypeIs o T/\wpAny (model prog w) A (getItem o i) Q E s₂) E s₁) E s):
  wpAny (model prog w) A (eval (.Subscript value slice pos) env) Q E s:=by
 refine Subscript_ (aat h (fun o s₁ h₁=>aat h₁ (fun i s₂ h₂=>?_) fun _ _ x=>x) fun _ _ x=>x);obtain⟨hT,h₂⟩:=h₂;unfold subscriptTail;refine aae ?_;rw[getitemInPython_of_ne hT.not_modules];refine aae (wpAny_specialOf hT hl ?_);have fin:wpAny (model prog w) A (subscripted slice false o i) (fun r s₃=>wpAny (model prog w) A (letTemporaryGo value o r >>= fun _=>pure r) Q E s₃) E s₂:=by
  rw[hs o i];exact wpAny_operating (aat h₂ (fun r s₃ h₃=>aae (wpAny_letTemporaryGo (aah h₃))) fun _ _ x=>x)
 first
  | exact aah (aae fin)
  | exact aae (aah (aae fin))
  | exact aae fin
def E7 {s:Shared}{o:Option V}(I:Inv X pins σ H s) (g:vL H a y o):s.TypeIs (.ref a) "dict":=by
 rcases g with⟨kvs,k,e,_,_⟩ | ⟨kvs,k,b,e,_,_,_⟩
 ·obtain⟨_,_,vs,_,dd⟩:=CN I.hok e;exact dd.typeIs
 ·exact(E5 I.hok e).elim
def Yo (td ty:TE):TE:=fun σ H Q=>td σ H fun x H1=>ty σ H1 fun y H2=>∃a v,x= .ref a/\vL H2 a y (some v)/\Q v H2
def Yp (td ty tv:TE):TS:=fun D σ H=>tv σ H fun v H1=>td σ H1 fun x H2=>ty σ H2 fun y H3=>∃a H4,x= .ref a/\E6 H3 a y v H4/\D.nx σ H4
section
variable {X:Cx}{o i value:Expr}{pos pos':Pos}{td ty tv:TE}
def IU (hu:X.A.units+20 < cLine) (ho:PE X o td) (hi:PE X i ty) (hs:Qh i):PE X (.Subscript o i pos) (Yo td ty):=by
 intro pins s σ H Q I h;refine IT afM.lookup hs (dN (ho pins s σ H _ I h) fun u s1 ⟨x,H1,I1,rx,q1⟩=>dN (hi pins s1 σ H1 _ I1 q1) fun iv s2 hh=>?_);obtain⟨y,H2,I2,ry,a,v,ex,g,q2⟩:=hh;subst ex;obtain rfl:u=Value.ref a:=rx;exact⟨E7 I2 g,KO hu I2 g ry fun w' s3 I3 rw'=>⟨v,H2,I3,rw',q2⟩⟩
def IV (hu:X.A.units+20 < cLine) (ho:PE X o td) (hi:PE X i ty) (hv:PE X value tv) (hs:swapsWith value (some (.Subscript o i pos')) pos.line X.env=pure false):
  PS X (.Assign [.Subscript o i pos'] value pos) (Yp td ty tv):=by
 intro pins s σ H D I h;refine wpAny_Assign_Subscript (dN (hv pins s σ H _ I h) fun r s1 ⟨v,H1,I1,rv,q1⟩=>dN (ho pins s1 σ H1 _ I1 q1) fun u s2 ⟨x,H2,I2,rx,q2⟩=>dN (hi pins s2 σ H2 _ I2 q2) fun iv s3 hh=>?_) hs;obtain⟨y,H3,I3,ry,a,H4,ex,g,q3⟩:=hh;subst ex;obtain rfl:u=Value.ref a:=rx;exact KP hu I3 g ry rv fun s4 I4=>⟨σ,H4,I4,q3⟩
end
def MG (h:Heap) (hb:sysModules < h.objs.size):g7 P w H (h.push {cls:=.type "dict",data:=.dict #[]}) h.objs.size (.dK []):=
 ⟨acI _,ad5.mpr (acz (abr hb)),[],.nil,Heap.DictOf.new h⟩
def A8:List (TE×TE)->St->Hp->(List (V×V)->Hp->Prop)->Prop
 | [],_,H,Q=>Q [] H
 | (tk,tv) :: r,σ,H,Q=>tk σ H fun x H1=>tv σ H1 fun y H2=>A8 r σ H2 fun ps H3=>Q ((x,y) :: ps) H3
abbrev VV:List (V×V)->List (Value×Value)->Prop:=Paired fun p q=>RelV p.1 q.1/\RelV p.2 q.2
def Yq (X:Cx) (pos:Pos) (keys:List (BBL)) (values:BBC) (Qi:List (TE×TE)):Prop:=
 ∀(pins:AAG) (s:Shared) (σ:St) (H:Hp) (Q:List (V×V)->Hp->Prop),Inv X pins σ H s->A8 Qi σ H Q->
  wpAny (model X.prog X.w) X.A (evalPairs (pairTrees keys values X.env pos)) (fun vs s'=>∃ps H',Inv X pins σ H' s'/\VV ps vs/\Q ps H') X.xe s
def Qj :Yq X pos [] [] []:=fun pins s σ H Q I h=>pairTrees_nil_walk ⟨[],H,I,.nil,h⟩
def MH {k v:Expr}{ks:List (BBL)}{vs:BBC}{tk tv:TE}(hk:PE X k tk) (hv:PE X v tv) (hr:Yq X pos ks vs Qi):
  Yq X pos (some k :: ks) (v :: vs) ((tk,tv) :: Qi):=fun pins s σ H Q I h=>
 pairTrees_cons_walk (dN (hk pins s σ H _ I h) fun u s1 ⟨x,H1,I1,rx,q1⟩=>dN (hv pins s1 σ H1 _ I1 q1) fun w2 s2 ⟨y,H2,I2,ry,q2⟩=>
  dN (hr pins s2 σ H2 _ I2 q2) fun ws s3 ⟨ps,H3,I3,rel,q3⟩=>⟨(x,y) :: ps,H3,I3,.cons ⟨rx,ry⟩ rel,q3⟩)
def oh (kvs more:List (Key×V)):List (Key×V):=more.foldl (fun acc kv=>putK acc kv.1 kv.2) kvs
def KV.merge:∀{more:List (Key×V)}{rs:List (Key×Value)}{kvs:List (Key×V)}{vs:List (Key×Value)},KV more rs->KV kvs vs->KV (oh kvs more) (merged vs rs):=by
 intro more rs kvs vs r;unfold KV at r
 induction r generalizing kvs vs with
 | nil=>intro q;exact q
 | @cons p q ps qs h t ih=>
  intro r0;have e:KV (putK kvs p.1 p.2) (stored vs q.1 q.2):=by
   have:=r0.put p.1 h.2;rw[<-h.1];exact this
  exact ih e
theorem p7:∀(more kvs:List (Key×V)),(oh kvs more).length<=kvs.length+more.length
 | [],kvs=>by show kvs.length<=kvs.length+0;lia
 | p :: r,kvs=>by
  have h1:=p7 r (putK kvs p.1 p.2);have h2:=zT kvs p.1 p.2;show(oh (putK kvs p.1 p.2) r).length<=_;rw[aar];lia
theorem A9 {P:Program}{w:World}:∀{kvs:List (Key×V)}{ws:List (Value×Value)},VV (kvs.map fun kv=>(kV kv.1,kv.2)) ws->∃rs,Carries (dZ P w) ws rs/\KV kvs rs
 | [],_,r=>by rw[abe] at r;cases r;exact⟨[],True.intro,.nil⟩
 | p :: kvs,_,r=>by
  rw[aax] at r;cases r with
  | @cons a b as bs h t=>
   obtain⟨rs,c,q⟩:=A9 (P:=P) (w:=w) t;obtain⟨b1,b2⟩:=b;exact⟨(p.1,b2) :: rs,⟨E4 h.1,rfl,c⟩,.cons ⟨rfl,h.2⟩ q⟩
def Yr (Qi:List (TE×TE)):TE:=fun σ H Q=>∀p,H p=none->A8 Qi σ (upd H p (.dK [])) fun ps H2=>H2 p=some (.dK [])/\∃kvs:List (Key×V),ps=kvs.map (fun kv=>(kV kv.1,kv.2))/\kvs.length<=15/\Q (.ref p) (upd H2 p (.dK (oh [] kvs)))
def Qk {keys:List (BBL)}{values:BBC}(h:Yq X pos keys values Qi) (hall:keys.all (·.isSome)=true) (hl:keys.length=values.length) (h0:keys≠[])
  (h15:keys.length<=15):PE X (.Dict keys values pos) (Yr Qi):=by
 intro pins s σ H Q I q;have hn:=I.hok.fresh (aap s.heap.objs.size);have I1:=I.laid (a:=s.heap.objs.size) (o:=.dK []) (h':=s.heap.push {cls:=.type "dict",data:=.dict #[]}) (t':=s.toks) (fun _ _ q=>aan _ q) (aap _) (MG s.heap I.big);refine wpAny_Dict_walk (knd:=dZ X.prog X.w) hall hl h0 h15 (dN (h pins _ σ _ _ I1 (q _ hn)) fun ws s2 hh=>?_);obtain⟨ps,H2,I2,rel,e,kvs,ep,lk,q2⟩:=hh;subst ep;obtain⟨rs,c,rk⟩:=A9 (P:=X.prog) (w:=X.w) rel;obtain⟨z,hd,vs0,r0,dd⟩:=IS I2.hok e;cases r0;refine⟨rs,c,dd,fun h' Qg hs=>⟨.ref s.heap.objs.size,_,?_,rfl,q2⟩⟩;have hz:(oh [] kvs).length<=sizeLine:=by
  have h1:=p7 kvs [];rw[acm] at h1;rw[aeW];lia
 have he:∃q,h'.get? s.heap.objs.size=some q:=let⟨q,_,_,hq,_⟩:=Qg;⟨q,hq⟩
 exact DJ I2 (by rw[e];exact True.intro) hs he (G3 hz hd (rk.merge .nil) Qg)
structure M1 (X:Cx) (o:Expr) (m:Str) (apos:Pos) (e:Expr) (cpos:Pos):Prop where
 base:attributeBase o m X.env (eval o X.env)=eval o X.env
 few:((backTo cpos (starEach [e] X.env)).all (fun x=>!x.1) && (backToKw cpos (keywordEach [] X.env)).all (fun x=>x.1.isSome)
  && decide (([e]:BBC).length+([]:BBI).length+(if([]:BBI).isEmpty then 0 else 1) < 30))=true
 line:(apos.endLine == cpos.line)=true
 trees:backTo cpos (starEach [e] X.env)=[(false,eval e X.env)]
structure M2 (X:Cx) (o:Expr) (m:Str) (apos:Pos) (e f:Expr) (cpos:Pos):Prop where
 base:attributeBase o m X.env (eval o X.env)=eval o X.env
 few:((backTo cpos (starEach [e,f] X.env)).all (fun x=>!x.1) && (backToKw cpos (keywordEach [] X.env)).all (fun x=>x.1.isSome)
  && decide (([e,f]:BBC).length+([]:BBI).length+(if([]:BBI).isEmpty then 0 else 1) < 30))=true
 line:(apos.endLine == cpos.line)=true
 trees:backTo cpos (starEach [e,f] X.env)=[(false,eval e X.env),(false,eval f X.env)]
def IsD (H:Hp) (a:Addr):Prop:=(∃kvs,Rd H a (.dK kvs))\/∃kvs,Rd H a (.dT kvs)
def MI {s:Shared}(I:Inv X pins σ H s) (d:IsD H a):
  s.TypeIs (.ref a) "dict"/\(∀b,Value.ref a= .ref b->∃ob,s.heap.get? b=some ob/\ob.dict=none)/\(a == sysModules)=false:=by
 rcases d with⟨kvs,e⟩ | ⟨kvs,e⟩
 ·obtain⟨_,hd,vs,_,dd⟩:=CN I.hok e;refine⟨dd.typeIs,fun b q=>?_,hd⟩;cases q;obtain⟨ob,_,_,h1,h2,_⟩:=dd;exact⟨ob,h1,h2.2.1⟩
 ·exact(E5 I.hok e).elim
section
variable {X:Cx}{pins:AAG}{σ:St}{H:Hp}{s:Shared}{a:Addr}{y d:V}{u r:Value}{o:Option V}{A:Around}{E:AAE}
def UZ (hu:A.units+20 < cLine) (I:Inv X pins σ H s) (g:vL H a y o) (ry:RelV y u) (rd:RelV d r) (h:∀w' s',Inv X pins σ H s'->RelV (o.getD d) w'->Q w' s'):
  wpAny (model X.prog X.w) A (call (.builtin "dict.get") [.ref a,u,r]) Q E s:=by
 rcases g with⟨kvs,k,e,ey,l⟩ | ⟨kvs,k,b,e,ey,eb,l⟩
 ·obtain⟨z,hd,vs,rel,dd⟩:=CN I.hok e;refine call_meetsIn aev dd.typeIs PySem.F.entry_dict_get (afW _ _ _) (meets_dict_get_default (dZ X.prog X.w) a (ey.is ry) hd r) ⟨_,dd.mapOf,h _ _ (I.tok _) ?_⟩;rw[l];exact(rel.val k).getD rd
 ·subst ey;cases(show u=Value.ref b from ry);exact(E5 I.hok e).elim
end
def U0 (td ty tx:TE):TE:=fun σ H Q=>td σ H fun x H1=>∃a,x= .ref a/\IsD H1 a/\ty σ H1 fun y H2=>tx σ H2 fun z H3=>∃o,vL H3 a y o/\Q (o.getD z) H3
section
variable {X:Cx}{o e f:Expr}{apos cpos:Pos}{td ty tx:TE}
def MJ (hu:X.A.units+20 < cLine) (ho:PE X o td) (he:PE X e ty) (hf:PE X f tx) (m:M2 X o "get" apos e f cpos):PE X (.Call (.Attribute o "get" apos) [e,f] [] cpos) (U0 td ty tx):=by
 intro pins s σ H Q I h;refine aeR m.base m.few m.line aeN aev PySem.F.type_dict_get (dN (ho pins s σ H _ I h) fun u s1 hh=>?_);obtain⟨x,H1,I1,rx,a,ex,d,q1⟩:=hh;subst ex;obtain rfl:u=Value.ref a:=rx;obtain⟨t1,t2,_⟩:=MI I1 d;refine⟨t1,t2,?_⟩;rw[m.trees];refine adF rfl (adP (abA (dN (he pins s1 σ H1 _ I1 q1) fun iv s2 ⟨y,H2,I2,ry,q2⟩=>
  abA (dN (hf pins s2 σ H2 _ I2 q2) fun fv s3 ⟨z,H3,I3,rz,ov,g,q3⟩=>aen ?_))))
 exact UZ hu I3 g ry rz fun w' s4 I4 rw'=>⟨_,H3,I4,rw',q3⟩
end
end L2
namespace HT
open PySem PyProof.Rows
variable {Q:AAE}{lo hi:BBM}
section
open PySem.SeqAt
open PySem.AutoSeq1 (wpAny_loadPart')
open PySem.MeetsSeq PySem.MeetsSeq2 PySem.MeetsSeq3
end
section
variable {prog:Program}{w:World}{A:Around}{E:AAE}{s:Shared}
def Ql {t b:Addr}{vs ws:AAL}(ht:IsTup s.heap t vs.toArray) (hb:IsTup s.heap b ws.toArray) (hv:vs≠[])
  (h1:ws=[]->Q (.ref t) s) (h2:ws≠[]->Q (.ref s.heap.objs.size) {s with heap:=s.heap.push {cls:=.type "tuple",data:=.seq (vs++ws).toArray}})
  (hsz:vs.length+ws.length<=sizeLine):wpAny (model prog w) A (binaryOp .Add (.ref t) (.ref b)) Q E s:=by
 obtain⟨⟨cls,dd,data,sl⟩,ho,hc,n,hd⟩:=id ht;obtain⟨⟨ab3,dd2,data2,sl2⟩,ho2,hc2,n2,hd2⟩:=id hb;simp only at hc hd hc2 hd2;subst hc hd hc2 hd2;have e:vs.toArray++ws.toArray=(vs++ws).toArray:=by simp
 by_cases hw:ws=[]
 ·exact concat_meets ⟨_,ho,rfl⟩ ⟨_,ho2,rfl⟩ afP seq_tuple_add aeX aeO (aeI _ _)
   (tuple_addW1 t b vs.toArray ws.toArray n n2 dd dd2 sl sl2 (by simpa using hv) (by simp[hw])) ⟨ho,ho2,h1 hw⟩
 ·refine concat_meets ⟨_,ho,rfl⟩ ⟨_,ho2,rfl⟩ afP seq_tuple_add aeX aeO (aeI _ _)
   (tuple_addW2 t b vs.toArray ws.toArray n n2 dd dd2 sl sl2 (by simpa using hv) (by simpa using hw) (by rw[aam,aam];exact hsz)) ⟨ho,ho2,?_⟩
  rw[e];exact h2 hw
noncomputable def iR (n d:Nat):BBM->Nat
 | none=>d
 | some v=>if v < 0 then(v+(n:Int)).toNat else min v.toNat n
def MK (n d:Nat):iR n d none=d:=rfl
def AG (n d k:Nat):iR n d (some (k:Int))=min k n:=by
 show(if(k:Int) < 0 then((k:Int)+(n:Int)).toNat else min (k:Int).toNat n)=min k n;rw[if_neg (by lia),aeS]
def U1 (n d:Nat) (hd:d<=n) (o:BBM):iR n d o<=n:=by
 cases o with
 | none=>exact hd
 | some v=>
  show(if v < 0 then(v+(n:Int)).toNat else min v.toNat n)<=n;by_cases hv:v < 0
  ·rw[if_pos hv];lia
  ·rw[if_neg hv];exact Nat.min_le_right _ _
def IW (v:Int) (n d:Nat):(if v < 0 then max (v+(n:Int)) 0 else min v (n:Int))=((iR n d (some v):Nat):Int):=by
 show(if v < 0 then max (v+(n:Int)) 0 else min v (n:Int))=(((if v < 0 then(v+(n:Int)).toNat else min v.toNat n):Nat):Int);by_cases hv:v < 0
 ·simp only[if_pos hv];lia
 ·simp only[if_neg hv];lia
def G4 (lo hi:BBM) (n:Nat):Builtin.Slice.sliceAdjust lo hi 1 (n:Int)=(((iR n 0 lo:Nat):Int),((iR n n hi:Nat):Int)):=by
 have h1:¬((1:Int) < 0):=by lia
 unfold Builtin.Slice.sliceAdjust;simp only[h1,afe];refine Prod.ext ?_ ?_
 ·cases lo with
  | none=>rfl
  | some v=>exact IW v n 0
 ·cases hi with
  | none=>rfl
  | some v=>exact IW v n n
def G5 (i j:Nat):Builtin.Slice.slicePlaces (i:Int) (j:Int) 1=j - i:=by
 unfold Builtin.Slice.slicePlaces;have h1:(1:Int) > 0:=by lia
 simp only[h1,if_true,Int.ediv_one];split <;> lia
def wz {v:Value}{o:BBM}{Q:BBM->Shared->Prop}(p:IsPart v o) (h:Q o s):wpAny (model prog w) A (Builtin.Slice.slicePartIndex v) Q E s:=by
 cases p with
 | none=>exact afC h
 | int i t=>exact slicePart_int h
def qA {sl:Addr}{vl vu:Value}{n:Nat}{Q:Int×Int×Nat->Shared->Prop}(hs:s.heap.IsSliceOf sl vl vu .none) (pl:IsPart vl lo) (pu:IsPart vu hi)
  (h:Q (((iR n 0 lo:Nat):Int),1,iR n n hi - iR n 0 lo) s):wpAny (model prog w) A (Builtin.Slice.sliceApplied (.ref sl) (pure (n:Int))) Q E s:=by
 obtain⟨os,hos,hcs,hds⟩:=id hs;unfold Builtin.Slice.sliceApplied Builtin.Slice.sliceFields;refine aae (aae (ab5 hos hds (x:=vl) rfl (aae (ab5 hos hds (x:=vu) rfl (aae (ab5 hos hds (x:=.none) rfl (aah ?_)))))));refine aae (afC ?_);show wpAny _ _ (if((1:Int) == 0)=true then _ else _) _ _ s;rw[if_neg (by decide)];refine aae (wz pl (aae (wz pu (aae (aah ?_)))));show wpAny _ _ (match Builtin.Slice.sliceAdjust lo hi 1 (n:Int) with | (lo,hi)=>pure (lo,(1:Int),Builtin.Slice.slicePlaces lo hi 1)) _ _ s;rw[G4 lo hi n];show wpAny _ _ (pure (((iR n 0 lo:Nat):Int),(1:Int),Builtin.Slice.slicePlaces ((iR n 0 lo:Nat):Int) ((iR n n hi:Nat):Int) 1)) _ _ s;rw[G5];exact aah h
def ML (xs:AAK) (i k:Nat):((List.range k).filterMap fun(m:Nat)=>xs[((i:Int)+(m:Int) * 1).toNat]?).toArray=((xs.toList.drop i).take k).toArray:=by
 have e:(fun(m:Nat)=>xs[((i:Int)+(m:Int) * 1).toNat]?)=fun m=>xs[i+m]?:=by
  funext m;have:((i:Int)+(m:Int) * 1).toNat=i+m:=by lia
  rw[this]
 rw[e];have:=pick_run xs i k;rw[List.filterMap_map] at this;have e2:((fun x=>xs[x]?) ∘ fun x=>i+x)=fun m=>xs[i+m]?:=rfl;rw[e2] at this;rw[this]
def xS {t sl:Addr}{items:AAK}{vl vu:Value}(ht:IsTup s.heap t items) (hs:s.heap.IsSliceOf sl vl vu .none) (pl:IsPart vl lo) (pu:IsPart vu hi)
  (hw:¬(iR items.size 0 lo=0/\iR items.size items.size hi=items.size))
  (h:Q (.ref s.heap.objs.size) {s with heap:=s.heap.push {cls:=.type "tuple",data:=.seq ((items.toList.drop (iR items.size 0 lo)).take (iR items.size items.size hi - iR items.size 0 lo)).toArray}})
  (hsz:items.size<=sizeLine):wpAny (model prog w) A (getItem (.ref t) (.ref sl)) Q E s:=by
 have xT:sizeOk (.seq ((items.toList.drop (iR items.size 0 lo)).take (iR items.size items.size hi - iR items.size 0 lo)).toArray):=by
  show((items.toList.drop (iR items.size 0 lo)).take (iR items.size items.size hi - iR items.size 0 lo)).toArray.size<=sizeLine;rw[aam,afd,adR,abw];lia
 have hj:iR items.size items.size hi<=items.size:=U1 _ _ (aap _) hi;obtain⟨os,hos,hcs,hds⟩:=id hs;have Ys:s.TypeIs (.ref sl) "slice":=⟨os,hos,hcs⟩
 unfold getItem
 try with_reducible refine abW ?_
 first | refine aae (aah ?_) | skip
 refine aae (afK ht.typeIs (by decide) ?_);refine aae (aeP (name:=Str.ofString "__getitem__") ht.typeIs aa6
  (afQ aa6 ht.typeIs entry_tuple_getitem ?_ (args_tuple_getitem _ _)))
 show wpAny _ _ (Builtin.Tuple.tupleItemsOf (.ref t) >>= _) _ _ s;refine aae (tupleItemsOf_ ht ?_);refine aae (afo Ys ?_);rw[if_pos (by decide)];refine aae (qA hs pl pu ?_);have hno:¬((((iR items.size 0 lo:Nat):Int) == 0 && (1:Int) == 1 && (iR items.size items.size hi - iR items.size 0 lo) == items.size)=true):=by
  intro q;rw[abt,abt] at q;have q1:((iR items.size 0 lo:Nat):Int)=0:=eq_of_beq q.1.1;have q2:iR items.size items.size hi - iR items.size 0 lo=items.size:=eq_of_beq q.2;exact hw ⟨by lia,by lia⟩
 show wpAny _ _ (if(((iR items.size 0 lo:Nat):Int) == 0 && (1:Int) == 1 && (iR items.size items.size hi - iR items.size 0 lo) == items.size)=true then _ else _) _ _ s;rw[if_neg hno,ML]
 first
  | exact aae (m:=Builtin.Tuple.tupleExact _) (abN (aah ⟨_,rfl,aah h⟩) xT)
  | exact aae (m:=Builtin.Tuple.tupleExact _) (abN (aae (aah (aah ⟨_,rfl,aah h⟩))) xT)
  | exact aae (aae (m:=Builtin.Tuple.tupleExact _) (abN (aah (aah ⟨_,rfl,aah h⟩)) xT))
  | exact aae (aae (m:=Builtin.Tuple.tupleExact _) (abN (aah ⟨_,rfl,aah h⟩) xT))
end
end HT
namespace L2
open PySem PySem.Spec PyProof.Rows
variable {xs:List V}{n:Nat}{pins:AAG}{its its':AAL}
abbrev TO:=St->Hp->(BBM->Hp->Prop)->Prop
def PO (X:Cx) (e:BBL) (t:TO):Prop:=
 ∀(pins:AAG) (s:Shared) (σ:St) (H:Hp) (Q:BBM->Hp->Prop),Inv X pins σ H s->t σ H Q->
  wpAny (model X.prog X.w) X.A (evalPart e X.env) (fun u s'=>∃o H',Inv X pins σ H' s'/\IsPart u o/\Q o H') X.xe s
def Qm:TO:=fun _ H Q=>Q none H
def Tv (t:TE):TO:=fun σ H Q=>t σ H fun x H1=>∃i,x= .int i/\Q (some i) H1
def intsAre_of {ns:BBD}:∀{us:AAL},Vals (ns.map V.int) us->IntsAre us ns:=by
 induction ns with
 | nil=>intro us r;rw[abe] at r;cases r;exact .nil
 | cons n ns ih=>
  intro us r;rw[aax] at r;cases r with
  | cons r1 r2=>
   obtain⟨t,e⟩:=r1;subst e;exact .cons n t (ih r2)
section
variable {X:Cx}{e:Expr}{te:TE}{lo hi:BBL}{tl th:TO}{pos p2:Pos}
def Qn:PO X none Qm:=by
 intro pins s σ H Q I h;rw[evalPart_none];exact aah ⟨none,H,I,.none,h⟩
def IX (h:PE X e te):PO X (some e) (Tv te):=by
 intro pins s σ H Q I hw;rw[evalPart_some];refine dN (h pins s σ H _ I hw) fun u s1 hh=>?_;obtain⟨x,H1,I1,r1,q1⟩:=hh;obtain⟨i,rfl,q⟩:=q1;obtain⟨t,rfl⟩:=r1;exact⟨some i,H1,I1,.int i t,q⟩
def Yt (X:Cx) (r:V->BBM->BBM->Hp->VK->Prop):Prop:=
 ∀(pins:AAG) (s:Shared) (σ:St) (H:Hp) (x:V) (v vl vu:Value) (lo hi:BBM) (sl:Addr) (Q:VK),Inv X pins σ H s->RelV x v->s.heap.IsSliceOf sl vl vu .none->IsPart vl lo->IsPart vu hi->r x lo hi H Q->
  ∃T id,typeLookup (.type T) "__getitem__" =pure (some (.builtin id))/\s.TypeIs v T/\wpAny (model X.prog X.w) X.A (getItem v (.ref sl)) (EP X pins σ Q) X.xe s
def tSl (r:V->BBM->BBM->Hp->VK->Prop) (te:TE) (tl th:TO):TE:=fun σ H Q=>te σ H fun x H1=>tl σ H1 fun l H2=>th σ H2 fun u H3=>r x l u H3 Q
def E8 {r:V->BBM->BBM->Hp->VK->Prop}(hr:Yt X r) (he:PE X e te) (hl:PO X lo tl) (hu:PO X hi th):PE X (.Subscript e (.Slice lo hi none p2) pos) (tSl r te tl th):=by
 intro pins s σ H Q I h;refine Subscript_ (dN (he pins s σ H _ I h) fun v s1 hh=>?_);obtain⟨x,H1,I1,r1,q1⟩:=hh;refine wpAny_Slice (dN (hl pins s1 σ H1 _ I1 q1) fun vl s2 ⟨l,H2,I2,pl,q2⟩=>dN (hu pins s2 σ H2 _ I2 q2) fun vu s3 hh=>?_);obtain⟨u,H3,I3,pu,q3⟩:=hh;rw[evalPart_none];refine aah ?_;have I4:Inv X pins σ H3 {s3 with heap:=s3.heap.push {cls:=.type "slice",data:=.fields #[vl,vu,.none]}}:=I3.kept (t':=s3.toks) fun b ob q=>aan _ q;obtain⟨T,id,hT,ht,hg⟩:=hr pins {s3 with heap:=s3.heap.push {cls:=.type "slice",data:=.fields #[vl,vu,.none]}} σ H3 x v vl vu l u s3.heap.objs.size Q I4 r1 (Heap.IsSliceOf.new ..) pl pu q3;show wpAny (model X.prog X.w) X.A (subscriptTail e (.Slice lo hi none p2) v (.ref s3.heap.objs.size)) (EP X pins σ Q) X.xe {s3 with heap:=s3.heap.push {cls:=.type "slice",data:=.fields #[vl,vu,.none]}};exact tail_any (ops:=[.ref s3.heap.objs.size,v]) ht hT hg (by with_unfolding_all rfl)
noncomputable def Ca (xs:List V) (lo hi:BBM):List V:=(xs.drop (HT.iR xs.length 0 lo)).take (HT.iR xs.length xs.length hi - HT.iR xs.length 0 lo)
def zU (xs:List V) (lo hi:BBM):(Ca xs lo hi).length<=xs.length:=by
 unfold Ca;rw[afd,adR];lia
def ab4 (K:AAD):V->BBM->BBM->Hp->VK->Prop:=fun x lo hi H Q=>∃a xs,x= .ref a/\B7 K H a xs/\
 ¬(HT.iR xs.length 0 lo=0/\HT.iR xs.length xs.length hi=xs.length)/\∀p,H p=none->Q (.ref p) (upd H p (.tup (Ca xs lo hi)))
def U3:Yt X (ab4 X.K):=by
 intro pins s σ H x v vl vu lo hi sl Q I rx hs pl pu h;obtain⟨a,xs,rfl,hx,hw,q⟩:=h;cases rx;obtain⟨its,r,ht,hz⟩:=I.tuple hx;have hlen:its.toArray.size=xs.length:=by rw[aam];exact r.length.symm
 refine⟨"tuple",_,aa6.lookup,ht.typeIs,?_⟩;refine HT.xS ht hs pl pu (by rw[hlen];exact hw) ?_ (by rw[hlen];exact hz);rw[hlen];refine⟨.ref s.heap.objs.size,_,I.laid (t':=s.toks) (o:=.tup (Ca xs lo hi)) (fun b ob q=>aan _ q) (aap _) ?_,rfl,q _ (I.hok.fresh (aap _))⟩;exact⟨aaA (zU xs lo hi) hz,_,(r.drop (HT.iR xs.length 0 lo)).take (HT.iR xs.length xs.length hi - HT.iR xs.length 0 lo),IsTup.new _ _⟩
def Yu (K:AAD):R2:=fun x y H Q=>∃a b xs ys,x= .ref a/\y= .ref b/\B7 K H a xs/\B7 K H b ys/\xs≠[]/\xs.length+ys.length<=sizeLine/\
 (ys=[]->Q (.ref a) H)/\(ys≠[]->∀p,H p=none->Q (.ref p) (upd H p (.tup (xs++ys))))
def Vals.DK {us:AAL}(r:Vals xs us):us=[]↔xs=[]:=by
 cases r with
 | nil=>simp
 | cons _ _=>simp
def Qo:zQ X (binaryOp .Add) (Yu X.K):=by
 intro pins s σ H x y v u Q I rx ry h;obtain⟨a,b,xs,ys,rfl,rfl,ha,hb,hx,hz,q1,q2⟩:=h;cases rx;cases ry;obtain⟨its,r1,p1,_⟩:=I.tuple ha;obtain⟨its2,r2,p2,_⟩:=I.tuple hb;refine HT.Ql p1 p2 (fun z=>hx (r1.DK.mp z)) (fun z=>⟨.ref a,H,I,rfl,q1 (r2.DK.mp z)⟩) (fun z=>?_) (by rw[<-r1.length,<-r2.length];exact hz);refine⟨.ref s.heap.objs.size,_,I.laid (t':=s.toks) (o:=.tup (xs++ys)) (fun b ob q=>aan _ q) (aap _) ?_,rfl,q2 (fun w=>z (r2.DK.mpr w)) _ (I.hok.fresh (aap _))⟩;exact⟨by rw[aaB];exact hz,_,r1.append r2,IsTup.new _ _⟩
end
noncomputable def G6 (n:Nat) (i:Int):BBS:=if 0<=i then(if i < n then some i.toNat else none) else if -(n:Int)<=i then some (i+n).toNat else none
def jh {α:Type}(xs:List α) (i:Int):Option α:=(G6 xs.length i).bind fun j=>xs[j]?
def IY {i:Int}{j:Nat}(h:G6 n i=some j):seqIndex? i n=some j/\j < n/\-(n:Int)<=i/\i < n:=by
 unfold G6 at h;by_cases h0:0<=i
 ·rw[if_pos h0] at h;by_cases h1:i < n
  ·rw[if_pos h1] at h;have e:i.toNat=j:=abh h;exact⟨by rw[seqIndex_of h0 h1,e],by lia,by lia,h1⟩
  ·rw[if_neg h1] at h;cases h
 ·rw[if_neg h0] at h;by_cases h1:-(n:Int)<=i
  ·rw[if_pos h1] at h;have e:(i+n).toNat=j:=abh h;exact⟨by rw[seqIndex_neg (by lia) h1,e],by lia,h1,by lia⟩
  ·rw[if_neg h1] at h;cases h
def DL {α:Type}{xs:List α}{i:Int}{v:α}(h:jh xs i=some v):∃j,seqIndex? i xs.length=some j/\xs[j]? =some v/\j < xs.length/\-(xs.length:Int)<=i/\i < xs.length:=by
 unfold jh at h;cases e:G6 xs.length i with
 | none=>rw[e] at h;cases h
 | some j=>
  rw[e] at h;obtain⟨h1,h2,h3,h4⟩:=IY e;exact⟨j,h1,h,h2,h3,h4⟩
def AH (b:Expr):Prop:=∀o i,subscripted b false o i=operate [o,i] (getItem o i)
def MM (X:Cx) (r:R2):Prop:=
 ∀(value slice:Expr) (pins:AAG) (s:Shared) (σ:St) (H:Hp) (x y:V) (v u:Value) (Q:VK),Inv X pins σ H s->RelV x v->RelV y u->r x y H Q->
  subscripted slice false v u=operate [v,u] (getItem v u)->wpAny (model X.prog X.w) X.A (subscriptTail value slice v u) (EP X pins σ Q) X.xe s
def MtR (X:Cx) (id:String) (r:V->List V->Hp->VK->Prop):Prop:=
 ∀(pins:AAG) (s:Shared) (σ:St) (H:Hp) (x:V) (xs:List V) (v:Value) (us:AAL) (Q:VK),Inv X pins σ H s->RelV x v->Vals xs us->r x xs H Q->
  wpAny (model X.prog X.w) X.A (call (.builtin id) (v :: us)) (EP X pins σ Q) X.xe s
section
variable {X:Cx}{a b:Expr}{ta tb:TE}{pos:Pos}
def MM.or {r r':R2}(h:MM X r) (h':MM X r'):MM X (fun x y H Q=>r x y H Q\/r' x y H Q):=by
 intro value slice pins s σ H x y v u Q I rx ry q hs;rcases q with q | q
 ·exact h value slice pins s σ H x y v u Q I rx ry q hs
 ·exact h' value slice pins s σ H x y v u Q I rx ry q hs
def IZ {r:R2}(hr:MM X r) (ha:PE X a ta) (hb:PE X b tb) (hs:AH b):PE X (.Subscript a b pos) (UG r ta tb):=by
 intro pins s σ H Q I h;exact Subscript_ (UI ha hb I h fun v u s2 x y H2 I2 rx ry q=>hr a b pins s2 σ H2 x y v u Q I2 rx ry q (hs _ _))
def Yv (K:AAD):R2:=fun x y H Q=>∃p xs i v,x= .ref p/\y= .int i/\yV K H p xs/\jh xs i=some v/\Q v H
def Yw (K:AAD):R2:=fun x y H Q=>∃p xs i v,x= .ref p/\y= .int i/\B7 K H p xs/\jh xs i=some v/\Q v H
def Yx:R2:=fun x y H Q=>∃z i c,x= .str z/\y= .int i/\z.length<=sizeLine/\jh z.cps.toList i=some c/\Q (.str ⟨#[c]⟩) H
def Ja:MM X (Yv X.K):=by
 intro value slice pins s σ H x y v u Q I rx ry h hs;obtain⟨p,xs,i,z,rfl,rfl,hq,he,q⟩:=h;cases rx;obtain⟨t,rfl⟩:=ry;obtain⟨its,r,pl,hz⟩:=I.list hq;obtain⟨j,h1,h2,h3,h4,h5⟩:=DL he;obtain⟨w,ew,rw'⟩:=r.get h2;have hl:=r.length;have hn:=yW;have fin:EP X pins σ Q w s:=⟨z,H,I,rw',q⟩
 by_cases h0:0<=i
 ·have hj:i.toNat=j:=by
   rw[seqIndex_of h0 h5] at h1;exact abh h1
  exact item_listR pl.isList h0 (by lia) (by rw[hj];simpa using ew) fin hs
 ·have hj:(i+(its.toArray.size:Int)).toNat=j:=by
   rw[seqIndex_neg (by lia) h4] at h1;rw[aam,<-hl];exact abh h1
  exact subscriptTail_builtinR (x:=w) pl.isList.typeIs afL.lookup
   (wpAny_getItem_list_neg (Q:=fun r s'=>r=w/\EP X pins σ Q r s') pl.isList (by lia) (by rw[aam] <;> lia) (by lia) (by rw[hj];simpa using ew) ⟨rfl,fin⟩) hs
def MN:MM X (Yw X.K):=by
 intro value slice pins s σ H x y v u Q I rx ry h hs;obtain⟨p,xs,i,z,rfl,rfl,hq,he,q⟩:=h;cases rx;obtain⟨t,rfl⟩:=ry;obtain⟨its,r,pl,hz⟩:=I.tuple hq;obtain⟨j,h1,h2,h3,h4,h5⟩:=DL he;obtain⟨w,ew,rw'⟩:=r.get h2;have hl:=r.length;have hn:=yW;have fin:EP X pins σ Q w s:=⟨z,H,I,rw',q⟩
 exact subscriptTail_builtinR (x:=w) pl.typeIs slot_tuple_getitem.lookup
  (getItem_tuple (j:=j) (Q:=fun r s'=>r=w/\EP X pins σ Q r s') pl (by lia) (by lia) (by rw[aam,<-hl];exact h1) (by simpa using ew) ⟨rfl,fin⟩) hs
def MP:MM X Yx:=by
 intro value slice pins s σ H x y v u Q I rx ry h hs;obtain⟨z,i,c,rfl,rfl,hz,he,q⟩:=h;obtain⟨t,rfl⟩:=rx;obtain⟨t',rfl⟩:=ry;obtain⟨j,h1,h2,h3,h4,h5⟩:=DL he;have hl:z.cps.toList.length=z.length:=by simp[Str.length]
 rw[hl] at h1 h4 h5;have hn:=yW;exact tail_any (aeL s z t) slot_str_getitem.lookup (getItem_str (c:=c) (by
  have e1:decide (i < -(2 ^ 63:Int))=false:=abg (by lia);have e2:decide (i≥2 ^ 63)=false:=abg (by lia);rw[e1,e2,Bool.or_false]) (by rw[h1];simpa using h2) ⟨.str ⟨#[c]⟩,H,I.tok _,⟨_,rfl⟩,q⟩) hs
def rIx (K:AAD):R2:=fun x y H Q=>Yv K x y H Q\/Yw K x y H Q\/Yx x y H Q
def G7:MM X (rIx X.K):=Ja.or (MN.or MP)
def G8 (its:AAL) (n j:Nat) (u:Value):Obj.mapSeq (·.setIfInBounds j u) {cls:=.type "list",data:=.seq its.toArray n}={cls:=.type "list",data:=.seq (its.set j u).toArray n}:=by
 simp[Obj.mapSeq]
def Inv.lst {pins:AAG}{σ:St}{H:Hp}{s:Shared}{p:Addr}{xs:List V}(I:Inv X pins σ H s) (h:H p=some (.lst xs)):
  ∃(its:AAL) (n:Nat),Vals xs its/\s.heap.get? p=some {cls:=.type "list",data:=.seq its.toArray n}/\xs.length<=sizeLine:=by
 obtain⟨z,its,n,r,e⟩:=I.hok p _ h;exact⟨its,n,r,e,z⟩
def Inv.U4 {σ:St}{H:Hp}{s:Shared}{p:Addr}{ys:List V}{n':Nat}{f:Obj->Obj}(I:Inv X pins σ H s) (h:H p=some (.lst xs))
  (ho:s.heap.get? p=some {cls:=.type "list",data:=.seq its.toArray n}) (hf:f {cls:=.type "list",data:=.seq its.toArray n}={cls:=.type "list",data:=.seq its'.toArray n'}) (r:Vals ys its') (hz:ys.length<=sizeLine) (t:Nat):
  Inv X pins σ (upd H p (.lst ys)) {s with heap:=s.heap.update p f,toks:=t}:=by
 have e:(s.heap.update p f).get? p=some {cls:=.type "list",data:=.seq its'.toArray n'}:=by
  rw[acC f ho (by rw[hf] <;> rfl),hf]
 refine I.write (x:=p) (e:=p) (by rw[h];trivial) (.inl rfl) (fun b u hb q=>(abB _ _ (acz hb)).trans q) ⟨_,e⟩ ?_;exact⟨hz,its',n',r,e⟩
def Yy:V->V->V->Hp->(Hp->Prop)->Prop:=fun o i v H Q=>∃p xs k j,o= .ref p/\i= .int k/\H p=some (.lst xs)/\G6 xs.length k=some j/\Q (upd H p (.lst (xs.set j v)))
def set_list:X4 X Yy:=by
 intro pins s σ H o i v ov iv u Q I ro ri rv h;obtain⟨p,xs,k,j,rfl,rfl,hp,hj,q⟩:=h;cases ro;obtain⟨t,rfl⟩:=ri;obtain⟨its,n,r,ho,hz⟩:=I.lst hp;obtain⟨h1,h2,h3,h4⟩:=IY hj;have hl:=r.length;have hn:=yW;have I':Inv X pins σ (upd H p (.lst (xs.set j v))) {s with heap:=s.heap.update p (Obj.mapSeq (·.setIfInBounds j u))}:=
  I.U4 hp ho (G8 its n j u) (r.set rv j) (by rw[acn];exact hz) s.toks
 by_cases h0:0<=k
 ·have hk:k.toNat=j:=by
   rw[seqIndex_of h0 h4] at h1;exact abh h1
  exact PySem.W.ki_setAt ho h0 (by lia) (by rw[aam,<-hl];exact h4) (by rw[hk];exact⟨_,I',q⟩)
 ·have hk:(k+(its.toArray.size:Int)).toNat=j:=by
   rw[seqIndex_neg (by lia) h3] at h1;rw[aam,<-hl];exact abh h1
  exact PySem.W.ki_setBack ho (by lia) (by rw[aam,<-hl];exact h3) (by lia) (by rw[hk];exact⟨_,I',q⟩)
def DM (lo hi:BBM) (n:Nat):(sliceBounds lo hi none n).1=((HT.iR n 0 lo:Nat):Int)/\(sliceBounds lo hi none n).2.1=((HT.iR n n hi:Nat):Int)/\(sliceBounds lo hi none n).2.2=1:=by
 refine⟨?_,?_,rfl⟩
 ·cases lo with
  | none=>simp[sliceBounds,HT.iR]
  | some i=>
   simp only[sliceBounds,HT.iR,Option.getD_none,show(1:Int) > 0 by decide,if_true];by_cases h:i < 0
   ·simp only[h,if_true] <;> lia
   ·simp only[h,afe] <;> lia
 ·cases hi with
  | none=>simp[sliceBounds,HT.iR]
  | some i=>
   simp only[sliceBounds,HT.iR,Option.getD_none,show(1:Int) > 0 by decide,if_true];by_cases h:i < 0
   ·simp only[h,if_true] <;> lia
   ·simp only[h,afe] <;> lia
def Cb (its:AAL) (lo hi:BBM):slicePick its.toArray lo hi none=((its.drop (HT.iR its.length 0 lo)).take (HT.iR its.length its.length hi - HT.iR its.length 0 lo)).toArray:=by
 obtain⟨h1,h2,h3⟩:=DM lo hi its.toArray.size;unfold slicePick;rw[h1,h2,h3];simp only[sliceRange_one,pick_run,aam] <;> rfl
def ab6 (K:AAD):V->BBM->BBM->Hp->VK->Prop:=fun x lo hi H Q=>∃a xs,x= .ref a/\yV K H a xs/\∀p,H p=none->Q (.ref p) (upd H p (.lst (Ca xs lo hi)))
def Jb:Yt X (ab6 X.K):=by
 intro pins s σ H x v vl vu lo hi sl Q I rx hs pl pu h;obtain⟨a,xs,rfl,hx,q⟩:=h;cases rx;obtain⟨its,r,ht,hz⟩:=I.list hx;have hlen:=r.length;refine⟨"list",_,afL.lookup,ht.isList.typeIs,?_⟩;refine wpAny_getItem_list_slice ht.isList hs pl pu .none (by simp) ?_ (by rw[aam] <;> lia);rw[Cb,<-hlen];refine⟨.ref s.heap.objs.size,_,I.laid (t':=s.toks) (o:=.lst (Ca xs lo hi)) (fun b ob q=>aan _ q) (aap _) ?_,rfl,q _ (I.hok.fresh (aap _))⟩;exact⟨aaA (zU xs lo hi) hz,_,0,(r.drop (HT.iR xs.length 0 lo)).take (HT.iR xs.length xs.length hi - HT.iR xs.length 0 lo),aa5 _ rfl⟩
def q8:jK X (.builtin "len") (fun xs H Q=>∃p ys,xs=[.ref p]/\(yV X.K H p ys\/B7 X.K H p ys)/\Q (.int ys.length) H):=by
 intro pins s σ H xs us Q I r h;obtain⟨p,ys,rfl,hq,q⟩:=h;obtain⟨u,rfl,rx⟩:=vals1 r;cases rx;have hn:=yW;rcases hq with hq | hq
 ·obtain⟨its,r',pl,hz⟩:=I.list hq;have hlen:=r'.length;exact Calls.call_len_list pl.isList (by simp only[aam] <;> lia) ⟨.int ys.length,H,I.tok _,⟨s.toks+1,by rw[aam,hlen]⟩,q⟩
 ·obtain⟨its,r',pl,hz⟩:=I.tuple hq;have hlen:=r'.length;exact len_tuple pl (by simp only[aam] <;> lia) ⟨.int ys.length,H,I.tok _,⟨s.toks+1,by rw[aam,hlen]⟩,q⟩
def xU:jK X (.builtin "len") (fun xs H Q=>∃z,xs=[.str z]/\z.length<=sizeLine/\Q (.int z.length) H):=by
 intro pins s σ H xs us Q I r h;obtain⟨z,rfl,hz,q⟩:=h;obtain⟨u,rfl,t,rfl⟩:=vals1 r;have hn:=yW;exact len_str (by lia) ⟨.int z.length,H,I.tok _,⟨_,rfl⟩,q⟩
def tyV (K:AAD) (T:String) (x:V) (H:Hp):Prop:=match x with
 | .str _=>T="str"
 | .int _=>T="int"
 | .ref p=>(T="list"/\∃xs,yV K H p xs)\/(T="tuple"/\∃o,K.lookup p=some o/\o.cls= .type "tuple"/\o.dict=none)\/
   (T="dict"/\((∃kvs,H p=some (.dK kvs))\/∃kvs,H p=some (.dT kvs)))\/(T="set"/\∃S n,H p=some (.set S n))
 | _=>False
def U5 {σ:St}{H:Hp}{s:Shared}{T:String}{x:V}{v:Value}(I:Inv X pins σ H s) (r:RelV x v) (ty:tyV X.K T x H):
  s.TypeIs v T/\∀a,v= .ref a->∃ob,s.heap.get? a=some ob/\ob.dict=none:=by
 cases x with
 | str z=>
  obtain⟨t,rfl⟩:=r;cases(show T="str" from ty);exact⟨aeL s z t,fun _ e=>nomatch e⟩
 | int i=>
  obtain⟨t,rfl⟩:=r;cases(show T="int" from ty);exact⟨typeIs_int s i t,fun _ e=>nomatch e⟩
 | ref p=>
  cases r;rcases ty with⟨rfl,xs,hq⟩ | ⟨rfl,o,hk,hc,hd⟩ | ⟨rfl,hk⟩ | ⟨rfl,S,n,hk⟩
  ·obtain⟨its,_,pl,_⟩:=I.list hq;refine⟨pl.isList.typeIs,fun a e=>?_⟩;cases e;obtain⟨o,n,e,c,hd,_⟩:=pl;exact⟨o,e,hd⟩
  ·refine⟨⟨o,I.sV p o hk,hc⟩,fun a e=>?_⟩;cases e;exact⟨o,I.sV _ o hk,hd⟩
  ·have z:∃o,s.heap.get? p=some o/\o.ExactDict:=by
    rcases hk with⟨kvs,hk⟩ | ⟨kvs,hk⟩
    ·obtain⟨_,_,_,_,o,_,_,e,ex,_⟩:=I.hok p _ hk;exact⟨o,e,ex⟩
    ·exact(I.hok p _ hk).elim
   obtain⟨o,e,ex⟩:=z;refine⟨⟨o,e,ex.1⟩,fun a e2=>?_⟩;cases e2;exact⟨o,e,ex.2.1⟩
  ·obtain⟨o,_,_,_,e,ex,_⟩:=I.hok p _ hk;refine⟨⟨o,e,ex.1⟩,fun a e2=>?_⟩;cases e2;exact⟨o,e,ex.2.1⟩
 | _=>exact False.elim ty
def tBM (K:AAD) (T:String) (r:V->List V->Hp->VK->Prop) (to:TE) (t:TA):TE:=fun σ H Q=>to σ H fun x H1=>tyV K T x H1/\t σ H1 fun xs H2=>r x xs H2 Q
variable {o e:Expr}{es:BBC}{to:TE}{t:TA}{name:Str}{apos cpos:Pos}{T id:String}{r:V->List V->Hp->VK->Prop}
def Yz (pa:PlainAttrs T) (slot:Slot T name id) (hty:typeOf (.builtin id)=pure (.type "method_descriptor")) (hm:MtR X id r) (ho:PE X o to) (ha:PA X (e :: es) t)
  (hbase:attributeBase o name X.env (eval o X.env)=eval o X.env:=by rfl)
  (hfew:((backTo cpos (starEach (e :: es) X.env)).all (fun x=>!x.1) && (backToKw cpos (keywordEach [] X.env)).all (fun x=>x.1.isSome)
   && decide ((e :: es).length+([]:BBI).length+(if([]:BBI).isEmpty then 0 else 1) < 30))=true:=by rfl)
  (hline:(apos.endLine == cpos.line)=true:=by rfl) (hs:starEach (e :: es) X.env=(false,eval e X.env) :: starEach es X.env:=by rfl) (hplain:(backTo cpos (starEach es X.env)).any (·.1)=false:=by rfl):
  PE X (.Call (.Attribute o name apos) (e :: es) [] cpos) (tBM X.K T r to t):=by
 intro pins s σ H Q I h;refine wpAny_Call_method_late hbase hfew hline rfl (dN (ho pins s σ H _ I h) fun v s1 hh=>?_);obtain⟨x,H1,I1,r1,ty,q1⟩:=hh;obtain⟨h1,h2⟩:=U5 I1 r1 ty;refine⟨T,id,pa,slot,hty,h1,h2,?_⟩;have hA:=ha cpos pins s1 σ H1 _ I1 q1;rw[hs] at hA ⊢;refine adF (by show(false || (backTo cpos (starEach es X.env)).any (·.1))=false;rw[hplain] <;> rfl) (adP ?_);exact dN hA fun us s2 ⟨vs,H2,I2,r2,q2⟩=>hm pins s2 σ H2 x vs v us Q I2 r1 r2 q2
end
def MtM (X:Cx) (id:String) (r:V->List V->Hp->VK->Prop):Prop:=
 ∀(pins:AAG) (s:Shared) (σ:St) (H:Hp) (x:V) (xs:List V) (v:Value) (us:AAL) (Q:VK),Inv X pins σ H s->RelV x v->Vals xs us->r x xs H Q->
  wpAny (model X.prog X.w) X.A (call (.builtin id) (v :: us)) (EP X pins σ Q) X.xe s
theorem Vals.one:∀{x:V}{us:AAL},Vals [x] us->∃u,us=[u]/\RelV x u
 | _,_,.cons r .nil=>⟨_,rfl,r⟩
theorem Vals.rep {xs:List V}{us:AAL}(h:Vals xs us):∀k:Nat,Vals (List.replicate k xs).flatten (List.replicate k us).flatten
 | 0=>.nil
 | k+1=>by
  rw[ab9,ab9,adO,adO];exact Vals.append h (Vals.rep h k)
theorem foldl_rep (its:AAL):∀(k:Nat) (acc:AAL),
  List.foldl (fun x1 x2=>x1++x2) acc.toArray (List.replicate k its.toArray)=(acc++(List.replicate k its).flatten).toArray
 | 0,acc=>by simp
 | k+1,acc=>by
  have e:acc.toArray++its.toArray=(acc++its).toArray:=by simp
  have e2:(acc++its)++(List.replicate k its).flatten=acc++(List.replicate (k+1) its).flatten:=by
   rw[ab9,adO,aeT]
  rw[<-e2,<-foldl_rep its k (acc++its),<-e,ab9,List.foldl_cons]
section
variable {X:Cx}{pins:AAG}{σ:St}{H:Hp}{s:Shared}{l:Addr}{xs ys:List V}
def Inv.YA {f:Array Value->Array Value}{t':Nat}(I:Inv X pins σ H s) (hH:H l=some (.lst xs))
  (e:s.heap.get? l=some {cls:=.type "list",data:=.seq its.toArray n}) (hf:f its.toArray=its'.toArray) (hv:Vals ys its') (hz:ys.length<=sizeLine):
  Inv X pins σ (upd H l (.lst ys)) {s with heap:=s.heap.update l (Obj.mapSeq f),toks:=t'}:=by
 have q:=PySem.IsL.update e f;rw[hf] at q;refine I.write (x:=l) (e:=l) (by rw[hH];exact trivial) (.inl rfl) (fun b' u hb hu=>(abB s.heap (Obj.mapSeq f) (acz hb)).trans hu) ⟨_,q⟩ ?_;exact⟨hz,its',_,hv,q⟩
def Inv.YB {t':Nat}(I:Inv X pins σ H s) (hv:Vals ys its) (hz:ys.length<=sizeLine):
  Inv X pins σ (upd H s.heap.objs.size (.lst ys)) {s with heap:=s.heap.push {cls:=.type "list",data:=.seq its.toArray},toks:=t'}:=
 I.laid (fun _ _ q=>aan _ q) (aap _) ⟨hz,its,0,hv,aa5 _ rfl⟩
def Inv.fresh (I:Inv X pins σ H s):H s.heap.objs.size=none:=I.hok.fresh (aap _)
def Inv.G9 (I:Inv X pins σ H s) (hH:H l=some (.lst xs)):xs.length<=sizeLine/\∃(its:AAL) (n:Nat),Vals xs its/\xs.length=its.length/\s.heap.get? l=some {cls:=.type "list",data:=.seq its.toArray n}:=by
 obtain⟨z,its,n,r,e⟩:=I.hok l _ hH;exact⟨z,its,n,r,r.length,e⟩
def E9 (h:n<=sizeLine):Builtin.List.listTooLong n=false:=by
 unfold Builtin.List.listTooLong;exact abg (by lia)
end
section
variable {X:Cx}
def Jc:V->List V->Hp->VK->Prop:=fun x vs H Q=>∃l xs y,x= .ref l/\vs=[y]/\H l=some (.lst xs)/\xs.length < sizeLine/\Q .cM (upd H l (.lst (xs++[y])))
def CO:MtM X "list.append" Jc:=by
 intro pins s σ H x vs v us Q I rx rv h;obtain⟨l,xs,y,rfl,rfl,hH,hz,q⟩:=h;cases rx;obtain⟨u,rfl,ru⟩:=rv.one;obtain⟨z,its,n,r,hl,e⟩:=I.G9 hH;refine aeM F.slot_list_append ⟨_,e,rfl⟩ F.entry_list_append (F.args_list_append_2 _ _) (PySem.list_append l its.toArray n u (by rw[aam];lia)) ⟨e,?_⟩;refine⟨.cM,_,I.YA (its':=its++[u]) hH e (by simp) (r.append (.cons ru .nil)) ?_,rfl,q⟩;rw[aaB,acD];lia
def len_rep {α:Type}(xs:List α) (k:Nat):(List.replicate k xs).flatten.length=k * xs.length:=by
 induction k with
 | zero=>simp
 | succ k ih=>rw[ab9,adO,aaB,ih,Nat.succ_mul,Nat.add_comm]
end
end L2
namespace Att
open PySem PySem.W PySem.Calls PyProof.Rows
def Am {P:Params}{h:Heap}:∀(ns:BBD) (vs:AAL),WellAll P h vs (ns.map WData.int)->IntsAre vs ns:=by
 intro ns
 induction ns with
 | nil=>
  intro vs w;rw[abe] at w;cases w;exact .nil
 | cons n ns ih=>
  intro vs w;rw[aax] at w;cases w with
  | cons a b=>
   cases a;exact .cons _ _ (ih _ b)
def KQ {l:OpenLaw}{n:Nat}(hn:l.most=some n){P:Params}{h:Heap}{args:List WData}{vals:AAL}
  (hpre:l.row.toRowW.claim.pre args=true) (hwl:WellAll P h vals args):
  ∃a vs ns,vals=[Value.ref a]/\args=[WData.list (ns.map WData.int)]/\h.get? a=some {cls:=.type "list",data:=.seq vs.toArray}/\IntsAre vs ns/\ns.length<=n:=by
 have hsh:WShape.hasAll [] args [.list .int]=true:=(pre_splitW hpre).1;have hc:l.pre.holds [] {args:=args}=true:=(pre_splitW hpre).2;obtain⟨d,r,rfl,h1,h2⟩:=hasAllW_cons hsh;obtain rfl:=hasAllW_nil h2;obtain⟨xs,rfl,h3⟩:=hasW_list h1;obtain⟨ns,rfl⟩:=items_int h3;have hlen:ns.length<=n:=by
  unfold OpenLaw.pre at hc;have h4:(WTm.not (.lt (.lit (.int (n:Int))) (.len (.arg 0)))).holds [] {args:=[.list (ns.map .int)]}=true:=by
   have h4:=(holds_andW hc).1;rw[hn] at h4;exact h4
  have h5:=condW_of h4 (w_not (w_lt w_lit (w_len_list (w_arg rfl))));rw[aas] at h5;refine Nat.le_of_not_lt fun q=>?_;have q':(n:Int) < ((ns.length:Nat):Int):=by lia
  first
   | (rw[acB q'] at h5;exact absurd h5 (by decide))
   | (simp at h5;lia)
 cases hwl with
 | cons w1 w2=>
  cases w2;cases w1 with
  | list ho hall=>exact⟨_,_,ns,rfl,rfl,ho,Am ns _ hall,hlen⟩
def KR (l:OpenLaw) (args:List WData):l.row.toRowW.claim.post args (.bool true) args=true:=
 postW_of (r:=l.row.toRowW) (X:=(true == true))
  (show WShape.has [] (.bool true) .bool=true by first | rfl | decide | simp[WShape.has,WShape.arms,WShape.armsAll])
  (show(WTm.eq .res (.lit (.bool true))).value [] {args:=args,res:=some (.bool true),after:=args}=some (.bool (true == true)) from w_eq_bool (w_res rfl) w_lit) rfl
def Fb {l:OpenLaw}{n:Nat}{q:Program}{loose:BBB}{XP:(Str->BBP)->Heap->Prop}{YP:World->Heap->Prop}{d:DefRec}
  (hn:l.most=some n) (hdf:d.params.defaults=[])
  (call:∀(w:World) (s₀ s₁:Shared) (mg mb:AAF) (fa:Addr) (o:Obj) (pm cd doc:Value) (a:Addr) (vs:AAL) (ns:BBD),
   Ground q loose [] XP w s₀ mg mb s₁.heap->YP w s₁.heap->
   s₁.heap.get? fa=some o->o.data= .func (docDef d.name d.params d.body d.scope pm cd doc)->s₁.heap.CodeRec cd d.name->mg d.name=some (.ref fa)->
   s₁.heap.get? a=some {cls:=.type "list",data:=.seq vs.toArray}->IntsAre vs ns->ns.length<=n->s₁.gens=#[]->
   codeAny (model l.prog w) callerA (.call (.ref fa) ⟨[.ref a],[]⟩) (fun r s'=>r= .ok (.ret (.bool true))/\OldK s₁.heap s'.heap/\s'.os=s₁.os/\AllBare s'.gens) s₁):
  WalkO q loose XP YP l.row.toRowW d [] (fun f vs=>PySem.call f vs):=by
 intro w s₀ s₁ mg mb G Y fa o pm cd doc dV kV ho hd hcd hD hmg hg args vals as hpre hlay hrd hwl hlo;obtain rfl:dV= .none:=Dflts.none hD hdf;obtain rfl:kV= .none:=Dflts.noKw hD;obtain⟨a,vs,ns,rfl,rfl,hobj,hints,hlen⟩:=KQ hn hpre hwl;refine enter_call (aeH (call w s₀ s₁ mg mb fa o pm cd doc a vs ns G Y ho (fd_plain hd) hcd hmg hobj hints hlen hg) fun r s' hq=>?_);obtain⟨rfl,h2,h3,h4⟩:=hq;exact⟨.inl ⟨.bool true,.bool true,[],rfl,fun _=>rfl,.bool true,KR l _,fun _=>⟨List.Pairwise.nil,fun _ hm=>(nomatch hm)⟩⟩,h2,h3,h4⟩
end Att
namespace L2
open PySem PySem.Spec PyProof.Rows
variable {P:Program}{w:World}{K:AAD}{k:Nat}{fd:FuncData}{x qual:Str}{X:Cx}{st:Stmt}{ps m9:BBB}{H:Hp}{tc:TT}{pins:AAG}{σ:St}{cap:BBJ}{scope:Scope}{cl:List (Str×Addr)}{elt iter:Expr}{ifs:BBC}{pos pos2 px:Pos}{wi:TI}{te:TE}{use:Option (Value->Sem Unit)}{Qf:AAE}
theorem CP:∀{vs:AAL}{ns:BBD},IntsAre vs ns->Vals (ns.map V.int) vs
 | _,_,.nil=>.nil
 | _,_,.cons n t h=>.cons ⟨t,rfl⟩ (CP h)
def Qp (H:Hp):Prop:=∀b,H b=none\/∃o xs,H b=some (.mZ o (.lst xs))
def MQ {mg mb:AAF}{CX:KJ}{fa a:Addr}{sp:Sp}{s₁:Shared}{vs:AAL}{ns:BBD}
  (KX:K.In s₁.heap) (hns:s₁.heap.Ns mainGlobals mg) (hb:s₁.heap.Ns builtinsNs mb) (hbb:∀x:Str,x≠"__name__"->mb x=bootBuiltins x) (hlim:s₁.heap.NoLimit) (hg:s₁.gens=#[])
  (ha:s₁.heap.get? a=some {cls:=.type "list",data:=.seq vs.toArray}) (hi:IntsAre vs ns) (hl:ns.length<=sizeLine) (hr:dM k callerA)
  (F:∀base:Heap,K.In base->base.Ns mainGlobals mg->gQ P w K mg base CX k fa fd [x] sp) (hbind:∀(s:Shared) (u:Value),BindsTo s fd ⟨[u],[]⟩ [(x,u)])
  (Pw:∀H:Hp,Qp H->yV K H a (ns.map V.int)->sp [.ref a] H (fun v _=>v= .bl true) fun _ _ _=>False)
  (hCX:∀H e s',CX [] H s₁ (fun _ _ _=>False) e s'->False):
  codeAny (model P w) callerA (.call (.ref fa) ⟨[.ref a],[]⟩) (fun r s'=>r= .ok (.ret (.bool true))/\OldK s₁.heap s'.heap/\s'.os=s₁.os/\AllBare s'.gens) s₁:=by
 have rv:=CP hi;have lenV:=hi.length;have core:∀H:Hp,Qp H->yV K H a (ns.map V.int)->sO P w H s₁.heap->(∀b,H b≠none->b=a)->(H a≠none->K.lookup a=none)->
   codeAny (model P w) callerA (.call (.ref fa) ⟨[.ref a],[]⟩) (fun r s'=>r= .ok (.ret (.bool true))/\OldK s₁.heap s'.heap/\s'.os=s₁.os/\AllBare s'.gens) s₁:=by
  intro H hO hS hok hA hK;have Jd:∀{b:Addr}{o:Obj},s₁.heap.get? b=some o->H b=none->(Dz s₁.heap H).get? b=some o:=fun e n=>Ml e n;have Ym:∀{b:Addr}{o:Obj}{es:Array DictEntry}{ep:Nat},s₁.heap.get? b=some o->o.data= .dict es ep->H b=none:=fun {b o es ep} e d=>by
   cases q:H b with
   | none=>rfl
   | some u=>
    have e':b=a:=hA b (by rw[q];simp);subst e';rw[ha] at e;cases e;have d':Data.seq vs.toArray _=Data.dict es ep:=d;cases d'
  have nsK:∀{b:Addr}{m:AAF},s₁.heap.Ns b m->(Dz s₁.heap H).Ns b m:=fun {b m} ⟨o,es,ep,e,d,r⟩=>⟨o,es,ep,Jd e (Ym e d),d,r⟩
  have hKb:K.In (Dz s₁.heap H):=fun b o e=>Jd (KX b o e) (by
   cases q:H b with
   | none=>rfl
   | some u=>
    have e':b=a:=hA b (by rw[q];simp);subst e';rw[hK (by rw[q];simp)] at e;cases e)
  have hM:Mod K mg (Dz s₁.heap H):=⟨hKb,nsK hns,⟨mb,nsK hb,hbb⟩,let⟨mc,h1,h2⟩:=hlim;⟨mc,nsK h1,h2⟩⟩
  have e0:G2 P w K mg (Dz s₁.heap H) callerA [] s₁ H:=⟨rfl,hM,fun b o e=>PV e,Nat.le_of_eq (Ku _ _),trivial,fun b hb=>absurd (show b∈([]:BBE) from hb) (by simp),hok,.of_eq hg⟩
  refine aeH ((F _ hKb (nsK hns)).run callerA [] s₁ H ⟨[.ref a],[]⟩ [.ref a] [.ref a] _ _ hr e0 (hbind s₁ (.ref a)) (.cons rfl .nil) (Pw H hO hS)) fun r s' h=>?_;cases r with
  | error e=>exact(hCX H e s' h).elim
  | ok fl=>
   cases fl with
   | next=>exact False.elim h
   | brk=>exact False.elim h
   | cont=>exact False.elim h
   | ret u=>
    obtain⟨v,H',os,bare,un,ab8,r',q⟩:=h;have q':v= .bl true:=q;subst q';obtain rfl:u=Value.bool true:=r';refine⟨rfl,OldK.of_keep fun b o e=>?_,os,bare⟩;cases q:H b with
    | none=>exact un.keep b o e q (by intro z;exact absurd (show b∈([]:BBE) from z) (by simp)) (by simp)
    | some u=>
     rcases hO b with z | ⟨ob,xs,z⟩
     ·rw[q] at z;cases z
     ·have z2:=un.Al b ob _ z;obtain⟨e1,_⟩:=hok b _ z;obtain⟨e2,_⟩:=ab8 b _ z2;rw[e] at e1;cases e1;exact e2
 cases hk:K.lookup a with
 | some o=>
  have e:=KX a o hk;rw[ha] at e;cases e;refine core (fun _=>none) (fun _=>.inl rfl) (.inr ⟨_,vs.toArray,_,hk,rfl,rfl,rfl,by rw[aam,lenV];exact hl,by simpa using rv⟩) (fun b u z=>by have z':(none:Option HO)=some u:=z;cases z') (fun b z=>absurd rfl z) fun z=>absurd rfl z
 | none=>
  refine core (fun b=>if b=a then some (.mZ {cls:=.type "list",data:=.seq vs.toArray} (.lst (ns.map V.int))) else none) (fun b=>?_) (.inl (.inr ⟨{cls:=.type "list",data:=.seq vs.toArray},if_pos rfl⟩)) (fun b u z=>?_) (fun b z=>?_) fun _=>hk
  ·by_cases hb:b=a
   ·exact .inr ⟨_,_,if_pos hb⟩
   ·exact .inl (if_neg hb)
  ·by_cases hb:b=a
   ·have z':=(if_pos hb).symm.trans z;cases z';subst hb;exact⟨ha,by rw[aas];exact hl,vs,_,rv,ha⟩
   ·have z':=(if_neg hb).symm.trans z;cases z'
  ·by_cases hb:b=a
   ·exact hb
   ·exact absurd (if_neg hb) z
noncomputable abbrev KOf {K:AAD}{h:Heap}(_:K.In h):PySem.W.Frag:=K
def Qq {l:PySem.W.OpenLaw}{n:Nat}{q:Program}{loose:BBB}{XP:(Str->BBP)->Heap->Prop}{YP:World->Heap->Prop}{d:DefRec}{K:Params->PySem.W.Frag}{CX:World->KJ}{sp:World->Sp}
  (hn:l.most=some n) (hn2:n<=sizeLine) (hdf:d.params.defaults=[]) (hr:dM k callerA)
  (hY:∀(w:World) (h:Heap),YP w h->(K w.params).In h)
  (F:∀(w:World) (mg:AAF) (fa:Addr) (h:Heap),(K w.params).In h->h.Ns mainGlobals mg->mg d.name=some (.ref fa)->
   ∃fd:FuncData,(∀(s:Shared) (u:Value),BindsTo s fd ⟨[u],[]⟩ [(x,u)])/\
    ∀base:Heap,(K w.params).In base->base.Ns mainGlobals mg->gQ l.prog w (K w.params) mg base (CX w) k fa fd [x] (sp w))
  (Pw:∀(w:World) (H:Hp) (a:Addr) (ns:BBD),ns.length<=n->Qp H->yV (K w.params) H a (ns.map V.int)->sp w [.ref a] H (fun v _=>v= .bl true) fun _ _ _=>False)
  (hCX:∀(w:World) (H:Hp) (s:Shared) (e:Value) (s':Shared),CX w [] H s (fun _ _ _=>False) e s'->False):
  PySem.W.WalkO q loose XP YP l.row.toRowW d [] (fun f vs=>PySem.call f vs):=by
 refine Att.Fb hn hdf fun w s₀ s₁ mg mb fa o pm cd doc a vs ns G Y ho hd hcd hmg hobj hints hlen hg=>?_;have KX:=hY w _ Y;obtain⟨fd,hb,hF⟩:=F w mg fa _ KX G.T.g hmg;exact MQ KX G.T.g G.T.b G.T.builtins G.T.nolimit hg hobj hints (aaA hlen hn2) hr hF hb (fun H hO hS=>Pw w H a ns hlen hO hS) fun H e s'=>hCX w H s₁ e s'
noncomputable def nA (s:Stmt):Arguments:=match s with
 | .FunctionDef _ a _ _ _ _ _ _ _ _=>a
 | _=>{posonlyargs:=[],args:=[],vararg:=none,kwonlyargs:=[],kw_defaults:=[],kwarg:=none,defaults:=[]}
noncomputable def fE (s:Stmt):BBH:=match s with
 | .FunctionDef _ _ b _ _ _ _ _ _ _=>b
 | _=>[]
noncomputable def aJ (s:Stmt):Scope:=match s with
 | .FunctionDef _ _ _ _ _ _ sc _ _ _=>sc
 | _=>{kind:=.function,names:=[],isGenerator:=false,isCoroutine:=false}
noncomputable abbrev xV:KJ:=fun _ _ _ _ _ _=>False
noncomputable abbrev E0:XK:=fun _ _ _=>False
def Fc :Passes xV X E0:=fun _ _ _ _ _ _ _ h=>h.elim
structure Je (K:AAD) (x qual:Str) (st:Stmt) (f:Addr) (fd:FuncData):Prop where
 ex:∃(oc:Value) (od:BBN) (kV doc pm:Value) (an:BBN) (cdv ct:Value) (osl:Array (BBP)),
  fd=PySem.W.fnOf x qual (nA st) (fE st) (aJ st) .none kV doc pm an cdv ct/\K.lookup f=some ⟨oc,od,.func fd,osl⟩/\PySem.W.codeIn K cdv qual=true
 kp:PySem.W.keepIn K (.ref f)=true
section
variable {P:Program}{w:World}{K:AAD}{mg:AAF}{base:Heap}
def Je.ok {f:Addr}{N:BBB}{sp:Sp}(F:Je K x qual st f fd) (S:bD N ps (aJ st)) (len:∀vs H Q E,sp vs H Q E->vs.length=ps.length)
  (hbody:∀(cdv:Value) (A:Around) (outer:BBF) (s:Shared) (H:Hp) (vs:List V) (Q:VK) (E:XK),dM k (A.deeper (envOfC qual (aJ st) s.heap.objs.size f cdv))->sp vs H Q E->
   ∃t,DB (wu xV P w K mg base N qual (aJ st) f cdv A outer s H E).L7 (fE st) t/\t {nx:=fun _ H'=>Q .cM H',rt:=Q} (start N vs) H):gQ P w K mg base xV (k+1) f fd ps sp:=by
 obtain⟨oc,od,kV,doc,pm,an,cdv,ct,osl,rfl,lk,hcd⟩:=F.ex;refine Tr lk hcd S len fun A outer s H vs Q E hr Pw=>?_;obtain⟨t,h,q⟩:=hbody cdv A outer s H vs Q E hr Pw;exact⟨t,h.L7,q⟩
def Je.binds {f:Addr}(F:Je K x qual st f fd)
  (h:∀(kV doc pm:Value) (an:BBN) (cdv ct:Value) (us:AAL),us.length=ps.length->bindArgs (PySem.W.fnOf x qual (nA st) (fE st) (aJ st) .none kV doc pm an cdv ct) ⟨us,[]⟩=pure (ps.zip us)):Binds K fd ps []:=by
 obtain⟨oc,od,kV,doc,pm,an,cdv,ct,osl,rfl,lk,hcd⟩:=F.ex;exact .all (h kV doc pm an cdv ct)
def Hf {f:Addr}{oc:Value}{od an:BBN}{osl:Array (BBP)}{kV doc pm cdv ct:Value}(l:K.lookup f=some ⟨oc,od,.func (PySem.W.fnOf x qual (nA st) (fE st) (aJ st) .none kV doc pm an cdv ct),osl⟩)
  (c:PySem.W.codeIn K cdv qual=true) (k:PySem.W.keepIn K (.ref f)=true):Je K x qual st f (PySem.W.fnOf x qual (nA st) (fE st) (aJ st) .none kV doc pm an cdv ct):=⟨⟨oc,od,kV,doc,pm,an,cdv,ct,osl,rfl,l,c⟩,k⟩
end
def vW {A:Around}(hr:dM k A):A.units+20 < cLine:=Nat.lt_of_le_of_lt (Nat.add_le_add_left (by decide:20<=64) _) hr.units
section
variable {X:Cx}
def KS:jK X (.builtin "len") (fun xs H Q=>∃a kvs,xs=[V.ref a]/\H a=some (.dK kvs)/\Q (.int kvs.length) H):=by
 intro pins s σ H xs us Q I r h;obtain⟨a,kvs,rfl,ha,q⟩:=h;obtain⟨u,rfl,ru⟩:=vals1 r;cases ru;exact Yn I (.inl ha) fun t s' I'=>⟨.int kvs.length,H,I',⟨t,rfl⟩,q⟩
end
def Fd {A B:Prop}(h:B):if false=true then A else B:=by
 rw[if_neg aeh];exact h
def Fe {A B:Prop}(h:A):if true=true then A else B:=by
 rw[if_pos rfl];exact h
def sO.YC {h:Heap}{a:Addr}{o:HO}(x:sO P w H h) (hn:H a=none) (new:g7 P w (upd H a o) h a o):sO P w (upd H a o) h:=fun b u e=>by
 by_cases hb:b=a
 ·subst hb;rw[aY] at e;cases e;exact new
 ·rw[aX hb] at e;exact(x b u e).stay (fun c v _ q=>q) (fun c q=>by rw[aX (cD q hn)];exact q) fun c xs q=>by rw[aX (cD q hn)];exact q
noncomputable def lK (X:Cx) (N':BBB) (scope:Scope) (cl:List (Str×Addr)) (C:Addr) (s:Shared) (H:Hp) (fp:BBE):Cx:=
 {X with N:=N',s₀:=s,H₀:=H,env:=compEnvC scope cl C X.env,outer:=X.stack,stack:=X.stack,ex:=fp,fn:=fun _=>false,pn:=[],xe:=fun _ _=>False}
noncomputable def oq (cap:BBJ) (σ:St):St:=cap.map fun i=>(σ[i]?).join
structure nB (X:Cx) (x:Str) (m9:BBB) (cap:BBJ) (scope:Scope) (cl:List (Str×Addr)):Prop where
 clos:closureFor scope X.env=pure cl
 yZ:∀y∈scope.names,y.2≠.cell
 kind:scope.kind= .function
 names:∀y∈scope.names,y.2= .local->scope.names.lookup y.1=some .local
 loc:scope.names.lookup x=some .local
 cells:∀n c,cl.lookup n=some c->X.env.cells.lookup n=some c
 has:∀n,((relabel scope X.env).names.lookup n=some .cell\/(relabel scope X.env).names.lookup n=some .free)->∃c,cl.lookup n=some c
 nd:(x :: m9).Nodup
 len:cap.length=m9.length
 slot:∀(j:Nat) n,m9[j]? =some n->∃i:Nat,cap[j]? =some i/\X.N[i]? =some n/\xN X.env.scope n
 vis:∀n,n∈m9->((relabel scope X.env).names.lookup n=some .cell\/(relabel scope X.env).names.lookup n=some .free)/\(∃c,cl.lookup n=some c)/\X.env.scope.names.lookup n≠some .local
def tLC (wi:TI) (cap:BBJ) (tc:TT) (te:TE):TE:=fun σ H Q=>wi σ H fun J H1=>∃W:Nat->Nat->List V->Hp->Prop,(∃m,W 0 m [] H1)/\∀i m ys H,W i m ys H->ys.length < sizeLine/\
  ((J.stop i H/\∀p,H p=none->Q (.ref p) (upd H p (.lst ys)))\/
   (J.go i H/\∀x H',J.Tj i H x H'->tc (some x :: oq cap σ) H' fun b H2=>if b=true then te (some x :: oq cap σ) H2 fun y H3=>∃m',m' < m/\W (i+1) m' (ys++[y]) H3 else ∃m',m' < m/\W (i+1) m' ys H2))
def acd:TT:=fun _ H Q=>Q true H
def U6 (X:Cx) (ifs:BBC) (tc:TT):Prop:=
 ∀(pins:AAG) (s:Shared) (σ:St) (H:Hp) (Q:Bool->Hp->Prop),Inv X pins σ H s->tc σ H Q->
  wpAny (model X.prog X.w) X.A (forIn ifs true fun c r=>if r=true then do let ok <-isTrue c X.env (eval c X.env);pure (ForInStep.yield ok) else pure (ForInStep.yield r)) (TP X pins σ Q) X.xe s
def Qs :U6 X [] acd:=fun pins s σ H Q I h=>wpAny_tests_nil ⟨H,I,h⟩
def Qt {c:Expr}(h:PT X c tc):U6 X [c] tc:=fun pins s σ H Q I q=>wpAny_tests_one (h pins s σ H Q I q)
def U7 (ys:AAL) (y:Value):({cls:=.type "list",data:=.seq (ys.toArray.push y) (ys.length+1)}:Obj)={cls:=.type "list",data:=.seq (ys++[y]).toArray (ys++[y]).length}:=by
 rw[aaB,acD,List.push_toArray]
def MR {s s4:Shared}{C:Addr}{fp:BBE}{m':AAF}
  (I:Inv X pins σ H s) (T:nB X x m9 cap scope cl) (hfp:∀b∈fp,xR X pins H b) (hfo:∀b∈fp,∃o,s.heap.get? b=some o)
  (hC:s.heap.objs.size<=C) (hns:s4.heap.Ns C m') (hos:s4.os=s.os) (hg:s4.gens=s.gens)
  (kept:∀b o,s.heap.get? b=some o->s4.heap.get? b=some o):
  Inv (lK X (x :: m9) scope cl C s H fp) [] (none :: oq cap σ) H s4:=by
 have fr:∀b,s.heap.objs.size<=b->H b=none:=fun b hb=>I.hok.fresh hb;refine⟨⟨I.ok.mod,T.kind,I.ok.glob,I.ok.blt,hC,fun y z c h1 h2=>I.ok.inj y z c (T.cells _ _ h1) (T.cells _ _ h2),fun y hy=>T.has y hy,fun y c h=>(by cases h),I.ok.hd,I.ok.frames,.inl rfl,fun b hb=>⟨?_,fun y c e z=>?_⟩,I.bs,aaA I.ok.L6 I.sz,fun b o e hb=>?_,fun b hb z=>?_,I.stack,I.ve⟩,
  hos,by rw[hg];exact I.bare,Un.kept kept,⟨m',hns,fun i y v h1 h2 h3=>?_⟩,fun y c h=>?_,fr C hC,fun y c h=>I.n8 y c (T.cells _ _ h),fun p hp=>?_,I.hok.kept kept,?_⟩
 ·obtain⟨o,e⟩:=hfo b hb;exact abr (aau (aaq e) hC)
 ·exact(hfp b hb).2.2.2.2.1 y c (T.cells _ _ e) z
 ·rcases(hfp b hb).2.2.2.1 with z | z
  ·exact I.ok.EY b o e z
  ·exact absurd (aau (aaq e) (aaA I.ok.L6 z)) (acy _)
 ·rcases aao.mp (I.DA b z) with q | q
  ·exact(hfp b hb).2.1 q
  ·exact(hfp b hb).2.2.1 q
 ·cases i with
  | zero=>cases h2
  | succ j=>
   have h1:m9[j]? =some y:=by simpa[lK] using h1
   have h2:(oq cap σ)[j]? =some (some v):=by simpa using h2
   obtain⟨i,e1,e2,e3⟩:=T.slot j y h1;have e4:σ[i]? =some (some v):=by
    unfold oq at h2;rw[abi,e1] at h2;have h2:some ((σ[i]?).join)=some (some v):=h2;have h2:=abh h2;cases q:σ[i]? with
    | none=>rw[q] at h2;cases h2
    | some o=>rw[q] at h2;cases h2;rfl
   obtain⟨m,hn,hl⟩:=I.loc;obtain⟨u,r,l⟩:=hl i y v e2 e4 e3;obtain⟨k1,⟨c,hc⟩,k3⟩:=T.vis y (ach h1);refine⟨u,r,.inr ⟨k1,c,hc,?_⟩⟩;rcases l with⟨hk,_⟩ | ⟨hk,c',hc',z⟩
   ·exact absurd hk k3
   ·rw[T.cells _ _ hc] at hc';cases hc';obtain⟨o,ho,hd⟩:=z;exact⟨o,kept _ _ ho,hd⟩
 ·obtain⟨v,o,ho,hd⟩:=I.cell y c (T.cells _ _ h);exact⟨v,o,kept _ _ ho,hd⟩
 ·exact absurd (show p∈([]:AAG) from hp) (by simp)
 ·show(none :: oq cap σ).length=(x :: m9).length;simp[oq,T.len]
def y9 (P:Program) (w:World) (A:Around) (env:Env) (R:Result->Shared->Prop):Value->Shared->Prop:=notedBy (model P w) A env fun e s'=>R (.error e) s'
theorem DN {A:Around}{R:Result->Shared->Prop}{s:Shared}{tg:Expr}{it acc:Value}{env:Env}(J:Nat->Shared->Prop)
  (turn:∀n s,J n s->wpAny (model P w) A (pyNext it) (fun r s1=>match r with
   | none=>R (.ok .next) s1
   | some v=>wpAny (model P w) A (letOwnedTupleGo tg it v) (fun _ s1=>wpAny (model P w) A (assign tg env v) (fun _ s2=>
     wpAny (model P w) A (forIn ifs true fun c r=>if r=true then do let ok <-isTrue c env (eval c env);pure (ForInStep.yield ok) else pure (ForInStep.yield r)) (fun ok s3=>
      if ok=true then wpAny (model P w) A (eval elt env) (fun x s4=>wpAny (model P w) A (call (.builtin "list.append") [acc,x]) (fun _ s5=>∃m,m < n/\J m s5) (y9 P w A env R) s4) (y9 P w A env R) s3
      else ∃m,m < n/\J m s3) (y9 P w A env R) s2) (y9 P w A env R) s1) (y9 P w A env R) s1) (y9 P w A env R) s)
  (n:Nat) (h:J n s):codeAny (model P w) A (.compLoop (.ListComp elt [⟨tg,iter,ifs,0⟩] scope pos) 0 it acc env) R s:=by
 refine codeAny_loop rfl J (fun n s hJ=>?_) n h;show wpAny _ A ((compTurn (.ListComp elt [⟨tg,iter,ifs,0⟩] scope pos) 0 it acc env).onRaise (fun x=>do noteFrame x env;theTreesLotGoes x)) _ _ s;refine wpAny_noted ?_;rw[compTurn_list];refine aae (afH (aae (aat (turn n s hJ) (fun r s1 k1=>?_) fun _ _ z=>z)));cases r with
 | none=>exact aah k1
 | some v=>
  refine aae (aat k1 (fun _ s1 k1=>?_) fun _ _ z=>z);refine aae (aat k1 (fun _ s2 k2=>aae (aat k2 (fun ok s3 k3=>?_) fun _ _ z=>z)) fun _ _ z=>z);cases ok with
  | false=>exact aah ⟨rfl,k3⟩
  | true=>exact aae (aae (aat k3 (fun x s4 k4=>aae (aat k4 (fun _ s5 k5=>aah (aah ⟨rfl,k5⟩)) fun _ _ z=>z)) fun _ _ z=>z))
inductive CompI (Y:Cx) (Z:St->Prop) (tn:Nat->Heap->Prop) (fp:BBE) (D:Addr) (W:Nat->Nat->List V->Hp->Prop) (n:Nat) (s':Shared):Prop
 | mk (i:Nat) (ys:List V) (us:AAL) (H':Hp) (z:St) (hz:Z z) (I:Inv Y [] z H' s') (st:tn i s'.heap) (fr:∀b∈fp,H' b=none) (d:H' D=none) (a:s'.heap.get? D=some {cls:=.type "list",data:=.seq us.toArray us.length}) (v:Vals ys us) (w:W i n ys H')
def Ff {tg:Expr}{N:BBB}{s:Shared}{z0:St}{Q:VK}{Z:St->Prop}{pt:V->Hp->St->Prop}{R:It->Hp->Prop}
    (T:nB X x m9 cap scope cl) (hc:X.calm=true) (hi:PI X tg iter wi)
    (ht:∀C s H fp,U6 (lK X N scope cl C s H fp) ifs tc) (he:∀C s H fp,PE (lK X N scope cl C s H fp) elt te)
    (hs:∀x,foldedSetIterable iter X.env x=pure x) (I:Inv X pins σ H s) (h:wi σ H R)
    (hR:∀J H1,R J H1->∃W:Nat->Nat->List V->Hp->Prop,(∃m,W 0 m [] H1)/\∀i m ys H,W i m ys H->ys.length < sizeLine/\
      ((J.stop i H/\∀p,H p=none->Q (.ref p) (upd H p (.lst ys)))\/
       (J.go i H/\∀x H',J.Tj i H x H'->∃z,pt x H' z/\tc z H' fun b H2=>if b=true then te z H2 fun y H3=>∃m',m' < m/\W (i+1) m' (ys++[y]) H3 else ∃m',m' < m/\W (i+1) m' ys H2)))
    (hZ:Z z0) (hI:∀{s s4:Shared}{H:Hp}{C:Addr}{fp:BBE}{m':AAF},Inv X pins σ H s->(∀b∈fp,xR X pins H b)->(∀b∈fp,∃o,s.heap.get? b=some o)->s.heap.objs.size<=C->s4.heap.Ns C m'->s4.os=s.os->s4.gens=s.gens->(∀b o,s.heap.get? b=some o->s4.heap.get? b=some o)->Inv (lK X N scope cl C s H fp) [] z0 H s4)
    (hG:∀{Y:Cx}{C:Addr}{z z':St}{xv:V}{H:Hp},Y.N=N->Y.env=compEnvC scope cl C X.env->Y.K=X.K->Y.calm=true->Z z->pt xv H z'->Z z'/\∃g,PG Y tg g/\g xv z H fun σ' H'=>σ'=z'/\H'=H)
    (hend:∀(D C:Addr) (s7:Shared) (H6:Hp) (ys:List V),Inv X pins σ (upd H6 D (.lst ys)) s7->(∃m,s7.heap.Ns C m)->xR X pins (upd H6 D (.lst ys)) C->Q (.ref D) (upd H6 D (.lst ys))->compPost (model X.prog X.w) X.A X.xe use Qf (.ref D) C (.ok .next) s7):
    wpAny (model X.prog X.w) X.A (comprehension (.ListComp elt [⟨tg,iter,ifs,0⟩] scope pos) scope X.env pos2 (newList []) false (eval iter X.env) use) Qf X.xe s:=by
  refine wpAny_comprehension_free (use:=use) rfl hs T.clos T.kind T.names (dN (hi pins s σ H _ I h) fun v s1 h1=>dN h1 fun itv s2 h2=>ace fun ng=>?_);obtain⟨it,fp,tn,J,H2,rfl,I2,Qu,st2,f2,hJ⟩:=h2;obtain⟨W,⟨m0,w0⟩,turn⟩:=hR J H2 hJ;refine ng (abN (wpAny_newFunctionEnv T.yZ (by intro y hy;simp at hy) (fun h4 Qv MS=>?_) T.kind));clear ng;dsimp only at Qv MS ⊢;generalize hH3:s2.heap.push {cls:=.type "list",dict:=none,data:=.seq ([]:AAL).toArray}=H3 at Qv MS ⊢;have eC:H3.objs.size=s2.heap.objs.size+1:=by rw[<-hH3,afB]
  generalize eC':H3.objs.size=C at eC Qv MS ⊢;generalize eD:s2.heap.objs.size=D at eC ⊢;have YE:C=D+1:=eC;have hDC:D≠C:=by rw[YE];exact abr (afO D)
  have hC:s2.heap.objs.size<=C:=by rw[eD,YE];exact afZ D
  have hD:s2.heap.objs.size<=D:=by rw[eD];exact aap D
  have kept:∀b o,s2.heap.get? b=some o->h4.get? b=some o:=fun b o e=>MS.extBut b o (abr (aau (aaq e) hC)) (aan _ (hH3▸aan _ e));have hacc:h4.get? D=some {cls:=.type "list",data:=.seq ([]:AAL).toArray ([]:AAL).length}:=MS.extBut _ _ hDC (aan _ (hH3▸eD▸aa5 _ rfl));have fo2:∀b∈fp,∃o,s2.heap.get? b=some o:=fun b hb=>let⟨o,e,_⟩:=Qu.obj _ _ st2 b hb;⟨o,e⟩
  have hDf:D∉fp:=fun hb=>by
    obtain⟨o,e⟩:=fo2 D hb;exact absurd (aau (aaq e) hD) (acy _)
  have YF:tn 0 h4:=Qu.keep _ _ _ st2 fun b _ o e=>kept b o e;have key:∀s5:Shared,s5={s2 with heap:=h4,toks:=s2.toks+([]:List (Str×Value)).length}->
      codeAny (model X.prog X.w) X.A (.compLoop (.ListComp elt [⟨tg,iter,ifs,0⟩] scope pos) 0 (.ref it) (.ref D) (compEnvC scope cl C X.env)) (compPost (model X.prog X.w) X.A X.xe use Qf (.ref D) C) s5:=by
    rintro s5 rfl;have I4:Inv (lK X N scope cl C s2 H2 fp) [] z0 H2 {s2 with heap:=h4,toks:=s2.toks+([]:List (Str×Value)).length}:=
      hI (s4:={s2 with heap:=h4,toks:=s2.toks+([]:List (Str×Value)).length}) I2 f2 fo2 hC Qv rfl rfl kept
    generalize hY:lK X N scope cl C s2 H2 fp=Y at I4;have fD:∀{H':Hp},H' D=none->xR Y [] H' D:=fun {H'} hn=>by
      subst hY;refine⟨hn,hDC,fun z=>(aao.mp (I2.DA D z)).elim (fun q=>absurd (aau (q▸I2.lt) hD) (acy _)) fun q=>I2.XS hD q,.inr hD,fun y c e z=>?_,fun p hp=>absurd (show p∈([]:AAG) from hp) (by simp)⟩;obtain⟨v,q⟩:=I2.cell y c (T.cells _ _ e);exact absurd (aau q.lt (by rw[z];exact hD)) (acy _)
    have exY:fp=Y.ex:=hY▸rfl;have pnY:Y.pn++([]:AAG)=[]:=hY▸rfl;have fF:∀{H':Hp},(∀b∈fp,H' b=none)->∀b∈fp,xR Y [] H' b:=fun {H'} hn b hb=>by
      have q:=I4.ok.Xk b (exY▸hb);exact⟨hn b hb,fun z=>q.1 z,I4.ok.EZ b (exY▸hb),.inl (exY▸hb),fun y c e z=>q.2 y c e z,fun p hp=>absurd (pnY▸hp) (by simp)⟩
    have eA:Y.A=X.A:=hY▸rfl;have eP:Y.prog=X.prog:=hY▸rfl;have eW:Y.w=X.w:=hY▸rfl;have eK:Y.K=X.K:=hY▸rfl;have eE:Y.env=compEnvC scope cl C X.env:=hY▸rfl;have eX:Y.xe=fun _ _=>False:=hY▸rfl;have eN:Y.N=N:=hY▸rfl;have hcY:Y.calm=true:=hY▸hc;have htY:U6 Y ifs tc:=hY▸ht _ _ _ _;have heY:PE Y elt te:=hY▸he _ _ _ _;have Hg:∀(E':AAE) (e:Value) (s':Shared),Y.xe e s'->E' e s':=fun E' e s' z=>by rw[eX] at z;exact z.elim
    refine DN (CompI Y Z tn fp D W) ?_ m0
      ⟨0,[],[],H2,z0,hZ,I4,YF,fun b hb=>(f2 b hb).1,I2.hok.fresh hD,hacc,.nil,w0⟩
    rintro n s6 ⟨i,ys,us,H6,z6,hz6,I6,st6,fr6,d6,a6,v6,w6⟩;refine ace fun ng=>?_;have hul:us.length=ys.length:=v6.length.symm;obtain⟨hz,YG⟩:=turn i n ys H6 w6;have fF':∀{H':Hp},(∀b∈fp,H' b=none)->∀b∈fp,xR Y ([]++tU [D] s6.heap) H' b:=fun {H'} hn b hb=>by
      obtain⟨f0,f1,f2',f3,f4,f5⟩:=fF hn b hb;refine⟨f0,f1,f2',f3,f4,fun p hp z=>?_⟩;rcases abP.mp hp with q' | q'
      . exact f5 p (abV _ q') z
      . rcases abP.mp q' with q' | q'
        . exact absurd q' (by simp)
        . have:=(CG q').1
          rw[aav.mp this] at z;exact hDf (z▸hb)
    rcases YG with⟨stop,qn⟩ | ⟨go,step⟩
    . have I6p:=I6.pinned (fp:=[D]) (fun b hb=>by rw[aav.mp hb];exact fD d6) (fun b hb=>by rw[aav.mp hb];exact⟨_,a6,fun v z=>by cases z⟩)
      have q:=Qu.done Y eP eW eK hcY i _ s6 z6 H6 (notedBy (model X.prog X.w) X.A (compEnvC scope cl C X.env) fun e s'=>compPost (model X.prog X.w) X.A X.xe use Qf (.ref D) C (.error e) s') I6p (fF' fr6) st6 stop;rw[eA] at q;refine ng (dN q fun r s7 hh=>?_);obtain⟨hr,I7⟩:=hh;subst hr;have a7:s7.heap.get? D=_:=(I7.pin (D,{cls:=.type "list",data:=.seq us.toArray us.length}) (aaw _ (aaw _ (iu (aav.mpr rfl) a6)))).1;obtain⟨m7,hn7,_⟩:=I7.loc;rw[eE] at hn7;have YH:H6 D=none:=d6;have hCn:H6 C=none:=by have:=I7.free;rw[eE] at this;exact this
      have acj:sO X.prog X.w H6 s7.heap:=by have q:=I7.hok;rw[eP,eW] at q;exact q
      have new:g7 X.prog X.w (upd H6 D (.lst ys)) s7.heap D (.lst ys):=⟨afj hz,us,us.length,v6,a7⟩
      have u7:Un (frs X.stack) fp H2 H6 s2.heap s7.heap:=by have:=I7.base;rw[<-hY] at this;exact this
      have neD:∀b o,s2.heap.get? b=some o->b≠D:=fun b o e=>abr (aau (aaq e) hD);have u8:Un (frs X.stack) fp H2 (upd H6 D (.lst ys)) s2.heap s7.heap:=
        ⟨u7.keep,u7.slot,fun b o e n hx=>by rw[aX (neD b o e)];exact u7.free b o e n hx,u7.there,
         fun b xs e=>by have z:=u7.tups b xs e;rw[aX (cD z YH)];exact z,fun b o u e=>by have z:=u7.Al b o u e;rw[aX (cD z YH)];exact z,
         fun b ps e=>by obtain⟨more,z⟩:=u7.A2 b ps e;exact⟨more,by rw[aX (cD z YH)];exact z⟩⟩
      have os7:s7.os=s2.os:=by have:=I7.os;rw[<-hY] at this;exact this
      have I9:Inv X pins σ (upd H6 D (.lst ys)) s7:=I2.Tg (ch:=fp) os7 u8 (acj.YC YH new) I7.bare fun b hb=>⟨(f2 b hb).2.2.2.1,(f2 b hb).2.1,(f2 b hb).2.2.2.2.1,(f2 b hb).2.2.2.2.2⟩
      exact hend D C s7 H6 ys I9 ⟨m7,hn7⟩ (I2.Mu hC (by rw[aX (acz hDC)];exact hCn)) (qn D YH)
    . have I6p:=I6.pinned (fp:=[D]) (fun b hb=>by rw[aav.mp hb];exact fD d6) (fun b hb=>by rw[aav.mp hb];exact⟨_,a6,fun v z=>by cases z⟩)
      have q:=Qu.item Y eP eW eK hcY i _ s6 z6 H6 (notedBy (model X.prog X.w) X.A (compEnvC scope cl C X.env) fun e s'=>compPost (model X.prog X.w) X.A X.xe use Qf (.ref D) C (.error e) s') I6p (fF' fr6) st6 go;rw[eA] at q;refine ng (dN q fun r s6' hh=>ace fun ng=>?_);obtain⟨u,hr,h7⟩:=hh;subst hr;refine ng (dN h7 fun _ s7 hh=>ace fun ng=>?_);obtain⟨xv,H8,I8,r8,y8,st8,fr8⟩:=hh;have I8':=I8.pinned (fF' fr8) (Qu.obj _ _ st8);obtain⟨z8,p8,stp⟩:=step xv _ y8;obtain⟨hz8,g,hgY,gx⟩:=hG eN eE eK hcY hz6 p8;have qa:=hgY _ s7 z6 H8 xv u (fun σ' H'=>σ'=z8/\H'=H8) I8' r8 gx;rw[eP,eW,eA,eE] at qa;refine ng (aat qa (fun _ s9 h9=>ace fun ng=>?_) (Hg _));obtain⟨YI,H9,I9,e9,e9'⟩:=h9;subst e9 e9';have qt:=htY _ s9 _ _ _ I9 stp;rw[eP,eW,eA,eE] at qt;refine ng (aat qt (fun ok s10 h10=>?_) (Hg _));obtain⟨H10,I10,q10⟩:=h10;have back:∀{s':Shared}{H':Hp},Inv Y (([]++tU [D] s6.heap)++tU fp s7.heap) YI H' s'->Inv Y [] YI H' s'/\tn (i+1) s'.heap/\(∀b∈fp,H' b=none)/\H' D=none/\s'.heap.get? D=some {cls:=.type "list",data:=.seq us.toArray us.length}:=fun {s' H'} J=>by
        refine⟨J.n9.n9,Qu.keep _ _ _ st8 fun b hb o e=>(J.pin (b,o) (aaw _ (aaw _ (iu hb e)))).1,fun b hb=>?_,?_,?_⟩
        . obtain⟨o,e,d⟩:=Qu.obj _ _ st8 b hb
          exact(J.pin (b,o) (aaw _ (aaw _ (iu hb e)))).2.1
        . exact(J.pin (D,_) (aaw _ (abV _ (aaw _ (iu (aav.mpr rfl) a6))))).2.1
        . exact(J.pin (D,_) (aaw _ (abV _ (aaw _ (iu (aav.mpr rfl) a6))))).1
      cases ok with
      | false=>
        rw[if_neg (by decide)] at q10 ⊢;obtain⟨m',hm,w10⟩:=q10;obtain⟨b1,b2,b3,b4,b5⟩:=back I10;exact⟨m',hm,i+1,ys,us,H10,YI,hz8,b1,b2,b3,b4,b5,v6,w10⟩
      | true=>
        rw[if_pos rfl] at q10 ⊢;have qe:=heY _ s10 _ _ _ I10 q10;rw[eP,eW,eA,eE] at qe;refine aat qe (fun y s11 h11=>?_) (Hg _);obtain⟨yv,H11,I11,r11,m',hm,w11⟩:=h11;obtain⟨b1,b2,b3,b4,b5⟩:=back I11;refine append_at (hsz:=by rw[aam,hul];exact afj hz) b5 fun h12 aco acp=>?_;have k12:∀b o,b≠D->s11.heap.get? b=some o->h12.get? b=some o:=fun b o hb e=>aco.extBut b o hb e;obtain⟨g0,g1,g2,g3,g4,g5⟩:=fD b4;have I12:Inv Y [] YI H11 {s11 with heap:=h12}:=b1.turned (t':=s11.toks) k12 g0 g1 g3 g4 g5;refine⟨m',hm,i+1,ys++[yv],us++[y],H11,YI,hz8,I12,Qu.keep _ _ _ b2 fun b hb o e=>k12 b o (fun z=>hDf (z▸hb)) e,b3,b4,acp.trans (congrArg some (U7 us y)),v6.append (.cons r11 .nil),w11⟩
  exact codeAny_compStart_list (key _ rfl) (Qu.self _ 0 _ _ _ YF (key _ rfl))
def Hh {s:Shared}{Q:VK}
  (T:nB X x m9 cap scope cl) (hc:X.calm=true) (hi:PI X (.Name x px) iter wi)
  (ht:∀C s H fp,U6 (lK X (x :: m9) scope cl C s H fp) ifs tc) (he:∀C s H fp,PE (lK X (x :: m9) scope cl C s H fp) elt te)
  (hs:∀x,foldedSetIterable iter X.env x=pure x) (I:Inv X pins σ H s) (h:tLC wi cap tc te σ H Q)
  (hend:∀(D C:Addr) (s7:Shared) (H6:Hp) (ys:List V),Inv X pins σ (upd H6 D (.lst ys)) s7->(∃m,s7.heap.Ns C m)->xR X pins (upd H6 D (.lst ys)) C->Q (.ref D) (upd H6 D (.lst ys))->compPost (model X.prog X.w) X.A X.xe use Qf (.ref D) C (.ok .next) s7):
  wpAny (model X.prog X.w) X.A (comprehension (.ListComp elt [⟨.Name x px,iter,ifs,0⟩] scope pos) scope X.env pos2 (newList []) false (eval iter X.env) use) Qf X.xe s:=
 Ff (N:=x :: m9) (z0:=none :: oq cap σ) (Z:=fun z=>∃o,z=o :: oq cap σ) (pt:=fun v _ z=>z=some v :: oq cap σ) T hc hi ht he hs I h
  (fun J H1 ⟨W,w0,t⟩=>⟨W,w0,fun i m ys H w=>⟨(t i m ys H w).1,(t i m ys H w).2.imp id fun⟨g,k⟩=>⟨g,fun v H' y=>⟨_,rfl,k v H' y⟩⟩⟩⟩) ⟨none,rfl⟩ (fun I2=>MR I2 T)
  (by
   rintro Y C _ _ xv H eN eE _ _ ⟨o,rfl⟩ rfl;exact⟨⟨_,rfl⟩,IK 0,IL (by rw[eN];exact T.nd) (by rw[eN];rfl) (by rw[eE];exact .inl (lookup_relabel_local T.loc)) (.inr (by rw[eE];exact lookup_relabel_local T.loc)),rfl,rfl⟩) hend
def MT 
  (T:nB X x m9 cap scope cl) (hc:X.calm=true) (hi:PI X (.Name x px) iter wi)
  (ht:∀C s H fp,U6 (lK X (x :: m9) scope cl C s H fp) ifs tc) (he:∀C s H fp,PE (lK X (x :: m9) scope cl C s H fp) elt te)
  (hs:∀x,foldedSetIterable iter X.env x=pure x:=by intro _;rfl):
  PE X (.ListComp elt [⟨.Name x px,iter,ifs,0⟩] scope pos) (tLC wi cap tc te):=by
 intro pins s σ H Q I h;rw[eval_ListComp];refine Hh T hc hi ht he hs I h ?_;rintro p C s7 H6 ys I9 ⟨m7,hn7⟩ ⟨g0,g1,g2,g3,g4,g5⟩ q;exact⟨m7,hn7,fun h' hs'=>⟨.ref p,_,I9.turned (t':=s7.toks) (fun b o hb e=>hs'.extBut b o hb e) g0 g1 g3 g4 g5,rfl,q⟩⟩
noncomputable def Its (z:Str):It:=⟨fun i _=>i < z.cps.size,fun i H x H'=>H'=H/\∃c,z.cps[i]? =some c/\x= .str ⟨#[c]⟩,fun i _=>z.cps.size<=i⟩
def MU (z:Str) (it:Addr) (t:Tok) (ty:String) (hW:∀A':Around,A'.handled=none->Walks P w A' it [it] [it] z.cps.size (SignAt z) fun i h=>h.IsStrIter it ty z t i)
  (hself:∀(A:Around) (i:Nat) (s:Shared) (Q:AAE) (E:AAE),s.heap.IsStrIter it ty z t i->Q (.ref it) s->wpAny (model P w) A (pyIter (.ref it)) Q E s):
  Turn P w K (.Name x px) (Its z) [it] it (fun i h=>i<=z.cps.size/\h.IsStrIter it ty z t i) where
 mem:=by simp
 obj:=fun i h st b hb=>by
  obtain rfl:b=it:=by simpa using hb
  obtain⟨o,e,c,d⟩:=st.2;exact⟨o,e,fun v q=>by rw[d] at q;cases q⟩
 keep:=fun i h h' st k=>by
  obtain⟨o,e,r⟩:=st.2;exact⟨st.1,o,k it (by simp) o e,r⟩
 item:=by
  intro X hP hw hK hc i pins s σ H E I hf st hg;subst hP hw hK;obtain⟨f0,f1,f2,f3,f4,f5⟩:=hf it (by simp);refine(hW X.A (I.ok.hd hc)).item i s _ _ hg st.2 fun v h' tk hv st' kk=>?_;obtain⟨c,u,hc',rfl⟩:=hv;exact⟨_,rfl,aah ⟨.str ⟨#[c]⟩,H,I.turned (fun b o hb e=>kk b o (by simpa using hb) e) f0 f1 f3 f4 f5,⟨u,rfl⟩,⟨rfl,c,hc',rfl⟩,⟨hg,st'⟩,fun b hb=>(hf b hb).1⟩⟩
 done:=by
  intro X hP hw hK hc i pins s σ H E I hf st hg;subst hP hw hK;obtain⟨f0,f1,f2,f3,f4,f5⟩:=hf it (by simp);obtain⟨s1,s2⟩:=st;have e:i=z.cps.size:=Nat.le_antisymm s1 hg;subst e;exact(hW X.A (I.ok.hd hc)).done s _ _ s2 fun h' tk kk=>⟨rfl,I.turned (fun b o hb e=>kk b o (by simpa using hb) e) f0 f1 f3 f4 f5⟩
 self:=fun A i s Q E st h=>hself A i s Q E st.2 h
def acr (tl:TE):TI:=fun σ H R=>tl σ H fun x H1=>∃z,x= .str z/\R (Its z) H1
def U8 {l:Expr}{tl:TE}(hl:PE X l tl):PI X (.Name x px) l (acr tl):=by
 intro pins s σ H R I h;refine dN (hl pins s σ H _ I h) fun v s1 hh=>?_;obtain⟨y,H1,I1,r1,q1⟩:=hh;obtain⟨z,rfl,q⟩:=q1;obtain⟨t,rfl⟩:=r1;refine wpAny_pyIter_strU ?_;have hst:∀ty,strIterType z=ty->(s1.heap.push {cls:=.type (strIterType z),data:=.fields #[.str z t,.int 0 0]}).IsStrIter s1.heap.objs.size ty z t 0:=fun ty e=>⟨_,aa5 _ rfl,by rw[<-e],rfl⟩
 have go:∀ty,strIterType z=ty->(∀A':Around,A'.handled=none->Walks X.prog X.w A' s1.heap.objs.size [s1.heap.objs.size] [s1.heap.objs.size] z.cps.size (SignAt z) fun i h=>h.IsStrIter s1.heap.objs.size ty z t i)->
   (∀(A:Around) (i:Nat) (s:Shared) (Q:AAE) (E:AAE),s.heap.IsStrIter s1.heap.objs.size ty z t i->Q (.ref s1.heap.objs.size) s->wpAny (model X.prog X.w) A (pyIter (.ref s1.heap.objs.size)) Q E s)->
   PIE X pins σ (.Name x px) R (.ref s1.heap.objs.size) {s1 with heap:=s1.heap.push {cls:=.type (strIterType z),data:=.fields #[.str z t,.int 0 0]}}:=fun ty e hW hself=>by
  refine⟨s1.heap.objs.size,[s1.heap.objs.size],_,_,H1,rfl,I1.kept (t':=s1.toks) fun b o e=>aan _ e,MU z _ t ty hW hself,⟨acI _,hst ty e⟩,fun b hb=>?_,q⟩;obtain rfl:b=s1.heap.objs.size:=by simpa using hb
  exact I1.Mu (aap _) (I1.hok.fresh (aap _))
 cases ha:z.cps.all (· < 128)
 ·exact go "str_iterator" (by simp[strIterType,ha]) (fun A' hA=>Walks.strWide hA _ z t) fun A i s Q E st h=>wpAny_pyIter_striter_wide st h
 ·exact go "str_ascii_iterator" (by simp[strIterType,ha]) (fun A' hA=>Walks.strAscii hA _ z t) fun A i s Q E st h=>wpAny_pyIter_striter_ascii st h
def MV {bs:List Bool}:∀{us:AAL},Vals (bs.map V.bl) us->us=bs.map Value.bool:=by
 induction bs with
 | nil=>intro us r;cases r;rfl
 | cons b bs ih=>
  intro us r;cases r with
  | cons r1 r2=>
   cases r1;rw[ih r2];rfl
def Hi (bs:List Bool):((List.range bs.length).all fun i=>(bs[i]?).getD true)=bs.all id:=by
 rw[Bool.eq_iff_iff,adU,adU];constructor
 ·intro h b hb;obtain⟨i,hi,rfl⟩:=List.mem_iff_getElem.mp hb;have:=h i (af0.mpr hi)
  simpa[hi] using this
 ·intro h i hi;have hi:=af0.mp hi;simp only[abu hi,Option.getD_some];exact h _ (List.getElem_mem hi)
def KU (hc:X.calm=true):jK X (.builtin "all") (fun xs H Q=>∃(p:Addr) (bs:List Bool),xs=[.ref p]/\yV X.K H p (bs.map V.bl)/\Q (.bl (bs.all id)) H):=by
 intro pins s σ H xs us Q I r h;obtain⟨p,bs,rfl,hp,q⟩:=h;obtain⟨u,rfl,ru⟩:=vals1 r;cases ru;obtain⟨its,rv,pl,hz⟩:=I.list hp;obtain rfl:=MV rv;have hlt:p < s.heap.objs.size:=by obtain⟨_,e,_⟩:=pl.isList;exact aaq e
 refine call_all_walk (wpAny_pyIter_list pl.isList ?_);refine⟨s.heap.objs.size,[s.heap.objs.size,p],[s.heap.objs.size],_,_,_,fun i=>(bs[i]?).getD true,rfl,Walks.list (A:=X.A.in1) (I.ok.hd hc) _ p (abr hlt) _,
  ⟨⟨_,aa5 _ rfl,rfl,rfl⟩,pl.isList.push _⟩,fun i v s' Q' E' hP hQ=>?_,fun h' tk hk=>?_⟩
 ·have hP:(bs.map Value.bool)[i]? =some v:=by simpa using hP
  rw[abi] at hP;cases e:bs[i]? with
  | none=>rw[e] at hP;cases hP
  | some b=>
   rw[e] at hP;cases hP;simp only[e,Option.getD_some] at hQ;exact ab7 hQ
 ·have e:((List.range (bs.map Value.bool).toArray.size).all fun i=>(bs[i]?).getD true)=bs.all id:=by
   rw[aam,aas];exact Hi bs
  rw[e];exact⟨.bl (bs.all id),H,I.kept (t':=tk) fun b o e=>hk b o (fun hm=>by rw[aav.mp hm] at e;exact acy _ (aaq e)) (aan _ e),rfl,q⟩
def acs:V->BBM->BBM->Hp->VK->Prop:=fun x lo hi H Q=>∃z,x= .str z/\z.length<=sizeLine/\((Txt.slice z lo hi).length<=z.length->Q (.str (Txt.slice z lo hi)) H)
def U9 :Yt X acs:=by
 intro pins s σ H x v vl vu lo hi sl Q I rx hs pl pu h;obtain⟨z,rfl,hz,q⟩:=h;obtain⟨t,rfl⟩:=rx;have q:=q (afp z _ _);refine⟨"str",_,F.slot_str_getitem.lookup,aeL _ _ _,?_⟩;cases pl with
 | none=>
  cases pu with
  | none=>exact ad7 (l:=none) (u:=none) (st:=none) hs rfl (afq ⟨aaA (afp z _ _) hz,fun t' k=>⟨V.str (Txt.slice z none none),H,I.tok k,⟨t',rfl⟩,q⟩⟩)
  | int j u=>exact ad7 (l:=none) (u:=some (j,u)) (st:=none) hs rfl (afq ⟨aaA (afp z _ _) hz,fun t' k=>⟨V.str (Txt.slice z none (some j)),H,I.tok k,⟨t',rfl⟩,q⟩⟩)
 | int i u'=>
  cases pu with
  | none=>exact ad7 (l:=some (i,u')) (u:=none) (st:=none) hs rfl (afq ⟨aaA (afp z _ _) hz,fun t' k=>⟨V.str (Txt.slice z (some i) none),H,I.tok k,⟨t',rfl⟩,q⟩⟩)
  | int j u=>exact ad7 (l:=some (i,u')) (u:=some (j,u)) (st:=none) hs rfl (afq ⟨aaA (afp z _ _) hz,fun t' k=>⟨V.str (Txt.slice z (some i) (some j)),H,I.tok k,⟨t',rfl⟩,q⟩⟩)
theorem bY.length {H:Hp}:∀{vs:List V}{ds:List D},bY H vs ds->vs.length=ds.length
 | _,_,.nil=>rfl
 | _,_,.cons _ rs=>congrArg Nat.succ (bY.length rs)
theorem bY.get {H:Hp}:∀{vs:List V}{ds:List D}{i:Nat}{d:D},bY H vs ds->ds[i]? =some d->∃v,vs[i]? =some v/\Rep H v d
 | _,_,_,_,.nil,e=>by simp at e
 | _,_,0,_,.cons r _,e=>by simp at e;subst e;exact⟨_,rfl,r⟩
 | _,_,i+1,_,.cons _ rs,e=>by
  obtain⟨v,h1,h2⟩:=bY.get (i:=i) rs (by simpa using e);exact⟨v,by simpa using h1,h2⟩
theorem bY.append {H:Hp}:∀{vs ws:List V}{ds es:List D},bY H vs ds->bY H ws es->bY H (vs++ws) (ds++es)
 | _,_,_,_,.nil,s=>s
 | _,_,_,_,.cons r rs,s=>.cons r (bY.append rs s)
theorem bY.take {H:Hp}:∀{vs:List V}{ds:List D}(n:Nat),bY H vs ds->bY H (vs.take n) (ds.take n)
 | _,_,0,_=>.nil
 | _,_,_+1,.nil=>.nil
 | _,_,n+1,.cons r rs=>.cons r (bY.take n rs)
theorem bY.drop {H:Hp}:∀{vs:List V}{ds:List D}(n:Nat),bY H vs ds->bY H (vs.drop n) (ds.drop n)
 | _,_,0,rs=>rs
 | _,_,_+1,.nil=>.nil
 | _,_,n+1,.cons _ rs=>bY.drop n rs
noncomputable def Va:D->String
 | .cM=>"NoneType" | .bl _=>"bool" | .int _=>"int" | .str _=>"str" | .tup _=>"tuple" | .lst _=>"list"
open PySem.W in
noncomputable def kN (T U:String):Option Bool:=if(Value.type T == Value.type U)=true then some true else if kitMeta U=true then(fastBuiltinMro T).map (·.contains (Value.type U)) else none
noncomputable def MW:D->Bool
 | .tup _=>true
 | _=>false
noncomputable def MX:D->Bool
 | .lst _=>true
 | _=>false
noncomputable def tY:D->Bool
 | .str _=>true
 | _=>false
noncomputable def Tw:D->Bool
 | .bl _=>true
 | _=>false
noncomputable def MY:D->Bool
 | .int _=>true
 | .bl _=>true
 | _=>false
def Qw (d:D):PySem.W.kitOne K (.type (Va d)) (.type "tuple")=some (MW d):=by
 cases d with
 | cM=>exact(show kN "NoneType" "tuple" =some false by decide +kernel)
 | bl b=>exact(show kN "bool" "tuple" =some false by decide +kernel)
 | int i=>exact(show kN "int" "tuple" =some false by decide +kernel)
 | str z=>exact(show kN "str" "tuple" =some false by decide +kernel)
 | tup ds=>exact(show kN "tuple" "tuple" =some true by decide +kernel)
 | lst ds=>exact(show kN "list" "tuple" =some false by decide +kernel)
def Qx (d:D):PySem.W.kitOne K (.type (Va d)) (.type "list")=some (MX d):=by
 cases d with
 | cM=>exact(show kN "NoneType" "list" =some false by decide +kernel)
 | bl b=>exact(show kN "bool" "list" =some false by decide +kernel)
 | int i=>exact(show kN "int" "list" =some false by decide +kernel)
 | str z=>exact(show kN "str" "list" =some false by decide +kernel)
 | tup ds=>exact(show kN "tuple" "list" =some false by decide +kernel)
 | lst ds=>exact(show kN "list" "list" =some true by decide +kernel)
def MZ (d:D):PySem.W.kitOne K (.type (Va d)) (.type "str")=some (tY d):=by
 cases d with
 | cM=>exact(show kN "NoneType" "str" =some false by decide +kernel)
 | bl b=>exact(show kN "bool" "str" =some false by decide +kernel)
 | int i=>exact(show kN "int" "str" =some false by decide +kernel)
 | str z=>exact(show kN "str" "str" =some true by decide +kernel)
 | tup ds=>exact(show kN "tuple" "str" =some false by decide +kernel)
 | lst ds=>exact(show kN "list" "str" =some false by decide +kernel)
def Vb (d:D):PySem.W.kitOne K (.type (Va d)) (.type "bool")=some (Tw d):=by
 cases d with
 | cM=>exact(show kN "NoneType" "bool" =some false by decide +kernel)
 | bl b=>exact(show kN "bool" "bool" =some true by decide +kernel)
 | int i=>exact(show kN "int" "bool" =some false by decide +kernel)
 | str z=>exact(show kN "str" "bool" =some false by decide +kernel)
 | tup ds=>exact(show kN "tuple" "bool" =some false by decide +kernel)
 | lst ds=>exact(show kN "list" "bool" =some false by decide +kernel)
def Qy (d:D):PySem.W.kitOne K (.type (Va d)) (.type "int")=some (MY d):=by
 cases d with
 | cM=>exact(show kN "NoneType" "int" =some false by decide +kernel)
 | bl b=>exact(show kN "bool" "int" =some true by decide +kernel)
 | int i=>exact(show kN "int" "int" =some true by decide +kernel)
 | str z=>exact(show kN "str" "int" =some false by decide +kernel)
 | tup ds=>exact(show kN "tuple" "int" =some false by decide +kernel)
 | lst ds=>exact(show kN "list" "int" =some false by decide +kernel)
end L2
end
section
namespace HT
open PySem PySem.Spec PyProof.Rows
section
variable {prog:Program}{w:World}{A:Around}{E:AAE}{s:Shared}
def KW {t sl:Addr}{items:AAK}{vl vu:Value}{lo hi:BBM}{Q:AAE}(ht:IsTup s.heap t items) (hs:s.heap.IsSliceOf sl vl vu .none) (pl:IsPart vl lo) (pu:IsPart vu hi)
  (hw:iR items.size 0 lo=0/\iR items.size items.size hi=items.size) (h:Q (.ref t) s):wpAny (model prog w) A (getItem (.ref t) (.ref sl)) Q E s:=by
 obtain⟨os,hos,hcs,hds⟩:=id hs;have Ys:s.TypeIs (.ref sl) "slice":=⟨os,hos,hcs⟩
 unfold getItem
 try with_reducible refine abW ?_
 first | refine aae (aah ?_) | skip
 refine aae (afK ht.typeIs (by decide) ?_);refine aae (aeP (name:=Str.ofString "__getitem__") ht.typeIs aa6
  (afQ aa6 ht.typeIs entry_tuple_getitem ?_ (args_tuple_getitem _ _)))
 show wpAny _ _ (Builtin.Tuple.tupleItemsOf (.ref t) >>= _) _ _ s;refine aae (tupleItemsOf_ ht ?_);refine aae (afo Ys ?_);rw[if_pos (by decide)];refine aae (qA hs pl pu ?_);have hyes:(((iR items.size 0 lo:Nat):Int) == 0 && (1:Int) == 1 && (iR items.size items.size hi - iR items.size 0 lo) == items.size)=true:=by
  rw[hw.1,hw.2];simp
 show wpAny _ _ (if(((iR items.size 0 lo:Nat):Int) == 0 && (1:Int) == 1 && (iR items.size items.size hi - iR items.size 0 lo) == items.size)=true then _ else _) _ _ s;rw[if_pos hyes];have hex:∀{α:Type}{k:Bool->Sem α}{Q':α->Shared->Prop}{E':AAE}{A':Around},wpAny (model prog w) A' (k true) Q' E' s->wpAny (model prog w) A' (Builtin.Tuple.tupleIsExact (.ref t) >>= k) Q' E' s:=fun {α k Q' E' A'} hk=>by
  refine aae ?_;unfold Builtin.Tuple.tupleIsExact;exact aae (afo ht.typeIs (aah hk))
 first
  | (refine hex ?_;exact wpAny_rule (aah ⟨_,rfl,aah h⟩))
  | (refine hex ?_;refine aae (wpAny_rule ?_);exact aah ⟨_,rfl,aah h⟩)
end
end HT
end
section
namespace L2
open PySem PySem.Spec PyProof.Rows
variable {scope:Scope}{X:Cx}{x y:V}{K:AAD}{H F1 H1 F' H' H0 F0:Hp}{a p ca cb:Addr}{ns:BBD}{κ α β:Type}{k:Key}{i n:Nat}{o:HO}{B:Base}{S S' S0:SS}{σ:St}{u:U}{Q:VK}{T:String}{op:CmpOp}{q1 q2 q:GT}{r M8:BBC}{ds es:List D}{xs vs:List V}{tg iter:Expr}{bd:GB}{z:Str}{gi:GI}{us ws:List U}{cap:BBJ}{g:GD}{A:Around}{jN cX:AAL}{kvs:List (Key×V)}{Ci:List (Str×GD)}
section

noncomputable def cutD (ds:List D) (lo hi:BBM):List D:=(ds.drop (HT.iR ds.length 0 lo)).take (HT.iR ds.length ds.length hi - HT.iR ds.length 0 lo)
def bY.jh {H:Hp}{vs:List V}{ds:List D}{i:Int}{d:D}(r:bY H vs ds) (h:L2.jh ds i=some d):∃v,L2.jh vs i=some v/\Rep H v d:=by
 have hl:=r.length;unfold L2.jh at h ⊢;rw[hl];cases e:G6 ds.length i with
 | none=>rw[e] at h;cases h
 | some j=>
  rw[e] at h;exact r.get h
end
def Fg {env:Env}{n:Str}{k:NameKind}(h:(relabel scope env).names.lookup n=some k):(n,k)∈(relabel scope env).names:=acq h
def Hj {x:Str}(h1:∀y∈scope.names,y.2≠.free) (h2:∀y∈scope.names,y.2≠.cell) (h3:scope.kind= .function) (h4:∀y∈scope.names,y.2= .local->scope.names.lookup y.1=some .local) (h5:scope.names.lookup x=some .local):
  nB X x [] [] scope []:=by
 refine⟨closureFor_none h1,h2,h3,h4,h5,fun n c h=>(by cases h),fun n h=>?_,by simp,rfl,fun j n h=>(by simp at h),fun n h=>(by simp at h)⟩;have no:∀k,(k=NameKind.cell\/k=NameKind.free)->(relabel scope X.env).names.lookup n≠some k:=fun k hk e=>by
  have m:=Fg e;unfold relabel at m;obtain⟨⟨n',k'⟩,hm,q⟩:=acK.mp m;have z:(k' == NameKind.free)=false:=by simpa using h1 _ hm
  simp only[z,af1,afe] at q;have q2:k'=k:=by
   have:=congrArg Prod.snd q
   simpa using this
  rcases hk with rfl | rfl
  ·exact h2 _ hm q2
  ·exact h1 _ hm q2
 rcases h with h | h
 ·exact absurd h (no _ (.inl rfl))
 ·exact absurd h (no _ (.inr rfl))
mutual
def L8 (n:Nat):D->Prop
 | .str z=>z.length<=n
 | .tup ds=>ds.length<=n/\Fits n ds
 | .lst ds=>ds.length<=n/\Fits n ds
 | .cM=>True
 | .bl _=>True
 | .int _=>True
def Fits (n:Nat):List D->Prop
 | []=>True
 | d :: ds=>L8 n d/\Fits n ds
end
noncomputable def p9 (d:D) (l m:Int):Bool:=match d with
 | .int i=>decide (l<=i) && decide (i<=m)
 | _=>false
mutual
noncomputable def toPy:D->PyData
 | .cM=>.none
 | .bl b=>.bool b
 | .int i=>.int i
 | .str z=>.str z
 | .tup ds=>.tuple (M0 ds)
 | .lst ds=>.list (M0 ds)
noncomputable def M0:List D->List PyData
 | []=>[]
 | d :: ds=>toPy d :: M0 ds
end
inductive MO where
 | lst (ds:List D)
 | dct (kvs:List (Key×D))
 | CQ (kvs:List (D×D))
 | ins (C:Addr) (kvs:List (Str×D))
 | gap (es:List (D ⊕ Addr))
 | lat (c:Addr) (ds:List D)
 | Px (c:Addr) (kvs:List (D×D))
 | Py (C:Addr) (kvs:List (Str×(D ⊕ Addr)))
inductive U where
 | t (d:D) | m (o:MO) | b (o:MO) | v (i:Nat) | s (ns:BBD) | f (a:Addr) | x (C:Addr) (kvs:List (Str×D))
abbrev AAA (d:D):Option U:=some (.t d)
abbrev AAB (d:List D):Option U:=some (.m (.lst d))
abbrev AAC (i:Int):Option U:=some (.t (.int i))
abbrev SS:=List (Option U)
def Sub (F H:Hp):Prop:=∀a o,F a=some o->H a=some o
def fW {κ:Type}(F:Hp) (p:κ×V) (q:κ×D):Prop:=p.1=q.1/\Rep F p.2 q.2
def sX (F:Hp) (v:V) (C:Addr) (kvs:List (Str×D)):Prop:=∃a dx fs,v= .ref a/\F a=some (.vV C dx fs)/\F dx=some (.own a)/\Paired (fW F) fs kvs
def Hl (F:Hp) (v:V):D ⊕ Addr->Prop
 | .inl d=>Rep F v d
 | .inr c=>v= .ref c
def acu (F:Hp) (p:Str×V) (q:Str×(D ⊕ Addr)):Prop:=p.1=q.1/\Hl F p.2 q.2
def At (F H:Hp) (a:Addr):MO->Prop
 | .lst ds=>∃vs,H a=some (.lst vs)/\bY F vs ds
 | .dct kvs=>∃ws,H a=some (.dK ws)/\Paired (fW F) ws kvs
 | .CQ kvs=>∃ws,H a=some (.dT ws)/\Paired (fW F) ws kvs
 | .ins C kvs=>∃ws,(∃dx,H a=some (.ins C dx ws))/\Paired (fW F) ws kvs
 | .gap es=>∃vs,H a=some (.lst vs)/\Paired (Hl F) vs es
 | .lat c ds=>∃vs,(a=c/\H a=some (.lst vs))/\bY F vs ds
 | .Px c kvs=>∃ws,(a=c/\H a=some (.dT ws))/\Paired (fW F) ws kvs
 | .Py C kvs=>∃ws,(∃dx,H a=some (.ins C dx ws))/\Paired (acu F) ws kvs
noncomputable def iH:U->Bool
 | .m _=>true
 | .b _=>true
 | _=>false
def eO (S:SS) (σ:St) (a:Addr):Prop:=∃(i:Nat) (u:U),S[i]? =some (some u)/\iH u=true/\σ[i]? =some (some (.ref a))
def Qz (K:AAD) (H:Hp) (a:Addr) (ns:BBD):Prop:=
 (∃o,H a=some (.mZ o (.lst (ns.map V.int))))\/∃(o:Obj) (its:AAK) (n:Nat),K.lookup a=some o/\o.cls= .type "list"/\o.dict=none/\o.data= .seq its n/\its.size<=sizeLine/\Vals (ns.map V.int) its.toList
theorem Qz.sq :Qz K H a ns->yV K H a (ns.map V.int)
 | .inl h=>.inl (.inr h)
 | .inr h=>.inr h
def Cc (K:AAD) (F H:Hp) (v:V):U->Prop
 | .t d=>Rep F v d
 | .m o=>∃a,v= .ref a/\F a=none/\At F H a o
 | .b o=>∃a,v= .ref a/\F a=none/\At F H a o
 | .v _=>False
 | .s ns=>∃a,v= .ref a/\Qz K H a ns
 | .f a=>v= .ref a
 | .x C k=>sX F v C k
structure Ext (M:Addr->Prop) (F H F' H':Hp):Prop where
 le:∀b o,F b=some o->F' b=some o
 keep:∀b o,H b=some o->¬M b->H' b=some o
 m8:∀b o,H b=some o->¬M b->F b=none->F' b=none
 there:∀b o,H b=some o->∃o',H' b=some o'
 mZ:∀b o u,H b=some (.mZ o u)->H' b=some (.mZ o u)
structure Base where
 P:List (BBN)
 F:Hp
 H:Hp
def Base.M (B:Base) (a:Addr):Prop:=some a∈B.P
structure Rel (K:AAD) (B:Base) (S:SS) (σ:St) (F H:Hp):Prop where
 sub:Sub F H
 len:S.length=σ.length
 rep:∀(i:Nat) u,S[i]? =some (some u)->∃v,σ[i]? =some (some v)/\Cc K F H v u
 Ho:∀(i j:Nat) u w a,S[i]? =some (some u)->iH u=true->S[j]? =some (some w)->iH w=true->σ[i]? =some (some (.ref a))->σ[j]? =some (some (.ref a))->i=j
 own:∀(i:Nat) o a,S[i]? =some (some (.m o))->σ[i]? =some (some (.ref a))->B.H a=none
 bor:∀(i:Nat) o a,S[i]? =some (some (.b o))->σ[i]? =some (some (.ref a))->B.M a
 par:∀(i:Nat) a,B.P[i]? =some (some a)->σ[i]? =some (some (.ref a))/\∃o,S[i]? =some (some (.b o))
 ext:Ext B.M B.F B.H F H
structure Step (S S':SS) (σ:St) (F H F' H':Hp):Prop where
 ext:Ext (eO S σ) F H F' H'
 mu:∀a,eO S' σ a->eO S σ a
 slots:∀(i:Nat) u,S[i]? =some (some u)->∃u',S'[i]? =some (some u')
def Ext.refl (M:Addr->Prop) (F H:Hp):Ext M F H F H:=⟨fun _ _ h=>h,fun _ _ h _=>h,fun _ _ _ _ h=>h,fun _ o h=>⟨o,h⟩,fun _ _ _ h=>h⟩
def Ext.trans {M M':Addr->Prop}{F F2 H2:Hp}(x:Ext M F H F1 H1) (y:Ext M' F1 H1 F2 H2) (s:∀b,M' b->M b\/H b=none):Ext M F H F2 H2 where
 le:=fun b o h=>y.le b o (x.le b o h)
 keep:=fun b o h n=>y.keep b o (x.keep b o h n) fun q=>(s b q).elim n fun z=>by rw[h] at z;cases z
 m8:=fun b o h n f=>y.m8 b o (x.keep b o h n) (fun q=>(s b q).elim n fun z=>by rw[h] at z;cases z) (x.m8 b o h n f)
 there:=fun b o h=>let⟨o',h'⟩:=x.there b o h;y.there b o' h'
 mZ:=fun b o u h=>y.mZ b o u (x.mZ b o u h)
def Step.refl (S:SS) (σ:St) (F H:Hp):Step S S σ F H F H:=⟨Ext.refl _ _ _,fun _ h=>h,fun _ u h=>⟨u,h⟩⟩
def Step.trans {S S1 S2:SS}{σ:St}{F H F1 H1 F2 H2:Hp}(x:Step S S1 σ F H F1 H1) (y:Step S1 S2 σ F1 H1 F2 H2):Step S S2 σ F H F2 H2:=
 ⟨x.ext.trans y.ext fun b q=>.inl (x.mu b q),fun a q=>x.mu a (y.mu a q),fun i u h=>let⟨u',h'⟩:=x.slots i u h;y.slots i u' h'⟩
mutual
theorem Rep.le {F F':Hp}(g:∀b o,F b=some o->F' b=some o):∀{v:V}{d:D},Rep F v d->Rep F' v d
 | _,_,.cM=>.cM
 | _,_,.bl b=>.bl b
 | _,_,.int i=>.int i
 | _,_,.str z=>.str z
 | _,_,.tup e r=>.tup (g _ _ e) (bY.le g r)
 | _,_,.lst e r=>.lst (e.imp (g _ _) fun⟨o,h⟩=>⟨o,g _ _ h⟩) (bY.le g r)
theorem bY.le {F F':Hp}(g:∀b o,F b=some o->F' b=some o):∀{vs:List V}{ds:List D},bY F vs ds->bY F' vs ds
 | _,_,.nil=>.nil
 | _,_,.cons r rs=>.cons (Rep.le g r) (bY.le g rs)
end
def tZ {κ:Type}{F:Hp}(g:∀b o,F b=some o->F' b=some o){ws:List (κ×V)}{kvs:List (κ×D)}(r:Paired (fW F) ws kvs):Paired (fW F') ws kvs:=
 Paired.Ks r fun _ _ z=>⟨z.1,z.2.le g⟩
theorem sX.le {F:Hp}(g:∀b o,F b=some o->F' b=some o){v:V}{C:Addr}{k:List (Str×D)}:sX F v C k->sX F' v C k
 | ⟨a,dx,fs,e,h1,h2,h3⟩=>⟨a,dx,fs,e,g _ _ h1,g _ _ h2,tZ g h3⟩
theorem Hl.le {F F':Hp}(g:∀b o,F b=some o->F' b=some o){v:V}:∀{e:D ⊕ Addr},Hl F v e->Hl F' v e
 | .inl _,h=>Rep.le g h
 | .inr _,h=>h
theorem At.le {F F' H H':Hp}{a:Addr}(g:∀b o,F b=some o->F' b=some o) (k:∀o,H a=some o->H' a=some o):∀{o:MO},At F H a o->At F' H' a o
 | .lst _,⟨vs,e,r⟩=>⟨vs,k _ e,r.le g⟩
 | .dct _,⟨ws,e,r⟩=>⟨ws,k _ e,tZ g r⟩
 | .CQ _,⟨ws,e,r⟩=>⟨ws,k _ e,tZ g r⟩
 | .ins _ _,⟨ws,⟨dx,e⟩,r⟩=>⟨ws,⟨dx,k _ e⟩,tZ g r⟩
 | .gap _,⟨ws,e,r⟩=>⟨ws,k _ e,Paired.Ks r fun _ _ z=>z.le g⟩
 | .lat _ _,⟨vs,⟨q,e⟩,r⟩=>⟨vs,⟨q,k _ e⟩,r.le g⟩
 | .Px _ _,⟨ws,⟨q,e⟩,r⟩=>⟨ws,⟨q,k _ e⟩,tZ g r⟩
 | .Py _ _,⟨ws,⟨dx,e⟩,r⟩=>⟨ws,⟨dx,k _ e⟩,Paired.Ks r fun _ _ z=>⟨z.1,z.2.le g⟩⟩
theorem At.has {F:Hp}:∀{o:MO},At F H a o->∃u,H a=some u
 | .lst _,⟨_,e,_⟩=>⟨_,e⟩
 | .dct _,⟨_,e,_⟩=>⟨_,e⟩
 | .CQ _,⟨_,e,_⟩=>⟨_,e⟩
 | .ins _ _,⟨_,⟨_,e⟩,_⟩=>⟨_,e⟩
 | .gap _,⟨_,e,_⟩=>⟨_,e⟩
 | .lat _ _,⟨_,⟨_,e⟩,_⟩=>⟨_,e⟩
 | .Px _ _,⟨_,⟨_,e⟩,_⟩=>⟨_,e⟩
 | .Py _ _,⟨_,⟨_,e⟩,_⟩=>⟨_,e⟩
def jF (K:AAD) (B:Base) (S:SS) (σ:St) (H0 F H:Hp) (v:V):U->Prop
 | .t d=>Rep F v d
 | .m o=>∃a,v= .ref a/\H0 a=none/\F a=none/\At F H a o/\¬eO S σ a/\B.H a=none
 | .v i=>σ[i]? =some (some v)/\∃u,S[i]? =some (some u)
 | .b _=>False
 | .s ns=>∃a,v= .ref a/\Qz K H a ns
 | .f a=>v= .ref a
 | .x C k=>sX F v C k
def PE.imp {e:Expr}{t t':TE}(h:PE X e t) (k:∀σ H Q,t' σ H Q->t σ H Q):PE X e t':=fun pins s σ H Q I q=>h pins s σ H Q I (k σ H Q q)
def PT.imp {e:Expr}{t t':TT}(h:PT X e t) (k:∀σ H Q,t' σ H Q->t σ H Q):PT X e t':=fun pins s σ H Q I q=>h pins s σ H Q I (k σ H Q q)
def PW.imp {e:Expr}{t t':TT}(h:PW X e t) (k:∀σ H Q,t' σ H Q->t σ H Q):PW X e t':=fun w pins s σ H Q I q=>h w pins s σ H Q I (k σ H Q q)
def PA.imp {e:BBC}{t t':TA}(h:PA X e t) (k:∀σ H Q,t' σ H Q->t σ H Q):PA X e t':=fun p pins s σ H Q I q=>h p pins s σ H Q I (k σ H Q q)
def PS.imp {e:Stmt}{t t':TS}(h:PS X e t) (k:∀D σ H,t' D σ H->t D σ H):PS X e t':=fun pins s σ H Q I q=>h pins s σ H Q I (k Q σ H q)
def DB.imp {e:BBH}{t t':TS}(h:DB X e t) (k:∀D σ H,t' D σ H->t D σ H):DB X e t':=fun pins s σ H Q I q=>h pins s σ H Q I (k Q σ H q)
def PE.orelse {e:Expr}{t:TE}(h:∀σ H Q,t σ H Q->∃t',PE X e t'/\t' σ H Q):PE X e t:=fun pins s σ H Q I q=>let⟨_,h1,h2⟩:=h σ H Q q;h1 pins s σ H Q I h2
def PS.orelse {e:Stmt}{t:TS}(h:∀D σ H,t D σ H->∃t',PS X e t'/\t' D σ H):PS X e t:=fun pins s σ H Q I q=>let⟨_,h1,h2⟩:=h Q σ H q;h1 pins s σ H Q I h2
abbrev GE:=SS->Option (U×SS)
abbrev GD:=SS->Option (D×SS)
abbrev GT:=SS->Option (Bool×SS)
abbrev GA:=SS->Option (List D×SS)
inductive Out where
 | nx (S:SS) | rt (u:U) (S:SS) | bk (S:SS) | ct (S:SS)
abbrev GS:=SS->Option Out
inductive tE (K:AAD) (B:Base) (g:GE) (σ:St) (H:Hp) (Q:VK):Prop
 | mk (S:SS) (F:Hp) (u:U) (S':SS) (R:Rel K B S σ F H) (hg:g S=some (u,S')) (q:∀v F' H',Rel K B S' σ F' H'->Step S S' σ F H F' H'->jF K B S' σ H F' H' v u->Q v H')
inductive tD (K:AAD) (B:Base) (g:GD) (σ:St) (H:Hp) (Q:VK):Prop
 | mk (S:SS) (F:Hp) (d:D) (S':SS) (R:Rel K B S σ F H) (hg:g S=some (d,S')) (q:∀v F' H',Rel K B S' σ F' H'->Step S S' σ F H F' H'->Rep F' v d->Q v H')
inductive tQ (K:AAD) (B:Base) (g:GT) (σ:St) (H:Hp) (Q:Bool->Hp->Prop):Prop
 | mk (S:SS) (F:Hp) (b:Bool) (S':SS) (R:Rel K B S σ F H) (hg:g S=some (b,S')) (q:∀F' H',Rel K B S' σ F' H'->Step S S' σ F H F' H'->Q b H')
inductive tAs (K:AAD) (B:Base) (g:GA) (σ:St) (H:Hp) (Q:List V->Hp->Prop):Prop
 | mk (S:SS) (F:Hp) (ds:List D) (S':SS) (R:Rel K B S σ F H) (hg:g S=some (ds,S')) (q:∀vs F' H',Rel K B S' σ F' H'->Step S S' σ F H F' H'->bY F' vs ds->Q vs H')
def Jf (K:AAD) (B:Base) (F:Hp) (D:Ends):Out->Prop
 | .nx S=>∀σ' F' H',Rel K B S σ' F' H'->(∀b o,F b=some o->F' b=some o)->D.nx σ' H'
 | .bk S=>∀σ' F' H',Rel K B S σ' F' H'->(∀b o,F b=some o->F' b=some o)->D.bk σ' H'
 | .ct S=>∀σ' F' H',Rel K B S σ' F' H'->(∀b o,F b=some o->F' b=some o)->D.ct σ' H'
 | .rt u S=>∀v σ' F' H',Rel K B S σ' F' H'->(∀b o,F b=some o->F' b=some o)->jF K B S σ' B.H F' H' v u->D.rt v H'
inductive tO (K:AAD) (B:Base) (g:GS) (D:Ends) (σ:St) (H:Hp):Prop
 | mk (S:SS) (F:Hp) (o:Out) (R:Rel K B S σ F H) (hg:g S=some o) (q:Jf K B F D o)
structure JE (X:Cx) (e:Expr) (g:GE):Prop where
 h:∀B,PE X e (tE X.K B g)
structure JD (X:Cx) (e:Expr) (g:GD):Prop where
 h:∀B,PE X e (tD X.K B g)
structure JT (X:Cx) (e:Expr) (g:GT):Prop where
 h:∀B,PT X e (tQ X.K B g)
structure JW (X:Cx) (e:Expr) (g:GT):Prop where
 h:∀B,PW X e (tQ X.K B g)
structure JA (X:Cx) (es:BBC) (g:GA):Prop where
 h:∀B,PA X es (tAs X.K B g)
structure JS (X:Cx) (st:Stmt) (g:GS):Prop where
 h:∀B,PS X st (tO X.K B g)
structure JB (X:Cx) (st:BBH) (g:GS):Prop where
 h:∀B,DB X st (tO X.K B g)
noncomputable def fz:U->SS->Option (D×SS)
 | .t d,S=>some (d,S)
 | .m (.lst ds),S=>some (.lst ds,S)
 | .v i,S=>match S[i]? with
  | some (some (.t d))=>some (d,S)
  | some (some (.m (.lst ds)))=>some (.lst ds,S.set i (some (.t (.lst ds))))
  | _=>none
 | _,_=>none
def get_set {α:Type}{l:List α}{j:Nat}{x y:α}(h:(l.set i x)[j]? =some y):(i=j/\x=y/\i < l.length)\/(i≠j/\l[j]? =some y):=by
 by_cases e:i=j
 ·subst e;by_cases hl:i < l.length
  ·rw[abv hl] at h;exact .inl ⟨rfl,abh h,hl⟩
  ·rw[List.getElem?_eq_none (by simpa using hl)] at h;cases h
 ·rw[aaG e] at h;exact .inr ⟨e,h⟩
def Sub.mZ {F:Hp}(s:Sub F H) (h:H a=some o):Sub (upd F a o) H:=fun b u e=>by
 by_cases hb:b=a
 ·subst hb;rw[aY] at e;cases e;exact h
 ·rw[aX hb] at e;exact s b u e
def Sub.fresh {F:Hp}(s:Sub F H) (h:H p=Option.none):F p=Option.none:=by
 cases e:F p with
 | none=>rfl
 | some o=>have q:=s p o e;rw[h] at q;cases q
def lM {F:Hp}(h:F a=none):∀b u,F b=some u->upd F a o b=some u:=fun b u e=>by rw[aX (cD e h)];exact e
theorem Qz.le (k:∀b o u,H b=some (.mZ o u)->H' b=some (.mZ o u)):Qz K H a ns->Qz K H' a ns
 | .inl ⟨o,h⟩=>.inl ⟨o,k _ _ _ h⟩
 | .inr h=>.inr h
theorem Cc.le {K:AAD}{F F' H H':Hp}{v:V}(g:∀b o,F b=some o->F' b=some o) (kf:∀b o u,H b=some (.mZ o u)->H' b=some (.mZ o u)):∀{u:U},Cc K F H v u->(∀a,iH u=true->v= .ref a->(∀o,H a=some o->H' a=some o)/\F' a=none)->Cc K F' H' v u
 | .t _,h,_=>Rep.le g h
 | .m _,⟨a,e,_,h⟩,k=>let⟨k1,k2⟩:=k a rfl e;⟨a,e,k2,h.le g k1⟩
 | .b _,⟨a,e,_,h⟩,k=>let⟨k1,k2⟩:=k a rfl e;⟨a,e,k2,h.le g k1⟩
 | .v _,h,_=>h
 | .s _,⟨a,e,h⟩,_=>⟨a,e,h.le kf⟩
 | .f _,h,_=>h
 | .x _ _,h,_=>sX.le g h
def M3 {F:Hp}{v:V}{d:D}(R:Rel K B S σ F H) (st:Step S0 S σ F0 H0 F H) (r:jF K B S σ H0 F H v u) (e:fz u S=some (d,S')):
  ∃F',Rel K B S' σ F' H/\Step S0 S' σ F0 H0 F' H/\Rep F' v d:=by
 cases u with
 | t d'=>cases e;exact⟨F,R,st,r⟩
 | b o=>cases r
 | s o=>cases e
 | f o=>cases e
 | x cx kx=>cases e
 | m o=>
  cases o with
  | dct kvs=>cases e
  | CQ kvs=>cases e
  | ins C kvs=>cases e
  | gap _=>cases e
  | lat _ _=>cases e
  | Px _ _=>cases e
  | Py _ _=>cases e
  | lst ds=>
   cases e;obtain⟨a,rfl,h0,hf,⟨vs,ha,rs⟩,nm,hB⟩:=r;have g:=lM (o:=.lst vs) hf;refine⟨upd F a (.lst vs),⟨R.sub.mZ ha,R.len,fun i u h=>?_,R.Ho,R.own,R.bor,R.par,?_⟩,⟨⟨fun b o h=>g b o (st.ext.le b o h),st.ext.keep,fun b o h n f=>?_,st.ext.there,st.ext.mZ⟩,st.mu,st.slots⟩,.lst (.inl aY) (rs.le g)⟩
   ·obtain⟨w,h1,h2⟩:=R.rep i u h;refine⟨w,h1,h2.le g (fun _ _ _ z=>z) fun c hm hc=>⟨fun o q=>q,?_⟩⟩;have hca:c≠a:=fun z=>nm ⟨i,u,h,hm,by rw[h1,hc,z]⟩;rw[aX hca];cases u with
    | m o=>obtain⟨c',e',f',_⟩:=h2;rw[hc] at e';cases e';exact f'
    | b o=>obtain⟨c',e',f',_⟩:=h2;rw[hc] at e';cases e';exact f'
    | t d=>cases hm
    | v j=>cases hm
    | s j=>cases hm
    | f j=>cases hm
    | x cx kx=>cases hm
   ·exact⟨fun b o h=>g b o (R.ext.le b o h),R.ext.keep,fun b o h n f=>by rw[aX (fun z=>by rw[z,hB] at h;cases h)];exact R.ext.m8 b o h n f,R.ext.there,R.ext.mZ⟩
   ·rw[aX (fun z=>by rw[z,h0] at h;cases h)];exact st.ext.m8 b o h n f
 | v i=>
  obtain⟨hv,u,hu⟩:=r;unfold fz at e;simp only[hu] at e;cases u with
  | t d'=>
   cases e;obtain⟨w,h1,h2⟩:=R.rep i _ hu;rw[hv] at h1;cases h1;exact⟨F,R,st,h2⟩
  | b o=>cases e
  | v j=>cases e
  | s j=>cases e
  | f j=>cases e
  | x cx kx=>cases e
  | m o=>
   cases o with
   | dct kvs=>cases e
   | CQ kvs=>cases e
   | ins C kvs=>cases e
   | gap _=>cases e
   | lat _ _=>cases e
   | Px _ _=>cases e
   | Py _ _=>cases e
   | lst ds=>
    cases e;obtain⟨w,h1,a,rfl,hf,⟨vs,ha,rs⟩⟩:=R.rep i _ hu;have hiv:σ[i]? =some (some (.ref a)):=h1;rw[hv] at h1;cases h1;have hB:=R.own i _ a hu hiv;have g:=lM (o:=.lst vs) hf;have back:∀j w,(S.set i (AAA (.lst ds)))[j]? =some (some w)->iH w=true->i≠j/\S[j]? =some (some w):=fun j w h hm=>by
     rcases get_set h with⟨_,q,_⟩ | q
     ·cases q;cases hm
     ·exact q
    have mu:∀c,eO (S.set i (AAA (.lst ds))) σ c->eO S σ c:=fun c ⟨j,w,h,hm,z⟩=>⟨j,w,(back j w h hm).2,hm,z⟩
    refine⟨upd F a (.lst vs),⟨R.sub.mZ ha,by rw[acn];exact R.len,fun j u h=>?_,fun j k u w c h1 m1 h2 m2=>R.Ho j k u w c (back j u h1 m1).2 m1 (back k w h2 m2).2 m2,fun j o c h=>R.own j o c (back j _ h rfl).2,fun j o c h=>R.bor j o c (back j _ h rfl).2,fun j c h=>?_,?_⟩,
     ⟨⟨fun b o h=>g b o (st.ext.le b o h),st.ext.keep,fun b o h n f=>?_,st.ext.there,st.ext.mZ⟩,fun c q=>st.mu c (mu c q),fun j u h=>?_⟩,.lst (.inl aY) (rs.le g)⟩
    ·rcases get_set h with⟨rfl,q,_⟩ | ⟨ne,q⟩
     ·cases q;exact⟨.ref a,hiv,.lst (.inl aY) (rs.le g)⟩
     ·obtain⟨w,h1,h2⟩:=R.rep j u q;refine⟨w,h1,h2.le g (fun _ _ _ z=>z) fun c hm hc=>⟨fun o q=>q,?_⟩⟩;have hca:c≠a:=fun z=>ne (R.Ho i j _ u a hu rfl q hm hiv (by rw[h1,hc,z]));rw[aX hca];cases u with
      | m o=>obtain⟨c',e',f',_⟩:=h2;rw[hc] at e';cases e';exact f'
      | b o=>obtain⟨c',e',f',_⟩:=h2;rw[hc] at e';cases e';exact f'
      | t d=>cases hm
      | v j=>cases hm
      | s j=>cases hm
      | f j=>cases hm
      | x cx kx=>cases hm
    ·obtain⟨h1,o,h2⟩:=R.par j c h;refine⟨h1,o,?_⟩;have ne:i≠j:=fun z=>by subst z;rw[hu] at h2;cases h2
     rw[aaG ne];exact h2
    ·exact⟨fun b o h=>g b o (R.ext.le b o h),R.ext.keep,fun b o h n f=>by rw[aX (fun z=>by rw[z,hB] at h;cases h)];exact R.ext.m8 b o h n f,R.ext.there,R.ext.mZ⟩
    ·have hb:b≠a:=fun z=>n (st.mu b ⟨i,_,hu,rfl,by rw[z];exact hiv⟩);rw[aX hb];exact st.ext.m8 b o h n f
    ·obtain⟨u',h'⟩:=st.slots j u h;by_cases hj:i=j
     ·subst hj;exact⟨.t (.lst ds),abv (aay.mp h').1⟩
     ·exact⟨u',by rw[aaG hj];exact h'⟩
def eF (g:GE):GD:=fun S=>(g S).bind fun p=>fz p.1 p.2
def JE.d {X:Cx}{e:Expr}{g:GE}(h:JE X e g):JD X e (eF g):=⟨fun B=>(h.h B).imp fun σ H Q hh=>by
 obtain⟨S,F,d,S',R,hg,q⟩:=hh;unfold eF at hg;cases e1:g S with
 | none=>rw[e1] at hg;cases hg
 | some p=>
  obtain⟨u,S1⟩:=p;rw[e1] at hg;refine⟨S,F,u,S1,R,e1,fun v F1 H1 R1 st1 r1=>?_⟩;obtain⟨F2,R2,st2,r2⟩:=M3 R1 st1 r1 hg;exact q v F2 H1 R2 st2 r2⟩
noncomputable def eT (g:GD):GE:=fun S=>(g S).map fun p=>(.t p.1,p.2)
def JD.e {X:Cx}{e:Expr}{g:GD}(h:JD X e g):JE X e (eT g):=⟨fun B=>(h.h B).imp fun σ H Q hh=>by
 obtain⟨S,F,u,S',R,hg,q⟩:=hh;unfold eT at hg;cases e1:g S with
 | none=>rw[e1] at hg;cases hg
 | some p=>
  obtain⟨d,S1⟩:=p;rw[e1] at hg;cases hg;exact⟨S,F,d,S1,R,e1,fun v F1 H1 R1 st1 r1=>q v F1 H1 R1 st1 r1⟩⟩
structure iM (F H F' H':Hp):Prop where
 le:∀b o,F b=some o->F' b=some o
 same:∀b o,H b=some o->H' b=some o
 m8:∀b o,H b=some o->F b=none->F' b=none
def iM.refl (F H:Hp):iM F H F H:=⟨fun _ _ h=>h,fun _ _ h=>h,fun _ _ _ h=>h⟩
def iM.trans {F F2 H2:Hp}(x:iM F H F1 H1) (y:iM F1 H1 F2 H2):iM F H F2 H2:=
 ⟨fun b o h=>y.le b o (x.le b o h),fun b o h=>y.same b o (x.same b o h),fun b o h f=>y.m8 b o (x.same b o h) (x.m8 b o h f)⟩
def iM.step {F:Hp}(n:iM F H F' H'):Step S S σ F H F' H':=
 ⟨⟨n.le,fun b o h _=>n.same b o h,fun b o h _ f=>n.m8 b o h f,fun b o h=>⟨o,n.same b o h⟩,fun b o u h=>n.same b _ h⟩,fun _ h=>h,fun _ u h=>⟨u,h⟩⟩
def iM.obj {F:Hp}(h:H p=none) (o:HO):iM F H F (upd H p o):=
 ⟨fun _ _ q=>q,fun b u q=>by rw[aX (cD q h)];exact q,fun _ _ _ q=>q⟩
def Sub.same {F:Hp}(s:Sub F H) (k:∀b o,H b=some o->H' b=some o):Sub F H':=fun a o e=>k a o (s a o e)
def Sub.DO {F:Hp}(s:Sub F H) (h:H p=none):Sub (upd F p o) (upd H p o):=fun b u e=>by
 by_cases hb:b=p
 ·subst hb;rw[aY] at e;cases e;exact aY
 ·rw[aX hb] at e;have q:=s b u e;rw[aX (cD q h)];exact q
def iM.root {F:Hp}(s:Sub F H) (h:H p=none) (o:HO):iM F H (upd F p o) (upd H p o):=
 ⟨lM (s.fresh h),fun b u q=>by rw[aX (cD q h)];exact q,fun b u q f=>by rw[aX (cD q h)];exact f⟩
def Rel.has {K:AAD}{B:Base}{S:SS}{σ:St}{F H:Hp}(R:Rel K B S σ F H){a:Addr}(m:eO S σ a):∃o,H a=some o:=by
 obtain⟨i,u,h,hm,hv⟩:=m;obtain⟨v,h1,h2⟩:=R.rep i u h;rw[hv] at h1;cases h1;cases u with
 | t d=>cases hm
 | v j=>cases hm
 | s j=>cases hm
 | f j=>cases hm
 | x cx kx=>cases hm
 | m o=>obtain⟨b,e,_,h⟩:=h2;cases e;exact h.has
 | b o=>obtain⟨b,e,_,h⟩:=h2;cases e;exact h.has
def Rel.new {F:Hp}(R:Rel K B S σ F H) (n:iM F H F' H') (s:Sub F' H'):Rel K B S σ F' H' where
 sub:=s
 len:=R.len
 rep:=fun i u h=>by
  obtain⟨v,h1,h2⟩:=R.rep i u h;refine⟨v,h1,h2.le n.le (fun b o u z=>n.same b _ z) fun a hm ha=>⟨fun o q=>n.same a o q,?_⟩⟩;obtain⟨o,ho⟩:=R.has ⟨i,u,h,hm,by rw[h1,ha]⟩;refine n.m8 a o ho ?_;cases u with
  | t d=>cases hm
  | v j=>cases hm
  | s j=>cases hm
  | f j=>cases hm
  | x cx kx=>cases hm
  | m o=>obtain⟨b,e,f,_⟩:=h2;rw[ha] at e;cases e;exact f
  | b o=>obtain⟨b,e,f,_⟩:=h2;rw[ha] at e;cases e;exact f
 Ho:=R.Ho
 own:=R.own
 bor:=R.bor
 par:=R.par
 ext:=⟨fun b o h=>n.le b o (R.ext.le b o h),fun b o h m=>n.same b o (R.ext.keep b o h m),fun b o h m f=>n.m8 b o (R.ext.keep b o h m) (R.ext.m8 b o h m f),fun b o h=>let⟨o',h'⟩:=R.ext.there b o h;⟨o',n.same b o' h'⟩,fun b o u h=>n.same b _ (R.ext.mZ b o u h)⟩
def Hq (H0 F H:Hp) (v:V):U->Prop
 | .t d=>Rep F v d
 | .m o=>∃a,v= .ref a/\H0 a=none/\F a=none/\At F H a o
 | _=>False
def none_of (t:∀b o,H b=some o->∃o',H' b=some o') (h:H' a=none):H a=none:=by
 cases e:H a with
 | none=>rfl
 | some o=>obtain⟨o',h'⟩:=t a o e;rw[h] at h';cases h'
def Hq.Hr {F:Hp}{v:V}(R:Rel K B S σ F1 H1) (st:Step S0 S σ F0 H0 F1 H1) (r:Hq H1 F H v u):jF K B S σ H0 F H v u:=by
 cases u with
 | t d=>exact r
 | b o=>cases r
 | v i=>cases r
 | s i=>cases r
 | f i=>cases r
 | x cx kx=>cases r
 | m o=>
  obtain⟨a,e,h0,f,h⟩:=r;refine⟨a,e,none_of st.ext.there h0,f,h,fun m=>?_,none_of R.ext.there h0⟩;obtain⟨o,ho⟩:=R.has m;rw[h0] at ho;cases ho
inductive rP (f:List D->Option U) (xs:List V) (H:Hp) (Q:VK):Prop
 | mk (F:Hp) (ds:List D) (u:U) (s:Sub F H) (r:bY F xs ds) (hf:f ds=some u) (q:∀v F' H',iM F H F' H'->Sub F' H'->Hq H F' H' v u->Q v H')
noncomputable def sP:D->Bool
 | .tup _=>false
 | .lst _=>false
 | _=>true
noncomputable def toV:D->V
 | .bl b=>.bl b
 | .int i=>.int i
 | .str z=>.str z
 | _=>.cM
theorem Fi {F:Hp}:∀{d:D},sP d=true->Rep F (toV d) d
 | .cM,_=>.cM
 | .bl b,_=>.bl b
 | .int i,_=>.int i
 | .str z,_=>.str z
 | .tup _,h=>by cases h
 | .lst _,h=>by cases h
noncomputable def ao (i:Nat):GE:=fun S=>match S[i]? with
 | some (some (.t d))=>some (.t d,S)
 | some (some (.s d))=>some (.s d,S) | some (some (.f d))=>some (.f d,S) | some (some (.x C k))=>some (.x C k,S)
 | some (some _)=>some (.v i,S)
 | _=>none
noncomputable def eC (d:D):GD:=fun S=>some (d,S)
noncomputable def aq:GA:=fun S=>some ([],S)
noncomputable def aa (g:GD) (ga:GA):GA:=fun S=>(g S).bind fun p=>(ga p.2).map fun q=>(p.1 :: q.1,q.2)
noncomputable def eP (f:List D->Option U) (ga:GA):GE:=fun S=>(ga S).bind fun p=>(f p.1).map fun u=>(u,p.2)
section
variable {X:Cx}{a b e:Expr}{es:BBC}{pos p:Pos}{x:Str}{g ga gb:GD}{gA:GA}{f:List D->Option U}
def bF (i:Nat) (hN:X.N[i]? =some x:=by rfl) (hv:xN X.env.scope x:=by first | exact Or.inl rfl | exact Or.inr (Or.inl rfl) | exact Or.inr (Or.inr rfl)) (hd:BBT x:=by decide)
  (hcd:BBU x:=by decide):JE X (.Name x pos) (ao i):=⟨fun B=>(eL hN hv hd hcd).imp fun σ H Q hh=>by
 obtain⟨S,F,u,S',R,hg,q⟩:=hh;unfold ao at hg;cases hs:S[i]? with
 | none=>rw[hs] at hg;cases hg
 | some o=>
  cases o with
  | none=>rw[hs] at hg;cases hg
  | some w=>
   rw[hs] at hg;obtain⟨v,h1,h2⟩:=R.rep i w hs;refine⟨v,h1,?_⟩;cases w with
   | t d=>cases hg;exact q v F H R (Step.refl ..) h2
   | m o=>cases hg;exact q v F H R (Step.refl ..) ⟨h1,_,hs⟩
   | b o=>cases hg;exact q v F H R (Step.refl ..) ⟨h1,_,hs⟩
   | s j=>cases hg;exact q v F H R (Step.refl ..) h2
   | f j=>cases hg;exact q v F H R (Step.refl ..) h2
   | x cx kx=>cases hg;exact q v F H R (Step.refl ..) h2
   | v j=>cases hg;exact q v F H R (Step.refl ..) ⟨h1,_,hs⟩⟩
def KY {d:D}(hf:sP d=true) (h:PE X e (tC (toV d))):JD X e (eC d):=⟨fun B=>h.imp fun σ H Q hh=>by
 obtain⟨S,F,u,S',R,hg,q⟩:=hh;cases hg;exact q _ F H R (Step.refl ..) (Fi hf)⟩
def az {i j}:JD X (.Constant (.int i) j pos) (eC (.int i)):=KY rfl Uq
def Ba {i j}:JD X (.Constant (.bool i) j pos) (eC (.bl i)):=KY rfl XU
def DP {j}:JD X (.Constant .none j pos) (eC .cM):=KY rfl GP
def aC {i j}:JD X (.Constant (.str i) j pos) (eC (.str i)):=KY rfl Mm
def aI:JA X [] aq:=⟨fun B=>tV.imp fun σ H Q hh=>by
 obtain⟨S,F,u,S',R,hg,q⟩:=hh;cases hg;exact q [] F H R (Step.refl ..) .nil⟩
def aj {α β:Type}{o:Option α}{f:α->Option β}{y:β}(h:o.bind f=some y):∃z,o=some z/\f z=some y:=by
 cases o with
 | none=>cases h
 | some z=>exact⟨z,rfl,h⟩
def aB {α β:Type}{o:Option α}{f:α->β}{y:β}(h:o.map f=some y):∃z,o=some z/\f z=y:=by
 cases o with
 | none=>cases h
 | some z=>exact⟨z,rfl,abh h⟩
def ah (h:JD X e g) (hr:JA X es gA) (hs:starEach (e :: es) X.env=(false,eval e X.env) :: starEach es X.env:=by rfl):JA X (e :: es) (aa g gA):=
 ⟨fun B=>(j9 (h.h B) (hr.h B) hs).imp fun σ H Q hh=>by
 obtain⟨S,F,u,S',R,hg,q⟩:=hh;obtain⟨⟨d,S1⟩,h1,hg⟩:=aj hg;obtain⟨⟨ds,S2⟩,h2,hg⟩:=aB hg;cases hg;exact⟨S,F,d,S1,R,h1,fun v F1 H1 R1 st1 r1=>⟨S1,F1,ds,S2,R1,h2,fun vs F2 H2 R2 st2 r2=>q _ F2 H2 R2 (st1.trans st2) (.cons (r1.le st2.ext.le) r2)⟩⟩⟩
def q9 {r:List V->Hp->VK->Prop}(hr:∀vs H1 Q1,rP f vs H1 Q1->r vs H1 Q1) (h:tE K B (eP f gA) σ H Q):tAs K B gA σ H fun vs H1=>r vs H1 Q:=by
 obtain⟨S,F,u,S',R,hg,q⟩:=h;obtain⟨⟨ds,S1⟩,h1,hg⟩:=aj hg;obtain⟨u',h2,hg⟩:=aB hg;cases hg;exact⟨S,F,ds,S1,R,h1,fun vs F1 H1 R1 st1 r1=>hr _ _ _ ⟨F1,ds,_,R1.sub,r1,h2,fun v F2 H2 n s2 r2=>q v F2 H2 (R1.new n s2) (st1.trans n.step) (r2.Hr R1 st1)⟩⟩
def ou {id:String}(hc:jK X (.builtin id) (rP f)) (hg:Gl X x) (hm:X.mg x=none) (hv:bootBuiltins x=some (.builtin id)) (ha:JA X (e :: es) gA) (hn:x≠"__name__":=by decide) (hdb:BBT x:=by decide)
  (he:starEach (e :: es) X.env=(false,eval e X.env) :: starEach es X.env:=by rfl) (hpl:(backTo pos (starEach es X.env)).any (·.1)=false:=by rfl):JE X (.Call (.Name x p) (e :: es) [] pos) (eP f gA):=
 ⟨fun B=>(kO hc hg hm hv (ha.h B) hn hdb he hpl).imp fun σ H Q h=>q9 (fun _ _ _ z=>z) h⟩
def qC (hc:jK X (.type T) (rP f)) (hg:Gl X x) (hm:X.mg x=none) (hv:bootBuiltins x=some (.type T)) (ha:JA X (e :: es) gA) (hn:x≠"__name__":=by decide) (hdb:BBT x:=by decide)
  (he:starEach (e :: es) X.env=(false,eval e X.env) :: starEach es X.env:=by rfl) (hpl:(backTo pos (starEach es X.env)).any (·.1)=false:=by rfl):JE X (.Call (.Name x p) (e :: es) [] pos) (eP f gA):=
 ⟨fun B=>(KN hc hg hm hv (ha.h B) hn hdb he hpl).imp fun σ H Q h=>q9 (fun _ _ _ z=>z) h⟩
abbrev B5 (X:Cx) (o:Value->Value->Sem Value) (f:List D->Option U):Prop:=zQ X o (fun x y H Q=>rP f [x,y] H Q)
def xW (h:tE K B (eP f (aa ga (aa gb aq))) σ H Q):UG (fun x y H Q=>rP f [x,y] H Q) (tD K B ga) (tD K B gb) σ H Q:=by
 obtain⟨S,F,u,S',R,hg,q⟩:=h;obtain⟨⟨ds,S1⟩,h1,hg⟩:=aj hg;obtain⟨u',h2,hg⟩:=aB hg;cases hg;obtain⟨⟨d1,T1⟩,k1,h1⟩:=aj h1;obtain⟨⟨ds2,T2⟩,k2,h1⟩:=aB h1;cases h1;obtain⟨⟨d2,T3⟩,k3,k2⟩:=aj k2;obtain⟨⟨ds3,T4⟩,k4,k2⟩:=aB k2;cases k2;cases k4;exact⟨S,F,d1,T1,R,k1,fun v1 F1 H1 R1 st1 r1=>⟨T1,F1,d2,_,R1,k3,fun v2 F2 H2 R2 st2 r2=>⟨F2,_,_,R2.sub,.cons (r1.le st2.ext.le) (.cons r2 .nil),h2,fun v F3 H3 n s3 r3=>q v F3 H3 (R2.new n s3) ((st1.trans st2).trans n.step) (r3.Hr R2 (st1.trans st2))⟩⟩⟩
def bB {op:Operator}(ho:B5 X (binaryOp op) f) (ha:JD X a ga) (hb:JD X b gb):JE X (.BinOp a op b pos) (eP f (aa ga (aa gb aq))):=
 ⟨fun B=>(Yc ho (ha.h B) (hb.h B)).imp fun σ H Q h=>xW h⟩
def iS (ho:B5 X (compareOp op) f) (ha:JD X a ga) (hb:JD X b gb) (hm:behindInMarks op b=false:=by first | exact GW _ | rfl):JE X (.Compare a [op] [b] pos) (eP f (aa ga (aa gb aq))):=
 ⟨fun B=>(DG ho (ha.h B) (hb.h B) hm).imp fun σ H Q h=>xW h⟩
def Tz {op:UnaryOp}(ho:Yb X (unaryOp op) (fun x H Q=>rP f [x] H Q)) (ha:JD X a ga):JE X (.UnaryOp op a pos) (eP f (aa ga aq)):=
 ⟨fun B=>(Yd ho (ha.h B)).imp fun σ H Q h=>by
 obtain⟨S,F,u,S',R,hg,q⟩:=h;obtain⟨⟨ds,S1⟩,h1,hg⟩:=aj hg;obtain⟨u',h2,hg⟩:=aB hg;cases hg;obtain⟨⟨d1,T1⟩,k1,h1⟩:=aj h1;obtain⟨⟨ds2,T2⟩,k2,h1⟩:=aB h1;cases h1;cases k2;exact⟨S,F,d1,_,R,k1,fun v1 F1 H1 R1 st1 r1=>⟨F1,_,_,R1.sub,.cons r1 .nil,h2,fun v F3 H3 n s3 r3=>q v F3 H3 (R1.new n s3) (st1.trans n.step) (r3.Hr R1 st1)⟩⟩⟩
def vX (hr:MM X (fun x y H Q=>rP f [x,y] H Q)) (ha:JD X a ga) (hb:JD X b gb) (hs:AH b):JE X (.Subscript a b pos) (eP f (aa ga (aa gb aq))):=
 ⟨fun B=>(IZ hr (ha.h B) (hb.h B) hs).imp fun σ H Q h=>xW h⟩
noncomputable def cT:List D->Option U:=fun ds=>if ds.length<=100000 then AAA (.tup ds) else none
noncomputable def c8:List D->Option U:=fun ds=>if ds.length<=100000 then AAB ds else none
def nC (h:n<=100000):n<=sizeLine:=aaA h (by decide)
end
section
variable {X:Cx}{a b c e:Expr}{es:BBC}{pos p:Pos}{x:Str}{g ga gb gc:GD}{gA:GA}{f f':List D->Option U}
def bL {x1}(h:JA X es gA):JE X (.Tuple es x1 pos) (eP cT gA):=
 ⟨fun B=>(MC (h.h B)).imp fun σ H Q z=>q9 (r:=fun xs H1 Q=>xs.length<=sizeLine/\∀p,H1 p=none->Q (.ref p) (upd H1 p (.tup xs))) (fun vs H1 Q1 hh=>by
 obtain⟨F,ds,u,sb,rs,hf,q⟩:=hh;unfold cT at hf;split at hf
 ·rename_i hl;cases hf;refine⟨by rw[rs.length];exact nC hl,fun p hp=>?_⟩;exact q _ _ _ (iM.root sb hp _) (sb.DO hp) (.tup aY (rs.le (lM (sb.fresh hp))))
 ·cases hf) z⟩
def bZ (h:JA X es gA):JE X (.List es pos) (eP c8 gA):=
 ⟨fun B=>(UW (h.h B)).imp fun σ H Q z=>q9 (r:=fun xs H1 Q=>xs.length<=sizeLine/\∀p,H1 p=none->Q (.ref p) (upd H1 p (.lst xs))) (fun vs H1 Q1 hh=>by
 obtain⟨F,ds,u,sb,rs,hf,q⟩:=hh;unfold c8 at hf;split at hf
 ·rename_i hl;cases hf;refine⟨by rw[rs.length];exact nC hl,fun p hp=>?_⟩;exact q _ F _ (iM.obj hp _) (sb.same (iM.obj (F:=F) hp _).same) ⟨p,rfl,hp,sb.fresh hp,vs,aY,rs⟩
 ·cases hf) z⟩
noncomputable def qB (g:GD):GT:=fun S=>(g S).bind fun p=>match p.1 with
 | .bl k=>some (k,p.2)
 | _=>none
noncomputable def vM (g:GT):GT:=fun S=>(g S).map fun p=>(!p.1,p.2)
noncomputable def iI (g h:GT):GT:=fun S=>(g S).bind fun p=>if p.1 then h p.2 else some (false,p.2)
noncomputable def Fj (g h:GT):GT:=fun S=>(g S).bind fun p=>if p.1 then some (true,p.2) else h p.2
noncomputable def eQ (g:GT):GD:=fun S=>(g S).map fun p=>(.bl p.1,p.2)
def nD {k:Bool}(h:qB g S=some (k,S')):g S=some (.bl k,S'):=by
 obtain⟨⟨d,S1⟩,h1,h⟩:=aj h;cases d <;> cases h
 exact h1
def ow {F:Hp}{v:V}{k:Bool}(r:Rep F v (.bl k)):v= .bl k:=by cases r;rfl
def i8 {F:Hp}{v:V}{i:Int}(r:Rep F v (.int i)):v= .int i:=by cases r;rfl
def Jg {F:Hp}{v:V}{i:Str}(r:Rep F v (.str i)):v= .str i:=by cases r;rfl
def QA {F:Hp}{v:V}(r:Rep F v .cM):v= .cM:=by cases r;rfl
def lN (h:JD X e g) (he:∀whole,isTrue e X.env whole=(do let v <-whole;standAt e.pos;holding [v] (truthy v)):=by intro _;rfl):JT X e (qB g):=
 ⟨fun B=>(Ut (h.h B) he).imp fun σ H Q ⟨S,F,k,S',R,hg,q⟩=>⟨S,F,.bl k,S',R,nD hg,fun v F' H' R' st r=>⟨k,ow r,q F' H' R' st⟩⟩⟩
def YJ {gE:GE}(h:tD K B (eF gE) σ H Q):tE K B gE σ H Q:=by
 obtain⟨S,F,d,S',R,hg,q⟩:=h;obtain⟨⟨u,S1⟩,h1,hg⟩:=aj hg;refine⟨S,F,u,S1,R,h1,fun v F1 H1 R1 st1 r1=>?_⟩;obtain⟨F2,R2,st2,r2⟩:=M3 R1 st1 r1 hg;exact q v F2 H1 R2 st2 r2
def bH (ho:B5 X (compareOp op) f) (ha:JD X a ga) (hb:JD X b gb) (hm:behindInMarks op b=false:=by first | exact GW _ | rfl):JT X (.Compare a [op] [b] pos) (qB (eF (eP f (aa ga (aa gb aq))))):=
 ⟨fun B=>(IP ho (ha.h B) (hb.h B) hm).imp fun σ H Q ⟨S,F,k,S',R,hg,q⟩=>xW (YJ ⟨S,F,.bl k,S',R,nD hg,fun v F' H' R' st r=>⟨k,ow r,q F' H' R' st⟩⟩)⟩
def oz (h:JT X a q1):JT X (.UnaryOp .Not a pos) (vM q1):=
 ⟨fun B=>(Uu (h.h B)).imp fun σ H Q hh=>by
 obtain⟨S,F,k,S',R,hg,q⟩:=hh;obtain⟨⟨d,S1⟩,h1,hg⟩:=aB hg;cases hg;exact⟨S,F,d,_,R,h1,fun F' H' R' st=>q F' H' R' st⟩⟩
def oA (h:JT X a q1):JW X (.BoolOp .And [a] pos) q1:=⟨fun B=>pw_and1 (h.h B)⟩
def nZ (h:JT X a q1):JW X (.BoolOp .Or [a] pos) q1:=⟨fun B=>pw_or1 (h.h B)⟩
def Bb (h:JT X a q1) (hr:JW X (.BoolOp .And (b :: r) pos) q2):JW X (.BoolOp .And (a :: b :: r) pos) (iI q1 q2):=
 ⟨fun B=>(pw_and (h.h B) (hr.h B)).imp fun σ H Q hh=>by
 obtain⟨S,F,k,S',R,hg,q⟩:=hh;obtain⟨⟨d,S1⟩,h1,hg⟩:=aj hg;refine⟨S,F,d,S1,R,h1,fun F1 H1 R1 st1=>?_⟩;cases d with
 | true=>exact Fe ⟨S1,F1,k,S',R1,hg,fun F2 H2 R2 st2=>q F2 H2 R2 (st1.trans st2)⟩
 | false=>cases hg;exact Fd (q F1 H1 R1 st1)⟩
def xX (h:JT X a q1) (hr:JW X (.BoolOp .Or (b :: r) pos) q2):JW X (.BoolOp .Or (a :: b :: r) pos) (Fj q1 q2):=
 ⟨fun B=>(pw_or (h.h B) (hr.h B)).imp fun σ H Q hh=>by
 obtain⟨S,F,k,S',R,hg,q⟩:=hh;obtain⟨⟨d,S1⟩,h1,hg⟩:=aj hg;refine⟨S,F,d,S1,R,h1,fun F1 H1 R1 st1=>?_⟩;cases d with
 | false=>exact Fd ⟨S1,F1,k,S',R1,hg,fun F2 H2 R2 st2=>q F2 H2 R2 (st1.trans st2)⟩
 | true=>cases hg;exact Fe (q F1 H1 R1 st1)⟩
def JW.t (h:JW X e q1):JT X e q1:=⟨fun B=>(h.h B).pt⟩
def oB {op}(h:JD X a g):JD X (.BoolOp op [a] pos) (eQ (qB g)):=⟨fun B=>(Uv (h.h B)).imp fun σ H Q hh=>by
 obtain⟨S,F,k,S',R,hg,q⟩:=hh;obtain⟨⟨d,S1⟩,h1,hg⟩:=aB hg;cases hg;exact⟨S,F,.bl d,_,R,nD h1,q⟩⟩
def qb (h:JD X a g) (hr:JD X (.BoolOp .And (b :: r) pos) (eQ q2)):JD X (.BoolOp .And (a :: b :: r) pos) (eQ (iI (qB g) q2)):=
 ⟨fun B=>(Uw (h.h B) (hr.h B)).imp fun σ H Q hh=>by
 obtain⟨S,F,k,S',R,hg,q⟩:=hh;obtain⟨⟨d,S1⟩,h1,hg⟩:=aB hg;cases hg;obtain⟨⟨d1,S2⟩,h1,h2⟩:=aj h1;refine⟨S,F,.bl d1,S2,R,nD h1,fun v F1 H1 R1 st1 r1=>⟨d1,ow r1,?_⟩⟩;cases d1 with
 | true=>
  have h2:q2 S2=some (d,S1):=h2;exact Fe ⟨S2,F1,.bl d,S1,R1,by show(q2 S2).map _=_;rw[h2];rfl,fun v F2 H2 R2 st2 r2=>q v F2 H2 R2 (st1.trans st2) r2⟩
 | false=>cases h2;exact Fd (q _ F1 H1 R1 st1 (.bl false))⟩
def TF (h:JD X a g) (hr:JD X (.BoolOp .Or (b :: r) pos) (eQ q2)):JD X (.BoolOp .Or (a :: b :: r) pos) (eQ (Fj (qB g) q2)):=
 ⟨fun B=>(XY (h.h B) (hr.h B)).imp fun σ H Q hh=>by
 obtain⟨S,F,k,S',R,hg,q⟩:=hh;obtain⟨⟨d,S1⟩,h1,hg⟩:=aB hg;cases hg;obtain⟨⟨d1,S2⟩,h1,h2⟩:=aj h1;refine⟨S,F,.bl d1,S2,R,nD h1,fun v F1 H1 R1 st1 r1=>⟨d1,ow r1,?_⟩⟩;cases d1 with
 | false=>
  have h2:q2 S2=some (d,S1):=h2;exact Fd ⟨S2,F1,.bl d,S1,R1,by show(q2 S2).map _=_;rw[h2];rfl,fun v F2 H2 R2 st2 r2=>q v F2 H2 R2 (st1.trans st2) r2⟩
 | true=>cases h2;exact Fe (q _ F1 H1 R1 st1 (.bl true))⟩
def Vc (h:JD X a g):JD X (.UnaryOp .Not a pos) (eQ (vM (qB g))):=⟨fun B=>(Ux (h.h B)).imp fun σ H Q hh=>by
 obtain⟨S,F,k,S',R,hg,q⟩:=hh;obtain⟨⟨d,S1⟩,h1,hg⟩:=aB hg;cases hg;obtain⟨⟨d1,S2⟩,h3,h2⟩:=aB h1;cases h2;exact⟨S,F,.bl d1,_,R,nD h3,fun v F1 H1 R1 st1 r1=>⟨d1,ow r1,q _ F1 H1 R1 st1 (.bl _)⟩⟩⟩
noncomputable def eIf (q:GT) (g h:GE):GE:=fun S=>(q S).bind fun p=>if p.1 then g p.2 else h p.2
theorem jF.weak {F:Hp}{v:V}(t:∀b o,H0 b=some o->∃o',H1 b=some o'):∀{u:U},jF K B S σ H1 F H v u->jF K B S σ H0 F H v u
 | .t _,h=>h
 | .s _,h=>h
 | .f _,h=>h
 | .x _ _,h=>h
 | .m _,⟨a,e,h0,h⟩=>⟨a,e,none_of t h0,h⟩
 | .v _,h=>h
 | .b _,h=>h
def TH {g1 g2:GE}(hc:JT X c q1) (ha:JE X a g1) (hb:JE X b g2):JE X (.IfExp c a b pos) (eIf q1 g1 g2):=
 ⟨fun B=>(Mn (hc.h B) (ha.h B) (hb.h B)).imp fun σ H Q hh=>by
 obtain⟨S,F,u,S',R,hg,q⟩:=hh;obtain⟨⟨d,S1⟩,h1,hg⟩:=aj hg;refine⟨S,F,d,S1,R,h1,fun F1 H1 R1 st1=>?_⟩;cases d with
 | true=>exact Fe ⟨S1,F1,u,S',R1,hg,fun v F2 H2 R2 st2 r2=>q v F2 H2 R2 (st1.trans st2) (r2.weak st1.ext.there)⟩
 | false=>exact Fd ⟨S1,F1,u,S',R1,hg,fun v F2 H2 R2 st2 r2=>q v F2 H2 R2 (st1.trans st2) (r2.weak st1.ext.there)⟩⟩
noncomputable def eCh (f f':List D->Option U) (ga gb gc:GD):GD:=fun S=>(ga S).bind fun p=>(gb p.2).bind fun q=>match f [p.1,q.1] with
 | some (.t (.bl k))=>if k then(gc q.2).bind fun r=>match f' [q.1,r.1] with
   | some (.t (.bl k'))=>some (.bl k',r.2)
   | _=>none
  else some (.bl false,q.2)
 | _=>none
def YK (h:tD K B (eCh f f' ga gb gc) σ H Q):Mx (fun x y H Q=>rP f [x,y] H Q) (fun x y H Q=>rP f' [x,y] H Q) (tD K B ga) (tD K B gb) (tD K B gc) σ H Q:=by
 obtain⟨S,F,d,S',R,hg,q⟩:=h;obtain⟨⟨d1,S1⟩,h1,hg⟩:=aj hg;obtain⟨⟨d2,S2⟩,h2,hg⟩:=aj hg;refine⟨S,F,d1,S1,R,h1,fun v1 F1 H1 R1 st1 r1=>⟨S1,F1,d2,S2,R1,h2,fun v2 F2 H2 R2 st2 r2=>?_⟩⟩;dsimp only at hg;split at hg
 ·rename_i k hk;refine⟨F2,_,_,R2.sub,.cons (r1.le st2.ext.le) (.cons r2 .nil),hk,fun v F3 H3 n s3 r3=>⟨k,ow r3,?_⟩⟩;have R3:=R2.new n s3;have st3:Step S S2 σ F H F3 H3:=(st1.trans st2).trans n.step;cases k with
  | false=>cases hg;exact Fd (q _ F3 H3 R3 st3 (.bl false))
  | true=>
   obtain⟨⟨d3,S3⟩,h3,hg⟩:=aj hg;refine Fe ⟨S2,F3,d3,S3,R3,h3,fun v3 F4 H4 R4 YF r4=>?_⟩;dsimp only at hg;split at hg
   ·rename_i k' hk';cases hg;exact⟨F4,_,_,R4.sub,.cons (r2.le fun b o z=>YF.ext.le b o (n.le b o z)) (.cons r4 .nil),hk',fun v F5 H5 n5 s5 r5=>q v F5 H5 (R4.new n5 s5) ((st3.trans YF).trans n5.step) r5⟩
   ·cases hg
 ·cases hg
def M4 {op':CmpOp}(ho:B5 X (compareOp op) f) (ho':B5 X (compareOp op') f') (ha:JD X a ga) (hb:JD X b gb) (hc:JD X c gc) (hm:lastMarks [op,op'] [b,c]=false:=by with_unfolding_all rfl):
  JT X (.Compare a [op,op'] [b,c] pos) (qB (eCh f f' ga gb gc)):=⟨fun B=>(My ho ho' (ha.h B) (hb.h B) (hc.h B) hm).imp fun σ H Q ⟨S,F,k,S',R,hg,q⟩=>YK ⟨S,F,.bl k,S',R,nD hg,fun v F' H' R' st r=>⟨k,ow r,q F' H' R' st⟩⟩⟩
end
def b7 {α:Type}{c:Prop}{i:Decidable c}{x w:α}(h:(@ite _ c i (some x) none)=some w):c/\x=w:=by
 by_cases hc:c
 ·rw[if_pos hc] at h;exact⟨hc,abh h⟩
 ·rw[if_neg hc] at h;cases h
def fj {α:Type}{c:Prop}{i:Decidable c}{x:Option α}{w:α}(h:(@ite _ c i x none)=some w):c/\x=some w:=by
 by_cases hc:c
 ·rw[if_pos hc] at h;exact⟨hc,h⟩
 ·rw[if_neg hc] at h;cases h
def M5 {F:Hp}(r:bY F [x] ds):∃d,ds=[d]/\Rep F x d:=by
 cases r with
 | cons r rs=>cases rs;exact⟨_,rfl,r⟩
def xY {F:Hp}(r:bY F [x,y] ds):∃d e,ds=[d,e]/\Rep F x d/\Rep F y e:=by
 cases r with
 | cons r rs=>obtain⟨e,rfl,r2⟩:=M5 rs;exact⟨_,e,rfl,r,r2⟩
noncomputable def M6 (C:Int->Int->Bool) (h:Int->Int->D):List D->Option U
 | [.int i,.int j]=>if C i j then some (.t (h i j)) else none
 | _=>none
section
variable {X:Cx}
def zV {o:Value->Value->Sem Value}{C:Int->Int->Bool}{h:Int->Int->D}{r:R2}(hr:zQ X o r) (k:∀i j H Q,C i j=true->Q (toV (h i j)) H->r (.int i) (.int j) H Q) (hf:∀i j,sP (h i j)=true):B5 X o (M6 C h):=by
 intro pins s σ H x y v u Q I rx ry ⟨F,ds,w,sb,rs,hw,q⟩;obtain⟨d,e,rfl,r1,r2⟩:=xY rs;cases r1 <;> cases r2 <;> try (simp[M6] at hw;done)
 rename_i i j;obtain⟨hc,rfl⟩:=b7 hw;exact hr pins s σ H _ _ v u Q I rx ry (k i j H Q hc (q _ F H (iM.refl ..) sb (Fi (hf i j))))
abbrev nF:=M6 (fun _ _=>true) fun i j=>.int (i - j)
abbrev AI:=M6 (fun _ _=>true) fun i j=>.bl (decide (i < j))
abbrev xO:=M6 (fun _ _=>true) fun i j=>.bl (decide (i<=j))
abbrev Xn:=M6 (fun _ _=>true) fun i j=>.bl (decide (j < i))
abbrev QB:=M6 (fun _ j=>decide (0 < j) && decide (j < 1073741824)) fun i j=>.int (i / j)
abbrev Cd:=M6 (fun _ j=>decide (0 < j)) fun i j=>.int (i % j)
abbrev YL:=M6 (fun i j=>decide (0<=j) && (decide (j<=1000) && decide (i.natAbs < 2 ^ 64))) fun i j=>.int (i ^ j.toNat)
def fq:B5 X (binaryOp .Sub) nF:=zV UM (fun i j H Q _ q=>⟨i,j,rfl,rfl,q⟩) fun _ _=>rfl
def ki:B5 X (compareOp .Lt) AI:=zV Yh (fun i j H Q _ q=>⟨i,j,rfl,rfl,q⟩) fun _ _=>rfl
def rq:B5 X (compareOp .LtE) xO:=zV Yi (fun i j H Q _ q=>⟨i,j,rfl,rfl,q⟩) fun _ _=>rfl
def Bc:B5 X (compareOp .Gt) Xn:=zV Yj (fun i j H Q _ q=>⟨i,j,rfl,rfl,q⟩) fun _ _=>rfl
def DQ:B5 X (binaryOp .FloorDiv) QB:=zV P7 (fun i j H Q c q=>⟨i,j,rfl,rfl,by simpa[Yg] using c,q⟩) fun _ _=>rfl
def nG:B5 X (binaryOp .Mod) Cd:=zV UO (fun i j H Q c q=>⟨i,j,rfl,rfl,by simpa using c,q⟩) fun _ _=>rfl
def QC:B5 X (binaryOp .Pow) YL:=zV UP (fun i j H Q c q=>⟨i,j,rfl,rfl,by
 simp only[abt,abO] at c;exact⟨c.1,Int.le_trans c.2.1 (by decide),c.2.2⟩,q⟩) fun _ _=>rfl
def Sub.sQ {F:Hp}{v:V}(s:Sub F H) (r:Rep F v (.tup ds)):∃a vs,v= .ref a/\F a=some (.tup vs)/\Rd H a (.tup vs)/\bY F vs ds:=by
 cases r with
 | tup e rs=>exact⟨_,_,rfl,e,Rd.of (s _ _ e),rs⟩
def Sub.mG {F:Hp}{v:V}(s:Sub F H) (r:Rep F v (.lst ds)):∃a vs,v= .ref a/\Rd F a (.lst vs)/\Rd H a (.lst vs)/\bY F vs ds:=by
 cases r with
 | lst e rs=>exact⟨_,_,rfl,e,e.imp (s _ _) fun⟨o,h⟩=>⟨o,s _ _ h⟩,rs⟩
def _root_.L2.Rd.G9 {pins:AAG}{s:Shared}(I:Inv X pins σ H s){l:Addr}(h:Rd H l (.lst xs)):
  xs.length<=sizeLine/\∃its n,Vals xs its/\xs.length=its.length/\s.heap.get? l=some {cls:=.type "list",data:=.seq its.toArray n}:=by
 obtain⟨z,its,n,r,e⟩:=(h.ok I.hok:g7 X.prog X.w H s.heap l (.lst xs))
 exact⟨z,its,n,r,r.length,e⟩
noncomputable def cE:List D->Option U
 | [.int i,.int j]=>some (.t (.int (i+j)))
 | [.str i,.str j]=>if i.length+j.length<=100000 then some (.t (.str (i++j))) else none
 | [.tup i,.tup j]=>if i.length+j.length<=100000 then some (.t (.tup (i++j))) else none
 | [.lst i,.lst j]=>if i.length+j.length<=100000 then some (.m (.lst (i++j))) else none
 | _=>none
def bN:B5 X (binaryOp .Add) cE:=by
 intro pins s σ H x y v u Q I rx ry ⟨F,ds,w,sb,rs,hw,q⟩;obtain⟨d,e,rfl,r1,r2⟩:=xY rs;cases d <;> cases e <;> try (cases hw;done)
 ·rename_i i j;cases hw;cases r1;cases r2;exact UL pins s σ H _ _ v u Q I rx ry ⟨i,j,rfl,rfl,q _ F H (iM.refl ..) sb (.int _)⟩
 ·rename_i i j;obtain⟨hl,rfl⟩:=b7 hw;cases r1;cases r2;exact GY pins s σ H _ _ v u Q I rx ry ⟨i,j,rfl,rfl,nC hl,q _ F H (iM.refl ..) sb (.str _)⟩
 ·rename_i i j;obtain⟨hl,rfl⟩:=b7 hw;have rb2:=r2;have rb1:=r1;obtain⟨a,xs,rfl,fa,ha,An⟩:=sb.sQ r1;obtain⟨b,ys,rfl,fb,hb,QD⟩:=sb.sQ r2;by_cases hx:xs=[]
  ·subst hx;cases An;cases rx;cases ry;obtain⟨its,r1',p1,_⟩:=I.tuple (.inl ha);obtain⟨its2,r2',p2,_⟩:=I.tuple (.inl hb);cases r1';obtain⟨⟨cls,dd,data,sl⟩,ho,hc,n,hd⟩:=id p1;obtain⟨⟨ab3,dd2,data2,sl2⟩,ho2,hc2,n2,hd2⟩:=id p2;simp only at hc hd hc2 hd2;subst hc hd hc2 hd2;exact concat_meets ⟨_,ho,rfl⟩ ⟨_,ho2,rfl⟩ afP seq_tuple_add aeX aeO (aeI _ _)
    (tuple_addW0 a b _ _ n n2 dd dd2 sl sl2 (by simp)) ⟨ho,ho2,⟨.ref b,H,I,rfl,q _ F H (iM.refl ..) sb rb2⟩⟩
  ·refine Qo pins s σ H (.ref a) (.ref b) v u Q I rx ry ⟨a,b,xs,ys,rfl,rfl,.inl ha,.inl hb,hx,?_,fun hy=>?_,fun hy p hp=>?_⟩
   ·rw[An.length,QD.length];exact nC hl
   ·subst hy;cases QD;exact q _ F H (iM.refl ..) sb (by show Rep F (.ref a) (.tup (i++[]));rw[abU];exact rb1)
   ·exact q _ _ _ (iM.root sb hp _) (sb.DO hp) (.tup aY ((An.append QD).le (lM (sb.fresh hp))))
 ·rename_i i j;obtain⟨hl,rfl⟩:=b7 hw;obtain⟨a,xs,rfl,fa,ha,An⟩:=sb.mG r1;obtain⟨b,ys,rfl,fb,hb,QD⟩:=sb.mG r2;cases rx;cases ry;obtain⟨z,its,n,r,hl1,e⟩:=Rd.G9 I ha;obtain⟨z2,its2,n2,r2,hl2,e2⟩:=Rd.G9 I hb;have hlen:xs.length+ys.length<=sizeLine:=by rw[An.length,QD.length];exact nC hl
  refine PySem.P.add_list e e2 ?_ (by rw[aam,aam];lia);have ea:its.toArray++its2.toArray=(its++its2).toArray:=by simp
  rw[ea];have hp:H s.heap.objs.size=none:=I.fresh;refine⟨.ref _,_,I.YB (t':=s.toks) (r.append r2) (by rw[aaB];lia),rfl,?_⟩;exact q _ F _ (iM.obj hp _) (sb.same (iM.obj (F:=F) hp _).same) ⟨_,rfl,hp,sb.fresh hp,_,aY,An.append QD⟩
def Hs:List D->Option U:=M6 (fun i j=>(decide (-(2 ^ 64) < i) && decide (i < 2 ^ 64)) || (decide (-(2 ^ 64) < j) && decide (j < 2 ^ 64))) fun i j=>.int (i * j)
def xZ:B5 X (binaryOp .Mult) Hs:=zV UN (fun i j H Q c q=>⟨i,j,rfl,rfl,by
 simp only[Bool.or_eq_true,abt,abO] at c;exact c,q⟩) fun _ _=>rfl
noncomputable def M7:List D->Option U
 | [.int i]=>some (.t (.int (-i)))
 | _=>none
def Jh:Yb X (unaryOp .USub) (fun x H Q=>rP M7 [x] H Q):=by
 intro pins s σ H x v Q I rx ⟨F,ds,w,sb,rs,hw,q⟩;obtain⟨d,rfl,r1⟩:=M5 rs;cases r1 <;> try (cases hw;done)
 rename_i i;cases hw;exact UQ pins s σ H _ v Q I rx ⟨i,rfl,q _ F H (iM.refl ..) sb (.int _)⟩
def Ht:List D->Option U
 | [.tup ds,.int i]=>(jh ds i).map .t
 | [.lst ds,.int i]=>(jh ds i).map .t
 | [.str z,.int i]=>if z.length<=100000 then(jh z.cps.toList i).map fun c=>.t (.str ⟨#[c]⟩) else none
 | _=>none
def Ce:MM X (fun x y H Q=>rP Ht [x,y] H Q):=by
 intro value slice pins s σ H x y v u Q I rx ry ⟨F,ds,w,sb,rs,hw,q⟩ hsb;obtain⟨d,e,rfl,r1,r2⟩:=xY rs;cases d <;> cases e <;> try (cases hw;done)
 ·rename_i z i;obtain⟨hl,hw⟩:=fj hw;obtain⟨c,hc,hw⟩:=aB hw;subst hw;cases r1;cases r2;exact MP value slice pins s σ H _ _ v u Q I rx ry ⟨z,i,c,rfl,rfl,nC hl,hc,q _ F H (iM.refl ..) sb (.str _)⟩ hsb
 ·rename_i ds i;obtain⟨c,hc,hw⟩:=aB (show(jh ds i).map U.t=some w from hw);subst hw;obtain⟨a,xs,rfl,fa,ha,An⟩:=sb.sQ r1;cases r2;obtain⟨w',h1,h2⟩:=An.jh hc;exact MN value slice pins s σ H _ _ v u Q I rx ry ⟨a,xs,i,w',rfl,rfl,.inl ha,h1,q _ F H (iM.refl ..) sb h2⟩ hsb
 ·rename_i ds i;obtain⟨c,hc,hw⟩:=aB (show(jh ds i).map U.t=some w from hw);subst hw;obtain⟨a,xs,rfl,fa,ha,An⟩:=sb.mG r1;cases r2;obtain⟨w',h1,h2⟩:=An.jh hc;exact Ja value slice pins s σ H _ _ v u Q I rx ry ⟨a,xs,i,w',rfl,rfl,.inl ha,h1,q _ F H (iM.refl ..) sb h2⟩ hsb
noncomputable def wA:List D->Option U
 | [.tup ds]=>some (.t (.int ds.length))
 | [.lst ds]=>some (.t (.int ds.length))
 | [.str z]=>if z.length<=100000 then some (.t (.int z.length)) else none
 | _=>none
def qD:jK X (.builtin "len") (rP wA):=by
 intro pins s σ H xs us Q I r ⟨F,ds,w,sb,rs,hw,q⟩
 match xs,ds,rs with
 | [],[],_=>exact absurd hw (by simp[wA])
 | [x],_,rs=>
  obtain⟨d,rfl,r1⟩:=M5 rs;cases d <;> try (cases hw;done)
  ·rename_i z;obtain⟨hl,rfl⟩:=b7 hw;cases r1;exact xU pins s σ H _ us Q I r ⟨z,rfl,nC hl,q _ F H (iM.refl ..) sb (.int _)⟩
  ·cases hw;obtain⟨a,xs,rfl,fa,ha,An⟩:=sb.sQ r1;exact q8 pins s σ H _ us Q I r ⟨a,xs,rfl,.inr (.inl ha),by rw[An.length];exact q _ F H (iM.refl ..) sb (.int _)⟩
  ·cases hw;obtain⟨a,xs,rfl,fa,ha,An⟩:=sb.mG r1;exact q8 pins s σ H _ us Q I r ⟨a,xs,rfl,.inl (.inl ha),by rw[An.length];exact q _ F H (iM.refl ..) sb (.int _)⟩
 | _ :: _ :: _,[],rs=>cases rs
 | _ :: _ :: _,[_],rs=>cases rs with | cons _ rs=>cases rs
 | _ :: _ :: _,_ :: _ :: _,_=>exact absurd hw (by simp[wA])
end
noncomputable def sY (i:Nat) (u:U) (S:SS):Option SS:=match S[i]? with
 | some (some (.b _))=>none
 | some _=>some (S.set i (some u))
 | none=>none
def CS (h:sY i u S=some S'):S'=S.set i (some u)/\i < S.length/\∀o,S[i]?≠some (some (.b o)):=by
 unfold sY at h;cases e:S[i]? with
 | none=>rw[e] at h;cases h
 | some w=>
  have hl:i < S.length:=(aay.mp e).1;rw[e] at h;cases w with
  | none=>cases h;exact⟨rfl,hl,fun o z=>by cases z⟩
  | some w=>
   cases w with
   | b o=>cases h
   | t d=>cases h;exact⟨rfl,hl,fun o z=>by cases z⟩
   | m d=>cases h;exact⟨rfl,hl,fun o z=>by cases z⟩
   | v d=>cases h;exact⟨rfl,hl,fun o z=>by cases z⟩
   | s d=>cases h;exact⟨rfl,hl,fun o z=>by cases z⟩
   | f d=>cases h;exact⟨rfl,hl,fun o z=>by cases z⟩
   | x cx kx=>cases h;exact⟨rfl,hl,fun o z=>by cases z⟩
def TJ (B:Base) (S:SS) (σ:St) (F H:Hp) (v:V):U->Prop
 | .t d=>Rep F v d
 | .m o=>∃a,v= .ref a/\F a=none/\At F H a o/\¬eO S σ a/\B.H a=none
 | .x C k=>sX F v C k
 | _=>False
def Rel.put {F:Hp}{v:V}(R:Rel K B S σ F H) (h:sY i u S=some S') (p:TJ B S σ F H v u):Rel K B S' (σ.set i (some v)) F H:=by
 obtain⟨rfl,hl,nb⟩:=CS h;have hl':i < σ.length:=by rw[<-R.len];exact hl
 have out:∀{j:Nat},i≠j->(σ.set i (some v))[j]? =σ[j]?:=fun ne=>aaG ne;have KZ:(σ.set i (some v))[i]? =some (some v):=abv hl';have TL:∀j w a,i≠j->S[j]? =some (some w)->iH w=true->iH u=true->σ[j]? =some (some (.ref a))->v≠.ref a:=fun j w a ne hj hm hu hv z=>by
  cases u with
  | t d=>cases hu
  | v k=>cases hu
  | s k=>cases hu
  | f k=>cases hu
  | x cx kx=>cases hu
  | b o=>exact p
  | m o=>
   obtain⟨c,e,_,_,nm,_⟩:=p;rw[z] at e;cases e;exact nm ⟨j,w,hj,hm,hv⟩
 refine⟨R.sub,by rw[acn,acn];exact R.len,fun j w hj=>?_,fun j k w1 w2 a h1 m1 h2 m2 v1 v2=>?_,fun j o a hj hv=>?_,fun j o a hj hv=>?_,fun j a hj=>?_,R.ext⟩
 ·rcases get_set hj with⟨rfl,q,_⟩ | ⟨ne,q⟩
  ·cases q;refine⟨v,KZ,?_⟩;cases u with
   | t d=>exact p
   | m o=>obtain⟨a,e,f,h,_⟩:=p;exact⟨a,e,f,h⟩
   | b o=>cases p
   | v k=>cases p
   | s k=>cases p
   | f k=>cases p
   | x cx kx=>exact p
  ·rw[out ne];exact R.rep j w q
 ·rcases get_set h1 with⟨rfl,q1,_⟩ | ⟨ne1,q1⟩
  ·rcases get_set h2 with⟨rfl,q2,_⟩ | ⟨ne2,q2⟩
   ·rfl
   ·cases q1;rw[KZ] at v1;rw[out ne2] at v2;cases v1;exact absurd rfl (TL k w2 a ne2 q2 m2 m1 v2)
  ·rcases get_set h2 with⟨rfl,q2,_⟩ | ⟨ne2,q2⟩
   ·cases q2;rw[KZ] at v2;rw[out ne1] at v1;cases v2;exact absurd rfl (TL j w1 a ne1 q1 m1 m2 v1)
   ·rw[out ne1] at v1;rw[out ne2] at v2;exact R.Ho j k w1 w2 a q1 m1 q2 m2 v1 v2
 ·rcases get_set hj with⟨rfl,q,_⟩ | ⟨ne,q⟩
  ·cases q;rw[KZ] at hv;cases hv;obtain⟨c,e,_,_,_,hB⟩:=p;cases e;exact hB
  ·rw[out ne] at hv;exact R.own j o a q hv
 ·rcases get_set hj with⟨rfl,q,_⟩ | ⟨ne,q⟩
  ·cases q;cases p
  ·rw[out ne] at hv;exact R.bor j o a q hv
 ·obtain⟨h1,o,h2⟩:=R.par j a hj;have ne:i≠j:=fun z=>by subst z;exact nb o h2
  exact⟨by rw[out ne];exact h1,o,by rw[aaG ne];exact h2⟩
noncomputable def cW:GS:=fun S=>some (.nx S)
noncomputable def aO (a b:GS):GS:=fun S=>(a S).bind fun o=>match o with
 | .nx S1=>b S1
 | o=>some o
def bR (i:Nat) (g:GE):GS:=fun S=>(g S).bind fun p=>match p.1 with
 | .m o=>(sY i (.m o) p.2).map .nx
 | u=>(fz u p.2).bind fun q=>(sY i (.t q.1) q.2).map .nx
noncomputable def mH (g:GE):GS:=fun S=>(g S).map fun p=>.nx p.2
noncomputable def cz (g:GE):GS:=fun S=>(g S).bind fun p=>match p.1 with
 | .v i=>match p.2[i]? with
  | some (some (.t d))=>some (.rt (.t d) p.2)
  | some (some (.m o))=>some (.rt (.m o) (p.2.set i none))
  | _=>none
 | .s _=>none
 | .f _=>none
 | .x _ _=>none
 | u=>some (.rt u p.2)
noncomputable def ji (q:GT) (a b:GS):GS:=fun S=>(q S).bind fun p=>if p.1 then a p.2 else b p.2
theorem Jf.mono {F:Hp}{D:Ends}(g:∀b o,F b=some o->F1 b=some o):∀{o:Out},Jf K B F D o->Jf K B F1 D o
 | .nx _,h=>fun σ' F' H' R le=>h σ' F' H' R fun b o z=>le b o (g b o z)
 | .bk _,h=>fun σ' F' H' R le=>h σ' F' H' R fun b o z=>le b o (g b o z)
 | .ct _,h=>fun σ' F' H' R le=>h σ' F' H' R fun b o z=>le b o (g b o z)
 | .rt _ _,h=>fun v σ' F' H' R le=>h v σ' F' H' R fun b o z=>le b o (g b o z)
section
variable {X:Cx}{a b c e:Expr}{pos p:Pos}{x:Str}{st:Stmt}{rest b1 b2 body:BBH}{g:GE}{s1 s2:GS}{q1:GT}
def bS:JB X [] cW:=⟨fun B=>P1.imp fun D σ H ⟨S,F,o,R,h,k⟩=>by cases h;exact k σ F H R fun _ _ z=>z⟩
def aA (h1:JS X st s1) (h2:JB X rest s2):JB X (st :: rest) (aO s1 s2):=⟨fun B=>(Mq (h1.h B) (h2.h B)).imp fun D σ H hh=>by
 obtain⟨S,F,o,R,h,k⟩:=hh;obtain⟨o1,e1,h⟩:=aj h;refine⟨S,F,o1,R,e1,?_⟩;cases o1 with
 | nx S1=>exact fun σ' F' H' R' le=>⟨S1,F',o,R',h,k.mono le⟩
 | rt u S1=>cases h;exact k
 | bk S1=>cases h;exact k
 | ct S1=>cases h;exact k⟩
def aN (h1:JS X st s1):JB X [st] s1:=⟨fun B=>IJ (h1.h B)⟩
def jF.put {F:Hp}{v:V}{o:MO}(r:jF K B S σ H0 F H v (.m o)):TJ B S σ F H v (.m o):=by
 obtain⟨a,e,_,f,h,n,hB⟩:=r;exact⟨a,e,f,h,n,hB⟩
def QE {D:Ends}(h:tO K B (bR i g) D σ H):UB (tE K B g) (IK i) D σ H:=by
 obtain⟨S,F,o,R,h,k⟩:=h;obtain⟨⟨u,S1⟩,h1,h⟩:=aj h;refine⟨S,F,u,S1,R,h1,fun v F1 H1 R1 st1 r1=>?_⟩;have go:(∀o',u≠.m o')->(fz u S1).bind (fun q=>(sY i (.t q.1) q.2).map Out.nx)=some o->D.nx (σ.set i (some v)) H1:=fun _ h=>by
  obtain⟨⟨d,S2⟩,h2,h⟩:=aj h;obtain⟨S3,h3,h⟩:=aB h;subst h;obtain⟨F2,R2,st2,r2⟩:=M3 R1 st1 r1 h2;exact k _ F2 H1 (R2.put h3 r2) st2.ext.le
 cases u with
 | m o'=>
  obtain⟨S3,h3,h⟩:=aB (show(sY i (.m o') S1).map Out.nx=some o from h);subst h;exact k _ F1 H1 (R1.put h3 r1.put) st1.ext.le
 | t d=>exact go (fun _ z=>by cases z) h
 | b d=>exact go (fun _ z=>by cases z) h
 | s d=>exact go (fun _ z=>by cases z) h
 | f d=>exact go (fun _ z=>by cases z) h
 | x cx kx=>exact go (fun _ z=>by cases z) h
 | v d=>exact go (fun _ z=>by cases z) h
def Vd {pos':Pos}(hN:X.N.Nodup) (hi:X.N[i]? =some x) (hx:Loc X.env.scope x) (he:JE X e g) (hs:swapsWith e (some (.Name x pos')) pos.line X.env=pure false:=by rfl)
  (hf:X.fn x=true\/X.env.scope.names.lookup x=some .local:=by first | exact .inl rfl | exact .inr rfl | assumption):JS X (.Assign [.Name x pos'] e pos) (bR i g):=
 ⟨fun B=>(Mt hN hi hx (he.h B) hs hf).imp fun D σ H h=>QE h⟩
def jG (he:JE X e g) (hs:swapsWith e none pos.line X.env=pure false:=by rfl):JS X (.Expr e pos) (mH g):=⟨fun B=>(P4 (he.h B) hs).imp fun D σ H hh=>by
 obtain⟨S,F,o,R,h,k⟩:=hh;obtain⟨⟨u,S1⟩,h1,h⟩:=aB h;subst h;exact⟨S,F,u,S1,R,h1,fun v F1 H1 R1 st1 r1=>k σ F1 H1 R1 st1.ext.le⟩⟩
def Rel.drop {F:Hp}{o:MO}(R:Rel K B S σ F H) (h:S[i]? =some (some (.m o))):Rel K B (S.set i none) σ F H:=by
 have back:∀{j w},(S.set i none)[j]? =some (some w)->i≠j/\S[j]? =some (some w):=fun {j w} z=>by
  rcases get_set z with⟨_,q,_⟩ | q
  ·cases q
  ·exact q
 refine⟨R.sub,by rw[acn];exact R.len,fun j w z=>R.rep j w (back z).2,fun j k w1 w2 a h1 m1 h2 m2=>R.Ho j k w1 w2 a (back h1).2 m1 (back h2).2 m2,fun j o a z=>R.own j o a (back z).2,fun j o a z=>R.bor j o a (back z).2,fun j a z=>?_,R.ext⟩;obtain⟨k1,o',k2⟩:=R.par j a z;have ne:i≠j:=fun z=>by subst z;rw[h] at k2;cases k2
 exact⟨k1,o',by rw[aaG ne];exact k2⟩
def bz (he:JE X e g):JS X (.Return (some e) pos) (cz g):=⟨fun B=>(Uy (he.h B)).imp fun D σ H hh=>by
 obtain⟨S,F,o,R,h,k⟩:=hh;obtain⟨⟨u,S1⟩,h1,h⟩:=aj h;refine⟨S,F,u,S1,R,h1,fun v F1 H1 R1 st1 r1=>?_⟩;cases u with
 | t d=>cases h;exact k v σ F1 H1 R1 st1.ext.le r1
 | b d=>cases h;cases r1
 | s d=>cases h
 | f d=>cases h
 | x cx kx=>cases h
 | m o'=>cases h;exact k v σ F1 H1 R1 st1.ext.le (by obtain⟨a,e,h0,f,h,n,hB⟩:=r1;exact⟨a,e,hB,f,h,n,hB⟩)
 | v i=>
  obtain⟨hv,w,hw⟩:=r1;dsimp only at h;rw[hw] at h;obtain⟨v',z1,z2⟩:=R1.rep i w hw;rw[hv] at z1;cases z1;cases w with
  | t d=>cases h;exact k v σ F1 H1 R1 st1.ext.le z2
  | b d=>cases h
  | v d=>cases h
  | s d=>cases h
  | f d=>cases h
  | x cx kx=>cases h
  | m o'=>
   cases h;obtain⟨a,rfl,f,ha⟩:=z2;have hB:=R1.own i o' a hw hv;refine k _ σ F1 H1 (R1.drop hw) st1.ext.le ⟨a,rfl,hB,f,ha,fun hh=>?_,hB⟩;obtain⟨j,w,z,hm,hj⟩:=hh;rcases get_set z with⟨_,q,_⟩ | ⟨ne,q⟩
   ·cases q
   ·exact ne (R1.Ho i j _ w a hw rfl q hm hv hj)⟩
def cA (hc:JT X c q1) (ha:JB X b1 s1) (hb:JB X b2 s2):JS X (.If c b1 b2 pos) (ji q1 s1 s2):=⟨fun B=>(X3 (hc.h B) (ha.h B) (hb.h B)).imp fun D σ H hh=>by
 obtain⟨S,F,o,R,h,k⟩:=hh;obtain⟨⟨d,S1⟩,h1,h⟩:=aj h;refine⟨S,F,d,S1,R,h1,fun F1 H1 R1 st1=>?_⟩;cases d with
 | true=>exact Fe ⟨S1,F1,o,R1,h,k.mono st1.ext.le⟩
 | false=>exact Fd ⟨S1,F1,o,R1,h,k.mono st1.ext.le⟩⟩
abbrev GB:=D->SS->Option SS
inductive tBd (K:AAD) (B:Base) (bd:GB) (v:V) (σ:St) (H:Hp) (Q:St->Hp->Prop):Prop
 | mk (S:SS) (F:Hp) (d:D) (S':SS) (R:Rel K B S σ F H) (r:Rep F v d) (hg:bd d S=some S') (q:∀σ',Rel K B S' σ' F H->Q σ' H)
structure JG (X:Cx) (tg:Expr) (bd:GB):Prop where
 h:∀B,PG X tg (tBd X.K B bd)
abbrev Pz:=List D->SS->Option SS
inductive acv (K:AAD) (B:Base) (bd:Pz) (vs:List V) (σ:St) (H:Hp) (Q:St->Hp->Prop):Prop
 | mk (S:SS) (F:Hp) (ds:List D) (S':SS) (R:Rel K B S σ F H) (r:bY F vs ds) (hg:bd ds S=some S') (q:∀σ',Rel K B S' σ' F H->Q σ' H)
structure JGs (X:Cx) (M8:BBC) (bd:Pz):Prop where
 h:∀B,Ti X M8 (acv X.K B bd)
def PG.imp {t t':TG}(h:PG X tg t) (k:∀v σ H Q,t' v σ H Q->t v σ H Q):PG X tg t':=fun pins s σ H v u Q I r q=>h pins s σ H v u Q I r (k v σ H Q q)
def Ti.imp {tg:BBC}{t t':Th}(h:Ti X tg t) (k:∀v σ H Q,t' v σ H Q->t v σ H Q):Ti X tg t':=fun pins s σ H v u Q I r q=>h pins s σ H v u Q I r (k v σ H Q q)
def bName (i:Nat):GB:=fun d S=>sY i (.t d) S
def QF (hN:X.N.Nodup) (hi:X.N[i]? =some x) (hx:Loc X.env.scope x) (hf:X.fn x=true\/X.env.scope.names.lookup x=some .local:=by first | exact .inl rfl | exact .inr rfl | assumption):JG X (.Name x pos) (bName i):=
 ⟨fun B=>(IL hN hi hx hf).imp fun v σ H Q ⟨S,F,d,S',R,r,h,k⟩=>k _ (R.put h r)⟩
noncomputable def M9:Pz:=fun ds S=>match ds with
 | []=>some S
 | _=>none
noncomputable def Be (b:GB) (bs:Pz):Pz:=fun ds S=>match ds with
 | d :: r=>(b d S).bind fun S1=>bs r S1
 | []=>none
def QG:JGs X [] M9:=⟨fun B=>P5.imp fun vs σ H Q hh=>by
 obtain⟨S,F,ds,S',R,r,h,k⟩:=hh;cases r with
 | nil=>cases h;exact⟨rfl,k σ R⟩
 | cons _ _=>cases h⟩
def Fo {YM:Pz}(h1:JG X tg bd) (h2:JGs X M8 YM) (hs:(assignEach (tg :: M8) X.env).map (·.2)=assign tg X.env :: (assignEach M8 X.env).map (·.2):=by rfl):JGs X (tg :: M8) (Be bd YM):=
 ⟨fun B=>(Mr (h1.h B) (h2.h B) hs).imp fun vs σ H Q hh=>by
 obtain⟨S,F,ds,S',R,r,h,k⟩:=hh;cases r with
 | nil=>cases h
 | cons r rs=>
  obtain⟨S1,e1,h⟩:=aj h;exact⟨_,_,rfl,S,F,_,S1,R,r,e1,fun σ1 R1=>⟨S1,F,_,S',R1,rs,h,k⟩⟩⟩
noncomputable def K0 (n:Nat) (bs:Pz):GB:=fun d S=>match d with
 | .tup ds=>if ds.length=n then bs ds S else none
 | _=>none
def Ve {k0:Nat}{YM:Pz}(hc:X.calm=true) (h:JGs X M8 YM) (hn:(assignEach M8 X.env).length=n:=by rfl) (hst:(assignEach M8 X.env).findIdx? (·.1)=none:=by rfl):JG X (.Tuple M8 k0 pos) (K0 n YM):=
 ⟨fun B=>(UA hc (h.h B) hn hst).imp fun v σ H Q hh=>by
 obtain⟨S,F,d,S',R,r,h,k⟩:=hh;cases d <;> try (cases h)
 rename_i ds;unfold K0 at h;dsimp only at h;split at h
 ·rename_i hl;obtain⟨a,vs,rfl,fa,ha,rs⟩:=R.sub.sQ r;exact⟨a,vs,rfl,.inl ha,by rw[rs.length];exact hl,S,F,ds,S',R,rs,h,k⟩
 ·cases h⟩
noncomputable def QH (bd:GB) (g:GD):GS:=fun S=>(g S).bind fun p=>(bd p.1 p.2).map .nx
def Vf {gd:GD}(he:JD X e gd) (hg:JG X tg bd) (hs:swapsWithSole [tg] e pos.line X.env=pure false:=by rfl) (hw:swappedStores [tg] e X.env=pure none:=by rfl)
  (h1:(assignEach [tg] X.env).map (·.2)=[assign tg X.env]:=by rfl):JS X (.Assign [tg] e pos) (QH bd gd):=
 ⟨fun B=>(GQ (he.h B) (hg.h B) hs hw h1).imp fun D σ H hh=>by
 obtain⟨S,F,o,R,h,k⟩:=hh;obtain⟨⟨d,S1⟩,e1,h⟩:=aj h;obtain⟨S2,e2,h⟩:=aB h;subst h;exact⟨S,F,d,S1,R,e1,fun v F1 H1 R1 st1 r1=>⟨S1,F1,d,S2,R1,r1,e2,fun σ' R2=>k σ' F1 H1 R2 st1.ext.le⟩⟩⟩
def Walk (J:It) (F:Hp) (ds:List D):Prop:=∀F' H',(∀b o,F b=some o->F' b=some o)->Sub F' H'->∀i,(∀d,ds[i]? =some d->J.go i H'/\∀x H2,J.Tj i H' x H2->H2=H'/\Rep F' x d)/\(ds.length<=i->J.stop i H')
abbrev GI:=SS->Option (List D×SS)
inductive tIt (K:AAD) (B:Base) (gi:GI) (σ:St) (H:Hp) (Q:It->Hp->Prop):Prop
 | mk (S:SS) (F:Hp) (ds:List D) (S':SS) (R:Rel K B S σ F H) (hg:gi S=some (ds,S')) (q:∀J F' H',Rel K B S' σ F' H'->Step S S' σ F H F' H'->Walk J F' ds->Q J H')
structure JI (X:Cx) (tg e:Expr) (gi:GI):Prop where
 h:∀B,PI X tg e (tIt X.K B gi)
def PI.orelse {wi:TI}(h:∀σ H R,wi σ H R->∃wi',PI X tg e wi'/\wi' σ H R):PI X tg e wi:=fun pins s σ H R I q=>let⟨_,h1,h2⟩:=h σ H R q;h1 pins s σ H R I h2
noncomputable def sZ (g:GD):GI:=fun S=>(g S).bind fun p=>match p.1 with
 | .tup ds=>some (ds,p.2)
 | .lst ds=>some (ds,p.2)
 | .str z=>some (z.cps.toList.map fun c=>.str ⟨#[c]⟩,p.2)
 | _=>none
def K1 {F:Hp}{a:Addr}(fa:Rd F a (.lst vs)) (rs:bY F vs ds):Walk (Itl K a) F ds:=fun F' H' le sb i=>by
 have ha:yV K H' a vs:=.inl (fa.imp (fun z=>sb a _ (le _ _ z)) fun⟨o,z⟩=>⟨o,sb a _ (le _ _ z)⟩);refine⟨fun d hd=>?_,fun hl=>⟨vs,ha,by rw[rs.length];exact hl⟩⟩;obtain⟨v,h1,h2⟩:=rs.get hd;refine⟨⟨vs,v,ha,h1⟩,fun x H2 y=>⟨y.1,?_⟩⟩;have:=y.2 vs ha;rw[h1] at this;cases this;exact h2.le le
def Na {F:Hp}{a:Addr}(fa:F a=some (.tup vs)) (rs:bY F vs ds):Walk (Itt K a) F ds:=fun F' H' le sb i=>by
 have ha:B7 K H' a vs:=.inl (Rd.of (sb a _ (le _ _ fa)));refine⟨fun d hd=>?_,fun hl=>⟨vs,ha,by rw[rs.length];exact hl⟩⟩;obtain⟨v,h1,h2⟩:=rs.get hd;refine⟨⟨vs,v,ha,h1⟩,fun x H2 y=>⟨y.1,?_⟩⟩;have:=y.2 vs ha;rw[h1] at this;cases this;exact h2.le le
def Nc {F:Hp}:Walk (Its z) F (z.cps.toList.map fun c=>.str ⟨#[c]⟩):=fun F' H' le sb i=>by
 refine⟨fun d hd=>?_,fun hl=>(show z.cps.size<=i by simpa using hl)⟩;rw[abi] at hd;obtain⟨c,hc,rfl⟩:=aB hd;have hc':z.cps[i]? =some c:=by rw[<-Array.getElem?_toList];exact hc
 refine⟨(ab2.mp hc').1,fun x H2 y=>⟨y.1,?_⟩⟩;obtain⟨c2,k1,rfl⟩:=y.2;rw[hc'] at k1;cases k1;exact .str _
def rA {gd:GD}(h:JD X e gd):JI X (.Name x pos) e (sZ gd):=⟨fun B=>PI.orelse fun σ H R0 hh=>by
 obtain⟨S,F,ds,S',R,hg,k⟩:=hh;obtain⟨⟨d,S1⟩,h1,hg⟩:=aj hg;cases d <;> try (cases hg)
 ·refine⟨_,U8 (h.h B),S,F,_,_,R,h1,fun v F1 H1 R1 st1 r1=>?_⟩;exact⟨_,Jg r1,k _ F1 H1 R1 st1 Nc⟩
 ·refine⟨_,UC (h.h B),S,F,_,_,R,h1,fun v F1 H1 R1 st1 r1=>?_⟩;obtain⟨a,vs,rfl,fa,ha,rs⟩:=R1.sub.sQ r1;exact⟨a,rfl,⟨vs,.inl ha⟩,k _ F1 H1 R1 st1 (Na fa rs)⟩
 ·refine⟨_,P6 (h.h B),S,F,_,_,R,h1,fun v F1 H1 R1 st1 r1=>?_⟩;obtain⟨a,vs,rfl,fa,ha,rs⟩:=R1.sub.mG r1;exact⟨a,rfl,⟨vs,.inl ha⟩,k _ F1 H1 R1 st1 (K1 fa rs)⟩⟩
noncomputable def B6 (lo:Int) (n:Nat):List D:=(List.range n).map fun(k:Nat)=>D.int (lo+(k:Int))
def ya (gA:GA):GI:=fun S=>(gA S).bind fun p=>match p.1 with
 | [.int j]=>if j < 1000000/\-1000000 < j then some (B6 0 j.toNat,p.2) else none
 | _=>none
def Nd {F:Hp}{lo:Int}:Walk (Itr lo n) F (B6 lo n):=fun F' H' le sb i=>by
 refine⟨fun d hd=>?_,fun hl=>(show n<=i by simpa[B6] using hl)⟩;unfold B6 at hd;rw[abi] at hd;obtain⟨c,hc,rfl⟩:=aB hd;obtain⟨hl,e⟩:=aay.mp hc;rw[List.getElem_range] at e;subst e;refine⟨show i < n by simpa using hl,fun x H2 y=>⟨y.1,?_⟩⟩;rw[y.2];exact .int _
def za {gA:GA}(hg:Gl X "range") (hm:X.mg "range" =none) (ha:JA X [a] gA) (hs:starEach [a] X.env=[(false,eval a X.env)]:=by rfl):JI X tg (.Call (.Name "range" p) [a] [] pos) (ya gA):=
 ⟨fun B=>PI.orelse fun σ H R0 hh=>by
 obtain⟨S,F,ds,S',R,hg',k⟩:=hh;obtain⟨⟨d,S1⟩,h1,hg'⟩:=aj hg';refine⟨_,KA hg hm (ha.h B) hs,S,F,d,S1,R,h1,fun vs F1 H1 R1 st1 r1=>?_⟩;dsimp only at hg';split at hg'
 ·split at hg'
  ·rename_i j hj;cases hg';cases r1 with
   | cons r rs=>
    cases rs;exact⟨j,by rw[i8 r],by lia,by lia,k _ F1 H1 R1 st1 Nd⟩
  ·cases hg'
 ·cases hg'⟩
noncomputable def loop (bd:GB) (body:GS):List D->SS->Option Out
 | [],S=>some (.nx S)
 | d :: ds,S=>(bd d S).bind fun S1=>(body S1).bind fun o=>match o with
  | .nx S2=>loop bd body ds S2
  | .ct S2=>loop bd body ds S2
  | .bk S2=>some (.nx S2)
  | .rt u S2=>some (.rt u S2)
def uc (bd:GB) (gi:GI) (body:GS):GS:=fun S=>(gi S).bind fun p=>loop bd body p.1 p.2
def wC (hp:PassesOwn (model X.prog X.w) X.A X.env X.xe) (hc:X.calm=true) (hi:JI X tg iter gi) (hg:JG X tg bd) (hb:JB X body s1) (hs:∀x,foldedSetIterable iter X.env x=pure x:=by intro _;rfl):
  JS X (.For tg iter body [] pos) (uc bd gi s1):=⟨fun B=>(UD hp hc (hi.h B) (hg.h B) (hb.h B) hs).imp fun D σ H hh=>by
 obtain⟨S,F,o,R,h,k⟩:=hh;obtain⟨⟨ds,S1⟩,h1,h⟩:=aj h;refine⟨S,F,ds,S1,R,h1,fun J F1 H1 R1 st1 w=>?_⟩;refine⟨fun i m σ' H'=>∃S' F',Rel X.K B S' σ' F' H'/\(∀b o,F1 b=some o->F' b=some o)/\i<=ds.length/\m=ds.length - i/\loop bd s1 (ds.drop i) S'=some o,⟨_,S1,F1,R1,fun _ _ z=>z,acI _,rfl,h⟩,?_⟩;rintro i m σ' H' ⟨S',F',R',le,hl,rfl,nq⟩;have w':=w F' H' le R'.sub i;by_cases hlt:i < ds.length
 ·have hd:ds[i]? =some ds[i]:=abu hlt;obtain⟨go,yl⟩:=w'.1 _ hd;rw[acG hlt] at nq;obtain⟨S2,e2,nq⟩:=aj nq;obtain⟨o2,e3,nq⟩:=aj nq;refine .inr ⟨go,_,fun σ2 H2 n=>⟨ds.length - (i+1),by lia,n⟩,fun x H2 y=>?_⟩;obtain⟨rfl,rx⟩:=yl x H2 y;refine⟨S',F',_,S2,R',rx,e2,fun σ3 R3=>⟨S2,F',o2,R3,e3,?_⟩⟩;cases o2 with
  | nx S3=>exact fun QI F4 H4 R4 K2=>⟨S3,F4,R4,fun b o z=>K2 b o (le b o z),hlt,rfl,nq⟩
  | ct S3=>exact fun QI F4 H4 R4 K2=>⟨S3,F4,R4,fun b o z=>K2 b o (le b o z),hlt,rfl,nq⟩
  | bk S3=>cases nq;exact fun QI F4 H4 R4 K2=>k QI F4 H4 R4 fun b o z=>K2 b o (le b o (st1.ext.le b o z))
  | rt u S3=>cases nq;exact fun v QI F4 H4 R4 K2=>k v QI F4 H4 R4 fun b o z=>K2 b o (le b o (st1.ext.le b o z))
 ·have e:i=ds.length:=by lia
  subst e;rw[afg] at nq;cases nq;exact .inl ⟨w'.2 (aap _),k σ' F' H' R' fun b o z=>le b o (st1.ext.le b o z)⟩⟩
end
noncomputable def Xo:U->MO->Option U
 | .m _,o=>some (.m o)
 | .b _,o=>some (.b o)
 | _,_=>none
noncomputable def TM:U->Option MO
 | .m o=>some o
 | .b o=>some o
 | _=>none
noncomputable def yc (S:SS) (i:Nat) (f:MO->Option (D×MO)):Option (D×SS):=match S[i]? with
 | some (some (.m o))=>(f o).map fun r=>(r.1,S.set i (some (.m r.2)))
 | some (some (.b o))=>(f o).map fun r=>(r.1,S.set i (some (.b r.2)))
 | _=>none
def At.YN {F:Hp}{o:MO}{ob:Obj}{u:HO}(h:At F H a o):H a≠some (.mZ ob u):=fun z=>by
 cases o with
 | lst ds=>obtain⟨vs,e,_⟩:=h;rw[z] at e;cases e
 | dct ds=>obtain⟨vs,e,_⟩:=h;rw[z] at e;cases e
 | CQ ds=>obtain⟨vs,e,_⟩:=h;rw[z] at e;cases e
 | ins C ds=>obtain⟨vs,⟨dx,e⟩,_⟩:=h;rw[z] at e;cases e
 | gap ds=>obtain⟨vs,e,_⟩:=h;rw[z] at e;cases e
 | lat c ds=>obtain⟨vs,⟨_,e⟩,_⟩:=h;rw[z] at e;cases e
 | Px c ds=>obtain⟨vs,⟨_,e⟩,_⟩:=h;rw[z] at e;cases e
 | Py C ds=>obtain⟨vs,⟨dx,e⟩,_⟩:=h;rw[z] at e;cases e
def Cc.eO {F:Hp}{v:V}(r:Cc K F H v u) (hm:iH u=true):∃a o,v= .ref a/\F a=none/\TM u=some o/\At F H a o:=by
 cases u with
 | t d=>cases hm
 | v d=>cases hm
 | s d=>cases hm
 | f d=>cases hm
 | x cx kx=>cases hm
 | m o=>obtain⟨a,e,f,h⟩:=r;exact⟨a,o,e,f,rfl,h⟩
 | b o=>obtain⟨a,e,f,h⟩:=r;exact⟨a,o,e,f,rfl,h⟩
def Rel.write {F:Hp}{u':U}{ho:HO}{o:MO}(R:Rel K B S σ F H) (hS:S[i]? =some (some u)) (hu:Xo u o=some u') (hv:σ[i]? =some (some (.ref a))) (ha:At F (upd H a ho) a o):
  Rel K B (S.set i (some u')) σ F (upd H a ho)/\Step S (S.set i (some u')) σ F H F (upd H a ho):=by
 have hm:iH u=true/\iH u'=true:=by cases u <;> cases hu <;> exact⟨rfl,rfl⟩
 have YO:F a=none/\∀b ob w,H b=some (.mZ ob w)->b≠a:=by
  obtain⟨v,h1,h2⟩:=R.rep i u hS;rw[hv] at h1;cases h1;obtain⟨b,_,e,f,_,k⟩:=h2.eO hm.1;cases e;exact⟨f,fun b ob w z e=>k.YN (by rw[e] at z;exact z)⟩
 have Vg:=YO.1;have Xp:∀b ob w,H b=some (.mZ ob w)->upd H a ho b=some (.mZ ob w):=fun b ob w z=>by rw[aX (YO.2 b ob w z)];exact z
 have mAt:L2.eO S σ a:=⟨i,u,hS,hm.1,hv⟩
 have hl:i < S.length:=(aay.mp hS).1;have kb:∀{j w},(S.set i (some u'))[j]? =some (some w)->(i=j/\u'=w)\/(i≠j/\S[j]? =some (some w)):=fun {j w} z=>by
  rcases get_set z with⟨e,q,_⟩ | q
  ·exact .inl ⟨e,abh q⟩
  ·exact .inr q
 have orig:∀{j w},(S.set i (some u'))[j]? =some (some w)->iH w=true->∃w0,S[j]? =some (some w0)/\iH w0=true:=fun {j w} z hw=>by
  rcases kb z with⟨rfl,rfl⟩ | ⟨_,q⟩
  ·exact⟨u,hS,hm.1⟩
  ·exact⟨w,q,hw⟩
 have keepR:∀b o,b≠a->Rd H b o->Rd (upd H a ho) b o:=fun b o ne r=>by
  rcases r with r | ⟨ob,r⟩
  ·exact .inl (by rw[aX ne];exact r)
  ·exact .inr ⟨ob,by rw[aX ne];exact r⟩
 refine⟨⟨fun b o z=>by rw[aX (fun e=>by rw[e,Vg] at z;cases z)];exact R.sub b o z,by rw[acn];exact R.len,fun j w z=>?_,fun j k w1 w2 c z1 m1 z2 m2=>?_,fun j o' c z hc=>?_,fun j o' c z hc=>?_,fun j c z=>?_,?_⟩,⟨?_,fun c ⟨j,w,z,hw,hc⟩=>?_,fun j w z=>?_⟩⟩
 ·rcases kb z with⟨rfl,rfl⟩ | ⟨ne,q⟩
  ·refine⟨.ref a,hv,?_⟩;cases u <;> cases hu
   ·exact⟨a,rfl,Vg,ha⟩
   ·exact⟨a,rfl,Vg,ha⟩
  ·obtain⟨v,h1,h2⟩:=R.rep j w q;refine⟨v,h1,?_⟩;by_cases hw:iH w=true
   ·obtain⟨c,o',rfl,f,e,h⟩:=h2.eO hw;have hca:c≠a:=fun z=>ne (R.Ho i j u w a hS hm.1 q hw hv (by rw[h1,z]));have h':At F (upd H a ho) c o':=h.le (fun _ _ z=>z) fun o z=>by rw[aX hca];exact z
    cases w <;> cases hw <;> cases e
    ·exact⟨c,rfl,f,h'⟩
    ·exact⟨c,rfl,f,h'⟩
   ·cases w with
    | t d=>exact h2
    | v d=>exact h2
    | s d=>obtain⟨c,e,h⟩:=h2;exact⟨c,e,h.le Xp⟩
    | f d=>exact h2
    | x cx kx=>exact h2
    | m o=>exact absurd rfl hw
    | b o=>exact absurd rfl hw
 ·obtain⟨w1',q1,n1⟩:=orig z1 m1;obtain⟨w2',q2,n2⟩:=orig z2 m2;exact R.Ho j k w1' w2' c q1 n1 q2 n2
 ·rcases kb z with⟨rfl,rfl⟩ | ⟨_,q⟩
  ·cases u <;> cases hu
   exact R.own _ _ c hS hc
  ·exact R.own j o' c q hc
 ·rcases kb z with⟨rfl,rfl⟩ | ⟨_,q⟩
  ·cases u <;> cases hu
   exact R.bor _ _ c hS hc
  ·exact R.bor j o' c q hc
 ·obtain⟨k1,o',k2⟩:=R.par j c z;refine⟨k1,?_⟩;by_cases e:i=j
  ·subst e;rw[hS] at k2;cases k2;cases hu;exact⟨o,abv hl⟩
  ·exact⟨o',by rw[aaG e];exact k2⟩
 ·refine⟨R.ext.le,fun b o z n=>?_,R.ext.m8,fun b o z=>?_,fun b o w z=>Xp b o w (R.ext.mZ b o w z)⟩
  ·have hb:b≠a:=fun e=>by
    subst e;cases u with
    | m o'=>rw[R.own i o' b hS hv] at z;cases z
    | b o'=>exact n (R.bor i o' b hS hv)
    | t d=>cases hu
    | v d=>cases hu
    | s d=>cases hu
    | f d=>cases hu
    | x cx kx=>cases hu
   rw[aX hb];exact R.ext.keep b o z n
  ·by_cases hb:b=a
   ·exact⟨ho,by rw[hb,aY]⟩
   ·rw[aX hb];exact R.ext.there b o z
 ·refine⟨fun _ _ z=>z,fun b o z n=>?_,fun _ _ _ _ z=>z,fun b o z=>?_,Xp⟩
  ·rw[aX (fun e=>n (by rw[e];exact mAt))];exact z
  ·by_cases hb:b=a
   ·exact⟨ho,by rw[hb,aY]⟩
   ·exact⟨o,by rw[aX hb];exact z⟩
 ·obtain⟨w0,q,n⟩:=orig z hw;exact⟨j,w0,q,n,hc⟩
 ·by_cases e:i=j
  ·subst e;exact⟨u',abv hl⟩
  ·exact⟨w,by rw[aaG e];exact z⟩
def vf {f:MO->Option (D×MO)}{d:D}(h:yc S i f=some (d,S')):∃u u' o o',S[i]? =some (some u)/\iH u=true/\TM u=some o/\f o=some (d,o')/\Xo u o'=some u'/\S'=S.set i (some u'):=by
 unfold yc at h;split at h
 ·rename_i o e;obtain⟨⟨d',o'⟩,h1,h⟩:=aB h;cases h;exact⟨_,_,o,o',e,rfl,rfl,h1,rfl,rfl⟩
 ·rename_i o e;obtain⟨⟨d',o'⟩,h1,h⟩:=aB h;cases h;exact⟨_,_,o,o',e,rfl,rfl,h1,rfl,rfl⟩
 ·cases h
def MtP (r:V->List V->Hp->VK->Prop) (h:List D->MO->Option (D×MO)):Prop:=
 ∀F H a vs xs ds args res o',Sub F H->H a=some (.lst vs)->F a=none->bY F vs ds->bY F xs args->h args (.lst ds)=some (res,o')->
  ∀Q:VK,(∀rv ho,Rep F rv res->At F (upd H a ho) a o'->Q rv (upd H a ho))->r (.ref a) xs H Q
noncomputable def gM:MO->Bool
 | .lst _=>true
 | _=>false
noncomputable def Vh (S:SS) (i:Nat):Bool:=match S[i]? with
 | some (some (.m (.lst _)))=>true
 | some (some (.b (.lst _)))=>true
 | _=>false
def Vi {F:Hp}(R:Rel K B S σ F H) (h:Vh S i=true):∃u a vs ds,S[i]? =some (some u)/\iH u=true/\TM u=some (.lst ds)/\σ[i]? =some (some (.ref a))/\F a=none/\H a=some (.lst vs)/\bY F vs ds:=by
 unfold Vh at h;split at h
 ·rename_i ds e;obtain⟨v,k1,a,rfl,f,vs,k2,k3⟩:=R.rep i _ e;exact⟨_,a,vs,ds,e,rfl,rfl,k1,f,k2,k3⟩
 ·rename_i ds e;obtain⟨v,k1,a,rfl,f,vs,k2,k3⟩:=R.rep i _ e;exact⟨_,a,vs,ds,e,rfl,rfl,k1,f,k2,k3⟩
 ·cases h
def eM (i:Nat) (h:List D->MO->Option (D×MO)) (gA:GA):GD:=fun S=>if Vh S i then(gA S).bind fun p=>yc p.2 i (h p.1) else none
def Nf {F:Hp}(R:Rel K B S σ F H) (hS:S[i]? =some (some u)) (hm:iH u=true) (hi:TM u=some (.lst ds)) (hv:σ[i]? =some (some (.ref a))):F a=none/\∃vs,H a=some (.lst vs)/\bY F vs ds:=by
 obtain⟨v,k1,k2⟩:=R.rep i u hS;rw[hv] at k1;cases k1;obtain⟨b,o2,e1,f,e2,k⟩:=k2.eO hm;cases e1;rw[hi] at e2;cases e2;exact⟨f,k⟩
section
variable {X:Cx}{a e:Expr}{es:BBC}{apos cpos px:Pos}{x name:Str}{gA:GA}{id:String}
def DR {r:V->List V->Hp->VK->Prop}{h:List D->MO->Option (D×MO)}(slot:Slot "list" name id) (hty:typeOf (.builtin id)=pure (.type "method_descriptor")) (hm:MtR X id r) (hh:MtP r h) (hl:∀args o,gM o=false->h args o=none) (ha:JA X (e :: es) gA)
  (hN:X.N[i]? =some x:=by rfl) (hv:xN X.env.scope x:=by first | exact Or.inl rfl | exact Or.inr (Or.inl rfl) | exact Or.inr (Or.inr rfl))
  (hbase:attributeBase (.Name x px) name X.env (eval (.Name x px) X.env)=eval (.Name x px) X.env:=by rfl)
  (hfew:((backTo cpos (starEach (e :: es) X.env)).all (fun x=>!x.1) && (backToKw cpos (keywordEach [] X.env)).all (fun x=>x.1.isSome)
   && decide ((e :: es).length+([]:BBI).length+(if([]:BBI).isEmpty then 0 else 1) < 30))=true:=by rfl)
  (hline:(apos.endLine == cpos.line)=true:=by rfl) (hs:starEach (e :: es) X.env=(false,eval e X.env) :: starEach es X.env:=by rfl) (hplain:(backTo cpos (starEach es X.env)).any (·.1)=false:=by rfl)
  (hd:BBT x:=by decide) (hcd:BBU x:=by decide):
  JD X (.Call (.Attribute (.Name x px) name apos) (e :: es) [] cpos) (eM i h gA):=
 ⟨fun B=>(Yz PySem.F.plainAttrs_list slot hty hm (eL hN hv hd hcd) (ha.h B) hbase hfew hline hs hplain).imp fun σ H Q hh=>by
 obtain⟨S,F,d,S',R,hg,q⟩:=hh;unfold eM at hg;split at hg
 ·rename_i hL;obtain⟨⟨args,S1⟩,h1,hg⟩:=aj hg;obtain⟨u,u',o,o',hS,ET,hio,hf,PB,rfl⟩:=vf hg;obtain⟨u0,a,vs0,ds0,_,_,_,hv0,_,hH,_⟩:=Vi R hL;cases o with
  | dct kvs=>rw[hl _ _ rfl] at hf;cases hf
  | CQ kvs=>rw[hl _ _ rfl] at hf;cases hf
  | ins C kvs=>rw[hl _ _ rfl] at hf;cases hf
  | gap _=>rw[hl _ _ rfl] at hf;cases hf
  | lat _ _=>rw[hl _ _ rfl] at hf;cases hf
  | Px _ _=>rw[hl _ _ rfl] at hf;cases hf
  | Py _ _=>rw[hl _ _ rfl] at hf;cases hf
  | lst ds=>
   refine⟨.ref a,hv0,.inl ⟨rfl,vs0,yV.of hH⟩,S,F,args,S1,R,h1,fun xs F1 H1 R1 st1 r1=>?_⟩;obtain⟨hf1,vs,hH1,rs⟩:=Nf R1 hS ET hio hv0;refine hh F1 H1 a vs xs ds args d o' R1.sub hH1 hf1 rs r1 hf Q fun rv ho rr ha=>?_;obtain⟨R2,st2⟩:=R1.write hS PB hv0 ha;exact q rv F1 _ R2 (st1.trans st2) rr
 ·cases hg⟩
noncomputable def hAppend:List D->MO->Option (D×MO)
 | [d],.lst ds=>if ds.length < 100000 then some (.cM,.lst (ds++[d])) else none
 | _,_=>none
def CT:MtP Jc hAppend:=by
 intro F H a vs xs ds args res o' sb hH fa rs rx hw Q q;unfold hAppend at hw;split at hw
 ·rename_i d ds' e2;cases e2;split at hw
  ·rename_i hl;cases hw;cases rx with
   | cons r rr=>
    cases rr;exact⟨a,vs,_,rfl,rfl,hH,by rw[rs.length];exact aau hl (by decide),q .cM _ .cM ⟨_,aY,rs.append (.cons r .nil)⟩⟩
  ·cases hw
 ·cases hw
end
def jF.step {F:Hp}{v:V}(r:jF K B S σ H0 F H v u) (st:Step S S' σ F H F' H'):jF K B S' σ H0 F' H' v u:=by
 cases u with
 | t d=>exact r.le st.ext.le
 | b o=>exact r
 | v i=>obtain⟨h1,u,h2⟩:=r;exact⟨h1,st.slots i u h2⟩
 | s i=>obtain⟨a,e,h⟩:=r;exact⟨a,e,h.le st.ext.mZ⟩
 | f i=>exact r
 | x cx kx=>exact sX.le st.ext.le r
 | m o=>
  obtain⟨a,e,h0,f,h,n,hB⟩:=r;obtain⟨ho,hh⟩:=h.has;exact⟨a,e,h0,st.ext.m8 a ho hh n f,h.le st.ext.le fun o z=>st.ext.keep a o z n,fun m=>n (st.mu a m),hB⟩
abbrev GU:=SS->Option (List U×SS)
inductive tAU (K:AAD) (B:Base) (gu:GU) (σ:St) (H:Hp) (Q:List V->Hp->Prop):Prop
 | mk (S:SS) (F:Hp) (us:List U) (S':SS) (R:Rel K B S σ F H) (hg:gu S=some (us,S')) (q:∀vs F' H',Rel K B S' σ F' H'->Step S S' σ F H F' H'->Paired (fun v u=>jF K B S' σ H F' H' v u) vs us->Q vs H')
structure JU (X:Cx) (es:BBC) (gu:GU):Prop where
 h:∀B,PA X es (tAU X.K B gu)
 len:∀S us S',gu S=some (us,S')->us.length=es.length
noncomputable def aE:GU:=fun S=>some ([],S)
noncomputable def aH (g:GD) (gu:GU):GU:=fun S=>(g S).bind fun p=>(gu p.2).map fun q=>(.t p.1 :: q.1,q.2)
noncomputable def eU (g:GE) (gu:GU):GU:=fun S=>(g S).bind fun p=>(gu p.2).map fun q=>(p.1 :: q.1,q.2)
section
variable {X:Cx}{e:Expr}{es:BBC}{g:GD}{ge:GE}{gu:GU}
def aT:JU X [] aE:=⟨fun B=>tV.imp fun σ H Q hh=>by
 obtain⟨S,F,us,S',R,hg,q⟩:=hh;cases hg;exact q [] F H R (Step.refl ..) .nil,fun S us S' h=>by cases h;rfl⟩
def aF (h:JD X e g) (hr:JU X es gu) (hs:starEach (e :: es) X.env=(false,eval e X.env) :: starEach es X.env:=by rfl):JU X (e :: es) (aH g gu):=
 ⟨fun B=>(j9 (h.h B) (hr.h B) hs).imp fun σ H Q hh=>by
 obtain⟨S,F,us,S',R,hg,q⟩:=hh;obtain⟨⟨d,S1⟩,h1,hg⟩:=aj hg;obtain⟨⟨Vj,S2⟩,h2,hg⟩:=aB hg;cases hg;exact⟨S,F,d,S1,R,h1,fun v F1 H1 R1 st1 r1=>⟨S1,F1,Vj,S2,R1,h2,fun vs F2 H2 R2 st2 r2=>q _ F2 H2 R2 (st1.trans st2) (.cons (r1.le st2.ext.le) (Paired.Ks r2 fun _ _ z=>z.weak st1.ext.there))⟩⟩,
 fun S us S' hg=>by
  obtain⟨⟨d,S1⟩,h1,hg⟩:=aj hg;obtain⟨⟨Vj,S2⟩,h2,hg⟩:=aB hg;cases hg;show Vj.length+1=es.length+1;rw[hr.len _ _ _ h2]⟩
def cC (h:JE X e ge) (hr:JU X es gu) (hs:starEach (e :: es) X.env=(false,eval e X.env) :: starEach es X.env:=by rfl):JU X (e :: es) (eU ge gu):=
 ⟨fun B=>(j9 (h.h B) (hr.h B) hs).imp fun σ H Q hh=>by
 obtain⟨S,F,us,S',R,hg,q⟩:=hh;obtain⟨⟨d,S1⟩,h1,hg⟩:=aj hg;obtain⟨⟨Vj,S2⟩,h2,hg⟩:=aB hg;cases hg;exact⟨S,F,d,S1,R,h1,fun v F1 H1 R1 st1 r1=>⟨S1,F1,Vj,S2,R1,h2,fun vs F2 H2 R2 st2 r2=>q _ F2 H2 R2 (st1.trans st2) (.cons (r1.step st2) (Paired.Ks r2 fun _ _ z=>z.weak st1.ext.there))⟩⟩,
 fun S us S' hg=>by
  obtain⟨⟨d,S1⟩,h1,hg⟩:=aj hg;obtain⟨⟨Vj,S2⟩,h2,hg⟩:=aB hg;cases hg;show Vj.length+1=es.length+1;rw[hr.len _ _ _ h2]⟩
end
noncomputable def resolve (S:SS):U->Option U
 | .t d=>some (.t d)
 | .v i=>match S[i]? with
  | some (some (.m o))=>some (.b o)
  | some (some (.b o))=>some (.b o)
  | _=>none
 | .m o=>some (.b o)
 | .b _=>none
 | .s ns=>some (.s ns)
 | .f a=>some (.f a)
 | .x C k=>some (.x C k)
def bh (S:SS):List U->Option (List U)
 | []=>some []
 | u :: us=>(resolve S u).bind fun w=>(bh S us).map fun ws=>w :: ws
noncomputable def slotsOf:List U->BBJ
 | []=>[]
 | .v i :: us=>i :: slotsOf us
 | _ :: us=>slotsOf us
noncomputable def bE:List U->Nat
 | []=>0
 | .m _ :: us=>bE us+1
 | _ :: us=>bE us
noncomputable def wb:List U->List MO->SS->Option SS
 | [],[],S=>some S
 | .v i :: us,o :: outs,S=>match S[i]? with
  | some (some (.m _))=>wb us outs (S.set i (some (.m o)))
  | some (some (.b _))=>wb us outs (S.set i (some (.b o)))
  | _=>none
 | .m _ :: us,_ :: outs,S=>wb us outs S
 | .t _ :: us,outs,S=>wb us outs S
 | .s _ :: us,outs,S=>wb us outs S
 | .f _ :: us,outs,S=>wb us outs S
 | .x _ _ :: us,outs,S=>wb us outs S
 | _,_,_=>none
abbrev FM:=List U->Option (U×List MO)
def aZ (f:FM) (gu:GU):GE:=fun S=>(gu S).bind fun p=>
 if(slotsOf p.1).Nodup/\bE p.1<=1 then(bh p.2 p.1).bind fun us=>(f us).bind fun r=>(wb p.1 r.2 p.2).map fun S2=>(r.1,S2) else none
def K3 (K:AAD) (F H:Hp) (v:V):U->Prop
 | .s ns=>∃a,v= .ref a/\Qz K H a ns
 | .f a=>v= .ref a
 | .x C k=>sX F v C k
 | .t d=>Rep F v d
 | .b o=>∃a,v= .ref a/\F a=none/\At F H a o
 | _=>False
noncomputable def addrs:List V->List U->BBE
 | .ref a :: vs,.b _ :: us=>a :: addrs vs us
 | _ :: vs,_ :: us=>addrs vs us
 | _,_=>[]
structure Post (F H F' H':Hp) (as:BBE) (outs:List MO):Prop where
 sub:Sub F' H'
 ext:Ext (fun a=>a∈as) F H F' H'
 out:Paired (fun a o=>F' a=none/\At F' H' a o) as outs
def spT (K:AAD) (n:Nat) (f:FM):Sp:=fun vs H Q _=>vs.length=n/\∃F us r outs,Sub F H/\Paired (K3 K F H) vs us/\(addrs vs us).Nodup/\f us=some (r,outs)/\∀v F' H',Post F H F' H' (addrs vs us) outs->Hq H F' H' v r->Q v H'
section
variable {K:AAD}{B:Base}{S S1 S2:SS}{σ:St}{H0 F H:Hp}
def vg {w:U}(h:resolve S (.v i)=some w):∃u o,S[i]? =some (some u)/\iH u=true/\TM u=some o/\w= .b o:=by
 unfold resolve at h;dsimp only at h;split at h
 ·rename_i o e;cases h;exact⟨_,o,e,rfl,rfl,rfl⟩
 ·rename_i o e;cases h;exact⟨_,o,e,rfl,rfl,rfl⟩
 ·cases h
theorem rB (R:Rel K B S σ F H):∀{vs:List V}{us ws:List U},Paired (fun v u=>jF K B S σ H0 F H v u) vs us->bh S us=some ws->Paired (K3 K F H) vs ws
 | _,_,_,.nil,h=>by cases h;exact .nil
 | _,_,_,@Paired.cons _ _ _ v u vs us r rs,h=>by
  obtain⟨w,h1,h⟩:=aj h;obtain⟨ws,h2,h⟩:=aB h;subst h;refine .cons ?_ (rB R rs h2);cases u with
  | t d=>cases h1;exact r
  | s d=>cases h1;exact r
  | f d=>cases h1;exact r
  | x cx kx=>cases h1;exact r
  | b o=>cases h1
  | m o=>cases h1;obtain⟨a,e,_,f,k,_⟩:=r;exact⟨a,e,f,k⟩
  | v i=>
   obtain⟨u,o,hu,hm,hi,rfl⟩:=vg h1;obtain⟨hv,_⟩:=r;obtain⟨v',k1,k2⟩:=R.rep i u hu;rw[hv] at k1;cases k1;obtain⟨a,o2,e,f,e2,k⟩:=k2.eO hm;rw[hi] at e2;cases e2;exact⟨a,e,f,k⟩
def skT {v:V}{d:D}:addrs (v :: vs) (.t d :: us)=addrs vs us:=by cases v <;> rfl
def skS {v:V}{d:BBD}:addrs (v :: vs) (.s d :: us)=addrs vs us:=by cases v <;> rfl
def skX {v:V}{C:Addr}{k:List (Str×D)}:addrs (v :: vs) (.x C k :: us)=addrs vs us:=by cases v <;> rfl
def skF {v:V}{d:Addr}:addrs (v :: vs) (.f d :: us)=addrs vs us:=by cases v <;> rfl
theorem yg (R:Rel K B S σ F H):∀{vs:List V}{us ws:List U},Paired (fun v u=>jF K B S σ H0 F H v u) vs us->bh S us=some ws->∀a∈addrs vs ws,
  (∃i u,i∈slotsOf us/\S[i]? =some (some u)/\iH u=true/\σ[i]? =some (some (.ref a)))\/(0 < bE us/\H0 a=none/\B.H a=none/\¬eO S σ a)
 | _,_,_,.nil,h,a,ha=>by cases h;cases ha
 | _,_,_,@Paired.cons _ _ _ v u vs us r rs,h,a,ha=>by
  obtain⟨w,h1,h⟩:=aj h;obtain⟨ws,h2,h⟩:=aB h;subst h;have ih:=yg R rs h2;cases u with
  | t d=>
   cases h1;exact ih a (skT▸ha)
  | s d=>
   cases h1;exact ih a (skS▸ha)
  | f d=>
   cases h1;exact ih a (skF▸ha)
  | x cx kx=>
   cases h1;exact ih a (skX▸ha)
  | b o=>cases h1
  | m o=>
   cases h1;obtain⟨c,rfl,k0,f,k,n,hB⟩:=r;rcases aao.mp (show a∈c :: addrs vs ws from ha) with rfl | ha
   ·exact .inr ⟨Nat.succ_pos _,k0,hB,n⟩
   ·rcases ih a ha with z | ⟨_,z⟩
    ·exact .inl z
    ·exact .inr ⟨Nat.succ_pos _,z⟩
  | v i=>
   obtain⟨u,o,hu,hm,hi,rfl⟩:=vg h1;obtain⟨hv,_⟩:=r;obtain⟨v',k1,k2⟩:=R.rep i u hu;rw[hv] at k1;cases k1;obtain⟨c,o2,rfl,f,e2,k⟩:=k2.eO hm;rcases aao.mp (show a∈c :: addrs vs ws from ha) with rfl | ha
   ·exact .inl ⟨i,u,abf,hu,hm,hv⟩
   ·rcases ih a ha with⟨j,w,z,z2⟩ | z
    ·exact .inl ⟨j,w,aaz _ z,z2⟩
    ·exact .inr z
theorem dJ (R:Rel K B S σ F H):∀{vs:List V}{us ws:List U},Paired (fun v u=>jF K B S σ H0 F H v u) vs us->bh S us=some ws->(slotsOf us).Nodup->bE us<=1->(addrs vs ws).Nodup
 | _,_,_,.nil,h,_,_=>by cases h;exact aew
 | _,_,_,@Paired.cons _ _ _ v u vs us r rs,h,nd,fr=>by
  obtain⟨w,h1,h⟩:=aj h;obtain⟨ws,h2,h⟩:=aB h;subst h;cases u with
  | t d=>
   cases h1;rw[skT];exact dJ R rs h2 nd fr
  | s d=>
   cases h1;rw[skS];exact dJ R rs h2 nd fr
  | f d=>
   cases h1;rw[skF];exact dJ R rs h2 nd fr
  | x cx kx=>
   cases h1;rw[skX];exact dJ R rs h2 nd fr
  | b o=>cases h1
  | m o=>
   cases h1;have fr0:bE us=0:=by have:bE us+1<=1:=fr;lia
   obtain⟨c,rfl,k0,f,k,n,hB⟩:=r;refine aci.mpr ⟨fun hc=>?_,dJ R rs h2 nd (by lia)⟩;rcases yg R rs h2 c hc with⟨j,w,_,z1,z2,z3⟩ | ⟨z,_⟩
   ·exact n ⟨j,w,z1,z2,z3⟩
   ·lia
  | v i=>
   obtain⟨u,o,hu,hm,hi,rfl⟩:=vg h1;obtain⟨hv,_⟩:=r;obtain⟨v',k1,k2⟩:=R.rep i u hu;rw[hv] at k1;cases k1;obtain⟨c,o2,rfl,f,e2,k⟩:=k2.eO hm;obtain⟨nd1,nd2⟩:=aci.mp (show(i :: slotsOf us).Nodup from nd);refine aci.mpr ⟨fun hc=>?_,dJ R rs h2 nd2 fr⟩;rcases yg R rs h2 c hc with⟨j,w,z0,z1,z2,z3⟩ | ⟨_,_,_,z⟩
   ·have:=R.Ho i j u w c hu hm z1 z2 hv z3;subst this;exact nd1 z0
   ·exact z ⟨i,u,hu,hm,hv⟩
theorem rC (R:Rel K B S σ F H) (P:Addr->MO->Prop):∀{vs:List V}{us ws:List U}{outs:List MO}{S1 S2:SS},Paired (fun v u=>jF K B S σ H0 F H v u) vs us->bh S us=some ws->wb us outs S1=some S2->(slotsOf us).Nodup->Paired P (addrs vs ws) outs->
  S2.length=S1.length/\(∀j,j∉slotsOf us->S2[j]? =S1[j]?)/\∀j∈slotsOf us,∃u u' o a,S1[j]? =some (some u)/\Xo u o=some u'/\S2[j]? =some (some u')/\σ[j]? =some (some (.ref a))/\P a o
 | _,_,_,_,_,_,.nil,h,hw,_,hp=>by
  cases h;cases hp;cases hw;exact⟨rfl,fun _ _=>rfl,fun j hj=>by cases hj⟩
 | _,_,_,outs,S1,S2,@Paired.cons _ _ _ v u vs us r rs,h,hw,nd,hp=>by
  obtain⟨w,h1,h⟩:=aj h;obtain⟨ws,h2,h⟩:=aB h;subst h;cases u with
  | t d=>
   cases h1;rw[skT] at hp;have ih:=rC R P rs h2 (show wb us outs S1=some S2 by cases outs <;> exact hw) nd hp;exact ih
  | s d=>
   cases h1;rw[skS] at hp;have ih:=rC R P rs h2 (show wb us outs S1=some S2 by cases outs <;> exact hw) nd hp;exact ih
  | f d=>
   cases h1;rw[skF] at hp;have ih:=rC R P rs h2 (show wb us outs S1=some S2 by cases outs <;> exact hw) nd hp;exact ih
  | x cx kx=>
   cases h1;rw[skX] at hp;have ih:=rC R P rs h2 (show wb us outs S1=some S2 by cases outs <;> exact hw) nd hp;exact ih
  | b o=>cases h1
  | m o=>
   cases h1;obtain⟨c,rfl,k0,f,k,n,hB⟩:=r;cases hp with
   | cons p1 p2=>
    have ih:=rC R P rs h2 (show wb us _ S1=some S2 from hw) nd p2;exact ih
  | v i=>
   obtain⟨u0,o0,hu,hm,hi,rfl⟩:=vg h1;obtain⟨hv,_⟩:=r;obtain⟨v',k1,k2⟩:=R.rep i u0 hu;rw[hv] at k1;cases k1;obtain⟨c,o2,rfl,f,e2,k⟩:=k2.eO hm;obtain⟨nd1,nd2⟩:=aci.mp (show(i :: slotsOf us).Nodup from nd);cases hp with
   | @cons _ o _ outs p1 p2=>
    have go:∀u u',S1[i]? =some (some u)->Xo u o=some u'->wb us outs (S1.set i (some u'))=some S2->S2.length=S1.length/\(∀j,j∉i :: slotsOf us->S2[j]? =S1[j]?)/\∀j∈i :: slotsOf us,∃u u' o a,S1[j]? =some (some u)/\Xo u o=some u'/\S2[j]? =some (some u')/\σ[j]? =some (some (.ref a))/\P a o:=fun u u' e1 e2 hw=>by
     obtain⟨l,out,KZ⟩:=rC R P rs h2 hw nd2 p2;refine⟨by rw[l,acn],fun j hj=>?_,fun j hj=>?_⟩
     ·rw[out j fun z=>hj (aaz _ z),aaG fun z=>hj (by rw[z];exact abf)]
     ·by_cases e:i=j
      ·subst e;exact⟨u,u',o,c,e1,e2,by rw[out i nd1];exact abv (aay.mp e1).1,hv,p1⟩
      ·rcases aao.mp hj with z | z
       ·exact absurd z.symm e
       ·obtain⟨w,w',o',a',q1,q2,q3,q4,q5⟩:=KZ j z;rw[aaG e] at q1;exact⟨w,w',o',a',q1,q2,q3,q4,q5⟩
    unfold wb at hw;split at hw
    ·rename_i o' e;exact go _ _ e rfl hw
    ·rename_i o' e;exact go _ _ e rfl hw
    ·cases hw
end
def kj {S2:SS}{F:Hp}{outs:List MO}(R:Rel K B S σ F H) (st:Step S0 S σ F0 H0 F H) (rr:Paired (fun v u=>jF K B S σ H0 F H v u) vs us) (hr:bh S us=some ws) (hw:wb us outs S=some S2) (nd:(slotsOf us).Nodup) (p:Post F H F' H' (addrs vs ws) outs):
  Rel K B S2 σ F' H'/\Step S0 S2 σ F0 H0 F' H'/\∀a,eO S2 σ a->eO S σ a:=by
 obtain⟨hl,out,KZ⟩:=rC R (fun a o=>F' a=none/\At F' H' a o) rr hr hw nd p.out;have reM:∀{u:U}{o:MO}{u':U},Xo u o=some u'->iH u=true/\iH u'=true/\TM u'=some o:=fun {u o u'} h=>by cases u <;> cases h <;> exact⟨rfl,rfl,rfl⟩
 have orig:∀{j w},S2[j]? =some (some w)->iH w=true->∃w0,S[j]? =some (some w0)/\iH w0=true:=fun {j w} z hm=>by
  by_cases hj:j∈slotsOf us
  ·obtain⟨u,u',o,a,q1,q2,q3,q4,q5⟩:=KZ j hj;exact⟨u,q1,(reM q2).1⟩
  ·rw[out j hj] at z;exact⟨w,z,hm⟩
 have mu:∀a,eO S2 σ a->eO S σ a:=fun a ⟨j,w,z,hm,hv⟩=>let⟨w0,q,n⟩:=orig z hm;⟨j,w0,q,n,hv⟩
 have GG:=yg R rr hr;refine⟨⟨p.sub,by rw[hl];exact R.len,fun j w z=>?_,fun j k w1 w2 c z1 m1 z2 m2=>?_,fun j o a z hv=>?_,fun j o a z hv=>?_,fun j a z=>?_,?_⟩,⟨⟨?_,?_,?_,?_,fun b o u z=>p.ext.mZ b o u (st.ext.mZ b o u z)⟩,fun a m=>st.mu a (mu a m),fun j u z=>?_⟩,mu⟩
 ·by_cases hj:j∈slotsOf us
  ·obtain⟨u,u',o,a,q1,q2,q3,q4,q5,q6⟩:=KZ j hj;rw[q3] at z;cases z;refine⟨.ref a,q4,?_⟩;cases u <;> cases q2
   ·exact⟨a,rfl,q5,q6⟩
   ·exact⟨a,rfl,q5,q6⟩
  ·rw[out j hj] at z;obtain⟨v,h1,h2⟩:=R.rep j w z;refine⟨v,h1,h2.le p.ext.le p.ext.mZ fun a hm ha=>?_⟩;have hna:a∉addrs vs ws:=fun hc=>by
    rcases GG a hc with⟨i,u,q0,q1,q2,q3⟩ | ⟨_,_,_,q⟩
    ·have:=R.Ho i j u w a q1 q2 z hm q3 (by rw[h1,ha]);subst this;exact hj q0
    ·exact q ⟨j,w,z,hm,by rw[h1,ha]⟩
   obtain⟨c,o,e,f,_,k⟩:=h2.eO hm;rw[ha] at e;cases e;obtain⟨ho,hh⟩:=k.has;exact⟨fun o q=>p.ext.keep a o q hna,p.ext.m8 a ho hh hna f⟩
 ·obtain⟨w1',q1,n1⟩:=orig z1 m1;obtain⟨w2',q2,n2⟩:=orig z2 m2;exact R.Ho j k w1' w2' c q1 n1 q2 n2
 ·by_cases hj:j∈slotsOf us
  ·obtain⟨u,u',o',a',q1,q2,q3,q4,q5⟩:=KZ j hj;rw[q3] at z;cases z;cases u <;> cases q2
   exact R.own j _ a q1 hv
  ·rw[out j hj] at z;exact R.own j o a z hv
 ·by_cases hj:j∈slotsOf us
  ·obtain⟨u,u',o',a',q1,q2,q3,q4,q5⟩:=KZ j hj;rw[q3] at z;cases z;cases u <;> cases q2
   exact R.bor j _ a q1 hv
  ·rw[out j hj] at z;exact R.bor j o a z hv
 ·obtain⟨k1,o,k2⟩:=R.par j a z;refine⟨k1,?_⟩;by_cases hj:j∈slotsOf us
  ·obtain⟨u,u',o',a',q1,q2,q3,q4,q5⟩:=KZ j hj;rw[k2] at q1;cases q1;cases q2;exact⟨_,q3⟩
  ·exact⟨o,by rw[out j hj];exact k2⟩
 ·refine R.ext.trans p.ext fun b hb=>?_;rcases GG b hb with⟨i,u,q0,q1,q2,q3⟩ | ⟨_,_,q,_⟩
  ·cases u with
   | t d=>cases q2
   | v d=>cases q2
   | s d=>cases q2
   | f d=>cases q2
   | x cx kx=>cases q2
   | m o=>exact .inr (R.own i o b q1 q3)
   | b o=>exact .inl (R.bor i o b q1 q3)
  ·exact .inr q
 ·exact fun b o h=>p.ext.le b o (st.ext.le b o h)
 ·intro b o h n;refine p.ext.keep b o (st.ext.keep b o h n) fun hb=>?_;rcases GG b hb with⟨i,u,q0,q1,q2,q3⟩ | ⟨_,q,_⟩
  ·exact n (st.mu b ⟨i,u,q1,q2,q3⟩)
  ·rw[h] at q;cases q
 ·intro b o h n f;refine p.ext.m8 b o (st.ext.keep b o h n) (fun hb=>?_) (st.ext.m8 b o h n f);rcases GG b hb with⟨i,u,q0,q1,q2,q3⟩ | ⟨_,q,_⟩
  ·exact n (st.mu b ⟨i,u,q1,q2,q3⟩)
  ·rw[h] at q;cases q
 ·intro b o h;obtain⟨o',h'⟩:=st.ext.there b o h;exact p.ext.there b o' h'
 ·obtain⟨u',h'⟩:=st.slots j u z;by_cases hj:j∈slotsOf us
  ·obtain⟨_,u2,_,_,_,_,q3,_⟩:=KZ j hj;exact⟨u2,q3⟩
  ·exact⟨u',by rw[out j hj];exact h'⟩
section
variable {X:Cx}{e:Expr}{es:BBC}{gu:GU}{x:Str}{p pos:Pos}{f:FM}{fa:Addr}{fd:FuncData}{ps:BBB}{k n:Nat}
def QJ (F:gQ X.prog X.w X.K X.mg X.base xV k fa fd ps (spT X.K n f)) (hr:dM k X.A) (hg:Gl X x) (hm:X.mg x=some (.ref fa)) (hk:PySem.W.keepIn X.K (.ref fa)=true) (hb:Binds X.K fd ps []) (ha:JU X (e :: es) gu) (hn:(e :: es).length=n:=by rfl)
  (hdb:BBT x:=by decide) (he:starEach (e :: es) X.env=(false,eval e X.env) :: starEach es X.env:=by rfl) (hpl:(backTo pos (starEach es X.env)).any (·.1)=false:=by rfl):
  JE X (.Call (.Name x p) (e :: es) [] pos) (aZ f gu):=⟨fun B=>(Qc F hr hg hm hk hb .nil Fc (ha.h B) hdb he hpl).imp fun σ H Q hh=>by
 obtain⟨S,F0,u,S',R,hg,q⟩:=hh;obtain⟨⟨us,S1⟩,h1,hg⟩:=aj hg;dsimp only at hg;split at hg
 ·rename_i hc;obtain⟨ws,h2,hg⟩:=aj hg;obtain⟨⟨r,outs⟩,h3,hg⟩:=aj hg;obtain⟨S2,h4,hg⟩:=aB hg;cases hg;refine⟨S,F0,us,S1,R,h1,fun vs F1 H1 R1 st1 rr=>?_⟩;show spT X.K n f (vs++[]) H1 Q E0;rw[abU];have hlen:vs.length=n:=by rw[rr.length,ha.len _ _ _ h1];exact hn
  refine⟨hlen,F1,ws,r,outs,R1.sub,rB R1 rr h2,dJ R1 rr h2 hc.1 hc.2,h3,fun v F2 H2 po rn=>?_⟩;obtain⟨R2,st2,mu⟩:=kj R1 st1 rr h2 h4 hc.1 po;refine q v F2 H2 R2 st2 ?_;cases r with
  | t d=>exact rn
  | b o=>cases rn
  | v i=>cases rn
  | s i=>cases rn
  | f i=>cases rn
  | x cx kx=>cases rn
  | m o=>
   obtain⟨a,e,h0,f,h⟩:=rn;refine⟨a,e,none_of st1.ext.there h0,f,h,fun m=>?_,none_of R1.ext.there h0⟩;obtain⟨o',ho⟩:=R1.has (mu a m);rw[h0] at ho;cases ho
 ·cases hg⟩
end
noncomputable def aG:List U->SS->Option (List MO)
 | [],_=>some []
 | .b _ :: us,some (.b o) :: S=>(aG us S).map fun os=>o :: os
 | .b _ :: _,_=>none
 | _ :: us,_ :: S=>aG us S
 | _ :: _,[]=>none
def aQ (n:Nat) (g:GS):FM:=fun us=>(g (us.map some++List.replicate (n - us.length) none)).bind fun o=>match o with
 | .rt (.t d) S=>(aG us S).map fun os=>(.t d,os)
 | .rt (.m o) S=>(aG us S).map fun os=>(.m o,os)
 | .nx S=>(aG us S).map fun os=>(.t .cM,os)
 | _=>none
noncomputable def lent:List V->List U->List (BBN)
 | .ref a :: vs,.b _ :: us=>some a :: lent vs us
 | _ :: vs,_ :: us=>none :: lent vs us
 | _,_=>[]
theorem ud:∀(vs:List V) (us:List U) (a:Addr),some a∈lent vs us↔a∈addrs vs us
 | [],us,a=>by cases us <;> simp[lent,addrs]
 | v :: vs,[],a=>by cases v <;> simp[lent,addrs]
 | v :: vs,u :: us,a=>by
  have ih:=ud vs us a;cases v <;> cases u <;> simp[lent,addrs,ih]
theorem Fp:∀{vs:List V}{us:List U}{i:Nat}{a:Addr},(lent vs us)[i]? =some (some a)->vs[i]? =some (.ref a)/\∃o,us[i]? =some (.b o)
 | [],us,i,a,h=>by cases us <;> simp[lent] at h
 | v :: vs,[],i,a,h=>by cases v <;> simp[lent] at h
 | v :: vs,u :: us,0,a,h=>by
  cases v <;> cases u <;> simp[lent] at h
  subst h;exact⟨rfl,_,rfl⟩
 | v :: vs,u :: us,i+1,a,h=>by
  have h':(lent vs us)[i]? =some (some a):=by cases v <;> cases u <;> simpa[lent] using h
  simpa using Fp h'
theorem DS {K:AAD}:∀{F H:Hp}{vs:List V}{us:List U}{i:Nat}{o:MO},Paired (K3 K F H) vs us->us[i]? =some (.b o)->∃a,vs[i]? =some (.ref a)/\(lent vs us)[i]? =some (some a)/\F a=none/\At F H a o
 | _,_,_,_,_,_,.nil,h=>by simp at h
 | _,_,_,_,0,o,@Paired.cons _ _ _ v u vs us r rs,h=>by
  simp at h;subst h;obtain⟨a,rfl,f,k⟩:=r;exact⟨a,rfl,rfl,f,k⟩
 | _,_,_,_,i+1,o,@Paired.cons _ _ _ v u vs us r rs,h=>by
  obtain⟨a,h1,h2,h3⟩:=DS (i:=i) rs (by simpa using h);refine⟨a,by simpa using h1,?_,h3⟩;cases v <;> cases u <;> simpa[lent] using h2
theorem CU:∀{vs:List V}{us:List U}{i j:Nat}{a:Addr},(addrs vs us).Nodup->(lent vs us)[i]? =some (some a)->(lent vs us)[j]? =some (some a)->i=j
 | [],us,i,j,a,_,h,_=>by cases us <;> simp[lent] at h
 | v :: vs,[],i,j,a,_,h,_=>by cases v <;> simp[lent] at h
 | v :: vs,u :: us,i,j,a,nd,h1,h2=>by
  have ih:∀{i j},(addrs vs us).Nodup->(lent vs us)[i]? =some (some a)->(lent vs us)[j]? =some (some a)->i=j:=fun {i j}=>CU (i:=i) (j:=j);by_cases hvu:∃c o,v= .ref c/\u= .b o
  ·obtain⟨c,o,rfl,rfl⟩:=hvu;obtain⟨n1,n2⟩:=aci.mp (show(c :: addrs vs us).Nodup from nd);cases i with
   | zero=>
    cases j with
    | zero=>rfl
    | succ j=>
     have e1:c=a:=by simpa[lent] using h1
     have e2:(lent vs us)[j]? =some (some a):=by simpa[lent] using h2
     subst e1;exact absurd ((ud vs us c).mp (ach e2)) n1
   | succ i=>
    have e1:(lent vs us)[i]? =some (some a):=by simpa[lent] using h1
    cases j with
    | zero=>
     have e2:c=a:=by simpa[lent] using h2
     subst e2;exact absurd ((ud vs us c).mp (ach e1)) n1
    | succ j=>exact congrArg Nat.succ (ih n2 e1 (by simpa[lent] using h2))
  ·have e1:lent (v :: vs) (u :: us)=none :: lent vs us:=by cases v <;> cases u <;> first | rfl | exact absurd ⟨_,_,rfl,rfl⟩ hvu
   have e2:addrs (v :: vs) (u :: us)=addrs vs us:=by cases v <;> cases u <;> first | rfl | exact absurd ⟨_,_,rfl,rfl⟩ hvu
   rw[e1] at h1 h2;rw[e2] at nd;cases i with
   | zero=>simp at h1
   | succ i=>
    cases j with
    | zero=>simp at h2
    | succ j=>exact congrArg Nat.succ (ih nd (by simpa using h1) (by simpa using h2))
theorem rD {α β:Type}{P:α->β->Prop}:∀{l:List α}{r:List β}{i:Nat}{y:β},Paired P l r->r[i]? =some y->∃x,l[i]? =some x/\P x y
 | _,_,_,_,.nil,h=>by simp at h
 | _,_,0,_,.cons p _,h=>by simp at h;subst h;exact⟨_,rfl,p⟩
 | _,_,i+1,_,.cons _ ps,h=>by
  obtain⟨x,h1,h2⟩:=rD (i:=i) ps (by simpa using h);exact⟨x,by simpa using h1,h2⟩
def zb {F:Hp}(sb:Sub F H) (ar:Paired (K3 K F H) vs us) (nd:(addrs vs us).Nodup) (N:BBB) (hN:N.length=n):
  Rel K ⟨lent vs us,F,H⟩ (us.map some++List.replicate (n - us.length) none) (start N vs) F H:=by
 have hl:vs.length=us.length:=ar.length;have gS:∀{i:Nat}{u:U},(us.map some++List.replicate (n - us.length) none)[i]? =some (some u)->us[i]? =some u:=fun {i u} h=>by
  rw[List.getElem?_append] at h;split at h
  ·rw[abi] at h;obtain⟨w,h1,h2⟩:=aB h;cases h2;exact h1
  ·rw[afV] at h;split at h <;> cases h
 have gσ:∀{i:Nat}{v:V},vs[i]? =some v->(start N vs)[i]? =some (some v):=fun {i v} h=>by
  unfold start;have hi:=(aay.mp h).1;rw[aeF (by simpa using hi),abi,h];rfl
 have vb:∀{i:Nat}{v w:V},vs[i]? =some v->(start N vs)[i]? =some (some w)->v=w:=fun {i v w} h k=>by
  rw[gσ h] at k;cases k;rfl
 have QK:∀{i:Nat}{u:U},us[i]? =some u->iH u=true->∃o a,u= .b o/\vs[i]? =some (.ref a)/\(lent vs us)[i]? =some (some a)/\F a=none/\At F H a o:=fun {i u} h hm=>by
  obtain⟨v,h1,h2⟩:=rD ar h;cases u with
  | t d=>cases hm
  | v d=>cases hm
  | s d=>cases hm
  | f d=>cases hm
  | x cx kx=>cases hm
  | m o=>cases h2
  | b o=>obtain⟨a,k1,k2,k3,k4⟩:=DS ar h;exact⟨o,a,rfl,k1,k2,k3,k4⟩
 refine⟨sb,?_,fun i u h=>?_,fun i j u w a h1 m1 h2 m2 v1 v2=>?_,fun i o a h hv=>?_,fun i o a h hv=>?_,fun i a h=>?_,Ext.refl ..⟩
 ·unfold start;simp[hl,hN]
 ·obtain⟨v,h1,h2⟩:=rD ar (gS h);refine⟨v,gσ h1,?_⟩;cases u with
  | t d=>exact h2
  | s d=>exact h2
  | f d=>exact h2
  | x cx kx=>exact h2
  | v d=>cases h2
  | m o=>cases h2
  | b o=>exact h2
 ·obtain⟨_,a1,_,k1,k2,_⟩:=QK (gS h1) m1;obtain⟨_,a2,_,l1,l2,_⟩:=QK (gS h2) m2;have e1:=vb k1 v1;have e2:=vb l1 v2;cases e1;cases e2;exact CU nd k2 l2
 ·obtain⟨_,_,e,_⟩:=QK (gS h) rfl;cases e
 ·obtain⟨_,a1,_,k1,k2,_⟩:=QK (gS h) rfl;have e1:=vb k1 hv;cases e1;exact ach k2
 ·obtain⟨k1,o,k2⟩:=Fp h;refine⟨gσ k1,o,?_⟩;have hi:=(aay.mp k2).1;rw[aeF (by simpa using hi),abi,k2];rfl
def YQ {v:V}(hu:¬∃o,u= .b o):addrs (v :: vs) (u :: us)=addrs vs us/\lent (v :: vs) (u :: us)=none :: lent vs us/\(∀s S os,aG (u :: us) (s :: S)=some os->aG us S=some os)/\∀os,¬aG (u :: us) []=some os:=by
 cases v <;> cases u <;> first | exact⟨rfl,rfl,fun _ _ _ h=>h,fun _ h=>by cases h⟩ | exact absurd ⟨_,rfl⟩ hu
theorem DT {F' H':Hp}:∀{vs:List V}{us:List U}{S:SS}{os:List MO},aG us S=some os->vs.length=us.length->(∀(i:Nat) (o:MO) (a:Addr),(lent vs us)[i]? =some (some a)->S[i]? =some (some (.b o))->F' a=none/\At F' H' a o)->(∀(i:Nat) (o:MO),us[i]? =some (.b o)->∃a,vs[i]? =some (.ref a))->
  Paired (fun a o=>F' a=none/\At F' H' a o) (addrs vs us) os
 | [],[],S,os,h,_,_,_=>by cases S <;> (simp[aG] at h;subst h;exact .nil)
 | [],_ :: _,_,_,_,l,_,_=>by cases l
 | _ :: _,[],_,_,_,l,_,_=>by cases l
 | v :: vs,u :: us,S,os,h,l,k,kb=>by
  have l':vs.length=us.length:=by simpa using l
  have kb':∀(i:Nat) (o:MO),us[i]? =some (.b o)->∃a,vs[i]? =some (.ref a):=fun i o z=>kb (i+1) o z;by_cases hu:∃o,u= .b o
  ·obtain⟨o,rfl⟩:=hu;obtain⟨a,ha⟩:=kb 0 o rfl;have ha:v= .ref a:=by simpa using ha
   subst ha;cases S with
   | nil=>cases h
   | cons s S=>
    cases s with
    | none=>cases h
    | some s=>
     cases s with
     | b o'=>
      obtain⟨os',h1,h2⟩:=aB (show(aG us S).map (fun os=>o' :: os)=some os from h);subst h2;exact .cons (k 0 o' a rfl rfl) (DT h1 l' (fun i o a z1 z2=>k (i+1) o a z1 z2) kb')
     | t d=>cases h
     | m d=>cases h
     | v d=>cases h
     | s d=>cases h
     | f d=>cases h
     | x cx kx=>cases h
  ·obtain⟨e2,e1,e3⟩:=YQ (v:=v) (vs:=vs) (us:=us) hu;rw[e2];cases S with
   | nil=>exact absurd h (e3.2 os)
   | cons s S=>exact DT (e3.1 s S os h) l' (fun i o a z1 z2=>k (i+1) o a (by rw[e1];exact z1) z2) kb'
def post_of (ar:Paired (K3 K F0 H) vs us) (S':SS) (σ':St) (F' H':Hp) (os:List MO) (R':Rel K ⟨lent vs us,F0,H⟩ S' σ' F' H') (ho':aG us S'=some os):Post F0 H F' H' (addrs vs us) os:=by
 refine⟨R'.sub,⟨R'.ext.le,fun b o z n=>R'.ext.keep b o z fun m=>n ((ud vs us b).mp m),fun b o z n=>R'.ext.m8 b o z fun m=>n ((ud vs us b).mp m),R'.ext.there,R'.ext.mZ⟩,DT ho' ar.length (fun i o a z1 z2=>?_) fun i o z=>?_⟩
 ·obtain⟨k1,o2,k2⟩:=R'.par i a z1;obtain⟨v,j1,j2⟩:=R'.rep i _ z2;rw[k1] at j1;cases j1;obtain⟨c,e,f,k⟩:=j2;cases e;exact⟨f,k⟩
 ·obtain⟨a,h1,_⟩:=DS ar z;exact⟨a,h1⟩
section
variable {P:Program}{w:World}{K:AAD}{mg:AAF}{base:Heap}
def okT {x qual:Str}{st:Stmt}{f:Addr}{fd:FuncData}{N ps:BBB}{k:Nat}{fm:FM}{g:GS}(F:Je K x qual st f fd) (Sc:bD N ps (aJ st))
  (hb:∀(cdv:Value) (A:Around) (outer:BBF) (s:Shared) (H:Hp) (E:XK),dM k (A.deeper (envOfC qual (aJ st) s.heap.objs.size f cdv))->JB (wu xV P w K mg base N qual (aJ st) f cdv A outer s H E).L7 (fE st) g)
  (hf:∀us r,fm us=some r->aQ N.length g us=some r):gQ P w K mg base xV (k+1) f fd ps (spT K ps.length fm):=by
 refine F.ok Sc (fun vs H Q E h=>h.1) fun cdv A outer s H vs Q E hr h=>?_;obtain⟨hlen,F0,us,r,outs,sb,ar,nd,hfm,q⟩:=h;have hrun:=hf us (r,outs) hfm;have J:=hb cdv A outer s H E hr;refine⟨_,J.h ⟨lent vs us,F0,H⟩,?_⟩;have R0:=zb sb ar nd N rfl;obtain⟨o,ho,hrun⟩:=aj hrun;refine⟨_,F0,o,R0,ho,?_⟩;have post:=post_of ar;cases o with
 | bk S'=>cases hrun
 | ct S'=>cases hrun
 | nx S'=>
  obtain⟨os,h1,h2⟩:=aB (show(aG us S').map _=some (r,outs) from hrun);cases h2;exact fun σ' F' H' R' le=>q .cM F' H' (post S' σ' F' H' outs R' h1) .cM
 | rt u S'=>
  cases u with
  | b o=>cases hrun
  | v i=>cases hrun
  | s i=>cases hrun
  | f i=>cases hrun
  | x cx kx=>cases hrun
  | t d=>
   obtain⟨os,h1,h2⟩:=aB (show(aG us S').map _=some (r,outs) from hrun);cases h2;exact fun v σ' F' H' R' le rr=>q v F' H' (post S' σ' F' H' outs R' h1) rr
  | m o=>
   obtain⟨os,h1,h2⟩:=aB (show(aG us S').map _=some (r,outs) from hrun);cases h2;exact fun v σ' F' H' R' le rr=>q v F' H' (post S' σ' F' H' outs R' h1) (by obtain⟨a,e,h0,f,h,n,hB⟩:=rr;exact⟨a,e,hB,f,h⟩)
end
noncomputable def Ng (S:SS) (i:Nat):Option U:=match S[i]? with
 | some (some (.t d))=>some (.t d)
 | some (some (.s d))=>some (.s d)
 | some (some (.f d))=>some (.f d)
 | some (some (.m _))=>some (.v i)
 | some (some (.b _))=>some (.v i)
 | _=>none
def fS (S:SS):BBJ->Option (List U)
 | []=>some []
 | i :: cap=>(Ng S i).bind fun u=>(fS S cap).map fun us=>u :: us
noncomputable def kP:GT:=fun S=>some (true,S)
def jL (cap:BBJ) (q:GT) (g:GD):List D->SS->List D->Option (List D×SS)
 | [],S,acc=>some (acc,S)
 | d :: ds,S,acc=>(fS S cap).bind fun us=>
  if(slotsOf us).Nodup/\bE us<=1 then(bh S us).bind fun ws=>(q (AAA d :: ws.map some)).bind fun p=>
   if p.1 then(g p.2).bind fun r=>(aG (.t d :: ws) r.2).bind fun outs=>(wb us outs S).bind fun S'=>jL cap q g ds S' (acc++[r.1])
   else(aG (.t d :: ws) p.2).bind fun outs=>(wb us outs S).bind fun S'=>jL cap q g ds S' acc
  else none
def Bf (cap:BBJ) (gi:GI) (q:GT) (g:GD):GE:=fun S=>(gi S).bind fun p=>if p.1.length<=100000 then(jL cap q g p.1 p.2 []).map fun r=>(.m (.lst r.1),r.2) else none
structure JTs (X:Cx) (es:BBC) (q:GT):Prop where
 h:∀B,U6 X es (tQ X.K B q)
def DU :JTs X [] kP:=⟨fun B pins s σ H Q I ⟨S,F,b,S',R,hg,q⟩=>by cases hg;exact Qs pins s σ H Q I (q F H R (Step.refl ..))⟩
def QL {c:Expr}(h:JT X c q):JTs X [c] q:=⟨fun B=>Qt (h.h B)⟩
theorem Nh {K:AAD}{B:Base}{S:SS}{σ:St}{F H:Hp}(R:Rel K B S σ F H):∀{cap:BBJ}{us:List U},fS S cap=some us->∃vs:List V,oq cap σ=vs.map some/\Paired (fun v u=>jF K B S σ H F H v u) vs us
 | [],us,h=>by cases h;exact⟨[],rfl,.nil⟩
 | i :: cap,us,h=>by
  obtain⟨u,h1,h⟩:=aj h;obtain⟨us',h2,h⟩:=aB h;subst h;obtain⟨vs,k1,k2⟩:=Nh R h2;have one:∀w,S[i]? =some (some w)->∃v,σ[i]? =some (some v)/\Cc K F H v w:=R.rep i;unfold Ng at h1;have fin:∀v,σ[i]? =some (some v)->jF K B S σ H F H v u->∃vs:List V,oq (i :: cap) σ=vs.map some/\Paired (fun v u=>jF K B S σ H F H v u) vs (u :: us'):=fun v e r=>
   ⟨v :: vs,by show(σ[i]?).join :: oq cap σ=_;rw[e,k1];rfl,.cons r k2⟩
  split at h1
  ·rename_i d e;cases h1;obtain⟨v,e1,r⟩:=one _ e;exact fin v e1 r
  ·rename_i d e;cases h1;obtain⟨v,e1,r⟩:=one _ e;exact fin v e1 r
  ·rename_i d e;cases h1;obtain⟨v,e1,r⟩:=one _ e;exact fin v e1 r
  ·rename_i o e;cases h1;obtain⟨v,e1,r⟩:=one _ e;exact fin v e1 ⟨e1,_,e⟩
  ·rename_i o e;cases h1;obtain⟨v,e1,r⟩:=one _ e;exact fin v e1 ⟨e1,_,e⟩
  ·cases h1
def Ni {F:Hp}(R:Rel K B S σ F H) (d:D)(h:bh S us=some ws):bh S (.t d :: us)=some (.t d :: ws):=by
 show(some (U.t d)).bind _=_;show(bh S us).map _=_;rw[h];rfl
inductive YS (K:AAD) (B:Base) (S:SS) (σ:St) (F H F1:Hp) (lp:List D->SS->List D->Option (List D×SS)) (ds:List D) (r:List D×SS) (i m:Nat) (ys:List V) (H':Hp):Prop
 | mk (S2:SS) (F2:Hp) (acc:List D) (R:Rel K B S2 σ F2 H') (st:Step S S2 σ F H F2 H') (le:∀b o,F1 b=some o->F2 b=some o) (ry:bY F2 ys acc) (ha:acc.length<=i) (hl:i<=ds.length) (hm:m=ds.length - i) (e:lp (ds.drop i) S2 acc=some r)
def Nj (h:tE K B (Bf cap gi q g) σ H Q):tLC (tIt K B gi) cap (fun σ H Q=>∃B,tQ K B q σ H Q) (fun σ H Q=>∃B,tD K B g σ H Q) σ H Q:=by
 obtain⟨x,_⟩:∃x:Str,True:=⟨"",trivial⟩
 obtain⟨S,F,u,S',R,hg,k⟩:=h;obtain⟨⟨ds,S1⟩,h1,hg⟩:=aj hg;dsimp only at hg;split at hg
 ·rename_i hlen;obtain⟨⟨res,Sf⟩,h2,hg⟩:=aB hg;cases hg;refine⟨S,F,ds,S1,R,h1,fun J F1 H1 R1 st1 w=>?_⟩;refine⟨YS K B S σ F H F1 (jL cap q g) ds (res,Sf),
   ⟨_,S1,F1,[],R1,st1,fun _ _ z=>z,.nil,aap _,acI _,rfl,h2⟩,?_⟩
  rintro i m ys H' ⟨S2,F2,acc,R2,st2,le,ry,ha,hl,rfl,nq⟩;refine⟨by rw[ry.length];exact Nat.lt_of_le_of_lt (aaA ha (aaA hl hlen)) (by decide),?_⟩;have w':=w F2 H' le R2.sub i;by_cases hlt:i < ds.length
  ·have hd:ds[i]? =some ds[i]:=abu hlt;obtain⟨go,yl⟩:=w'.1 _ hd;rw[acG hlt] at nq;refine .inr ⟨go,fun xv H3 y=>?_⟩;obtain⟨rfl,rx⟩:=yl xv H3 y;obtain⟨us,e1,nq⟩:=aj nq
   skip
   split at nq
   ·rename_i hnd;obtain⟨ws,e2,nq⟩:=aj nq;obtain⟨⟨bk,T1⟩,e3,nq⟩:=aj nq;obtain⟨vs,k1,k2⟩:=Nh R2 e1;have rr:Paired (fun v u=>jF K B S2 σ H3 F2 H3 v u) (xv :: vs) (.t ds[i] :: us):=.cons rx k2;have er:=Ni R2 ds[i] e2;have ar:=rB R2 rr er;have nd:=dJ R2 rr er hnd.1 hnd.2;have R3:=zb (n:=ws.length+1) R2.sub ar nd (List.replicate (ws.length+1) x) (by simp);have hvl:vs.length=ws.length:=by have:=ar.length;simpa using this
    have es:start (List.replicate (ws.length+1) x) (xv :: vs)=some xv :: oq cap σ:=by
     unfold start;rw[k1];simp[hvl]
    have eS:(U.t ds[i] :: ws).map some++List.replicate (ws.length+1 - (U.t ds[i] :: ws).length) none=some (U.t ds[i]) :: ws.map some:=by simp
    rw[es,eS] at R3;have back:∀(T2:SS) (F3 H4:Hp) (outs:List MO) (S3:SS),Rel K ⟨lent (xv :: vs) (U.t ds[i] :: ws),F2,H3⟩ T2 (some xv :: oq cap σ) F3 H4->aG (U.t ds[i] :: ws) T2=some outs->wb us outs S2=some S3->Rel K B S3 σ F3 H4/\Step S S3 σ F H F3 H4/\(∀b o,F2 b=some o->F3 b=some o):=fun T2 F3 H4 outs S3 RT ho hw=>by
     have po:=post_of ar T2 _ F3 H4 outs RT ho;obtain⟨Ra,TN,_⟩:=kj (S0:=S2) (F0:=F2) (H0:=H3) R2 (Step.refl ..) rr er (show wb (U.t ds[i] :: us) outs S2=some S3 by cases outs <;> exact hw) hnd.1 po;exact⟨Ra,st2.trans TN,TN.ext.le⟩
    refine⟨_,_,F2,bk,T1,R3,e3,fun F3 H4 RT1 agc=>?_⟩;cases bk with
    | true=>
     obtain⟨⟨yd,T2⟩,e4,nq⟩:=aj (show(g T1).bind _=_ from nq);obtain⟨outs,e5,nq⟩:=aj nq;obtain⟨S3,e6,nq⟩:=aj nq;refine Fe ⟨_,T1,F3,yd,T2,RT1,e4,fun yv F4 H5 RT2 age ry2=>?_⟩;obtain⟨Ra,TN,YT⟩:=back T2 F4 H5 outs S3 RT2 e5 e6;refine⟨ds.length - (i+1),by lia,S3,F4,acc++[yd],Ra,TN,fun b o z=>YT b o (le b o z),(ry.le YT).append (.cons ry2 .nil),by simp;lia,hlt,rfl,nq⟩
    | false=>
     obtain⟨outs,e5,nq⟩:=aj (show(aG (U.t ds[i] :: ws) T1).bind _=_ from nq);obtain⟨S3,e6,nq⟩:=aj nq;obtain⟨Ra,TN,YT⟩:=back T1 F3 H4 outs S3 RT1 e5 e6;exact Fd ⟨ds.length - (i+1),by lia,S3,F3,acc,Ra,TN,fun b o z=>YT b o (le b o z),ry.le YT,by lia,hlt,rfl,nq⟩
   ·cases nq
  ·have e:i=ds.length:=by lia
   subst e;rw[afg] at nq;cases nq;refine .inl ⟨w'.2 (aap _),fun p hp=>?_⟩;have n:=iM.obj (F:=F2) hp (.lst ys);refine k (.ref p) F2 _ (R2.new n (R2.sub.same n.same)) (st2.trans n.step) ⟨p,rfl,none_of st2.ext.there hp,R2.sub.fresh hp,⟨ys,aY,ry⟩,fun m=>?_,none_of R2.ext.there hp⟩;obtain⟨o,ho⟩:=R2.has m;rw[hp] at ho;cases ho
 ·cases hg
def AJ {elt:Expr}{ifs:BBC}{x:Str}{px pos:Pos}{cl:List (Str×Addr)}{m9:BBB}(T:nB X x m9 cap scope cl) (hc:X.calm=true) (hi:JI X (.Name x px) iter gi)
  (ht:∀C s H fp,JTs (lK X (x :: m9) scope cl C s H fp) ifs q) (he:∀C s H fp,JD (lK X (x :: m9) scope cl C s H fp) elt g)
  (hs:∀x,foldedSetIterable iter X.env x=pure x:=by intro _;rfl):JE X (.ListComp elt [⟨.Name x px,iter,ifs,0⟩] scope pos) (Bf cap gi q g):=⟨fun B=>by
 exact(MT (tc:=fun σ H Q=>∃B,tQ X.K B q σ H Q) (te:=fun σ H Q=>∃B,tD X.K B g σ H Q) T hc (hi.h B) (fun C s H fp pins s' σ H' Q I ⟨B',z⟩=>(ht C s H fp).h B' pins s' σ H' Q I z) (fun C s H fp pins s' σ H' Q I ⟨B',z⟩=>(he C s H fp).h B' pins s' σ H' Q I z) hs).imp fun σ H Q h=>Nj h⟩
mutual
noncomputable def qy:D->D->Bool
 | .cM,.cM=>true
 | .bl a,.bl b=>a == b
 | .int a,.int b=>a == b
 | .bl a,.int b=>(if a then 1 else 0) == b
 | .int a,.bl b=>a == (if b then 1 else 0)
 | .str a,.str b=>a == b
 | .tup a,.tup b=>wD a b
 | .lst a,.lst b=>wD a b
 | _,_=>false
noncomputable def wD:List D->List D->Bool
 | [],[]=>true
 | a :: as,b :: bs=>qy a b && wD as bs
 | _,_=>false
end
mutual
noncomputable def ig:D->Nat
 | .tup ds=>cF ds+1
 | .lst ds=>cF ds+1
 | _=>0
noncomputable def cF:List D->Nat
 | []=>0
 | d :: ds=>max (ig d) (cF ds)
end
mutual
theorem qE:∀d:D,qy d d=true
 | .cM=>rfl
 | .bl a=>by simp[qy]
 | .int a=>by simp[qy]
 | .str a=>by simp[qy]
 | .tup a=>by unfold qy;exact qF a
 | .lst a=>by unfold qy;exact qF a
theorem qF:∀ds:List D,wD ds ds=true
 | []=>rfl
 | d :: ds=>by unfold wD;rw[qE d,qF ds];rfl
end
def vY (as bs:List D) (j:Nat):Bool:=match as[j]?,bs[j]? with
 | some a,some b=>qy a b
 | _,_=>true
def Bg (n:Nat) (e:Nat->Bool):(List.range (n+1)).all e=(e 0 && (List.range n).all fun j=>e (j+1)):=by
 rw[List.range_succ_eq_map,afG,List.all_map];rfl
theorem ue:∀{as bs:List D},as.length≠bs.length->wD as bs=false
 | [],[],h=>absurd rfl h
 | [],_ :: _,_=>rfl
 | _ :: _,[],_=>rfl
 | a :: as,b :: bs,h=>by
  unfold wD;rw[ue (as:=as) (bs:=bs) (fun z=>h (by simp[z])),afD]
theorem oE:∀{as bs:List D},as.length=bs.length->(List.range as.length).all (vY as bs)=wD as bs
 | [],[],_=>rfl
 | [],_ :: _,h=>by cases h
 | _ :: _,[],h=>by cases h
 | a :: as,b :: bs,h=>by
  have h':as.length=bs.length:=by simpa using h
  show(List.range (as.length+1)).all _=_;rw[Bg];unfold wD;have ih:=oE h';have e:(fun j=>vY (a :: as) (b :: bs) (j+1))=vY as bs:=by funext j;kernel_rfl
  rw[e,ih];rfl
def QM {F:Hp}{ws:List V}(h:Rd F a (.lst vs)) (h':Rd F a (.lst ws)):vs=ws:=by
 rcases h with e1 | ⟨o,e1⟩ <;> rcases h' with e2 | ⟨o',e2⟩ <;> (rw[e1] at e2;cases e2) <;> rfl
mutual
theorem Rep.uniq {F:Hp}:∀{v:V}{d e:D},Rep F v d->Rep F v e->d=e
 | _,_,_,.cM,r=>by cases r;rfl
 | _,_,_,.bl b,r=>by cases r;rfl
 | _,_,_,.int b,r=>by cases r;rfl
 | _,_,_,.str b,r=>by cases r;rfl
 | _,_,_,.tup e1 r1,r=>by
  cases r with
  | tup e2 r2=>rw[e1] at e2;cases e2;rw[bY.uniq r1 r2]
  | lst e2 r2=>rcases e2 with e2 | ⟨o,e2⟩ <;> (rw[e1] at e2;cases e2)
 | _,_,_,.lst e1 r1,r=>by
  cases r with
  | tup e2 r2=>rcases e1 with e1 | ⟨o,e1⟩ <;> (rw[e1] at e2;cases e2)
  | lst e2 r2=>rcases e1 with e1 | ⟨o,e1⟩ <;> rcases e2 with e2 | ⟨o',e2⟩ <;> (rw[e1] at e2;cases e2) <;> rw[bY.uniq r1 r2]
theorem bY.uniq {F:Hp}:∀{vs:List V}{ds es:List D},bY F vs ds->bY F vs es->ds=es
 | _,_,_,.nil,r=>by cases r;rfl
 | _,_,_,.cons r1 s1,r=>by
  cases r with
  | cons r2 s2=>rw[Rep.uniq r1 r2,bY.uniq s1 s2]
end
section
variable {X:Cx}{pins:AAG}{σ:St}{F H:Hp}{s:Shared}
def Sub.isTup (I:Inv X pins σ H s) (sb:Sub F H)(h:F a=some (.tup vs)):∃its:BBG,Vals vs its/\s.heap.IsTuple a its.toArray:=by
 obtain⟨its,rv,p,_⟩:=I.tuple (.inl (Rd.of (sb a _ h)));exact⟨its,rv,p⟩
def Sub.gM (I:Inv X pins σ H s) (sb:Sub F H)(h:Rd F a (.lst vs)):∃its:BBG,Vals vs its/\s.heap.IsList a its.toArray:=by
 obtain⟨its,rv,p,_⟩:=I.list (.inl (h.imp (sb a _) fun⟨o,z⟩=>⟨o,sb a _ z⟩));exact⟨its,rv,p.isList⟩
def mh (A:Around) (s:Shared) (its cX:AAL) (ds es:List D):Prop:=∀j (h1:j < its.toArray.size) (h2:j < cX.toArray.size),SeqAt.EqAt A.in1 s its.toArray[j] cX.toArray[j] (vY ds es j)
def Ji {m:Nat}(h:n=m) (e:Nat->Bool):((List.range (min n m)).all e && n == m)=(List.range n).all e:=by
 subst h;simp
def yh (hu:A.units < cLine) (pa:s.heap.IsTuple ca jN.toArray) (pb:s.heap.IsTuple cb cX.toArray) (la:jN.length=ds.length) (lb:cX.length=es.length) (h:mh A s jN cX ds es):
  SeqAt.RcAt A s (.ref ca) (.ref cb) (wD ds es):=by
 have q:=SeqAt.RcAt.tuples (e:=vY ds es) pa pb hu h;rw[aam,aam,la,lb] at q;by_cases hl:ds.length=es.length
 ·rw[Ji hl,oE hl] at q;exact q
 ·rw[ue hl];have:(ds.length == es.length)=false:=by simpa using hl
  rw[this,afD] at q;exact q
def Bh (hu:A.units < cLine) (pa:s.heap.IsTuple ca jN.toArray) (pb:s.heap.IsTuple cb cX.toArray) (la:jN.length=ds.length) (lb:cX.length=es.length) (h:mh A s jN cX ds es):
  SeqAt.RcNeAt A s (.ref ca) (.ref cb) (!wD ds es):=by
 have q:=SeqAt.RcNeAt.tuples (e:=vY ds es) pa pb hu h;rw[aam,aam,la,lb] at q;by_cases hl:ds.length=es.length
 ·rw[Ji hl,oE hl] at q;exact q
 ·rw[ue hl];have:(ds.length == es.length)=false:=by simpa using hl
  rw[this,afD] at q;exact q
def zW (hu:A.units < cLine) (pa:s.heap.IsList ca jN.toArray) (pb:s.heap.IsList cb cX.toArray) (la:jN.length=ds.length) (lb:cX.length=es.length) (h:mh A s jN cX ds es):
  SeqAt.RcAt A s (.ref ca) (.ref cb) (wD ds es):=by
 by_cases hl:ds.length=es.length
 ·have q:=SeqAt.RcAt.lists (e:=vY ds es) pa pb (by rw[aam,aam,la,lb];exact hl) hu h;rw[aam,la,oE hl] at q;exact q
 ·rw[ue hl];exact SeqAt.RcAt.lists_lengths pa pb (by rw[aam,aam,la,lb];simpa using hl) hu
def Cf (hu:A.units < cLine) (pa:s.heap.IsList ca jN.toArray) (pb:s.heap.IsList cb cX.toArray) (la:jN.length=ds.length) (lb:cX.length=es.length) (h:mh A s jN cX ds es):
  SeqAt.RcNeAt A s (.ref ca) (.ref cb) (!wD ds es):=by
 by_cases hl:ds.length=es.length
 ·have q:=SeqAt.RcNeAt.lists (e:=vY ds es) pa pb (by rw[aam,aam,la,lb];exact hl) hu h;rw[aam,la,oE hl] at q;exact q
 ·rw[ue hl];exact SeqAt.RcNeAt.lists_lengths pa pb (by rw[aam,aam,la,lb];simpa using hl) hu
def fY (l:List α) (j:Nat) (h:j < l.toArray.size):l[j]? =some l.toArray[j]:=by
 have z:j < l.length:=by simpa using h
 simp[z]
mutual
theorem TQ (I:Inv X pins σ H s) (sb:Sub F H):∀(d:D){e:D}{A:Around}{x y:V}{u w':Value},Rep F x d->Rep F y e->RelV x u->RelV y w'->A.units+ig d < cLine->SeqAt.EqAt A s u w' (qy d e):=fun d {e A x y u w'} r1 r2 rx ry hu=>by
 cases r1 with
 | cM=>
  cases rx;cases r2 with
  | cM=>cases ry;exact SeqAt.EqAt.same _
  | bl b=>cases ry;exact SeqAt.EqAt.none_bool b
  | int b=>obtain⟨tb,rfl⟩:=ry;exact SeqAt.EqAt.none_int b tb
  | str b=>obtain⟨tb,rfl⟩:=ry;exact SeqAt.EqAt.none_str b tb
  | @tup cb uf qG eb rb=>cases ry;obtain⟨cX,oF,pb⟩:=sb.isTup I eb;exact SeqAt.EqAt.none_tuple pb (by lia)
  | @lst cb uf qG eb rb=>cases ry;obtain⟨cX,oF,pb⟩:=sb.gM I eb;exact SeqAt.EqAt.none_list pb (by lia)
 | bl a=>
  cases rx;cases r2 with
  | cM=>cases ry;exact SeqAt.EqAt.bool_none a
  | bl b=>cases ry;exact SeqAt.EqAt.bool_bool a b
  | int b=>obtain⟨tb,rfl⟩:=ry;exact SeqAt.EqAt.bool_int a b tb
  | str b=>obtain⟨tb,rfl⟩:=ry;exact SeqAt.EqAt.bool_str a b tb
  | @tup cb uf qG eb rb=>cases ry;obtain⟨cX,oF,pb⟩:=sb.isTup I eb;exact SeqAt.EqAt.bool_tuple a pb (by lia)
  | @lst cb uf qG eb rb=>cases ry;obtain⟨cX,oF,pb⟩:=sb.gM I eb;exact SeqAt.EqAt.bool_list a pb (by lia)
 | int a=>
  obtain⟨ta,rfl⟩:=rx;cases r2 with
  | cM=>cases ry;exact SeqAt.EqAt.int_none a ta
  | bl b=>cases ry;exact SeqAt.EqAt.int_bool a ta b
  | int b=>obtain⟨tb,rfl⟩:=ry;exact SeqAt.EqAt.int_int a ta b tb
  | str b=>obtain⟨tb,rfl⟩:=ry;exact SeqAt.EqAt.int_str a ta b tb
  | @tup cb uf qG eb rb=>cases ry;obtain⟨cX,oF,pb⟩:=sb.isTup I eb;exact SeqAt.EqAt.int_tuple a ta pb (by lia)
  | @lst cb uf qG eb rb=>cases ry;obtain⟨cX,oF,pb⟩:=sb.gM I eb;exact SeqAt.EqAt.int_list a ta pb (by lia)
 | str a=>
  obtain⟨ta,rfl⟩:=rx;cases r2 with
  | cM=>cases ry;exact SeqAt.EqAt.str_none a ta
  | bl b=>cases ry;exact SeqAt.EqAt.str_bool a ta b
  | int b=>obtain⟨tb,rfl⟩:=ry;exact SeqAt.EqAt.str_int a ta b tb
  | str b=>obtain⟨tb,rfl⟩:=ry;exact SeqAt.EqAt.str_str a ta b tb
  | @tup cb uf qG eb rb=>cases ry;obtain⟨cX,oF,pb⟩:=sb.isTup I eb;exact SeqAt.EqAt.str_tuple a ta pb (by lia)
  | @lst cb uf qG eb rb=>cases ry;obtain⟨cX,oF,pb⟩:=sb.gM I eb;exact SeqAt.EqAt.str_list a ta pb (by lia)
 | @tup ca YU vN ea ra=>
  cases rx;obtain⟨jN,Fq,pa⟩:=sb.isTup I ea;cases r2 with
  | cM=>cases ry;exact SeqAt.EqAt.tuple_none pa (by lia)
  | bl b=>cases ry;exact SeqAt.EqAt.tuple_bool b pa (by lia)
  | int b=>obtain⟨tb,rfl⟩:=ry;exact SeqAt.EqAt.tuple_int b tb pa (by lia)
  | str b=>obtain⟨tb,rfl⟩:=ry;exact SeqAt.EqAt.tuple_str b tb pa (by lia)
  | @tup cb uf qG eb rb=>cases ry;obtain⟨cX,oF,pb⟩:=sb.isTup I eb;exact(by
   have hd:A.units+(cF vN+1) < cLine:=hu;have items:mh A s jN cX vN qG:=fun j h1 h2=>oG I sb vN (A:=A.in1) ra rb Fq oF (by show A.units+1+cF vN < cLine;lia) (fY jN j h1) (fY cX j h2);by_cases hc:ca=cb
   ·subst hc;rw[ea] at eb;cases eb;obtain rfl:=bY.uniq ra rb;show SeqAt.EqAt A s _ _ (wD vN vN);rw[qF];exact SeqAt.EqAt.same _
   ·exact SeqAt.EqAt.of_refs hc (yh (by lia) pa pb (Fq.length.symm.trans ra.length) (oF.length.symm.trans rb.length) items))
  | @lst cb uf qG eb rb=>cases ry;obtain⟨cX,oF,pb⟩:=sb.gM I eb;exact SeqAt.EqAt.tuple_list pa pb (by lia)
 | @lst ca YU vN ea ra=>
  cases rx;obtain⟨jN,Fq,pa⟩:=sb.gM I ea;cases r2 with
  | cM=>cases ry;exact SeqAt.EqAt.list_none pa (by lia)
  | bl b=>cases ry;exact SeqAt.EqAt.list_bool b pa (by lia)
  | int b=>obtain⟨tb,rfl⟩:=ry;exact SeqAt.EqAt.list_int b tb pa (by lia)
  | str b=>obtain⟨tb,rfl⟩:=ry;exact SeqAt.EqAt.list_str b tb pa (by lia)
  | @tup cb uf qG eb rb=>cases ry;obtain⟨cX,oF,pb⟩:=sb.isTup I eb;exact SeqAt.EqAt.list_tuple pa pb (by lia)
  | @lst cb uf qG eb rb=>cases ry;obtain⟨cX,oF,pb⟩:=sb.gM I eb;exact(by
   have hd:A.units+(cF vN+1) < cLine:=hu;have items:mh A s jN cX vN qG:=fun j h1 h2=>oG I sb vN (A:=A.in1) ra rb Fq oF (by show A.units+1+cF vN < cLine;lia) (fY jN j h1) (fY cX j h2);by_cases hc:ca=cb
   ·subst hc;obtain rfl:=QM ea eb;obtain rfl:=bY.uniq ra rb;show SeqAt.EqAt A s _ _ (wD vN vN);rw[qF];exact SeqAt.EqAt.same _
   ·exact SeqAt.EqAt.of_refs hc (zW (by lia) pa pb (Fq.length.symm.trans ra.length) (oF.length.symm.trans rb.length) items))
theorem oG (I:Inv X pins σ H s) (sb:Sub F H):∀(ds:List D){es:List D}{A:Around}{vs ws:List V}{us us':AAL}{j:Nat}{u w':Value},bY F vs ds->bY F ws es->Vals vs us->Vals ws us'->A.units+cF ds < cLine->us[j]? =some u->us'[j]? =some w'->SeqAt.EqAt A s u w' (vY ds es j):=fun ds {es A vs ws us us' j u w'} r1 r2 v1 v2 hu h1 h2=>by
 cases r1 with
 | nil=>cases v1;simp at h1
 | @cons v d vs ds r rs=>
  cases v1 with
  | cons q qs=>
   cases r2 with
   | nil=>cases v2;simp at h2
   | @cons w e ws es r' rs'=>
    cases v2 with
    | cons q' qs'=>
     have hd:A.units+max (ig d) (cF ds) < cLine:=hu;cases j with
     | zero=>
      simp at h1 h2;subst h1 h2;exact TQ I sb d r r' q q' (by lia)
     | succ j=>
      simp at h1 h2;have:=oG I sb ds (A:=A) rs rs' qs qs' (j:=j) (by lia) h1 h2
      simpa[vY] using this
end
def YV (I:Inv X pins σ H s) (sb:Sub F H){d e:D}{u w':Value}(r1:Rep F x d) (r2:Rep F y e) (rx:RelV x u) (ry:RelV y w') (hu:A.units+ig d < cLine):SeqAt.RcAt A s u w' (qy d e):=by
 cases r1 with
 | cM=>
  cases rx;cases r2 with
  | cM=>cases ry;exact SeqAt.RcAt.none_none
  | bl b=>cases ry;exact SeqAt.RcAt.none_bool b
  | int b=>obtain⟨tb,rfl⟩:=ry;exact SeqAt.RcAt.none_int b tb
  | str b=>obtain⟨tb,rfl⟩:=ry;exact SeqAt.RcAt.none_str b tb
  | @tup cb uf qG eb rb=>cases ry;obtain⟨cX,oF,pb⟩:=sb.isTup I eb;exact SeqAt.RcAt.none_tuple pb (by lia)
  | @lst cb uf qG eb rb=>cases ry;obtain⟨cX,oF,pb⟩:=sb.gM I eb;exact SeqAt.RcAt.none_list pb (by lia)
 | bl a=>
  cases rx;cases r2 with
  | cM=>cases ry;exact SeqAt.RcAt.bool_none a
  | bl b=>cases ry;exact SeqAt.RcAt.bool_bool a b
  | int b=>obtain⟨tb,rfl⟩:=ry;exact SeqAt.RcAt.bool_int a b tb
  | str b=>obtain⟨tb,rfl⟩:=ry;exact SeqAt.RcAt.bool_str a b tb
  | @tup cb uf qG eb rb=>cases ry;obtain⟨cX,oF,pb⟩:=sb.isTup I eb;exact SeqAt.RcAt.bool_tuple a pb (by lia)
  | @lst cb uf qG eb rb=>cases ry;obtain⟨cX,oF,pb⟩:=sb.gM I eb;exact SeqAt.RcAt.bool_list a pb (by lia)
 | int a=>
  obtain⟨ta,rfl⟩:=rx;cases r2 with
  | cM=>cases ry;exact SeqAt.RcAt.int_none a ta
  | bl b=>cases ry;exact SeqAt.RcAt.int_bool a ta b
  | int b=>obtain⟨tb,rfl⟩:=ry;exact SeqAt.RcAt.int_int a ta b tb
  | str b=>obtain⟨tb,rfl⟩:=ry;exact SeqAt.RcAt.int_str a ta b tb
  | @tup cb uf qG eb rb=>cases ry;obtain⟨cX,oF,pb⟩:=sb.isTup I eb;exact SeqAt.RcAt.int_tuple a ta pb (by lia)
  | @lst cb uf qG eb rb=>cases ry;obtain⟨cX,oF,pb⟩:=sb.gM I eb;exact SeqAt.RcAt.int_list a ta pb (by lia)
 | str a=>
  obtain⟨ta,rfl⟩:=rx;cases r2 with
  | cM=>cases ry;exact SeqAt.RcAt.str_none a ta
  | bl b=>cases ry;exact SeqAt.RcAt.str_bool a ta b
  | int b=>obtain⟨tb,rfl⟩:=ry;exact SeqAt.RcAt.str_int a ta b tb
  | str b=>obtain⟨tb,rfl⟩:=ry;exact SeqAt.RcAt.str_str a ta b tb
  | @tup cb uf qG eb rb=>cases ry;obtain⟨cX,oF,pb⟩:=sb.isTup I eb;exact SeqAt.RcAt.str_tuple a ta pb (by lia)
  | @lst cb uf qG eb rb=>cases ry;obtain⟨cX,oF,pb⟩:=sb.gM I eb;exact SeqAt.RcAt.str_list a ta pb (by lia)
 | @tup ca YU vN ea ra=>
  cases rx;obtain⟨jN,Fq,pa⟩:=sb.isTup I ea;cases r2 with
  | cM=>cases ry;exact SeqAt.RcAt.tuple_none pa (by lia)
  | bl b=>cases ry;exact SeqAt.RcAt.tuple_bool b pa (by lia)
  | int b=>obtain⟨tb,rfl⟩:=ry;exact SeqAt.RcAt.tuple_int b tb pa (by lia)
  | str b=>obtain⟨tb,rfl⟩:=ry;exact SeqAt.RcAt.tuple_str b tb pa (by lia)
  | @tup cb uf qG eb rb=>cases ry;obtain⟨cX,oF,pb⟩:=sb.isTup I eb;exact(by
   have hd:A.units+(cF vN+1) < cLine:=hu;have items:mh A s jN cX vN qG:=fun j h1 h2=>oG I sb vN (A:=A.in1) ra rb Fq oF (by show A.units+1+cF vN < cLine;lia) (fY jN j h1) (fY cX j h2);exact yh (by lia) pa pb (Fq.length.symm.trans ra.length) (oF.length.symm.trans rb.length) items)
  | @lst cb uf qG eb rb=>cases ry;obtain⟨cX,oF,pb⟩:=sb.gM I eb;exact SeqAt.RcAt.tuple_list pa pb (by lia)
 | @lst ca YU vN ea ra=>
  cases rx;obtain⟨jN,Fq,pa⟩:=sb.gM I ea;cases r2 with
  | cM=>cases ry;exact SeqAt.RcAt.list_none pa (by lia)
  | bl b=>cases ry;exact SeqAt.RcAt.list_bool b pa (by lia)
  | int b=>obtain⟨tb,rfl⟩:=ry;exact SeqAt.RcAt.list_int b tb pa (by lia)
  | str b=>obtain⟨tb,rfl⟩:=ry;exact SeqAt.RcAt.list_str b tb pa (by lia)
  | @tup cb uf qG eb rb=>cases ry;obtain⟨cX,oF,pb⟩:=sb.isTup I eb;exact SeqAt.RcAt.list_tuple pa pb (by lia)
  | @lst cb uf qG eb rb=>cases ry;obtain⟨cX,oF,pb⟩:=sb.gM I eb;exact(by
   have hd:A.units+(cF vN+1) < cLine:=hu;have items:mh A s jN cX vN qG:=fun j h1 h2=>oG I sb vN (A:=A.in1) ra rb Fq oF (by show A.units+1+cF vN < cLine;lia) (fY jN j h1) (fY cX j h2);exact zW (by lia) pa pb (Fq.length.symm.trans ra.length) (oF.length.symm.trans rb.length) items)
def QN (I:Inv X pins σ H s) (sb:Sub F H){d e:D}{u w':Value}(r1:Rep F x d) (r2:Rep F y e) (rx:RelV x u) (ry:RelV y w') (hu:A.units+ig d < cLine):SeqAt.RcNeAt A s u w' (!qy d e):=by
 cases r1 with
 | cM=>
  cases rx;cases r2 with
  | cM=>cases ry;exact SeqAt.RcNeAt.none_none
  | bl b=>cases ry;exact SeqAt.RcNeAt.none_bool b
  | int b=>obtain⟨tb,rfl⟩:=ry;exact SeqAt.RcNeAt.none_int b tb
  | str b=>obtain⟨tb,rfl⟩:=ry;exact SeqAt.RcNeAt.none_str b tb
  | @tup cb uf qG eb rb=>cases ry;obtain⟨cX,oF,pb⟩:=sb.isTup I eb;exact SeqAt.RcNeAt.none_tuple pb (by lia)
  | @lst cb uf qG eb rb=>cases ry;obtain⟨cX,oF,pb⟩:=sb.gM I eb;exact SeqAt.RcNeAt.none_list pb (by lia)
 | bl a=>
  cases rx;cases r2 with
  | cM=>cases ry;exact SeqAt.RcNeAt.bool_none a
  | bl b=>cases ry;exact SeqAt.RcNeAt.bool_bool a b
  | int b=>obtain⟨tb,rfl⟩:=ry;exact SeqAt.RcNeAt.bool_int a b tb
  | str b=>obtain⟨tb,rfl⟩:=ry;exact SeqAt.RcNeAt.bool_str a b tb
  | @tup cb uf qG eb rb=>cases ry;obtain⟨cX,oF,pb⟩:=sb.isTup I eb;exact SeqAt.RcNeAt.bool_tuple a pb (by lia)
  | @lst cb uf qG eb rb=>cases ry;obtain⟨cX,oF,pb⟩:=sb.gM I eb;exact SeqAt.RcNeAt.bool_list a pb (by lia)
 | int a=>
  obtain⟨ta,rfl⟩:=rx;cases r2 with
  | cM=>cases ry;exact SeqAt.RcNeAt.int_none a ta
  | bl b=>cases ry;exact SeqAt.RcNeAt.int_bool a ta b
  | int b=>obtain⟨tb,rfl⟩:=ry;exact SeqAt.RcNeAt.int_int a ta b tb
  | str b=>obtain⟨tb,rfl⟩:=ry;exact SeqAt.RcNeAt.int_str a ta b tb
  | @tup cb uf qG eb rb=>cases ry;obtain⟨cX,oF,pb⟩:=sb.isTup I eb;exact SeqAt.RcNeAt.int_tuple a ta pb (by lia)
  | @lst cb uf qG eb rb=>cases ry;obtain⟨cX,oF,pb⟩:=sb.gM I eb;exact SeqAt.RcNeAt.int_list a ta pb (by lia)
 | str a=>
  obtain⟨ta,rfl⟩:=rx;cases r2 with
  | cM=>cases ry;exact SeqAt.RcNeAt.str_none a ta
  | bl b=>cases ry;exact SeqAt.RcNeAt.str_bool a ta b
  | int b=>obtain⟨tb,rfl⟩:=ry;exact SeqAt.RcNeAt.str_int a ta b tb
  | str b=>obtain⟨tb,rfl⟩:=ry;exact SeqAt.RcNeAt.str_str a ta b tb
  | @tup cb uf qG eb rb=>cases ry;obtain⟨cX,oF,pb⟩:=sb.isTup I eb;exact SeqAt.RcNeAt.str_tuple a ta pb (by lia)
  | @lst cb uf qG eb rb=>cases ry;obtain⟨cX,oF,pb⟩:=sb.gM I eb;exact SeqAt.RcNeAt.str_list a ta pb (by lia)
 | @tup ca YU vN ea ra=>
  cases rx;obtain⟨jN,Fq,pa⟩:=sb.isTup I ea;cases r2 with
  | cM=>cases ry;exact SeqAt.RcNeAt.tuple_none pa (by lia)
  | bl b=>cases ry;exact SeqAt.RcNeAt.tuple_bool b pa (by lia)
  | int b=>obtain⟨tb,rfl⟩:=ry;exact SeqAt.RcNeAt.tuple_int b tb pa (by lia)
  | str b=>obtain⟨tb,rfl⟩:=ry;exact SeqAt.RcNeAt.tuple_str b tb pa (by lia)
  | @tup cb uf qG eb rb=>cases ry;obtain⟨cX,oF,pb⟩:=sb.isTup I eb;exact(by
   have hd:A.units+(cF vN+1) < cLine:=hu;have items:mh A s jN cX vN qG:=fun j h1 h2=>oG I sb vN (A:=A.in1) ra rb Fq oF (by show A.units+1+cF vN < cLine;lia) (fY jN j h1) (fY cX j h2);exact Bh (by lia) pa pb (Fq.length.symm.trans ra.length) (oF.length.symm.trans rb.length) items)
  | @lst cb uf qG eb rb=>cases ry;obtain⟨cX,oF,pb⟩:=sb.gM I eb;exact SeqAt.RcNeAt.tuple_list pa pb (by lia)
 | @lst ca YU vN ea ra=>
  cases rx;obtain⟨jN,Fq,pa⟩:=sb.gM I ea;cases r2 with
  | cM=>cases ry;exact SeqAt.RcNeAt.list_none pa (by lia)
  | bl b=>cases ry;exact SeqAt.RcNeAt.list_bool b pa (by lia)
  | int b=>obtain⟨tb,rfl⟩:=ry;exact SeqAt.RcNeAt.list_int b tb pa (by lia)
  | str b=>obtain⟨tb,rfl⟩:=ry;exact SeqAt.RcNeAt.list_str b tb pa (by lia)
  | @tup cb uf qG eb rb=>cases ry;obtain⟨cX,oF,pb⟩:=sb.isTup I eb;exact SeqAt.RcNeAt.list_tuple pa pb (by lia)
  | @lst cb uf qG eb rb=>cases ry;obtain⟨cX,oF,pb⟩:=sb.gM I eb;exact(by
   have hd:A.units+(cF vN+1) < cLine:=hu;have items:mh A s jN cX vN qG:=fun j h1 h2=>oG I sb vN (A:=A.in1) ra rb Fq oF (by show A.units+1+cF vN < cLine;lia) (fY jN j h1) (fY cX j h2);exact Cf (by lia) pa pb (Fq.length.symm.trans ra.length) (oF.length.symm.trans rb.length) items)
def pK:List D->Option U
 | [a,b]=>if ig a<=40 then some (.t (.bl (qy a b))) else none
 | _=>none
def QO:List D->Option U
 | [a,b]=>if ig a<=40 then some (.t (.bl (!qy a b))) else none
 | _=>none
def cN (hu:X.A.units+64 < cLine):B5 X (compareOp .Eq) pK:=by
 intro pins s σ H x y v u Q I rx ry ⟨F,ds,w,sb,rs,hw,q⟩;obtain⟨d,e,rfl,r1,r2⟩:=xY rs;obtain⟨hd,rfl⟩:=b7 (show(if ig d<=40 then some (U.t (.bl (qy d e))) else none)=some w from hw);exact YV I sb r1 r2 rx ry (by lia) _ _ _ _ ⟨.bl _,H,I,rfl,q _ F H (iM.refl ..) sb (.bl _)⟩
def Hu (hu:X.A.units+64 < cLine):B5 X (compareOp .NotEq) QO:=by
 intro pins s σ H x y v u Q I rx ry ⟨F,ds,w,sb,rs,hw,q⟩;obtain⟨d,e,rfl,r1,r2⟩:=xY rs;obtain⟨hd,rfl⟩:=b7 (show(if ig d<=40 then some (U.t (.bl (!qy d e))) else none)=some w from hw);exact QN I sb r1 r2 rx ry (by lia) _ _ _ _ ⟨.bl _,H,I,rfl,q _ F H (iM.refl ..) sb (.bl _)⟩
def inD (x:D) (ds:List D):Bool:=ds.any fun y=>qy y x
def zX:List D->Option U
 | [x,.tup ds]=>if cF ds<=40 then some (.t (.bl (inD x ds))) else none
 | [x,.lst ds]=>if cF ds<=40 then some (.t (.bl (inD x ds))) else none
 | [.str i,.str j]=>some (.t (.bl (!(Builtin.Str.occurrences j i 0 j.length 1).isEmpty)))
 | _=>none
def Hv:List D->Option U
 | [x,.tup ds]=>if cF ds<=40 then some (.t (.bl (!inD x ds))) else none
 | [x,.lst ds]=>if cF ds<=40 then some (.t (.bl (!inD x ds))) else none
 | [.str i,.str j]=>some (.t (.bl (!(!(Builtin.Str.occurrences j i 0 j.length 1).isEmpty))))
 | _=>none
def RelV.uniq {v w':V}{u:Value}(a:RelV v u) (b:RelV w' u):v=w':=by
 cases v <;> cases w' <;> simp only[RelV] at a b <;> first
  | rfl
  | (subst a;cases b;done)
  | (subst a;cases b;rfl)
  | (obtain⟨t,rfl⟩:=a;obtain⟨t',e⟩:=b;cases e;done)
  | (obtain⟨t,rfl⟩:=a;obtain⟨t',e⟩:=b;cases e;rfl)
  | (obtain⟨t,rfl⟩:=a;cases b;done)
  | (obtain⟨t,rfl⟩:=b;cases a;done)
open Classical in
def Cg (F:Hp) (d:D) (y:Value):Bool:=if h:∃(v:V) (dd:D),RelV v y/\Rep F v dd then qy (Classical.choose (afh h)) d else false
def Nk {v:V}{dd d:D}{y:Value}(a:RelV v y) (r:Rep F v dd):Cg F d y=qy dd d:=by
 unfold Cg;have h:∃(v:V) (dd:D),RelV v y/\Rep F v dd:=⟨v,dd,a,r⟩
 rw[dif_pos h];have k:=afh (afh h);have e1:=RelV.uniq k.1 a;have r':Rep F (Classical.choose h) dd:=by rw[e1];exact r
 rw[Rep.uniq k.2 r']
theorem qH (I:Inv X pins σ H s) (sb:Sub F H){A:Around}{x:V}{u:Value}{d:D}(r:Rep F x d) (rx:RelV x u):∀{vs:List V}{ds:List D}{its:AAL},bY F vs ds->Vals vs its->A.units+cF ds < cLine->
  (∀y∈its,SeqAt.EqAt A s y u (Cg F d y))/\its.any (Cg F d)=inD d ds
 | _,_,_,.nil,.nil,_=>⟨(fun y hy=>absurd hy (by simp)),rfl⟩
 | _,_,_,@bY.cons _ v dd vs ds r1 rs,.cons q qs,hu=>by
  have hd:A.units+max (ig dd) (cF ds) < cLine:=hu;obtain⟨h1,h2⟩:=qH I sb (A:=A) r rx rs qs (by lia);refine⟨fun y hy=>?_,?_⟩
  ·rcases aao.mp hy with rfl | hy
   ·rw[Nk q r1];exact TQ I sb dd r1 r q rx (by lia)
   ·exact h1 y hy
  ·rw[ae0,h2,Nk q r1];rfl
def qc (hu:X.A.units+64 < cLine):B5 X (compareOp .In) zX:=by
 intro pins s σ H x y v u Q I rx ry ⟨F,ds,w,sb,rs,hw,q⟩;obtain⟨d,e,rfl,r1,r2⟩:=xY rs;cases e with
 | tup ds=>
  obtain⟨hd,rfl⟩:=b7 (show(if cF ds<=40 then some (U.t (.bl (inD d ds))) else none)=some w by cases d <;> exact hw);obtain⟨a,vs,rfl,fa,ha,rs⟩:=sb.sQ r2;cases ry;obtain⟨its,rv,p⟩:=sb.isTup I fa;obtain⟨h1,h2⟩:=qH I sb (A:=X.A.in1) r1 rx rs rv (by show X.A.units+1+cF ds < cLine;lia);refine SeqAt.in_tupleAt (Cg F d) p (fun y hy=>h1 y (by simpa using hy)) ⟨.bl _,H,I,rfl,?_⟩;rw[show its.toArray.any (Cg F d)=its.any (Cg F d) by simp,h2];exact q _ F H (iM.refl ..) sb (.bl _)
 | lst ds=>
  obtain⟨hd,rfl⟩:=b7 (show(if cF ds<=40 then some (U.t (.bl (inD d ds))) else none)=some w by cases d <;> exact hw);obtain⟨a,vs,rfl,fa,ha,rs⟩:=sb.mG r2;cases ry;obtain⟨its,rv,p⟩:=sb.gM I fa;obtain⟨h1,h2⟩:=qH I sb (A:=X.A.in1) r1 rx rs rv (by show X.A.units+1+cF ds < cLine;lia);refine SeqAt.in_listAt (Cg F d) p (fun y hy=>h1 y (by simpa using hy)) ⟨.bl _,H,I,rfl,?_⟩;rw[show its.toArray.any (Cg F d)=its.any (Cg F d) by simp,h2];exact q _ F H (iM.refl ..) sb (.bl _)
 | str j=>
  cases d <;> try (cases hw;done)
  rename_i i;cases hw;cases r1;cases r2;exact KD pins s σ H _ _ v u Q I rx ry ⟨i,j,rfl,rfl,q _ F H (iM.refl ..) sb (.bl _)⟩
 | cM=>cases d <;> (cases hw;done)
 | bl b=>cases d <;> (cases hw;done)
 | int b=>cases d <;> (cases hw;done)
def K4 (hu:X.A.units+64 < cLine):B5 X (compareOp .NotIn) Hv:=by
 intro pins s σ H x y v u Q I rx ry ⟨F,ds,w,sb,rs,hw,q⟩;obtain⟨d,e,rfl,r1,r2⟩:=xY rs;cases e with
 | tup ds=>
  obtain⟨hd,rfl⟩:=b7 (show(if cF ds<=40 then some (U.t (.bl (!inD d ds))) else none)=some w by cases d <;> exact hw);obtain⟨a,vs,rfl,fa,ha,rs⟩:=sb.sQ r2;cases ry;obtain⟨its,rv,p⟩:=sb.isTup I fa;obtain⟨h1,h2⟩:=qH I sb (A:=X.A.in1) r1 rx rs rv (by show X.A.units+1+cF ds < cLine;lia);refine SeqAt.notIn_tupleAt (Cg F d) p (fun y hy=>h1 y (by simpa using hy)) ⟨.bl _,H,I,rfl,?_⟩;rw[show its.toArray.any (Cg F d)=its.any (Cg F d) by simp,h2];exact q _ F H (iM.refl ..) sb (.bl _)
 | lst ds=>
  obtain⟨hd,rfl⟩:=b7 (show(if cF ds<=40 then some (U.t (.bl (!inD d ds))) else none)=some w by cases d <;> exact hw);obtain⟨a,vs,rfl,fa,ha,rs⟩:=sb.mG r2;cases ry;obtain⟨its,rv,p⟩:=sb.gM I fa;obtain⟨h1,h2⟩:=qH I sb (A:=X.A.in1) r1 rx rs rv (by show X.A.units+1+cF ds < cLine;lia);refine SeqAt.notIn_listAt (Cg F d) p (fun y hy=>h1 y (by simpa using hy)) ⟨.bl _,H,I,rfl,?_⟩;rw[show its.toArray.any (Cg F d)=its.any (Cg F d) by simp,h2];exact q _ F H (iM.refl ..) sb (.bl _)
 | str j=>
  cases d <;> try (cases hw;done)
  rename_i i;cases hw;cases r1;cases r2;exact DF pins s σ H _ _ v u Q I rx ry ⟨i,j,rfl,rfl,q _ F H (iM.refl ..) sb (.bl _)⟩
 | cM=>cases d <;> (cases hw;done)
 | bl b=>cases d <;> (cases hw;done)
 | int b=>cases d <;> (cases hw;done)
end
def Ao (T:String) (d:D):Option Bool:=match T with
 | "tuple"=>some (MW d)
 | "list"=>some (MX d)
 | "str"=>some (tY d)
 | "bool"=>some (Tw d)
 | "int"=>some (MY d)
 | _=>none
def Nl {d:D}{b:Bool}(h:Ao T d=some b):PySem.W.kitOne K (.type (Va d)) (.type T)=some b:=by
 unfold Ao at h;split at h
 ·cases h;exact Qw d
 ·cases h;exact Qx d
 ·cases h;exact MZ d
 ·cases h;exact Vb d
 ·cases h;exact Qy d
 ·cases h
def kK:List String->D->Option Bool
 | [],_=>some false
 | T :: Ts,d=>match Ao T d with
  | some true=>some true
  | some false=>kK Ts d
  | none=>none
section
variable {X:Cx}{pins:AAG}{σ:St}{F H:Hp}{s:Shared}
def QS (I:Inv X pins σ H s) (sb:Sub F H){E:AAE}{Q:AAE}{u:Value}{d:D}{c:Value}{b:Bool}(r:Rep F x d) (rx:RelV x u) (e:PySem.W.kitOne X.K (.type (Va d)) c=some b) (h:∀tk,Q (.bool b) {s with toks:=tk}):
  wpAny (model X.prog X.w) A (call (.builtin "isinstance") [u,c]) Q E s:=by
 cases r with
 | cM=>cases rx;exact adI PySem.W.kitx_none I.sV True.intro e (fun z=>nomatch z) h
 | bl y=>cases rx;exact adI PySem.W.kitx_bool I.sV True.intro e (fun z=>nomatch z) h
 | int i=>obtain⟨t,rfl⟩:=rx;exact adI PySem.W.kitx_int I.sV True.intro e (fun z=>nomatch z) h
 | str y=>obtain⟨t,rfl⟩:=rx;exact adI PySem.W.kitx_str I.sV True.intro e (fun z=>nomatch z) h
 | tup ea _=>
  cases rx;obtain⟨its,_,o,h1,h2,_⟩:=sb.isTup I ea;exact adI PySem.W.kitx_tuple I.sV ⟨o,h1,h2⟩ e (fun z=>nomatch z) h
 | lst ea _=>
  cases rx;obtain⟨its,_,o,h1,h2,_⟩:=sb.gM I ea;exact adI PySem.W.kitx_list I.sV ⟨o,h1,h2⟩ e (fun z=>nomatch z) h
end
def PD (Ts:List String) (g:GD):GD:=fun S=>(g S).bind fun p=>(kK Ts p.1).map fun b=>(.bl b,p.2)
section
variable {X:Cx}{a b e:Expr}{pos p px:Pos}{x y:Str}{ga:GD}
def K5 {d:D}{b:Bool}(h:kK [T] d=some b):Ao T d=some b:=by
 unfold kK at h;cases e:Ao T d with
 | none=>rw[e] at h;cases h
 | some k=>rw[e] at h;cases k <;> exact h
def lO (hg:Gl X "isinstance") (hm:X.mg "isinstance" =none) (hg2:Gl X y) (hm2:X.mg y=none) (hv2:bootBuiltins y=some (.type T)) (ha:JD X a ga) (hn2:y≠"__name__":=by decide) (hd2:BBT y:=by decide)
  (hs:starEach [a,.Name y px] X.env=(false,eval a X.env) :: starEach [.Name y px] X.env:=by rfl) (hs2:starEach [.Name y px] X.env=(false,eval (.Name y px) X.env) :: starEach [] X.env:=by rfl) (hpl:(backTo pos (starEach [.Name y px] X.env)).any (·.1)=false:=by rfl):
  JD X (.Call (.Name "isinstance" p) [a,.Name y px] [] pos) (PD [T] ga):=⟨fun B=>
 (kO (r:=fun xs H Q=>∃x F d b,xs=[x,.ty T]/\Sub F H/\Rep F x d/\Ao T d=some b/\Q (.bl b) H) (fun pins s σ H xs us Q I r hh=>by
   obtain⟨x,F,d,b,e1,sb,rd,hk,q⟩:=hh;subst e1;obtain⟨u,w',rfl,ru,rw'⟩:=vals2 r;cases rw';exact QS I sb rd ru (Nl hk) fun tk=>⟨.bl b,H,I.tok tk,rfl,q⟩) hg hm aeA (j9 (ha.h B) (j9 (II (v:=.ty T) hg2 hm2 hv2 rfl hn2 hd2) tV hs2) hs) (by decide) (by decide) hs hpl).imp fun σ H Q hh=>by
 obtain⟨S,F,d,S',R,hg,q⟩:=hh;obtain⟨⟨d1,S1⟩,h1,hg⟩:=aj hg;obtain⟨k,h2,hg⟩:=aB hg;cases hg;exact⟨S,F,d1,_,R,h1,fun v F1 H1 R1 st1 r1=>⟨v,F1,d1,k,rfl,R1.sub,r1,K5 h2,q _ F1 H1 R1 st1 (.bl k)⟩⟩⟩
noncomputable def ug:List D->Option (List Bool)
 | []=>some []
 | .bl b :: ds=>(ug ds).map fun bs=>b :: bs
 | _=>none
theorem zY {F:Hp}:∀{vs:List V}{ds:List D}{bs:List Bool},bY F vs ds->ug ds=some bs->vs=bs.map V.bl
 | _,_,_,.nil,h=>by cases h;rfl
 | _,_,_,@bY.cons _ v d vs ds r rs,h=>by
  cases d <;> try (cases h;done)
  obtain⟨bs,h1,h2⟩:=aB (show(ug ds).map _=_ from h);subst h2;rw[ow r,zY rs h1];rfl
def Vk:List D->Option U
 | [.lst ds]=>(ug ds).map fun bs=>.t (.bl (bs.all id))
 | _=>none
def DV {P:D->Prop}{F:Hp}{f:List D->Option U}{w':U}(rs:bY F xs ds) (h:f ds=some w') (hn:f []=none) (h2:∀a b r,f (a :: b :: r)=none):∃x d,xs=[x]/\ds=[d]/\Rep F x d:=by
 cases rs with
 | nil=>rw[hn] at h;cases h
 | cons r rs=>
  cases rs with
  | nil=>exact⟨_,_,rfl,rfl,r⟩
  | cons _ _=>rw[h2] at h;cases h
def K6 (hc:X.calm=true):jK X (.builtin "all") (rP Vk):=by
 intro pins s σ H xs us Q I r ⟨F,ds,w,sb,rs,hw,q⟩;obtain⟨x,d,rfl,rfl,r1⟩:=DV (P:=fun _=>True) rs hw rfl (fun d _ _=>by cases d <;> rfl);cases d <;> try (cases hw;done)
 rename_i ds;obtain⟨bs,h1,rfl⟩:=aB (show(ug ds).map _=some w from hw);obtain⟨a,vs,rfl,fa,ha,An⟩:=sb.mG r1;obtain rfl:=zY An h1;exact KU hc pins s σ H _ us Q I r ⟨a,bs,rfl,.inl ha,q _ F H (iM.refl ..) sb (.bl _)⟩
noncomputable def YW:List D->Option U
 | [.int i,.int j,.int k]=>some (.t (.int (if j < i then(if k < j then k else j) else if k < i then k else i)))
 | _=>none
noncomputable def YX:List D->Option U
 | [.int i,.int j]=>some (.t (.int (if j < i then j else i)))
 | _=>none
noncomputable def Jj:List D->Option U
 | [.int i,.int j]=>some (.t (.int (if j > i then j else i)))
 | _=>none
def Hw (hc:X.calm=true):jK X (.builtin "max") (rP Jj):=by
 intro pins s σ H xs us Q I r ⟨F,ds,w,sb,rs,hw,q⟩;unfold Jj at hw;split at hw
 ·rename_i i j;cases hw;cases rs with
  | cons r1 rs=>cases rs with
   | cons r2 rs=>
    cases rs;rw[i8 r1,i8 r2] at r;exact KG hc pins s σ H _ us Q I r ⟨i,j,rfl,q _ F H (iM.refl ..) sb (.int _)⟩
 ·cases hw
end
def vL.ky (e:H a=some (.dK kvs)) (h:UY y k):vL H a y (yY kvs k):=.inl ⟨kvs,k,.inl e,h,rfl⟩
def E6.ky {v:V}(e:H a=some (.dK kvs)) (h:UY y k) (hl:kvs.length < sizeLine):E6 H a y v (upd H a (.dK (putK kvs k v))):=.inl ⟨kvs,k,e,h,hl,rfl⟩
def keyOf:D->Option Key
 | .bl b=>some (.inl (bI b))
 | .int i=>some (.inl i)
 | .str z=>some (.inr z)
 | _=>none
def vh {F:Hp}{v:V}{d:D}(r:Rep F v d) (h:keyOf d=some k):UY v k:=by
 cases r <;> cases h <;> first | exact .inl rfl | exact .inr ⟨_,rfl,rfl⟩
noncomputable def dz {κ:Type} [DecidableEq κ] (kvs:List (κ×D)) (k:κ):Option D:=(kvs.find? fun kv=>decide (kv.1=k)).map (·.2)
noncomputable def putD {κ:Type} [DecidableEq κ] (kvs:List (κ×D)) (k:κ) (d:D):List (κ×D):=
 if(kvs.any fun kv=>decide (kv.1=k))=true then kvs.map (fun kv=>if kv.1=k then(kv.1,d) else kv) else kvs++[(k,d)]
theorem vj {κ:Type} [DecidableEq κ] {F:Hp}{k:κ}{d:D}:∀{ws:List (κ×V)}{kvs:List (κ×D)},Paired (fW F) ws kvs->dz kvs k=some d->∃v,yY ws k=some v/\Rep F v d
 | _,_,.nil,h=>by cases h
 | _,_,@Paired.cons _ _ _ p q ws kvs r rs,h=>by
  by_cases e:q.1=k
  ·have e':p.1=k:=r.1.trans e;refine⟨p.2,E3 e',?_⟩;have:dz (q :: kvs) k=some q.2:=by simp[dz,ack,e]
   rw[this] at h;cases h;exact r.2
  ·have e':¬p.1=k:=fun z=>e (r.1.symm.trans z);have:dz (q :: kvs) k=dz kvs k:=by simp[dz,ack,e]
   rw[this] at h;obtain⟨v,h1,h2⟩:=vj rs h;exact⟨v,by rw[A7 e'];exact h1,h2⟩
theorem CV {κ:Type} [DecidableEq κ] {F:Hp}{k:κ}:∀{ws:List (κ×V)}{kvs:List (κ×D)},Paired (fW F) ws kvs->dz kvs k=none->yY ws k=none
 | _,_,.nil,h=>rfl
 | _,_,@Paired.cons _ _ _ p q ws kvs r rs,h=>by
  by_cases e:q.1=k
  ·have:dz (q :: kvs) k=some q.2:=by simp[dz,ack,e]
   rw[this] at h;cases h
  ·have e':¬p.1=k:=fun z=>e (r.1.symm.trans z);have:dz (q :: kvs) k=dz kvs k:=by simp[dz,ack,e]
   rw[this] at h;rw[A7 e'];exact CV rs h
theorem Ft {κ:Type} [DecidableEq κ] {F:Hp}{k:κ}:∀{ws:List (κ×V)}{kvs:List (κ×D)},Paired (fW F) ws kvs->(ws.any fun kv=>decide (kv.1=k))=(kvs.any fun kv=>decide (kv.1=k))
 | _,_,.nil=>rfl
 | _,_,.cons r rs=>by rw[ae0,ae0,Ft rs,r.1]
theorem Fv {κ:Type} [DecidableEq κ] {F:Hp}{k:κ}{v:V}{d:D}(r:Rep F v d):∀{ws:List (κ×V)}{kvs:List (κ×D)},Paired (fW F) ws kvs->Paired (fW F) (ws.map fun kv=>if kv.1=k then(kv.1,v) else kv) (kvs.map fun kv=>if kv.1=k then(kv.1,d) else kv)
 | _,_,.nil=>.nil
 | _,_,@Paired.cons _ _ _ p q ws kvs h hs=>by
  refine .cons ?_ (Fv r hs);show fW F (if p.1=k then(p.1,v) else p) (if q.1=k then(q.1,d) else q);rw[h.1];by_cases e:q.1=k
  ·rw[if_pos e,if_pos e];exact⟨rfl,r⟩
  ·rw[if_neg e,if_neg e];exact h
theorem zZ {α β:Type}{P:α->β->Prop}{x:α}{y:β}(p:P x y):∀{l:List α}{r:List β},Paired P l r->Paired P (l++[x]) (r++[y])
 | _,_,.nil=>.cons p .nil
 | _,_,.cons q qs=>.cons q (zZ p qs)
def Bj {κ:Type} [DecidableEq κ] {F:Hp}{k:κ}{v:V}{d:D}{ws:List (κ×V)}{kvs:List (κ×D)}(h:Paired (fW F) ws kvs) (r:Rep F v d):Paired (fW F) (putK ws k v) (putD kvs k d):=by
 unfold putK putD;rw[Ft h];by_cases e:(kvs.any fun kv=>decide (kv.1=k))=true
 ·rw[if_pos e,if_pos e];exact Fv r h
 ·rw[if_neg e,if_neg e];exact zZ ⟨rfl,r⟩ h
def Hx:D->Option D
 | .tup ds=>if Dw 8 (.tup ds)=true then some (nf (.tup ds)) else none
 | _=>none
def yi {F:Hp}{v:V}{d:D}{ks:D}(sb:Sub F H) (r:Rep F v d) (h:Hx d=some ks):∃b,v= .ref b/\Kd H b ks:=by
 cases r with
 | @tup a vs ds e rs=>
  obtain⟨h1,h2⟩:=b7 (show(if Dw 8 (.tup ds)=true then some (nf (.tup ds)) else none)=some ks from h);subst h2;exact⟨a,rfl,_,Rep.le sb (.tup e rs),h1,rfl⟩
 | cM=>cases h
 | bl _=>cases h
 | int _=>cases h
 | str _=>cases h
 | lst _ _=>cases h
noncomputable def Vl:D ⊕ Addr->Option D
 | .inl d=>some d
 | .inr _=>none
def Hz {α β:Type}{P:α->β->Prop}{l:List α}{r:List β}{i:Int}{y:β}(p:Paired P l r) (h:jh r i=some y):∃x,jh l i=some x/\P x y:=by
 obtain⟨j,h1,h2⟩:=aj h;obtain⟨x,k1,k2⟩:=rD p h2;refine⟨x,?_,k2⟩;unfold jh;rw[p.length,h1];exact k1
def pP:U->D->Option D
 | .t (.tup ds),.int i=>jh ds i
 | .t (.lst ds),.int i=>jh ds i
 | .m (.lst ds),.int i=>jh ds i
 | .b (.lst ds),.int i=>jh ds i
 | .s ns,.int i=>(jh ns i).map D.int
 | .m (.dct kvs),k=>(keyOf k).bind (dz kvs)
 | .b (.dct kvs),k=>(keyOf k).bind (dz kvs)
 | .m (.CQ kvs),k=>(Hx k).bind (dz kvs)
 | .b (.CQ kvs),k=>(Hx k).bind (dz kvs)
 | .m (.gap es),.int i=>(jh es i).bind Vl
 | .b (.gap es),.int i=>(jh es i).bind Vl
 | _,_=>none
def d8 (i:Nat) (gb:GD):GD:=fun S=>match S[i]? with
 | some (some _)=>(gb S).bind fun p=>match p.2[i]? with
  | some (some u)=>(pP u p.1).map fun d=>(d,p.2)
  | _=>none
 | _=>none
def QT (f:α->β){l:List α}{i:Int}{x:α}(h:jh l i=some x):jh (l.map f) i=some (f x):=by
 unfold jh at h ⊢;rw[aas];obtain⟨j,h1,h2⟩:=aj h;rw[h1];show(l.map f)[j]? =_;rw[abi,h2];rfl
section
variable {X:Cx}{a b c:Expr}{es:BBC}{pos p px:Pos}{x y:Str}{gb:GD}
def Vm (hu:X.A.units+20 < cLine) (hb:JD X b gb) (hs:AH b:=by first | (intro _ _;rfl)) (hN:X.N[i]? =some x:=by rfl) (hv:xN X.env.scope x:=by first | exact Or.inl rfl | exact Or.inr (Or.inl rfl) | exact Or.inr (Or.inr rfl))
  (hd:BBT x:=by decide) (hcd:BBU x:=by decide):JD X (.Subscript (.Name x px) b pos) (d8 i gb):=⟨fun B=>PE.orelse fun σ H Q hh=>by
 obtain⟨S,F,d,S',R,hg,q⟩:=hh;unfold d8 at hg;split at hg
 ·rename_i u0 Vn;obtain⟨v0,hv0,_⟩:=R.rep i u0 Vn;obtain⟨⟨k,S1⟩,h1,hg⟩:=aj hg;dsimp only at hg;split at hg
  ·rename_i u hS;obtain⟨d',hr,hg⟩:=aB hg;cases hg;have GG:∀F1 H1,Rel X.K B S' σ F1 H1->Cc X.K F1 H1 v0 u:=fun F1 H1 R1=>by
    obtain⟨v,k1,k2⟩:=R1.rep i u hS;rw[hv0] at k1;cases k1;exact k2
   have seq:∀(Y:V->V->Hp->VK->Prop),PE X (.Subscript (.Name x px) b pos) (UG Y (P0 i) (tD X.K B gb))->(∀v F1 H1,Rel X.K B S' σ F1 H1->Step S S' σ F H F1 H1->Rep F1 v k->Y v0 v H1 Q)->∃t',PE X (.Subscript (.Name x px) b pos) t'/\t' σ H Q:=fun Y hY h=>
    ⟨_,hY,v0,hv0,S,F,k,S',R,h1,fun v F1 H1 R1 st1 r1=>h v F1 H1 R1 st1 r1⟩
   have dict:∀kvs,(∀F1 H1,Rel X.K B S' σ F1 H1->∃a ws,v0= .ref a/\H1 a=some (.dK ws)/\Paired (fW F1) ws kvs)->(keyOf k).bind (dz kvs)=some d->∃t',PE X (.Subscript (.Name x px) b pos) t'/\t' σ H Q:=fun kvs hat hr=>by
    obtain⟨kk,e1,e2⟩:=aj hr;refine⟨_,IU hu (eL hN hv hd hcd) (hb.h B) hs,v0,hv0,S,F,k,S',R,h1,fun v F1 H1 R1 st1 r1=>?_⟩;obtain⟨a,ws,rfl,ha,pr⟩:=hat F1 H1 R1;obtain⟨w',z1,z2⟩:=vj pr e2;exact⟨a,w',rfl,by rw[<-z1];exact vL.ky ha (vh r1 e1),q w' F1 H1 R1 st1 z2⟩
   have Fw:∀kvs,(∀F1 H1,Rel X.K B S' σ F1 H1->∃a ws,v0= .ref a/\H1 a=some (.dT ws)/\Paired (fW F1) ws kvs)->(Hx k).bind (dz kvs)=some d->∃t',PE X (.Subscript (.Name x px) b pos) t'/\t' σ H Q:=fun kvs hat hr=>by
    obtain⟨kk,e1,e2⟩:=aj hr;refine⟨_,IU hu (eL hN hv hd hcd) (hb.h B) hs,v0,hv0,S,F,k,S',R,h1,fun v F1 H1 R1 st1 r1=>?_⟩;obtain⟨a,ws,rfl,ha,pr⟩:=hat F1 H1 R1;obtain⟨w',z1,z2⟩:=vj pr e2;obtain⟨b',rfl,hb'⟩:=yi R1.sub r1 e1;exact⟨a,w',rfl,by rw[<-z1];exact vL.t ha hb',q w' F1 H1 R1 st1 z2⟩
   have list:∀ds ii,k= .int ii->jh ds ii=some d->(∀F1 H1,Rel X.K B S' σ F1 H1->∃a vs,v0= .ref a/\(yV X.K H1 a vs\/B7 X.K H1 a vs)/\bY F1 vs ds)->∃t',PE X (.Subscript (.Name x px) b pos) t'/\t' σ H Q:=fun ds ii ek hrr hat=>by
    subst ek;refine seq _ (IZ G7 (eL hN hv hd hcd) (hb.h B) hs) fun v F1 H1 R1 st1 r1=>?_;obtain⟨a,vs,rfl,ha,rs⟩:=hat F1 H1 R1;obtain⟨w',z1,z2⟩:=rs.jh hrr;rw[i8 r1];rcases ha with ha | ha
    ·exact .inl ⟨a,vs,ii,w',rfl,rfl,ha,z1,q w' F1 H1 R1 st1 z2⟩
    ·exact .inr (.inl ⟨a,vs,ii,w',rfl,rfl,ha,z1,q w' F1 H1 R1 st1 z2⟩)
   have gap:∀es ii,k= .int ii->(jh es ii).bind Vl=some d->(∀F1 H1,Rel X.K B S' σ F1 H1->∃a vs,v0= .ref a/\H1 a=some (.lst vs)/\Paired (Hl F1) vs es)->∃t',PE X (.Subscript (.Name x px) b pos) t'/\t' σ H Q:=fun es ii ek hrr hat=>by
    subst ek;obtain⟨y,e1,e2⟩:=aj hrr;cases y with
    | inr c=>cases e2
    | inl d'=>
     cases e2;refine seq _ (IZ G7 (eL hN hv hd hcd) (hb.h B) hs) fun v F1 H1 R1 st1 r1=>?_;obtain⟨a,vs,rfl,ha,rs⟩:=hat F1 H1 R1;obtain⟨w',z1,z2⟩:=Hz rs e1;rw[i8 r1];exact .inl ⟨a,vs,ii,w',rfl,rfl,yV.of ha,z1,q w' F1 H1 R1 st1 z2⟩
   unfold pP at hr;split at hr
   ·rename_i ds ii;exact list ds ii rfl hr fun F1 H1 R1=>let⟨a,vs,e1,fa,ha,rs⟩:=R1.sub.sQ (GG F1 H1 R1);⟨a,vs,e1,.inr (.inl ha),rs⟩
   ·rename_i ds ii;exact list ds ii rfl hr fun F1 H1 R1=>let⟨a,vs,e1,fa,ha,rs⟩:=R1.sub.mG (GG F1 H1 R1);⟨a,vs,e1,.inl (.inl ha),rs⟩
   ·rename_i ds ii;exact list ds ii rfl hr fun F1 H1 R1=>let⟨a,e1,fa,vs,ha,rs⟩:=GG F1 H1 R1;⟨a,vs,e1,.inl (yV.of ha),rs⟩
   ·rename_i ds ii;exact list ds ii rfl hr fun F1 H1 R1=>let⟨a,e1,fa,vs,ha,rs⟩:=GG F1 H1 R1;⟨a,vs,e1,.inl (yV.of ha),rs⟩
   ·rename_i ns ii;obtain⟨n,z1,z2⟩:=aB hr;subst z2;refine seq _ (IZ G7 (eL hN hv hd hcd) (hb.h B) hs) fun v F1 H1 R1 st1 r1=>?_;obtain⟨a,e1,ha⟩:=GG F1 H1 R1;rw[i8 r1];exact .inl ⟨a,ns.map V.int,ii,.int n,e1,rfl,ha.sq,QT V.int z1,q _ F1 H1 R1 st1 (.int n)⟩
   ·rename_i kvs;exact dict kvs (fun F1 H1 R1=>let⟨a,e1,fa,ws,ha,pr⟩:=GG F1 H1 R1;⟨a,ws,e1,ha,pr⟩) hr
   ·rename_i kvs;exact dict kvs (fun F1 H1 R1=>let⟨a,e1,fa,ws,ha,pr⟩:=GG F1 H1 R1;⟨a,ws,e1,ha,pr⟩) hr
   ·rename_i kvs;exact Fw kvs (fun F1 H1 R1=>let⟨a,e1,fa,ws,ha,pr⟩:=GG F1 H1 R1;⟨a,ws,e1,ha,pr⟩) hr
   ·rename_i kvs;exact Fw kvs (fun F1 H1 R1=>let⟨a,e1,fa,ws,ha,pr⟩:=GG F1 H1 R1;⟨a,ws,e1,ha,pr⟩) hr
   ·rename_i es ii;exact gap es ii rfl hr fun F1 H1 R1=>let⟨a,e1,fa,vs,ha,pr⟩:=GG F1 H1 R1;⟨a,vs,e1,ha,pr⟩
   ·rename_i es ii;exact gap es ii rfl hr fun F1 H1 R1=>let⟨a,e1,fa,vs,ha,pr⟩:=GG F1 H1 R1;⟨a,vs,e1,ha,pr⟩
   ·cases hr
  ·cases hg
 ·cases hg⟩
noncomputable def DW:U->BBS
 | .t (.tup ds)=>some ds.length
 | .t (.lst ds)=>some ds.length
 | .t (.str z)=>if z.length<=100000 then some z.length else none
 | .m (.lst ds)=>some ds.length
 | .b (.lst ds)=>some ds.length
 | .m (.dct ds)=>some ds.length
 | .b (.dct ds)=>some ds.length
 | .m (.CQ ds)=>some ds.length
 | .b (.CQ ds)=>some ds.length
 | .s ns=>some ns.length
 | _=>none
def oH (i:Nat):GD:=fun S=>match S[i]? with
 | some (some u)=>(DW u).map fun n=>(.int (n:Nat),S)
 | _=>none
theorem cR {α β:Type}{P:α->β->Prop}:∀{l:List α}{r:List β},Paired P l r->l.length=r.length
 | _,_,.nil=>rfl
 | _,_,.cons _ ps=>congrArg Nat.succ (cR ps)
def HA:jK X (.builtin "len") (fun xs H Q=>∃a kvs,xs=[V.ref a]/\H a=some (.dT kvs)/\Q (.int kvs.length) H):=by
 intro pins s σ H xs us Q I r h;obtain⟨a,kvs,rfl,ha,q⟩:=h;obtain⟨u,rfl,ru⟩:=vals1 r;cases ru;exact(Tu I.hok ha).elim
def jl (hg:Gl X "len") (hm:X.mg "len" =none) (hN:X.N[i]? =some x:=by rfl) (hv:xN X.env.scope x:=by first | exact Or.inl rfl | exact Or.inr (Or.inl rfl) | exact Or.inr (Or.inr rfl))
  (hd:BBT x:=by decide) (hcd:BBU x:=by decide) (he:starEach [.Name x px] X.env=(false,eval (.Name x px) X.env) :: starEach [] X.env:=by rfl) (hpl:(backTo pos (starEach [] X.env)).any (·.1)=false:=by rfl):
  JD X (.Call (.Name "len" p) [.Name x px] [] pos) (oH i):=⟨fun B=>PE.orelse fun σ H Q hh=>by
 obtain⟨S,F,d,S',R,hg',q⟩:=hh;unfold oH at hg';split at hg'
 ·rename_i u hS;obtain⟨n,hn,hg'⟩:=aB hg';cases hg';obtain⟨v0,hv0,r0⟩:=R.rep i u hS;have fin:=q (.int n) F H R (Step.refl ..) (.int _);have arg:PA X [.Name x px] (To (P0 i) MB):=j9 (eL hN hv hd hcd) tV he;have list:∀a vs,v0= .ref a->(yV X.K H a vs\/B7 X.K H a vs)->vs.length=n->∃t',PE X (.Call (.Name "len" p) [.Name x px] [] pos) t'/\t' σ H Q:=fun a vs e1 ha hl=>
   ⟨_,kO q8 hg hm acE arg (by decide) (by decide) he hpl,v0,hv0,a,vs,by rw[e1],ha,by rw[hl];exact fin⟩
  have dict:∀a ws,v0= .ref a->H a=some (.dK ws)->ws.length=n->∃t',PE X (.Call (.Name "len" p) [.Name x px] [] pos) t'/\t' σ H Q:=fun a vs e1 ha hl=>
   ⟨_,kO KS hg hm acE arg (by decide) (by decide) he hpl,v0,hv0,a,vs,by rw[e1],ha,by rw[hl];exact fin⟩
  have Fw:∀a ws,v0= .ref a->H a=some (.dT ws)->ws.length=n->∃t',PE X (.Call (.Name "len" p) [.Name x px] [] pos) t'/\t' σ H Q:=fun a vs e1 ha hl=>
   ⟨_,kO HA hg hm acE arg (by decide) (by decide) he hpl,v0,hv0,a,vs,by rw[e1],ha,by rw[hl];exact fin⟩
  unfold DW at hn;split at hn
  ·cases hn;obtain⟨a,vs,e1,fa,ha,rs⟩:=R.sub.sQ r0;exact list a vs e1 (.inr (.inl ha)) rs.length
  ·cases hn;obtain⟨a,vs,e1,fa,ha,rs⟩:=R.sub.mG r0;exact list a vs e1 (.inl (.inl ha)) rs.length
  ·rename_i z;obtain⟨hl,rfl⟩:=b7 hn;exact⟨_,kO xU hg hm acE arg (by decide) (by decide) he hpl,v0,hv0,z,by rw[Jg r0],nC hl,fin⟩
  ·cases hn;obtain⟨a,e1,fa,vs,ha,rs⟩:=r0;exact list a vs e1 (.inl (yV.of ha)) rs.length
  ·cases hn;obtain⟨a,e1,fa,vs,ha,rs⟩:=r0;exact list a vs e1 (.inl (yV.of ha)) rs.length
  ·cases hn;obtain⟨a,e1,fa,ws,ha,pr⟩:=r0;exact dict a ws e1 ha (cR pr)
  ·cases hn;obtain⟨a,e1,fa,ws,ha,pr⟩:=r0;exact dict a ws e1 ha (cR pr)
  ·cases hn;obtain⟨a,e1,fa,ws,ha,pr⟩:=r0;exact Fw a ws e1 ha (cR pr)
  ·cases hn;obtain⟨a,e1,fa,ws,ha,pr⟩:=r0;exact Fw a ws e1 ha (cR pr)
  ·cases hn;obtain⟨a,e1,ha⟩:=r0;exact list a _ e1 (.inl ha.sq) (by simp)
  ·cases hn
 ·cases hg'⟩
end
def rE (o:MO) (k d:D):Option MO:=match o with
 | .dct kvs=>(keyOf k).bind fun kk=>if kvs.length < 100000 then some (.dct (putD kvs kk d)) else none
 | .CQ kvs=>(Hx k).bind fun kk=>if kvs.length < 10000000 then some (.CQ (putD kvs kk d)) else none
 | .lst ds=>match k with
  | .int i=>(G6 ds.length i).map fun j=>.lst (ds.set j d)
  | _=>none
 | .gap es=>match k with
  | .int i=>(G6 es.length i).map fun j=>.gap (es.set j (.inl d))
  | _=>none
 | _=>none
theorem Bk {α β:Type}{P:α->β->Prop}{x:α}{y:β}(h:P x y):∀{l:List α}{r:List β}(_:Paired P l r) (j:Nat),Paired P (l.set j x) (r.set j y)
 | _,_,.nil,_=>.nil
 | _,_,.cons p ps,0=>.cons h ps
 | _,_,.cons p ps,j+1=>.cons p (Bk h ps j)
def zc (i:Nat) (gk gv:GD):GS:=fun S=>(gv S).bind fun p=>match p.2[i]? with
 | some (some _)=>(gk p.2).bind fun r=>(yc r.2 i fun o=>(rE o r.1 p.1).map fun o'=>(.cM,o')).map fun z=>.nx z.2
 | _=>none
theorem bY.set {F:Hp}{v:V}{d:D}(r:Rep F v d):∀{vs:List V}{ds:List D}(j:Nat),bY F vs ds->bY F (vs.set j v) (ds.set j d)
 | _,_,_,.nil=>.nil
 | _,_,0,.cons _ rs=>.cons r rs
 | _,_,j+1,.cons q rs=>.cons q (bY.set r j rs)
section
variable {X:Cx}{a b c e value k:Expr}{pos p px pos':Pos}{x y:Str}{g gk gv:GD}
def uh (hu:X.A.units+20 < cLine) (hk:JD X k gk) (hval:JD X value gv) (hN:X.N[i]? =some x:=by rfl) (hv:xN X.env.scope x:=by first | exact Or.inl rfl | exact Or.inr (Or.inl rfl) | exact Or.inr (Or.inr rfl))
  (hd:BBT x:=by decide) (hcd:BBU x:=by decide)
  (hs:swapsWith value (some (.Subscript (.Name x px) k pos')) pos.line X.env=pure false:=by rfl)
  (hs1:swapsWithSole [.Subscript (.Name x px) k pos'] value pos.line X.env=pure false:=by rfl) (hs2:swappedStores [.Subscript (.Name x px) k pos'] value X.env=pure none:=by rfl)
  (hs3:(assignEach [.Subscript (.Name x px) k pos'] X.env).map (·.2)=[assign (.Subscript (.Name x px) k pos') X.env]:=by rfl)
  (hs4:∀v,assign (.Subscript (.Name x px) k pos') X.env v=(do
   let ov <-holding [v] (eval (.Name x px) X.env)
   let iv <-holding [v,ov] (eval k X.env)
   standAt pos'
   holding [v,ov,iv] (setItem ov iv v)
   release [v,ov,iv] []):=by intro _;rfl):
  JS X (.Assign [.Subscript (.Name x px) k pos'] value pos) (zc i gk gv):=⟨fun B=>PS.orelse fun D σ H hh=>by
 obtain⟨S,F,o,R,hg,q⟩:=hh;obtain⟨⟨d,S1⟩,h1,hg⟩:=aj hg;dsimp only at hg;split at hg
 ·rename_i u0 Vn;obtain⟨⟨kd,S2⟩,h2,hg⟩:=aj hg;obtain⟨⟨nd,S3⟩,h3,hg⟩:=aB hg;subst hg;obtain⟨u,u',mo,mo',hS,ET,hio,hf,PB,rfl⟩:=vf h3;obtain⟨mo2,hw,hf2⟩:=aB hf;cases hf2;have hv0:∀F1 H1,Rel X.K B S1 σ F1 H1->∃v,σ[i]? =some (some v):=fun F1 H1 R1=>let⟨v,k1,_⟩:=R1.rep i u0 Vn;⟨v,k1⟩
  cases mo with
  | dct kvs=>
   obtain⟨kk,e1,hw⟩:=aj hw;obtain⟨hl,rfl⟩:=b7 hw;refine⟨_,IV hu (eL hN hv hd hcd) (hk.h B) (hval.h B) hs,S,F,d,S1,R,h1,fun v F1 H1 R1 st1 r1=>?_⟩;obtain⟨v0,hv0⟩:=hv0 F1 H1 R1;refine⟨v0,hv0,S1,F1,kd,S2,R1,h2,fun y F2 H2 R2 st2 r2=>?_⟩;obtain⟨v',k1,k2⟩:=R2.rep i u hS;rw[hv0] at k1;cases k1;obtain⟨a,o2,rfl,fa,eo,k3⟩:=k2.eO ET;rw[hio] at eo;cases eo;obtain⟨ws,ha,pr⟩:=k3;refine⟨a,_,rfl,E6.ky ha (vh r2 e1) (by rw[cR pr];exact aau hl (by decide)),?_⟩;obtain⟨R3,st3⟩:=R2.write (ho:=.dK (putK ws kk v)) hS PB hv0 ⟨_,aY,Bj pr (r1.le st2.ext.le)⟩;exact q σ F2 _ R3 fun b o z=>st2.ext.le b o (st1.ext.le b o z)
  | ins C kvs=>cases hw
  | lat _ _=>cases hw
  | Px _ _=>cases hw
  | Py _ _=>cases hw
  | CQ kvs=>
   obtain⟨kk,e1,hw⟩:=aj hw;obtain⟨hl,rfl⟩:=b7 hw;refine⟨_,IV hu (eL hN hv hd hcd) (hk.h B) (hval.h B) hs,S,F,d,S1,R,h1,fun v F1 H1 R1 st1 r1=>?_⟩;obtain⟨v0,hv0⟩:=hv0 F1 H1 R1;refine⟨v0,hv0,S1,F1,kd,S2,R1,h2,fun y F2 H2 R2 st2 r2=>?_⟩;obtain⟨v',k1,k2⟩:=R2.rep i u hS;rw[hv0] at k1;cases k1;obtain⟨a,o2,rfl,fa,eo,k3⟩:=k2.eO ET;rw[hio] at eo;cases eo;obtain⟨ws,ha,pr⟩:=k3;obtain⟨b',rfl,hb'⟩:=yi R2.sub r2 e1;refine⟨a,_,rfl,E6.t ha hb' (by rw[cR pr];exact aau hl (by decide)),?_⟩;obtain⟨R3,st3⟩:=R2.write (ho:=.dT (putK ws kk v)) hS PB hv0 ⟨_,aY,Bj pr (r1.le st2.ext.le)⟩;exact q σ F2 _ R3 fun b o z=>st2.ext.le b o (st1.ext.le b o z)
  | lst ds=>
   unfold rE at hw;dsimp only at hw;split at hw
   ·rename_i ii;obtain⟨j,e1,rfl⟩:=aB hw;refine⟨_,GQ (hval.h B) (Ms (eL hN hv hd hcd) (hk.h B) set_list hs4) hs1 hs2 hs3,S,F,d,S1,R,h1,fun v F1 H1 R1 st1 r1=>?_⟩;obtain⟨v0,hv0⟩:=hv0 F1 H1 R1;refine⟨v0,hv0,S1,F1,_,S2,R1,h2,fun y F2 H2 R2 st2 r2=>?_⟩;obtain⟨v',k1,k2⟩:=R2.rep i u hS;rw[hv0] at k1;cases k1;obtain⟨a,o2,rfl,fa,eo,k3⟩:=k2.eO ET;rw[hio] at eo;cases eo;obtain⟨vs,ha,rs⟩:=k3;rw[i8 r2];refine⟨a,vs,_,j,rfl,rfl,ha,by rw[rs.length];exact e1,?_⟩;obtain⟨R3,st3⟩:=R2.write (ho:=.lst (vs.set j v)) hS PB hv0 ⟨_,aY,rs.set (r1.le st2.ext.le) j⟩;exact q σ F2 _ R3 fun b o z=>st2.ext.le b o (st1.ext.le b o z)
   ·cases hw
  | gap ds=>
   unfold rE at hw;dsimp only at hw;split at hw
   ·rename_i ii;obtain⟨j,e1,rfl⟩:=aB hw;refine⟨_,GQ (hval.h B) (Ms (eL hN hv hd hcd) (hk.h B) set_list hs4) hs1 hs2 hs3,S,F,d,S1,R,h1,fun v F1 H1 R1 st1 r1=>?_⟩;obtain⟨v0,hv0⟩:=hv0 F1 H1 R1;refine⟨v0,hv0,S1,F1,_,S2,R1,h2,fun y F2 H2 R2 st2 r2=>?_⟩;obtain⟨v',k1,k2⟩:=R2.rep i u hS;rw[hv0] at k1;cases k1;obtain⟨a,o2,rfl,fa,eo,k3⟩:=k2.eO ET;rw[hio] at eo;cases eo;obtain⟨vs,ha,rs⟩:=k3;rw[i8 r2];refine⟨a,vs,_,j,rfl,rfl,ha,by rw[cR rs];exact e1,?_⟩;obtain⟨R3,st3⟩:=R2.write (ho:=.lst (vs.set j v)) hS PB hv0 ⟨_,aY,Bk (show Hl _ v (.inl d) from r1.le st2.ext.le) rs j⟩;exact q σ F2 _ R3 fun b o z=>st2.ext.le b o (st1.ext.le b o z)
   ·cases hw
 ·cases hg⟩
def Rel.acM {F:Hp}{a:Addr}{o':HO}(R:Rel K B S σ F H) (hn:¬eO S σ a) (hf:F a=none) (hB:B.H a=none) (hh:H a=some o) (hz:∀ob u,o≠.mZ ob u):Rel K B S σ F (upd H a o'):=by
 have Xp:∀b ob w,H b=some (.mZ ob w)->upd H a o' b=some (.mZ ob w):=fun b ob w z=>by
  rw[aX (fun e=>by rw[e,hh] at z;cases z;exact hz _ _ rfl)];exact z
 refine⟨fun b u z=>?_,R.len,fun j w z=>?_,R.Ho,R.own,R.bor,R.par,⟨R.ext.le,fun b u z n=>?_,R.ext.m8,fun b u z=>?_,fun b ob w z=>Xp b ob w (R.ext.mZ b ob w z)⟩⟩
 ·have hb:b≠a:=fun e=>by rw[e,hf] at z;cases z
  rw[aX hb];exact R.sub b u z
 ·obtain⟨v,h1,h2⟩:=R.rep j w z;refine⟨v,h1,h2.le (fun _ _ z=>z) Xp fun c hm hc=>?_⟩;have hca:c≠a:=fun e=>hn ⟨j,w,z,hm,by rw[h1,hc,e]⟩;obtain⟨c',_,e,f,_⟩:=h2.eO hm;rw[hc] at e;cases e;exact⟨fun o z=>by rw[aX hca];exact z,f⟩
 ·rw[aX (fun e=>by rw[e,hB] at z;cases z)];exact R.ext.keep b u z n
 ·by_cases hb:b=a
  ·exact⟨o',by rw[hb,aY]⟩
  ·rw[aX hb];exact R.ext.there b u z
noncomputable def rF:List (Str×GD)->SS->Option (List (Key×D)×SS)
 | [],S=>some ([],S)
 | (z,g) :: r,S=>(g S).bind fun p=>(rF r p.2).map fun q=>((.inr z,p.1) :: q.1,q.2)
def eV (kvs more:List (Key×D)):List (Key×D):=more.foldl (fun acc kv=>putD acc kv.1 kv.2) kvs
theorem wI {F:Hp}:∀{more:List (Key×V)}{TR:List (Key×D)}{ws:List (Key×V)}{kvs:List (Key×D)},Paired (fW F) more TR->Paired (fW F) ws kvs->Paired (fW F) (oh ws more) (eV kvs TR)
 | _,_,_,_,.nil,h=>h
 | _,_,ws,kvs,@Paired.cons _ _ _ p q _ _ r rs,h=>by
  have e:=Bj (k:=q.1) h r.2;show Paired (fW F) (oh (putK ws p.1 p.2) _) (eV (putD kvs q.1 q.2) _);rw[r.1];exact wI rs e
def yj (Ci:List (Str×GD)):GE:=fun S=>(rF Ci S).map fun p=>(.m (.dct (eV [] p.1)),p.2)
structure JPs (X:Cx) (pos:Pos) (keys:List (BBL)) (values:BBC) (Ci:List (Str×GD)):Prop where
 h:∀B,Yq X pos keys values (Ci.map fun p=>(tC (.str p.1),tD X.K B p.2))
def ym:JPs X pos [] [] []:=⟨fun B=>Qj⟩
def dO {j:Nat}{pk:Pos}{v:Expr}{ks:List (BBL)}{vs:BBC}(hv:JD X v g) (hr:JPs X pos ks vs Ci):JPs X pos (some (.Constant (.str z) j pk) :: ks) (v :: vs) ((z,g) :: Ci):=⟨fun B=>MH Mm (hv.h B) (hr.h B)⟩
theorem Fx {B:Base}{σ:St}:∀{Ci:List (Str×GD)}{S0 S:SS}{F0 H0 F H:Hp}{kvs:List (Key×D)}{S':SS}{Q:List (V×V)->Hp->Prop},Rel X.K B S σ F H->Step S0 S σ F0 H0 F H->rF Ci S=some (kvs,S')->
  (∀(ws:List (Key×V)) (F' H':Hp),Rel X.K B S' σ F' H'->Step S0 S' σ F0 H0 F' H'->Paired (fW F') ws kvs->Q (ws.map fun kv=>(kV kv.1,kv.2)) H')->A8 (Ci.map fun p=>(tC (.str p.1),tD X.K B p.2)) σ H Q
 | [],S0,S,F0,H0,F,H,kvs,S',Q,R,st,h,q=>by cases h;exact q [] F H R st .nil
 | (z,g) :: r,S0,S,F0,H0,F,H,kvs,S',Q,R,st,h,q=>by
  obtain⟨⟨d,S1⟩,h1,h⟩:=aj h;obtain⟨⟨agg,S2⟩,h2,h⟩:=aB h;cases h;show tC (.str z) σ H fun x H1=>tD X.K B g σ H1 fun y H2=>A8 _ σ H2 fun ps H3=>Q ((x,y) :: ps) H3;refine⟨S,F,d,S1,R,h1,fun v F1 H1 R1 st1 r1=>?_⟩;refine Fx (S0:=S1) (F0:=F1) (H0:=H1) R1 (Step.refl ..) h2 fun ws F2 H2 R2 st2 pr=>?_;exact q ((.inr z,v) :: ws) F2 H2 R2 ((st.trans st1).trans st2) (.cons ⟨rfl,r1.le st2.ext.le⟩ pr)
def yp {keys:List (BBL)}{values:BBC}(h:JPs X pos keys values Ci) (hall:keys.all (·.isSome)=true:=by rfl) (hl:keys.length=values.length:=by rfl) (h0:keys≠[]:=by decide) (h15:keys.length<=15:=by decide) (hk:Ci.length<=15:=by decide):
  JE X (.Dict keys values pos) (yj Ci):=⟨fun B=>(Qk (h.h B) hall hl h0 h15).imp fun σ H Q hh=>by
 obtain⟨S,F,u,S',R,hg,q⟩:=hh;obtain⟨⟨kvs,S1⟩,h1,hg⟩:=aB hg;cases hg;intro p hp;have n:=iM.obj (F:=F) hp (.dK []);have hn:¬eO S σ p:=fun m=>by obtain⟨o,ho⟩:=R.has m;rw[hp] at ho;cases ho
 refine Fx (S0:=S) (F0:=F) (H0:=upd H p (.dK [])) (R.new n (R.sub.same n.same)) (Step.refl ..) h1 fun ws F1 H1 R1 st1 pr=>?_;have hp1:H1 p=some (.dK []):=st1.ext.keep p _ aY hn;have hf1:F1 p=none:=st1.ext.m8 p _ aY hn (R.sub.fresh hp);have hn1:¬eO S1 σ p:=fun m=>hn (st1.mu p m);have hB:B.H p=none:=none_of R.ext.there hp;have len:ws.length<=15:=by
  rw[cR pr];have:∀{Ci:List (Str×GD)}{S:SS}{kvs:List (Key×D)}{S':SS},rF Ci S=some (kvs,S')->kvs.length=Ci.length:=fun {Ci}=>by
   induction Ci with
   | nil=>intro S kvs S' h;cases h;rfl
   | cons p r ih=>
    intro S kvs S' h;obtain⟨⟨d,T1⟩,k1,h⟩:=aj (show(p.2 S).bind _=_ from h);obtain⟨⟨kv2,T2⟩,k2,h⟩:=aB h;cases h;show kv2.length+1=r.length+1;rw[ih k2]
  rw[this h1];exact hk
 refine⟨hp1,ws,rfl,len,?_⟩;have R2:=R1.acM (o':=.dK (oh [] ws)) hn1 hf1 hB hp1 (fun _ _ z=>by cases z);refine q (.ref p) F1 _ R2 ⟨⟨st1.ext.le,fun b o z m=>?_,fun b o z m f=>?_,fun b o z=>?_,fun b ob w z=>?_⟩,st1.mu,st1.slots⟩ ⟨p,rfl,hp,hf1,⟨_,aY,wI pr .nil⟩,hn1,hB⟩
 ·have hb:b≠p:=cD z hp;rw[aX hb];exact st1.ext.keep b o (by rw[aX hb];exact z) m
 ·have hb:b≠p:=cD z hp;exact st1.ext.m8 b o (by rw[aX hb];exact z) m f
 ·have hb:b≠p:=cD z hp;rw[aX hb];exact st1.ext.there b o (by rw[aX hb];exact z)
 ·have hb:b≠p:=cD z hp;rw[aX hb];exact st1.ext.mZ b ob w (by rw[aX hb];exact z)⟩
end
noncomputable def oJ (g:Option GD) (S:SS):Option (BBM×SS):=match g with
 | none=>some (none,S)
 | some g=>(g S).bind fun p=>match p.1 with
  | .int i=>some (some i,p.2)
  | _=>none
inductive tPO (K:AAD) (B:Base) (g:Option GD) (σ:St) (H:Hp) (Q:BBM->Hp->Prop):Prop
 | mk (S:SS) (F:Hp) (o:BBM) (S':SS) (R:Rel K B S σ F H) (hg:oJ g S=some (o,S')) (q:∀F' H',Rel K B S' σ F' H'->Step S S' σ F H F' H'->Q o H')
structure JO (X:Cx) (e:BBL) (g:Option GD):Prop where
 h:∀B,PO X e (tPO X.K B g)
def PO.imp {e:BBL}{t t':TO}(h:PO X e t) (k:∀σ H Q,t' σ H Q->t σ H Q):PO X e t':=fun pins s σ H Q I q=>h pins s σ H Q I (k σ H Q q)
def nH :JO X none none:=⟨fun B=>Qn.imp fun σ H Q ⟨S,F,o,S',R,h,q⟩=>by cases h;exact q F H R (Step.refl ..)⟩
def iw {e:Expr}(h:JD X e g):JO X (some e) (some g):=⟨fun B=>(IX (h.h B)).imp fun σ H Q hh=>by
 obtain⟨S,F,o,S',R,h,q⟩:=hh;obtain⟨⟨d,S1⟩,h1,h⟩:=aj (show(g S).bind _=_ from h);cases d <;> try (cases h)
 exact⟨S,F,_,_,R,h1,fun v F1 H1 R1 st1 r1=>⟨_,i8 r1,q F1 H1 R1 st1⟩⟩⟩
def QU (d:D) (lo hi:BBM):Option U:=match d with
 | .tup ds=>some (.t (.tup (cutD ds lo hi)))
 | .lst ds=>some (.m (.lst (cutD ds lo hi)))
 | .str z=>if z.length<=100000 then some (.t (.str (Txt.slice z lo hi))) else none
 | _=>none
def bY.cut {F:Hp}(rs:bY F vs ds) (lo hi:BBM):bY F (Ca vs lo hi) (cutD ds lo hi):=by
 unfold Ca cutD;rw[rs.length];exact(rs.drop _).take _
def acN:V->BBM->BBM->Hp->VK->Prop:=fun x lo hi H Q=>∃F d u,Sub F H/\Rep F x d/\QU d lo hi=some u/\∀v F' H',iM F H F' H'->Sub F' H'->Hq H F' H' v u->Q v H'
def acO :Yt X acN:=by
 intro pins s σ H x v vl vu lo hi sl Q I rx hs pl pu ⟨F,d,u,sb,r,hf,q⟩;cases d with
 | tup ds=>
  cases hf;have r0:=r;obtain⟨a,xs,rfl,fa,ha,rs⟩:=sb.sQ r;have hl:=rs.length;by_cases hw:HT.iR xs.length 0 lo=0/\HT.iR xs.length xs.length hi=xs.length
  ·cases rx;obtain⟨its,rv,ht,hz⟩:=I.tuple (.inl ha);have hlen:its.toArray.size=xs.length:=by rw[aam];exact rv.length.symm
   refine⟨"tuple",_,aa6.lookup,ht.typeIs,?_⟩;refine HT.KW ht hs pl pu (by rw[hlen];exact hw) ⟨.ref a,H,I,rfl,q _ F H (iM.refl ..) sb ?_⟩;have e:cutD ds lo hi=ds:=by
    unfold cutD;rw[<-hl,hw.1,hw.2,List.drop_zero,Nat.sub_zero,List.take_of_length_le (by rw[hl];exact aap _)]
   show Rep F _ (.tup (cutD ds lo hi));rw[e];exact r0
  ·exact U3 pins s σ H (.ref a) v vl vu lo hi sl Q I rx hs pl pu ⟨a,xs,rfl,.inl ha,hw,fun p hp=>q _ _ _ (iM.root sb hp _) (sb.DO hp) (.tup aY ((rs.cut lo hi).le (lM (sb.fresh hp))))⟩
 | lst ds=>
  cases hf;obtain⟨a,xs,rfl,fa,ha,rs⟩:=sb.mG r;exact Jb pins s σ H (.ref a) v vl vu lo hi sl Q I rx hs pl pu ⟨a,xs,rfl,.inl ha,fun p hp=>q _ F _ (iM.obj hp _) (sb.same (iM.obj (F:=F) hp _).same) ⟨p,rfl,hp,sb.fresh hp,_,aY,rs.cut lo hi⟩⟩
 | str z=>
  obtain⟨hl,rfl⟩:=b7 hf;cases r;exact U9 pins s σ H _ v vl vu lo hi sl Q I rx hs pl pu ⟨z,rfl,nC hl,fun _=>q _ F H (iM.refl ..) sb (.str _)⟩
 | cM=>cases hf
 | bl b=>cases hf
 | int b=>cases hf
def Bl (g:GD) (lo hi:Option GD):GE:=fun S=>(g S).bind fun p=>(oJ lo p.2).bind fun l=>(oJ hi l.2).bind fun h=>(QU p.1 l.1 h.1).map fun u=>(u,h.2)
section
variable {X:Cx}{a b e:Expr}{lo hi:BBL}{pos p p2 px:Pos}{x:Str}{g:GD}{gl gh:Option GD}
def jo (he:JD X e g) (hl:JO X lo gl) (hh:JO X hi gh):JE X (.Subscript e (.Slice lo hi none p2) pos) (Bl g gl gh):=⟨fun B=>(E8 acO (he.h B) (hl.h B) (hh.h B)).imp fun σ H Q hh=>by
 obtain⟨S,F,u,S',R,hg,q⟩:=hh;obtain⟨⟨d,S1⟩,h1,hg⟩:=aj hg;obtain⟨⟨l,S2⟩,h2,hg⟩:=aj hg;obtain⟨⟨h,S3⟩,h3,hg⟩:=aj hg;obtain⟨u',h4,hg⟩:=aB hg;cases hg;exact⟨S,F,d,S1,R,h1,fun v F1 H1 R1 st1 r1=>⟨S1,F1,l,S2,R1,h2,fun F2 H2 R2 st2=>⟨S2,F2,h,_,R2,h3,fun F3 H3 R3 st3=>⟨F3,d,_,R3.sub,r1.le (fun b o z=>st3.ext.le b o (st2.ext.le b o z)),h4,fun v F4 H4 n s4 r4=>q v F4 H4 (R3.new n s4) (((st1.trans st2).trans st3).trans n.step) (r4.Hr R3 ((st1.trans st2).trans st3))⟩⟩⟩⟩⟩
noncomputable def Cj (ns:BBD) (lo hi:BBM):BBD:=(ns.drop (HT.iR ns.length 0 lo)).take (HT.iR ns.length ns.length hi - HT.iR ns.length 0 lo)
def K7 (i:Nat) (lo hi:Option GD):GE:=fun S=>match S[i]? with
 | some (some (.s ns))=>(oJ lo S).bind fun l=>(oJ hi l.2).map fun h=>(.m (.lst ((Cj ns l.1 h.1).map D.int)),h.2)
 | _=>none
theorem CW {F:Hp}:∀ns:BBD,bY F (ns.map V.int) (ns.map D.int)
 | []=>.nil
 | n :: ns=>.cons (.int n) (CW ns)
def K8 (ns:BBD) (lo hi:BBM):Ca (ns.map V.int) lo hi=(Cj ns lo hi).map V.int:=by
 unfold Ca Cj;rw[aas,List.map_take,af2]
def K9 (hl:JO X lo gl) (hh:JO X hi gh) (hN:X.N[i]? =some x:=by rfl) (hv:xN X.env.scope x:=by first | exact Or.inl rfl | exact Or.inr (Or.inl rfl) | exact Or.inr (Or.inr rfl))
  (hd:BBT x:=by decide) (hcd:BBU x:=by decide):JE X (.Subscript (.Name x px) (.Slice lo hi none p2) pos) (K7 i gl gh):=⟨fun B=>(E8 Jb (eL hN hv hd hcd) (hl.h B) (hh.h B)).imp fun σ H Q hh=>by
 obtain⟨S,F,u,S',R,hg,q⟩:=hh;unfold K7 at hg;split at hg
 ·rename_i ns hS;obtain⟨⟨l,S1⟩,h1,hg⟩:=aj hg;obtain⟨⟨h,S2⟩,h2,hg⟩:=aB hg;cases hg;obtain⟨v0,hv0,a,rfl,sc⟩:=R.rep i _ hS;refine⟨_,hv0,S,F,l,S1,R,h1,fun F1 H1 R1 st1=>⟨S1,F1,h,_,R1,h2,fun F2 H2 R2 st2=>?_⟩⟩;have sc2:=(sc.le st1.ext.mZ).le st2.ext.mZ;refine⟨a,_,rfl,sc2.sq,fun p hp=>?_⟩;rw[K8];have n:=iM.obj (F:=F2) hp (.lst ((Cj ns l h).map V.int));have st:=st1.trans st2;exact q _ F2 _ (R2.new n (R2.sub.same n.same)) (st.trans n.step) (Hq.Hr (u:=.m (.lst ((Cj ns l h).map D.int))) R2 st ⟨p,rfl,hp,R2.sub.fresh hp,_,aY,CW _⟩)
 ·cases hg⟩
def okR (d:D):Prop:=(toPy d).showable=true/\(toPy d).depth<=20/\(toPy d).shown.length<=sizeLine
noncomputable instance (d:D):Decidable (okR d):=by unfold okR;infer_instance
def QV {t:Tok}(hg:Gl X x) (hm:X.mg x=some (.str z t)) (hd:BBT x:=by decide):JD X (.Name x pos) (eC (.str z)):=KY rfl (pO (v:=.str z) hg hm ⟨t,rfl⟩ hd)
def mj {i:Int}{t:Tok}(hg:Gl X x) (hm:X.mg x=some (.int i t)) (hd:BBT x:=by decide):JD X (.Name x pos) (eC (.int i)):=KY rfl (pO (v:=.int i) hg hm ⟨t,rfl⟩ hd)
end
def Nm {x y:Str}{c:Addr}(clos:closureFor scope X.env=pure [(y,c)]) (yZ:∀z∈scope.names,z.2≠.cell) (kind:scope.kind= .function) (names:∀z∈scope.names,z.2= .local->scope.names.lookup z.1=some .local)
  (loc:scope.names.lookup x=some .local) (hc:X.env.cells.lookup y=some c) (only:∀z∈scope.names,z.2= .free->z.1=y) (ne:x≠y) (hN:X.N[i]? =some y) (vis:X.env.scope.names.lookup y=some .cell) (rel:(relabel scope X.env).names.lookup y=some .cell):
  nB X x [y] [i] scope [(y,c)]:=by
 have look:∀n c',([(y,c)]:List (Str×Addr)).lookup n=some c'->n=y/\c'=c:=fun n c' h=>by
  rw[adW] at h;cases e:n == y with
  | true=>rw[e] at h;cases h;exact⟨eq_of_beq e,rfl⟩
  | false=>rw[e] at h;cases h
 have self:([(y,c)]:List (Str×Addr)).lookup y=some c:=by rw[adW,beq_self_eq_true]
 refine⟨clos,yZ,kind,names,loc,fun n c' h=>?_,fun n h=>?_,?_,rfl,fun j n h=>?_,fun n h=>?_⟩
 ·obtain⟨rfl,rfl⟩:=look n c' h;exact hc
 ·have key:n=y:=by
   have go:∀k,(k=NameKind.cell\/k=NameKind.free)->(relabel scope X.env).names.lookup n=some k->n=y:=fun k hk e=>by
    have m:=acq e;unfold relabel at m;obtain⟨⟨n',k'⟩,hm,q⟩:=acK.mp m;by_cases hf:k'= .free
    ·have h0:n'=y:=only _ hm hf;have e1:n'=n:=by
      have h1:=congrArg Prod.fst q;dsimp only at h1;split at h1 <;> exact h1
     exact e1.symm.trans h0
    ·have z:(k' == NameKind.free)=false:=by simpa using hf
     simp only[z,af1] at q;have q2:k'=k:=by
      have:=congrArg Prod.snd q
      simpa using this
     rcases hk with rfl | rfl
     ·exact absurd q2 (yZ _ hm)
     ·exact absurd q2 hf
   rcases h with h | h
   ·exact go _ (.inl rfl) h
   ·exact go _ (.inr rfl) h
  subst key;exact⟨c,self⟩
 ·simp[ne]
 ·cases j with
  | zero=>cases h;exact⟨i,rfl,hN,.inr (.inl vis)⟩
  | succ j=>simp at h
 ·have e:n=y:=by simpa using h
  subst e;exact⟨.inl rel,⟨c,self⟩,by rw[vis];decide⟩
section
variable {X:Cx}{a b e:Expr}{pos p:Pos}{x:Str}{f:FM}{fa:Addr}{fd:FuncData}{ps:BBB}{k:Nat}
def Np (F:gQ X.prog X.w X.K X.mg X.base xV k fa fd ps (spT X.K 0 f)) (hr:dM k X.A) (hg:Gl X x) (hm:X.mg x=some (.ref fa)) (hk:PySem.W.keepIn X.K (.ref fa)=true) (hb:Binds X.K fd ps [])
  (hdb:BBT x:=by decide):JE X (.Call (.Name x p) [] [] pos) (aZ f aE):=⟨fun B=>(MD F hr hg hm hk hb .nil Fc hdb).imp fun σ H Q hh=>by
 obtain⟨S,F0,u,S',R,hg,q⟩:=hh;obtain⟨⟨us,S1⟩,h1,hg⟩:=aj hg;cases h1;have hg:=(fj hg).2;obtain⟨ws,h2,hg⟩:=aj hg;cases h2;obtain⟨⟨r,outs⟩,h3,hg⟩:=aj hg;obtain⟨S2,h4,hg⟩:=aB hg;cases hg;have st0:Step S S σ F0 H F0 H:=Step.refl ..;refine⟨rfl,F0,[],r,outs,R.sub,.nil,aew,h3,fun v F2 H2 po rn=>?_⟩;obtain⟨R2,st2,mu⟩:=kj (vs:=[]) (us:=[]) (ws:=[]) R st0 .nil rfl h4 aew po;refine q v F2 H2 R2 st2 ?_;cases r with
 | t d=>exact rn
 | b o=>cases rn
 | v i=>cases rn
 | s i=>cases rn
 | f i=>cases rn
 | x cx kx=>cases rn
 | m o=>
  obtain⟨a,e,h0,f,h⟩:=rn;refine⟨a,e,h0,f,h,fun m=>?_,none_of R.ext.there h0⟩;obtain⟨o',ho⟩:=R.has (mu a m);rw[h0] at ho;cases ho⟩
def CY (a:List D) (o:MO) (h:gM o=false):hAppend a o=none:=by
 cases o with
 | lst ds=>cases h
 | dct k=>unfold hAppend;split <;> first | rfl | (rename_i e;cases e)
 | CQ k=>unfold hAppend;split <;> first | rfl | (rename_i e;cases e)
 | ins C k=>unfold hAppend;split <;> first | rfl | (rename_i e;cases e)
 | gap _=>unfold hAppend;split <;> first | rfl | (rename_i e;cases e)
 | lat _ _=>unfold hAppend;split <;> first | rfl | (rename_i e;cases e)
 | Px _ _=>unfold hAppend;split <;> first | rfl | (rename_i e;cases e)
 | Py _ _=>unfold hAppend;split <;> first | rfl | (rename_i e;cases e)
end
noncomputable def vZ:List D->Option (BBD)
 | []=>some []
 | .int b :: ds=>(vZ ds).map fun bs=>b :: bs
 | _=>none
theorem wJ {F:Hp}:∀{vs:List V}{ds:List D}{bs:BBD},bY F vs ds->vZ ds=some bs->vs=bs.map V.int
 | _,_,_,.nil,h=>by cases h;rfl
 | _,_,_,@bY.cons _ v d vs ds r rs,h=>by
  cases d <;> try (cases h;done)
  obtain⟨bs,h1,h2⟩:=aB (show(vZ ds).map _=_ from h);subst h2;rw[i8 r,wJ rs h1];rfl
noncomputable def um:List D->Option (BBB)
 | []=>some []
 | .str b :: ds=>(um ds).map fun bs=>b :: bs
 | _=>none
theorem Bm {F:Hp}:∀{vs:List V}{ds:List D}{bs:BBB},bY F vs ds->um ds=some bs->vs=bs.map V.str
 | _,_,_,.nil,h=>by cases h;rfl
 | _,_,_,@bY.cons _ v d vs ds r rs,h=>by
  cases d <;> try (cases h;done)
  obtain⟨bs,h1,h2⟩:=aB (show(um ds).map _=_ from h);subst h2;cases r;rw[Bm rs h1];rfl
noncomputable def look:U->Option D
 | .t d=>some d
 | .m (.lst ds)=>some (.lst ds)
 | .b (.lst ds)=>some (.lst ds)
 | _=>none
def QW {F:Hp}{d:D}(R:Rel K B S σ F H) (h:S[i]? =some (some u)) (hl:look u=some d):∃v F1,σ[i]? =some (some v)/\Sub F1 H/\Rep F1 v d:=by
 obtain⟨v,hv,r⟩:=R.rep i u h;unfold look at hl;split at hl
 ·cases hl;exact⟨v,F,hv,R.sub,r⟩
 ·cases hl;obtain⟨a,rfl,fa,vs,ha,rs⟩:=r;exact⟨_,upd F a (.lst vs),hv,R.sub.mZ ha,.lst (.inl aY) (rs.le (lM fa))⟩
 ·cases hl;obtain⟨a,rfl,fa,vs,ha,rs⟩:=r;exact⟨_,upd F a (.lst vs),hv,R.sub.mZ ha,.lst (.inl aY) (rs.le (lM fa))⟩
 ·cases hl
def Fy (f:List D->Option U) (i:Nat):GD:=fun S=>match S[i]? with
 | some (some u)=>(look u).bind fun d=>match f [d] with
  | some (.t e)=>if sP e=true then some (e,S) else none
  | _=>none
 | _=>none
def Fz {F:Hp}{v:V}{e:D}(h:sP e=true) (r:Rep F v e):Rep F' v e:=by
 cases r with
 | cM=>exact .cM
 | bl b=>exact .bl b
 | int b=>exact .int b
 | str b=>exact .str b
 | tup _ _=>cases h
 | lst _ _=>cases h
section
variable {X:Cx}{x y:Str}{p px pos:Pos}{f:List D->Option U}
def Nq {id:String}(hc:jK X (.builtin id) (rP f)) (hg:Gl X y) (hm:X.mg y=none) (hb:bootBuiltins y=some (.builtin id)) (hn:y≠"__name__":=by decide) (hdb:BBT y:=by decide)
  (hN:X.N[i]? =some x:=by rfl) (hv:xN X.env.scope x:=by first | exact Or.inl rfl | exact Or.inr (Or.inl rfl) | exact Or.inr (Or.inr rfl))
  (hd:BBT x:=by decide) (hcd:BBU x:=by decide) (he:starEach [.Name x px] X.env=(false,eval (.Name x px) X.env) :: starEach [] X.env:=by rfl) (hpl:(backTo pos (starEach [] X.env)).any (·.1)=false:=by rfl):
  JD X (.Call (.Name y p) [.Name x px] [] pos) (Fy f i):=⟨fun B=>(kO hc hg hm hb (j9 (eL hN hv hd hcd) tV he) hn hdb he hpl).imp fun σ H Q hh=>by
 obtain⟨S,F,e,S',R,hg',q⟩:=hh;unfold Fy at hg';split at hg'
 ·rename_i u hS;obtain⟨d,h1,hg'⟩:=aj hg';split at hg'
  ·rename_i e' he';obtain⟨hfl,hg'⟩:=b7 hg';cases hg';obtain⟨v,F1,k1,k2,k3⟩:=QW R hS h1;refine⟨v,k1,F1,[d],_,k2,.cons k3 .nil,he',fun v' F' H' n s' r'=>?_⟩;have n':iM F H F H':=⟨fun _ _ z=>z,n.same,fun _ _ _ z=>z⟩
   exact q v' F H' (R.new n' (R.sub.same n.same)) n'.step (Fz hfl r')
  ·cases hg'
 ·cases hg'⟩
end
section
variable (S:SS)(i:Nat)(g:GD)
@[simp] theorem aaC (f:List D->Option U):Fy f i S=match S[i]? with
 | some (some u)=>(look u).bind fun d=>match f [d] with
  | some (.t e)=>if sP e=true then some (e,S) else none
  | _=>none
 | _=>none:=rfl
@[simp] theorem YY (d:D):look (.t d)=some d:=rfl
@[simp] theorem YZ (ds:List D):look (.m (.lst ds))=some (.lst ds):=rfl
@[simp] theorem Y0 (ds:List D):look (.b (.lst ds))=some (.lst ds):=rfl
end
section
variable {X:Cx}{a b e:Expr}{es:BBC}{p:Pos}{x y:Str}
def Y3:R2:=fun x y H Q=>∃l k xs,x= .ref l/\y= .int k/\Rd H l (.lst xs)/\-(2 ^ 63)<=k/\k < 2 ^ 63/\xs.length * k.toNat<=sizeLine/\
 ∀p,H p=none->Q (.ref p) (upd H p (.lst (List.replicate k.toNat xs).flatten))
def QX:zQ X (binaryOp .Mult) Y3:=by
 intro pins s σ H x y v u Q I rx ry h;obtain⟨l,k,xs,rfl,rfl,hH,h1,h2,hz,q⟩:=h;cases rx;obtain⟨t,rfl⟩:=ry;obtain⟨z,its,n,r,hl,e⟩:=hH.G9 I;have hlen:its.toArray.size * k.toNat<=sizeLine:=by rw[aam,<-hl];exact hz
 have hcap:¬its.toArray.size * k.toNat > (2 ^ 63 - 1) / 8:=by
  have:(sizeLine:Nat)<=(2 ^ 63 - 1) / 8:=by decide
  lia
 have hfit:¬(!Builtin.List.listFitsIndex k)=true:=by
  rw[fitsIndex_both h1 h2];exact aeh
 have FA:¬Builtin.List.listTooLong (its.toArray.size * k.toNat)=true:=by
  rw[E9 hlen];exact aeh
 have hnew:List.foldl (fun x1 x2=>x1++x2) #[] (List.replicate (if its.toArray.isEmpty=true then 0 else k.toNat) its.toArray)=(List.replicate k.toNat its).flatten.toArray:=by
  have f0:∀m:Nat,List.foldl (fun x1 x2=>x1++x2) #[] (List.replicate m its.toArray)=(List.replicate m its).flatten.toArray:=fun m=>by
   have:=foldl_rep its m [];rw[List.nil_append] at this;exact this
  rw[f0];cases its with
  | nil=>simp
  | cons a r'=>rw[if_neg (by simp)]
 refine wpAny_binaryOp_repeat_ref (T:="list") (U:="int") (by decide) ⟨_,e,rfl⟩ (fun s'=>typeIs_int s' k t) noFill_list_mul F.fills_int_mul F.slot_int_rmul repeat_list F.slot_int_index.lookup
  (aeM F.slot_int_rmul (typeIs_int s k t) F.entry_int_rmul (F.args_int_rmul_2 _ _) (int___rmul___int_list k t l its.toArray n)
   ⟨e,rfl,⟨_,e,rfl⟩,aeM F.slot_list_mul ⟨_,e,rfl⟩ F.entry_list_mul (F.args_list_mul_2 _ _) (AutoListH.list___mul___list_int_3 l its.toArray n k t hfit hcap FA) ⟨e,?_⟩⟩)
 rw[hnew];exact⟨.ref _,_,I.YB (t':=s.toks) (r.rep k.toNat) (by rw[len_rep,Nat.mul_comm];exact hz),rfl,q _ I.fresh⟩
theorem bY.rep {F:Hp}{vs:List V}{ds:List D}(r:bY F vs ds):∀k:Nat,bY F (List.replicate k vs).flatten (List.replicate k ds).flatten
 | 0=>.nil
 | k+1=>by rw[ab9,ab9,adO,adO];exact r.append (bY.rep r k)
noncomputable def FE:List D->Option U
 | [.lst ds,.int k]=>if 0<=k/\k.toNat<=100000/\ds.length * k.toNat<=100000 then some (.m (.lst (List.replicate k.toNat ds).flatten)) else none
 | _=>none
def Jk:B5 X (binaryOp .Mult) FE:=by
 intro pins s σ H x y v u Q I rx ry ⟨F,ds,w,sb,rs,hw,q⟩;obtain⟨d,e,rfl,r1,r2⟩:=xY rs;cases d <;> cases e <;> try (cases hw;done)
 rename_i ds k;obtain⟨⟨h1,h2,h3⟩,rfl⟩:=b7 hw;obtain⟨a,vs,rfl,fa,ha,An⟩:=sb.mG r1;have hy:=i8 r2;subst hy;exact QX pins s σ H _ _ v u Q I rx ry ⟨a,k,vs,rfl,rfl,ha,by lia,by lia,by rw[An.length];exact aaA h3 (by decide),
  fun p hp=>q _ F _ (iM.obj hp _) (sb.same (iM.obj (F:=F) hp _).same) ⟨p,rfl,hp,sb.fresh hp,_,aY,An.rep _⟩⟩
def FF:V->List V->Hp->VK->Prop:=fun x vs H Q=>∃l b xs zs,x= .ref l/\vs=[.ref b]/\H l=some (.lst xs)/\Rd H b (.lst zs)/\xs.length+zs.length<=sizeLine/\Q .cM (upd H l (.lst (xs++zs)))
def HB:MtR X "list.extend" FF:=by
 intro pins s σ H x vs v us Q I rx rv h;obtain⟨l,b,xs,zs,rfl,rfl,hH,hB,hz,q⟩:=h;cases rx;obtain⟨u,rfl,ru⟩:=rv.one;cases ru;obtain⟨z,its,n,r,hl,e⟩:=I.G9 hH;obtain⟨z2,its2,n2,r2,hl2,e2⟩:=hB.G9 I;have hsz:its.toArray.size+its2.toArray.size<=sizeLine:=by rw[aam,aam];lia
 have FA:¬(!its.toArray.isEmpty && Builtin.List.listTooLong (its.toArray.size+its2.toArray.size))=true:=by
  rw[E9 hsz,afD];exact aeh
 refine aeM F.slot_list_extend ⟨_,e,rfl⟩ F.entry_list_extend (F.args_list_extend_2 _ _)
  (AutoSeq1.list_extend_list_list_0 l its.toArray n b its2.toArray n2 FA (by rw[aam];lia) (by lia)) ⟨e,e2,?_⟩
 refine⟨.cM,_,I.YA (its':=its++its2) hH e (by simp) (r.append r2) ?_,rfl,q⟩;rw[aaB];lia
noncomputable def jH:List D->MO->Option (D×MO)
 | [.lst es],.lst ds=>if ds.length+es.length<=100000 then some (.cM,.lst (ds++es)) else none
 | _,_=>none
def La:MtP FF jH:=by
 intro F H a vs xs ds args res o' sb hH fa rs rx hw Q q;unfold jH at hw;split at hw
 ·rename_i es ds' e2;cases e2;obtain⟨hl,hw⟩:=b7 hw;cases hw;cases rx with
  | cons r rr=>
   cases rr;obtain⟨b,zs,rfl,fb,hb,QD⟩:=sb.mG r;exact⟨a,b,vs,zs,rfl,rfl,hH,hb,by rw[rs.length,QD.length];exact aaA hl (by decide),q .cM _ .cM ⟨_,aY,rs.append QD⟩⟩
 ·cases hw
def Lb (a:List D) (o:MO) (h:gM o=false):jH a o=none:=by
 cases o with
 | lst ds=>cases h
 | dct k=>unfold jH;split <;> first | rfl | (rename_i e;cases e)
 | CQ k=>unfold jH;split <;> first | rfl | (rename_i e;cases e)
 | ins C k=>unfold jH;split <;> first | rfl | (rename_i e;cases e)
 | gap _=>unfold jH;split <;> first | rfl | (rename_i e;cases e)
 | lat _ _=>unfold jH;split <;> first | rfl | (rename_i e;cases e)
 | Px _ _=>unfold jH;split <;> first | rfl | (rename_i e;cases e)
 | Py _ _=>unfold jH;split <;> first | rfl | (rename_i e;cases e)
noncomputable def FG:D->Bool
 | .cM=>true
 | _=>false
end
open AutoSeq1 (wpAny_loadPart')
section
variable {X:Cx}{b e:Expr}
def WalkN (J:It) (F:Hp) (ds:List D):Prop:=∀F' H',(∀b o,F b=some o->F' b=some o)->Sub F' H'->∀i,(∀d,ds[i]? =some d->J.go i H'/\∀x H2,J.Tj i H' x H2->∃F2,iM F' H' F2 H2/\Sub F2 H2/\Rep F2 x d)/\(ds.length<=i->J.stop i H')
inductive acP (K:AAD) (B:Base) (gi:GI) (σ:St) (H:Hp) (Q:It->Hp->Prop):Prop
 | mk (S:SS) (F:Hp) (ds:List D) (S':SS) (R:Rel K B S σ F H) (hg:gi S=some (ds,S')) (q:∀J F' H',Rel K B S' σ F' H'->Step S S' σ F H F' H'->WalkN J F' ds->Q J H')
structure JIN (X:Cx) (tg e:Expr) (gi:GI):Prop where
 h:∀B,PI X tg e (acP X.K B gi)
end
def QY {F:Hp}{d:D}(R:Rel K B S σ F H) (h:S[i]? =some (some u)) (hl:look u=some d):∃v F1,σ[i]? =some (some v)/\Sub F1 H/\Rep F1 v d/\∀b o,F b=some o->F1 b=some o:=by
 obtain⟨v,hv,r⟩:=R.rep i u h;unfold look at hl;split at hl
 ·cases hl;exact⟨v,F,hv,R.sub,r,fun _ _ z=>z⟩
 ·cases hl;obtain⟨a,rfl,fa,vs,ha,rs⟩:=r;exact⟨_,upd F a (.lst vs),hv,R.sub.mZ ha,.lst (.inl aY) (rs.le (lM fa)),lM fa⟩
 ·cases hl;obtain⟨a,rfl,fa,vs,ha,rs⟩:=r;exact⟨_,upd F a (.lst vs),hv,R.sub.mZ ha,.lst (.inl aY) (rs.le (lM fa)),lM fa⟩
 ·cases hl
def FH (f:List D->Option U) (i:Nat) (g:GD):GD:=fun S=>match S[i]? with
 | some (some _)=>(g S).bind fun p=>match p.2[i]? with
  | some (some u)=>(look u).bind fun d=>match f [d,p.1] with
   | some (.t e)=>if sP e=true then some (e,p.2) else none
   | _=>none
  | _=>none
 | _=>none
section
variable {X:Cx}{b:Expr}{x y:Str}{px pos:Pos}{f:List D->Option U}{gb:GD}
def Nr (h:tD X.K B (FH f i gb) σ H Q):UG (fun x y H Q=>rP f [x,y] H Q) (P0 i) (tD X.K B gb) σ H Q:=by
 obtain⟨S,F,d,S',R,hg,q⟩:=h;unfold FH at hg;split at hg
 ·rename_i u0 Vn;obtain⟨⟨d1,S1⟩,h1,hg⟩:=aj hg;dsimp only at hg;split at hg
  ·rename_i u hS;obtain⟨dx,h2,hg⟩:=aj hg;split at hg
   ·rename_i e' he';obtain⟨hfl,hg⟩:=b7 hg;cases hg;obtain⟨v0,hv0,_⟩:=R.rep i u0 Vn;refine⟨v0,hv0,S,F,d1,_,R,h1,fun v F1 H1 R1 st1 r1=>?_⟩;obtain⟨v1,F2,k1,k2,k3,k4⟩:=QY R1 hS h2;rw[hv0] at k1;cases k1;refine⟨F2,[dx,d1],_,k2,.cons k3 (.cons (r1.le k4) .nil),he',fun v' F' H' n s' r'=>?_⟩;have n':iM F1 H1 F1 H':=⟨fun _ _ z=>z,n.same,fun _ _ _ z=>z⟩
    exact q v' F1 H' (R1.new n' (R1.sub.same n.same)) (st1.trans n'.step) (Fz hfl r')
   ·cases hg
  ·cases hg
 ·cases hg
def QZ (ho:B5 X (compareOp op) f) (hb:JD X b gb) (hN:X.N[i]? =some x:=by rfl) (hv:xN X.env.scope x:=by first | exact Or.inl rfl | exact Or.inr (Or.inl rfl) | exact Or.inr (Or.inr rfl)) (hd:BBT x:=by decide) (hcd:BBU x:=by decide)
  (hm:behindInMarks op b=false:=by first | exact GW _ | rfl):JT X (.Compare (.Name x px) [op] [b] pos) (qB (FH f i gb)):=⟨fun B=>(IP ho (eL hN hv hd hcd) (hb.h B) hm).imp fun σ H Q ⟨S,F,k,S',R,hg,q⟩=>Nr ⟨S,F,.bl k,S',R,nD hg,fun v F' H' R' st r=>⟨k,ow r,q F' H' R' st⟩⟩⟩
end
noncomputable def cG (kvs:AAJ) (z:Str):BBM:=(kvs.find? fun p=>decide (p.1=z)).map (·.2)
def Vo:BBM->BBP->Prop
 | some i,u=>∃t,u=some (.int i t)
 | none,u=>u=none
def KTab (P:Program) (w:World) (K:AAD) (a:Addr) (kvs:AAJ):Prop:=
 (a == sysModules)=false/\∃o es ep,K.lookup a=some o/\o.ExactDict/\o.data= .dict es ep/\KeysOf (dZ P w) es/\∀z,Vo (cG kvs z) (findBy (dZ P w).is es (.inr z))
def DX (w:World):List (Str×Int)->List DictEntry->Prop
 | [],[]=>True
 | (z,i) :: r,e :: es=>(e.hash=hashStr w z/\(∃t,e.key= .str z t)/\∃t,e.val= .int i t)/\DX w r es
 | _,_=>False
theorem CZ {P:Program}{w:World}:∀{kvs:AAJ}{es:List DictEntry},DX w kvs es->∀e∈es,∃k,(dZ P w).is k e.key=true/\e.hash=(dZ P w).hash k
 | [],[],_,e,he=>by cases he
 | (z,i) :: r,e :: es,h,e',he=>by
  obtain⟨⟨h1,⟨t,h2⟩,_⟩,h3⟩:=h;rcases aao.mp he with rfl | q
  ·exact⟨.inr z,by rw[h2];exact tM P w z t,h1⟩
  ·exact CZ h3 e' q
 | [],_ :: _,h,_,_=>h.elim
 | _ :: _,[],h,_,_=>h.elim
theorem C1 {P:Program}{w:World}(z:Str):∀{kvs:AAJ}{es:List DictEntry},DX w kvs es->Vo (cG kvs z) ((es.find? fun e=>(dZ P w).is (.inr z) e.key).map (·.val))
 | [],[],_=>rfl
 | (y,i) :: r,e :: es,h=>by
  obtain⟨⟨h1,⟨t,h2⟩,u,h4⟩,h3⟩:=h;have k:(dZ P w).is (.inr z) e.key=decide ((.inr z:Key)= .inr y):=KeyKind.is_eq_decide (knd:=dZ P w) (k:=.inr y) (by rw[h2];exact tM P w y t) (.inr z);unfold cG;by_cases q:y=z
  ·subst q;rw[List.find?_cons_of_pos (by simp),List.find?_cons_of_pos (by rw[k];simp)];exact⟨u,by rw[adJ,h4]⟩
  ·rw[List.find?_cons_of_neg (by simpa using q),List.find?_cons_of_neg (by rw[k];simp only[abO,afI];exact fun e=>q e.symm)];exact C1 z h3
 | [],_ :: _,h=>h.elim
 | _ :: _,[],h=>h.elim
def DY {P:Program}{w:World}{kvs:AAJ}{es:List DictEntry}{ep:Nat}(h:K.lookup a=some ⟨.type "dict",none,.dict es.toArray ep,#[]⟩) (hs:(a == sysModules)=false) (he:DX w kvs es):KTab P w K a kvs:=by
 refine⟨hs,_,es.toArray,ep,h,⟨rfl,rfl,rfl⟩,rfl,fun e q=>CZ he e (by simpa using q),fun z=>?_⟩;have:=C1 (P:=P) z he;unfold findBy;rw[List.find?_toArray];exact this
section
variable {X:Cx}{pins:AAG}{σ:St}{H:Hp}{s:Shared}{a:Addr}{kvs:AAJ}
def KTab.map (I:Inv X pins σ H s) (h:KTab X.prog X.w X.K a kvs):∃f:Key->BBP,s.heap.MapOf (dZ X.prog X.w) a f/\∀z,Vo (cG kvs z) (f (.inr z)):=by
 obtain⟨_,o,es,ep,h1,h2,h3,h4,h5⟩:=h;exact⟨_,⟨o,es,ep,I.sV a o h1,h2,h3,h4,fun _=>rfl⟩,h5⟩
end
def Aq (kvs:AAJ) (g:GD):GD:=fun S=>(g S).bind fun p=>match p.1 with
 | .str z=>(cG kvs z).map fun i=>(.int i,p.2)
 | _=>none
def lP (n:Bool) (kvs:AAJ) (g:GD):GD:=fun S=>(g S).bind fun p=>match p.1 with
 | .str z=>some (.bl (n != (cG kvs z).isSome),p.2)
 | _=>none
section
variable {X:Cx}{e:Expr}{x:Str}{px pos:Pos}{ty:TE}{g:GD}{a:Addr}{kvs:AAJ}
def Vp (hg:Gl X x) (hm:X.mg x=some (.ref a)) (hk:KTab X.prog X.w X.K a kvs) (he:PE X e ty) (hs:Qh e) (hd:BBT x):
  PE X (.Subscript (.Name x px) e pos) (fun σ H Q=>ty σ H fun y H1=>∃z i,y= .str z/\cG kvs z=some i/\Q (.int i) H1):=by
 intro pins s σ H Q I h;refine IT afM.lookup hs (dN (pO (v:=.ref a) hg hm rfl hd pins s σ H (fun v H1=>v= .ref a/\H1=H) I ⟨rfl,rfl⟩) fun u s1 hh=>?_);obtain⟨x',H1,I1,rx,ex,eH⟩:=hh;subst ex eH;obtain rfl:u=Value.ref a:=rx;refine dN (he pins s1 σ _ _ I1 h) fun iv s2 hh=>?_;obtain⟨y,H2,I2,ry,z,i,ey,el,q⟩:=hh;subst ey;obtain⟨fm,m1,m2⟩:=hk.map I2;have r:=m2 z;rw[el] at r;obtain⟨t,r⟩:=r;exact⟨m1.typeIs,wpAny_getItem_of (k:=.inr z) (E4 (k:=.inr z) ry) m1 r ⟨.int i,H2,I2.tok _,⟨t,rfl⟩,q⟩⟩
def Nt (hg:Gl X x) (hm:X.mg x=some (.ref a)) (hk:KTab X.prog X.w X.K a kvs) (he:PE X e ty) (hd:BBT x):
  PC X .In e (.Name x px) (fun σ H Q=>ty σ H fun y H1=>∃z,y= .str z/\Q (.bl (cG kvs z).isSome) H1):=by
 intro pins s σ H Q I h;refine dN (he pins s σ H _ I h) fun iv s1 ⟨y,H1,I1,ry,z,ey,q⟩=>dN (pO (v:=.ref a) hg hm rfl hd pins s1 σ H1 (fun v H2=>v= .ref a/\H2=H1) I1 ⟨rfl,rfl⟩) fun u s2 hh=>?_;obtain⟨x',H2,I2,rx,ex,eH⟩:=hh;subst ex eH ey;obtain rfl:u=Value.ref a:=rx;obtain⟨fm,m1,m2⟩:=hk.map I2;refine wpAny_in_of (k:=.inr z) (E4 (k:=.inr z) ry) hk.1 m1 ?_;have r:=m2 z;have e:(fm (.inr z)).isSome=(cG kvs z).isSome:=by
  cases el:cG kvs z with
  | none=>rw[el] at r;rw[show fm (.inr z)=none from r];rfl
  | some i=>rw[el] at r;obtain⟨t,r⟩:=r;rw[r];rfl
 rw[e];exact⟨.bl _,_,I2.tok _,rfl,q⟩
def zd (hg:Gl X x) (hm:X.mg x=some (.ref a)) (hk:KTab X.prog X.w X.K a kvs) (he:JD X e g) (hs:Qh e:=by intro _ _;rfl) (hd:BBT x:=by decide):JD X (.Subscript (.Name x px) e pos) (Aq kvs g):=
 ⟨fun B=>(Vp hg hm hk (he.h B) hs hd).imp fun σ H Q hh=>by
  obtain⟨S,F,d,S',R,hg',q⟩:=hh;obtain⟨⟨d1,S1⟩,h1,hg'⟩:=aj hg';cases d1 <;> try (cases hg')
  rename_i z;obtain⟨i,h2,hg'⟩:=aB hg';cases hg';exact⟨S,F,.str z,_,R,h1,fun v F1 H1 R1 st1 r1=>by cases r1;exact⟨z,i,rfl,h2,q (.int i) F1 H1 R1 st1 (.int i)⟩⟩⟩
def Lc {n:Bool}(h:tD X.K B (lP n kvs g) σ H Q):tD X.K B g σ H fun y H1=>∃z,y= .str z/\Q (.bl (n != (cG kvs z).isSome)) H1:=by
 obtain⟨S,F,d,S',R,hg',q⟩:=h;obtain⟨⟨d1,S1⟩,h1,hg'⟩:=aj hg';cases d1 <;> try (cases hg')
 rename_i z;exact⟨S,F,.str z,_,R,h1,fun v F1 H1 R1 st1 r1=>by cases r1;exact⟨z,rfl,q (.bl _) F1 H1 R1 st1 (.bl _)⟩⟩
def uo (hg:Gl X x) (hm:X.mg x=some (.ref a)) (hk:KTab X.prog X.w X.K a kvs) (he:JD X e g) (hd:BBT x:=by decide) (hi:behindInMarks .In (.Name x px)=false:=by with_unfolding_all rfl):JD X (.Compare e [.In] [.Name x px] pos) (lP false kvs g):=
 ⟨fun B=>(Ur (Nt hg hm hk (he.h B) hd) hi).imp fun σ H Q h=>by simpa using Lc h⟩
end
def Nu (K:AAD) (a:Addr) (zs:BBB):Prop:=∃(o:Obj) (its:AAL) (n:Nat),K.lookup a=some o/\o.cls= .type "tuple"/\o.data= .seq its.toArray n/\its.length<=1000/\Vals (zs.map V.str) its
def HC:BBB->BBG->Prop
 | [],[]=>True
 | z :: r,v :: vs=>(∃t,v= .str z t)/\HC r vs
 | _,_=>False
theorem C2:∀{zs:BBB}{vs:AAL},HC zs vs->Vals (zs.map V.str) vs
 | [],[],_=>.nil
 | z :: r,v :: vs,h=>.cons h.1 (C2 h.2)
 | [],_ :: _,h=>h.elim
 | _ :: _,[],h=>h.elim
def Q0 {zs:BBB}{its:AAL}{od:BBN}{sl:Array (BBP)}(h:K.lookup a=some ⟨.type "tuple",od,.seq its.toArray n,sl⟩) (hl:its.length<=1000) (hs:HC zs its):Nu K a zs:=
 ⟨_,its,n,h,rfl,rfl,hl,C2 hs⟩
theorem C3 {F:Hp}:∀zs:BBB,bY F (zs.map V.str) (zs.map D.str)
 | []=>.nil
 | z :: zs=>.cons (.str z) (C3 zs)
theorem uq:∀zs:BBB,cF (zs.map D.str)=0
 | []=>rfl
 | z :: zs=>by show max (ig (.str z)) (cF (zs.map D.str))=0;rw[uq zs];rfl
def rG (n:Bool) (zs:BBB) (g:GD):GD:=fun S=>(g S).map fun p=>(.bl (n != inD p.1 (zs.map D.str)),p.2)
section
variable {X:Cx}{e:Expr}{x:Str}{px pos:Pos}{g:GD}{a:Addr}{zs:BBB}
def Vq (I:Inv X pins σ H s) (hk:Nu X.K a zs) (hu:X.A.units+64 < cLine){F:Hp}{d:D}{v:V}{u:Value}(sb:Sub F H) (r:Rep F v d) (rv:RelV v u):∃its:BBG,IsTup s.heap a its.toArray/\(∀y∈its,SeqAt.EqAt X.A.in1 s y u (Cg F d y))/\its.any (Cg F d)=inD d (zs.map D.str):=by
 obtain⟨o,its,n,h1,h2,h3,h4,h5⟩:=hk;obtain⟨k1,k2⟩:=qH I sb (A:=X.A.in1) r rv (C3 zs) h5 (by rw[uq];show X.A.units+1+0 < cLine;lia);exact⟨its,⟨o,I.sV a o h1,h2,n,h3⟩,k1,k2⟩
def Vr (hu:X.A.units+64 < cLine) (hg:Gl X x) (hm:X.mg x=some (.ref a)) (hk:Nu X.K a zs)(he:PE X e (tD X.K B g)) (hd:BBT x):
  PC X .In e (.Name x px) (tD X.K B (rG false zs g)):=by
 intro pins s σ H Q I h;obtain⟨S,F,d,S',R,hg',q⟩:=h;obtain⟨⟨d1,S1⟩,h1,hg'⟩:=aB hg';cases hg';refine dN (he pins s σ H (fun y H1=>∃F',Sub F' H1/\Rep F' y d1/\Q (.bl (false != inD d1 (zs.map D.str))) H1) I ⟨S,F,d1,_,R,h1,fun v F1 H1 R1 st1 r1=>⟨F1,R1.sub,r1,q (.bl _) F1 H1 R1 st1 (.bl _)⟩⟩) fun iv s1 hh=>?_;obtain⟨y,H1,I1,ry,F',sb,r',q'⟩:=hh;refine dN (pO (v:=.ref a) hg hm rfl hd pins s1 σ H1 (fun v H2=>v= .ref a/\H2=H1) I1 ⟨rfl,rfl⟩) fun u s2 hh=>?_;obtain⟨x',H2,I2,rx,ex,eH⟩:=hh;subst ex eH;obtain rfl:u=Value.ref a:=rx;obtain⟨its,p,k1,k2⟩:=Vq I2 hk hu sb r' ry;refine SeqAt.in_tupleAt (Cg F' d1) p (fun y hy=>k1 y (by simpa using hy)) ⟨.bl _,_,I2,rfl,?_⟩;rw[show its.toArray.any (Cg F' d1)=its.any (Cg F' d1) by simp,k2]
 simpa using q'
def Y4 {Q:Bool->Hp->Prop}(h:tQ X.K B (qB g) σ H Q):tB (tD X.K B g) σ H Q:=by
 obtain⟨S,F,kk,S',R,hg',q⟩:=h;exact⟨S,F,.bl kk,S',R,nD hg',fun v F' H' R' st r=>⟨kk,ow r,q F' H' R' st⟩⟩
def Bo (hu:X.A.units+64 < cLine) (hg:Gl X x) (hm:X.mg x=some (.ref a)) (hk:Nu X.K a zs) (he:JD X e g) (hd:BBT x:=by decide) (hi:behindInMarks .In (.Name x px)=false:=by with_unfolding_all rfl):JT X (.Compare e [.In] [.Name x px] pos) (qB (rG false zs g)):=
 ⟨fun B=>(Us (Vr hu hg hm hk (he.h B) hd) hi).imp fun σ H Q h=>Y4 h⟩
end
def Nv:U->D->Option (Option D)
 | .m (.dct kvs),k=>(keyOf k).map (dz kvs)
 | .b (.dct kvs),k=>(keyOf k).map (dz kvs)
 | .m (.CQ kvs),k=>(Hx k).map (dz kvs)
 | .b (.CQ kvs),k=>(Hx k).map (dz kvs)
 | _,_=>none
noncomputable def Bp:U->Bool
 | .m (.dct _)=>true
 | .b (.dct _)=>true
 | .m (.CQ _)=>true
 | .b (.CQ _)=>true
 | _=>false
def Jl (i:Nat) (gk gd:GD):GD:=fun S=>match S[i]? with
 | some (some u)=>if Bp u then(gk S).bind fun p=>(gd p.2).bind fun q=>match q.2[i]? with
  | some (some u2)=>(Nv u2 p.1).map fun o=>(o.getD q.1,q.2)
  | _=>none
  else none
 | _=>none
def Y5 (F:Hp):Option V->Option D->Prop
 | some v,some d=>Rep F v d
 | none,none=>True
 | _,_=>False
def yq  [DecidableEq κ] {F:Hp}{ws:List (κ×V)}{kvs:List (κ×D)}(pr:Paired (fW F) ws kvs) (k:κ):Y5 F (yY ws k) (dz kvs k):=by
 cases e:dz kvs k with
 | none=>rw[CV pr e];exact True.intro
 | some d=>obtain⟨v,h,r⟩:=vj pr e;rw[h];exact r
def Q2 {F:Hp}{v w:V}{d:D}{h:Option D}(sb:Sub F H) (r:Cc K F H v u) (rk:Rep F w d) (e:Nv u d=some h):∃a o,v= .ref a/\vL H a w o/\Y5 F o h:=by
 unfold Nv at e;split at e
 ·obtain⟨kk,e1,rfl⟩:=aB e;obtain⟨a,rfl,fa,ws,ha,pr⟩:=r;exact⟨a,_,rfl,vL.ky ha (vh rk e1),yq pr kk⟩
 ·obtain⟨kk,e1,rfl⟩:=aB e;obtain⟨a,rfl,fa,ws,ha,pr⟩:=r;exact⟨a,_,rfl,vL.ky ha (vh rk e1),yq pr kk⟩
 ·obtain⟨kk,e1,rfl⟩:=aB e;obtain⟨a,rfl,fa,ws,ha,pr⟩:=r;obtain⟨b,rfl,hb⟩:=yi sb rk e1;exact⟨a,_,rfl,vL.t ha hb,yq pr kk⟩
 ·obtain⟨kk,e1,rfl⟩:=aB e;obtain⟨a,rfl,fa,ws,ha,pr⟩:=r;obtain⟨b,rfl,hb⟩:=yi sb rk e1;exact⟨a,_,rfl,vL.t ha hb,yq pr kk⟩
 ·cases e
def FJ {F:Hp}{v:V}(r:Cc K F H v u) (h:Bp u=true):∃a,v= .ref a/\IsD H a:=by
 unfold Bp at h;split at h
 ·obtain⟨a,rfl,fa,ws,ha,pr⟩:=r;exact⟨a,rfl,.inl ⟨ws,.inl ha⟩⟩
 ·obtain⟨a,rfl,fa,ws,ha,pr⟩:=r;exact⟨a,rfl,.inl ⟨ws,.inl ha⟩⟩
 ·obtain⟨a,rfl,fa,ws,ha,pr⟩:=r;exact⟨a,rfl,.inr ⟨ws,.inl ha⟩⟩
 ·obtain⟨a,rfl,fa,ws,ha,pr⟩:=r;exact⟨a,rfl,.inr ⟨ws,.inl ha⟩⟩
 ·cases h
section
variable {X:Cx}{e f:Expr}{x:Str}{px apos cpos:Pos}{gk gd:GD}{ge:GE}
def Q3 (hu:X.A.units+20 < cLine) (he:JD X e gk) (hf:JD X f gd) (hN:X.N[i]? =some x:=by rfl) (hv:xN X.env.scope x:=by first | exact Or.inl rfl | exact Or.inr (Or.inl rfl) | exact Or.inr (Or.inr rfl))
    (hb:attributeBase (.Name x px) "get" X.env (eval (.Name x px) X.env)=eval (.Name x px) X.env:=by rfl)
    (hfew:((backTo cpos (starEach [e,f] X.env)).all (fun x=>!x.1) && (backToKw cpos (keywordEach [] X.env)).all (fun x=>x.1.isSome) && decide (([e,f]:BBC).length+([]:BBI).length+(if([]:BBI).isEmpty then 0 else 1) < 30))=true:=by rfl)
    (hline:(apos.endLine == cpos.line)=true:=by rfl) (htr:backTo cpos (starEach [e,f] X.env)=[(false,eval e X.env),(false,eval f X.env)]:=by rfl) (hd:BBT x:=by decide) (hcd:BBU x:=by decide):
    JD X (.Call (.Attribute (.Name x px) "get" apos) [e,f] [] cpos) (Jl i gk gd):=
  ⟨fun B => (MJ hu (eL hN hv hd hcd) (he.h B) (hf.h B) ⟨hb, hfew, hline, htr⟩).imp fun σ H Q hh => by
    obtain⟨S,F,d,S',R,hg,q⟩:=hh;unfold Jl at hg;split at hg
    . rename_i u hS
      split at hg
      . rename_i hD
        obtain⟨⟨d1,S1⟩,h1,hg⟩:=aj hg;obtain⟨⟨d2,S2⟩,h2,hg⟩:=aj hg;dsimp only at hg;split at hg
        . rename_i u2 Y6
          obtain⟨o,h3,hg⟩:=aB hg;cases hg;obtain⟨v0,hv0,r0⟩:=R.rep i u hS;obtain⟨a,rfl,ha⟩:=FJ r0 hD;refine⟨.ref a,hv0,a,rfl,ha,S,F,d1,S1,R,h1,fun v1 F1 H1 R1 st1 r1=>⟨S1,F1,d2,_,R1,h2,fun v2 F2 H2 R2 st2 r2=>?_⟩⟩;obtain⟨v3,Y7,r3⟩:=R2.rep i u2 Y6;rw[hv0] at Y7;cases Y7;obtain⟨a',ov,e1,g1,rl⟩:=Q2 R2.sub r3 (r1.le st2.ext.le) h3;cases e1;refine⟨ov,g1,q _ F2 H2 R2 (st1.trans st2) ?_⟩;cases o with
          | none=>cases ov with
            | none=>exact r2
            | some _=>exact(show False from rl).elim
          | some d=>cases ov with
            | none=>exact(show False from rl).elim
            | some v=>exact rl
        . cases hg
      . cases hg
    . cases hg⟩
def Y8 (td te:TE):TE:=fun σ H Q=>td σ H fun x H1=>∃a,x= .ref a/\IsD H1 a/\te σ H1 fun y H2=>∃p kvs more,y= .ref p/\H2 a=some (.dK kvs)/\H2 p=some (.dK more)/\a≠p/\kvs.length+more.length<=sizeLine/\Q .cM (upd H2 a (.dK (oh kvs more)))
def Q4 {o:Expr}{td te:TE}(ho:PE X o td) (he:PE X e te) (m:M1 X o "update" apos e cpos):PE X (.Call (.Attribute o "update" apos) [e] [] cpos) (Y8 td te):=by
 intro pins s σ H Q I h;refine aeR m.base m.few m.line aeN afR PySem.F.type_dict_update (dN (ho pins s σ H _ I h) fun u s1 hh=>?_);obtain⟨x,H1,I1,rx,a,ex,d,q1⟩:=hh;subst ex;obtain rfl:u=Value.ref a:=rx;obtain⟨t1,t2,_⟩:=MI I1 d;refine⟨t1,t2,?_⟩;rw[m.trees];refine adF rfl (adP (abA (dN (he pins s1 σ H1 _ I1 q1) fun iv s2 ⟨y,H2,I2,ry,p,kvs,more,ey,ha,hp,ne,hl,q2⟩=>aen ?_)));subst ey;obtain rfl:iv=Value.ref p:=ry;obtain⟨z1,d1,vs1,r1,dd1⟩:=IS I2.hok ha;obtain⟨z2,d2,vs2,r2,dd2⟩:=IS I2.hok hp;refine call_meetsIn afR dd1.typeIs PySem.F.entry_dict_update (PySem.F.args_dict_update_2 _ _) (meets_dict_update (dZ X.prog X.w) a p ne d2) ⟨vs1,vs2,dd1,dd2,(by rw[<-r1.length,<-r2.length];exact hl),fun h' Qg _ hs=>⟨.cM,_,?_,rfl,q2⟩⟩;have hz:(oh kvs more).length<=sizeLine:=aaA (p7 more kvs) hl;have hee:∃q,h'.get? a=some q:=let⟨q,_,_,hq,_⟩:=Qg;⟨q,hq⟩
 exact DJ I2 (by rw[ha];exact True.intro) hs hee (G3 hz d1 (r2.merge r1) Qg)
def FL (i:Nat) (ge:GE):GD:=fun S=>match S[i]? with
 | some (some u)=>if Bp u then(ge S).bind fun p=>match p.1 with
  | .m (.dct more)=>yc p.2 i fun o=>match o with
   | .dct kvs=>if kvs.length+more.length<=100000 then some (.cM,.dct (eV kvs more)) else none
   | _=>none
  | _=>none
  else none
 | _=>none
def Jm (he:JE X e ge) (hN:X.N[i]? =some x:=by rfl) (hv:xN X.env.scope x:=by first | exact Or.inl rfl | exact Or.inr (Or.inl rfl) | exact Or.inr (Or.inr rfl))
    (hb:attributeBase (.Name x px) "update" X.env (eval (.Name x px) X.env)=eval (.Name x px) X.env:=by rfl)
    (hfew:((backTo cpos (starEach [e] X.env)).all (fun x=>!x.1) && (backToKw cpos (keywordEach [] X.env)).all (fun x=>x.1.isSome) && decide (([e]:BBC).length+([]:BBI).length+(if([]:BBI).isEmpty then 0 else 1) < 30))=true:=by rfl)
    (hline:(apos.endLine == cpos.line)=true:=by rfl) (htr:backTo cpos (starEach [e] X.env)=[(false,eval e X.env)]:=by rfl) (hd:BBT x:=by decide) (hcd:BBU x:=by decide):
    JD X (.Call (.Attribute (.Name x px) "update" apos) [e] [] cpos) (FL i ge):=
  ⟨fun B => (Q4 (eL hN hv hd hcd) (he.h B) ⟨hb, hfew, hline, htr⟩).imp fun σ H Q hh => by
    obtain⟨S,F,d,S',R,hg,q⟩:=hh;unfold FL at hg;split at hg
    . rename_i u hS
      split at hg
      . rename_i hD
        obtain⟨⟨u1,S1⟩,h1,hg⟩:=aj hg;dsimp only at hg;split at hg
        . rename_i more
          obtain⟨u2,u',o,o',Y6,ET,hio,hf,PB,rfl⟩:=vf hg;split at hf
          . rename_i kvs
            obtain⟨hl,hf⟩:=fj hf;cases hf;obtain⟨v0,hv0,r0⟩:=R.rep i u hS;obtain⟨a,rfl,ha⟩:=FJ r0 hD;refine⟨.ref a,hv0,a,rfl,ha,S,F,_,S1,R,h1,fun v1 F1 H1 R1 st1 r1=>?_⟩;obtain⟨p,rfl,hp0,fp,⟨Ma,hp,pr2⟩,hn,hB⟩:=r1;obtain⟨v3,Y7,r3⟩:=R1.rep i u2 Y6;rw[hv0] at Y7;cases Y7;have mA:eO S1 σ a:=⟨i,u2,Y6,ET,hv0⟩
            have ne:a≠p:=fun z=>hn (z▸mA);obtain⟨b,o2,e1,fa,e2,k⟩:=r3.eO ET;cases e1;rw[hio] at e2;cases e2;obtain⟨Nx,ha1,pr1⟩:=k;refine⟨p,Nx,Ma,rfl,ha1,hp,ne,?_,?_⟩
            . rw[cR pr1,cR pr2,aeW];lia
            . obtain⟨R2,st2⟩:=R1.write (ho:=.dK (oh Nx Ma)) Y6 PB hv0 ⟨_,aY,wI pr2 pr1⟩
              exact q .cM F1 _ R2 (st1.trans st2) .cM
          . cases hf
        . cases hg
      . cases hg
    . cases hg⟩
end
end L2
end
section
namespace HT
open PySem PySem.Spec PyProof.Rows
section
variable {prog:Program}{w:World}{A:Around}{E:AAE}{s:Shared}
def ze {sl:Addr}{vs:Value}{n:Nat}{Q:Int×Int×Nat->Shared->Prop}(hs:s.heap.IsSliceOf sl .none .none vs) (ps:IsPart vs (some (-1)))
  (h:Q ((n:Int) - 1,-1,n) s):wpAny (model prog w) A (Builtin.Slice.sliceApplied (.ref sl) (pure (n:Int))) Q E s:=by
 obtain⟨os,hos,hcs,hds⟩:=id hs;unfold Builtin.Slice.sliceApplied Builtin.Slice.sliceFields;refine aae (aae (ab5 hos hds (x:=.none) rfl (aae (ab5 hos hds (x:=.none) rfl (aae (ab5 hos hds (x:=vs) rfl (aah ?_)))))));refine aae (wz ps ?_);show wpAny _ _ (if((-1:Int) == 0)=true then _ else _) _ _ s;rw[if_neg (by decide)];refine aae (afC (aae (afC (aae (aah ?_)))));show wpAny _ _ (match Builtin.Slice.sliceAdjust none none (-1) (n:Int) with | (lo,hi)=>pure (lo,(-1:Int),Builtin.Slice.slicePlaces lo hi (-1))) _ _ s;have e:Builtin.Slice.sliceAdjust none none (-1) (n:Int)=((n:Int) - 1,-1):=rfl;rw[e];show wpAny _ _ (pure ((n:Int) - 1,(-1:Int),Builtin.Slice.slicePlaces ((n:Int) - 1) (-1) (-1))) _ _ s;have e2:Builtin.Slice.slicePlaces ((n:Int) - 1) (-1) (-1)=n:=by
  unfold Builtin.Slice.slicePlaces;rw[if_neg (by decide)];split
  ·rw[show(- -1:Int)=1 from rfl,Int.ediv_one];lia
  ·lia
 rw[e2];exact aah h
def Ny (xs:AAK):((List.range xs.size).filterMap fun(m:Nat)=>xs[((xs.size:Int) - 1+(m:Int) * -1).toNat]?).toArray=xs.toList.reverse.toArray:=by
 have h1:(List.range xs.size).filterMap (fun(m:Nat)=>xs[((xs.size:Int) - 1+(m:Int) * -1).toNat]?)=((List.range xs.size).map fun k=>xs.size - 1 - k).filterMap (xs[·]?):=by
  rw[List.filterMap_map]
  congr 1
  funext m;show xs[((xs.size:Int) - 1+(m:Int) * -1).toNat]? =xs[xs.size - 1 - m]?
  have:((xs.size:Int) - 1+(m:Int) * -1).toNat=xs.size - 1 - m:=by lia
  rw[this]
 rw[h1,PySem.W.krv_range,List.filterMap_reverse,PySem.W.krv_all]
def yr {t sl:Addr}{items:AAK}{vs:Value}{Q:AAE}(ht:IsTup s.heap t items) (hs:s.heap.IsSliceOf sl .none .none vs) (ps:IsPart vs (some (-1)))
  (h:Q (.ref s.heap.objs.size) {s with heap:=s.heap.push {cls:=.type "tuple",data:=.seq items.toList.reverse.toArray}})
  (hsz:items.size<=sizeLine):wpAny (model prog w) A (getItem (.ref t) (.ref sl)) Q E s:=by
 have xT:sizeOk (.seq items.toList.reverse.toArray):=by
  show items.toList.reverse.toArray.size<=sizeLine;rw[aam,afA,abw];exact hsz
 obtain⟨os,hos,hcs,hds⟩:=id hs;have Ys:s.TypeIs (.ref sl) "slice":=⟨os,hos,hcs⟩
 unfold getItem
 try with_reducible refine abW ?_
 first | refine aae (aah ?_) | skip
 refine aae (afK ht.typeIs (by decide) ?_);refine aae (aeP (name:=Str.ofString "__getitem__") ht.typeIs aa6
  (afQ aa6 ht.typeIs entry_tuple_getitem ?_ (args_tuple_getitem _ _)))
 show wpAny _ _ (Builtin.Tuple.tupleItemsOf (.ref t) >>= _) _ _ s;refine aae (tupleItemsOf_ ht ?_);refine aae (afo Ys ?_);rw[if_pos (by decide)];refine aae (ze hs ps ?_);have hno:¬((((items.size:Int) - 1) == 0 && (-1:Int) == 1 && items.size == items.size)=true):=by
  intro q;rw[abt,abt] at q;exact absurd q.1.2 (by decide)
 show wpAny _ _ (if(((items.size:Int) - 1) == 0 && (-1:Int) == 1 && items.size == items.size)=true then _ else _) _ _ s;rw[if_neg hno,Ny]
 first
  | exact aae (m:=Builtin.Tuple.tupleExact _) (abN (aah ⟨_,rfl,aah h⟩) xT)
  | exact aae (m:=Builtin.Tuple.tupleExact _) (abN (aae (aah (aah ⟨_,rfl,aah h⟩))) xT)
  | exact aae (aae (m:=Builtin.Tuple.tupleExact _) (abN (aah (aah ⟨_,rfl,aah h⟩)) xT))
  | exact aae (aae (m:=Builtin.Tuple.tupleExact _) (abN (aah ⟨_,rfl,aah h⟩) xT))
end
end HT
namespace L2
open PySem PySem.Spec PyProof.Rows
section
variable {X:Cx}{e st:Expr}{te ts:TE}{pos p2:Pos}
def SlV (X:Cx) (r:V->Hp->VK->Prop):Prop:=
 ∀(pins:AAG) (s:Shared) (σ:St) (H:Hp) (x:V) (v vs:Value) (sl:Addr) (Q:VK),Inv X pins σ H s->RelV x v->s.heap.IsSliceOf sl .none .none vs->IsPart vs (some (-1))->r x H Q->
  ∃T id,typeLookup (.type T) "__getitem__" =pure (some (.builtin id))/\s.TypeIs v T/\wpAny (model X.prog X.w) X.A (getItem v (.ref sl)) (EP X pins σ Q) X.xe s
def acQ (r:V->Hp->VK->Prop) (te:TE) (ts:TO):TE:=fun σ H Q=>te σ H fun x H1=>ts σ H1 fun u H3=>u=some (-1)/\r x H3 Q
def Ld {r:V->Hp->VK->Prop}(hr:SlV X r) (he:PE X e te) (hs:PE X st ts):PE X (.Subscript e (.Slice none none (some st) p2) pos) (acQ r te (Tv ts)):=by
 intro pins s σ H Q I h;refine Subscript_ (dN (he pins s σ H _ I h) fun v s1 hh=>?_);obtain⟨x,H1,I1,r1,q1⟩:=hh;refine wpAny_Slice ?_;rw[evalPart_none];refine aah ?_;refine aah ?_;refine dN (IX hs pins s1 σ H1 _ I1 q1) fun vu s3 hh=>?_;obtain⟨u,H3,I3,pu,q3⟩:=hh;obtain⟨rfl,q3⟩:=q3;have I4:Inv X pins σ H3 {s3 with heap:=s3.heap.push {cls:=.type "slice",data:=.fields #[.none,.none,vu]}}:=I3.kept (t':=s3.toks) fun b ob q=>aan _ q;obtain⟨T,id,hT,ht,hg⟩:=hr pins {s3 with heap:=s3.heap.push {cls:=.type "slice",data:=.fields #[.none,.none,vu]}} σ H3 x v vu s3.heap.objs.size Q I4 r1 (Heap.IsSliceOf.new ..) pu q3;show wpAny (model X.prog X.w) X.A (subscriptTail e (.Slice none none (some st) p2) v (.ref s3.heap.objs.size)) (EP X pins σ Q) X.xe {s3 with heap:=s3.heap.push {cls:=.type "slice",data:=.fields #[.none,.none,vu]}};exact tail_any (ops:=[v,.ref s3.heap.objs.size]) ht hT hg (by with_unfolding_all rfl)
noncomputable def DZ (d:D):Option U:=match d with
 | .tup ds=>some (.t (.tup ds.reverse))
 | .lst ds=>some (.m (.lst ds.reverse))
 | _=>none
theorem bY.rev {F:Hp}:∀{vs:List V}{ds:List D},bY F vs ds->bY F vs.reverse ds.reverse
 | _,_,.nil=>.nil
 | _,_,.cons r rs=>by rw[aeU,aeU];exact(bY.rev rs).append (.cons r .nil)
def Vals.rev {xs:List V}{us:AAL}(r:Vals xs us):Vals xs.reverse us.reverse:=by
 induction r with
 | nil=>exact .nil
 | cons r _ ih=>rw[aeU,aeU];exact ih.append (.cons r .nil)
def Y9:V->Hp->VK->Prop:=fun x H Q=>∃F d u,Sub F H/\Rep F x d/\DZ d=some u/\∀v F' H',iM F H F' H'->Sub F' H'->Hq H F' H' v u->Q v H'
def Za:SlV X Y9:=by
 intro pins s σ H x v vs sl Q I rx hs ps ⟨F,d,u,sb,r,hf,q⟩;cases d with
 | tup ds=>
  cases hf;obtain⟨a,xs,rfl,fa,ha,rs⟩:=sb.sQ r;cases rx;obtain⟨its,rv,ht,hz⟩:=I.tuple (.inl ha);have hlen:its.toArray.size=xs.length:=by rw[aam];exact rv.length.symm
  refine⟨"tuple",_,aa6.lookup,ht.typeIs,?_⟩;refine HT.yr ht hs ps ?_ (by rw[hlen];exact hz);refine⟨.ref s.heap.objs.size,_,I.laid (t':=s.toks) (o:=.tup xs.reverse) (fun b ob q=>aan _ q) (aap _) ?_,rfl,?_⟩
  ·exact⟨by rw[afA];exact hz,_,rv.rev,IsTup.new _ _⟩
  ·have hp:=I.hok.fresh (aap _);exact q _ _ _ (iM.root sb hp _) (sb.DO hp) (.tup aY (rs.rev.le (lM (sb.fresh hp))))
 | lst ds=>
  cases hf;obtain⟨a,xs,rfl,fa,ha,rs⟩:=sb.mG r;cases rx;obtain⟨its,rv,ht,hz⟩:=I.list (.inl ha);have hlen:=rv.length;refine⟨"list",_,afL.lookup,ht.isList.typeIs,?_⟩;refine wpAny_getItem_list_slice ht.isList hs .none .none ps (by simp) ?_ (by rw[aam] <;> lia);rw[PySem.W.krv_pick];have hp:=I.hok.fresh (aap _);refine⟨.ref s.heap.objs.size,_,I.laid (t':=s.toks) (o:=.lst xs.reverse) (fun b ob q=>aan _ q) (aap _) ?_,rfl,?_⟩
  ·exact⟨by rw[afA];exact hz,_,0,rv.rev,aa5 _ rfl⟩
  ·exact q _ F _ (iM.obj hp _) (sb.same (iM.obj (F:=F) hp _).same) ⟨_,rfl,hp,sb.fresh hp,_,aY,rs.rev⟩
 | str z=>cases hf
 | cM=>cases hf
 | bl b=>cases hf
 | int b=>cases hf
def Nz (g:GD) (gs:GD):GE:=fun S=>(g S).bind fun p=>(gs p.2).bind fun l=>match l.1 with
 | .int i=>if i=-1 then(DZ p.1).map fun u=>(u,l.2) else none
 | _=>none
def Vs {g gs:GD}(he:JD X e g) (hs:JD X st gs):JE X (.Subscript e (.Slice none none (some st) p2) pos) (Nz g gs):=⟨fun B=>(Ld Za (he.h B) (hs.h B)).imp fun σ H Q hh=>by
 obtain⟨S,F,u,S',R,hg,q⟩:=hh;obtain⟨⟨d,S1⟩,h1,hg⟩:=aj hg;obtain⟨⟨l,S2⟩,h2,hg⟩:=aj hg;cases l <;> try (cases hg)
 rename_i i;dsimp only at hg;by_cases hi:i=-1
 ·rw[if_pos hi] at hg;subst hi;obtain⟨u',h4,hg⟩:=aB hg;cases hg;exact⟨S,F,d,S1,R,h1,fun v F1 H1 R1 st1 r1=>⟨S1,F1,_,_,R1,h2,fun v2 F2 H2 R2 st2 r2=>⟨_,i8 r2,rfl,F2,d,_,R2.sub,r1.le st2.ext.le,h4,fun v F4 H4 n s4 r4=>q v F4 H4 (R2.new n s4) ((st1.trans st2).trans n.step) (r4.Hr R2 (st1.trans st2))⟩⟩⟩
 ·rw[if_neg hi] at hg;cases hg⟩
@[simp] theorem acR (g gs:GD) (S:SS):Nz g gs S=(g S).bind fun p=>(gs p.2).bind fun l=>match l.1 with
 | .int i=>if i=-1 then(DZ p.1).map fun u=>(u,l.2) else none
 | _=>none:=rfl
end
noncomputable def zf:BBD->Int
 | []=>0
 | [a]=>a
 | a :: b :: r=>max a (zf (b :: r))
noncomputable def Ck:BBD->Int
 | []=>0
 | [a]=>a
 | a :: b :: r=>min a (Ck (b :: r))
theorem Q5:∀{ns:BBD}{M:Int},M∈ns->(∀a∈ns,a<=M)->zf ns=M
 | [],_,h,_=>by cases h
 | [a],M,h,_=>by rw[aav.mp h];rfl
 | a :: b :: r,M,h,k=>by
  have hb:∀x∈b :: r,x<=zf (b :: r):=by
   have:∀(l:BBD),∀x∈l,x<=zf l:=by
    intro l
    induction l with
    | nil=>intro x hx;cases hx
    | cons a l ih=>
     intro x hx;cases l with
     | nil=>rw[aav.mp hx];exact Int.le_refl _
     | cons b r=>
      show x<=max a (zf (b :: r));rcases aao.mp hx with rfl | q
      ·lia
      ·have:=ih x q;lia
   exact this _
  have hm:∀(l:BBD),l≠[]->zf l∈l:=by
   intro l
   induction l with
   | nil=>intro z;exact absurd rfl z
   | cons a l ih=>
    intro _;cases l with
    | nil=>exact aav.mpr rfl
    | cons b r=>
     have:=ih (by simp);show max a (zf (b :: r))∈_;by_cases c:a<=zf (b :: r)
     ·rw[Int.max_eq_right c];exact aaz _ this
     ·rw[Int.max_eq_left (by lia)];exact abf
  have h1:=hm (a :: b :: r) (by simp);have h2:=k _ h1;show max a (zf (b :: r))=M;have h3:max a (zf (b :: r))<=M:=h2;rcases aao.mp h with rfl | q
  ·lia
  ·have:=hb M q;lia
theorem Q6:∀{ns:BBD}{M:Int},M∈ns->(∀a∈ns,M<=a)->Ck ns=M
 | [],_,h,_=>by cases h
 | [a],M,h,_=>by rw[aav.mp h];rfl
 | a :: b :: r,M,h,k=>by
  have hb:∀(l:BBD),∀x∈l,Ck l<=x:=by
   intro l
   induction l with
   | nil=>intro x hx;cases hx
   | cons a l ih=>
    intro x hx;cases l with
    | nil=>rw[aav.mp hx];exact Int.le_refl _
    | cons b r=>
     show min a (Ck (b :: r))<=x;rcases aao.mp hx with rfl | q
     ·lia
     ·have:=ih x q;lia
  have hm:∀(l:BBD),l≠[]->Ck l∈l:=by
   intro l
   induction l with
   | nil=>intro z;exact absurd rfl z
   | cons a l ih=>
    intro _;cases l with
    | nil=>exact aav.mpr rfl
    | cons b r=>
     have:=ih (by simp);show min a (Ck (b :: r))∈_;by_cases c:a<=Ck (b :: r)
     ·rw[Int.min_eq_left c];exact abf
     ·rw[Int.min_eq_right (by lia)];exact aaz _ this
  have h1:=hm (a :: b :: r) (by simp);have h2:=k _ h1;have h3:=hb (a :: b :: r) M h;exact Int.le_antisymm h3 h2
def NC:List D->Option U
 | [.lst ds]=>(vZ ds).bind fun bs=>if bs=[] then none else some (.t (.int (zf bs)))
 | _=>none
def C4:List D->Option U
 | [.lst ds]=>(vZ ds).bind fun bs=>if bs=[] then none else some (.t (.int (Ck bs)))
 | _=>none
def FN {α:Type}{p:Prop} [Decidable p] {x y:α}(h:(if p then none else some x)=some y):¬p/\x=y:=by
 by_cases c:p
 ·rw[if_pos c] at h;cases h
 ·rw[if_neg c] at h;exact⟨c,abh h⟩
section
variable {X:Cx}
def Vt (hc:X.calm=true):jK X (.builtin "max") (rP NC):=by
 intro pins s σ H xs us Q I r ⟨F,ds,w,sb,rs,hw,q⟩;obtain⟨x,d,rfl,rfl,r1⟩:=DV (P:=fun _=>True) rs hw rfl (fun d _ _=>by cases d <;> rfl);cases d <;> try (simp[NC] at hw;done)
 rename_i ds;obtain⟨bs,h1,hw⟩:=aj (show(vZ ds).bind _=some w from hw);obtain⟨hne,rfl⟩:=FN hw;obtain⟨a,vs,rfl,fa,ha,An⟩:=sb.mG r1;obtain rfl:=wJ An h1;obtain⟨u,rfl,ru⟩:=vals1 r;cases ru;obtain⟨its,rv,pl,hz⟩:=I.list (.inl ha);have hi:IntsAre its.toArray.toList bs:=intsAre_of rv;obtain⟨ys,e⟩:=hi.allInts.items;have hns:bs=ys.toList.map (·.1):=by rw[<-hi.numsOf,<-nums_intItems,<-e]
 have hb:0 < bs.length:=by cases bs with | nil=>exact absurd rfl hne | cons _ _=>simp
 have hsz:0 < ys.size:=by
  have h3:=hb;rw[hns,aas,abw] at h3;exact h3
 have hl:=pl.isList;have e':its.toArray=intItems ys:=by rw[<-e]
 rw[e'] at hl;refine max_intList (I.ok.hd hc) hl hsz fun v h' tk hv hk=>?_;obtain⟨t,rfl⟩:=intItems_at hv;obtain⟨k1,k2⟩:=argBest_gt (numAt ys) (ys.size - 1);have em:zf bs=numAt ys (argBest (fun i j=>decide (numAt ys i > numAt ys j)) (ys.size - 1)):=by
  refine Q5 ?_ fun a ha=>?_
  ·rw[hns,numAt_eq];exact getD_mem (by rw[aas,abw];lia)
  ·rw[hns] at ha;obtain⟨j,hj,rfl⟩:=mem_getD ha;rw[aas,abw] at hj;rw[<-numAt_eq];exact k2 j (by lia)
 rw[<-em];exact⟨.int _,H,I.kept (t':=tk) hk,⟨t,rfl⟩,q _ F H (iM.refl ..) sb (.int _)⟩
def HD (hc:X.calm=true):jK X (.builtin "min") (rP C4):=by
 intro pins s σ H xs us Q I r ⟨F,ds,w,sb,rs,hw,q⟩;obtain⟨x,d,rfl,rfl,r1⟩:=DV (P:=fun _=>True) rs hw rfl (fun d _ _=>by cases d <;> rfl);cases d <;> try (simp[C4] at hw;done)
 rename_i ds;obtain⟨bs,h1,hw⟩:=aj (show(vZ ds).bind _=some w from hw);obtain⟨hne,rfl⟩:=FN hw;obtain⟨a,vs,rfl,fa,ha,An⟩:=sb.mG r1;obtain rfl:=wJ An h1;obtain⟨u,rfl,ru⟩:=vals1 r;cases ru;obtain⟨its,rv,pl,hz⟩:=I.list (.inl ha);have hi:IntsAre its.toArray.toList bs:=intsAre_of rv;obtain⟨ys,e⟩:=hi.allInts.items;have hns:bs=ys.toList.map (·.1):=by rw[<-hi.numsOf,<-nums_intItems,<-e]
 have hb:0 < bs.length:=by cases bs with | nil=>exact absurd rfl hne | cons _ _=>simp
 have hsz:0 < ys.size:=by
  have h3:=hb;rw[hns,aas,abw] at h3;exact h3
 have hl:=pl.isList;have e':its.toArray=intItems ys:=by rw[<-e]
 rw[e'] at hl;refine min_intList (I.ok.hd hc) hl hsz fun v h' tk hv hk=>?_;obtain⟨t,rfl⟩:=intItems_at hv;obtain⟨k1,k2⟩:=argBest_lt (numAt ys) (ys.size - 1);have em:Ck bs=numAt ys (argBest (fun i j=>decide (numAt ys i < numAt ys j)) (ys.size - 1)):=by
  refine Q6 ?_ fun a ha=>?_
  ·rw[hns,numAt_eq];exact getD_mem (by rw[aas,abw];lia)
  ·rw[hns] at ha;obtain⟨j,hj,rfl⟩:=mem_getD ha;rw[aas,abw] at hj;rw[<-numAt_eq];exact k2 j (by lia)
 rw[<-em];exact⟨.int _,H,I.kept (t':=tk) hk,⟨t,rfl⟩,q _ F H (iM.refl ..) sb (.int _)⟩
end
@[simp] theorem aaD (ds:List D):NC [.lst ds]=(vZ ds).bind fun bs=>if bs=[] then none else AAC (zf bs):=rfl
@[simp] theorem aaE (ds:List D):C4 [.lst ds]=(vZ ds).bind fun bs=>if bs=[] then none else AAC (Ck bs):=rfl
end L2
namespace HT
open PySem PySem.Spec PyProof.Rows
end HT
namespace L2
open PySem PySem.Spec PyProof.Rows
end L2
end
section
namespace L2
open PySem PySem.Spec PyProof.Rows PySem.Calls
end L2
end
section
namespace L2
open PySem PySem.Spec PyProof.Rows
end L2
end
section
namespace L2
open PySem PySem.Spec PyProof.Rows PySem.Calls
variable {ds:List D}{u:U}
section
variable {X:Cx}{o e:Expr}{m:Str}{apos cpos:Pos}{id:String}{go ge:GD}{f:List D->Option U}
def mJ (hc:jK X (.builtin id) (rP f)) (slot:Slot "str" m id) (ty:typeOf (.builtin id)=pure (.type "method_descriptor")) (hstr:∀d1 d2 u,f [d1,d2]=some u->∃z,d1= .str z) (ho:JD X o go) (he:JD X e ge)
  (hb:attributeBase o m X.env (eval o X.env)=eval o X.env:=by rfl)
  (hfew:((backTo cpos (starEach [e] X.env)).all (fun x=>!x.1) && (backToKw cpos (keywordEach [] X.env)).all (fun x=>x.1.isSome) && decide (([e]:BBC).length+([]:BBI).length+(if([]:BBI).isEmpty then 0 else 1) < 30))=true:=by rfl)
  (hline:(apos.endLine == cpos.line)=true:=by rfl) (htr:backTo cpos (starEach [e] X.env)=[(false,eval e X.env)]:=by rfl):
  JE X (.Call (.Attribute o m apos) [e] [] cpos) (eP f (aa go (aa ge aq))):=⟨fun B=>by
 rintro pins s σ H Q I ⟨S,F,u,S',R,hg,q⟩;obtain⟨⟨dl,S1⟩,h1,hg⟩:=aj hg;obtain⟨w,hf,hg⟩:=aB hg;cases hg;obtain⟨⟨d1,Sa⟩,k1,h1⟩:=aj h1;obtain⟨⟨dr,Sb⟩,kk,h1⟩:=aB h1;cases h1;obtain⟨⟨d2,Sc⟩,k2,h2⟩:=aj kk;clear kk;obtain⟨⟨dn,Sd⟩,k3,h2⟩:=aB h2;cases k3;cases h2;obtain⟨z,rfl⟩:=hstr _ _ _ hf;refine aeR hb hfew hline PySem.F.plainAttrs_str slot ty (dN (ho.h B pins s σ H (fun v H1=>∃F1,Rel X.K B Sa σ F1 H1/\Step S Sa σ F H F1 H1/\Rep F1 v (.str z)) I ⟨S,F,_,Sa,R,k1,fun v F1 H1 R1 st1 r1=>⟨F1,R1,st1,r1⟩⟩) ?_);rintro ov s1 ⟨x,H1,I1,rx,F1,R1,st1,r1⟩;cases r1;obtain⟨t,rfl⟩:∃t,ov= .str z t:=rx;refine⟨aeL _ _ _,(fun _ e=>nomatch e),?_⟩;rw[htr];refine adF rfl (adP (abA (dN (he.h B pins s1 σ H1 (fun v H2=>∃F2,Rel X.K B Sc σ F2 H2/\Step Sa Sc σ F1 H1 F2 H2/\Rep F2 v d2) I1 ⟨Sa,F1,d2,Sc,R1,k2,fun v F2 H2 R2 st2 r2=>⟨F2,R2,st2,r2⟩⟩) ?_)));rintro iv s2 ⟨y,H2,I2,ry,F2,R2,st2,r2⟩;refine aen ?_;exact hc pins s2 σ H2 [.str z,y] _ Q I2 (.cons ⟨t,rfl⟩ (.cons ry .nil)) ⟨F2,[.str z,d2],u,R2.sub,.cons (.str z) (.cons r2 .nil),hf,fun v F3 H3 n s3 r3=>q v F3 H3 (R2.new n s3) ((st1.trans st2).trans n.step) (r3.Hr R2 (st1.trans st2))⟩⟩
end
theorem C5:∀{zs:BBB}{its:AAL},Vals (zs.map V.str) its->∃l:List (Str×Tok),its=strValues l/\l.map (·.1)=zs
 | [],_,h=>by cases h;exact⟨[],rfl,rfl⟩
 | z :: zs,_,h=>by
  cases h with
  | cons r rs=>
   obtain⟨t,rfl⟩:=r;obtain⟨l,rfl,e⟩:=C5 rs;exact⟨(z,t) :: l,rfl,by rw[aax,e]⟩
theorem C6:∀(l:List (Str×Tok)),Vals ((l.map (·.1)).map V.str) (strValues l)
 | []=>.nil
 | p :: l=>.cons ⟨p.2,rfl⟩ (C6 l)
theorem zh (F:Hp):∀zs:BBB,bY F (zs.map V.str) (zs.map D.str)
 | []=>.nil
 | z :: zs=>.cons (.str z) (zh F zs)
def nu:List D->Option U
 | [.str sep,.lst ds]=>(um ds).bind fun zs=>if JoinOk sep zs=true then some (.t (.str (Txt.join sep zs))) else none
 | _=>none
def FO (h:nu ds=some u):∃sep l zs,ds=[.str sep,.lst l]/\um l=some zs/\JoinOk sep zs=true/\u= .t (.str (Txt.join sep zs)):=by
 unfold nu at h;split at h
 ·obtain⟨zs,h1,h2⟩:=aj h;obtain⟨h3,rfl⟩:=b7 h2;exact⟨_,_,zs,rfl,h1,h3,rfl⟩
 ·cases h
section
variable {X:Cx}
def oK:jK X (.builtin "str.join") (rP nu):=by
 intro pins s σ H xs us Q I r ⟨F,ds,w,sb,rs,hw,q⟩;obtain⟨sep,l,zs,rfl,h1,h2,rfl⟩:=FO hw;cases rs with
 | cons r1 rs=>
  cases rs with
  | cons r2 rs=>
   cases rs;cases r1;obtain⟨a,vs,rfl,fa,ha,An⟩:=sb.mG r2;obtain rfl:=Bm An h1;obtain⟨t,u2,rfl,hu2⟩:∃t u2,us=[.str sep t,u2]/\RelV (.ref a) u2:=by
    cases r with
    | cons a1 r=>cases r with | cons a2 r=>cases r;obtain⟨t,rfl⟩:=a1;exact⟨t,_,rfl,a2⟩
   obtain rfl:u2= .ref a:=hu2;obtain⟨its,rv,pl,hz⟩:=I.list (.inl ha);obtain⟨l',rfl,hl'⟩:=C5 rv;exact SC.join pl.isList hl' h2 fun t' k=>⟨.str _,H,I.tok _,⟨t',rfl⟩,q _ F H (iM.refl ..) sb (.str _)⟩
noncomputable def jO:List D->Option U
 | [.str x,.str y]=>if(y.length == 0)=false/\x.length<=100000/\(Txt.split x y).length<=100000 then some (.m (.lst ((Txt.split x y).map D.str))) else none
 | _=>none
def C7 (h:jO ds=some u):∃x y,ds=[.str x,.str y]/\(y.length == 0)=false/\x.length<=100000/\(Txt.split x y).length<=100000/\u= .m (.lst ((Txt.split x y).map D.str)):=by
 unfold jO at h;split at h
 ·obtain⟨h3,rfl⟩:=b7 h;exact⟨_,_,rfl,h3.1,h3.2.1,h3.2.2,rfl⟩
 ·cases h
def ND {F:Hp}{xs:List V}{us:AAL}{x y:Str}(rs:bY F xs [.str x,.str y]) (r:Vals xs us):∃t u,us=[.str x t,.str y u]:=by
 cases rs with
 | cons r1 rs=>
  cases rs with
  | cons r2 rs=>
   cases rs;cases r1;cases r2;cases r with
   | cons a1 r=>cases r with | cons a2 r=>cases r;obtain⟨t,rfl⟩:=a1;obtain⟨u,rfl⟩:=a2;exact⟨t,u,rfl⟩
def ur:jK X (.builtin "str.split") (rP jO):=by
 intro pins s σ H xs us Q I r ⟨F,ds,w,sb,rs,hw,q⟩;obtain⟨x,y,rfl,hy,hx,hn,rfl⟩:=C7 hw;obtain⟨t,u,rfl⟩:=ND rs r;have line:∀{n:Nat},n<=100000->n<=sizeLine:=fun h=>aaA h (by decide);have fin:∀(l:List (Str×Tok)) (k:Nat),l.map (·.1)=Txt.split x y->EP X pins σ Q (.ref s.heap.objs.size) {s with toks:=k,heap:=s.heap.push {cls:=.type "list",data:=.seq (strValues l).toArray}}:=fun l k e=>by
  have hp:=I.hok.fresh (aap s.heap.objs.size);have hl:l.length=(Txt.split x y).length:=by rw[<-e,aas]
  refine⟨.ref s.heap.objs.size,_,I.laid (t':=k) (o:=.lst ((l.map (·.1)).map V.str)) (fun b ob q=>aan _ q) (aap _) ⟨by rw[aas,aas];exact line (by lia),strValues l,0,C6 l,aa5 _ rfl⟩,rfl,?_⟩;refine q _ F _ (iM.obj hp _) (sb.same (iM.obj (F:=F) hp _).same) ⟨_,rfl,hp,sb.fresh hp,_,aY,?_⟩;rw[e];exact zh F _
 cases c1:(decide (x.length < y.length) || decide (Builtin.Str.strKind x < Builtin.Str.strKind y)) with
 | true=>
  have e:Txt.split x y=[x]:=by unfold Txt.split;rw[if_pos c1]
  exact aeM acw (aeL _ _ _) aeQ (aeJ _ _) (meets_str_split_cannot_occur x y t u c1) (fin [(x,t)] s.toks e.symm)
 | false=>
  cases c2:(Builtin.Str.occurrences x y 0 x.length (x.length+1)).isEmpty with
  | true=>
   have e:Txt.split x y=[x]:=by unfold Txt.split;rw[if_neg (by rw[c1];decide),if_pos c2]
   exact aeM acw (aeL _ _ _) aeQ (aeJ _ _) (meets_str_split_not_found x y t u c1 hy c2) (fin [(x,t)] s.toks e.symm)
  | false=>
   have e:Txt.split x y=Builtin.Str.partsBetween x (Builtin.Str.occurrences x y 0 x.length (x.length+1)) y.length:=by unfold Txt.split;rw[if_neg (by rw[c1];decide),if_neg (by rw[c2];decide)]
   refine aeM acw (aeL _ _ _) aeQ (aeJ _ _) (meets_str_split_sep x y t u c1 hy c2 (line hx) (by rw[<-e];exact line hn)) ?_;rw[strsFrom_eq];exact fin (numbered s.toks _) _ ((numbered_texts _ _).trans e.symm)
noncomputable def NF:List D->Option U
 | [.int a]=>if a.natAbs < 10 ^ 30 then some (.t (.str (toString a))) else none
 | _=>none
def NG (h:NF ds=some u):∃a,ds=[.int a]/\a.natAbs < 10 ^ 30/\u= .t (.str (toString a)):=by
 unfold NF at h;split at h
 ·obtain⟨h3,rfl⟩:=b7 h;exact⟨_,rfl,h3,rfl⟩
 ·cases h
def HE:jK X (.type "str") (rP NF):=by
 intro pins s σ H xs us Q I r ⟨F,ds,w,sb,rs,hw,q⟩;obtain⟨a,rfl,ha,rfl⟩:=NG hw;obtain⟨t,rfl⟩:∃t,us=[.int a t]:=by
  cases rs with
  | cons r1 rs=>cases rs;cases r1;cases r with | cons a1 r=>cases r;obtain⟨t,rfl⟩:=a1;exact⟨t,rfl⟩
 have hl:a.natAbs.log2 < 1920:=by
  by_cases hz:a.natAbs=0
  ·rw[hz];decide
  ·exact(Nat.log2_lt hz).mpr (Nat.lt_trans ha (aau (show(10:Nat) ^ 30 < 2 ^ 100 by decide) (Nat.pow_le_pow_right (by decide) (by decide))))
 exact P.str_of_int hl ⟨.str _,H,I.tok _,⟨_,rfl⟩,q _ F H (iM.refl ..) sb (.str _)⟩
end
def uu (d1 d2:D) (u:U) (h:nu [d1,d2]=some u):∃z,d1= .str z:=by obtain⟨sep,l,zs,e,_⟩:=FO h;cases e;exact⟨_,rfl⟩
def zj (d1 d2:D) (u:U) (h:jO [d1,d2]=some u):∃z,d1= .str z:=by obtain⟨x,y,e,_⟩:=C7 h;cases e;exact⟨_,rfl⟩
noncomputable def Zb:GS:=fun _=>none
def NH {X:Cx}{st:Stmt}:JS X st Zb:=⟨fun B pins s σ H Q I ⟨_,_,_,_,hg,_⟩=>by cases hg⟩
end L2
end
section
namespace L2
open PySem PySem.Spec PyProof.Rows
variable {S S':SS}{kvs:List (Str×D)}{B:Base}{σ:St}{H:Hp}{u:U}{us:List U}{vs:List V}{pl:Sem Bool}
noncomputable def lH (C:Addr) (S:SS) (i:Nat):Option (List (Str×D)):=match S[i]? with
 | some (some (.m (.ins C' kvs)))=>if C'=C then some kvs else none
 | some (some (.b (.ins C' kvs)))=>if C'=C then some kvs else none
 | _=>none
def kq {C:Addr}{i:Nat}(h:lH C S i=some kvs):∃u,S[i]? =some (some u)/\iH u=true/\TM u=some (.ins C kvs):=by
 unfold lH at h;split at h
 ·rename_i C' kvs' e;obtain⟨hc,hk⟩:=fj h;subst hc;cases hk;exact⟨_,e,rfl,rfl⟩
 ·rename_i C' kvs' e;obtain⟨hc,hk⟩:=fj h;subst hc;cases hk;exact⟨_,e,rfl,rfl⟩
 ·cases h
theorem Bq {F:Hp}{f:Str}{d:D}:∀{ws:List (Str×V)}{kvs:List (Str×D)},Paired (fW F) ws kvs->kvs.lookup f=some d->∃v,ws.lookup f=some v/\Rep F v d
 | _,_,.nil,h=>by cases h
 | _,_,@Paired.cons _ _ _ (k,v) (k',d') ws kvs r rs,h=>by
  obtain⟨e,r⟩:=r;have e:k=k':=e;subst e;rw[adW] at h ⊢;split at h
  ·rename_i q;cases h;exact⟨v,rfl,r⟩
  ·rename_i q;exact Bq rs h
theorem uv {F:Hp}{f:Str}:∀{ws:List (Str×V)}{kvs:List (Str×D)},Paired (fW F) ws kvs->kvs.lookup f=none->ws.lookup f=none
 | _,_,.nil,h=>rfl
 | _,_,@Paired.cons _ _ _ (k,v) (k',d') ws kvs r rs,h=>by
  obtain⟨e,r⟩:=r;have e:k=k':=e;subst e;rw[adW] at h ⊢;split at h
  ·cases h
  ·rename_i q;exact uv rs h
noncomputable def lI (f:Str) (d:D):List (Str×D)->List (Str×D)
 | []=>[(f,d)]
 | (g,x) :: r=>if g=f then(g,d) :: r else(g,x) :: lI f d r
theorem C8 {F:Hp}{f:Str}{v:V}{d:D}(r:Rep F v d):∀{ws:List (Str×V)}{kvs:List (Str×D)},Paired (fW F) ws kvs->Paired (fW F) (pL f v ws) (lI f d kvs)
 | _,_,.nil=>.cons ⟨rfl,r⟩ .nil
 | _,_,@Paired.cons _ _ _ (k,v') (k',d') ws kvs q qs=>by
  obtain⟨e,q⟩:=q;have e:k=k':=e;subst e;unfold pL lI;split
  ·exact .cons ⟨rfl,r⟩ qs
  ·exact .cons ⟨rfl,q⟩ (C8 r qs)
def rH {K:AAD}{F:Hp}{C:Addr}{i:Nat}(R:Rel K B S σ F H) (hS:S[i]? =some (some u)) (hm:iH u=true) (hi:TM u=some (.ins C kvs)):∃a ws dx,σ[i]? =some (some (.ref a))/\H a=some (.ins C dx ws)/\Paired (fW F) ws kvs:=by
 obtain⟨v,e,r⟩:=R.rep i u hS;obtain⟨a,o,rfl,_,e2,h⟩:=r.eO hm;rw[hi] at e2;cases e2;obtain⟨ws,⟨dx,h1⟩,h2⟩:=h;exact⟨a,ws,dx,e,h1,h2⟩
def dP (C:Addr) (i:Nat) (f:Str):GD:=fun S=>(lH C S i).bind fun kvs=>(kvs.lookup f).map fun d=>(d,S)
def Br (C:Addr) (i:Nat) (f:Str) (g:GD):GS:=fun S=>(g S).bind fun p=>(lH C p.2 i).bind fun kvs=>if kvs.length < 900 then(yc p.2 i fun _=>some (.cM,.ins C (lI f p.1 kvs))).map fun z=>.nx z.2 else none
def oM (op:Int->Int->Int) (C:Addr) (i:Nat) (f:Str) (g:GD):GS:=fun S=>(lH C S i).bind fun Zd=>match Zd.lookup f with
 | some (.int n)=>(g S).bind fun p=>match p.1 with
  | .int m=>(lH C p.2 i).bind fun kvs=>if kvs.length < 900 then(yc p.2 i fun _=>some (.cM,.ins C (lI f (.int (op n m)) kvs))).map fun z=>.nx z.2 else none
  | _=>none
 | _=>none
noncomputable def z5 (i:Nat) (gu:GU):GU:=fun S=>(gu S).map fun p=>(.v i :: p.1,p.2)
def cK (C:Addr) (m:Str) (i:Nat) (f:FM) (gu:GU):GE:=fun S=>(lH C S i).bind fun kvs=>if kvs.lookup m=none then aZ f (z5 i gu) S else none
def yt (C:Addr) (f:FM) (gu:GU):GE:=fun S=>(gu S).bind fun p=>if slotsOf p.1=[]/\bE p.1=0 then(bh p.2 p.1).bind fun us=>(f (.b (.ins C []) :: us)).bind fun r=>match r with
 | (.t .cM,[o])=>some (.m o,p.2)
 | _=>none else none
section
variable {X:Cx}{C:Addr}{e value:Expr}{es:BBC}{gu:GU}{x y m:Str}{px p pos pos' apos tpos:Pos}{f:Str}{fm:FM}{fa:Addr}{fd:FuncData}{ps:BBB}{k n i:Nat}{g:GD}
def iT (i:Nat) (c:AF X.K C) (na:fX X.K C f) (hN:X.N[i]? =some x:=by rfl) (hv:xN X.env.scope x:=by first | exact Or.inl rfl | exact Or.inr (Or.inl rfl) | exact Or.inr (Or.inr rfl))
  (hd:BBT x:=by decide) (hcd:BBU x:=by decide) (hb:attributeBase (.Name x px) f X.env (eval (.Name x px) X.env)=eval (.Name x px) X.env:=by rfl):JD X (.Attribute (.Name x px) f pos) (dP C i f):=
 ⟨fun B=>(UT (eL hN hv hd hcd) hb).imp fun σ H Q hh=>by
 obtain⟨S,F,d,S',R,hg,q⟩:=hh;obtain⟨kvs,h1,hg⟩:=aj hg;obtain⟨d',h2,hg⟩:=aB hg;cases hg;obtain⟨u,hS,hm,hi⟩:=kq h1;obtain⟨a,ws,dx,e1,e2,e3⟩:=rH R hS hm hi;obtain⟨v,l1,r1⟩:=Bq e3 h2;exact⟨.ref a,e1,a,C,dx,ws,v,rfl,e2,c,na,l1,q v F H R (Step.refl ..) r1⟩⟩
def C9 {F:Hp}{dd:D}{d:D}{v:V}(R:Rel X.K B S σ F H) (h1:lH C S i=some kvs) (h3:yc S i (fun _=>some (.cM,.ins C (lI f d kvs)))=some (dd,S')) (rv:Rep F v d):
  ∃a ws dx,σ[i]? =some (some (.ref a))/\H a=some (.ins C dx ws)/\ws.length=kvs.length/\Rel X.K B S' σ F (upd H a (.ins C dx (pL f v ws)))/\Step S S' σ F H F (upd H a (.ins C dx (pL f v ws))):=by
 obtain⟨u0,Vn,hm0,hi0⟩:=kq h1;obtain⟨a,ws,dx,e1,e2,e3⟩:=rH R Vn hm0 hi0;obtain⟨u,u',o,o',hS,ET,hio,hf,PB,rfl⟩:=vf h3;cases hf;obtain⟨R3,st3⟩:=R.write (ho:=.ins C dx (pL f v ws)) hS PB e1 ⟨_,⟨dx,aY⟩,C8 rv e3⟩;exact⟨a,ws,dx,e1,e2,cR e3,R3,st3⟩
def D0 (i:Nat) (c:AF X.K C) (na:fX X.K C f) (hval:JD X value g) (hN:X.N[i]? =some x:=by rfl) (hv:xN X.env.scope x:=by first | exact Or.inl rfl | exact Or.inr (Or.inl rfl) | exact Or.inr (Or.inr rfl))
  (hd:BBT x:=by decide) (hcd:BBU x:=by decide) (hs:swapsWith value (some (.Attribute (.Name x px) f pos')) pos.line X.env=pure false:=by rfl):
  JS X (.Assign [.Attribute (.Name x px) f pos'] value pos) (Br C i f g):=⟨fun B=>(UU (eL hN hv hd hcd) (hval.h B) hs).imp fun D σ H hh=>by
 obtain⟨S,F,o,R,hg,q⟩:=hh;obtain⟨⟨d,S1⟩,h1,hg⟩:=aj hg;obtain⟨kvs,h2,hg⟩:=aj hg;obtain⟨hl,hg⟩:=fj hg;obtain⟨⟨dd,S2⟩,h3,hg⟩:=aB hg;subst hg;refine⟨S,F,d,S1,R,h1,fun v F1 H1 R1 st1 r1=>?_⟩;obtain⟨a,ws,dx,e1,e2,e3,R3,st3⟩:=C9 R1 h2 h3 r1;exact⟨.ref a,e1,a,C,dx,ws,rfl,e2,c,na,by rw[e3];lia,q σ F1 _ R3 st1.ext.le⟩⟩
def yu (i:Nat){op:Operator}{fo:Int->Int->Int}(c:AF X.K C) (na:fX X.K C f) (ho:US X op fun x y H Q=>∃i j,x= .int i/\y= .int j/\Q (.int (fo i j)) H) (hval:JD X value g) (hN:X.N[i]? =some x:=by rfl) (hv:xN X.env.scope x:=by first | exact Or.inl rfl | exact Or.inr (Or.inl rfl) | exact Or.inr (Or.inr rfl))
  (hd:BBT x:=by decide) (hcd:BBU x:=by decide):
  JS X (.AugAssign (.Attribute (.Name x px) f tpos) op value pos) (oM fo C i f g):=⟨fun B=>(KH (eL hN hv hd hcd) (hval.h B) ho).imp fun D σ H hh=>by
 obtain⟨S,F,o,R,hg,q⟩:=hh;obtain⟨Zd,h0,hg⟩:=aj hg;split at hg
 ·rename_i nn hn;obtain⟨⟨d,S1⟩,h1,hg⟩:=aj hg;dsimp only at hg;split at hg
  ·rename_i mm;obtain⟨kvs,h2,hg⟩:=aj hg;obtain⟨hl,hg⟩:=fj hg;obtain⟨⟨dd,S2⟩,h3,hg⟩:=aB hg;subst hg;obtain⟨u,hS,hm,hi⟩:=kq h0;obtain⟨a,ws,dx,e1,e2,e3⟩:=rH R hS hm hi;obtain⟨v0,l1,r1⟩:=Bq e3 hn;obtain rfl:=i8 r1;refine⟨.ref a,e1,a,C,dx,ws,.int nn,rfl,e2,c,na,l1,S,F,_,S1,R,h1,fun y F1 H1 R1 st1 r1=>⟨nn,mm,rfl,i8 r1,?_⟩⟩;obtain⟨a',ws',Xm,f1,f2,f3,R3,st3⟩:=C9 (v:=.int (fo nn mm)) R1 h2 h3 (.int _);rw[e1] at f1;cases f1;exact⟨Xm,ws',f2,by rw[f3];lia,q σ F1 _ R3 st1.ext.le⟩
  ·cases hg
 ·cases hg⟩
def Jo {S1:SS}{F0 F1 H1:Hp}{Q:VK}{u0:U}{a:Addr}(hS:S[i]? =some (some u0)) (hv:σ[i]? =some (some (.ref a))) (R1:Rel X.K B S1 σ F1 H1) (st1:Step S S1 σ F0 H F1 H1) (rr:Paired (fun v u=>jF X.K B S1 σ H F1 H1 v u) vs us) (hlen:vs.length+1=n)
  (hg:(if(slotsOf (U.v i :: us)).Nodup/\bE (U.v i :: us)<=1 then(bh S1 (.v i :: us)).bind fun ws=>(fm ws).bind fun r=>(wb (.v i :: us) r.2 S1).map fun S2=>(r.1,S2) else none)=some (u,S'))
  (q:∀v F' H',Rel X.K B S' σ F' H'->Step S S' σ F0 H F' H'->jF X.K B S' σ H F' H' v u->Q v H'):spT X.K n fm (.ref a :: vs) H1 Q E0:=by
 obtain⟨hc,hg⟩:=fj hg;obtain⟨ws,h2,hg⟩:=aj hg;obtain⟨⟨r,outs⟩,h3,hg⟩:=aj hg;obtain⟨S2,h4,hg⟩:=aB hg;cases hg;have NI:Paired (fun v u=>jF X.K B S1 σ H F1 H1 v u) (.ref a :: vs) (.v i :: us):=.cons ⟨hv,st1.slots i u0 hS⟩ rr;refine⟨by show vs.length+1=n;exact hlen,F1,ws,r,outs,R1.sub,rB R1 NI h2,dJ R1 NI h2 hc.1 hc.2,h3,fun v F2 H2 po rn=>?_⟩;obtain⟨R2,st2,mu⟩:=kj R1 st1 NI h2 h4 hc.1 po;refine q v F2 H2 R2 st2 ?_;cases r with
 | t d=>exact rn
 | b o=>cases rn
 | v i=>cases rn
 | s i=>cases rn
 | f i=>cases rn
 | x cx kx=>cases rn
 | m o=>
  obtain⟨a2,e,h0,f,h⟩:=rn;refine⟨a2,e,none_of st1.ext.there h0,f,h,fun m=>?_,none_of R1.ext.there h0⟩;obtain⟨o',ho⟩:=R1.has (mu a2 m);rw[h0] at ho;cases ho
def Q7 (i:Nat) (c:AF X.K C) (hm:Meth X.K C m fa) (F:gQ X.prog X.w X.K X.mg X.base xV k fa fd ps (spT X.K n fm)) (hr:dM k X.A) (hb:Binds X.K fd ps []) (ha:JU X (e :: es) gu) (hn:(e :: es).length+1=n:=by rfl)
  (hN:X.N[i]? =some x:=by rfl) (hv:xN X.env.scope x:=by first | exact Or.inl rfl | exact Or.inr (Or.inl rfl) | exact Or.inr (Or.inr rfl)) (hd:BBT x:=by decide) (hcd:BBU x:=by decide)
  (hst:starEach (e :: es) X.env=(false,eval e X.env) :: starEach es X.env:=by rfl) (hpl:(backTo pos (starEach es X.env)).any (·.1)=false:=by rfl)
  (ht:eval (.Call (.Attribute (.Name x px) m apos) (e :: es) [] pos) X.env=(do
   let ov <-eval (.Name x px) X.env
   standAt apos.atName
   let(f,first) <-holding [ov] (getMethod ov m pl)
   callWith pos f first (backTo pos (starEach (e :: es) X.env)) (backToKw pos (keywordEach [] X.env))):=by rfl):
  JE X (.Call (.Attribute (.Name x px) m apos) (e :: es) [] pos) (cK C m i fm gu):=⟨fun B=>(Qd (pl:=pl) (eL hN hv hd hcd) c hm F hr hb .nil Fc (ha.h B) hst hpl ht).imp fun σ H Q hh=>by
 obtain⟨S,F0,u,S',R,hg,q⟩:=hh;obtain⟨kvs,h0,hg⟩:=aj hg;obtain⟨hl,hg⟩:=fj hg;obtain⟨⟨us',S1⟩,h1,hg⟩:=aj hg;obtain⟨⟨us,S1'⟩,Ze,hq⟩:=aB h1;cases hq;obtain⟨u0,hS,ET,hi⟩:=kq h0;obtain⟨a,ws,dx,e1,e2,e3⟩:=rH R hS ET hi;refine⟨.ref a,e1,a,dx,ws,rfl,e2,uv e3 hl,S,F0,us,S1',R,Ze,fun vs F1 H1 R1 st1 rr=>?_⟩;show spT X.K n fm (.ref a :: (vs++[])) H1 Q E0;rw[abU];exact Jo hS e1 R1 st1 rr (by rw[rr.length,ha.len _ _ _ Ze];exact hn) hg q⟩
def NJ (i:Nat) (c:AF X.K C) (hm:Meth X.K C m fa) (F:gQ X.prog X.w X.K X.mg X.base xV k fa fd ps (spT X.K 1 fm)) (hr:dM k X.A) (hb:Binds X.K fd ps [])
  (hN:X.N[i]? =some x:=by rfl) (hv:xN X.env.scope x:=by first | exact Or.inl rfl | exact Or.inr (Or.inl rfl) | exact Or.inr (Or.inr rfl)) (hd:BBT x:=by decide) (hcd:BBU x:=by decide)
  (ht:eval (.Call (.Attribute (.Name x px) m apos) [] [] pos) X.env=(do
   let ov <-eval (.Name x px) X.env
   standAt apos.atName
   let(f,first) <-holding [ov] (getMethod ov m pl)
   callWith pos f first (backTo pos (starEach [] X.env)) (backToKw pos (keywordEach [] X.env))):=by rfl):
  JE X (.Call (.Attribute (.Name x px) m apos) [] [] pos) (cK C m i fm aE):=⟨fun B=>(ME (pl:=pl) (eL hN hv hd hcd) c hm F hr hb .nil Fc ht).imp fun σ H Q hh=>by
 obtain⟨S,F0,u,S',R,hg,q⟩:=hh;obtain⟨kvs,h0,hg⟩:=aj hg;obtain⟨hl,hg⟩:=fj hg;obtain⟨⟨us',S1⟩,h1,hg⟩:=aj hg;cases h1;obtain⟨u0,hS,ET,hi⟩:=kq h0;obtain⟨a,ws,dx,e1,e2,e3⟩:=rH R hS ET hi;refine⟨.ref a,e1,a,dx,ws,rfl,e2,uv e3 hl,?_⟩;exact Jo (S:=S) (F0:=F0) (H:=H) (vs:=[]) (us:=[]) hS e1 R (Step.refl ..) .nil rfl hg q⟩
theorem qI {B:Base}{S:SS}{σ:St}{H0 F H H':Hp}(k:∀b o,H b=some o->H' b=some o):∀{vs:List V}{us:List U},slotsOf us=[]->bE us=0->Paired (fun v u=>jF X.K B S σ H0 F H v u) vs us->Paired (fun v u=>jF X.K B S σ H0 F H' v u) vs us
 | [],[],_,_,_=>.nil
 | [],_ :: _,_,_,z=>by cases z
 | _ :: _,[],_,_,z=>by cases z
 | v :: vs,u :: us,h1,h2,z=>by
  obtain⟨r,rs⟩:jF X.K B S σ H0 F H v u/\Paired (fun v u=>jF X.K B S σ H0 F H v u) vs us:=by cases z with | cons r rs=>exact⟨r,rs⟩
  cases u with
  | t d=>exact .cons r (qI k h1 h2 rs)
  | m o=>exact absurd h2 (Nat.succ_ne_zero _)
  | b o=>cases r
  | v j=>cases h1
  | s ns=>
   refine .cons ?_ (qI k h1 h2 rs);obtain⟨a,e,z⟩:=r;refine⟨a,e,?_⟩;rcases z with⟨o,z⟩ | z
   ·exact .inl ⟨o,k _ _ z⟩
   ·exact .inr z
  | f a=>exact .cons r (qI k h1 h2 rs)
  | x cx kx=>exact .cons r (qI k h1 h2 rs)
theorem uw {S:SS}:∀{us ws:List U},slotsOf us=[]->bE us=0->bh S us=some ws->wb us [] S=some S
 | [],_,_,_,_=>rfl
 | u :: us,ws,h1,h2,h3=>by
  obtain⟨w,e1,h3⟩:=aj h3;obtain⟨ws',e2,h3⟩:=aB h3;cases u with
  | t d=>exact uw (us:=us) h1 h2 e2
  | m o=>exact absurd h2 (Nat.succ_ne_zero _)
  | b o=>cases e1
  | v j=>cases h1
  | s ns=>exact uw (us:=us) h1 h2 e2
  | f a=>exact uw (us:=us) h1 h2 e2
  | x cx kx=>exact uw (us:=us) h1 h2 e2
def Q8 {S1:SS}{F0 F1 H1:Hp}{Q:VK}{ws:List U}{o:MO}{xa dx:Addr}(R1:Rel X.K B S1 σ F1 H1) (st1:Step S S1 σ F0 H F1 H1) (rr:Paired (fun v u=>jF X.K B S1 σ H F1 H1 v u) vs us) (hlen:vs.length+1=n) (hc:slotsOf us=[]/\bE us=0) (h2:bh S1 us=some ws)
  (h3:fm (.b (.ins C []) :: ws)=some (.t .cM,[o])) (hx:H1 xa=none) (hdx:H1 dx=none) (ne:dx≠xa)
  (q:∀v F' H',Rel X.K B S1 σ F' H'->Step S S1 σ F0 H F' H'->jF X.K B S1 σ H F' H' v (.m o)->Q v H'):spT X.K n fm (.ref xa :: vs) (upd (upd H1 dx (.own xa)) xa (.ins C dx [])) (fun v H2=>v= .cM/\Q (.ref xa) H2) E0:=by
 have n1:iM F1 H1 F1 (upd H1 dx (.own xa)):=iM.obj hdx _;have hx':(upd H1 dx (.own xa)) xa=none:=by rw[aX (acz ne)];exact hx
 have n12:=n1.trans (iM.obj hx' (.ins C dx []));have R1':=R1.new n12 (R1.sub.same n12.same);have acT:=st1.trans (n12.step (S:=S1) (σ:=σ));have nm:¬eO S1 σ xa:=fun m=>by
  obtain⟨o',ho⟩:=R1.has m;rw[hx] at ho;cases ho
 have NI:Paired (fun v u=>jF X.K B S1 σ H F1 (upd (upd H1 dx (.own xa)) xa (.ins C dx [])) v u) (.ref xa :: vs) (.m (.ins C []) :: us):=
  .cons ⟨xa,rfl,none_of st1.ext.there hx,R1.sub.fresh hx,⟨[],⟨dx,aY⟩,.nil⟩,nm,none_of R1.ext.there hx⟩ (qI n12.same hc.1 hc.2 rr)
 have hr':bh S1 (.m (.ins C []) :: us)=some (.b (.ins C []) :: ws):=by
  show(some (U.b (.ins C []))).bind (fun w=>(bh S1 us).map fun ws=>w :: ws)=_;rw[h2];rfl
 have nd:(slotsOf (U.m (.ins C []) :: us)).Nodup:=by
  show(slotsOf us).Nodup;rw[hc.1];exact aew
 refine⟨hlen,F1,_,_,_,R1'.sub,rB R1' NI hr',dJ R1' NI hr' nd (by show bE us+1<=1;lia),h3,fun v F2 H2 po rn=>?_⟩;obtain⟨R2,st2,mu⟩:=kj R1' acT NI hr' (show wb (.m (.ins C []) :: us) [o] S1=some S1 from uw hc.1 hc.2 h2) nd po;refine⟨QA rn,q (.ref xa) F2 H2 R2 st2 ?_⟩;have out:=po.out;cases out with
 | cons z zs=>exact⟨xa,rfl,none_of st1.ext.there hx,z.1,z.2,nm,none_of R1.ext.there hx⟩
def Le (h:yt C fm gu S=some (u,S')):∃us ws o,gu S=some (us,S')/\(slotsOf us=[]/\bE us=0)/\bh S' us=some ws/\fm (.b (.ins C []) :: ws)=some (.t .cM,[o])/\u= .m o:=by
 obtain⟨⟨us,S1⟩,h1,h⟩:=aj h;obtain⟨hc,h⟩:=fj h;obtain⟨ws,h2,h⟩:=aj h;obtain⟨r,h3,h⟩:=aj h;dsimp only at h;split at h
 ·cases h;exact⟨us,ws,_,h1,hc,h2,h3,rfl⟩
 ·cases h
def Q9 (M:Mk X.K C fa) (F:gQ X.prog X.w X.K X.mg X.base xV k fa fd ps (spT X.K n fm)) (hr:dM (k+1) X.A) (hg:Gl X x) (hm:X.mg x=some (.ref C)) (hb:Binds X.K fd ps []) (ha:JU X (e :: es) gu) (hn:(e :: es).length+1=n:=by rfl)
  (hdb:BBT x:=by decide) (he:starEach (e :: es) X.env=(false,eval e X.env) :: starEach es X.env:=by rfl) (hpl:(backTo pos (starEach es X.env)).any (·.1)=false:=by rfl):
  JE X (.Call (.Name x p) (e :: es) [] pos) (yt C fm gu):=⟨fun B=>(Qe M F hr hg hm hb .nil Fc (ha.h B) hdb he hpl).imp fun σ H Q hh=>by
 obtain⟨S,F0,u,S',R,hg,q⟩:=hh;obtain⟨us,ws,o,h1,hc,h2,h3,hu⟩:=Le hg;subst hu;refine⟨S,F0,us,S',R,h1,fun vs F1 H1 R1 st1 rr=>fun xa dx hx hdx ne=>?_⟩;show spT X.K n fm (.ref xa :: (vs++[])) _ _ E0;rw[abU];exact Q8 R1 st1 rr (by rw[rr.length,ha.len _ _ _ h1];exact hn) hc h2 h3 hx hdx ne q⟩
end
end L2
end
section
namespace L2
open PySem PySem.Spec PyProof.Rows PySem.Calls
noncomputable def Bs:List D->Option U
 | [.int a]=>if a.natAbs < 10 ^ 30 then some (.t (.str (toString a))) else none
 | [.str z]=>some (.t (.str z))
 | _=>none
section
variable {X:Cx}
def wK:jK X (.type "str") (rP Bs):=by
 intro pins s σ H xs us Q I r ⟨F,ds,w,sb,rs,hw,q⟩;unfold Bs at hw;split at hw
 ·rename_i a;exact HE pins s σ H xs us Q I r ⟨F,_,w,sb,rs,hw,q⟩
 ·rename_i z;cases hw;obtain⟨t,rfl⟩:∃t,us=[.str z t]:=by
   cases rs with
   | cons r1 rs=>cases rs;cases r1;cases r with | cons a1 r=>cases r;obtain⟨t,rfl⟩:=a1;exact⟨t,rfl⟩
  exact P.str_of_str ⟨.str _,H,I,⟨_,rfl⟩,q _ F H (iM.refl ..) sb (.str _)⟩
 ·cases hw
end
def Bt (kvs:AAJ) (g gd:GD):GD:=fun S=>(g S).bind fun p=>(gd p.2).bind fun q=>match p.1 with
 | .str z=>some ((match cG kvs z with | some i=>.int i | none=>q.1),q.2)
 | _=>none
section
variable {X:Cx}{e f:Expr}{x:Str}{px apos cpos:Pos}{ty tx:TE}{g gd:GD}{a:Addr}{kvs:AAJ}
def HF (hg:Gl X x) (hm:X.mg x=some (.ref a)) (hk:KTab X.prog X.w X.K a kvs) (he:PE X e ty) (hf:PE X f tx) (m:M2 X (.Name x px) "get" apos e f cpos) (hd:BBT x):
  PE X (.Call (.Attribute (.Name x px) "get" apos) [e,f] [] cpos) (fun σ H Q=>ty σ H fun y H1=>tx σ H1 fun y2 H2=>∃z,y= .str z/\Q (match cG kvs z with | some i=>V.int i | none=>y2) H2):=by
 intro pins s σ H Q I h;refine aeR m.base m.few m.line aeN aev PySem.F.type_dict_get (dN (pO (v:=.ref a) hg hm rfl hd pins s σ H (fun v H1=>v= .ref a/\H1=H) I ⟨rfl,rfl⟩) fun u s1 hh=>?_);obtain⟨x',H1,I1,rx,ex,eH⟩:=hh;subst ex eH;obtain rfl:u=Value.ref a:=rx;obtain⟨fm,m1,m2⟩:=hk.map I1;refine⟨m1.typeIs,fun b hb=>?_,?_⟩
 ·cases hb;obtain⟨ob,_,_,h1,h2,_⟩:=m1;exact⟨ob,h1,h2.2.1⟩
 rw[m.trees];refine adF rfl (adP (abA (dN (he pins s1 σ _ _ I1 h) fun iv s2 ⟨y,H2,I2,ry,q2⟩=>
  abA (dN (hf pins s2 σ H2 _ I2 q2) fun fv s3 ⟨y2,H3,I3,ry2,z,ey,q3⟩=>aen ?_))))
 subst ey;obtain⟨fm3,k1,k2⟩:=hk.map I3;refine call_meetsIn aev k1.typeIs PySem.F.entry_dict_get (afW _ _ _) (meets_dict_get_default (k:=.inr z) (dZ X.prog X.w) a (E4 (k:=.inr z) ry) hk.1 fv) ⟨fm3,k1,(match cG kvs z with | some i=>V.int i | none=>y2),H3,I3.tok _,?_,q3⟩;have r:=k2 z;cases el:cG kvs z with
 | none=>rw[el] at r;rw[show fm3 (.inr z)=none from r];exact ry2
 | some i=>rw[el] at r;obtain⟨t,r⟩:=r;rw[r];exact⟨t,rfl⟩
def HG (hg:Gl X x) (hm:X.mg x=some (.ref a)) (hk:KTab X.prog X.w X.K a kvs) (he:JD X e g) (hf:JD X f gd) (hb:attributeBase (.Name x px) "get" X.env (eval (.Name x px) X.env)=eval (.Name x px) X.env:=by rfl)
  (hfew:((backTo cpos (starEach [e,f] X.env)).all (fun x=>!x.1) && (backToKw cpos (keywordEach [] X.env)).all (fun x=>x.1.isSome) && decide (([e,f]:BBC).length+([]:BBI).length+(if([]:BBI).isEmpty then 0 else 1) < 30))=true:=by rfl)
  (hline:(apos.endLine == cpos.line)=true:=by rfl) (htr:backTo cpos (starEach [e,f] X.env)=[(false,eval e X.env),(false,eval f X.env)]:=by rfl) (hd:BBT x:=by decide):
  JD X (.Call (.Attribute (.Name x px) "get" apos) [e,f] [] cpos) (Bt kvs g gd):=
 ⟨fun B=>(HF hg hm hk (he.h B) (hf.h B) ⟨hb,hfew,hline,htr⟩ hd).imp fun σ H Q hh=>by
  obtain⟨S,F,d,S',R,hg',q⟩:=hh;obtain⟨⟨d1,S1⟩,h1,hg'⟩:=aj hg';obtain⟨⟨d2,S2⟩,h2,hg2⟩:=aj hg';clear hg';cases d1 <;> try (cases hg2)
  rename_i z;exact⟨S,F,.str z,_,R,h1,fun v F1 H1 R1 st1 r1=>by cases r1;exact⟨_,F1,d2,_,R1,h2,fun v2 F2 H2 R2 st2 r2=>⟨z,rfl,q _ F2 H2 R2 (st1.trans st2) (by cases cG kvs z with | none=>exact r2 | some i=>exact .int i)⟩⟩⟩⟩
end
end L2
end
section
namespace L2
open PySem PySem.Spec PyProof.Rows
def Zf:List D->Option U
 | [.lst ds]=>(vZ ds).bind fun ns=>if ns.length<=1000 then some (.t (.int (firstMet (fun i=>ns.getD i 0) ns.length).length)) else none
 | _=>none
def yw:List D->Option U
 | [d,.cM]=>some (.t (.bl (!FG d)))
 | _=>none
def HH {X:Cx}:B5 X (compareOp .IsNot) yw:=by
 intro pins s σ H x y v u Q I rx ry ⟨F,ds,w,sb,rs,hw,q⟩;obtain⟨d,e,rfl,r1,r2⟩:=xY rs;cases e <;> try (cases d <;> cases hw;done)
 cases hw;cases r2;refine IM pins s σ H _ _ v u Q I rx ry ⟨rfl,?_⟩;have k:Rep F (V.bl (!decide (x= .cM))) (.bl (!FG d)):=by
  cases r1 <;> exact .bl _
 exact q _ F H (iM.refl ..) sb k
@[simp] theorem Xq (d:D):yw [d,.cM]=AAA (.bl (!FG d)):=rfl
structure NB (B B':Base) (N:BBE):Prop where
 p:B'.P=B.P
 f:B'.F=B.F
 out:∀c,c∉N->B'.H c=B.H c
 new:∀c,c∈N->B.H c=none/\¬B.M c/\B.F c=none
abbrev GN:=Addr->SS->List (List D)->Option (SS×List (List D))
end L2
end
section
namespace L2
open PySem PySem.Spec PyProof.Rows PySem.Calls
end L2
end
section
namespace L2
open PySem PySem.Spec PyProof.Rows PySem.Calls PyProof.V
end L2
end
section
namespace L2
open PySem PySem.Spec PyProof.Rows
section
variable (S:SS)(d e:D)(o:MO)(i j:Nat)(g ga gb gc:GD)(ge:GE)(q q1 q2:GT)(gA:GA)(gu:GU)(a b:GS)(f f':List D->Option U)(fm:FM)(bd:GB)(gi:GI)
@[simp] theorem acU:ao i S=match S[i]? with | some (some (.t d))=>some (.t d,S) | some (some (.s d))=>some (.s d,S) | some (some (.f d))=>some (.f d,S) | some (some (.x C k))=>some (.x C k,S) | some (some _)=>some (.v i,S) | _=>none:=rfl
@[simp] theorem ago:eC d S=some (d,S):=rfl
@[simp] theorem acV:aq S=some ([],S):=rfl
@[simp] theorem aaH:aa g gA S=(g S).bind fun p=>(gA p.2).map fun q=>(p.1 :: q.1,q.2):=rfl
@[simp] theorem agp:eP f gA S=(gA S).bind fun p=>(f p.1).map fun u=>(u,p.2):=rfl
@[simp] theorem agq:eF ge S=(ge S).bind fun p=>fz p.1 p.2:=rfl
@[simp] theorem agr:eT g S=(g S).map fun p=>(.t p.1,p.2):=rfl
@[simp] theorem acW:fz (.t d) S=some (d,S):=rfl
@[simp] theorem acX (ds:List D):fz (.m (.lst ds)) S=some (.lst ds,S):=rfl
@[simp] theorem acY:fz (.v i) S=match S[i]? with | some (some (.t d))=>some (d,S) | some (some (.m (.lst ds)))=>some (.lst ds,S.set i (some (.t (.lst ds)))) | _=>none:=rfl
@[simp] theorem ags:qB g S=(g S).bind fun p=>match p.1 with | .bl k=>some (k,p.2) | _=>none:=rfl
@[simp] theorem acZ:vM q S=(q S).map fun p=>(!p.1,p.2):=rfl
@[simp] theorem ac0:iI q1 q2 S=(q1 S).bind fun p=>if p.1 then q2 p.2 else some (false,p.2):=rfl
@[simp] theorem ae2:Fj q1 q2 S=(q1 S).bind fun p=>if p.1 then some (true,p.2) else q2 p.2:=rfl
@[simp] theorem agt:eQ q S=(q S).map fun p=>(.bl p.1,p.2):=rfl
@[simp] theorem aaI:kP S=some (true,S):=rfl
@[simp] theorem ae3:eCh f f' ga gb gc S=(ga S).bind fun p=>(gb p.2).bind fun q=>match f [p.1,q.1] with
 | some (.t (.bl k))=>if k then(gc q.2).bind fun r=>match f' [q.1,r.1] with
   | some (.t (.bl k'))=>some (.bl k',r.2)
   | _=>none
  else some (.bl false,q.2)
 | _=>none:=rfl
@[simp] theorem ae4 (g1 g2:GE):eIf q g1 g2 S=(q S).bind fun p=>if p.1 then g1 p.2 else g2 p.2:=rfl
@[simp] theorem ac1:cW S=some (.nx S):=rfl
@[simp] theorem HJ:aO a b S=(a S).bind fun o=>match o with | .nx S1=>b S1 | o=>some o:=rfl
@[simp] theorem ac2:bR i ge S=(ge S).bind fun p=>match p.1 with | .m o=>(sY i (.m o) p.2).map .nx | u=>(fz u p.2).bind fun q=>(sY i (.t q.1) q.2).map .nx:=rfl
@[simp] theorem kr (u:U):sY i u S=match S[i]? with | some (some (.b _))=>none | some _=>some (S.set i (some u)) | none=>none:=rfl
@[simp] theorem aaJ:mH ge S=(ge S).map fun p=>.nx p.2:=rfl
@[simp] theorem ac3:cz ge S=(ge S).bind fun p=>match p.1 with
 | .v i=>match p.2[i]? with
  | some (some (.t d))=>some (.rt (.t d) p.2)
  | some (some (.m o))=>some (.rt (.m o) (p.2.set i none))
  | _=>none
 | .s _=>none
 | .f _=>none
 | .x _ _=>none
 | u=>some (.rt u p.2):=rfl
@[simp] theorem ae5:ji q a b S=(q S).bind fun p=>if p.1 then a p.2 else b p.2:=rfl
@[simp] theorem ac4:QH bd g S=(g S).bind fun p=>(bd p.1 p.2).map .nx:=rfl
@[simp] theorem aaK:bName i d S=sY i (.t d) S:=rfl
@[simp] theorem wL:uc bd gi a S=(gi S).bind fun p=>loop bd a p.1 p.2:=rfl
@[simp] theorem D3:ya gA S=(gA S).bind fun p=>match p.1 with | [.int j]=>if j < 1000000/\-1000000 < j then some (B6 0 j.toNat,p.2) else none | _=>none:=rfl
@[simp] theorem Vu:loop bd a [] S=some (.nx S):=rfl
@[simp] theorem ac5:aE S=some ([],S):=rfl
@[simp] theorem ac6:aH g gu S=(g S).bind fun p=>(gu p.2).map fun q=>(.t p.1 :: q.1,q.2):=rfl
@[simp] theorem ac7:eU ge gu S=(ge S).bind fun p=>(gu p.2).map fun q=>(p.1 :: q.1,q.2):=rfl
@[simp] theorem aaL:aZ fm gu S=(gu S).bind fun p=>if(slotsOf p.1).Nodup/\bE p.1<=1 then(bh p.2 p.1).bind fun us=>(fm us).bind fun r=>(wb p.1 r.2 p.2).map fun S2=>(r.1,S2) else none:=rfl
@[simp] theorem Xr:bh S []=some []:=rfl
@[simp] theorem Vv (u:U) (us:List U):bh S (u :: us)=(resolve S u).bind fun w=>(bh S us).map fun ws=>w :: ws:=rfl
@[simp] theorem aaM:resolve S (.t d)=AAA d:=rfl
@[simp] theorem aaN:resolve S (.m o)=some (.b o):=rfl
@[simp] theorem aaO (ns:BBD):resolve S (.s ns)=some (.s ns):=rfl
@[simp] theorem aaP:resolve S (.v i)=match S[i]? with | some (some (.m o))=>some (.b o) | some (some (.b o))=>some (.b o) | _=>none:=rfl
@[simp] theorem Zg:slotsOf []=[]:=rfl
@[simp] theorem ac8 (us:List U):slotsOf (.t d :: us)=slotsOf us:=rfl
@[simp] theorem ac9 (us:List U):slotsOf (.m o :: us)=slotsOf us:=rfl
@[simp] theorem ada (ns:BBD) (us:List U):slotsOf (.s ns :: us)=slotsOf us:=rfl
@[simp] theorem adb (us:List U):slotsOf (.v i :: us)=i :: slotsOf us:=rfl
@[simp] theorem Zh:bE []=0:=rfl
@[simp] theorem ade (us:List U):bE (.t d :: us)=bE us:=rfl
@[simp] theorem adf (us:List U):bE (.m o :: us)=bE us+1:=rfl
@[simp] theorem adg (ns:BBD) (us:List U):bE (.s ns :: us)=bE us:=rfl
@[simp] theorem adh (us:List U):bE (.v i :: us)=bE us:=rfl
@[simp] theorem Zi:wb [] [] S=some S:=rfl
@[simp] theorem adi (us:List U) (os:List MO):wb (.t d :: us) os S=wb us os S:=by cases os <;> rfl
@[simp] theorem adk (ns:BBD) (us:List U) (os:List MO):wb (.s ns :: us) os S=wb us os S:=by cases os <;> rfl
@[simp] theorem adl (us:List U) (os:List MO):wb (.m o :: us) (o' :: os) S=wb us os S:=rfl
@[simp] theorem adm (us:List U) (os:List MO):wb (.v i :: us) (o :: os) S=match S[i]? with | some (some (.m _))=>wb us os (S.set i (some (.m o))) | some (some (.b _))=>wb us os (S.set i (some (.b o))) | _=>none:=rfl
@[simp] theorem adn:d8 i gb S=match S[i]? with | some (some _)=>(gb S).bind fun p=>(match p.2[i]? with | some (some u)=>(pP u p.1).map fun d=>(d,p.2) | _=>none) | _=>none:=rfl
@[simp] theorem ado:oH i S=match S[i]? with | some (some u)=>(DW u).map fun n=>(.int (n:Nat),S) | _=>none:=rfl
@[simp] theorem agu (h:List D->MO->Option (D×MO)):eM i h gA S=if Vh S i then(gA S).bind fun p=>yc p.2 i (h p.1) else none:=rfl
@[simp] theorem adp (gk gv:GD):zc i gk gv S=(gv S).bind fun p=>match p.2[i]? with | some (some _)=>(gk p.2).bind fun r=>(yc r.2 i fun o=>(rE o r.1 p.1).map fun o'=>(.cM,o')).map fun z=>.nx z.2 | _=>none:=rfl
@[simp] theorem ae6 (Ts:List String):PD Ts g S=(g S).bind fun p=>(kK Ts p.1).map fun b=>(.bl b,p.2):=rfl
@[simp] theorem Vw (ds:List D) (k:Int):pP (.t (.tup ds)) (.int k)=jh ds k:=rfl
@[simp] theorem Vx (ds:List D) (k:Int):pP (.t (.lst ds)) (.int k)=jh ds k:=rfl
@[simp] theorem Vy (ds:List D) (k:Int):pP (.m (.lst ds)) (.int k)=jh ds k:=rfl
@[simp] theorem Vz (ds:List D) (k:Int):pP (.b (.lst ds)) (.int k)=jh ds k:=rfl
@[simp] theorem VA (kvs:List (Key×D)) (k:D):pP (.b (.dct kvs)) k=(keyOf k).bind (dz kvs):=by cases k <;> rfl
@[simp] theorem Xs (ns:BBD) (k:Int):pP (.s ns) (.int k)=(jh ns k).map D.int:=rfl
@[simp] theorem aaQ (k:Int):keyOf (.int k)=some (.inl k):=rfl
@[simp] theorem aaR (k:Str):keyOf (.str k)=some (.inr k):=rfl
@[simp] theorem Xu (ds:List D):DW (.t (.tup ds))=some ds.length:=rfl
@[simp] theorem Xv (ds:List D):DW (.t (.lst ds))=some ds.length:=rfl
@[simp] theorem Xw (ds:List D):DW (.m (.lst ds))=some ds.length:=rfl
@[simp] theorem Xx (ds:List D):DW (.b (.lst ds))=some ds.length:=rfl
@[simp] theorem Zj (ns:BBD):DW (.s ns)=some ns.length:=rfl
@[simp] theorem ae7 (C:Int->Int->Bool) (h:Int->Int->D) (x y:Int):M6 C h [.int x,.int y]=if C x y then AAA (h x y) else none:=rfl
@[simp] theorem Zk (x y:Int):cE [.int x,.int y]=AAC (x+y):=rfl
@[simp] theorem Zl (x y:Str):cE [.str x,.str y]=if x.length+y.length<=100000 then AAA (.str (x++y)) else none:=rfl
@[simp] theorem Zm (x y:List D):cE [.tup x,.tup y]=if x.length+y.length<=100000 then AAA (.tup (x++y)) else none:=rfl
@[simp] theorem fP (x y:List D):cE [.lst x,.lst y]=if x.length+y.length<=100000 then AAB (x++y) else none:=rfl
@[simp] theorem adq (x y:Int):Hs [.int x,.int y]=if((decide (-(2 ^ 64) < x) && decide (x < 2 ^ 64)) || (decide (-(2 ^ 64) < y) && decide (y < 2 ^ 64))) then AAC (x * y) else none:=rfl
@[simp] theorem ads (x:Int):M7 [.int x]=AAC (-x):=rfl
@[simp] theorem adt (ds:List D):cT ds=if ds.length<=100000 then AAA (.tup ds) else none:=rfl
@[simp] theorem adu (ds:List D):c8 ds=if ds.length<=100000 then AAB ds else none:=rfl
@[simp] theorem aaS (ds:List D) (k:Int):Ht [.tup ds,.int k]=(jh ds k).map .t:=rfl
@[simp] theorem Rb (ds:List D) (k:Int):Ht [.lst ds,.int k]=(jh ds k).map .t:=rfl
@[simp] theorem ae8:pK [d,e]=if ig d<=40 then AAA (.bl (qy d e)) else none:=rfl
@[simp] theorem NK:QO [d,e]=if ig d<=40 then AAA (.bl (!qy d e)) else none:=rfl
@[simp] theorem aaT (x y z:Int):YW [.int x,.int y,.int z]=AAC (if y < x then(if z < y then z else y) else if z < x then z else x):=rfl
@[simp] theorem aaU (x y:Int):Jj [.int x,.int y]=AAC (if y > x then y else x):=rfl
@[simp] theorem Zn (ds:List D):wA [.tup ds]=AAC ds.length:=rfl
@[simp] theorem Zo (ds:List D):wA [.lst ds]=AAC ds.length:=rfl
@[simp] theorem adv (ds:List D):Vk [.lst ds]=(ug ds).map fun bs=>.t (.bl (bs.all id)):=rfl
@[simp] theorem aaV (x y:Str):qy (.str x) (.str y)=(x == y):=by kernel_rfl
@[simp] theorem AK (x y:Int):qy (.int x) (.int y)=(x == y):=by kernel_rfl
@[simp] theorem aaW (x:Str):ig (.str x)=0:=by kernel_rfl
@[simp] theorem aaX (x:Int):ig (.int x)=0:=by kernel_rfl
@[simp] theorem adw (h:MO->Option (D×MO)):yc S i h=match S[i]? with | some (some (.m o))=>(h o).map fun r=>(r.1,S.set i (some (.m r.2))) | some (some (.b o))=>(h o).map fun r=>(r.1,S.set i (some (.b r.2))) | _=>none:=rfl
@[simp] theorem ae9:Vh S i=match S[i]? with | some (some (.m (.lst _)))=>true | some (some (.b (.lst _)))=>true | _=>false:=rfl
@[simp] theorem Xy (kvs:List (Key×D)) (k:D):rE (.dct kvs) k d=(keyOf k).bind fun kk=>if kvs.length < 100000 then some (.dct (putD kvs kk d)) else none:=rfl
@[simp] theorem Lf (ds:List D) (k:Int):rE (.lst ds) (.int k) d=(G6 ds.length k).map fun j=>.lst (ds.set j d):=rfl
@[simp] theorem Zp (ds:List D):hAppend [d] (.lst ds)=if ds.length < 100000 then some (.cM,.lst (ds++[d])) else none:=rfl
@[simp] theorem Xz:aG [] S=some []:=by cases S <;> rfl
@[simp] theorem aaY (us:List U) (o2:MO):aG (.b o2 :: us) (some (.b o) :: S)=(aG us S).map fun os=>o :: os:=rfl
@[simp] theorem Jp (us:List U) (x:Option U):aG (.t d :: us) (x :: S)=aG us S:=by cases x <;> rfl
@[simp] theorem aaZ (ns:BBD) (us:List U) (x:Option U):aG (.s ns :: us) (x :: S)=aG us S:=by cases x <;> rfl
end
structure ir where
 c:Int
 l:Int
 n:Int
noncomputable def bK (t:ir):List (Key×D):=[(.inr "cell",.int t.c),(.inr "left",.int t.l),(.inr "turn",.int t.n)]
noncomputable def D4:List (Key×D)->Option ir
 | [(k1,.int c),(k2,.int l),(k3,.int n)]=>if k1= .inr "cell"/\k2= .inr "left"/\k3= .inr "turn" then some ⟨c,l,n⟩ else none
 | _=>none
@[simp] theorem VB (t:ir):D4 (bK t)=some t:=by kernel_rfl
def FP {kvs:List (Key×D)}{t:ir}(h:D4 kvs=some t):kvs=bK t:=by
 unfold D4 at h;split at h
 ·obtain⟨⟨rfl,rfl,rfl⟩,rfl⟩:=b7 h;rfl
 ·cases h
@[simp] theorem adx (t:ir):dz (bK t) (.inr "cell")=some (.int t.c):=by rfl
@[simp] theorem ady (t:ir):dz (bK t) (.inr "left")=some (.int t.l):=by rfl
@[simp] theorem adz (t:ir):dz (bK t) (.inr "turn")=some (.int t.n):=by rfl
@[simp] theorem aa0 (t:ir) (x:Int):putD (bK t) (.inr "turn") (.int x)=bK {t with n:=x}:=by rfl
@[simp] theorem aa1 (t:ir) (x:Int):putD (bK t) (.inr "left") (.int x)=bK {t with l:=x}:=by rfl
@[simp] theorem Zq (t:ir):(bK t).length=3:=rfl
noncomputable def mixed (c n:Int):Int:=(((c % 2147483647+31 * (n+1) * (n+1)+1) * 48271) % 2147483629+7 * (n+1)) * 69621 % 2147483587 / 7
def eY (t:ir) (m:Int):Int:=if 0 < t.l then t.l % m else mixed t.c t.n % m
noncomputable def dw (t:ir) (m:Int):ir:=if 0 < t.l then⟨t.c,t.l / m,t.n+1⟩ else⟨t.c,t.l,t.n+1⟩
def cV:FM
 | [.b (.dct kvs),.t (.int m)]=>(D4 kvs).bind fun t=>if 0 < m/\m < 1000000/\0<=t.n/\t.n < 1000000 then some (.t (.int (eY t m)),[.dct (bK (dw t m))]) else none
 | _=>none
def ux:GS:=
 (aO (bR 2 (eP cE (aa (d8 0 (eC (.str "turn"))) (aa (eC (.int 1)) aq))))
 (aO (zc 0 (eC (.str "turn")) (eF (ao 2)))
 (aO (ji (qB (eF (eP Xn (aa (d8 0 (eC (.str "left"))) (aa (eC (.int 0)) aq))))) (aO (bR 3 (eP Cd (aa (d8 0 (eC (.str "left"))) (aa (eF (ao 1)) aq))))
 (aO (zc 0 (eC (.str "left")) (eF (eP QB (aa (d8 0 (eC (.str "left"))) (aa (eF (ao 1)) aq)))))
 (cz (ao 3)))) cW)
 (aO (bR 4 (eP Hs (aa (eF (eP cE (aa (eF (eP cE (aa (eF (eP Cd (aa (d8 0 (eC (.str "cell"))) (aa (eC (.int 2147483647)) aq)))) (aa (eF (eP Hs (aa (eF (eP Hs (aa (eC (.int 31)) (aa (eF (ao 2)) aq)))) (aa (eF (ao 2)) aq)))) aq)))) (aa (eC (.int 1)) aq)))) (aa (eC (.int 48271)) aq))))
 (aO (bR 4 (eP Hs (aa (eF (eP cE (aa (eF (eP Cd (aa (eF (ao 4)) (aa (eC (.int 2147483629)) aq)))) (aa (eF (eP Hs (aa (eC (.int 7)) (aa (eF (ao 2)) aq)))) aq)))) (aa (eC (.int 69621)) aq))))
 (cz (eP Cd (aa (eF (eP QB (aa (eF (eP Cd (aa (eF (ao 4)) (aa (eC (.int 2147483587)) aq)))) (aa (eC (.int 7)) aq)))) (aa (eF (ao 1)) aq)))))))))
def pick_run:∀us r,cV us=some r->aQ 5 ux us=some r:=by
 intro us r h;unfold cV at h;split at h
 ·rename_i kvs m;obtain⟨t,h1,h⟩:=aj h;obtain⟨⟨h2,h3,h4,h5⟩,rfl⟩:=b7 h;obtain rfl:=FP h1;have e1:-18446744073709551616 < t.n+1:=by lia
  have e2:t.n+1 < 18446744073709551616:=by lia
  have e3:m < 1073741824:=by lia
  by_cases hl:0 < t.l
  ·simp[aQ,ux,eY,dw,hl,h2,e3]
  ·simp[aQ,ux,eY,dw,hl,h2,e3,mixed,e1,e2]
 ·cases h
noncomputable def vO:Option U->Bool
 | some (.b _)=>true
 | _=>false
@[simp] theorem afa:vO none=false:=rfl
@[simp] theorem afb (d:D):vO (AAA d)=false:=rfl
@[simp] theorem afc (o:MO):vO (some (.m o))=false:=rfl
def iy (i:Nat) (u:U) (S:SS):sY i u S=(S[i]?).bind fun x=>if vO x then none else some (S.set i (some u)):=by
 unfold sY;cases S[i]? with
 | none=>rfl
 | some x=>cases x with
  | none=>rfl
  | some u=>cases u <;> rfl
def adA:FM
 | [.t d,.t (.int l),.t (.int m)]=>some (.t (.bl (p9 d l m)),[])
 | _=>none
def D5:GS:=
 (cz (eP c8 (aa (eC (.str "a")) (aa (eC (.str "ab")) (aa (eC (.str "abc")) (aa (eC (.str "b")) (aa (eC (.str "any")) (aa (eC (.str "name")) (aa (eC (.str "x")) (aa (eC (.str "zzzzzzzz")) aq))))))))))
noncomputable def D7:BBB:=["a","ab","abc","b","any","name","x","zzzzzzzz"]
noncomputable def zm:FM
 | []=>some (.m (.lst (D7.map D.str)),[])
 | _=>none
def Lg:∀us r,zm us=some r->aQ 0 D5 us=some r:=by
 intro us r h;unfold zm at h;split at h
 ·cases h
  kernel_rfl
 ·cases h
def uy:GS:=
 (aO (bR 2 (ao 1))
 (aO (ji (qB (eF (eP Xn (aa (oH 0) (aa (eC (.int 0)) aq))))) (bR 2 (eP cE (aa (d8 0 (eF (eP Cd (aa (eF (ao 1)) (aa (oH 0) aq))))) (aa (eF (eP QB (aa (eF (ao 1)) (aa (oH 0) aq)))) aq)))) cW)
 (cz (yj [("cell",(eF (ao 2))),("left",(eF (eP Jj (aa (eC (.int 0)) (aa (eF (eP nF (aa (eF (ao 2)) (aa (eF (eP YL (aa (eC (.int 10)) (aa (eC (.int 18)) aq)))) aq)))) aq))))),("turn",(eC (.int 0)))]))))
def FQ (ns:BBD) (k:Int):Int:=if 0 < ns.length then(jh ns (k % ns.length)).getD 0+k / ns.length else k
def FT (ns:BBD) (k:Int):ir:=⟨FQ ns k,if FQ ns k - 10 ^ 18 > 0 then FQ ns k - 10 ^ 18 else 0,0⟩
def Bu:FM
 | [.s ns,.t (.int k)]=>if 0<=k/\k < 1000000/\ns.length < 1000000 then some (.m (.dct (bK (FT ns k))),[]) else none
 | _=>none
def NL {α:Type}{l:List α}{i:Int}(h0:0<=i) (h1:i < l.length):∃x,jh l i=some x:=by
 unfold jh G6;rw[if_pos h0,if_pos h1];have:i.toNat < l.length:=by lia
 exact⟨l[i.toNat],abu this⟩
@[simp] theorem Zr (k1 k2 k3:Str) (g1 g2 g3:GD) (S:SS):yj [(k1,g1),(k2,g2),(k3,g3)] S=(g1 S).bind fun a=>(g2 a.2).bind fun b=>(g3 b.2).map fun c=>(.m (.dct (eV [] [(.inr k1,a.1),(.inr k2,b.1),(.inr k3,c.1)])),c.2):=by
 simp only[yj,rF];cases g1 S with
 | none=>rfl
 | some a=>
  simp only[aag];cases g2 a.2 with
  | none=>rfl
  | some b=>
   simp only[aag];cases g3 b.2 with
   | none=>rfl
   | some c=>rfl
def Bv (c l n:Int):eV [] [(.inr "cell",.int c),(.inr "left",.int l),(.inr "turn",.int n)]=bK ⟨c,l,n⟩:=rfl
def NN:∀us r,Bu us=some r->aQ 3 uy us=some r:=by
 intro us r h;unfold Bu at h;split at h
 ·rename_i ns k;obtain⟨⟨h1,h2,h3⟩,rfl⟩:=b7 h;by_cases hl:0 < ns.length
  ·have e0:(0:Int) < ns.length:=by lia
   obtain⟨x,hx⟩:=NL (l:=ns) (i:=k % ns.length) (aeG _ (by lia)) (aei _ e0);have e1:(ns.length:Int) < 1073741824:=by lia
   simp[aQ,uy,e0,e1,hx,Bv,FT,FQ,hl]
  ·have e0:¬(0:Int) < ns.length:=by lia
   simp[aQ,uy,e0,Bv,FT,FQ,hl]
 ·cases h
end L2
end
section
namespace Sw
open PySem PySem.Spec PyProof.Rows L2
variable {α:Type}{K:AAD}
def cj {t:ir}{m:Int}(h:0 < m):0<=eY t m/\eY t m < m:=by
 unfold eY;split
 ·exact⟨aeG _ (by lia),aei _ h⟩
 ·exact⟨aeG _ (by lia),aei _ h⟩
@[simp] theorem fG (t:ir) (m:Int):(dw t m).n=t.n+1:=by unfold dw;split <;> rfl
def mK {t:ir}{m:Int}(h1:0 < m) (h2:m < 1000000) (h3:0<=t.n) (h4:t.n < 1000000):cV [.b (.dct (bK t)),.t (.int m)]=some (.t (.int (eY t m)),[.dct (bK (dw t m))]):=by
 simp[cV,h1,h2,h3,h4]
def NO {α:Type}{l:List α}{i:Int}(h0:0<=i) (h1:i < l.length):jh l i=some (l[i.toNat]'(by lia)):=by
 unfold jh G6;rw[if_pos h0,if_pos h1];exact abu (by lia)
def NP {α:Type}{l:List α}{i:Int}{x:α}(h0:0<=i) (h1:i < l.length):jh l i=some (l.getD i.toNat x):=by
 rw[NO h0 h1];have:i.toNat < l.length:=by lia
 simp[List.getD,this]
@[simp] theorem Zs (g:GD) (lo hi:Option GD) (S:SS):Bl g lo hi S=(g S).bind fun p=>(oJ lo p.2).bind fun l=>(oJ hi l.2).bind fun h=>(QU p.1 l.1 h.1).map fun u=>(u,h.2):=rfl
@[simp] theorem adB (S:SS):oJ none S=some (none,S):=rfl
@[simp] theorem adC (g:GD) (S:SS):oJ (some g) S=(g S).bind fun p=>match p.1 with | .int i=>some (some i,p.2) | _=>none:=rfl
@[simp] theorem Rc (ds:List D) (lo hi:BBM):QU (.tup ds) lo hi=AAA (.tup (cutD ds lo hi)):=rfl
@[simp] theorem Rf (ds:List D) (lo hi:BBM):QU (.lst ds) lo hi=AAB (cutD ds lo hi):=rfl
@[simp] theorem aa2 (z:Str) (lo hi:BBM):QU (.str z) lo hi=if z.length<=100000 then AAA (.str (Txt.slice z lo hi)) else none:=rfl
theorem NQ:∀(ts:List D) (S:SS),S.length=ts.length->aG (ts.map U.t) S=some []
 | [],S,_=>by cases S <;> rfl
 | d :: ts,[],h=>by cases h
 | d :: ts,x :: S,h=>by
  show aG (U.t d :: ts.map U.t) (x :: S)=_;rw[Jp];exact NQ ts S (by simpa using h)
theorem z7 (S:SS):∀ts:List D,bh S (ts.map U.t)=some (ts.map U.t)
 | []=>rfl
 | d :: ts=>by
  show(some (U.t d)).bind _=_;rw[z7 S ts];rfl
theorem Lh:∀ts:List D,slotsOf (ts.map U.t)=[]
 | []=>rfl
 | d :: ts=>Lh ts
theorem Li:∀ts:List D,bE (ts.map U.t)=0
 | []=>rfl
 | d :: ts=>Li ts
theorem HK (S:SS):∀ts:List D,wb (ts.map U.t) [] S=some S
 | []=>rfl
 | d :: ts=>HK S ts
theorem AL {cap:BBJ}{q:GT}{g:GD}{S:SS}{ts:List D}(hc:fS S cap=some (ts.map U.t)) (p:D->Bool) (f:D->D):∀(ds acc:List D),
  (∀d∈ds,q (AAA d :: ts.map fun x=>AAA x)=some (p d,AAA d :: ts.map fun x=>AAA x))->(∀d∈ds,p d=true->g (AAA d :: ts.map fun x=>AAA x)=some (f d,AAA d :: ts.map fun x=>AAA x))->
  jL cap q g ds S acc=some (acc++(ds.filter p).map f,S)
 | [],acc,_,_=>by simp[jL]
 | d :: ds,acc,hq,hg=>by
  have em:(ts.map U.t).map some=ts.map fun x=>some (U.t x):=by simp
  have eo:aG (.t d :: ts.map U.t) (AAA d :: ts.map fun x=>AAA x)=some []:=by rw[Jp];exact NQ ts _ (by simp)
  have q0:=hq d (abf);unfold jL;rw[hc];simp only[aag];rw[if_pos ⟨by rw[Lh];exact aew,by rw[Li];exact acI _⟩,z7];simp only[aag];rw[em,q0];simp only[aag];by_cases hp:p d=true
  ·rw[if_pos hp,hg d abf hp];simp only[aag];rw[eo];simp only[aag];rw[HK];simp only[aag];rw[AL hc p f ds (acc++[f d]) (fun e he=>hq e (aaz _ he)) (fun e he=>hg e (aaz _ he)),adD hp];simp
  ·rw[if_neg hp,eo];simp only[aag];rw[HK];simp only[aag];rw[AL hc p f ds acc (fun e he=>hq e (aaz _ he)) (fun e he=>hg e (aaz _ he)),adE hp]
def Lj {cap:BBJ}{g:GD}{S:SS}{ts:List D}(hc:fS S cap=some (ts.map U.t)) (f:D->D) (ds acc:List D) (hg:∀d∈ds,g (AAA d :: ts.map fun x=>AAA x)=some (f d,AAA d :: ts.map fun x=>AAA x)):
  jL cap kP g ds S acc=some (acc++ds.map f,S):=by
 rw[AL hc (fun _=>true) f ds acc (fun _ _=>rfl) (fun d hd _=>hg d hd),List.filter_eq_self.mpr (fun _ _=>rfl)]
@[simp] theorem aa3 (cap:BBJ) (gi:GI) (q:GT) (g:GD) (S:SS):Bf cap gi q g S=(gi S).bind fun p=>if p.1.length<=100000 then(jL cap q g p.1 p.2 []).map fun r=>(.m (.lst r.1),r.2) else none:=rfl
def gG (g:GD) (S:SS):sZ g S=(g S).bind fun p=>match p.1 with | .tup ds=>some (ds,p.2) | .lst ds=>some (ds,p.2) | .str z=>some (z.cps.toList.map fun c=>.str ⟨#[c]⟩,p.2) | _=>none:=rfl
theorem Dc {α:Type}(f:α->Bool):∀ds:List α,ug (ds.map fun d=>.bl (f d))=some (ds.map f)
 | []=>rfl
 | d :: ds=>by simp[ug,Dc f ds]
def zo {x:D}{z:Str}(h:qy (.str z) x=true):x= .str z:=by
 cases x <;> simp[qy] at h
 rw[h]
def getD_mem {α:Type}{l:List α}{i:Nat}{x:α}(h:i < l.length):l.getD i x∈l:=by simp[List.getD,h]
noncomputable def D8 (n:Nat):FM
 | [.s ns]=>if ns.length<=n then some (.t (.bl true),[]) else none
 | _=>none
def NR {P:Program}{w:World}{mg:AAF}{base:Heap}{f:Addr}{fd:FuncData}{n k:Nat}{ps:BBB}{fm:FM}(h:∀us,fm us=none):gQ P w K mg base xV n f fd ps (spT K k fm):=by
 have no:∀vs H Q E,¬spT K k fm vs H Q E:=fun vs H Q E ⟨_,F,us,r,outs,_,_,_,e,_⟩=>by rw[h us] at e;cases e
 exact⟨fun vs H Q E h=>absurd h (no vs H Q E),fun A outer s H args us vs Q E _ _ _ _ h=>absurd h (no vs H Q E)⟩
def VC {H:Hp}{a:Addr}{ns:BBD}{n:Nat}{E:XK}(hl:ns.length<=n) (hO:Qp H) (hS:yV K H a (ns.map V.int)):spT K 1 (D8 n) [.ref a] H (fun v _=>v= .bl true) E:=by
 have sc:Qz K H a ns:=by
  rcases hS with(h | h) | h
  ·rcases hO a with z | ⟨o,xs,z⟩
   ·rw[h] at z;cases z
   ·rw[h] at z;cases z
  ·exact .inl h
  ·exact .inr h
 exact⟨rfl,fun _=>none,[.s ns],.t (.bl true),[],(fun b o z=>by cases z),.cons ⟨a,rfl,sc⟩ .nil,aew,by simp[D8,hl],fun v F' H' _ r=>ow r⟩
end Sw
end
section
namespace L2
open PySem PySem.Spec PyProof.Rows
variable {c fI C:Addr}{x:Str}{st a:Stmt}{od an dd:BBN}{osl:Array (BBP)}{kV doc pm cdv ct:Value}{N ps sn:BBB}{k n:Nat}{g:GS}{pl:Sem Bool}{mN:AAF}{us bm bmB bs sub:AAL}{Q E:AAE}{oe:Obj}{vs:AAK}{X:Cx}{pins:AAG}{σ:St}{H:Hp}{fd:FuncData}{K:AAD}{r b1 b2 body stmts:BBH}{newId initId:String}{cl:BBE}{iter tg:Expr}{gi:GI}{es:BBC}{hdct:Bool}{col:Option Bool}{k0 k1 k2 k3 k5:BBP}{pos':Pos}
section
variable {X:Cx}{e:Expr}{b:Expr}{g:GE}{gb:GD}{x y:Str}{pos pos' px:Pos}{k:Nat}{scope:Scope}
def zs (hN:X.N.Nodup) (i:Nat) (he:JE X e g) (hi:X.N[i]? =some x:=by rfl) (hx:Loc X.env.scope x:=by first | exact Or.inl rfl | exact Or.inr rfl) (hs:swapsWith e (some (.Name x pos')) pos.line X.env=pure false:=by rfl)
  (hf:X.fn x=true\/X.env.scope.names.lookup x=some .local:=by first | exact .inl rfl | exact .inr rfl):JS X (.Assign [.Name x pos'] e pos) (bR i g):=Vd hN hi hx he hs hf
def zg (hN:X.N.Nodup) (i:Nat) (hi:X.N[i]? =some x:=by rfl) (hx:Loc X.env.scope x:=by first | exact Or.inl rfl | exact Or.inr rfl) (hf:X.fn x=true\/X.env.scope.names.lookup x=some .local:=by first | exact .inl rfl | exact .inr rfl):JG X (.Name x pos) (bName i):=QF hN hi hx hf
def ys (hr:dM k X.A) (i:Nat) (hb:JD X b gb) (hs:AH b:=by first | (intro _ _;rfl)) (hN:X.N[i]? =some x:=by rfl) (hv:xN X.env.scope x:=by first | exact Or.inl rfl | exact Or.inr (Or.inl rfl) | exact Or.inr (Or.inr rfl))
  (hd:BBT x:=by decide) (hcd:BBU x:=by decide):JD X (.Subscript (.Name x px) b pos) (d8 i gb):=Vm (vW hr) hb hs hN hv hd hcd
def jv (i:Nat) (hN:X.N[i]? =some x:=by rfl) (hv:xN X.env.scope x:=by first | exact Or.inl rfl | exact Or.inr (Or.inl rfl) | exact Or.inr (Or.inr rfl)) (hd:BBT x:=by decide)
  (hcd:BBU x:=by decide):JD X (.Name x pos) (eF (ao i)):=(bF i hN hv hd hcd).d
def cp (h1:∀y∈scope.names,y.2≠.free:=by decide) (h2:∀y∈scope.names,y.2≠.cell:=by decide) (h3:scope.kind= .function:=by rfl) (h4:∀y∈scope.names,y.2= .local->scope.names.lookup y.1=some .local:=by decide) (h5:scope.names.lookup x=some .local:=by rfl):
  nB X x [] [] scope []:=Hj h1 h2 h3 h4 h5
def cc (i:Nat) (clos:closureFor scope X.env=pure [(y,c)]:=by rfl) (yZ:∀z∈scope.names,z.2≠.cell:=by decide) (kind:scope.kind= .function:=by rfl) (names:∀z∈scope.names,z.2= .local->scope.names.lookup z.1=some .local:=by decide)
  (loc:scope.names.lookup x=some .local:=by rfl) (hc:X.env.cells.lookup y=some c:=by rfl) (only:∀z∈scope.names,z.2= .free->z.1=y:=by decide) (ne:x≠y:=by decide) (hN:X.N[i]? =some y:=by rfl) (vis:X.env.scope.names.lookup y=some .cell:=by rfl) (rel:(relabel scope X.env).names.lookup y=some .cell:=by rfl):
  nB X x [y] [i] scope [(y,c)]:=Nm clos yZ kind names loc hc only ne hN vis rel
end
section
variable {P:Program}{w:World}{K:AAD}{mg:AAF}{base:Heap}{h:Heap}
structure Df (K:AAD) (mg:AAF) (x:Str) (st:Stmt):Prop where
 ex:∃f fd,Je K x x st f fd/\mg x=some (.ref f)
def TU {f:Addr}{oc:Value}(X:K.In h) (G:h.Ns mainGlobals mg) (a:PySem.W.nsIn K mainGlobals x=some (some (.ref f)))
  (l:K.lookup f=some ⟨oc,od,.func (PySem.W.fnOf x x (nA st) (fE st) (aJ st) .none kV doc pm an cdv ct),osl⟩) (c:PySem.W.codeIn K cdv x=true) (k:PySem.W.keepIn K (.ref f)=true):Df K mg x st:=
 ⟨_,_,Hf l c k,aaF X G a⟩
structure vm (P:Program) (w:World) (K:AAD) (mg:AAF) (base:Heap) (n:Nat) (x:Str) (ps:BBB) (fm:FM):Prop where
 ex:∃a d,gQ P w K mg base xV n a d ps (spT K ps.length fm)/\Binds K d ps []/\PySem.W.keepIn K (.ref a)=true/\mg x=some (.ref a)
def vm.mono {j k:Nat}{x:Str}{ps:BBB}{fm:FM}(c:vm P w K mg base j x ps fm) (h:j<=k):vm P w K mg base k x ps fm:=
 let⟨a,d,G,r⟩:=c.ex;⟨a,d,G.mono h,r⟩
def Bd (x:Str) (st:Stmt) (ps:BBB):Prop:=∀(kV doc pm:Value) (an:BBN) (cdv ct:Value) (us:AAL),us.length=ps.length->bindArgs (PySem.W.fnOf x x (nA st) (fE st) (aJ st) .none kV doc pm an cdv ct) ⟨us,[]⟩=pure (ps.zip us)
def sI {sc:Scope}(a:sc.kind= .function:=by rfl) (b:sc.isCoroutine=false:=by rfl) (c:sc.isGenerator=false:=by rfl) (d:N.Nodup:=by decide +kernel) (e:N.take ps.length=ps:=by rfl)
  (f:∀x∈ps,sc.names.lookup x=some .local\/sc.names.lookup x=some .cell:=by decide +kernel) (g:∀y∈sc.names,y.2≠.free:=by decide +kernel):bD N ps sc:=⟨a,b,c,d,e,f,g⟩
def z9 {fm:FM}(D:Df K mg x st) (Sc:bD N ps (aJ st))
  (hf:∀us r,fm us=some r->aQ N.length g us=some r)
  (hb:∀(f:Addr) (cdv:Value) (A:Around) (outer:BBF) (s:Shared) (H:Hp) (E:XK),dM k (A.deeper (envOfC x (aJ st) s.heap.objs.size f cdv))->JB (wu xV P w K mg base N x (aJ st) f cdv A outer s H E).L7 (fE st) g)
  (bd:Bd x st ps:=by intro _ _ _ _ _ _ us hl;rcases us with _ | ⟨_,_ | ⟨_,_ | ⟨_,_ | ⟨_,_ | ⟨_,_ | ⟨_,_ | ⟨_,_⟩⟩⟩⟩⟩⟩⟩ <;> first | rfl | cases hl):vm P w K mg base (k+1) x ps fm:=by
 obtain⟨f,fd,F,m⟩:=D.ex;exact⟨f,fd,okT F Sc (hb f) hf,F.binds bd,F.kp,m⟩
end
section
variable {X:Cx}{e:Expr}{es:BBC}{gu:GU}{x:Str}{p pos:Pos}{k j:Nat}{ps:BBB}{fm:FM}
def jc (c:vm X.prog X.w X.K X.mg X.base j x ps fm) (hr:dM k X.A) (ha:JU X (e :: es) gu) (hj:j<=k:=by lia) (hg:Gl X x:=by rfl) (hn:(e :: es).length=ps.length:=by rfl)
  (hdb:BBT x:=by decide) (he:starEach (e :: es) X.env=(false,eval e X.env) :: starEach es X.env:=by rfl) (hpl:(backTo pos (starEach es X.env)).any (·.1)=false:=by rfl):
  JE X (.Call (.Name x p) (e :: es) [] pos) (aZ fm gu):=by
 obtain⟨a,d,G,b,kp,m⟩:=c.ex;exact QJ (G.mono hj) hr hg m kp b ha hn hdb he hpl
def jc0 (c:vm X.prog X.w X.K X.mg X.base j x [] fm) (hr:dM k X.A) (hj:j<=k:=by lia) (hg:Gl X x:=by rfl) (hdb:BBT x:=by decide):JE X (.Call (.Name x p) [] [] pos) (aZ fm aE):=by
 obtain⟨a,d,G,b,kp,m⟩:=c.ex;exact Np (G.mono hj) hr hg m kp b hdb
end
section
variable {P:Program}{w:World}{K:AAD}{mg:AAF}{base:Heap}{h:Heap}{C:Addr}{m q x:Str}{st:Stmt}{ps:BBB}{fm:FM}
def yx (D:Df K mg x st) (z:∀us,fm us=none) (bd:Bd x st ps:=by intro _ _ _ _ _ _ us hl;rcases us with _ | ⟨_,_ | ⟨_,_ | ⟨_,_ | ⟨_,_ | ⟨_,_ | ⟨_,_ | ⟨_,_⟩⟩⟩⟩⟩⟩⟩ <;> first | rfl | cases hl):vm P w K mg base n x ps fm:=by
 obtain⟨f,fd,F,m⟩:=D.ex;exact⟨f,fd,Sw.NR z,F.binds bd,F.kp,m⟩
structure Bw (K:AAD) (C:Addr) (m q:Str) (st:Stmt):Prop where
 ex:∃f fd,Je K m q st f fd/\Meth K C m f
def VD {f:Addr}{oc:Value}(a:PySem.W.findIn K (.ref C) m=some (some (.ref f)))
  (l:K.lookup f=some ⟨oc,od,.func (PySem.W.fnOf m q (nA st) (fE st) (aJ st) .none kV doc pm an cdv ct),osl⟩) (c:PySem.W.codeIn K cdv q=true) (k:PySem.W.keepIn K (.ref f)=true) (y:PySem.W.isFn K (.ref f)=true):Bw K C m q st:=
 ⟨_,_,Hf l c k,a,y,k⟩
structure uz (P:Program) (w:World) (K:AAD) (mg:AAF) (base:Heap) (n:Nat) (C:Addr) (m:Str) (ps:BBB) (fm:FM):Prop where
 ex:∃a d,gQ P w K mg base xV n a d ps (spT K ps.length fm)/\Binds K d ps []/\Meth K C m a
def uz.mono {j k:Nat}(c:uz P w K mg base j C m ps fm) (h:j<=k):uz P w K mg base k C m ps fm:=
 let⟨a,d,G,r⟩:=c.ex;⟨a,d,G.mono h,r⟩
def Zt (x q:Str) (st:Stmt) (ps:BBB):Prop:=∀(kV doc pm:Value) (an:BBN) (cdv ct:Value) (us:AAL),us.length=ps.length->bindArgs (PySem.W.fnOf x q (nA st) (fE st) (aJ st) .none kV doc pm an cdv ct) ⟨us,[]⟩=pure (ps.zip us)
def Rg (D:Bw K C m q st) (Sc:bD N ps (aJ st))
  (hf:∀us r,fm us=some r->aQ N.length g us=some r)
  (hb:∀(f:Addr) (cdv:Value) (A:Around) (outer:BBF) (s:Shared) (H:Hp) (E:XK),dM k (A.deeper (envOfC q (aJ st) s.heap.objs.size f cdv))->JB (wu xV P w K mg base N q (aJ st) f cdv A outer s H E).L7 (fE st) g)
  (bd:Zt m q st ps:=by intro _ _ _ _ _ _ us hl;rcases us with _ | ⟨_,_ | ⟨_,_ | ⟨_,_ | ⟨_,_ | ⟨_,_ | ⟨_,_ | ⟨_,_⟩⟩⟩⟩⟩⟩⟩ <;> first | rfl | cases hl):uz P w K mg base (k+1) C m ps fm:=by
 obtain⟨f,fd,F,m⟩:=D.ex;exact⟨f,fd,okT F Sc (hb f) hf,F.binds bd,m⟩
def NS (D:Bw K C m q st) (z:∀us,fm us=none) (bd:Zt m q st ps:=by intro _ _ _ _ _ _ us hl;rcases us with _ | ⟨_,_ | ⟨_,_ | ⟨_,_ | ⟨_,_ | ⟨_,_ | ⟨_,_ | ⟨_,_⟩⟩⟩⟩⟩⟩⟩ <;> first | rfl | cases hl):uz P w K mg base n C m ps fm:=by
 obtain⟨f,fd,F,m⟩:=D.ex;exact⟨f,fd,Sw.NR z,F.binds bd,m⟩
structure XA (K:AAD) (mg:AAF) (x:Str) (C:Addr):Prop where
 nm:mg x=some (.ref C)
 mks:PySem.W.makesIn K C=true
 kp:PySem.W.keepIn K (.ref C)=true
def VE (X:K.In h) (G:h.Ns mainGlobals mg) (a:PySem.W.nsIn K mainGlobals x=some (some (.ref C))) (b:PySem.W.makesIn K C=true) (c:PySem.W.keepIn K (.ref C)=true):XA K mg x C:=⟨aaF X G a,b,c⟩
end
section
variable {X:Cx}{C:Addr}{e:Expr}{es:BBC}{gu:GU}{x m:Str}{px p pos apos:Pos}{k j:Nat}{ps:BBB}{fm:FM}
def jm (i:Nat) (c:AF X.K C) (F:uz X.prog X.w X.K X.mg X.base j C m ps fm) (hr:dM k X.A) (ha:JU X (e :: es) gu) (hj:j<=k:=by lia) (hn:(e :: es).length+1=ps.length:=by rfl)
  (hN:X.N[i]? =some x:=by rfl) (hv:xN X.env.scope x:=by first | exact Or.inl rfl | exact Or.inr (Or.inl rfl) | exact Or.inr (Or.inr rfl)) (hd:BBT x:=by decide) (hcd:BBU x:=by decide)
  (hst:starEach (e :: es) X.env=(false,eval e X.env) :: starEach es X.env:=by rfl) (hpl:(backTo pos (starEach es X.env)).any (·.1)=false:=by rfl)
  (ht:eval (.Call (.Attribute (.Name x px) m apos) (e :: es) [] pos) X.env=(do
   let ov <-eval (.Name x px) X.env
   standAt apos.atName
   let(f,first) <-holding [ov] (getMethod ov m pl)
   callWith pos f first (backTo pos (starEach (e :: es) X.env)) (backToKw pos (keywordEach [] X.env))):=by rfl):
  JE X (.Call (.Attribute (.Name x px) m apos) (e :: es) [] pos) (cK C m i fm gu):=by
 obtain⟨a,d,G,b,me⟩:=F.ex;exact Q7 i c me (G.mono hj) hr b ha hn hN hv hd hcd hst hpl ht
def FU {y:Str}(i:Nat) (c:AF X.K C) (F:uz X.prog X.w X.K X.mg X.base j C m [y] fm) (hr:dM k X.A) (hj:j<=k:=by lia)
  (hN:X.N[i]? =some x:=by rfl) (hv:xN X.env.scope x:=by first | exact Or.inl rfl | exact Or.inr (Or.inl rfl) | exact Or.inr (Or.inr rfl)) (hd:BBT x:=by decide) (hcd:BBU x:=by decide)
  (ht:eval (.Call (.Attribute (.Name x px) m apos) [] [] pos) X.env=(do
   let ov <-eval (.Name x px) X.env
   standAt apos.atName
   let(f,first) <-holding [ov] (getMethod ov m pl)
   callWith pos f first (backTo pos (starEach [] X.env)) (backToKw pos (keywordEach [] X.env))):=by rfl):
  JE X (.Call (.Attribute (.Name x px) m apos) [] [] pos) (cK C m i fm aE):=by
 obtain⟨a,d,G,b,me⟩:=F.ex;exact NJ i c me (G.mono hj) hr b hN hv hd hcd ht
def jk (M:XA X.K X.mg x C) (F:uz X.prog X.w X.K X.mg X.base j C "__init__" ps fm) (hr:dM k X.A) (ha:JU X (e :: es) gu) (hj:j+1<=k:=by lia) (hg:Gl X x:=by rfl) (hn:(e :: es).length+1=ps.length:=by rfl)
  (hdb:BBT x:=by decide) (he:starEach (e :: es) X.env=(false,eval e X.env) :: starEach es X.env:=by rfl) (hpl:(backTo pos (starEach es X.env)).any (·.1)=false:=by rfl):
  JE X (.Call (.Name x p) (e :: es) [] pos) (yt C fm gu):=by
 obtain⟨a,d,G,b,me⟩:=F.ex;exact Q9 ⟨M.mks,me.at_,me.fn,M.kp⟩ G (hr.mono hj) hg M.nm b ha hn hdb he hpl
end
noncomputable def D9 (C:Addr) (dx:BBN) (t:Addr):Obj:={cls:=.ref C,dict:=dx,data:=.fields #[.ref t,.none,.none,.none,.bool false,.none]}
section
variable {prog:Program}{w:World}{A:Around}{E:AAE}{h:Heap}{g:Array GenState}{d:Drawn}{t:Nat}{os:OsState}
variable {nm q:Str}{C N:Addr}{bs bm bmB:AAL}{hdct:Bool}{sn:BBB}{sub:AAL}{ab:Bool}{col:Option Bool}{dd:BBN}{k0 k1 k2 k3 k5:BBP}{B newId initId:String}
def Rh (F:ExcBaseFacts B newId initId bmB) (T:OwnTail h bmB bm){oI:Obj}{Q:Fin->Shared->Prop}
  (hC:h.get? C=some (excClassObj nm q C N bs bm hdct sn sub ab col dd k0 k1 k2 k3 k5 newId)) (hn:h.Ns N mN) (hi:mN "__init__" =some (.ref fI)) (hfI:h.get? fI=some oI) (hfc:oI.cls= .type "function")
  (hq:∀h' e,Heap.MadeExcOf h h' e (.ref C) us->wpAny (model prog w) A (call (.ref fI) (.ref e :: us)) (fun r s'=>r= .none/\Q (.done (.ret (.ref e))) s') E ⟨h',g,d,t,os⟩) (hus:us.length<=sizeLine):
  wpAny (model prog w) A (Builtin.«type.__call__» ⟨.ref C :: us,[]⟩) Q E ⟨h,g,d,t,os⟩:=by
 repeat (first | with_reducible refine acS hC ?_ | with_reducible refine wpAny_madeBy_exc hC ?_ | wp_step)
 refine codeAny_call_builtin_code (Code.quiet_builtin _ F.quiet) (wpAny_check_new_subT F T hC ?_);refine codeAny_exc_new_subT F T hC ?_ hus;show wpAny _ _ _ _ _ _;have kp:∀b o,h.get? b=some o->((h.push {cls:=.type "tuple",data:=.seq us.toArray}).push (D9 C none h.objs.size)).get? b=some o:=fun b o e=>aan _ (aan _ e);have hget:((h.push {cls:=.type "tuple",data:=.seq us.toArray}).push (D9 C none h.objs.size)).get? (h.objs.size+1)=some (D9 C none h.objs.size):=by unfold D9;heap_get
 have hcC:(Value.ref C :: bm).contains (.ref C)=true:=by simp
 have hC1:=kp _ _ hC;have hn1:=hn.keeps kp;have hf1:=kp _ _ hfI;have T1:=T.keeps kp;have mk:Heap.MadeExcOf h ((h.push {cls:=.type "tuple",data:=.seq us.toArray}).push (D9 C none h.objs.size)) (h.objs.size+1) (.ref C) us:=
  ⟨kp,afl (afZ _),h.objs.size,hget,afl (aap _),aan _ (Heap.get?_push_at rfl rfl)⟩
 unfold D9 at hget hC1 hn1 hf1 T1 mk;clear kp;unfold isInstance
 repeat (first | with_reducible refine acS hget ?_ | (with_reducible refine aeE hC1 ?_;rw[hcC]) | wp_step)
 show wpAny _ _ (typeLookup (.ref C) _) _ _ _;refine wpAny_typeLookup_tail hC1 hn1 T1 F.mroIs F.init.lookup ?_;rw[hi];refine abW (aae ?_);unfold bindSpecial;refine aae (afo (T:="function") ⟨_,hf1,hfc⟩ ?_);rw[if_pos (by decide)];refine aah (aae (aat (hq _ (h.objs.size+1) mk) (fun r s' hr=>?_) fun _ _ x=>x));obtain⟨rfl,hQ⟩:=hr
 wp_walk
 exact hQ
def Ri (F:ExcBaseFacts B newId initId bmB) (T:OwnTail h bmB bm){oI:Obj}
  (hC:h.get? C=some (excClassObj nm q C N bs bm hdct sn sub ab col dd k0 k1 k2 k3 k5 newId)) (hn:h.Ns N mN) (hi:mN "__init__" =some (.ref fI)) (hfI:h.get? fI=some oI) (hfc:oI.cls= .type "function")
  (hq:∀h' e,Heap.MadeExcOf h h' e (.ref C) us->wpAny (model prog w) (A.under (.builtin "type.__call__" ⟨.ref C :: us,[]⟩)) (call (.ref fI) (.ref e :: us)) (fun r s'=>r= .none/\Q (.ref e) s') E ⟨h',g,d,t,os⟩) (hus:us.length<=sizeLine):
  wpAny (model prog w) A (call (.ref C) us) Q E ⟨h,g,d,t,os⟩:=by
 have f1:=tc_lookup;have f2:=tc_bind (.ref C);have hT:(⟨h,g,d,t,os⟩:Shared).TypeIs (.ref C) "type":=⟨_,hC,rfl⟩
 refine aeD (codeAny_of_tree ?_);show wpAny _ _ (callAny (.ref C) _) _ _ _
 repeat (any_goals (first | assumption | with_reducible refine acS hC ?_ | wp_step))
 refine⟨rfl,?_⟩;exact codeAny_call_builtin_at (Code.quiet_builtin _ (by decide +kernel)) entry_typeCall (wpAny_check_type_call_sub hC (Rh F T hC hn hi hfI hfc (fun h' e hm=>hq h' e hm) hus))
end
section
variable {M:Model}{A:Around}{E:AAE}{env:Env}
variable {nm q:Str}{C N:Addr}{bs bm:AAL}{hdct:Bool}{sn:BBB}{sub:AAL}{ab:Bool}{col:Option Bool}{dd:BBN}{k0 k1 k2 k3 k5:BBP}{newId:String}
def NT {s:Shared}{x:Sem Value}{Q:Flow->Shared->Prop}(hbase:bm.contains (.type "BaseException")=true) (hh:A.handled=none)
  (h:wpAny M A x (fun v s1=>∃e t dx,v= .ref e/\s1.heap.get? C=some (excClassObj nm q C N bs bm hdct sn sub ab col dd k0 k1 k2 k3 k5 newId)/\s1.heap.get? e=some (D9 C dx t)/\E (.ref e) s1) E s):
  wpAny M A (raiseStmt env (some x) none) Q E s:=by
 have hcB:(Value.ref C :: bm).contains (.type "BaseException")=true:=by rw[List.contains_cons,hbase,Bool.or_true]
 unfold raiseStmt;refine aae (aat h (fun v s1 h1=>?_) fun _ _ x=>x);obtain⟨e,t,dx,rfl,hC,he,hE⟩:=h1;obtain⟨hp,g,d,tk,os⟩:=s1;unfold D9 at he
 repeat (first | with_reducible refine acS he ?_ | with_reducible refine acS hC ?_ | (with_reducible refine aeE hC ?_;rw[hcB]) | wp_step)
 exact wpAny_raiseNew_none hh hE
end
inductive Fl (h:Heap) (e C:Addr) (dx:BBN) (T:Addr) (fl:Value):Prop
 | mk (oe:Obj) (vs:AAK) (oT:Obj) (ts:AAK) (he:h.get? e=some oe) (hc:oe.cls= .ref C) (hx:oe.dict=dx) (hd:oe.data= .fields vs) (h1:vs[1]? =some (.ref T)) (ne:T≠e)
   (hT:h.get? T=some oT) (FW:oT.data= .fields ts) (h3:ts[3]? =some fl)
structure Ch (fs:BBE) (e T:Addr) (h h':Heap):Prop where
 keep:∀b o,b∉fs->b≠e->b≠T->h.get? b=some o->h'.get? b=some o
 slot:∀b o,b∈fs->h.get? b=some o->∃sl,h'.get? b=some {o with slots:=sl}
 size:h.objs.size<=h'.objs.size
section
variable {M:Model}{A:Around}{E:AAE}{s:Shared}{base:Heap}{env:Env}{outer:BBF}{L e C T:Addr}{dx:BBN}{fl:Value}{Q:Unit->Shared->Prop}
def Jq {l:BBF}{h:Heap}(hl:h.FunFrames base l) (he:h.get? e=some oe) (hd:oe.data= .fields vs):e∉l.filterMap (·.frame):=fun hm=>by
 obtain⟨_,o,ho,hnf⟩:=hl.mem hm;rw[he] at ho;cases ho;exact hnf vs hd
def Lk (o:Obj) (f:Array Value->Array Value):(o.mapFields f).dict=o.dict:=by
 obtain⟨c,d,dt,sl⟩:=o;cases dt <;> rfl
def FY {head:Value}{hadNext:Bool}(hfr:A.frames=some (env :: outer)) (hl:s.heap.FunFrames base (env :: outer)) (hf:env.frame=some L)
  (he:s.heap.get? e=some oe) (hc:oe.cls= .ref C) (hx:oe.dict=dx) (hd:oe.data= .fields vs) (hsz:1 < vs.size)
  (h:∀h' T,s.heap.objs.size<=T->Ch ((env :: outer).filterMap (·.frame)) e e s.heap h'->Fl h' e C dx T (rawInt L)->Q () {s with heap:=h'}):
  wpAny M A (do let a <-frameOf env;let pl <-entryPlaceOf L hadNext;let b <-EntryCells.newEntry head a .none (rawInt L) .none pl;setField (.ref e) 1 b) Q E s:=by
 have Zu:=Jq hl he hd;refine aae (wpAny_frameOf_fun hfr hl hf fun h1 hs1=>?_);refine aae (wpAny_entryPlaceOf fun pl hpl=>?_);unfold EntryCells.newEntry newFields;refine aae (abN ?_ (hpl.sizeOk5 _ _ _ _ _));have he1:h1.get? e=some oe:=(hs1.2.1 e Zu).trans he;generalize hob:({cls:=.type "traceback",dict:=none,data:=.fields ([head,.ref L,.none,rawInt L,.none]++(if pl.isEmpty then List.replicate 6 Value.none else pl)).toArray}:Obj)=ob;have he2:=aan (h:=h1) ob he1;refine afE he2 hd hsz (h _ h1.objs.size ?_ ⟨fun b o hb IF _ q=>?_,fun b o hb q=>?_,?_⟩ ?_)
 ·rw[hs1.1];exact aap _
 ·rw[abB _ _ (acz IF)];exact aan _ ((hs1.2.1 b hb).trans q)
 ·obtain⟨sl,hs⟩:=hs1.2.2 b o q;refine⟨sl,?_⟩;rw[abB _ _ (fun z:e=b=>Zu (by rw[z];exact hb))];exact aan _ hs
 ·show _<=((h1.push ob).update e _).objs.size;rw[adG,afB,hs1.1];exact afZ _
 ·have hTe:h1.objs.size≠e:=Nat.ne_of_gt (aaq he1);have hd3:=adH hd (·.setIfInBounds 1 (Value.ref h1.objs.size));refine⟨_,_,_,_,acC _ he2 (aeC hd3),(Obj.cls_mapFields _ _).trans hc,(Lk _ _).trans hx,hd3,by simp[hsz],hTe,(abB _ _ (acz hTe)).trans (aa5 h1 (by subst hob;rfl)),by subst hob;rfl,?_⟩
  first | (simp;done) | (rcases hpl with rfl | ⟨_,_,_,_,_,_,_,rfl⟩ <;> simp)
def Bx {t:Addr}(hfr:A.frames=some (env :: outer)) (hl:s.heap.FunFrames base (env :: outer)) (hf:env.frame=some L) (he:s.heap.get? e=some (D9 C dx t))
  (h:∀h' T,s.heap.objs.size<=T->Ch ((env :: outer).filterMap (·.frame)) e e s.heap h'->Fl h' e C dx T (rawInt L)->Q () {s with heap:=h'}):wpAny M A (noteFrame (.ref e) env) Q E s:=by
 unfold noteFrame;simp only[hf];refine aae (ab5 he (vs:=#[.ref t,.none,.none,.none,.bool false,.none]) rfl (x:=.none) rfl ?_);rw[if_neg (by decide)];exact FY hfr hl hf he rfl rfl rfl (by simp) h
def Rj {o:Obj}{g:Array Value->Array Value}(hd:o.data= .fields vs) (hg:g vs=vs):o.mapFields g=o:=by
 obtain⟨c,d,dt,sl⟩:=o;cases hd;show Obj.mk c d (.fields (g vs)) sl=_;rw[hg]
def By (hfr:A.frames=some (env :: outer)) (hl:s.heap.FunFrames base (env :: outer)) (hf:env.frame=some L) (hF:Fl s.heap e C dx T .none)
  (h:∀h' T',s.heap.objs.size<=T'->Ch ((env :: outer).filterMap (·.frame)) e e s.heap h'->Fl h' e C dx T' (rawInt L)->Q () {s with heap:=h'}):wpAny M A (noteFrame (.ref e) env) Q E s:=by
 obtain⟨oe,vs,oT,ts,he,hc,hx,hd,h1,ne,hT,FW,h3⟩:=hF;unfold noteFrame;simp only[hf];refine aae (ab5 he hd h1 ?_);rw[if_pos (show(Value.ref T != Value.none)=true from by simp)];refine aae (ab5 hT FW h3 ?_);rw[if_neg (show ¬((Value.none == rawInt L)=true) from by simp[rawInt])];refine aae (afE hT FW (ab2.mp h3).1 ?_);have idt:ts.setIfInBounds 3 Value.none=ts:=by
  apply Array.ext_getElem?
  intro i;rw[Array.getElem?_setIfInBounds];split
  ·rename_i z;subst z;rw[h3];simp[(ab2.mp h3).1]
  ·rfl
 have all:∀b o,s.heap.get? b=some o->(s.heap.update T (Obj.mapFields (·.setIfInBounds 3 Value.none))).get? b=some o:=fun b o q=>by
  by_cases z:b=T
  ·subst z;rw[hT] at q;cases q;rw[acC _ hT (aeC (adH FW _)),Rj FW idt]
  ·rw[abB _ _ (acz z)];exact q
 refine FY (base:=base) hfr (hl.of_keeps fun b o hb _=>⟨o,all b o hb,rfl⟩) hf (all e oe he) hc hx hd (ab2.mp h1).1 fun h' T' hT' ch fF=>h h' T' ?_ ⟨fun b o hb IF _ q=>ch.keep b o hb IF IF (all b o q),fun b o hb q=>ch.slot b o hb (all b o q),?_⟩ fF
 ·rw[adG] at hT';exact hT'
 ·have:=ch.size;rw[adG] at this;exact this
def BA (hf:env.frame=some L) (hF:Fl s.heap e C dx T (rawInt L)) (h:Q () s):wpAny M A (noteFrame (.ref e) env) Q E s:=by
 obtain⟨oe,vs,oT,ts,he,hc,hx,hd,h1,ne,hT,FW,h3⟩:=hF;unfold noteFrame;simp only[hf];refine aae (ab5 he hd h1 ?_);rw[if_pos (show(Value.ref T != Value.none)=true from by simp)];refine aae (ab5 hT FW h3 ?_);rw[if_pos (show(rawInt L == rawInt L)=true from by simp)];exact aah h
def rJ (hF:Fl s.heap e C dx T fl) (h:∀h',h'.objs.size=s.heap.objs.size->(∀b o,b≠T->s.heap.get? b=some o->h'.get? b=some o)->Fl h' e C dx T .none->Q () {s with heap:=h'}):wpAny M A (setFlight (.ref e) none) Q E s:=by
 obtain⟨oe,vs,oT,ts,he,hc,hx,hd,h1,ne,hT,FW,h3⟩:=hF;have hz:3 < ts.size:=(ab2.mp h3).1;unfold setFlight;refine aae (ab5 he hd h1 ?_);rw[if_pos (show(Value.ref T != Value.none)=true from by simp)];have other:∀b,b≠T->(s.heap.update T (Obj.mapFields (·.setIfInBounds 3 ((none:BBN).elim Value.none fun f=>rawInt f)))).get? b=s.heap.get? b:=fun b hb=>abB _ _ (acz hb);refine afE hT FW hz (h _ (adG _ _ _) (fun b o hb q=>(other b hb).trans q) ⟨oe,vs,_,_,(other e (acz ne)).trans he,hc,hx,hd,h1,ne,acC _ hT (aeC (adH FW _)),adH FW _,by simp[hz]⟩)
end
structure uA (K:AAD) (C:Addr) (cd:ClassData):Prop where
 cls:PySem.W.clsIn K C=some cd
 nem:cd.mro.isEmpty=false
 XC:cd.mro.contains (.type "BaseException")=true
 ga:PySem.W.findIn K (.ref C) "__getattribute__" =some (some (.builtin "BaseException.__getattribute__"))
 gt:PySem.W.findIn K (.ref C) "__getattr__" =some none
section
variable {prog:Program}{w:World}{A:Around}{E:AAE}{s:Shared}{K:AAD}{e C:Addr}{oe:Obj}{od:Option Obj}{cd:ClassData}{name:Str}{expr:Bool}{v:Value}{Q:AAE}
def Jr {M:Model}{h:Heap}(X:K.In h) (I:PySem.W.InstAt h e oe C od) (c:uA K C cd) (b:Value):PySem.W.Looks M h (isInstance (.ref e) b) (cd.mro.contains b):=
 I.type.andThen (PySem.W.looks_mroIn X (by unfold PySem.W.mroIn;rw[c.cls,aag,if_neg (by rw[c.nem];decide)]))
def VF (X:K.In s.heap) (I:PySem.W.InstAt s.heap e oe C od) (c:uA K C cd) (hf:PySem.W.findObj K C od name=some (.value v)) (hh:PySem.W.handedIn v=true) (h:Q v {s with toks:=s.toks+1}):
  wpAny (model prog w) A (getAttr (.ref e) name expr) Q E s:=by
 obtain⟨hp,g,d,t,os⟩:=s;have L0:=I.type (M:=model prog w);have L1:=acJ (M:=model prog w) X c.ga;have L2:=acJ (M:=model prog w) X c.gt;have L3:=PySem.W.looks_find (M:=model prog w) X I hf;have L4:=Jr (M:=model prog w) X I c (.type "BaseException");rw[c.XC] at L4;have nX:(expr && onTheHeap (Value.builtin "BaseException.__getattribute__"))=false:=by cases expr <;> rfl
 have nO:(Value.builtin "BaseException.__getattribute__" == Value.builtin "object.__getattribute__")=false:=by decide +kernel
 have FX:ExcAttrFacts "ValueError":=F.attr_ValueError;unfold getAttr getAttrBy;refine aae (wpAny_mkText (abW (aae (L0.at (aae (L1.at ?_))))));dsimp only;rw[if_neg (by rw[nO];simp)];unfold getAttrByItsOwn;refine aae (show wpAny _ _ (typeLookup (.ref C) "__getattr__") _ _ _ from L2.at ?_);refine aae (wpAny_attempt (abW ?_));unfold callGetattribute;rw[if_neg (by rw[nX];decide)];unfold boundAndCalled;refine aae (wpAny_of_eq (FX.ga.bind (.ref e)) ?_);refine aeD (afr FX.ga.plain F.entry_bexc_ga ?_);have kB:builtinKind "BaseException.__getattribute__" =some .slot:=by decide +kernel
 have sB:splitId "BaseException.__getattribute__" =some ("BaseException","__getattribute__"):=by decide +kernel
 have ha:=F.args_bexc_ga (.ref e) (.str name t);simp only[checkBuiltinCall,kB,sB];refine aae (L4.at ?_);rw[if_neg (by decide)];have main:wpAny (model prog w) A.in1 (Builtin.«object.__getattribute__» {pos:=[Value.ref e]++[Value.str name t]})
   (fun fin s'=>fin= .done (.ret v)/\s'=⟨hp,g,d,t+1,os⟩) (fun _ _=>False) ⟨hp,g,d,t+1,os⟩:=by
  refine aae (aah (aae (aah (aae (L0.at (aae (L3.at ?_)))))));exact aah ⟨rfl,rfl⟩
 have fin:∀(P:Fin->Shared->Prop) (G:AAE),P (.done (.ret v)) ⟨hp,g,d,t+1,os⟩->wpAny (model prog w) A.in1 (Builtin.«object.__getattribute__» {pos:=[Value.ref e]++[Value.str name t]}) P G ⟨hp,g,d,t+1,os⟩:=fun P G hP=>
  aat main (fun a s' z=>by rw[z.1,z.2];exact hP) fun _ _ z=>z.elim
 have out:wpAny (model prog w) A (handedOut v) Q E ⟨hp,g,d,t+1,os⟩:=by rw[PySem.W.handedOut_of hh];exact aah h
 cases VG:Manifest.signature? "BaseException.__getattribute__" with
 | none=>exact aah (fin _ _ out)
 | some sig=>
  simp only[argsOk,VG] at ha;have h2:Bind.checkArgs "BaseException.__getattribute__" sig ⟨[.ref e,.str name t],[]⟩=pure ():=ha;show wpAny _ _ (Bind.checkArgs "BaseException.__getattribute__" sig ⟨[.ref e,.str name t],[]⟩) _ _ _;rw[h2];exact aah (fin _ _ out)
end
open PySem.Builtin PySem.Builtin.ObjectAttr
section
variable {prog:Program}{w:World}{A:Around}{s:Shared}{K:AAD}{x C:Addr}{ox:Obj}{od:Option Obj}{cd:ClassData}{name:Str}{v:Value}{tk:Tok}{R:Result->Shared->Prop}
structure Ll (K:AAD) (C:Addr) (cd:ClassData):Prop where
 cls:PySem.W.clsIn K C=some cd
 nem:cd.mro.isEmpty=false
 obj:cd.mro.contains (.type "object")=true
 hd:cd.hasDict=true
 sa:PySem.W.findIn K (.ref C) "__setattr__" =some (some (.builtin "object.__setattr__"))
 pas:∀self:Value,refuseLoop self "__setattr__" cd.mro=pure ()
def Rk (X:K.In s.heap) (I:PySem.W.InstAt s.heap x ox C od) (c:Ll K C cd) (n:fX K C name)
  (h:∀b,wpAny (model prog w) A.in1 (storeInOwnDict (.ref x) (.ref C) (.str name tk) name v b)
   (fun fin s'=>match fin with | .done f=>R (.ok f) s' | .again c'=>c'.quiet=true/\codeAny (model prog w) A c' R s') (fun e s'=>R (.error e) s') s):
  codeAny (model prog w) A (.call (.builtin "object.__setattr__") ⟨[.ref x,.str name tk,v],[]⟩) R s:=by
 have SF:=PySem.F.store_object;have sub:PySem.W.Looks (model prog w) s.heap (isInstance (.ref x) (.type "object")) true:=I.type.andThen (PySem.W.looks_mroIn X (by unfold PySem.W.mroIn;rw[c.cls,aag,if_neg (by rw[c.nem];decide),c.obj]));refine afr SF.slot.plain SF.entry (@PySem.W.check_slot (model prog w) _ _ s "object.__setattr__" "object" "__setattr__" (.ref x) [.str name tk,v] [] _ SF.kind SF.split sub (SF.args (.ref x) (.str name tk) v) ?_);have hm:PySem.W.Looks (model prog w) s.heap (mroOf (.ref C)) cd.mro:=(afy X c.cls).andThen .now;have L3:PySem.W.Looks (model prog w) s.heap (storeTaker? none) none:=.now;rw[PySem.W.osa_eq,refuse_eq];refine aae (aae (I.type.here (aae (hm.here ?_))));rw[c.pas];refine aah (aae (I.type.here (aae ((acJ X n).here (aae (L3.here ?_))))));exact h _
end
open PySem.Builtin PySem.Builtin.ObjectAttr
section
variable {prog:Program}{w:World}{A:Around}{E:AAE}{s:Shared}{K:AAD}{x C t:Addr}{cd:ClassData}{name:Str}{v:Value}{Q:Unit->Shared->Prop}
def NU (X:K.In s.heap) (hx:s.heap.get? x=some (D9 C none t)) (c:Ll K C cd) (n:fX K C name)
  (h:∀h' tk,h'.get? x=some (D9 C (some s.heap.objs.size) t)->h'.Ns1 s.heap.objs.size (fun y=>if y=name then some v else none)->(∀b o,b≠x->s.heap.get? b=some o->h'.get? b=some o)->Q () {s with heap:=h',toks:=tk}):
  wpAny (model prog w) A (setAttr (.ref x) name v) Q E s:=by
 have J:PySem.W.InstAt s.heap x (D9 C none t) C none:=⟨hx,rfl,rfl,trivial⟩
 refine PySem.W.set_plain X J c.sa (Rk (s:={s with toks:=s.toks+1}) X J c n fun b=>?_);refine aae (aah (aae (aae (wpAny_loadPart hx (aae (PySem.W.Looks.here (s:={s with toks:=s.toks+1}) (afy X c.cls) ?_))))));rw[c.hd];have hxs:x≠s.heap.objs.size:=abr (aaq hx);have hx1:(s.heap.push {cls:=.type "dict",data:=.dict #[]}).get? x=some (D9 C none t):=aan _ hx;show wpAny _ _ (do
   let d <-alloc {cls:=Value.type "dict",data:=Data.dict #[]}
   update x fun o=>{cls:=o.cls,dict:=some d,data:=o.data,slots:=o.slots}
   dictMade (D9 C none t).cls x d) _ _ _
 refine aae (wpAny_alloc' (aae (wpAny_update' hx1 (aah ?_))));have hgd:((s.heap.push {cls:=.type "dict",data:=.dict #[]}).update x fun o=>{cls:=o.cls,dict:=some s.heap.objs.size,data:=o.data,slots:=o.slots}).get? s.heap.objs.size=some {cls:=.type "dict",data:=.dict #[]}:=
  (Heap.get?_update_ne _ _ _ _ hxs.symm).trans (Heap.get?_push_at rfl rfl)
 have hnd:((s.heap.push {cls:=.type "dict",data:=.dict #[]}).update x fun o=>{cls:=o.cls,dict:=some s.heap.objs.size,data:=o.data,slots:=o.slots}).Ns s.heap.objs.size (fun _=>none):=⟨_,#[],_,hgd,rfl,fun e he=>absurd he (by simp),fun _=>rfl⟩
 show wpAny _ _ (storeInDict s.heap.objs.size (.str name s.toks) name v) _ _ _;unfold storeInDict newKeyGuard;refine aae (aah (aae (wpAny_nsSet1 (Heap.Ns1.of_empty hnd) fun h' hn' hs=>?_)));obtain⟨oD,esD,epD,hoD,hdD,hcD⟩:=hn'.count (Within.cons name v Within.nil);refine aae (wpAny_lookBehind hoD (by rw[hdD];exact pastItsLine_dict (aaA hcD (by rw[aar,acm,aeW];lia))) ?_);refine aah (h h' _ ?_ hn' fun b o VH hb=>?_)
 ·refine(hs.2 x hxs).trans (acC _ hx1 rfl)
 ·exact(hs.2 b (abr (aaq hb))).trans ((Heap.get?_update_ne _ _ _ _ VH).trans (aan _ hb))
end
structure TV (P:Program) (w:World) (H':Hp) (s':Shared) (e C dx T:Addr) (fs:List (Str×V)):Prop where
 at_:H' e=some (.vV C dx fs)
 fly:Fl s'.heap e C (some dx) T .none
 nt:H' T=none
def Ea (P:Program) (w:World):KJ:=fun outer H s E ev s'=>∃e C dx T fs H',ev= .ref e/\s'.os=s.os/\AllBare s'.gens/\Un (frs outer) [] H H' s.heap s'.heap/\sO P w H' s'.heap/\TV P w H' s' e C dx T fs/\s.heap.objs.size<=T/\E ev (some e) H'
section
variable {P:Program}{w:World}{H:Hp}{h h':Heap}{e C dx T T':Addr}{fs:List (Str×V)}{fr:BBE}
def HL (ok:sO P w H h) (ch:Ch fr e T h h') (hf:∀b∈fr,H b=none) (hT:H T=none) (he:H e=some (.vV C dx fs)) (hF:∃oe vs,h'.get? e=some oe/\oe.cls= .ref C/\oe.dict=some dx/\oe.data= .fields vs):sO P w H h':=fun a o q=>by
 have kp:∀b u v,H b=some v->b≠e->h.get? b=some u->h'.get? b=some u:=fun b u v hb hne z=>ch.keep b u (fun m=>by rw[hf b m] at hb;cases hb) hne (fun m=>by rw[m,hT] at hb;cases hb) z;by_cases ha:a=e
 ·subst ha;rw[he] at q;cases q;obtain⟨d,z,ne,_,mA,⟨od,es,ep,e2,c⟩,r⟩:=(show g7 P w H h a (.vV C dx fs) from ok a _ he)
  exact⟨d,z,ne,hF,mA,⟨od,es,ep,kp dx _ _ d ne e2,c⟩,r⟩
 ·refine(ok a o q).stay (fun b u hb z=>?_) (fun _ z=>z) fun _ _ z=>z;rcases hb with rfl | hb
  ·exact kp b u o q ha z
  ·refine kp b u _ hb (fun m=>?_) z;rw[m,he] at hb;cases hb
def Ch.land {h1 h2:Heap}(ch:Ch fr e T' h h1) (hz:h.objs.size<=T) (sz:h2.objs.size=h1.objs.size) (kp:∀b o,b≠T->h1.get? b=some o->h2.get? b=some o):Ch fr e T' h h2:=
 ⟨fun b o hb IF hbT q=>kp b o (fun z=>absurd (aaq q) (by rw[z];exact afw.mpr hz)) (ch.keep b o hb IF hbT q),fun b o hb q=>let⟨sl,z⟩:=ch.slot b o hb q;⟨sl,kp b _ (fun z'=>absurd (aaq q) (by rw[z'];exact afw.mpr hz)) z⟩,by rw[sz];exact ch.size⟩
def Fl.obj {fl:Value}(x:Fl h e C (some dx) T fl):∃oe vs,h.get? e=some oe/\oe.cls= .ref C/\oe.dict=some dx/\oe.data= .fields vs:=by
 obtain⟨oe,vs,oT,ts,he,hc,hx,hd,_⟩:=x;exact⟨oe,vs,he,hc,hx,hd⟩
end
section
variable {X:Cx}{pins:AAG}{σ:St}{H:Hp}{s:Shared}{e C dx T0:Addr}{fs:List (Str×V)}{E0:XK}
def NV {h2:Heap}(I:Inv X pins σ H s) (hst:X.stack=X.env :: X.outer) (hfr:X.env.frame=some X.env.locals) (hex:X.ex=[]) (ch:Ch (frs X.stack) e T0 s.heap h2) (he:H e=some (.vV C dx fs)) (hoe:∃o,h2.get? e=some o) (Zv:T0=e\/X.s₀.heap.objs.size<=T0):Un (frs X.outer) [] X.H₀ H X.s₀.heap h2:=by
 have B:=I.base;rw[hex] at B;have nT:∀b o,X.s₀.heap.get? b=some o->b≠e->b≠T0:=fun b o q hb z=>by
  rcases Zv with r | r
  ·exact hb (z.trans r)
  ·exact absurd (aaq q) (by rw[z];exact afw.mpr r)
 have nL:∀b o,X.s₀.heap.get? b=some o->b∈frs X.stack->b∈frs X.outer:=fun b o q hb=>by
  rw[hst] at hb;unfold frs at hb;rw[ad6,hfr] at hb;rcases aao.mp hb with z | z
  ·exact absurd (aaq q) (by rw[z];exact afw.mpr I.ok.above)
  ·exact z
 have ne:∀b o,X.s₀.heap.get? b=some o->X.H₀ b=none->b≠e:=fun b o q n z=>by
  have:=B.free b o q n (by simp);rw[z,he] at this;cases this
 have sub:∀b,b∈frs X.outer->b∈frs X.stack:=fun b hb=>by
  rw[hst];unfold frs;rw[ad6,hfr];exact aaz _ hb
 refine⟨fun b o q n hb hx=>ch.keep b o (fun m=>hb (nL b o q m)) (ne b o q n) (nT b o q (ne b o q n)) (B.keep b o q n hb hx),fun b o q n hb hx=>?_,B.free,fun b o q hx=>?_,B.tups,B.Al,B.A2⟩
 ·obtain⟨sl,z⟩:=B.slot b o q n hb hx;obtain⟨sl',z'⟩:=ch.slot b _ (sub b hb) z;exact⟨sl',z'⟩
 ·obtain⟨o',z⟩:=B.there b o q hx;by_cases hb:b=e
  ·rw[hb];exact hoe
  ·by_cases hm:b∈frs X.stack
   ·obtain⟨sl,z'⟩:=ch.slot b o' hm z;exact⟨_,z'⟩
   ·exact⟨o',ch.keep b o' hm hb (nT b o q hb) z⟩
def FZ {t:Addr}(I:Inv X pins σ H s) (hst:X.stack=X.env :: X.outer) (hfr:X.env.frame=some X.env.locals) (hex:X.ex=[]) (he:H e=some (.vV C dx fs)) (ho:s.heap.get? e=some (D9 C (some dx) t)) (hE:E0 (.ref e) (some e) H):
  wpAny (model X.prog X.w) X.A (leaving X.env (.ref e)) (fun _ s''=>Ea X.prog X.w X.outer X.H₀ X.s₀ E0 (.ref e) s'') (fun e' s''=>Ea X.prog X.w X.outer X.H₀ X.s₀ E0 e' s'') s:=by
 have fr:X.A.frames=some (X.env :: X.outer):=by rw[I.ok.frames,hst]
 have st:=I.stack;rw[hst] at st;have Zw:∀b∈(X.env :: X.outer).filterMap (·.frame),H b=none:=fun b hb=>I.ve b (by rw[hst];exact hb);refine aae (Bx fr st hfr ho fun h1 T hT ch hF=>rJ hF fun h2 sz kp Ar=>?_);have c2:=ch.land hT sz kp;have nt:H T=none:=I.hok.fresh hT;have c3:Ch ((X.env :: X.outer).filterMap (·.frame)) e T s.heap h2:=⟨fun b o h1 h2 _ q=>c2.keep b o h1 h2 h2 q,c2.slot,c2.size⟩
 exact⟨e,C,dx,T,fs,H,rfl,I.os,I.bare,NV I hst hfr hex (by rw[hst];exact c2) he (let⟨oe,_,z,_⟩:=Ar.obj;⟨oe,z⟩) (.inl rfl),HL I.hok c3 Zw nt he Ar.obj,⟨he,Ar,nt⟩,aaA I.sz hT,hE⟩
def HM (I:Inv X pins σ H s) (hst:X.stack=X.env :: X.outer) (hfr:X.env.frame=some X.env.locals) (hex:X.ex=[]) (fl:TV X.prog X.w H s e C dx T0 fs) (Zv:X.s₀.heap.objs.size<=T0) (hE:E0 (.ref e) (some e) H):
  wpAny (model X.prog X.w) X.A (leaving X.env (.ref e)) (fun _ s''=>Ea X.prog X.w X.outer X.H₀ X.s₀ E0 (.ref e) s'') (fun e' s''=>Ea X.prog X.w X.outer X.H₀ X.s₀ E0 e' s'') s:=by
 have fr:X.A.frames=some (X.env :: X.outer):=by rw[I.ok.frames,hst]
 have st:=I.stack;rw[hst] at st;have Zw:∀b∈(X.env :: X.outer).filterMap (·.frame),H b=none:=fun b hb=>I.ve b (by rw[hst];exact hb);refine aae (By fr st hfr fl.fly fun h1 T hT ch hF=>rJ hF fun h2 sz kp Ar=>?_);have c2:=ch.land hT sz kp;have nt:H T=none:=I.hok.fresh hT;have c3:Ch ((X.env :: X.outer).filterMap (·.frame)) e T s.heap h2:=⟨fun b o h1 h2 _ q=>c2.keep b o h1 h2 h2 q,c2.slot,c2.size⟩
 exact⟨e,C,dx,T,fs,H,rfl,I.os,I.bare,NV I hst hfr hex (by rw[hst];exact c2) fl.at_ (let⟨oe,_,z,_⟩:=Ar.obj;⟨oe,z⟩) (.inl rfl),HL I.hok c3 Zw nt fl.at_ Ar.obj,⟨fl.at_,Ar,nt⟩,aaA I.sz hT,hE⟩
def F6 (I:Inv X pins σ H s) (hst:X.stack=X.env :: X.outer) (hfr:X.env.frame=some X.env.locals) (hex:X.ex=[]) (he:H e=some (.vV C dx fs)) (hF:Fl s.heap e C (some dx) T0 (rawInt X.env.locals)) (nt:H T0=none) (Zv:X.s₀.heap.objs.size<=T0) (hE:E0 (.ref e) (some e) H):
  wpAny (model X.prog X.w) X.A (leaving X.env (.ref e)) (fun _ s''=>Ea X.prog X.w X.outer X.H₀ X.s₀ E0 (.ref e) s'') (fun e' s''=>Ea X.prog X.w X.outer X.H₀ X.s₀ E0 e' s'') s:=by
 have st:=I.stack;rw[hst] at st;have Zw:∀b∈(X.env :: X.outer).filterMap (·.frame),H b=none:=fun b hb=>I.ve b (by rw[hst];exact hb);obtain⟨_,_,oT,tt,_,_,_,_,_,_,hT,FW,_⟩:=id hF;have nT:=Jq st hT FW;refine aae (BA hfr hF (rJ hF fun h2 sz kp Ar=>?_));have c2:Ch ((X.env :: X.outer).filterMap (·.frame)) e T0 s.heap h2:=⟨fun b o _ _ hbT q=>kp b o hbT q,fun b o hb q=>⟨o.slots,kp b o (fun z=>nT (by rw[<-z];exact hb)) q⟩,Nat.le_of_eq sz.symm⟩
 exact⟨e,C,dx,T0,fs,H,rfl,I.os,I.bare,NV I hst hfr hex (by rw[hst];exact c2) he (let⟨oe,_,z,_⟩:=Ar.obj;⟨oe,z⟩) (.inr Zv),HL I.hok c2 Zw nt he Ar.obj,⟨he,Ar,nt⟩,Zv,hE⟩
end
abbrev XQ:=St->Addr->Hp->Prop
inductive Mb (X:Cx) (pins:AAG) (Q:XQ) (ev:Value) (s':Shared):Prop
 | mk (e C dx:Addr) (fs:List (Str×V)) (σ':St) (H':Hp) (hv:ev= .ref e) (I:Inv X pins σ' H' s') (at_:H' e=some (.vV C dx fs))
   (fl:(∃t,s'.heap.get? e=some (D9 C (some dx) t))\/∃T fl,(fl= .none\/fl=rawInt X.env.locals)/\Fl s'.heap e C (some dx) T fl/\H' T=none/\X.s₀.heap.objs.size<=T/\∀p∈X.pn++pins,p.1≠T) (q:Q σ' e H')
abbrev TX:=St->Hp->XQ->Prop
def Rl (X:Cx) (e:Expr) (t:TX):Prop:=∀(pins:AAG) (s:Shared) (σ:St) (H:Hp) (Q:XQ),Inv X pins σ H s->t σ H Q->wpAny (model X.prog X.w) X.A (eval e X.env) (fun _ _=>False) (Mb X pins Q) s
def VI (X:Cx) (st:Stmt) (t:TX):Prop:=∀(pins:AAG) (s:Shared) (σ:St) (H:Hp) (Q:XQ),Inv X pins σ H s->t σ H Q->wpAny (model X.prog X.w) X.A (exec st X.env) (fun _ _=>False) (Mb X pins Q) s
def HN (X:Cx) (st:BBH) (t:TX):Prop:=∀(pins:AAG) (s:Shared) (σ:St) (H:Hp) (Q:XQ),Inv X pins σ H s->t σ H Q->wpAny (model X.prog X.w) X.A (execs st X.env) (fun _ _=>False) (Mb X pins Q) s
def PS.wait {t:TS}(h:PS X st t) (hx:X.xe=fun _ _=>False){s:Shared}{D:Ends}(I:Inv X pins σ H s) (hw:t D σ H):
  wpAny (model X.prog X.w) X.A (exec st X.env) (SP X pins D) E s:=aat (h pins s σ H D I hw) (fun _ _ z=>z) fun e s' z=>by rw[hx] at z;exact z.elim
def PE.wait {e:Expr}{t:TE}(h:PE X e t) (hx:X.xe=fun _ _=>False){s:Shared}{Q:VK}(I:Inv X pins σ H s) (hw:t σ H Q):
  wpAny (model X.prog X.w) X.A (eval e X.env) (EP X pins σ Q) E s:=aat (h pins s σ H Q I hw) (fun _ _ z=>z) fun e s' z=>by rw[hx] at z;exact z.elim
def PT.wait {e:Expr}{t:TT}(h:PT X e t) (hx:X.xe=fun _ _=>False){s:Shared}{Q:Bool->Hp->Prop}(I:Inv X pins σ H s) (hw:t σ H Q):
  wpAny (model X.prog X.w) X.A (isTrue e X.env (eval e X.env)) (TP X pins σ Q) E s:=aat (h pins s σ H Q I hw) (fun _ _ z=>z) fun e s' z=>by rw[hx] at z;exact z.elim
section
variable {X:Cx}{a:Stmt}{r:BBH}{t u:TX}{ts:TS}
def Dd (h:VI X a t):HN X (a :: r) t:=fun pins s σ H Q I hw=>ae1 (aat (h pins s σ H Q I hw) (fun _ _ z=>z.elim) fun _ _ z=>z)
def Js (hx:X.xe=fun _ _=>False) (h:PS X a ts) (h2:HN X r u):HN X (a :: r) fun σ H Q=>ts {nx:=fun σ' H'=>u σ' H' Q,rt:=fun _ _=>False} σ H:=fun pins s σ H Q I hw=>
 ae1 (aat (h.wait hx I hw) (fun f s' z=>by
  cases f with
  | next=>obtain⟨σ',H',I',q⟩:=z;exact h2 pins s' σ' H' Q I' q
  | brk=>obtain⟨_,_,_,q⟩:=z;exact q.elim
  | cont=>obtain⟨_,_,_,q⟩:=z;exact q.elim
  | ret v=>obtain⟨_,_,_,_,_,q⟩:=z;exact q.elim) fun _ _ z=>z)
end
section
variable {P:Program}{w:World}{K:AAD}{mg:AAF}{base:Heap}
def Je.okX {qual:Str}{f:Addr}{sp:Sp}(F:Je K x qual st f fd) (S:bD N ps (aJ st)) (len:∀vs H Q E,sp vs H Q E->vs.length=ps.length)
  (hbody:∀(cdv:Value) (A:Around) (outer:BBF) (s:Shared) (H:Hp) (vs:List V) (Q:VK) (E:XK),dM k (A.deeper (envOfC qual (aJ st) s.heap.objs.size f cdv))->sp vs H Q E->
   ∃t,HN (wu xV P w K mg base N qual (aJ st) f cdv A outer s H E).L7 (fE st) t/\t (start N vs) H fun _ e H'=>E (.ref e) (some e) H'):gQ P w K mg base (Ea P w) (k+1) f fd ps sp:=by
 obtain⟨oc,od,kV,doc,pm,an,cdv,ct,osl,rfl,lk,hcd⟩:=F.ex;refine Tr lk hcd S len fun A outer s H vs Q E hr Pw=>?_;obtain⟨t,h,q⟩:=hbody cdv A outer s H vs Q E hr Pw;refine⟨fun _ σ H1=>t σ H1 fun _ e H'=>E (.ref e) (some e) H',fun pins s1 σ H1 D I hw=>?_,q⟩;have I0:Inv (wu xV P w K mg base N qual (aJ st) f cdv A outer s H E).L7 pins σ H1 s1:=⟨⟨I.ok.mod,I.ok.kind,I.ok.glob,I.ok.blt,I.ok.above,I.ok.inj,I.ok.has,I.ok.Td,I.ok.hd,I.ok.frames,I.ok.stk,I.ok.Xk,I.ok.bs,I.ok.L6,I.ok.EY,I.ok.EZ,I.ok.wm,I.ok.Pu⟩,I.os,I.bare,I.base,I.loc,I.cell,I.free,I.n8,I.pin,I.hok,I.len⟩
 refine aat (h pins s1 σ H1 _ I0 hw) (fun _ _ z=>z.elim) fun ev s' z=>?_;obtain⟨e,C,dx,fs,σ',H',rfl,I',at_,fl,hq⟩:=z;have I2:Inv (wu (Ea P w) P w K mg base N qual (aJ st) f cdv A outer s H E) pins σ' H' s':=⟨⟨I'.ok.mod,I'.ok.kind,I'.ok.glob,I'.ok.blt,I'.ok.above,I'.ok.inj,I'.ok.has,I'.ok.Td,I'.ok.hd,I'.ok.frames,I'.ok.stk,I'.ok.Xk,I'.ok.bs,I'.ok.L6,I'.ok.EY,I'.ok.EZ,I'.ok.wm,I'.ok.Pu⟩,I'.os,I'.bare,I'.base,I'.loc,I'.cell,I'.free,I'.n8,I'.pin,I'.hok,I'.len⟩
 rcases fl with⟨tt,ho⟩ | ⟨T,f1,hf,hF,nt,hT,_⟩
 ·exact FZ I2 rfl rfl rfl at_ ho hq
 ·rcases hf with rfl | rfl
  ·exact HM I2 rfl rfl rfl ⟨at_,hF,nt⟩ hT hq
  ·exact F6 I2 rfl rfl rfl at_ hF nt hT hq
end
section
variable {X:Cx}{k:Nat}{f:Addr}{fd:FuncData}{ps:BBB}{sp:Sp}{sW:List V}{ds:AAL}{x:Str}{p pos:Pos}{e:Expr}{es:BBC}{t:TA}
def PA.wait (h:PA X es t) (hx:X.xe=fun _ _=>False){s:Shared}{Q:List V->Hp->Prop}(I:Inv X pins σ H s) (hw:t σ H Q):
  wpAny (model X.prog X.w) X.A (spliced (backTo pos (starEach es X.env))) (AP X pins σ Q) E s:=aat (h pos pins s σ H Q I hw) (fun _ _ z=>z) fun e s' z=>by rw[hx] at z;exact z.elim
def Eb {s:Shared}{Q:XQ}{vs:List V}(F:gQ X.prog X.w X.K X.mg X.base (Ea X.prog X.w) k f fd ps sp) (hr:dM k X.A) (hb:Binds X.K fd ps ds) (hd:Vals sW ds)
  (I:Inv X pins σ H s) (r:Vals vs us) (h:sp (vs++sW) H (fun _ _=>False) fun ev _ H'=>∃a,ev= .ref a/\Q σ a H'):wpAny (model X.prog X.w) X.A (call (.ref f) us) (fun _ _=>False) (Mb X pins Q) s:=by
 have r2:Vals (vs++sW) (us++ds):=r.append hd;have hl:(us++ds).length=ps.length:=by rw[<-r2.length];exact F.len _ _ _ _ h
 refine aeD (aeH (F.run X.A X.stack s H ⟨us,[]⟩ (us++ds) (vs++sW) _ _ hr I.Qa (hb s us I.sV hl) r2 h) fun r s' hq=>?_);cases r with
 | error ev=>
  obtain⟨e,C,dx,T,fs,H',rfl,os,bare,un,hok,fl,hT,a,z,hq⟩:=(show Ea X.prog X.w X.stack H s (fun ev _ H'=>∃a,ev= .ref a/\Q σ a H') ev s' from hq)
  cases z;exact⟨e,C,dx,fs,σ,H',rfl,I.Tg (ch:=[]) os un hok bare fun b z=>absurd z (by simp),fl.at_,.inr ⟨T,.none,.inl rfl,fl.fly,fl.nt,aaA I.sz hT,fun p hp z=>absurd (aaq (I.pin p hp).1) (by rw[z];exact afw.mpr hT)⟩,hq⟩
 | ok fl=>
  cases fl with
  | ret u=>obtain⟨_,_,_,_,_,_,_,z⟩:=(show CE X.stack X.prog X.w H s (fun _ _=>False) u s' from hq);exact z
  | next=>exact False.elim hq
  | brk=>exact False.elim hq
  | cont=>exact False.elim hq
def Rm (F:gQ X.prog X.w X.K X.mg X.base (Ea X.prog X.w) k f fd ps sp) (hx:X.xe=fun _ _=>False) (hr:dM k X.A) (hg:Gl X x) (hm:X.mg x=some (.ref f)) (hk:PySem.W.keepIn X.K (.ref f)=true) (hb:Binds X.K fd ps ds) (hd:Vals sW ds)
  (ha:PA X (e :: es) t) (hdb:BBT x:=by decide) (he:starEach (e :: es) X.env=(false,eval e X.env) :: starEach es X.env:=by rfl) (hpl:(backTo pos (starEach es X.env)).any (·.1)=false:=by rfl):
  Rl X (.Call (.Name x p) (e :: es) [] pos) fun σ H Q=>t σ H fun vs H1=>sp (vs++sW) H1 (fun _ _=>False) fun ev _ H'=>∃a,ev= .ref a/\Q σ a H':=by
 intro pins s σ H Q I h;refine acf (pN I hg hm ?_ hdb);refine acA (h₀:=X.base) I.ok.mod.PY hk (dN (ha.wait hx I h) fun us s1 hh=>?_) he hpl;obtain⟨vs,H1,I1,r,q⟩:=hh;exact⟨I1.sV,Eb F hr hb hd I1 r q⟩
def NW {g:Str}{tx:TX}{gf:Addr}(h:Rl X e tx) (hg:Gl X g) (hm:X.mg g=some (.ref gf)) (hk:PySem.W.keepIn X.K (.ref gf)=true) (hdb:BBT g:=by decide)
  (he:starEach [e] X.env=[(false,eval e X.env)]:=by rfl):Rl X (.Call (.Name g p) [e] [] pos) tx:=by
 intro pins s σ H Q I hw;refine acf (pN I hg hm ?_ hdb);refine acA (h₀:=X.base) I.ok.mod.PY hk ?_ he rfl;rw[he];exact abA (aat (h pins s σ H Q I hw) (fun _ _ z=>z.elim) fun _ _ z=>z)
end
def EU (a C t:Addr) (dx:BBN):HO:=.ext fun h=>h.get? a=some (D9 C dx t)
section
variable {X:Cx}{pins:AAG}{σ:St}{H:Hp}{s:Shared}{a C t:Addr}{cd:ClassData}{f:Str}{y:V}{u:Value}{A:Around}{E:AAE}{Q:Unit->Shared->Prop}
def VJ (I:Inv X pins σ H s) (e:H a=some (EU a C t none)) (c:Ll X.K C cd) (n:fX X.K C f) (ry:RelV y u)
  (h:∀s',H s.heap.objs.size=none->s.heap.objs.size≠a->Inv X pins σ (upd (upd H s.heap.objs.size (.xd [(f,y)])) a (EU a C t (some s.heap.objs.size))) s'->Q () s'):wpAny (model X.prog X.w) A (setAttr (.ref a) f u) Q E s:=by
 have hx:s.heap.get? a=some (D9 C none t):=(I.hok a _ e).1;have hz:H s.heap.objs.size=none:=I.hok.fresh (aap _);have ne:s.heap.objs.size≠a:=Nat.ne_of_gt (aaq hx);refine NU I.sV hx c n fun h' tk ho hN kp=>h _ hz ne ?_;have ed:upd (upd H s.heap.objs.size (.xd [(f,y)])) a (EU a C t (some s.heap.objs.size)) s.heap.objs.size=some (.xd [(f,y)]):=by rw[aX ne,aY]
 have PF:∀b,b≠a->b≠s.heap.objs.size->upd (upd H s.heap.objs.size (.xd [(f,y)])) a (EU a C t (some s.heap.objs.size)) b=H b:=fun b h1 h2=>by rw[aX h1,aX h2]
 have lt:∀b o,s.heap.get? b=some o->b≠s.heap.objs.size:=fun b o q=>abr (aaq q);have na:∀b,H b=none->b≠a:=fun b q z=>by rw[z,e] at q;cases q
 have nz:∀b v,H b=some v->b≠s.heap.objs.size:=fun b v q z=>by rw[z,hz] at q;cases q
 refine I.un ⟨fun b o q m _ _=>kp b o (na b m) q,fun b o q m _ _=>⟨o.slots,kp b o (na b m) q⟩,fun b o q m _=>by rw[PF b (na b m) (lt b o q)];exact m,fun b o q _=>?_,fun b xs q=>?_,fun b o v q=>?_,fun b ps q=>⟨#[],?_⟩⟩ fun b o q=>?_
 ·by_cases hb:b=a
  ·rw[hb];exact⟨_,ho⟩
  ·exact⟨o,kp b o hb q⟩
 ·rw[PF b (fun z=>by rw[z,e] at q;cases q) (nz b _ q)];exact q
 ·rw[PF b (fun z=>by rw[z,e] at q;cases q) (nz b _ q)];exact q
 ·rw[PF b (fun z=>by rw[z,e] at q;cases q) (nz b _ q),q];simp
 ·by_cases hb:b=a
  ·subst hb;rw[aY] at q;cases q;exact⟨ho,⟨_,ho⟩,fun h1 h2 p k=>k _ p⟩
  ·by_cases hd:b=s.heap.objs.size
   ·subst hd;rw[ed] at q;cases q;refine⟨_,hN,fun g=>?_,fun g hg=>?_⟩
    ·by_cases z:g=f
     ·subst z;simp[List.lookup];exact ry
     ·have:(g == f)=false:=by simpa using z
      simp[List.lookup,this,z];trivial
    ·by_cases z:g=f
     ·simp[z]
     ·simp[z] at hg
   ·rw[PF b hb hd] at q;refine(I.hok b o q).stay (fun d v hd' z=>kp d v (fun z'=>?_) z) (fun d z=>?_) fun d xs z=>?_
    ·rcases hd' with r | r
     ·exact hb (r.symm.trans z')
     ·rw[z',e] at r;cases r
    ·rw[PF d (fun z'=>by rw[z',e] at z;cases z) (nz d _ z)];exact z
    ·rw[PF d (fun z'=>by rw[z',e] at z;cases z) (nz d _ z)];exact z
end
section
variable {X:Cx}{C:Addr}{cd:ClassData}{f:Str}{o value:Expr}{ta tv:TE}{pos pos':Pos}
def VL (c:Ll X.K C cd) (n:fX X.K C f) (ha:PE X o ta) (hv:PE X value tv) (hs:swapsWith value (some (.Attribute o f pos')) pos.line X.env=pure false):PS X (.Assign [.Attribute o f pos'] value pos)
  fun D σ H=>tv σ H fun y H1=>ta σ H1 fun x H2=>∃a t,x= .ref a/\H2 a=some (EU a C t none)/\∀dx,H2 dx=none->dx≠a->D.nx σ (upd (upd H2 dx (.xd [(f,y)])) a (EU a C t (some dx))):=by
 intro pins s σ H D I h;refine afi (dN (hv pins s σ H _ I h) fun u s1 h1=>?_) hs;obtain⟨y,H1,I1,ry,q⟩:=h1;refine dN (ha pins s1 σ H1 _ I1 q) fun ov s2 hh=>?_;obtain⟨x,H2,I2,rx,a,t,ex,ea,q2⟩:=hh;subst ex;obtain rfl:ov=Value.ref a:=rx;exact VJ I2 ea c n ry fun s3 hz ne I3=>⟨σ,_,I3,q2 _ hz ne⟩
end
def g7.has {P:Program}{w:World}{h:Heap}{a:Addr}{o:HO}(x:g7 P w H h a o):∃ob,h.get? a=some ob:=by
 cases o with
 | lst xs=>obtain⟨_,_,_,_,e⟩:=x;exact⟨_,e⟩
 | tup xs=>obtain⟨_,_,_,ob,e,_⟩:=x;exact⟨_,e⟩
 | dK kvs=>obtain⟨_,_,_,_,o,_,_,e,_⟩:=x;exact⟨_,e⟩
 | dT kvs=>exact x.elim
 | set S n=>obtain⟨o,_,_,_,e,_⟩:=x;exact⟨_,e⟩
 | ins C dx fs=>obtain⟨_,_,_,e,_⟩:=x;exact⟨_,e⟩
 | vV C dx fs=>obtain⟨_,_,_,⟨_,_,e,_⟩,_⟩:=x;exact⟨_,e⟩
 | own y=>exact x
 | xd fs=>obtain⟨_,⟨_,_,_,e,_⟩,_⟩:=x;exact⟨_,e⟩
 | B6 lo hi=>obtain⟨_,_,_,e⟩:=x;exact⟨_,e⟩
 | mZ ob u=>obtain⟨e,_⟩:=x;exact⟨_,e⟩
 | Tc ps=>exact⟨_,(show h.get? a=some _ from x)⟩
 | met f y=>exact⟨_,(show h.get? a=some _ from x)⟩
 | ext φ=>obtain⟨_,e,_⟩:=x;exact e
structure XMk (K:AAD) (C fI:Addr) (bm bmB:AAL) (B newId initId:String):Prop where
 obj:∃nm q N bs hdct sn sub ab col dd k0 k1 k2 k3 k5,K.lookup C=some (excClassObj nm q C N bs bm hdct sn sub ab col dd k0 k1 k2 k3 k5 newId)/\PySem.W.nsOkIn K N=true/\PySem.W.nsIn K N "__init__" =some (some (.ref fI))
 tail:PySem.W.tailIn K bmB bm=true
 fac:ExcBaseFacts B newId initId bmB
 XC:bmB.contains (.type "BaseException")=true
 fn:∃oI,K.lookup fI=some oI/\oI.cls= .type "function"
section
variable {X:Cx}{pins:AAG}{σ:St}{H:Hp}{s:Shared}{a C t dx:Addr}{fs:List (Str×V)}
def Inv.Zx {h':Heap}(I:Inv X pins σ H s) (m:Heap.MadeExcOf s.heap h' a (.ref C) us):∃t,H a=none/\Inv X pins σ (upd H a (EU a C t none)) {s with heap:=h'}:=by
 obtain⟨t,ho,_,_⟩:=m.there;have hn:H a=none:=by
  cases q:H a with
  | none=>rfl
  | some o=>obtain⟨ob,z⟩:=(I.hok a o q).has;rw[m.new] at z;cases z
 refine⟨t,hn,?_⟩;have na:∀b o,s.heap.get? b=some o->b≠a:=fun b o q z=>by rw[z,m.new] at q;cases q
 have nh:∀b v,H b=some v->b≠a:=fun b v q z=>by rw[z,hn] at q;cases q
 refine I.un (t':=s.toks) ⟨fun b o q _ _ _=>m.keeps b o q,fun b o q _ _ _=>⟨o.slots,m.keeps b o q⟩,fun b o q z _=>by rw[aX (na b o q)];exact z,fun b o q _=>⟨o,m.keeps b o q⟩,fun b xs q=>by rw[aX (nh b _ q)];exact q,fun b o v q=>by rw[aX (nh b _ q)];exact q,fun b ps q=>⟨#[],by rw[aX (nh b _ q),q];simp⟩⟩ fun b o q=>?_;by_cases hb:b=a
 ·subst hb;rw[aY] at q;cases q;exact⟨ho,⟨_,ho⟩,fun h1 h2 p k=>k _ p⟩
 ·rw[aX hb] at q;exact(I.hok b o q).stay (fun c v _ z=>m.keeps c v z) (fun c z=>by rw[aX (nh c _ z)];exact z) fun c xs z=>by rw[aX (nh c _ z)];exact z
def Inv.VM (I:Inv X pins σ H s) (e:H a=some (EU a C t (some dx))) (ed:H dx=some (.xd fs)) (hl:fs.length<=1000):Inv X pins σ (upd (upd H dx (.own a)) a (.vV C dx fs)) s:=by
 have ne:dx≠a:=fun z=>by rw[z,e] at ed;cases ed
 have ho:s.heap.get? a=some (D9 C (some dx) t):=(I.hok a _ e).1;obtain⟨mA,hN,r,wi⟩:=(show g7 X.prog X.w H s.heap dx (.xd fs) from I.hok dx _ ed)
 have hd:∃o,s.heap.get? dx=some o:=let⟨o,_,_,z,_⟩:=hN;⟨o,z⟩
 have I1:Inv X pins σ (upd H dx (.own a)) s:=I.write (x:=dx) (e:=dx) (t':=s.toks) (by rw[ed];exact True.intro) (.inl rfl) (fun b q _ z=>z) hd hd;exact I1.write (x:=a) (e:=a) (t':=s.toks) (by rw[aX ne.symm,e];exact True.intro) (.inl rfl) (fun b q _ z=>z) ⟨_,ho⟩ ⟨by rw[aX ne,aY],hl,ne,⟨_,_,ho,rfl,rfl,rfl⟩,mA,hN,r,wi⟩
end
def HP {h:Heap}{N:Addr}{mg:AAF}{n:Str}{v:Value}(X:K.In h) (G:h.Ns N mg) (e:PySem.W.nsIn K N n=some (some v)):mg n=some v:=by
 obtain⟨ob,ee,e0,gb,gd,_,fnd⟩:=G;unfold PySem.W.nsIn at e;split at e
 ·rename_i k1 k2 k3 k4 k5 look;have w:=X _ _ look;rw[gb] at w;cases w;cases gd;split at e
  ·rename_i en hit;cases e;rw[<-fnd];unfold nsFind findBy;rw[<-Array.find?_toList,hit];rfl
  ·split at e <;> cases e
 ·cases e
section
variable {X:Cx}{C fI:Addr}{bm bmB:AAL}{B newId initId:String}{kI:Nat}{TY:FuncData}{PJ:BBB}{Rn:Sp}{x:Str}{np cpos pos:Pos}{e:Expr}{es:BBC}{t:TA}
def NX (M:XMk X.K C fI bm bmB B newId initId) (FI:gQ X.prog X.w X.K X.mg X.base xV kI fI TY PJ Rn) (hx:X.xe=fun _ _=>False) (hc:X.calm=true) (hr:dM (kI+1) X.A) (hg:Gl X x) (hm:X.mg x=some (.ref C)) (hk:PySem.W.keepIn X.K (.ref C)=true) (hb:Binds X.K TY PJ [])
  (ha:PA X (e :: es) t) (hdb:BBT x:=by decide) (he:starEach (e :: es) X.env=(false,eval e X.env) :: starEach es X.env:=by rfl) (hpl:(backTo cpos (starEach es X.env)).any (·.1)=false:=by rfl):
  VI X (.Raise (some (.Call (.Name x np) (e :: es) [] cpos)) none pos) fun σ H Q=>t σ H fun vs H1=>vs.length<=sizeLine/\∀a tt,H1 a=none->
   Rn (.ref a :: vs) (upd H1 a (EU a C tt none)) (fun v H2=>v= .cM/\∃dx fs,H2 a=some (EU a C tt (some dx))/\H2 dx=some (.xd fs)/\fs.length<=1000/\Q σ a (upd (upd H2 dx (.own a)) a (.vV C dx fs))) E0:=by
 intro pins s σ H Q I h;obtain⟨nm,q,N,bs,hdct,sn,sub,ab,col,dd,k0,k1,k2,k3,k5,lk,nso,nsi⟩:=M.obj;obtain⟨oI,lkI,hfc⟩:=M.fn;have tl:∀{h:Heap},X.K.In h->OwnTail h bmB bm:=fun {h} z=>PySem.W.tail_of_in z M.tail;rw[arm_exec_Raise];refine aae (afH (NT (C:=C) (nm:=nm) (q:=q) (N:=N) (bs:=bs) (bm:=bm) (hdct:=hdct) (sn:=sn) (sub:=sub) (ab:=ab) (col:=col) (dd:=dd) (k0:=k0) (k1:=k1) (k2:=k2) (k3:=k3) (k5:=k5) (newId:=newId) ((tl I.sV).hasType M.XC) (I.ok.hd hc) (aae (aat ?_ (fun v s1 z=>aae (afH (aah z))) fun _ _ z=>z))));refine acf (pN I hg hm ?_ hdb);refine acA (h₀:=X.base) I.ok.mod.PY hk (dN (ha.wait hx I h) fun us s1 hh=>?_) he hpl;obtain⟨vs,H1,I1,r,hz,q1⟩:=hh;refine⟨I1.sV,?_⟩;obtain⟨hp,g,d,tk,os⟩:=s1;have KI:X.K.In hp:=I1.sV;have Nn:hp.Ns N (hp.nsMap N):=.of_isNs (PySem.W.isNs_of_in KI nso);refine Ri M.fac (tl KI) (KI _ _ lk) Nn (HP KI Nn nsi) (KI _ _ lkI) hfc (fun h' a m=>?_) (by show us.length<=sizeLine;rw[<-r.length];exact hz);obtain⟨tt,hn,I2⟩:=I1.Zx m;have sp:=q1 a tt hn;have r2:Vals (V.ref a :: vs) (Value.ref a :: us):=.cons rfl r;have hl:(Value.ref a :: us).length=PJ.length:=by rw[<-r2.length];exact FI.len _ _ _ _ sp
 refine aeD (aeH (FI.run (X.A.under (.builtin "type.__call__" ⟨.ref C :: us,[]⟩)) X.stack _ _ ⟨.ref a :: us,[]⟩ (.ref a :: us) _ _ E0 (hr.make C us []) (I2.Qa.make C us []) (by have:=hb _ (.ref a :: us) I2.sV (by rw[abU];exact hl);rw[abU] at this;exact this) r2 sp) fun r s' hq=>?_);cases r with
 | error ev=>exact(show False from hq).elim
 | ok fl=>
  cases fl with
  | next=>exact False.elim hq
  | brk=>exact False.elim hq
  | cont=>exact False.elim hq
  | ret u=>
   obtain⟨v,H3,I3,rv,ev,dx,fs,e1,e2,e3,q3⟩:=I2.after hq;subst ev;exact⟨rv,a,tt,some dx,rfl,I3.sV _ _ lk,(I3.hok a _ e1).1,⟨a,C,dx,fs,σ,_,rfl,I3.VM e1 e2 e3,aY,.inl ⟨tt,(I3.hok a _ e1).1⟩,q3⟩⟩
end
section
variable {X:Cx}{pins:AAG}{σ:St}{H:Hp}{s:Shared}{M:Model}{A:Around}{E:AAE}
def VN {i:Nat}{n:Str}{Q:Bool->Shared->Prop}(I:Inv X pins σ H s) (hN:X.N.Nodup) (hi:X.N[i]? =some n) (v:V) (hs:σ[i]? =some (some v)) (hk:X.env.kindOf n=some .local)
  (h:∀s',Inv X pins (σ.set i none) H s'->Q true s'):wpAny M A (nsDel X.env.locals n) Q E s:=by
 obtain⟨m,hn,hl⟩:=id I.loc;have hb:(m n).isSome=true:=by
  obtain⟨u,_,z⟩:=hl i n v hi hs (.inl hk);rcases z with⟨_,z⟩ | ⟨z,_⟩
  ·rw[z];rfl
  ·rcases z with z | z <;> (rw[hk] at z;cases z)
 refine wpAny_nsDel_keeps hn fun h' w hn' sb=>?_;rw[hb];have Xl:∀b o,X.s₀.heap.get? b=some o->b≠X.env.locals:=fun b o q=>abr (aau (aaq q) I.ok.above);have Kw:i < σ.length:=by rw[I.len];exact(aay.mp hi).1
 refine h _ ⟨I.ok,I.os,I.bare,⟨fun b o q z hb hx=>(sb.2 b (Xl b o q)).trans (I.base.keep b o q z hb hx),fun b o q z hb hx=>?_,I.base.free,fun b o q hx=>?_,I.base.tups,I.base.Al,I.base.A2⟩,⟨_,hn',fun j y v' e1 e2 e3=>?_⟩,fun y c q=>?_,I.free,I.n8,fun p hp=>?_,fun b o q=>?_,by simpa using I.len⟩
 ·obtain⟨sl,r⟩:=I.base.slot b o q z hb hx;exact⟨sl,(sb.2 b (Xl b o q)).trans r⟩
 ·obtain⟨o',r⟩:=I.base.there b o q hx;exact⟨o',(sb.2 b (Xl b o q)).trans r⟩
 ·by_cases hj:j=i
  ·subst hj;rw[abv Kw] at e2;cases e2
  ·rw[aaG (acz hj)] at e2;obtain⟨u,r,q⟩:=hl j y v' e1 e2 e3;refine⟨u,r,?_⟩;rcases q with⟨k,q⟩ | ⟨k,c,q,z⟩
   ·have:y≠n:=fun z=>hj (A3 hN e1 (z▸hi));exact .inl ⟨k,by simp[this,q]⟩
   ·exact .inr ⟨k,c,q,z.sameBut sb (I.PZ y c q)⟩
 ·obtain⟨u,z⟩:=I.cell y c q;exact⟨u,z.sameBut sb (I.PZ y c q)⟩
 ·obtain⟨q,z,ne,nf,d⟩:=I.pin p hp;exact⟨(sb.2 p.1 ne).trans q,z,ne,nf,d⟩
 ·refine(I.hok b o q).stay (fun c u hc z=>(sb.2 c fun z'=>?_).trans z) (fun _ z=>z) fun _ _ z=>z;rcases hc with r | r
  ·rw[<-r,z',I.free] at q;cases q
  ·rw[z',I.free] at r;cases r
def AM {i:Nat}{n:Str}{pos:Pos}{Q:Unit->Shared->Prop}(I:Inv X pins σ H s) (hN:X.N.Nodup) (hi:X.N[i]? =some n) (hk:X.env.kindOf n=some .local) (h:∀s',Inv X pins (σ.set i none) H s'->Q () s'):
  wpAny M A (do bindName X.env n .none;unbindBehindTheSuite X.env n pos) Q E s:=by
 have hp:(X.env.scope.kind == .class || (X.env.scope.kind == .module && X.env.locals != X.env.globals))=false:=by rw[I.ok.kind];rfl
 have Kw:i < σ.length:=by rw[I.len];exact(aay.mp hi).1
 refine aae (wpAny_bindName (xQ (v:=.cM) I hN hi (.inl hk) rfl (fun s1 I1=>?_) (.inr hk)));unfold unbindBehindTheSuite;refine wpAny_onRaise ?_;unfold unbindName;refine aae (wpAny_point (aae ?_));unfold deleteName;simp only[hk,hp];rw[if_neg (by decide)];refine aae (VN I1 hN hi .cM (abv Kw) hk fun s2 I2=>?_);rw[List.set_set] at I2;simp only[if_true,Bool.not_true,Bool.false_eq_true,afe];exact aah (wpAny_point (h _ (I2.tok _)))
def Inv.ch {h':Heap}{e C dx:Addr}{fs:List (Str×V)}(I:Inv X pins σ H s) (ch:Ch (frs X.stack) e e s.heap h') (he:H e=some (.vV C dx fs)) (hF:∃oe vs,h'.get? e=some oe/\oe.cls= .ref C/\oe.dict=some dx/\oe.data= .fields vs):Inv X pins σ H {s with heap:=h'}:=by
 have ne:∀b,H b=none->b≠e:=fun b q z=>by rw[z,he] at q;cases q
 have hok:sO X.prog X.w H h':=fun a o q=>by
  have kp:∀b u v,H b=some v->b≠e->s.heap.get? b=some u->h'.get? b=some u:=fun b u v hb hne z=>ch.keep b u (fun m=>by rw[I.ve b m] at hb;cases hb) hne hne z;by_cases ha:a=e
  ·subst ha;rw[he] at q;cases q;obtain⟨d,z,n1,_,mA,⟨od,es,ep,e2,c⟩,r⟩:=(show g7 X.prog X.w H s.heap a (.vV C dx fs) from I.hok a _ he)
   exact⟨d,z,n1,hF,mA,⟨od,es,ep,kp dx _ _ d n1 e2,c⟩,r⟩
  ·refine(I.hok a o q).stay (fun b u hb z=>?_) (fun _ z=>z) fun _ _ z=>z;rcases hb with r | r
   ·rw[r] at z ⊢;exact kp a u o q ha z
   ·exact kp b u _ r (fun m=>by rw[m,he] at r;cases r) z
 refine I.call (g':=s.gens) (d':=s.drawn) (t':=s.toks) (ch:=[]) ⟨fun b o q z hb _=>ch.keep b o hb (ne b z) (ne b z) q,fun b o q z hb _=>ch.slot b o hb q,fun _ _ _ z _=>z,fun b o q _=>?_,fun _ _ z=>z,fun _ _ _ z=>z,fun b ps z=>⟨#[],by rw[z];simp⟩⟩ hok I.bare fun b z=>absurd z (by simp);by_cases hb:b=e
 ·rw[hb];obtain⟨oe,_,z,_⟩:=hF;exact⟨oe,z⟩
 ·by_cases hm:b∈frs X.stack
  ·obtain⟨sl,z⟩:=ch.slot b o hm q;exact⟨_,z⟩
  ·exact⟨o,ch.keep b o hm hb hb q⟩
def Inv.chT {h':Heap}{e dx T:Addr}{fs:List (Str×V)}{oT:Obj}{tt:AAK}(I:Inv X pins σ H s) (kp:∀b o,b≠T->s.heap.get? b=some o->h'.get? b=some o) (he:H e=some (.vV C dx fs)) (hT:H T=none) (hz:X.s₀.heap.objs.size<=T) (hp:∀p∈X.pn++pins,p.1≠T) (gT:s.heap.get? T=some oT) (dT:oT.data= .fields tt) (hT':∃o,h'.get? T=some o):Inv X pins σ H {s with heap:=h'}:=by
 have nh:∀b v,H b=some v->b≠T:=fun b v q z=>by rw[z,hT] at q;cases q
 have hok:sO X.prog X.w H h':=fun a o q=>(I.hok a o q).stay (fun b u hb z=>kp b u (by
  rcases hb with r | r
  ·rw[r];exact nh a o q
  ·exact nh b _ r) z) (fun _ z=>z) fun _ _ z=>z
 refine I.call (g':=s.gens) (d':=s.drawn) (t':=s.toks) (ch:=[T]) ⟨fun b o q _ _ hx=>kp b o (fun z=>hx (by simp[z])) q,fun b o q _ _ hx=>⟨o.slots,kp b o (fun z=>hx (by simp[z])) q⟩,fun _ _ _ z _=>z,fun b o q hx=>⟨o,kp b o (fun z=>hx (by simp[z])) q⟩,fun _ _ z=>z,fun _ _ _ z=>z,fun b ps z=>⟨#[],by rw[z];simp⟩⟩ hok I.bare fun b hb=>?_;obtain rfl:b=T:=by simpa using hb
 refine⟨.inr hz,fun z=>?_,fun x c q z=>?_,hp⟩
 ·obtain⟨m,⟨o,es,ep,g,d,_⟩,_⟩:=I.loc;rw[<-z,gT] at g;cases g;rw[dT] at d;cases d
 ·obtain⟨v,o,g,d⟩:=I.cell x c q;rw[z,gT] at g;cases g;rw[dT] at d;cases d
end
noncomputable def Cx.hand (X:Cx) (e:Addr):Cx:={X with A:=X.A.mark (some (.ref e)),calm:=false}
section
variable {X:Cx}{pins:AAG}{σ:St}{H:Hp}{s:Shared}{e:Addr}
def Inv.hand (I:Inv X pins σ H s) (e:Addr):Inv (X.hand e) pins σ H s:=
 ⟨⟨I.ok.mod,I.ok.kind,I.ok.glob,I.ok.blt,I.ok.above,I.ok.inj,I.ok.has,I.ok.Td,(fun z=>by cases z),I.ok.frames,I.ok.stk,I.ok.Xk,I.ok.bs,I.ok.L6,I.ok.EY,I.ok.EZ,I.ok.wm,I.ok.Pu⟩,I.os,I.bare,I.base,I.loc,I.cell,I.free,I.n8,I.pin,I.hok,I.len⟩
def Inv.Ec (I:Inv (X.hand e) pins σ H s) (ok:X.Ok):Inv X pins σ H s:=⟨ok,I.os,I.bare,I.base,I.loc,I.cell,I.free,I.n8,I.pin,I.hok,I.len⟩
end
def BB (K:AAD) (C:Addr) (bm:AAL):Prop:=∃nm q N bs hdct sn sub ab col dd k0 k1 k2 k3 k5 newId,K.lookup C=some (excClassObj nm q C N bs bm hdct sn sub ab col dd k0 k1 k2 k3 k5 newId)
def NY {M:Model}{A:Around}{s:Shared}{e C0:Addr}{Ro:AAL}{Q:Bool->Shared->Prop}(X:K.In s.heap) (hC:BB K C bm) (h0:BB K C0 Ro) (he:s.heap.get? e=some oe) (hc:oe.cls= .ref C)
  (hb:Ro.contains (.type "BaseException")=true) (hin:(Value.ref C :: bm).contains (.ref C0)=true) (h:Q true s):wpAny M A (excMatches (.ref e) (.ref C0)) Q E s:=by
 obtain⟨nm,q,N,bs,hdct,sn,sub,ab,col,dd,k0,k1,k2,k3,k5,ni,lC⟩:=hC;obtain⟨nm',q',N',bs',afk,sn',sub',ab',col',Qg,j0,j1,j2,j3,j5,ni',l0⟩:=h0;obtain⟨hp,g,d,tk,os⟩:=s;have gC:hp.get? C=some _:=X _ _ lC;have g0:hp.get? C0=some _:=X _ _ l0;have hcB:(Value.ref C0 :: Ro).contains (.type "BaseException")=true:=by rw[List.contains_cons,hb,Bool.or_true]
 have hnt:=tc_notTuple;unfold excMatches
 repeat (first | (with_reducible refine acS he ?_;rw[hc]) | with_reducible refine acS g0 ?_ | (with_reducible refine aeE g0 ?_;rw[hcB]) | (with_reducible refine aeE gC ?_;rw[hin]) | wp_step)
 exact h
section
variable {X:Cx}{body suite:BBH}{b0:Stmt}{x n:Str}{np hpos pos:Pos}{tx:TX}{ts:Addr->TS}{i:Nat}{C0:Addr}{Ro:AAL}
def VO (hx:X.xe=fun _ _=>False) (hst:X.stack=X.env :: X.outer) (hfr:X.env.frame=some X.env.locals) (hN:X.N.Nodup) (hi:X.N[i]? =some n) (hk:X.env.kindOf n=some .local) (hg:Gl X x) (hm:X.mg x=some (.ref C0)) (h0:BB X.K C0 Ro) (hb0:Ro.contains (.type "BaseException")=true)
  (hb:HN X body tx) (hs:∀a,DB (X.hand a) (b0 :: suite) (ts a)) (hdb:BBT x:=by decide):PS X (.Try body [.ExceptHandler (some (.Name x np)) (some n) (b0 :: suite) hpos] [] [] pos)
  fun D σ H=>tx σ H fun σ1 a H1=>∃C dx fs bm,H1 a=some (.vV C dx fs)/\BB X.K C bm/\(Value.ref C :: bm).contains (.ref C0)=true/\
   ts a {nx:=fun σ2 H2=>D.nx (σ2.set i none) H2,rt:=D.rt,bk:=fun σ2 H2=>D.bk (σ2.set i none) H2,ct:=fun σ2 H2=>D.ct (σ2.set i none) H2} (σ1.set i (some (.ref a))) H1:=by
 intro pins s σ H D I h;refine wpAny_Try_except (aat (hb pins s σ H _ I h) (fun _ _ z=>z.elim) fun ev s1 thr=>?_);obtain⟨e,C,dx,fs,σ1,H1,rfl,I1,at_,fl,C',Xm,fs',bm,e1,hC,hin,q⟩:=thr;rw[at_] at e1;cases e1;have fr:X.A.frames=some (X.env :: X.outer):=by rw[I1.ok.frames,hst]
 have st:=I1.stack;rw[hst] at st;have key:∀h2 T,Inv X pins σ1 H1 {s1 with heap:=h2}->(∀h3:Heap,h3.objs.size=h2.objs.size->(∀b o,b≠T->h2.get? b=some o->h3.get? b=some o)->Fl h3 e C (some dx) T .none->Inv X pins σ1 H1 {s1 with heap:=h3})->Fl h2 e C (some dx) T .none->
   wpAny (model X.prog X.w) X.A (handleBy (.ref e) X.env [.ExceptHandler (some (.Name x np)) (some n) (b0 :: suite) hpos]) (SP X pins D) X.xe {s1 with heap:=h2}:=by
  intro h2 T I2 nxt hF;refine wpAny_handleBy_cons (codeAny_handlers_test ?_) (by intro q;cases q);refine pN (X:=X.hand e) (I2.hand e) hg hm ?_ hdb;obtain⟨oe,vs,ho,hc,_,_⟩:=hF.obj;refine NY I2.sV hC h0 ho hc hb0 hin ?_;refine codeAny_handlers_suite_as ?_;refine rJ (s:={s1 with heap:=h2}) hF fun h3 sz kp Zy=>?_;have I3:=nxt h3 sz kp Zy;refine xQ (v:=.ref e) I3 hN hi (.inl hk) rfl (fun s4 I4=>?_) (.inr hk);refine aat (hs e pins s4 _ H1 _ (I4.hand e) q) (fun f s5 z=>?_) fun ev s5 z=>?_
  ·cases f with
   | next=>obtain⟨σ5,H5,I5,z⟩:=z;exact AM (I5.Ec I.ok) hN hi hk fun s6 I6=>⟨_,H5,I6,z⟩
   | brk=>obtain⟨σ5,H5,I5,z⟩:=z;exact AM (I5.Ec I.ok) hN hi hk fun s6 I6=>⟨_,H5,I6,z⟩
   | cont=>obtain⟨σ5,H5,I5,z⟩:=z;exact AM (I5.Ec I.ok) hN hi hk fun s6 I6=>⟨_,H5,I6,z⟩
   | ret u=>obtain⟨v,σ5,H5,I5,rv,z⟩:=z;exact AM (I5.Ec I.ok) hN hi hk fun s6 I6=>⟨v,_,H5,I6,rv,z⟩
  ·exact(show False from by have:X.xe ev s5:=z;rw[hx] at this;exact this).elim
 have N1:∀h2 T,s1.heap.objs.size<=T->Ch (frs X.stack) e e s1.heap h2->Fl h2 e C (some dx) T .none->
   wpAny (model X.prog X.w) X.A (handleBy (.ref e) X.env [.ExceptHandler (some (.Name x np)) (some n) (b0 :: suite) hpos]) (SP X pins D) X.xe {s1 with heap:=h2}:=fun h2 T hT ch hF=>
  key h2 T (I1.ch ch at_ hF.obj) (fun h3 sz kp Zy=>I1.ch (ch.land hT sz kp) at_ Zy.obj) hF
 rcases fl with⟨t,ho⟩ | ⟨T,f1,hf,hF,nt,hz,hp⟩
 ·refine Bx fr st hfr ho fun h1 T hT ch hF=>rJ (s:={s1 with heap:=h1}) hF fun h2 sz kp Ar=>?_;exact N1 h2 T hT (by rw[hst];exact ch.land hT sz kp) Ar
 ·rcases hf with rfl | rfl
  ·refine By fr st hfr hF fun h1 T hT ch hF=>rJ (s:={s1 with heap:=h1}) hF fun h2 sz kp Ar=>?_;exact N1 h2 T hT (by rw[hst];exact ch.land hT sz kp) Ar
  ·obtain⟨_,_,oT,tt,_,_,_,_,_,_,gT,dT,_⟩:=id hF;refine BA hfr hF (rJ hF fun h2 sz kp Ar=>?_);have tT:∀{h:Heap},Fl h e C (some dx) T .none->∃o,h.get? T=some o:=fun {h} z=>by obtain⟨_,_,o,_,_,_,_,_,_,_,g,_,_⟩:=z;exact⟨o,g⟩
   exact key h2 T (I1.chT kp at_ nt hz hp gT dT (tT Ar)) (fun h3 sz3 kp3 Zy=>I1.chT (fun b o hb z=>kp3 b o hb (kp b o hb z)) at_ nt hz hp gT dT (tT Zy)) Ar
def Rp {h0:ExceptHandler}{hs:List ExceptHandler}{tb:TS}(hx:X.xe=fun _ _=>False) (hb:DB X body tb):PS X (.Try body (h0 :: hs) [] [] pos) tb:=fun pins s σ H D I h=>
 wpAny_Try_except (aat (hb pins s σ H D I h) (fun f s' z=>by cases f <;> first | exact afm z | exact z) fun ev s' z=>by rw[hx] at z;exact z.elim)
end
abbrev XV:=Addr×List (Str×D)
abbrev GX:=SS->Option (XV×SS)
inductive tX (K:AAD) (B:Base) (g:GX) (σ:St) (H:Hp) (Q:XQ):Prop
 | mk (S:SS) (F:Hp) (r:XV) (S':SS) (R:Rel K B S σ F H) (hg:g S=some (r,S')) (q:∀σ' a F' H',Rel K B S' σ' F' H'->(∀b o,F b=some o->F' b=some o)->sX F' (.ref a) r.1 r.2->Q σ' a H')
inductive tXE (K:AAD) (B:Base) (g:GX) (σ:St) (H:Hp) (Q:XQ):Prop
 | mk (S:SS) (F:Hp) (r:XV) (S':SS) (R:Rel K B S σ F H) (hg:g S=some (r,S')) (q:∀a F' H',Rel K B S' σ F' H'->Step S S' σ F H F' H'->sX F' (.ref a) r.1 r.2->Q σ a H')
def Rl.imp {e:Expr}{t t':TX}(h:Rl X e t) (k:∀σ H Q,t' σ H Q->t σ H Q):Rl X e t':=fun pins s σ H Q I q=>h pins s σ H Q I (k σ H Q q)
def VI.imp {e:Stmt}{t t':TX}(h:VI X e t) (k:∀σ H Q,t' σ H Q->t σ H Q):VI X e t':=fun pins s σ H Q I q=>h pins s σ H Q I (k σ H Q q)
structure F7 (X:Cx) (e:Expr) (g:GX):Prop where
 h:∀B,Rl X e (tXE X.K B g)
structure Mc (X:Cx) (st:Stmt) (g:GX):Prop where
 h:∀B,VI X st (tX X.K B g)
structure Cm (X:Cx) (st:BBH) (g:GX):Prop where
 h:∀B,HN X st (tX X.K B g)
abbrev FX:=List U->Option (XV×List MO)
def PK (K:AAD) (n:Nat) (f:FX):Sp:=fun vs H _ E=>vs.length=n/\∃F us r outs,Sub F H/\Paired (K3 K F H) vs us/\(addrs vs us).Nodup/\f us=some (r,outs)/\∀a F' H',Post F H F' H' (addrs vs us) outs->sX F' (.ref a) r.1 r.2->E (.ref a) (some a) H'
def d9 (n:Nat) (g:GX):FX:=fun us=>(g (us.map some++List.replicate (n - us.length) none)).bind fun o=>(aG us o.2).map fun os=>(o.1,os)
section
variable {P:Program}{w:World}{K:AAD}{mg:AAF}{base:Heap}
def okX {x qual:Str}{st:Stmt}{f:Addr}{fd:FuncData}{N ps:BBB}{k:Nat}{fx:FX}{g:GX}(F:Je K x qual st f fd) (Sc:bD N ps (aJ st))
  (hb:∀(cdv:Value) (A:Around) (outer:BBF) (s:Shared) (H:Hp) (E:XK),dM k (A.deeper (envOfC qual (aJ st) s.heap.objs.size f cdv))->Cm (wu xV P w K mg base N qual (aJ st) f cdv A outer s H E).L7 (fE st) g)
  (hf:∀us r,fx us=some r->d9 N.length g us=some r):gQ P w K mg base (Ea P w) (k+1) f fd ps (PK K ps.length fx):=by
 refine F.okX Sc (fun vs H Q E h=>h.1) fun cdv A outer s H vs Q E hr h=>?_;obtain⟨hlen,F0,us,r,outs,sb,ar,nd,hfm,q⟩:=h;have hrun:=hf us (r,outs) hfm;refine⟨_,(hb cdv A outer s H E hr).h ⟨lent vs us,F0,H⟩,?_⟩;have R0:=zb sb ar nd N rfl;obtain⟨⟨rr,S'⟩,ho,hrun⟩:=aj hrun;obtain⟨os,h1,h2⟩:=aB hrun;cases h2;exact⟨_,F0,_,S',R0,ho,fun σ' a F' H' R' le xr=>q a F' H' (post_of ar S' σ' F' H' outs R' h1) xr⟩
end
section
variable {X:Cx}
noncomputable def qd (ga:GX) (g:GS) (gb:GX):GX:=fun S=>match ga S with
 | some r=>some r
 | none=>match g S with
  | some (.nx S1)=>gb S1
  | _=>none
def VP {ga gb:GX}(hx:X.xe=fun _ _=>False) (ha:Mc X a ga) (h:JS X a g) (hb:Cm X r gb):Cm X (a :: r) (qd ga g gb):=⟨fun B pins s σ H Q I hw=>by
 obtain⟨S,F,rr,S',R,hg,q⟩:=hw;unfold qd at hg;cases e:ga S with
 | some v=>
  rw[e] at hg;cases hg;exact Dd (ha.h B) pins s σ H Q I ⟨S,F,_,S',R,e,q⟩
 | none=>
  rw[e] at hg;dsimp only at hg;split at hg
  ·rename_i S1 e2;refine Js hx (h.h B) (hb.h B) pins s σ H Q I ⟨S,F,_,R,e2,fun σ1 F1 H1 R1 le=>?_⟩;exact⟨S1,F1,rr,S',R1,hg,fun σ' a F' H' R' le' xr=>q σ' a F' H' R' (fun b o z=>le' b o (le b o z)) xr⟩
  ·cases hg⟩
noncomputable def N2 (g:GS) (gb:GX):GX:=fun S=>match g S with
 | some (.nx S1)=>gb S1
 | _=>none
def Zz {gb:GX}(hx:X.xe=fun _ _=>False) (h:JS X a g) (hb:Cm X r gb):Cm X (a :: r) (N2 g gb):=⟨fun B pins s σ H Q I hw=>by
 obtain⟨S,F,rr,S',R,hg,q⟩:=hw;unfold N2 at hg;split at hg
 ·rename_i S1 e2;refine Js hx (h.h B) (hb.h B) pins s σ H Q I ⟨S,F,_,R,e2,fun σ1 F1 H1 R1 le=>?_⟩;exact⟨S1,F1,rr,S',R1,hg,fun σ' a F' H' R' le' xr=>q σ' a F' H' R' (fun b o z=>le' b o (le b o z)) xr⟩
 ·cases hg⟩
def iU {g:GX}(ha:Mc X a g):Cm X (a :: r) g:=⟨fun B=>Dd (ha.h B)⟩
end
section
variable {X:Cx}{e:Expr}{es:BBC}{gx:GX}{pos pos':Pos}
def tX.ofS {B:Base}{g:GX}{Q:XQ}(h:tX K B g σ H Q):tXE K B g σ H Q:=by
 obtain⟨S,F,r,S',R,hg,q⟩:=h;exact⟨S,F,r,S',R,hg,fun a F' H' R' st xr=>q σ a F' H' R' st.ext.le xr⟩
def Ed (h:F7 X e gx):Mc X (.Return (some e) pos) gx:=⟨fun B pins s σ H Q I hw=>wpAny_Return_some (aat (h.h B pins s σ H Q I hw.ofS) (fun _ _ z=>z.elim) fun _ _ z=>z)⟩
def oN (h:F7 X e gx) (hs:swapsWith e (some (.Name x pos')) pos.line X.env=pure false:=by rfl):Mc X (.Assign [.Name x pos'] e pos) gx:=⟨fun B pins s σ H Q I hw=>wpAny_Assign_Name (aat (h.h B pins s σ H Q I hw.ofS) (fun _ _ z=>z.elim) fun _ _ z=>z) hs⟩
noncomputable def PL (q:GT) (a b:GX):GX:=fun S=>(q S).bind fun p=>if p.1 then a p.2 else b p.2
noncomputable def Rq:GX:=fun _=>none
def wM {st:BBH}:Cm X st Rq:=⟨fun B pins s σ H Q I hw=>by obtain⟨_,_,_,_,_,hg,_⟩:=hw;cases hg⟩
def ZA {c:Expr}{q1:GT}{g1 g2:GX}(hx:X.xe=fun _ _=>False) (hc:JT X c q1) (ha:Cm X b1 g1) (hb:Cm X b2 g2):Mc X (.If c b1 b2 pos) (PL q1 g1 g2):=⟨fun B pins s σ H Q I hw=>by
 obtain⟨S,F,r,S',R,hg,q⟩:=hw;obtain⟨⟨d,S1⟩,h1,hg⟩:=aj hg;refine wpAny_If (aat ((hc.h B).wait hx (Q:=fun b H1=>∃F1,b=d/\Rel X.K B S1 σ F1 H1/\Step S S1 σ F H F1 H1) I ⟨S,F,d,S1,R,h1,fun F1 H1 R1 st1=>⟨F1,rfl,R1,st1⟩⟩) (fun b s1 hh=>?_) fun _ _ z=>z);obtain⟨H1,I1,F1,rfl,R1,st1⟩:=hh;cases b with
 | true=>exact ha.h B pins s1 σ H1 Q I1 ⟨S1,F1,r,S',R1,hg,fun σ' a F' H' R' le xr=>q σ' a F' H' R' (fun b o z=>le b o (st1.ext.le b o z)) xr⟩
 | false=>exact hb.h B pins s1 σ H1 Q I1 ⟨S1,F1,r,S',R1,hg,fun σ' a F' H' R' le xr=>q σ' a F' H' R' (fun b o z=>le b o (st1.ext.le b o z)) xr⟩⟩
def yy (f:FX) (gu:GU):GX:=fun S=>(gu S).bind fun p=>
 if(slotsOf p.1).Nodup/\bE p.1<=1 then(bh p.2 p.1).bind fun us=>(f us).bind fun r=>(wb p.1 r.2 p.2).map fun S2=>(r.1,S2) else none
def Rr {fa:Addr}{f:FX}{p:Pos}{gu:GU}(F:gQ X.prog X.w X.K X.mg X.base (Ea X.prog X.w) k fa fd ps (PK X.K n f)) (hx:X.xe=fun _ _=>False) (hr:dM k X.A) (hg:Gl X x) (hm:X.mg x=some (.ref fa)) (hk:PySem.W.keepIn X.K (.ref fa)=true) (hb:Binds X.K fd ps []) (ha:JU X (e :: es) gu) (hn:(e :: es).length=n)
  (hdb:BBT x:=by decide) (he:starEach (e :: es) X.env=(false,eval e X.env) :: starEach es X.env:=by rfl) (hpl:(backTo pos (starEach es X.env)).any (·.1)=false:=by rfl):
  F7 X (.Call (.Name x p) (e :: es) [] pos) (yy f gu):=⟨fun B=>(Rm F hx hr hg hm hk hb .nil (ha.h B) hdb he hpl).imp fun σ H Q hh=>by
 obtain⟨S,F0,r,S',R,hg,q⟩:=hh;obtain⟨⟨us,S1⟩,h1,hg⟩:=aj hg;dsimp only at hg;split at hg
 ·rename_i hc;obtain⟨ws,h2,hg⟩:=aj hg;obtain⟨⟨r',outs⟩,h3,hg⟩:=aj hg;obtain⟨S2,h4,hg⟩:=aB hg;cases hg;refine⟨S,F0,us,S1,R,h1,fun vs F1 H1 R1 st1 rr=>?_⟩;show PK X.K n f (vs++[]) H1 _ _;rw[abU];have hlen:vs.length=n:=by rw[rr.length,ha.len _ _ _ h1];exact hn
  refine⟨hlen,F1,ws,_,outs,R1.sub,rB R1 rr h2,dJ R1 rr h2 hc.1 hc.2,h3,fun a F2 H2 po xr=>⟨a,rfl,?_⟩⟩;obtain⟨R2,st2,mu⟩:=kj R1 st1 rr h2 h4 hc.1 po;exact q a F2 H2 R2 st2 xr
 ·cases hg⟩
noncomputable def zp (C:Addr) (ns:BBB) (ga:GA):GX:=fun S=>(ga S).bind fun p=>if p.1.length=ns.length then some ((C,ns.zip p.1),p.2) else none
theorem BC {F:Hp}:∀{ns:BBB}{vs:List V}{ds:List D},bY F vs ds->Paired (fW F) (ns.zip vs) (ns.zip ds)
 | [],_,_,_=>.nil
 | _ :: _,_,_,.nil=>.nil
 | n :: ns,_,_,.cons r rs=>.cons ⟨rfl,r⟩ (BC rs)
def N3 {B0:String}{kI:Nat}{TY:FuncData}{PJ:BBB}{Rn:Sp}{np cpos:Pos}{ns:BBB}{ga:GA}(M:XMk X.K C fI bm bmB B0 newId initId) (FI:gQ X.prog X.w X.K X.mg X.base xV kI fI TY PJ Rn)
  (hI:∀(a tt:Addr) (vs:List V) (H:Hp) (Q:VK),vs.length=ns.length->H a=none->(∀dx H2,H dx=none->dx≠a->H2 a=some (EU a C tt (some dx))->H2 dx=some (.xd (ns.zip vs))->(∀b,b≠a->b≠dx->H2 b=H b)->Q .cM H2)->Rn (.ref a :: vs) (upd H a (EU a C tt none)) Q E0)
  (hx:X.xe=fun _ _=>False) (hc:X.calm=true) (hl:ns.length<=1000) (hr:dM (kI+1) X.A) (hg:Gl X x) (hm:X.mg x=some (.ref C)) (hk:PySem.W.keepIn X.K (.ref C)=true) (hb:Binds X.K TY PJ []) (ha:JA X (e :: es) ga)
  (hdb:BBT x:=by decide) (he:starEach (e :: es) X.env=(false,eval e X.env) :: starEach es X.env:=by rfl) (hpl:(backTo cpos (starEach es X.env)).any (·.1)=false:=by rfl):
  Mc X (.Raise (some (.Call (.Name x np) (e :: es) [] cpos)) none pos) (zp C ns ga):=⟨fun B=>(NX M FI hx hc hr hg hm hk hb (ha.h B) hdb he hpl).imp fun σ H Q hh=>by
 obtain⟨S,F,r,S',R,hg,q⟩:=hh;obtain⟨⟨ds,S1⟩,h1,hg⟩:=aj hg;dsimp only at hg;split at hg
 ·rename_i hlen;cases hg;refine⟨S,F,ds,_,R,h1,fun vs F1 H1 R1 st1 rs=>⟨?_,fun a tt hn=>hI a tt vs H1 _ (rs.length.trans hlen) hn fun dx H2 hd ne e1 e2 PF=>⟨rfl,dx,ns.zip vs,e1,e2,?_,?_⟩⟩⟩
  ·rw[rs.length,hlen];exact aaA hl (by decide)
  ·rw[List.length_zip];exact aaA (Nat.min_le_left _ _) hl
  ·have fa:F1 a=none:=R1.sub.fresh hn;have fd':F1 dx=none:=R1.sub.fresh hd;have hH:∀b o,H1 b=some o->b≠a/\b≠dx:=fun b o z=>⟨(fun y=>by rw[y,hn] at z;cases z),(fun y=>by rw[y,hd] at z;cases z)⟩
   have hF:∀b o,F1 b=some o->b≠a/\b≠dx:=fun b o z=>⟨(fun y=>by rw[y,fa] at z;cases z),(fun y=>by rw[y,fd'] at z;cases z)⟩
   have le:∀b o,F1 b=some o->upd (upd F1 dx (.own a)) a (.vV C dx (ns.zip vs)) b=some o:=fun b o z=>by rw[aX (hF b o z).1,aX (hF b o z).2];exact z
   have nw:iM F1 H1 (upd (upd F1 dx (.own a)) a (.vV C dx (ns.zip vs))) (upd (upd H2 dx (.own a)) a (.vV C dx (ns.zip vs))):=
    ⟨le,fun b o z=>by rw[aX (hH b o z).1,aX (hH b o z).2,PF b (hH b o z).1 (hH b o z).2];exact z,fun b o z f=>by rw[aX (hH b o z).1,aX (hH b o z).2];exact f⟩
   have sb:Sub (upd (upd F1 dx (.own a)) a (.vV C dx (ns.zip vs))) (upd (upd H2 dx (.own a)) a (.vV C dx (ns.zip vs))):=fun b o z=>by
    by_cases h1:b=a
    ·rw[h1,aY] at z ⊢;exact z
    ·rw[aX h1] at z ⊢;by_cases h2:b=dx
     ·rw[h2,aY] at z ⊢;exact z
     ·rw[aX h2] at z ⊢;rw[PF b h1 h2];exact R1.sub b o z
   exact q σ a _ _ (R1.new nw sb) (fun b o z=>le b o (st1.ext.le b o z)) ⟨a,dx,ns.zip vs,rfl,aY,by rw[aX ne,aY],BC (rs.le le)⟩
 ·cases hg⟩
end
section
variable {K:AAD}{B:Base}{S:SS}{σ:St}{F H:Hp}{i:Nat}
def Rel.clear (R:Rel K B S σ F H) (hi:∀a,B.P[i]?≠some (some a)):Rel K B (S.set i none) (σ.set i none) F H:=by
 have back:∀(j:Nat) (u:U),(S.set i none)[j]? =some (some u)->i≠j/\S[j]? =some (some u):=fun j u h=>by
  rcases get_set h with⟨_,q,_⟩ | q
  ·cases q
  ·exact q
 have out:∀{j:Nat},i≠j->(σ.set i none)[j]? =σ[j]?:=fun ne=>aaG ne;refine⟨R.sub,by rw[acn,acn];exact R.len,fun j u h=>?_,fun j k u w a h1 m1 h2 m2 v1 v2=>?_,fun j o a h v=>?_,fun j o a h v=>?_,fun j a h=>?_,R.ext⟩
 ·obtain⟨ne,h⟩:=back j u h;rw[out ne];exact R.rep j u h
 ·obtain⟨n1,h1⟩:=back j u h1;obtain⟨n2,h2⟩:=back k w h2;rw[out n1] at v1;rw[out n2] at v2;exact R.Ho j k u w a h1 m1 h2 m2 v1 v2
 ·obtain⟨ne,h⟩:=back j _ h;rw[out ne] at v;exact R.own j o a h v
 ·obtain⟨ne,h⟩:=back j _ h;rw[out ne] at v;exact R.bor j o a h v
 ·have ne:i≠j:=fun z=>hi a (by rw[z];exact h);obtain⟨h1,o,h2⟩:=R.par j a h;exact⟨by rw[out ne];exact h1,o,by rw[aaG ne];exact h2⟩
end
section
variable {X:Cx}{e:Expr}{g:GE}{pos pos':Pos}{i:Nat}{x:Str}
def Jt (i:Nat) (g:GE):GS:=fun S=>(g S).bind fun p=>match p.1 with
 | .x C k=>(sY i (.x C k) p.2).map .nx
 | _=>none
def Ru (hN:X.N.Nodup) (hi:X.N[i]? =some x) (hx:Loc X.env.scope x) (he:JE X e g) (hs:swapsWith e (some (.Name x pos')) pos.line X.env=pure false:=by rfl)
  (hf:X.fn x=true\/X.env.scope.names.lookup x=some .local:=by first | exact .inl rfl | exact .inr rfl | assumption):JS X (.Assign [.Name x pos'] e pos) (Jt i g):=
 ⟨fun B=>(Mt hN hi hx (he.h B) hs hf).imp fun D σ H h=>by
  obtain⟨S,F,o,R,h,k⟩:=h;obtain⟨⟨u,S1⟩,h1,h⟩:=aj h;refine⟨S,F,u,S1,R,h1,fun v F1 H1 R1 st1 r1=>?_⟩;dsimp only at h;split at h
  ·obtain⟨S3,h3,h⟩:=aB h;subst h;exact k _ F1 H1 (R1.put h3 r1) st1.ext.le
  ·cases h⟩
end
section
variable {X:Cx}{body suite:BBH}{b0:Stmt}{x n:Str}{np hpos pos:Pos}{i:Nat}{C0:Addr}{Ro:AAL}{gb gs:GS}{gx:GX}
def N4 (i:Nat) (cl:BBE) (gb:GS) (gx:GX) (gs:GS):GS:=fun S=>match gx S with
 | some (r,S1)=>if r.1∈cl then(sY i (.x r.1 r.2) S1).bind fun S2=>(gs S2).bind fun o=>match o with
  | .nx S3=>some (.nx (S3.set i none))
  | .rt (.t d) S3=>some (.rt (.t d) (S3.set i none))
  | _=>none else none
 | none=>gb S
def VQ (hx:X.xe=fun _ _=>False) (hst:X.stack=X.env :: X.outer) (hfr:X.env.frame=some X.env.locals) (hN:X.N.Nodup) (hi:X.N[i]? =some n) (hk:X.env.kindOf n=some .local) (hg:Gl X x) (hm:X.mg x=some (.ref C0)) (h0:BB X.K C0 Ro) (hb0:Ro.contains (.type "BaseException")=true)
  (hcl:∀C∈cl,∃bm,BB X.K C bm/\(Value.ref C :: bm).contains (.ref C0)=true) (hb:Cm X body gx) (hb2:JB X body gb) (hs:∀a,JB (X.hand a) (b0 :: suite) gs) (hdb:BBT x:=by decide):
  JS X (.Try body [.ExceptHandler (some (.Name x np)) (some n) (b0 :: suite) hpos] [] [] pos) (N4 i cl gb gx gs):=⟨fun B pins s σ H D I hw=>by
 obtain⟨S,F,o,R,hg',k⟩:=hw;unfold N4 at hg';cases e:gx S with
 | none=>
  rw[e] at hg';exact Rp hx (hb2.h B) pins s σ H D I ⟨S,F,o,R,hg',k⟩
 | some r=>
  obtain⟨⟨C,kvs⟩,S1⟩:=r;rw[e] at hg';dsimp only at hg';split at hg'
  ·rename_i hC;obtain⟨S2,h2,hg'⟩:=aj hg';obtain⟨o3,h3,hg'⟩:=aj hg';obtain⟨bm,hO,hin⟩:=hcl C hC;refine VO (ts:=fun a=>tO X.K B gs) hx hst hfr hN hi hk hg hm h0 hb0 (hb.h B) (fun a=>(hs a).h B) hdb pins s σ H D I ⟨S,F,(C,kvs),S1,R,e,fun σ1 a F1 H1 R1 le1 xr=>?_⟩;obtain⟨a',dx,fs,ea,fa,fd,pr⟩:=id xr;cases ea;have R2:Rel X.K B S2 (σ1.set i (some (.ref a))) F1 H1:=R1.put h2 xr;refine⟨C,dx,fs,bm,R1.sub _ _ fa,hO,hin,S2,F1,o3,R2,h3,?_⟩;have np:∀{S3:SS}{σ3:St}{F3 H3:Hp},Rel X.K B S3 σ3 F3 H3->∀c,B.P[i]?≠some (some c):=fun {S3 σ3 F3 H3} R3 c z=>by
    obtain⟨_,ob,q⟩:=R1.par i c z;exact(CS h2).2.2 ob q
   cases o3 with
   | nx S3=>
    cases hg';exact fun σ3 F3 H3 R3 le3=>k (σ3.set i none) F3 H3 (R3.clear (np R3)) fun b o z=>le3 b o (le1 b o z)
   | bk S3=>cases hg'
   | ct S3=>cases hg'
   | rt u S3=>
    cases u with
    | t d=>
     cases hg';exact fun v σ3 F3 H3 R3 le3 rr=>k v (σ3.set i none) F3 H3 (R3.clear (np R3)) (fun b o z=>le3 b o (le1 b o z)) rr
    | m d=>cases hg'
    | b d=>cases hg'
    | v d=>cases hg'
    | s d=>cases hg'
    | f d=>cases hg'
    | x c d=>cases hg'
  ·cases hg'⟩
end
section
variable {M:Model}{A:Around}{E:AAE}{s:Shared}{env:Env}{L e C T:Addr}{dx:BBN}{fl:Value}
def Ef (hf:env.frame=some L) (hF:Fl s.heap e C dx T fl) (h:∀h',h'.objs.size=s.heap.objs.size->(∀b o,b≠T->s.heap.get? b=some o->h'.get? b=some o)->Fl h' e C dx T (rawInt L)->E (.ref e) {s with heap:=h'}):cameBackBy M A env E (.ref e) s:=by
 obtain⟨oe,vs,oT,ts,he,hc,hx,hd,h1,ne,hT,FW,h3⟩:=hF;have hz:3 < ts.size:=(ab2.mp h3).1;unfold cameBackBy;refine aae (ab5 he hd h1 ?_);rw[if_neg (show ¬((Value.ref T == Value.none)=true) from by simp)];rw[hf];unfold setFlight;refine aae (ab5 he hd h1 ?_);rw[if_pos (show(Value.ref T != Value.none)=true from by simp)];have other:∀b,b≠T->(s.heap.update T (Obj.mapFields (·.setIfInBounds 3 ((some L:BBN).elim Value.none fun f=>rawInt f)))).get? b=s.heap.get? b:=fun b hb=>abB _ _ (acz hb);refine afE hT FW hz (h _ (adG _ _ _) (fun b o hb q=>(other b hb).trans q) ⟨oe,vs,_,_,(other e (acz ne)).trans he,hc,hx,hd,h1,ne,acC _ hT (aeC (adH FW _)),adH FW _,by simp[hz]⟩)
end
section
variable {X:Cx}{pins:AAG}{Q:XQ}
def Rv (hst:X.stack=X.env :: X.outer) (hfr:X.env.frame=some X.env.locals):PassesOwn (model X.prog X.w) X.A X.env (Mb X pins Q):=by
 intro ev s1 thr;obtain⟨e,C,dx,fs,σ1,H1,rfl,I1,at_,fl,q⟩:=thr;have fr:X.A.frames=some (X.env :: X.outer):=by rw[I1.ok.frames,hst]
 have st:=I1.stack;rw[hst] at st;have np:∀T,s1.heap.objs.size<=T->∀p∈X.pn++pins,p.1≠T:=fun T hT p hp z=>absurd (aaq (I1.pin p hp).1) (by rw[z];exact afw.mpr hT);have N1:∀h2 T,s1.heap.objs.size<=T->Ch (frs X.stack) e e s1.heap h2->Fl h2 e C (some dx) T (rawInt X.env.locals)->Mb X pins Q (.ref e) {s1 with heap:=h2}:=fun h2 T hT ch hF=>
  ⟨e,C,dx,fs,σ1,H1,rfl,I1.ch ch at_ hF.obj,at_,.inr ⟨T,_,.inr rfl,hF,I1.hok.fresh hT,aaA I1.sz hT,np T hT⟩,q⟩
 rcases fl with⟨t,ho⟩ | ⟨T,f1,hf,hF,nt,hz,hp⟩
 ·exact Bx fr st hfr ho fun h1 T hT ch hF=>Ef (s:={s1 with heap:=h1}) hfr hF fun h2 sz kp Ar=>N1 h2 T hT (by rw[hst];exact ch.land hT sz kp) Ar
 ·rcases hf with rfl | rfl
  ·exact By fr st hfr hF fun h1 T hT ch hF=>Ef (s:={s1 with heap:=h1}) hfr hF fun h2 sz kp Ar=>N1 h2 T hT (by rw[hst];exact ch.land hT sz kp) Ar
  ·obtain⟨_,_,oT,tt,_,_,_,_,_,_,gT,dT,_⟩:=id hF;refine BA hfr hF (Ef hfr hF fun h2 sz kp Ar=>?_);have tT:∃o,h2.get? T=some o:=by obtain⟨_,_,o,_,_,_,_,_,_,_,g,_,_⟩:=id Ar;exact⟨o,g⟩
   exact⟨e,C,dx,fs,σ1,H1,rfl,I1.chT kp at_ nt hz hp gT dT tT,at_,.inr ⟨T,_,.inr rfl,Ar,nt,hz,hp⟩,q⟩
def Mb.ZC {pl:AAG}{ev:Value}{s':Shared}(h:Mb X (pins++pl) Q ev s'):Mb X pins Q ev s':=by
 obtain⟨e,C,dx,fs,σ1,H1,rfl,I1,at_,fl,q⟩:=h;refine⟨e,C,dx,fs,σ1,H1,rfl,I1.n9,at_,?_,q⟩;rcases fl with z | ⟨T,f1,hf,hF,nt,hz,hp⟩
 ·exact .inl z
 ·exact .inr ⟨T,f1,hf,hF,nt,hz,fun p hp'=>hp p (by
   rcases abP.mp hp' with z | z
   ·exact abV _ z
   ·exact aaw _ (abV _ z))⟩
variable {tg:Expr}
noncomputable def ZD (wi:TI) (g:TG) (tb:TS) (tx:TX):TX:=fun σ H Q=>wi σ H fun J H1=>∃W:Nat->Nat->St->Hp->Prop,(∃m,W 0 m σ H1)/\∀i m σ H,W i m σ H->
 J.go i H/\((∃N:St->Hp->Prop,(∀σ' H',N σ' H'->∃m',m' < m/\W (i+1) m' σ' H')/\∀x H',J.Tj i H x H'->g x σ H' fun σ2 H2=>tb {nx:=N,ct:=N,bk:=fun _ _=>False,rt:=fun _ _=>False} σ2 H2)\/
  ∀x H',J.Tj i H x H'->g x σ H' fun σ2 H2=>tx σ2 H2 Q)
def VR {wi:TI}{g:TG}{tb:TS}{tx:TX}{pos:Pos}(hx:X.xe=fun _ _=>False) (hst:X.stack=X.env :: X.outer) (hfr:X.env.frame=some X.env.locals) (hc:X.calm=true) (hi:PI X tg iter wi) (hg:PG X tg g) (hb:DB X body tb) (VH:HN X body tx)
  (hs:∀x,foldedSetIterable iter X.env x=pure x:=by intro _;rfl):VI X (.For tg iter body [] pos) (ZD wi g tb tx):=by
 intro pins s σ H Q I h;have no:∀{E:AAE}{e:Value}{s':Shared},X.xe e s'->E e s':=fun {E e s'} z=>by rw[hx] at z;exact z.elim
 have hp:PassesOwn (model X.prog X.w) X.A X.env (Mb X pins Q):=Rv hst hfr;refine wpAny_For (aat (hi pins s σ H _ I h) (fun v s1 h1=>aat h1 (fun itv s2 h2=>?_) fun _ _ z=>no z) fun _ _ z=>no z) hs;obtain⟨it,fp,tn,J,H2,e,I2,T,st2,f2,W,⟨m0,w0⟩,turn⟩:=h2;subst e;have KC:∀{H':Hp},(∀b∈fp,H' b=none)->∀b∈fp,xR X pins H' b:=fun hn b hb=>⟨hn b hb,(f2 b hb).2⟩
 refine codeAny_forLoop_any (fun n s'=>∃i σ' H',Inv X pins σ' H' s'/\tn i s'.heap/\(∀b∈fp,H' b=none)/\W i n σ' H') ?_ m0 ⟨0,σ,H2,I2,st2,fun b hb=>(f2 b hb).1,w0⟩;rintro n s3 ⟨i,σ3,H3,I3,st3,fr3,w3⟩;obtain⟨go,step⟩:=turn i n σ3 H3 w3;refine abS hp (dN (T.item X rfl rfl rfl hc i pins s3 σ3 H3 (Mb X pins Q) I3 (KC fr3) st3 go) fun r s4 hh=>?_);obtain⟨u,hr,h4⟩:=hh;subst hr;refine abS hp (dN h4 fun _ s5 hh=>?_);obtain⟨x,H5,I5,r5,y5,UE,fr5⟩:=hh;have I5':=I5.pinned (KC fr5) (T.obj _ _ UE);rcases step with⟨N,hN,step⟩ | step
 ·refine abS hp (aat (hg _ s5 σ3 H5 x u _ I5' r5 (step x H5 y5)) (fun _ s6 hh=>?_) fun _ _ z=>no z);obtain⟨X8,H6,I6,q6⟩:=hh;refine abS hp (aat (hb _ s6 X8 H6 _ I6 q6) (fun f s7 q7=>?_) fun _ _ z=>no z);have again:∀{B9:St}{H7:Hp},Inv X (pins++tU fp s5.heap) B9 H7 s7->N B9 H7->∃m,m < n/\∃i σ' H',Inv X pins σ' H' s7/\tn i s7.heap/\(∀b∈fp,H' b=none)/\W i m σ' H':=fun {B9 H7} I7 n7=>by
   obtain⟨m',hm,w7⟩:=hN B9 H7 n7;refine⟨m',hm,i+1,B9,H7,I7.n9,T.keep _ _ _ UE fun b hb o e=>(I7.pin (b,o) (aaw _ (aaw _ (iu hb e)))).1,fun b hb=>?_,w7⟩;obtain⟨o,e,d⟩:=T.obj _ _ UE b hb;exact(I7.pin (b,o) (aaw _ (aaw _ (iu hb e)))).2.1
  cases f with
  | next=>obtain⟨B9,H7,I7,n7⟩:=q7;exact again I7 n7
  | cont=>obtain⟨B9,H7,I7,n7⟩:=q7;exact again I7 n7
  | brk=>obtain⟨B9,H7,I7,q7⟩:=q7;exact q7.elim
  | ret v=>obtain⟨x7,B9,H7,I7,r7,q7⟩:=q7;exact q7.elim
 ·refine abS hp (aat (hg _ s5 σ3 H5 x u _ I5' r5 (step x H5 y5)) (fun _ s6 hh=>?_) fun _ _ z=>no z);obtain⟨X8,H6,I6,q6⟩:=hh;exact abS hp (aat (VH _ s6 X8 H6 _ I6 q6) (fun _ _ z=>z.elim) fun _ _ z=>z.ZC)
end
noncomputable def Aa (bd:GB) (gx:GX) (g:GS):List D->SS->Option (XV×SS)
 | [],_=>none
 | d :: ds,S=>(bd d S).bind fun S1=>match gx S1 with
  | some r=>some r
  | none=>(g S1).bind fun o=>match o with
   | .nx S2=>Aa bd gx g ds S2
   | .ct S2=>Aa bd gx g ds S2
   | _=>none
def N5 (bd:GB) (gi:GI) (gx:GX) (g:GS):GX:=fun S=>(gi S).bind fun p=>Aa bd gx g p.1 p.2
section
variable {X:Cx}{pos:Pos}
def Rw {s1:GS}{gx:GX}{bd:GB}(hx:X.xe=fun _ _=>False) (hst:X.stack=X.env :: X.outer) (hfr:X.env.frame=some X.env.locals) (hc:X.calm=true) (hi:JIN X tg iter gi) (hg:JG X tg bd) (hb:JB X stmts s1) (VH:Cm X stmts gx) (hs:∀x,foldedSetIterable iter X.env x=pure x:=by intro _;rfl):
  Mc X (.For tg iter stmts [] pos) (N5 bd gi gx s1):=⟨fun B=>(VR hx hst hfr hc (hi.h B) (hg.h B) (hb.h B) (VH.h B) hs).imp fun σ H Q hh=>by
 obtain⟨S,F,r,Sr,R,h,k⟩:=hh;obtain⟨⟨ds,S1⟩,h1,h⟩:=aj h;refine⟨S,F,ds,S1,R,h1,fun J F1 H1 R1 st1 w=>?_⟩;refine⟨fun i m σ' H'=>∃S' F',Rel X.K B S' σ' F' H'/\(∀b o,F1 b=some o->F' b=some o)/\i<=ds.length/\m=ds.length - i/\Aa bd gx s1 (ds.drop i) S'=some (r,Sr),⟨_,S1,F1,R1,fun _ _ z=>z,acI _,rfl,h⟩,?_⟩;rintro i m σ' H' ⟨S',F',R',le,hl,rfl,nq⟩;have w':=w F' H' le R'.sub i;by_cases hlt:i < ds.length
 ·have hd:ds[i]? =some ds[i]:=abu hlt;obtain⟨go,yl⟩:=w'.1 _ hd;rw[acG hlt] at nq;obtain⟨S2,e2,nq⟩:=aj nq;refine⟨go,?_⟩;cases e:gx S2 with
  | some v=>
   rw[e] at nq;cases nq;refine .inr fun x H2 y=>?_;obtain⟨F2,nw,sb2,rx⟩:=yl x H2 y;have R2:=R'.new nw sb2;exact⟨S',F2,_,S2,R2,rx,e2,fun σ3 R3=>⟨S2,F2,r,Sr,R3,e,fun QI a F4 H4 R4 K2 xr=>k QI a F4 H4 R4 (fun b o z=>K2 b o (nw.le b o (le b o (st1.ext.le b o z)))) xr⟩⟩
  | none=>
   rw[e] at nq;obtain⟨o2,e3,nq⟩:=aj nq;refine .inl ⟨_,fun σ2 H2 n=>⟨ds.length - (i+1),by lia,n⟩,fun x H2 y=>?_⟩;obtain⟨F2,nw,sb2,rx⟩:=yl x H2 y;have R2:=R'.new nw sb2;have le:∀b o,F1 b=some o->F2 b=some o:=fun b o z=>nw.le b o (le b o z);refine⟨S',F2,_,S2,R2,rx,e2,fun σ3 R3=>⟨S2,F2,o2,R3,e3,?_⟩⟩;cases o2 with
   | nx S3=>exact fun QI F4 H4 R4 K2=>⟨S3,F4,R4,fun b o z=>K2 b o (le b o z),hlt,rfl,nq⟩
   | ct S3=>exact fun QI F4 H4 R4 K2=>⟨S3,F4,R4,fun b o z=>K2 b o (le b o z),hlt,rfl,nq⟩
   | bk S3=>cases nq
   | rt u S3=>cases nq
 ·have e:i=ds.length:=by lia
  subst e;rw[afg] at nq;cases nq⟩
end
section
variable {X:Cx}{e:Expr}{gx:GX}{pos p:Pos}
def N6 {g:Str}{gf:Addr}(h:F7 X e gx) (hg:Gl X g) (hm:X.mg g=some (.ref gf)) (hk:PySem.W.keepIn X.K (.ref gf)=true) (hdb:BBT g:=by decide)
  (he:starEach [e] X.env=[(false,eval e X.env)]:=by rfl):F7 X (.Call (.Name g p) [e] [] pos) gx:=⟨fun B=>NW (h.h B) hg hm hk hdb he⟩
end
section
variable {X:Cx}{pins:AAG}{σ:St}{H:Hp}{s:Shared}{a C dx:Addr}{cd:ClassData}{f:Str}{v:V}{A:Around}{E:AAE}{fs:List (Str×V)}
def HQ (I:Inv X pins σ H s) (e:H a=some (.vV C dx fs)):∃(oe od:Obj) (mA:AAF),PySem.W.InstAt s.heap a oe C (some od)/\(∀f,PySem.W.lookIn f od=some (mA f))/\∀f,tN (fs.lookup f) (mA f):=by
 obtain⟨_,_,_,⟨oe,vs,g,hc,hd,hf⟩,mA,hN,r,_⟩:=(show g7 X.prog X.w H s.heap a (.vV C dx fs) from I.hok a _ e)
 obtain⟨od,ho,hl⟩:=CH hN;exact⟨oe,od,mA,⟨g,hc,by unfold PySem.W.notCls;rw[hf],by rw[hd];exact ho⟩,hl,r⟩
def Rx {b:Bool}(I:Inv X pins σ H s) (e:H a=some (.vV C dx fs)) (c:uA X.K C cd) (hd:PySem.W.hasDictIn X.K C=true) (n:fX X.K C f) (l:fs.lookup f=some v)
  (h:∀u s',Inv X pins σ H s'->RelV v u->Q u s'):wpAny (model X.prog X.w) A (getAttr (.ref a) f b) Q E s:=by
 obtain⟨oe,od,mA,J,hl,r⟩:=HQ I e;obtain⟨u,hu,ru⟩:=tN.some_of (v:=v) (o:=mA f) (by rw[<-l];exact r f);exact VF I.sV J c (PySem.W.findObj_own hd n rfl (by rw[hl,hu])) (CI ru) (h u _ (I.tok _) ru)
end
section
variable {X:Cx}{e:Expr}{g:GE}{f:Str}{pos:Pos}{ta:TE}
def Ry (he:PE X e ta) (hb:attributeBase e f X.env (eval e X.env)=eval e X.env):PE X (.Attribute e f pos) fun σ H Q=>ta σ H fun x H1=>∃a C dx fs cd v,x= .ref a/\H1 a=some (.vV C dx fs)/\uA X.K C cd/\PySem.W.hasDictIn X.K C=true/\fX X.K C f/\fs.lookup f=some v/\Q v H1:=by
 intro pins s σ H Q I h;refine IQ hb (dN (he pins s σ H _ I h) fun u s1 hh=>?_);obtain⟨x,H1,I1,rx,a,C,dx,fs,cd,v,ex,ea,c,hd,n,l,q⟩:=hh;subst ex;obtain rfl:u=Value.ref a:=rx;exact Rx I1 ea c hd n l fun u' s2 I2 ru=>⟨v,H1,I2,ru,q⟩
noncomputable def N7 (cl:BBE) (f:Str) (g:GE):GD:=fun S=>(g S).bind fun p=>match p.1 with
 | .x C k=>if C∈cl then(k.lookup f).map fun d=>(d,p.2) else none
 | _=>none
theorem v7 {F:Hp}{f:Str}:∀{fs:List (Str×V)}{k:List (Str×D)}{d:D},Paired (fW F) fs k->k.lookup f=some d->∃v,fs.lookup f=some v/\Rep F v d
 | _,_,_,.nil,h=>by cases h
 | (_,v) :: _,(y,d') :: _,d,.cons ⟨e,r⟩ rs,h=>by
  dsimp only at e;subst e;rw[adW] at h ⊢;split at h
  ·cases h;exact⟨v,rfl,r⟩
  ·exact v7 rs h
def Rz (hcl:∀C∈cl,(∃cd,uA X.K C cd)/\PySem.W.hasDictIn X.K C=true/\fX X.K C f) (he:JE X e g) (hb:attributeBase e f X.env (eval e X.env)=eval e X.env:=by rfl):JD X (.Attribute e f pos) (N7 cl f g):=⟨fun B=>(Ry (he.h B) hb).imp fun σ H Q hh=>by
 obtain⟨S,F,d,S',R,hg,q⟩:=hh;obtain⟨⟨u,S1⟩,h1,hg⟩:=aj hg;dsimp only at hg;split at hg
 ·rename_i C k;split at hg
  ·rename_i hC;obtain⟨d',h2,hg⟩:=aB hg;cases hg;refine⟨S,F,_,S',R,h1,fun v F1 H1 R1 st1 r1=>?_⟩;obtain⟨a,dx,fs,rfl,ea,_,pr⟩:=(show sX F1 v C k from r1)
   obtain⟨w,l,rw'⟩:=v7 pr h2;obtain⟨⟨cd,c⟩,hd,n⟩:=hcl C hC;exact⟨a,C,dx,fs,cd,w,rfl,R1.sub _ _ ea,c,hd,n,l,q w F1 H1 R1 st1 rw'⟩
  ·cases hg
 ·cases hg⟩
end
section
variable {prog:Program}{w:World}{A:Around}{E:AAE}{s:Shared}{K:AAD}{e C:Addr}{oe od:Obj}{cd:ClassData}
structure Me (K:AAD) (C:Addr):Prop where
 ha:PySem.W.findIn K (.ref C) "__class__" =some (some (.builtin "object.__class__"))
 hn:PySem.W.specialIn K (.builtin "object.__class__") "__get__" =some (some (.builtin "getset_descriptor.__get__"))
 htk:PySem.W.takesIn K (.builtin "object.__class__")=some true
 hm:PySem.W.mroIn K C (.type "object")=some true
def VS {Q:BBP->Shared->Prop}(X:K.In s.heap) (I:PySem.W.InstAt s.heap e oe C (some od)) (c:uA K C cd) (G:Me K C) (h:Q (some (.ref C)) {s with toks:=s.toks+1}):
  wpAny (model prog w) A (getAttr? (.ref e) "__class__") Q E s:=by
 have hf:PySem.W.findObj K C (some od) "__class__" =some (.bind (.builtin "getset_descriptor.__get__") (.builtin "object.__class__")):=PySem.W.findObj_data (by rw[c.cls];rfl) G.ha G.hn G.htk;obtain⟨hp,g,d,t,os⟩:=s;have wT:=I.type (M:=model prog w);have wG:=acJ (M:=model prog w) X c.ga;have wH:=acJ (M:=model prog w) X c.gt;have wF:=PySem.W.looks_find (M:=model prog w) X I hf;have wB:=Jr (M:=model prog w) X I c (.type "BaseException");rw[c.XC] at wB;have nO:(Value.builtin "BaseException.__getattribute__" == Value.builtin "object.__getattribute__")=false:=by decide +kernel
 have FX:ExcAttrFacts "ValueError":=F.attr_ValueError;unfold getAttr? getAttrBy? getAttrBy;refine aae (wpAny_mkText (aae (wpAny_attempt (abW (aae (wT.at (aae (wG.at ?_))))))));dsimp only;rw[if_neg (by rw[nO];simp)];unfold getAttrByItsOwn;refine aae (show wpAny _ _ (typeLookup (.ref C) "__getattr__") _ _ _ from wH.at ?_);refine aae (wpAny_attempt (abW ?_));unfold callGetattribute;rw[if_neg (by simp)];unfold boundAndCalled;refine aae (wpAny_of_eq (FX.ga.bind (.ref e)) ?_);refine aeD (afr FX.ga.plain F.entry_bexc_ga ?_);have kB:builtinKind "BaseException.__getattribute__" =some .slot:=by decide +kernel
 have sB:splitId "BaseException.__getattribute__" =some ("BaseException","__getattribute__"):=by decide +kernel
 have ha:=F.args_bexc_ga (.ref e) (.str "__class__" t);simp only[checkBuiltinCall,kB,sB];refine aae (wB.at ?_);rw[if_neg (by decide)];have main:wpAny (model prog w) A.in1 (Builtin.«object.__getattribute__» {pos:=[Value.ref e]++[Value.str "__class__" t]})
   (fun fin s'=>fin= .done (.ret (.ref C))/\s'=⟨hp,g,d,t+1,os⟩) (fun _ _=>False) ⟨hp,g,d,t+1,os⟩:=by
  refine aae (aah (aae (aah (aae (wT.at (aae (wF.at ?_)))))));show wpAny _ _ (holding [.builtin "object.__class__"] (call (.builtin "getset_descriptor.__get__") [.builtin "object.__class__",.ref e,.ref C]) >>= ret) _ _ _;exact aae (abW (aeD (PySem.W.class_get (s:=⟨hp,g,d,t+1,os⟩) X I G.hm (aah ⟨rfl,rfl⟩))))
 have fin:∀(P:Fin->Shared->Prop) (G:AAE),P (.done (.ret (.ref C))) ⟨hp,g,d,t+1,os⟩->wpAny (model prog w) A.in1 (Builtin.«object.__getattribute__» {pos:=[Value.ref e]++[Value.str "__class__" t]}) P G ⟨hp,g,d,t+1,os⟩:=fun P G hP=>
  aat main (fun a s' z=>by rw[z.1,z.2];exact hP) fun _ _ z=>z.elim
 have out:wpAny (model prog w) A (handedOut (.ref C)) (fun v s''=>Q (some v) s'') (fun _ _=>False) ⟨hp,g,d,t+1,os⟩:=PySem.W.handed_on rfl h;cases VG:Manifest.signature? "BaseException.__getattribute__" with
 | none=>exact aah (fin _ _ (aat out (fun _ _ z=>aah z) fun _ _ z=>z.elim))
 | some sig=>
  simp only[argsOk,VG] at ha;have h2:Bind.checkArgs "BaseException.__getattribute__" sig ⟨[.ref e,.str "__class__" t],[]⟩=pure ():=ha;show wpAny _ _ (Bind.checkArgs "BaseException.__getattribute__" sig ⟨[.ref e,.str "__class__" t],[]⟩) _ _ _;rw[h2];exact aah (fin _ _ (aat out (fun _ _ z=>aah z) fun _ _ z=>z.elim))
def F8 (c:uA K C cd) (G:Me K C):PySem.W.KitX K (.ref e) (.ref C) (fun h=>∃oe od,PySem.W.InstAt h e oe C (some od)) where
 ty:=fun _ _ _ ⟨_,_,I⟩=>I.type
 it:=fun _ _ X _=>by
  have hc:=c.cls;unfold PySem.W.clsIn at hc;split at hc
  ·rename_i ho;intro _ _ _ _ kp qq;unfold isType loadHead;refine aae (wpAny_loadPart (kp _ _ (X _ _ ho)) ?_);exact aah qq
  ·cases hc
 ne:=fun h tp dd its n sl X htp=>by
  have hc:=c.cls;cases qe:(Value.ref C == Value.ref tp) with
  | false=>rfl
  | true=>
   cases(afn.mp qe);unfold PySem.W.clsIn at hc;split at hc
   ·rename_i ho;cases(X _ _ ho).symm.trans htp
   ·cases hc
 ca:=fun X ⟨_,_,I⟩ k=>VS X I c G k
end
section
variable {X:Cx}{pins:AAG}{σ:St}{H:Hp}{s:Shared}{a C dx:Addr}{cd:ClassData}{fs:List (Str×V)}{A:Around}{E:AAE}{Q:AAE}{b:Bool}
def RA (I:Inv X pins σ H s) (e:H a=some (.vV C dx fs)) (c:uA X.K C cd) (G:Me X.K C){k:Value}(hk:PySem.W.kitOne X.K (.ref C) k=some b) (h:∀tk,Q (.bool b) {s with toks:=tk}):wpAny (model X.prog X.w) A (call (.builtin "isinstance") [.ref a,k]) Q E s:=by
 obtain⟨oe,od,_,J,_,_⟩:=HQ I e;exact adI (F8 c G) I.sV ⟨oe,od,J⟩ hk (fun z=>nomatch z) h
def N8 (I:Inv X pins σ H s) (e:H a=some (.vV C dx fs)) (c:uA X.K C cd) (G:Me X.K C){p:Addr}{ks:List V}(hp:B7 X.K H p ks) (hv:Vals ks us->PySem.W.kitAny X.K (.ref C) us=some b) (hu:∀us',Vals ks us'->us'=us) (h:∀tk,Q (.bool b) {s with toks:=tk}):wpAny (model X.prog X.w) A (call (.builtin "isinstance") [.ref a,.ref p]) Q E s:=by
 obtain⟨oe,od,_,J,_,_⟩:=HQ I e;obtain⟨its,rv,pt,hz⟩:=I.tuple hp;obtain rfl:=hu its rv;obtain⟨⟨cls,dd,data,sl⟩,ho,hc,n,hd⟩:=pt;simp only at hc hd;subst hc hd;exact PySem.W.kia_tup (F8 c G) I.sV ⟨oe,od,J⟩ ho (hv rv) (fun z=>nomatch z) h
end
noncomputable def Co (tb:List (Addr×Bool)) (g:GE):GD:=fun S=>(g S).bind fun p=>match p.1 with
 | .x C _=>(tb.lookup C).map fun b=>(.bl b,p.2)
 | _=>none
section
variable {X:Cx}{a ke:Expr}{g:GE}{pos p:Pos}{kv:V}{ku:Value}{tb:List (Addr×Bool)}
def N9 (hg:Gl X "isinstance") (hm:X.mg "isinstance" =none) (hk:PE X ke (tC kv)) (hu:∀u,RelV kv u->u=ku) (hcl:∀C b,tb.lookup C=some b->(∃cd,uA X.K C cd)/\Me X.K C/\PySem.W.kitOne X.K (.ref C) ku=some b) (ha:JE X a g)
  (hs:starEach [a,ke] X.env=(false,eval a X.env) :: starEach [ke] X.env:=by rfl) (hs2:starEach [ke] X.env=(false,eval ke X.env) :: starEach [] X.env:=by rfl) (hpl:(backTo pos (starEach [ke] X.env)).any (·.1)=false:=by rfl):
  JD X (.Call (.Name "isinstance" p) [a,ke] [] pos) (Co tb g):=⟨fun B=>
 (kO (r:=fun xs H Q=>∃x C dx fs cd b,xs=[.ref x,kv]/\H x=some (.vV C dx fs)/\uA X.K C cd/\Me X.K C/\PySem.W.kitOne X.K (.ref C) ku=some b/\Q (.bl b) H) (fun pins s σ H xs us Q I r hh=>by
   obtain⟨x,C,dx,fs,cd,b,e1,ex,c,G,hk,q⟩:=hh;subst e1;obtain⟨u,w',rfl,ru,rw'⟩:=vals2 r;cases ru;cases hu _ rw';exact RA I ex c G hk fun tk=>⟨.bl b,H,I.tok tk,rfl,q⟩) hg hm aeA (j9 (ha.h B) (j9 hk tV hs2) hs) (by decide) (by decide) hs hpl).imp fun σ H Q hh=>by
 obtain⟨S,F,d,S',R,hg,q⟩:=hh;obtain⟨⟨u1,S1⟩,h1,hg⟩:=aj hg;dsimp only at hg;split at hg
 ·rename_i C k;obtain⟨b,h2,hg⟩:=aB hg;cases hg;obtain⟨⟨cd,c⟩,G,hk⟩:=hcl C b h2;refine⟨S,F,_,_,R,h1,fun v F1 H1 R1 st1 r1=>?_⟩;obtain⟨x,dx,fs,rfl,ex,_,_⟩:=(show sX F1 v C k from r1)
  exact⟨x,C,dx,fs,cd,b,rfl,R1.sub _ _ ex,c,G,hk,q _ F1 H1 R1 st1 (.bl b)⟩
 ·cases hg⟩
end
section
variable {X:Cx}{a:Expr}{ks:BBC}{g:GE}{pos p px:Pos}{kvs:List V}{kus:AAL}{tb:List (Addr×Bool)}{k1:Nat}
def adS {e:Expr}{v:V}{vs:List V}(h:PE X e (tC v)) (h2:PA X es fun σ H Q=>Q vs H) (hs:starEach (e :: es) X.env=(false,eval e X.env) :: starEach es X.env:=by rfl):PA X (e :: es) fun σ H Q=>Q (v :: vs) H:=
 (j9 h h2 hs).imp fun σ H Q q=>q
def RB (hg:Gl X "isinstance") (hm:X.mg "isinstance" =none) (hk:PA X ks fun σ H Q=>Q kvs H) (hl:kvs.length<=sizeLine) (hu:∀us,Vals kvs us->us=kus) (hcl:∀C b,tb.lookup C=some b->(∃cd,uA X.K C cd)/\Me X.K C/\PySem.W.kitAny X.K (.ref C) kus=some b) (ha:JE X a g)
  (hs:starEach [a,.Tuple ks k1 px] X.env=(false,eval a X.env) :: starEach [.Tuple ks k1 px] X.env:=by rfl) (hs2:starEach [.Tuple ks k1 px] X.env=(false,eval (.Tuple ks k1 px) X.env) :: starEach [] X.env:=by rfl) (hpl:(backTo pos (starEach [.Tuple ks k1 px] X.env)).any (·.1)=false:=by rfl):
  JD X (.Call (.Name "isinstance" p) [a,.Tuple ks k1 px] [] pos) (Co tb g):=⟨fun B=>
 (kO (r:=fun xs H Q=>∃x C dx fs cd b t,xs=[.ref x,.ref t]/\H x=some (.vV C dx fs)/\uA X.K C cd/\Me X.K C/\B7 X.K H t kvs/\PySem.W.kitAny X.K (.ref C) kus=some b/\Q (.bl b) H) (fun pins s σ H xs us Q I r hh=>by
   obtain⟨x,C,dx,fs,cd,b,t,e1,ex,c,G,hp,hk,q⟩:=hh;subst e1;obtain⟨u,w',rfl,ru,rw'⟩:=vals2 r;cases ru;cases rw';exact N8 I ex c G hp (fun _=>hk) hu fun tk=>⟨.bl b,H,I.tok tk,rfl,q⟩) hg hm aeA (j9 (ha.h B) (j9 (MC hk) tV hs2) hs) (by decide) (by decide) hs hpl).imp fun σ H Q hh=>by
 obtain⟨S,F,d,S',R,hg,q⟩:=hh;obtain⟨⟨u1,S1⟩,h1,hg⟩:=aj hg;dsimp only at hg;split at hg
 ·rename_i C k;obtain⟨b,h2,hg⟩:=aB hg;cases hg;obtain⟨⟨cd,c⟩,G,hk⟩:=hcl C b h2;refine⟨S,F,_,_,R,h1,fun v F1 H1 R1 st1 r1=>⟨hl,fun t ht=>?_⟩⟩;obtain⟨x,dx,fs,rfl,ex,_,_⟩:=(show sX F1 v C k from r1)
  have n:=iM.obj (F:=F1) ht (.tup kvs);have ne:x≠t:=fun z=>by have:=R1.sub _ _ ex;rw[z,ht] at this;cases this
  exact⟨x,C,dx,fs,cd,b,t,rfl,by rw[aX ne];exact R1.sub _ _ ex,c,G,B7.of aY,hk,q _ F1 _ (R1.new n (R1.sub.same n.same)) (st1.trans n.step) (.bl b)⟩
 ·cases hg⟩
end
noncomputable def zq:D->Bool
 | .cM=>true
 | _=>false
def Oa (g:GE):GT:=fun S=>(g S).bind fun p=>match p.1 with
 | .x _ _=>some (false,p.2)
 | .t d=>some (zq d,p.2)
 | _=>none
def BD {F:Hp}{v:V}{d:D}(r:Rep F v d):decide (v= .cM)=zq d:=by
 cases r <;> rfl
def VT (C:Addr) (f:Str):Sp:=fun vs H Q _=>∃a tt y,vs=[.ref a,y]/\H a=some (EU a C tt none)/\∀dx,H dx=none->dx≠a->Q .cM (upd (upd H dx (.xd [(f,y)])) a (EU a C tt (some dx)))
section
variable {P:Program}{w:World}{K:AAD}{mg:AAF}{base:Heap}{C:Addr}{cd:ClassData}{f s0 a0 x qual:Str}{st:Stmt}{fI:Addr}{fd:FuncData}{p1 p2 p3 p4:Pos}
def Ob (F:Je K x qual st fI fd) (S:bD [s0,a0] [s0,a0] (aJ st)) (hb:fE st=[.Assign [.Attribute (.Name s0 p1) f p2] (.Name a0 p3) p4]) (c:Ll K C cd) (n:fX K C f)
  (v0:xN (aJ st) s0) (v1:xN (aJ st) a0) (d0:BBT s0:=by decide) (d1:BBT a0:=by decide) (c0:BBU s0:=by decide) (c1:BBU a0:=by decide):
  gQ P w K mg base xV 1 fI fd [s0,a0] (VT C f):=by
 refine F.ok S (fun vs H Q E h=>by obtain⟨a,tt,y,rfl,_⟩:=h;rfl) fun cdv A outer s H vs Q E hr h=>?_;rw[hb];obtain⟨a,tt,y,rfl,ea,q⟩:=h;exact⟨_,IJ (VL c n (eL (i:=0) rfl v0 d0 c0) (eL (i:=1) rfl v1 d1 c1) rfl),y,rfl,.ref a,rfl,a,tt,rfl,ea,q⟩
def hI1 (a tt:Addr) (vs:List V) (H:Hp) (Q:VK) (hl:vs.length=[f].length) (hn:H a=none) (k:∀dx H2,H dx=none->dx≠a->H2 a=some (EU a C tt (some dx))->H2 dx=some (.xd ([f].zip vs))->(∀b,b≠a->b≠dx->H2 b=H b)->Q .cM H2):VT C f (.ref a :: vs) (upd H a (EU a C tt none)) Q E0:=by
 match vs,hl with
 | [y],_=>
  refine⟨a,tt,y,rfl,aY,fun dx hd ne=>?_⟩;rw[aX ne] at hd;exact k dx _ hd ne aY (by rw[aX ne,aY];rfl) fun b h1 h2=>by rw[aX h1,aX h2,aX h1]
end
section
variable {P:Program}{w:World}{K:AAD}{mg:AAF}{base:Heap}
structure VU (P:Program) (w:World) (K:AAD) (mg:AAF) (base:Heap) (n:Nat) (x:Str) (ps:BBB) (fx:FX):Prop where
 ex:∃a d,gQ P w K mg base (Ea P w) n a d ps (PK K ps.length fx)/\Binds K d ps []/\PySem.W.keepIn K (.ref a)=true/\mg x=some (.ref a)
def adT {fx:FX}{g:GX}(D:Df K mg x st) (Sc:bD N ps (aJ st))
  (hf:∀us r,fx us=some r->d9 N.length g us=some r)
  (hb:∀(f:Addr) (cdv:Value) (A:Around) (outer:BBF) (s:Shared) (H:Hp) (E:XK),dM k (A.deeper (envOfC x (aJ st) s.heap.objs.size f cdv))->Cm (wu xV P w K mg base N x (aJ st) f cdv A outer s H E).L7 (fE st) g)
  (bd:Bd x st ps:=by intro _ _ _ _ _ _ us hl;rcases us with _ | ⟨_,_ | ⟨_,_ | ⟨_,_ | ⟨_,_ | ⟨_,_ | ⟨_,_ | ⟨_,_⟩⟩⟩⟩⟩⟩⟩ <;> first | rfl | cases hl):VU P w K mg base (k+1) x ps fx:=by
 obtain⟨f,fd,F,m⟩:=D.ex;exact⟨f,fd,okX F Sc (hb f) hf,F.binds bd,F.kp,m⟩
structure Rai (P:Program) (w:World) (K:AAD) (mg:AAF) (base:Heap) (x:Str) (C:Addr) (ns:BBB):Prop where
 ex:∃fI bm bmB B newId initId TY PJ Rn,XMk K C fI bm bmB B newId initId/\gQ P w K mg base xV 1 fI TY PJ Rn/\Binds K TY PJ []/\
  ∀(a tt:Addr) (vs:List V) (H:Hp) (Q:VK),vs.length=ns.length->H a=none->(∀dx H2,H dx=none->dx≠a->H2 a=some (EU a C tt (some dx))->H2 dx=some (.xd (ns.zip vs))->(∀b,b≠a->b≠dx->H2 b=H b)->Q .cM H2)->Rn (.ref a :: vs) (upd H a (EU a C tt none)) Q E0
 nm:mg x=some (.ref C)
 kp:PySem.W.keepIn K (.ref C)=true
 ln:ns.length<=1000
structure XIn (K:AAD) (C fI:Addr) (bm bmB:AAL) (B newId initId:String) (m q:Str) (st:Stmt) (fd:FuncData):Prop where
 xm:XMk K C fI bm bmB B newId initId
 fn:Je K m q st fI fd
def VW {N:Addr}{B:String}{m qn nm q:Str}{ab:Bool}
  (lC:K.lookup C=some (excClassObj nm q C N bs bm hdct sn sub ab col dd k0 k1 k2 k3 k5 newId)) (ni:PySem.W.nsIn K N "__init__" =some (some (.ref fI))) (l:K.lookup fI=some ⟨.type "function",od,.func (PySem.W.fnOf m qn (nA st) (fE st) (aJ st) .none kV doc pm an cdv ct),osl⟩)
  (c:PySem.W.codeIn K cdv qn=true) (k:PySem.W.keepIn K (.ref fI)=true) (no:PySem.W.nsOkIn K N=true) (tl:PySem.W.tailIn K bmB bm=true) (fac:ExcBaseFacts B newId initId bmB) (XC:bmB.contains (.type "BaseException")=true):
  ∃fd,XIn K C fI bm bmB B newId initId m qn st fd:=⟨_,⟨⟨_,_,_,_,_,_,_,_,_,_,_,_,_,_,_,lC,no,ni⟩,tl,fac,XC,⟨_,l,rfl⟩⟩,Hf l c k⟩
def Ju {N:Addr}{nm q:Str}{ab:Bool}
  (lC:K.lookup C=some (excClassObj nm q C N bs bm hdct sn sub ab col dd k0 k1 k2 k3 k5 newId)):BB K C bm:=⟨_,_,_,_,_,_,_,_,_,_,_,_,_,_,_,_,lC⟩
def adV {B:String}{m qn s0 a0 f:Str}{cd:ClassData}{p1 p2 p3 p4:Pos}(M:∃fd,XIn K C fI bm bmB B newId initId m qn st fd) (nm:mg x=some (.ref C)) (kp:PySem.W.keepIn K (.ref C)=true) (c:Ll K C cd) (n:fX K C f)
  (S:bD [s0,a0] [s0,a0] (aJ st)) (hb:fE st=[.Assign [.Attribute (.Name s0 p1) f p2] (.Name a0 p3) p4]) (v0:xN (aJ st) s0) (v1:xN (aJ st) a0) (bd:Zt m qn st [s0,a0])
  (d0:BBT s0:=by decide) (d1:BBT a0:=by decide) (c0:BBU s0:=by decide) (c1:BBU a0:=by decide):Rai P w K mg base x C [f]:=by
 obtain⟨fd,M,F⟩:=M;exact⟨⟨fI,bm,bmB,B,newId,initId,fd,[s0,a0],VT C f,M,Ob F S hb c n v0 v1 d0 d1 c0 c1,F.binds bd,fun a tt vs H Q=>hI1 a tt vs H Q⟩,nm,kp,acF rfl⟩
end
section
variable {X:Cx}{e:Expr}{es:BBC}{gu:GU}{ga:GA}{x:Str}{p pos cpos:Pos}{k j:Nat}{ps ns:BBB}{fx:FX}{C:Addr}
def xc (c:VU X.prog X.w X.K X.mg X.base j x ps fx) (hr:dM k X.A) (ha:JU X (e :: es) gu) (hj:j<=k:=by lia) (hx:X.xe=fun _ _=>False:=by rfl) (hg:Gl X x:=by rfl) (hn:(e :: es).length=ps.length:=by rfl)
  (hdb:BBT x:=by decide) (he:starEach (e :: es) X.env=(false,eval e X.env) :: starEach es X.env:=by rfl) (hpl:(backTo pos (starEach es X.env)).any (·.1)=false:=by rfl):
  F7 X (.Call (.Name x p) (e :: es) [] pos) (yy fx gu):=by
 obtain⟨a,d,G,b,kp,m⟩:=c.ex;exact Rr (G.mono hj) hx hr hg m kp b ha hn hdb he hpl
def xr (R:Rai X.prog X.w X.K X.mg X.base x C ns) (hr:dM k X.A) (ha:JA X (e :: es) ga) (hj:2<=k:=by lia) (hx:X.xe=fun _ _=>False:=by rfl) (hc:X.calm=true:=by rfl) (hg:Gl X x:=by rfl)
  (hdb:BBT x:=by decide) (he:starEach (e :: es) X.env=(false,eval e X.env) :: starEach es X.env:=by rfl) (hpl:(backTo cpos (starEach es X.env)).any (·.1)=false:=by rfl):
  Mc X (.Raise (some (.Call (.Name x p) (e :: es) [] cpos)) none pos) (zp C ns ga):=by
 obtain⟨fI,bm,bmB,B,ni,ii,fd,PJ,Rn,M,FI,hb,hI⟩:=R.ex;exact N3 M FI hI hx hc R.ln (hr.mono hj) hg R.nm R.kp hb ha hdb he hpl
def xa {fm:FM}{gx:GX}(c:vm X.prog X.w X.K X.mg X.base j x ps fm) (h:F7 X e gx) (hg:Gl X x:=by rfl) (hdb:BBT x:=by decide) (he:starEach [e] X.env=[(false,eval e X.env)]:=by rfl):F7 X (.Call (.Name x p) [e] [] pos) gx:=by
 obtain⟨a,d,G,b,kp,m⟩:=c.ex;exact N6 h hg m kp hdb he
variable {a:Stmt}{r:BBH}{gx gb g1 g2:GX}{g:GS}{q1:GT}
def xq (ha:Mc X a gx) (h:JS X a g) (hb:Cm X r gb) (hx:X.xe=fun _ _=>False:=by rfl):Cm X (a :: r) (qd gx g gb):=VP hx ha h hb
def xo (h:JS X a g) (hb:Cm X r gb) (hx:X.xe=fun _ _=>False:=by rfl):Cm X (a :: r) (N2 g gb):=Zz hx h hb
def xi {c:Expr}(hc:JT X c q1) (ha:Cm X b1 g1) (hb:Cm X b2 g2) (hx:X.xe=fun _ _=>False:=by rfl):Mc X (.If c b1 b2 pos) (PL q1 g1 g2):=ZA hx hc ha hb
def xt {suite:BBH}{b0:Stmt}{n:Str}{np hpos:Pos}{gb gs:GS}{C0:Addr}(hN:X.N.Nodup) (i:Nat) (hm:X.mg x=some (.ref C0)) (h0:∃bm,BB X.K C0 bm/\bm.contains (.type "BaseException")=true)
  (hcl:∀C∈cl,∃bm,BB X.K C bm/\(Value.ref C :: bm).contains (.ref C0)=true) (hb:Cm X body gx) (hb2:JB X body gb) (hs:∀a,JB (X.hand a) (b0 :: suite) gs) (hx:X.xe=fun _ _=>False:=by rfl) (hst:X.stack=X.env :: X.outer:=by rfl) (hfr:X.env.frame=some X.env.locals:=by rfl)
  (hi:X.N[i]? =some n:=by rfl) (hk:X.env.kindOf n=some .local:=by rfl) (hg:Gl X x:=by rfl) (hdb:BBT x:=by decide):
  JS X (.Try body [.ExceptHandler (some (.Name x np)) (some n) (b0 :: suite) hpos] [] [] pos) (N4 i cl gb gx gs):=by
 obtain⟨bm,o,b⟩:=h0;exact VQ hx hst hfr hN hi hk hg hm o b hcl hb hb2 hs hdb
def zx {g:GE}(hN:X.N.Nodup) (i:Nat) (he:JE X e g) (hi:X.N[i]? =some x:=by rfl) (hx:Loc X.env.scope x:=by first | exact Or.inl rfl | exact Or.inr rfl) (hs:swapsWith e (some (.Name x pos')) pos.line X.env=pure false:=by rfl)
  (hf:X.fn x=true\/X.env.scope.names.lookup x=some .local:=by first | exact .inl rfl | exact .inr rfl):JS X (.Assign [.Name x pos'] e pos) (Jt i g):=Ru hN hi hx he hs hf
end
def Eg {Q:Addr->Bool->Prop}:∀C b,([]:List (Addr×Bool)).lookup C=some b->Q C b:=fun _ _ h=>by cases h
def AN {Q:Addr->Bool->Prop}{b:Bool}{tb:List (Addr×Bool)}(h:Q C b) (r:∀C b,tb.lookup C=some b->Q C b):∀C' b',((C,b) :: tb).lookup C'=some b'->Q C' b':=fun C' b' e=>by
 rw[adW] at e;split at e
 ·rename_i q;cases e;rw[eq_of_beq q];exact h
 ·exact r C' b' e
def Oc {Q:Addr->Prop}:∀C∈([]:BBE),Q C:=fun _ h=>by cases h
def Jv {Q:Addr->Prop}(h:Q C) (r:∀C∈cl,Q C):∀C'∈C :: cl,Q C':=fun C' e=>by
 rcases aao.mp e with rfl | e
 ·exact h
 ·exact r C' e
theorem De:∀{as:BBE}{us:AAL},Vals (as.map V.ref) us->us=as.map Value.ref
 | [],_,h=>by cases h;rfl
 | a :: as,_,h=>by
  cases h with
  | cons r rs=>rw[De rs];cases r;rfl
section
variable {X:Cx}{a:Expr}{ks:BBC}{g:GE}{pos p px:Pos}{tb:List (Addr×Bool)}{k1:Nat}{as:BBE}
def Cp (hm:X.mg x=some (.ref c)) (h2:PA X es fun σ H Q=>Q (as.map V.ref) H) (hg:Gl X x:=by rfl) (hd:BBT x:=by decide) (hs:starEach (.Name x p :: es) X.env=(false,eval (.Name x p) X.env) :: starEach es X.env:=by rfl):
  PA X (.Name x p :: es) fun σ H Q=>Q ((c :: as).map V.ref) H:=adS (pO (v:=.ref c) hg hm rfl hd) h2 hs
def TZ:PA X [] fun σ H Q=>Q (([]:BBE).map V.ref) H:=tV
def xnt (hm:X.mg "isinstance" =none) (hk:PA X ks fun σ H Q=>Q (as.map V.ref) H) (hcl:∀C b,tb.lookup C=some b->(∃cd,uA X.K C cd)/\Me X.K C/\PySem.W.kitAny X.K (.ref C) (as.map Value.ref)=some b) (ha:JE X a g) (hg:Gl X "isinstance":=by rfl) (hl:(as.map V.ref).length<=sizeLine:=by simp only[aax,abe,aar,acm];decide)
  (hs:starEach [a,.Tuple ks k1 px] X.env=(false,eval a X.env) :: starEach [.Tuple ks k1 px] X.env:=by rfl) (hs2:starEach [.Tuple ks k1 px] X.env=(false,eval (.Tuple ks k1 px) X.env) :: starEach [] X.env:=by rfl) (hpl:(backTo pos (starEach [.Tuple ks k1 px] X.env)).any (·.1)=false:=by rfl):
  JD X (.Call (.Name "isinstance" p) [a,.Tuple ks k1 px] [] pos) (Co tb g):=RB hg hm hk hl (fun us h=>De h) hcl ha hs hs2 hpl
def xn1 (hm:X.mg "isinstance" =none) (hx:X.mg x=some (.ref c)) (hcl:∀C b,tb.lookup C=some b->(∃cd,uA X.K C cd)/\Me X.K C/\PySem.W.kitOne X.K (.ref C) (.ref c)=some b) (ha:JE X a g) (hg:Gl X "isinstance":=by rfl) (hgx:Gl X x:=by rfl) (hd:BBT x:=by decide)
  (hs:starEach [a,.Name x px] X.env=(false,eval a X.env) :: starEach [.Name x px] X.env:=by rfl) (hs2:starEach [.Name x px] X.env=(false,eval (.Name x px) X.env) :: starEach [] X.env:=by rfl) (hpl:(backTo pos (starEach [.Name x px] X.env)).any (·.1)=false:=by rfl):
  JD X (.Call (.Name "isinstance" p) [a,.Name x px] [] pos) (Co tb g):=N9 hg hm (pO (v:=.ref c) hgx hx rfl hd) (fun u h=>h) hcl ha hs hs2 hpl
def xnb {T:String}(hm:X.mg "isinstance" =none) (hx:X.mg x=none) (hv:bootBuiltins x=some (.type T)) (hcl:∀C b,tb.lookup C=some b->(∃cd,uA X.K C cd)/\Me X.K C/\PySem.W.kitOne X.K (.ref C) (.type T)=some b) (ha:JE X a g) (hg:Gl X "isinstance":=by rfl) (hgx:Gl X x:=by rfl) (hn:x≠"__name__":=by decide) (hd:BBT x:=by decide)
  (hs:starEach [a,.Name x px] X.env=(false,eval a X.env) :: starEach [.Name x px] X.env:=by rfl) (hs2:starEach [.Name x px] X.env=(false,eval (.Name x px) X.env) :: starEach [] X.env:=by rfl) (hpl:(backTo pos (starEach [.Name x px] X.env)).any (·.1)=false:=by rfl):
  JD X (.Call (.Name "isinstance" p) [a,.Name x px] [] pos) (Co tb g):=N9 hg hm (II (v:=.ty T) hgx hx hv rfl hn hd) (fun u h=>h) hcl ha hs hs2 hpl
end
section
variable {X:Cx}{o e:Expr}{es:BBC}{ta:TE}{t:TA}{C f:Addr}{fd:FuncData}{ps:BBB}{k:Nat}{sp:Sp}{m:Str}{ds:AAL}{sW:List V}{pos apos:Pos}
noncomputable def Od (C:Addr) (m:Str) (sp:Sp) (sW:List V) (ta:TE) (t:TA):TX:=fun σ H Q=>ta σ H fun x H1=>∃a dx fs,x= .ref a/\H1 a=some (.ins C dx fs)/\fs.lookup m=none/\t σ H1 fun vs H2=>sp (x :: (vs++sW)) H2 (fun _ _=>False) fun ev _ H'=>∃a,ev= .ref a/\Q σ a H'
def RC (he:PE X o ta) (c:AF X.K C) (hm:Meth X.K C m f) (F:gQ X.prog X.w X.K X.mg X.base (Ea X.prog X.w) k f fd ps sp) (hx:X.xe=fun _ _=>False) (hr:dM k X.A) (hb:Binds X.K fd ps ds) (hd:Vals sW ds) (ha:PA X (e :: es) t)
  (hst:starEach (e :: es) X.env=(false,eval e X.env) :: starEach es X.env) (hpl:(backTo pos (starEach es X.env)).any (·.1)=false)
  (ht:eval (.Call (.Attribute o m apos) (e :: es) [] pos) X.env=(do
   let ov <-eval o X.env
   standAt apos.atName
   let(f,first) <-holding [ov] (getMethod ov m pl)
   callWith pos f first (backTo pos (starEach (e :: es) X.env)) (backToKw pos (keywordEach [] X.env)))):
  Rl X (.Call (.Attribute o m apos) (e :: es) [] pos) (Od C m sp sW ta t):=by
 intro pins s σ H Q I h;refine aet (pl:=pl) (dN (he.wait hx I h) fun u s1 hh=>?_) ht;obtain⟨x,H1,I1,rx,a,dx,fs,ex,ea,l,q⟩:=hh;subst ex;obtain rfl:u=Value.ref a:=rx;refine qZ I1 ea c hm l ?_;refine acA (first:=[.ref a]) (h₀:=X.base) I.ok.mod.PY hm.kp (dN (ha.wait hx I1 q) fun us s2 ⟨vs,H2,I2,r,q2⟩=>⟨I2.sV,?_⟩) hst hpl;exact Eb (us:=.ref a :: us) (vs:=.ref a :: vs) F hr hb hd I2 (.cons rfl r) q2
def Oe (he:PE X o ta) (c:AF X.K C) (hm:Meth X.K C m f) (F:gQ X.prog X.w X.K X.mg X.base (Ea X.prog X.w) k f fd ps sp) (hx:X.xe=fun _ _=>False) (hr:dM k X.A) (hb:Binds X.K fd ps ds) (hd:Vals sW ds)
  (ht:eval (.Call (.Attribute o m apos) [] [] pos) X.env=(do
   let ov <-eval o X.env
   standAt apos.atName
   let(f,first) <-holding [ov] (getMethod ov m pl)
   callWith pos f first (backTo pos (starEach [] X.env)) (backToKw pos (keywordEach [] X.env)))):
  Rl X (.Call (.Attribute o m apos) [] [] pos) (Od C m sp sW ta MB):=by
 intro pins s σ H Q I h;refine aet (pl:=pl) (dN (he.wait hx I h) fun u s1 hh=>?_) ht;obtain⟨x,H1,I1,rx,a,dx,fs,ex,ea,l,q⟩:=hh;subst ex;obtain rfl:u=Value.ref a:=rx;refine qZ I1 ea c hm l ?_;exact afz (first:=[.ref a]) I1.sV hm.kp (Eb (us:=[.ref a]) (vs:=[.ref a]) F hr hb hd I1 (.cons rfl .nil) q)
end
def dB (C:Addr) (m:Str) (i:Nat) (f:FX) (gu:GU):GX:=fun S=>(lH C S i).bind fun kvs=>if kvs.lookup m=none then yy f (z5 i gu) S else none
section
variable {X:Cx}{C:Addr}{e:Expr}{es:BBC}{gu:GU}{x m:Str}{px pos apos:Pos}{fx:FX}{fa:Addr}{fd:FuncData}{ps:BBB}{k n i:Nat}
def F9 {B:Base}{S S1 S':SS}{F0 F1 H1:Hp}{Q:XQ}{r:XV}{u0:U}{us:List U}{vs:List V}{a:Addr}(hS:S[i]? =some (some u0)) (hv:σ[i]? =some (some (.ref a))) (R1:Rel X.K B S1 σ F1 H1) (st1:Step S S1 σ F0 H F1 H1) (rr:Paired (fun v u=>jF X.K B S1 σ H F1 H1 v u) vs us) (hlen:vs.length+1=n)
  (hg:(if(slotsOf (U.v i :: us)).Nodup/\bE (U.v i :: us)<=1 then(bh S1 (.v i :: us)).bind fun ws=>(fx ws).bind fun r=>(wb (.v i :: us) r.2 S1).map fun S2=>(r.1,S2) else none)=some (r,S'))
  (q:∀a F' H',Rel X.K B S' σ F' H'->Step S S' σ F0 H F' H'->sX F' (.ref a) r.1 r.2->Q σ a H'):PK X.K n fx (.ref a :: vs) H1 (fun _ _=>False) fun ev _ H'=>∃a,ev= .ref a/\Q σ a H':=by
 obtain⟨hc,hg⟩:=fj hg;obtain⟨ws,h2,hg⟩:=aj hg;obtain⟨⟨r',outs⟩,h3,hg⟩:=aj hg;obtain⟨S2,h4,hg⟩:=aB hg;cases hg;have NI:Paired (fun v u=>jF X.K B S1 σ H F1 H1 v u) (.ref a :: vs) (.v i :: us):=.cons ⟨hv,st1.slots i u0 hS⟩ rr;refine⟨by show vs.length+1=n;exact hlen,F1,ws,_,outs,R1.sub,rB R1 NI h2,dJ R1 NI h2 hc.1 hc.2,h3,fun a2 F2 H2 po xr=>⟨a2,rfl,?_⟩⟩;obtain⟨R2,st2,mu⟩:=kj R1 st1 NI h2 h4 hc.1 po;exact q a2 F2 H2 R2 st2 xr
def RD (i:Nat) (c:AF X.K C) (hm:Meth X.K C m fa) (F:gQ X.prog X.w X.K X.mg X.base (Ea X.prog X.w) k fa fd ps (PK X.K n fx)) (hx:X.xe=fun _ _=>False) (hr:dM k X.A) (hb:Binds X.K fd ps []) (ha:JU X (e :: es) gu) (hn:(e :: es).length+1=n)
  (hN:X.N[i]? =some x) (hv:xN X.env.scope x) (hd:BBT x) (hcd:BBU x)
  (hst:starEach (e :: es) X.env=(false,eval e X.env) :: starEach es X.env) (hpl:(backTo pos (starEach es X.env)).any (·.1)=false)
  (ht:eval (.Call (.Attribute (.Name x px) m apos) (e :: es) [] pos) X.env=(do
   let ov <-eval (.Name x px) X.env
   standAt apos.atName
   let(f,first) <-holding [ov] (getMethod ov m pl)
   callWith pos f first (backTo pos (starEach (e :: es) X.env)) (backToKw pos (keywordEach [] X.env)))):
  F7 X (.Call (.Attribute (.Name x px) m apos) (e :: es) [] pos) (dB C m i fx gu):=⟨fun B=>(RC (pl:=pl) (eL hN hv hd hcd) c hm F hx hr hb .nil (ha.h B) hst hpl ht).imp fun σ H Q hh=>by
 obtain⟨S,F0,r,S',R,hg,q⟩:=hh;obtain⟨kvs,h0,hg⟩:=aj hg;obtain⟨hl,hg⟩:=fj hg;obtain⟨⟨us',S1⟩,h1,hg⟩:=aj hg;obtain⟨⟨us,S1'⟩,Ze,hq⟩:=aB h1;cases hq;obtain⟨u0,hS,ET,hi⟩:=kq h0;obtain⟨a,ws,dx,e1,e2,e3⟩:=rH R hS ET hi;refine⟨.ref a,e1,a,dx,ws,rfl,e2,uv e3 hl,S,F0,us,S1',R,Ze,fun vs F1 H1 R1 st1 rr=>?_⟩;show PK X.K n fx (.ref a :: (vs++[])) H1 _ _;rw[abU];exact F9 hS e1 R1 st1 rr (by rw[rr.length,ha.len _ _ _ Ze];exact hn) hg q⟩
def Of (i:Nat) (c:AF X.K C) (hm:Meth X.K C m fa) (F:gQ X.prog X.w X.K X.mg X.base (Ea X.prog X.w) k fa fd ps (PK X.K 1 fx)) (hx:X.xe=fun _ _=>False) (hr:dM k X.A) (hb:Binds X.K fd ps [])
  (hN:X.N[i]? =some x) (hv:xN X.env.scope x) (hd:BBT x) (hcd:BBU x)
  (ht:eval (.Call (.Attribute (.Name x px) m apos) [] [] pos) X.env=(do
   let ov <-eval (.Name x px) X.env
   standAt apos.atName
   let(f,first) <-holding [ov] (getMethod ov m pl)
   callWith pos f first (backTo pos (starEach [] X.env)) (backToKw pos (keywordEach [] X.env)))):
  F7 X (.Call (.Attribute (.Name x px) m apos) [] [] pos) (dB C m i fx aE):=⟨fun B=>(Oe (pl:=pl) (eL hN hv hd hcd) c hm F hx hr hb .nil ht).imp fun σ H Q hh=>by
 obtain⟨S,F0,r,S',R,hg,q⟩:=hh;obtain⟨kvs,h0,hg⟩:=aj hg;obtain⟨hl,hg⟩:=fj hg;obtain⟨⟨us',S1⟩,h1,hg⟩:=aj hg;cases h1;obtain⟨u0,hS,ET,hi⟩:=kq h0;obtain⟨a,ws,dx,e1,e2,e3⟩:=rH R hS ET hi;refine⟨.ref a,e1,a,dx,ws,rfl,e2,uv e3 hl,?_⟩;exact F9 (S:=S) (F0:=F0) (H:=H) (vs:=[]) (us:=[]) hS e1 R (Step.refl ..) .nil rfl hg q⟩
end
section
variable {P:Program}{w:World}{K:AAD}{mg:AAF}{base:Heap}{C:Addr}{m q:Str}{st:Stmt}{ps:BBB}{fx:FX}
structure oO (P:Program) (w:World) (K:AAD) (mg:AAF) (base:Heap) (n:Nat) (C:Addr) (m:Str) (ps:BBB) (fx:FX):Prop where
 ex:∃a d,gQ P w K mg base (Ea P w) n a d ps (PK K ps.length fx)/\Binds K d ps []/\Meth K C m a
def oO.mono {j k:Nat}(c:oO P w K mg base j C m ps fx) (h:j<=k):oO P w K mg base k C m ps fx:=
 let⟨a,d,G,r⟩:=c.ex;⟨a,d,G.mono h,r⟩
def Ga {g:GX}(D:Bw K C m q st) (Sc:bD N ps (aJ st))
  (hf:∀us r,fx us=some r->d9 N.length g us=some r)
  (hb:∀(f:Addr) (cdv:Value) (A:Around) (outer:BBF) (s:Shared) (H:Hp) (E:XK),dM k (A.deeper (envOfC q (aJ st) s.heap.objs.size f cdv))->Cm (wu xV P w K mg base N q (aJ st) f cdv A outer s H E).L7 (fE st) g)
  (bd:Zt m q st ps:=by intro _ _ _ _ _ _ us hl;rcases us with _ | ⟨_,_ | ⟨_,_ | ⟨_,_ | ⟨_,_ | ⟨_,_ | ⟨_,_ | ⟨_,_⟩⟩⟩⟩⟩⟩⟩ <;> first | rfl | cases hl):oO P w K mg base (k+1) C m ps fx:=by
 obtain⟨f,fd,F,m⟩:=D.ex;exact⟨f,fd,okX F Sc (hb f) hf,F.binds bd,m⟩
def Lm (D:Bw K C m q st) (z:∀us,fx us=none) (bd:Zt m q st ps:=by intro _ _ _ _ _ _ us hl;rcases us with _ | ⟨_,_ | ⟨_,_ | ⟨_,_ | ⟨_,_ | ⟨_,_ | ⟨_,_ | ⟨_,_⟩⟩⟩⟩⟩⟩⟩ <;> first | rfl | cases hl):oO P w K mg base n C m ps fx:=by
 obtain⟨f,fd,F,m⟩:=D.ex;have no:∀vs H Q E,¬PK K ps.length fx vs H Q E:=fun vs H Q E ⟨_,F,us,r,outs,_,_,_,e,_⟩=>by rw[z us] at e;cases e
 exact⟨f,fd,⟨fun vs H Q E h=>absurd h (no vs H Q E),fun A outer s H args us vs Q E _ _ _ _ h=>absurd h (no vs H Q E)⟩,F.binds bd,m⟩
end
section
variable {X:Cx}{C:Addr}{e:Expr}{es:BBC}{gu:GU}{x m:Str}{px p pos apos:Pos}{k j:Nat}{ps:BBB}{fx:FX}{gx:GX}
def xm (i:Nat) (c:AF X.K C) (F:oO X.prog X.w X.K X.mg X.base j C m ps fx) (hr:dM k X.A) (ha:JU X (e :: es) gu) (hj:j<=k:=by lia) (hn:(e :: es).length+1=ps.length:=by rfl) (hx:X.xe=fun _ _=>False:=by rfl)
  (hN:X.N[i]? =some x:=by rfl) (hv:xN X.env.scope x:=by first | exact Or.inl rfl | exact Or.inr (Or.inl rfl) | exact Or.inr (Or.inr rfl)) (hd:BBT x:=by decide) (hcd:BBU x:=by decide)
  (hst:starEach (e :: es) X.env=(false,eval e X.env) :: starEach es X.env:=by rfl) (hpl:(backTo pos (starEach es X.env)).any (·.1)=false:=by rfl)
  (ht:eval (.Call (.Attribute (.Name x px) m apos) (e :: es) [] pos) X.env=(do
   let ov <-eval (.Name x px) X.env
   standAt apos.atName
   let(f,first) <-holding [ov] (getMethod ov m pl)
   callWith pos f first (backTo pos (starEach (e :: es) X.env)) (backToKw pos (keywordEach [] X.env))):=by rfl):
  F7 X (.Call (.Attribute (.Name x px) m apos) (e :: es) [] pos) (dB C m i fx gu):=by
 obtain⟨a,d,G,b,me⟩:=F.ex;exact RD i c me (G.mono hj) hx hr b ha hn hN hv hd hcd hst hpl ht
def RE {y:Str}(i:Nat) (c:AF X.K C) (F:oO X.prog X.w X.K X.mg X.base j C m [y] fx) (hr:dM k X.A) (hj:j<=k:=by lia) (hx:X.xe=fun _ _=>False:=by rfl)
  (hN:X.N[i]? =some x:=by rfl) (hv:xN X.env.scope x:=by first | exact Or.inl rfl | exact Or.inr (Or.inl rfl) | exact Or.inr (Or.inr rfl)) (hd:BBT x:=by decide) (hcd:BBU x:=by decide)
  (ht:eval (.Call (.Attribute (.Name x px) m apos) [] [] pos) X.env=(do
   let ov <-eval (.Name x px) X.env
   standAt apos.atName
   let(f,first) <-holding [ov] (getMethod ov m pl)
   callWith pos f first (backTo pos (starEach [] X.env)) (backToKw pos (keywordEach [] X.env))):=by rfl):
  F7 X (.Call (.Attribute (.Name x px) m apos) [] [] pos) (dB C m i fx aE):=by
 obtain⟨a,d,G,b,me⟩:=F.ex;exact Of i c me (G.mono hj) hx hr b hN hv hd hcd ht
def XD (h:F7 X e gx) (hs:swapsWith e none pos.line X.env=pure false:=by rfl) (hq:X.calm=true:=by rfl):Mc X (.Expr e pos) gx:=⟨fun B pins s σ H Q I hw=>wpAny_Expr_any (aat (h.h B pins s σ H Q I hw.ofS) (fun _ _ z=>z.elim) fun _ _ z=>z) I.quiet hs⟩
def PXA (X:Cx) (es:BBC) (t:TX):Prop:=∀(pos:Pos) (pins:AAG) (s:Shared) (σ:St) (H:Hp) (Q:XQ),Inv X pins σ H s->t σ H Q->wpAny (model X.prog X.w) X.A (spliced (backTo pos (starEach es X.env))) (fun _ _=>False) (Mb X pins Q) s
structure JXA (X:Cx) (es:BBC) (g:GX):Prop where
 h:∀B,PXA X es (tXE X.K B g)
noncomputable def RG (g:GD) (gx:GX):GX:=fun S=>(g S).bind fun p=>gx p.2
def ZE (h:F7 X e gx) (hs:starEach (e :: es) X.env=(false,eval e X.env) :: starEach es X.env:=by rfl):JXA X (e :: es) gx:=⟨fun B pos pins s σ H Q I hw=>by
 rw[hs];show wpAny _ _ (spliced ((false,eval e X.env) :: backTo pos (starEach es X.env))) _ _ s;exact abA (aat (h.h B pins s σ H Q I hw) (fun _ _ z=>z.elim) fun _ _ z=>z)⟩
def ZF {g:GD}(h:JD X e g) (r:JXA X es gx) (hx:X.xe=fun _ _=>False:=by rfl) (hs:starEach (e :: es) X.env=(false,eval e X.env) :: starEach es X.env:=by rfl):JXA X (e :: es) (RG g gx):=⟨fun B pos pins s σ H Q I hw=>by
 obtain⟨S,F,rr,S',R,hg,q⟩:=hw;obtain⟨⟨d,S1⟩,h1,hg⟩:=aj hg;rw[hs];show wpAny _ _ (spliced ((false,eval e X.env) :: backTo pos (starEach es X.env))) _ _ s;refine abA (dN ((h.h B).wait hx (Q:=fun v H1=>∃F1,Rel X.K B S1 σ F1 H1/\Step S S1 σ F H F1 H1) I ⟨S,F,d,S1,R,h1,fun v F1 H1 R1 st1 _=>⟨F1,R1,st1⟩⟩) fun u s1 hh=>?_);obtain⟨v,H1,I1,_,F1,R1,st1⟩:=hh;exact aat (r.h B pos pins s1 σ H1 Q I1 ⟨S1,F1,rr,S',R1,hg,fun a F' H' R' st xr=>q a F' H' R' (st1.trans st) xr⟩) (fun _ _ z=>z.elim) fun _ _ z=>z⟩
def ZG {x1:Nat}(h:JXA X es gx):F7 X (.Tuple es x1 pos) gx:=⟨fun B pins s σ H Q I hw=>wpAny_Tuple_spliced (aat (h.h B pos pins s σ H Q I hw) (fun _ _ z=>z.elim) fun _ _ z=>z)⟩
def xop {a b:Expr}{op:Operator}{g:GD}(ha:JD X a g) (hb:F7 X b gx) (hx:X.xe=fun _ _=>False:=by rfl):F7 X (.BinOp a op b pos) (RG g gx):=⟨fun B pins s σ H Q I hw=>by
 obtain⟨S,F,rr,S',R,hg,q⟩:=hw;obtain⟨⟨d,S1⟩,h1,hg⟩:=aj hg;refine wpAny_BinOp (dN ((ha.h B).wait hx (Q:=fun v H1=>∃F1,Rel X.K B S1 σ F1 H1/\Step S S1 σ F H F1 H1) I ⟨S,F,d,S1,R,h1,fun v F1 H1 R1 st1 _=>⟨F1,R1,st1⟩⟩) fun u s1 hh=>?_);obtain⟨v,H1,I1,_,F1,R1,st1⟩:=hh;exact aat (hb.h B pins s1 σ H1 Q I1 ⟨S1,F1,rr,S',R1,hg,fun a F' H' R' st xr=>q a F' H' R' (st1.trans st) xr⟩) (fun _ _ z=>z.elim) fun _ _ z=>z⟩
def JI.nn (h:JI X tg e gi):JIN X tg e gi:=⟨fun B pins s σ H Q I hw=>by
 obtain⟨S,F,ds,S',R,hg,q⟩:=hw;refine h.h B pins s σ H Q I ⟨S,F,ds,S',R,hg,fun J F' H' R' st wk=>q J F' H' R' st fun F2 H2 le sb i=>?_⟩;obtain⟨w1,w2⟩:=wk F2 H2 le sb i;refine⟨fun d hd=>?_,w2⟩;obtain⟨go,yl⟩:=w1 d hd;refine⟨go,fun x H3 y=>?_⟩;obtain⟨rfl,rx⟩:=yl x H3 y;exact⟨F2,iM.refl ..,sb,rx⟩⟩
def xf {s1:GS}{bd:GB}(hi:JI X tg iter gi) (hg:JG X tg bd) (hb:JB X stmts s1) (VH:Cm X stmts gx) (hx:X.xe=fun _ _=>False:=by rfl) (hst:X.stack=X.env :: X.outer:=by rfl) (hfr:X.env.frame=some X.env.locals:=by rfl) (hc:X.calm=true:=by rfl) (hs:∀x,foldedSetIterable iter X.env x=pure x:=by intro _;rfl):
  Mc X (.For tg iter stmts [] pos) (N5 bd gi gx s1):=Rw hx hst hfr hc hi.nn hg hb VH hs
def Gb (n:Bool) (g:GE):GD:=fun S=>(Oa g S).map fun p=>(.bl (n != p.1),p.2)
def xz {a:Expr}{g:GE} {jj}(ha:JE X a g):JD X (.Compare a [.Is] [.Constant .none jj pos'] pos) (Gb false g):=⟨fun B=>(DG UR (ha.h B) GP rfl).imp fun σ H Q hh=>by
 obtain⟨S,F,d,S',R,hg,q⟩:=hh;obtain⟨⟨b,S2⟩,h0,hg⟩:=aB hg;cases hg;obtain⟨⟨u,S1⟩,h1,h0⟩:=aj h0;refine⟨S,F,u,S1,R,h1,fun v F1 H1 R1 st1 r1=>⟨rfl,?_⟩⟩;dsimp only at h0;split at h0
 ·rename_i C k;cases h0;obtain⟨x,dx,fs,rfl,_⟩:=(show sX F1 v C k from r1)
  exact q _ F1 H1 R1 st1 (.bl false)
 ·rename_i d;cases h0;rw[BD (show Rep F1 v d from r1)];exact q _ F1 H1 R1 st1 (by cases zq d <;> exact .bl _)
 ·cases h0⟩
def xnz {a:Expr}{g:GE} {jj}(ha:JE X a g):JD X (.Compare a [.IsNot] [.Constant .none jj pos'] pos) (Gb true g):=⟨fun B=>(DG IM (ha.h B) GP rfl).imp fun σ H Q hh=>by
 obtain⟨S,F,d,S',R,hg,q⟩:=hh;obtain⟨⟨b,S2⟩,h0,hg⟩:=aB hg;cases hg;obtain⟨⟨u,S1⟩,h1,h0⟩:=aj h0;refine⟨S,F,u,S1,R,h1,fun v F1 H1 R1 st1 r1=>⟨rfl,?_⟩⟩;dsimp only at h0;split at h0
 ·rename_i C k;cases h0;obtain⟨x,dx,fs,rfl,_⟩:=(show sX F1 v C k from r1)
  exact q _ F1 H1 R1 st1 (.bl true)
 ·rename_i d;cases h0;rw[BD (show Rep F1 v d from r1)];exact q _ F1 H1 R1 st1 (by cases zq d <;> exact .bl _)
 ·cases h0⟩
end
noncomputable def sgn (z:Str):BBB:=z.cps.toList.map fun c=>⟨#[c]⟩
def zu:List D->Option U
 | [.str z]=>if z.length<=100000 then some (.m (.lst ((sgn z).map D.str))) else none
 | _=>none
theorem Jw:∀{zs:BBB}{its:AAL},its.length=zs.length->(∀(j:Nat) v,its[j]? =some v->∃z u,zs[j]? =some z/\v= .str z u)->Vals (zs.map V.str) its
 | [],[],_,_=>.nil
 | [],_ :: _,h,_=>by cases h
 | _ :: _,[],h,_=>by cases h
 | z :: zs,i :: its,h,k=>by
  obtain⟨z',u,e,rfl⟩:=k 0 i rfl;cases e;exact .cons ⟨u,rfl⟩ (Jw (Nat.succ.inj h) fun j v e=>k (j+1) v e)
def Ab (hc:X.calm=true):jK X (.type "list") (rP zu):=by
 intro pins s σ H xs us Q I r ⟨F,ds,w,sb,rs,hw,q⟩
 match ds,rs,hw with
 | [.str z],rs,hw=>
  obtain⟨hz,rfl⟩:=b7 hw;obtain⟨t,rfl⟩:∃t,us=[.str z t]:=by
   cases rs with
   | cons r1 rs=>cases rs;cases r1;cases r with | cons a1 r=>cases r;obtain⟨t,rfl⟩:=a1;exact⟨t,rfl⟩
  have hl:z.cps.size<=sizeLine:=aaA hz (by decide);refine call_list_str (I.ok.hd hc) z t (hn:=hl) fun h' tk acc' c' kp e it=>?_;have hp:=I.hok.fresh (aap s.heap.objs.size);have sl:(sgn z).length=z.cps.size:=by unfold sgn;rw[aas];rfl
  have rv:Vals ((sgn z).map V.str) acc'.toList:=by
   refine Jw (by rw[abw,it.1,sl]) fun j v hv=>?_;obtain⟨c,u,hc',rfl⟩:=it.2 j v (by simpa using hv);exact⟨⟨#[c]⟩,u,by unfold sgn;rw[abi];simp[hc'],rfl⟩
  refine⟨.ref s.heap.objs.size,_,I.laid (t':=tk) (o:=.lst ((sgn z).map V.str)) kp (aap _) ⟨by rw[aas,sl];exact hl,acc'.toList,c',rv,by simpa using e⟩,rfl,?_⟩;exact q _ F _ (iM.obj hp _) (sb.same (iM.obj (F:=F) hp _).same) ⟨_,rfl,hp,sb.fresh hp,_,aY,zh F _⟩
end L2
end
section
namespace Sw
open PySem PySem.Spec PyProof.Rows L2
noncomputable def LET:Str:="abcdefghijklmnopqrstuvwxyz"
def tu (y:Str):Bool:=!(Builtin.Str.occurrences LET y 0 LET.length 1).isEmpty
noncomputable def signs (z:Str):BBB:=z.cps.toList.map fun c=>(⟨#[c]⟩:Str)
def Dg (z:Str):(signs z).length=z.length:=by unfold signs;rw[aas];rfl
def Gd (z:Str):sZ (eF (ao 0)) [AAA (.str z)]=some ((signs z).map D.str,[AAA (.str z)]):=by unfold signs;rw[List.map_map];rfl
def nameB:D->Bool
 | .str z=>decide (1<=z.length) && decide (z.length<=8) && (signs z).all tu
 | _=>false
def jZ {z:Str}(h:z.length<=20000):DW (.t (.str z))=some z.length:=by show(if z.length<=100000 then some z.length else none)=_;rw[if_pos (by lia)]
def vn:GS:=
 (aO (ji (Fj (vM (qB (PD ["str"] (eF (ao 0))))) (Fj (qB (eF (eP AI (aa (oH 0) (aa (eC (.int 1)) aq))))) (qB (eF (eP Xn (aa (oH 0) (aa (eC (.int 8)) aq))))))) (cz (eT (eC (.bl false)))) cW)
 (cz (eP Vk (aa (eF (Bf [] (sZ (eF (ao 0))) kP (eF (eP zX (aa (eF (ao 0)) (aa (eC (.str "abcdefghijklmnopqrstuvwxyz")) aq)))))) aq))))
noncomputable def adX:D->Nat
 | .str z=>z.length
 | _=>0
def nv:FM
 | [.t d]=>if adX d<=20000 then some (.t (.bl (nameB d)),[]) else none
 | _=>none
def Og:∀us r,nv us=some r->aQ 1 vn us=some r:=by
 intro us r h;unfold nv at h;split at h
 ·rename_i d;obtain⟨hb,rfl⟩:=b7 h;cases d with
  | str z=>
   have hb:z.length<=20000:=hb;have jZ:=jZ hb;by_cases h1:(z.length:Int) < 1
   ·have h2:¬1<=z.length:=by lia
    simp[aQ,vn,nameB,kK,Ao,tY,jZ,h1,h2]
   ·by_cases h3:(8:Int) < z.length
    ·have h2:¬z.length<=8:=by lia
     simp[aQ,vn,nameB,kK,Ao,tY,jZ,h1,h2,h3]
    ·have h4:1<=z.length:=by lia
     have h5:z.length<=8:=by lia
     have h6:((signs z).map D.str).length<=100000:=by rw[aas,Dg];lia
     have ei:=Gd z;generalize hx:signs z=xs at h6 ei;have e:=Lj (cap:=[]) (g:=eF (eP zX (aa (eF (ao 0)) (aa (eC (.str "abcdefghijklmnopqrstuvwxyz")) aq)))) (S:=[AAA (.str z)]) (ts:=[]) rfl (fun d=>match d with | .str y=>.bl (tu y) | _=>.cM) (xs.map D.str) [] (fun d hd=>by
      obtain⟨c,_,rfl⟩:=acK.mp hd
      kernel_rfl)
     have e2:([]:List D)++((xs.map D.str).map fun d=>match d with | .str y=>D.bl (tu y) | _=>.cM)=xs.map fun y=>D.bl (tu y):=by rw[List.map_map];rfl
     have e3:=Dc tu xs;rw[e2] at e;generalize xs.map D.str=L at e ei h6;generalize (xs.map fun y=>D.bl (tu y))=M at e e3;simp[aQ,vn,nameB,kK,Ao,tY,jZ,h1,h3,h4,h5,ei,h6,e,e3,hx]
  | _=>kernel_rfl
 ·cases h
def kQ:GS:=
 (aO (ji (Fj (vM (qB (PD ["str"] (eF (ao 0))))) (vM (qB (eCh xO xO (eC (.int 1)) (oH 0) (eC (.int 8)))))) (cz (eT (eC (.bl false)))) cW)
 (cz (eP pK (aa (eF (Bf [] (sZ (eF (ao 0))) (qB (eF (eP Hv (aa (eF (ao 0)) (aa (eC (.str "abcdefghijklmnopqrstuvwxyz")) aq))))) (eF (ao 0)))) (aa (eF (eP c8 aq)) aq)))))
def wN:D->Bool
 | .str y=>!tu y
 | _=>false
theorem BE:∀xs:BBB,(xs.map D.str).filter wN=(xs.filter fun y=>!tu y).map D.str
 | []=>rfl
 | y :: xs=>by
  by_cases h:tu y=true
  ·have e:wN (.str y)=false:=by simp[wN,h]
   rw[aax,adE (by simp[e]),adE (by simp[h]),BE xs]
  ·have e:wN (.str y)=true:=by simp[wN,h]
   rw[aax,adD e,adD (by simp[h]),BE xs,aax]
def eq_nil (xs:BBB):qy (.lst (xs.map D.str)) (.lst [])=xs.isEmpty:=by cases xs <;> kernel_rfl
def uq (xs:BBB):ig (.lst (xs.map D.str))<=40:=by
 have:cF (xs.map D.str)=0:=by
  induction xs with
  | nil=>rfl
  | cons x xs ih=>show max 0 (cF (xs.map D.str))=0;lia
 show cF (xs.map D.str)+1<=40;lia
theorem Ge:∀xs:BBB,(xs.filter fun y=>!tu y).isEmpty=xs.all tu
 | []=>rfl
 | y :: xs=>by
  by_cases h:tu y=true
  ·rw[adE (by simp[h]),Ge xs,afG,h,Bool.true_and]
  ·rw[adD (by simp[h]),afG];simp[h]
def Eh:∀us r,nv us=some r->aQ 1 kQ us=some r:=by
 intro us r h;unfold nv at h;split at h
 ·rename_i d;obtain⟨hb,rfl⟩:=b7 h;cases d with
  | str z=>
   have hb:z.length<=20000:=hb;have jZ:=jZ hb;by_cases h1:(1:Int)<=z.length
   ·by_cases h3:(z.length:Int)<=8
    ·have h4:1<=z.length:=by lia
     have h5:z.length<=8:=by lia
     have h6:((signs z).map D.str).length<=100000:=by rw[aas,Dg];lia
     have ei:=Gd z;generalize hx:signs z=xs at h6 ei;have e:=AL (cap:=[]) (q:=qB (eF (eP Hv (aa (eF (ao 0)) (aa (eC (.str "abcdefghijklmnopqrstuvwxyz")) aq))))) (g:=eF (ao 0)) (S:=[AAA (.str z)]) (ts:=[]) rfl wN (fun d=>d) (xs.map D.str) [] (fun d hd=>by
      obtain⟨c,_,rfl⟩:=acK.mp hd
      kernel_rfl) (fun d hd _=>by
      obtain⟨c,_,rfl⟩:=acK.mp hd;simp)
     have e2:([]:List D)++((xs.map D.str).filter wN).map (fun d=>d)=(xs.filter fun y=>!tu y).map D.str:=by rw[BE];simp
     rw[e2] at e;have e3:=eq_nil (xs.filter fun y=>!tu y);have e4:=uq (xs.filter fun y=>!tu y);rw[Ge xs] at e3;generalize xs.map D.str=L at e ei h6;generalize (xs.filter fun y=>!tu y).map D.str=M at e e3 e4;simp[aQ,kQ,nameB,kK,Ao,tY,jZ,h1,h3,h4,h5,ei,h6,e,e3,e4,hx]
    ·have h2:¬z.length<=8:=by lia
     simp[aQ,kQ,nameB,kK,Ao,tY,jZ,h1,h2,h3]
   ·have h2:¬1<=z.length:=by lia
    simp[aQ,kQ,nameB,kK,Ao,tY,jZ,h1,h2]
  | _=>kernel_rfl
 ·cases h
end Sw
end
section
namespace L2
open PySem PySem.Spec PyProof.Rows
section
variable (S:SS)(d:D)(i:Nat)(g ga gb gc:GD)(gA:GA)
@[simp] theorem adY (ds:List D) (k:Int):FE [.lst ds,.int k]=if 0<=k/\k.toNat<=100000/\ds.length * k.toNat<=100000 then some (.m (.lst (List.replicate k.toNat ds).flatten)) else none:=rfl
@[simp] theorem XE (es ds:List D):jH [.lst es] (.lst ds)=if ds.length+es.length<=100000 then some (.cM,.lst (ds++es)) else none:=rfl
@[simp] theorem aa7 (x y:Int):YX [.int x,.int y]=AAC (if y < x then y else x):=rfl
end
end L2
namespace Sq
open PySem PySem.Spec PyProof.Rows L2 Sw
theorem Jx {bd:GB}{body:GS}:∀(ds:List D) (I:List D->SS->Prop) (S:SS),I ds S->(∀d r S,I (d :: r) S->∃S1 S2,bd d S=some S1/\body S1=some (.nx S2)/\I r S2)->∃S',loop bd body ds S=some (.nx S')/\I [] S'
 | [],I,S,h,_=>⟨S,rfl,h⟩
 | d :: ds,I,S,h,k=>by
  obtain⟨S1,S2,e1,e2,h2⟩:=k d ds S h;obtain⟨S',e,h'⟩:=Jx ds I S2 h2 k;refine⟨S',?_,h'⟩;show((bd d S).bind fun S1=>(body S1).bind _)=_;rw[e1,aag,e2,aag];exact e
def Ei {α:Type}{l:List α}{i:Int}{x:α}(h0:0<=i) (h:l[i.toNat]? =some x):jh l i=some x:=by
 have hl:=(aay.mp h).1;unfold jh G6;rw[if_pos h0,if_pos (by lia)];exact h
def VX {α:Type}{l:List α}{i:Int}(h0:0<=i) (h1:i < l.length):∃x,jh l i=some x/\l[i.toNat]? =some x:=by
 have h:i.toNat < l.length:=by lia
 exact⟨l[i.toNat],Ei h0 (abu h),abu h⟩
def Dh {gA:GA}{S S':SS}{j:Int}(h:gA S=some ([.int j],S')) (h1:j < 1000000) (h2:-1000000 < j):ya gA S=some (B6 0 j.toNat,S'):=by
 unfold ya;rw[h];simp only[aag];rw[if_pos ⟨h1,h2⟩]
noncomputable abbrev fd (c i l:Int):MO:=.lst [.int c,.int i,.int l]
end Sq
end
section
namespace L2
open PySem PySem.Spec PyProof.Rows
@[simp] theorem adZ (n:Nat) (bs:Pz) (ds:List D) (S:SS):K0 n bs (.tup ds) S=if ds.length=n then bs ds S else none:=rfl
@[simp] theorem aa8 (b:GB) (bs:Pz) (d:D) (r:List D) (S:SS):Be b bs (d :: r) S=(b d S).bind fun S1=>bs r S1:=rfl
@[simp] theorem ad0 (S:SS):M9 [] S=some S:=rfl
@[simp] theorem ZI (z:Str):sP (.str z)=true:=rfl
@[simp] theorem ZJ (b:Bool):sP (.bl b)=true:=rfl
@[simp] theorem ZK (b:Int):sP (.int b)=true:=rfl
@[simp] theorem Zs (g:GD) (lo hi:Option GD) (S:SS):Bl g lo hi S=(g S).bind fun p=>(oJ lo p.2).bind fun l=>(oJ hi l.2).bind fun h=>(QU p.1 l.1 h.1).map fun u=>(u,h.2):=rfl
@[simp] theorem XF (S:SS):oJ none S=some (none,S):=rfl
@[simp] theorem XG (g:GD) (S:SS):oJ (some g) S=(g S).bind fun p=>match p.1 with | .int i=>some (some i,p.2) | _=>none:=rfl
@[simp] theorem Rc (ds:List D) (lo hi:BBM):QU (.tup ds) lo hi=AAA (.tup (cutD ds lo hi)):=rfl
@[simp] theorem Rf (ds:List D) (lo hi:BBM):QU (.lst ds) lo hi=AAB (cutD ds lo hi):=rfl
def Oh {bd:GB}{body:GS}(ds:List D) (I:Nat->SS->Prop) (S:SS) (h0:I 0 S) (hs:∀j d S,ds[j]? =some d->I j S->∃S1 S2,bd d S=some S1/\body S1=some (.nx S2)/\I (j+1) S2):∃S',loop bd body ds S=some (.nx S')/\I ds.length S':=by
 obtain⟨S',e,j,hr,hj,hI⟩:=Sq.Jx (bd:=bd) (body:=body) ds (fun r S=>∃j,ds.drop j=r/\j<=ds.length/\I j S) S ⟨0,rfl,acI _,h0⟩ (by
  rintro d r S ⟨j,hr,hj,hI⟩;have hlt:j < ds.length:=by
   have:=congrArg List.length hr;rw[adR,aar] at this;lia
  rw[acG hlt] at hr;injection hr with h1 h2
  obtain⟨S1,S2,e1,e2,h3⟩:=hs j d S (by rw[abu hlt,h1]) hI;exact⟨S1,S2,e1,e2,j+1,h2,hlt,h3⟩)
 have:j=ds.length:=by
  have:=congrArg List.length hr;rw[adR,acm] at this;lia
 subst this;exact⟨S',e,hI⟩
def RH {n j:Nat}{d:D}(h:(B6 0 n)[j]? =some d):j < n/\d= .int j:=by
 unfold B6 at h;rw[abi] at h;cases e:(List.range n)[j]? with
 | none=>rw[e] at h;cases h
 | some k=>
  rw[e] at h;obtain⟨h1,h2⟩:=aay.mp e;rw[List.getElem_range] at h2;rw[List.length_range] at h1;subst h2;refine⟨h1,?_⟩;have:=abh h;rw[<-this];show D.int (0+(j:Int))=_;rw[Int.zero_add]
theorem lQ (bd:GB) (body:GS) (d:D) (ds:List D) (S:SS):loop bd body (d :: ds) S=(bd d S).bind fun S1=>(body S1).bind fun o=>match o with
  | .nx S2=>loop bd body ds S2
  | .ct S2=>loop bd body ds S2
  | .bk S2=>some (.nx S2)
  | .rt u S2=>some (.rt u S2):=rfl
end L2
end
section
namespace Ss
open PySem PySem.Spec PyProof.Rows L2 Sw
variable {z:Str}{r:List D}{bs:BBB}{n room deep:Nat}{kvs:List (Key×D)}
@[simp] theorem BF (kvs:AAJ) (g:GD) (S:SS):Aq kvs g S=(g S).bind fun p=>match p.1 with | .str z=>(cG kvs z).map fun i=>(.int i,p.2) | _=>none:=rfl
@[simp] theorem ad2 (n:Bool) (zs:BBB) (g:GD) (S:SS):rG n zs g S=(g S).map fun p=>(.bl (n != inD p.1 (zs.map D.str)),p.2):=rfl
def fQ (a:D) (r:List D):jh (a :: r) 0=some a:=by
 unfold jh G6;rw[if_pos (by decide),if_pos (by simp only[aar];lia)];rfl
def gR (a b:D) (r:List D):jh (a :: b :: r) 1=some b:=by
 unfold jh G6;rw[if_pos (by decide),if_pos (by simp only[aar];lia)];rfl
def yz (a b c:D) (r:List D):jh (a :: b :: c :: r) 2=some c:=by
 unfold jh G6;rw[if_pos (by decide),if_pos (by simp only[aar];lia)];rfl
noncomputable def qJ:BBB:=["less","same","more"]
noncomputable def HR:BBB:=["each","one"]
def Di (bs:BBB):D->Bool
 | .tup [a]=>qy a (.str "any")
 | .tup [a,b]=>if qy a (.str "name") then nameB b else inD a (qJ.map D.str) && (p9 b 0 9 || inD b (bs.map D.str))
 | _=>false
noncomputable def LEN:List (Str×Int):=[("yes",1),("no",1),("now",2),("not",2),("both",3),("either",3),("next",2),("till",3),("within",3),("always",2),("some",2),("each",4),("one",4)]
noncomputable def STA:List (Str×Int):=[("yes",1),("no",1),("now",2),("not",1),("both",1),("either",1),("next",1),("till",1),("within",2),("always",1),("some",1),("each",3),("one",3)]
def cL (z:Str):Int:=(cG LEN z).getD 0
def fH (z:Str):Nat:=((cG STA z).getD 0).toNat
def bX (z:Str):Bool:=inD (.str z) (HR.map D.str)
noncomputable def gO:BBB:=["yes","no","now","not","both","either","next","till","within","always","some","each","one"]
def Ej {kvs:AAJ}(h:z∉kvs.map (·.1)):cG kvs z=none:=by
 unfold cG;have:kvs.find? (fun p=>decide (p.1=z))=none:=List.find?_eq_none.mpr fun p hp q=>h (by rw[<-aek q];exact List.mem_map_of_mem hp);rw[this];rfl
def zw (h:z∉gO):cL z=0:=by unfold cL;rw[Ej (show z∉LEN.map (·.1) from h)];rfl
def uB (h:cL z≠0):z∈gO:=ace fun q=>h (zw q)
structure HS (z:Str):Prop where
 TN:cG STA z=some ((fH z:Nat):Int)
 s1:1<=fH z
 s4:(fH z:Int)<=cL z
 l4:cL z<=4
 few:cL z - fH z<=2
def Jy:∀z∈gO,HS z:=by
 intro z hz;simp only[gO,aao,aa4,acg] at hz;rcases hz with rfl | rfl | rfl | rfl | rfl | rfl | rfl | rfl | rfl | rfl | rfl | rfl | rfl <;> exact⟨by decide,by decide,by decide,by decide,by decide⟩
def wO:GS:=
 (cz (Bl (eF (ao 0)) (some (Aq [("yes",1),("no",1),("now",2),("not",1),("both",1),("either",1),("next",1),("till",1),("within",2),("always",1),("some",1),("each",3),("one",3)] (d8 0 (eC (.int 0))))) none))
def kR:GS:=
 (aO (ji (qB (rG false ["each","one"] (d8 0 (eC (.int 0))))) (cz (eP cE (aa (eF (ao 1)) (aa (eF (eP cT (aa (d8 0 (eC (.int 2))) aq))) aq)))) cW)
 (cz (ao 1)))
def wQ:FM:=aQ 1 wO
def Ln:∀us r,wQ us=some r->aQ 1 wO us=some r:=fun _ _ h=>h
def Oi (ds:List D) (k:Nat):L2.cutD ds (some (k:Int)) none=ds.drop k:=by
 unfold L2.cutD;rw[HT.MK,HT.AG];by_cases h:k<=ds.length
 ·rw[Nat.min_eq_left h,List.take_of_length_le (by rw[adR];lia)]
 ·rw[Nat.min_eq_right (by lia),aeY (aap _),aeY (by lia),List.take_nil]
def Oj (h:HS z):wQ [.t (.tup (.str z :: r))]=some (.t (.tup ((.str z :: r).drop (fH z))),[]):=by
 have e:=h.TN;unfold STA at e;have c:=Oi (.str z :: r) (fH z);simp[wQ,aQ,wO,fQ,e,c,aG]
def fy:FM:=aQ 2 kR
def Lo:∀us r,fy us=some r->aQ 2 kR us=some r:=fun _ _ h=>h
def gg {bd:D}(h:bX z=false):fy [.t (.tup (.str z :: r)),.t bd]=some (.t bd,[]):=by
 unfold bX HR at h;simp only[aax,abe] at h;simp[fy,aQ,kR,fQ,h,aG]
def Lp {a b:D}{bs:List D}(h:bX z=true) (hl:bs.length<=1000):fy [.t (.tup (.str z :: a :: b :: r)),.t (.tup bs)]=some (.t (.tup (bs++[b])),[]):=by
 unfold bX HR at h;simp only[aax,abe] at h;have e:bs.length+1<=100000:=by lia
 simp[fy,aQ,kR,fQ,yz,h,aG,e]
def g8 (bs:BBB) (z:Str) (r:List D):Bool:=
 if cL z=(r.length:Int)+1 then
  (match r with
  | []=>true
  | a :: r2=>if z="now" then Di bs a else if z="within" then p9 a 0 5 else if bX z then(match r2 with | b :: _=>nameB a && nameB b | []=>false) else true)
 else false
noncomputable def strOf:D->Str
 | .str z=>z
 | _=>""
def kT (bs:BBB) (z:Str) (r:List D):BBB:=if bX z=true then bs++[strOf (r.getD 1 .cM)] else bs
def dQ (z:Str) (r:List D):List D:=(.str z :: r).drop (fH z)
def kC:Nat->BBB->D->Bool
 | 0,_,_=>false
 | n+1,bs,.tup (.str z :: r)=>g8 bs z r && (dQ z r).all (kC n (kT bs z r))
 | _+1,_,_=>false
def HU (h:g8 bs z r=true):cL z=(r.length:Int)+1/\HS z/\z∈gO:=by
 unfold g8 at h;split at h
 ·rename_i c;have:=uB (z:=z) (by lia);exact⟨c,Jy z this,this⟩
 ·cases h
def uC {d:D}(h:nameB d=true):∃y,d= .str y:=by
 cases d with
 | str z=>exact⟨z,rfl⟩
 | _=>cases h
def tF:Nat->D->List D
 | 0,_=>[]
 | n+1,.tup (.str z :: r)=>.tup (.str z :: r) :: (dQ z r).flatMap (tF n)
 | _+1,d=>[d]
def BG {d:D}(h:kC (n+1) bs d=true):∃z r,d= .tup (.str z :: r)/\g8 bs z r=true/\∀p∈dQ z r,kC n (kT bs z r) p=true:=by
 cases d with
 | tup ds=>
  cases ds with
  | nil=>cases h
  | cons a r=>
   cases a with
   | str z=>
    obtain⟨h1,h2⟩:=adQ.mp (show(g8 bs z r && (dQ z r).all (kC n (kT bs z r)))=true from h);exact⟨z,r,rfl,h1,fun p hp=>adU.mp h2 p hp⟩
   | _=>cases h
 | _=>cases h
def iJ (n:Nat) (d:D):Nat:=(tF n d).length
def Ol:D->Bool
 | .tup (.str z :: _)=>bX z
 | _=>false
def As (n:Nat) (d:D):Nat:=((tF n d).filter Ol).length
def VY (d:D):Bool:=kC 8 [] d && (decide (iJ 8 d<=16) && decide (As 8 d<=3))
@[simp] theorem aa9 (Ci:List (Str×GD)) (S:SS):yj Ci S=(rF Ci S).map fun p=>(.m (.dct (eV [] p.1)),p.2):=rfl
@[simp] theorem RI (S:SS):rF [] S=some ([],S):=rfl
@[simp] theorem PM (z:Str) (g:GD) (r:List (Str×GD)) (S:SS):rF ((z,g) :: r) S=(g S).bind fun p=>(rF r p.2).map fun q=>((.inr z,p.1) :: q.1,q.2):=rfl
@[simp] theorem aba (i:Nat) (ge:GE) (S:SS):FL i ge S=match S[i]? with
 | some (some u)=>if Bp u then(ge S).bind fun p=>match p.1 with
  | .m (.dct more)=>yc p.2 i fun o=>match o with
   | .dct kvs=>if kvs.length+more.length<=100000 then some (.cM,.dct (eV kvs more)) else none
   | _=>none
  | _=>none
  else none
 | _=>none:=rfl
@[simp] theorem abb (i:Nat) (gk gd:GD) (S:SS):Jl i gk gd S=match S[i]? with
 | some (some u)=>if Bp u then(gk S).bind fun p=>(gd p.2).bind fun q=>match q.2[i]? with
  | some (some u2)=>(Nv u2 p.1).map fun o=>(o.getD q.1,q.2)
  | _=>none
  else none
 | _=>none:=rfl
@[simp] theorem abd (kvs:List (Key×D)):Bp (.m (.dct kvs))=true:=rfl
@[simp] theorem ad4 (kvs:List (Key×D)) (k:D):Nv (.m (.dct kvs)) k=(keyOf k).map (dz kvs):=rfl
noncomputable def HV (n:Int) (ps:BBD):D:=.tup [.int n,.lst (ps.map D.int)]
def RJ:List (Key×D):=[(.inr "yes",HV 1 []),(.inr "no",HV 1 []),(.inr "now",HV 2 []),(.inr "not",HV 2 [1]),(.inr "next",HV 2 [1]),(.inr "always",HV 2 [1])]
def RK:List (Key×D):=[(.inr "some",HV 2 [1]),(.inr "both",HV 3 [1,2]),(.inr "either",HV 3 [1,2]),(.inr "till",HV 3 [1,2])]
def VZ:List (Key×D):=[(.inr "within",HV 3 [2]),(.inr "each",HV 4 [3]),(.inr "one",HV 4 [3])]
def SHP:List (Key×D):=eV (eV (eV [] RJ) (eV [] RK)) (eV [] VZ)
def RL (kvs:List (Key×D)) (k:Key) (d:D):(putD kvs k d).length<=kvs.length+1:=by
 unfold putD;split
 ·rw[aas];lia
 ·rw[aaB];exact aap _
theorem qK:∀(more kvs:List (Key×D)),(eV kvs more).length<=kvs.length+more.length
 | [],kvs=>aap _
 | p :: r,kvs=>by
  have h1:=qK r (putD kvs p.1 p.2);have h2:=RL kvs p.1 p.2;show(eV (putD kvs p.1 p.2) r).length<=_;rw[aar];lia
def yC:GS:=
 (aO (bR 1 (yj [("yes",(eF (eP cT (aa (eC (.int 1)) (aa (eF (eP c8 aq)) aq))))),("no",(eF (eP cT (aa (eC (.int 1)) (aa (eF (eP c8 aq)) aq))))),("now",(eF (eP cT (aa (eC (.int 2)) (aa (eF (eP c8 aq)) aq))))),("not",(eF (eP cT (aa (eC (.int 2)) (aa (eF (eP c8 (aa (eC (.int 1)) aq))) aq))))),("next",(eF (eP cT (aa (eC (.int 2)) (aa (eF (eP c8 (aa (eC (.int 1)) aq))) aq))))),("always",(eF (eP cT (aa (eC (.int 2)) (aa (eF (eP c8 (aa (eC (.int 1)) aq))) aq)))))]))
 (aO (mH (eT (FL 1 (yj [("some",(eF (eP cT (aa (eC (.int 2)) (aa (eF (eP c8 (aa (eC (.int 1)) aq))) aq))))),("both",(eF (eP cT (aa (eC (.int 3)) (aa (eF (eP c8 (aa (eC (.int 1)) (aa (eC (.int 2)) aq)))) aq))))),("either",(eF (eP cT (aa (eC (.int 3)) (aa (eF (eP c8 (aa (eC (.int 1)) (aa (eC (.int 2)) aq)))) aq))))),("till",(eF (eP cT (aa (eC (.int 3)) (aa (eF (eP c8 (aa (eC (.int 1)) (aa (eC (.int 2)) aq)))) aq)))))]))))
 (aO (mH (eT (FL 1 (yj [("within",(eF (eP cT (aa (eC (.int 3)) (aa (eF (eP c8 (aa (eC (.int 2)) aq))) aq))))),("each",(eF (eP cT (aa (eC (.int 4)) (aa (eF (eP c8 (aa (eC (.int 3)) aq))) aq))))),("one",(eF (eP cT (aa (eC (.int 4)) (aa (eF (eP c8 (aa (eC (.int 3)) aq))) aq)))))]))))
 (cz (eT (Jl 1 (eF (ao 0)) (eF (eP cT (aa (eC (.int 0)) (aa (eF (eP c8 aq)) aq))))))))))
def kU:FM:=aQ 2 yC
def Lq:∀us r,kU us=some r->aQ 2 yC us=some r:=fun _ _ h=>h
def Lr (z:Str):kU [.t (.str z)]=some (.t ((dz SHP (.inr z)).getD (HV 0 [])),[]):=by
 have l1:=qK RJ [];have l2:=qK RK [];have l3:=qK VZ [];have l4:=qK (eV [] RK) (eV [] RJ);have k1:RJ.length=6:=rfl;have k2:RK.length=4:=rfl;have k3:VZ.length=3:=rfl;rw[acm] at l1 l2 l3;have b1:(eV [] RJ).length+(eV [] RK).length<=100000:=by decide
 have b2:(eV (eV [] RJ) (eV [] RK)).length+(eV [] VZ).length<=100000:=by decide
 clear l1 l2 l3 l4 k1 k2 k3;unfold SHP;unfold RJ RK VZ at *;simp only[HV,abe,aax] at *
 kernel_rfl
def vP (z:Str):BBD:=(List.range (cL z - fH z).toNat).map fun(k:Nat)=>(fH z:Int)+k
def Om {k:Key}{d:D}{x:Key}(h:x∈(putD kvs k d).map (·.1)):x∈kvs.map (·.1)\/x=k:=by
 unfold putD at h;split at h
 ·rw[List.map_map] at h;obtain⟨kv,h1,h2⟩:=acK.mp h;simp only[Function.comp] at h2;split at h2
  ·exact .inl (acK.mpr ⟨kv,h1,h2⟩)
  ·exact .inl (acK.mpr ⟨kv,h1,h2⟩)
 ·rw[aej] at h;rcases abP.mp h with q | q
  ·exact .inl q
  ·exact .inr (by simpa using q)
theorem rK:∀{more kvs:List (Key×D)}{x:Key},x∈(eV kvs more).map (·.1)->x∈kvs.map (·.1)\/x∈more.map (·.1)
 | [],kvs,x,h=>.inl h
 | p :: r,kvs,x,h=>by
  rcases rK (more:=r) (kvs:=putD kvs p.1 p.2) h with q | q
  ·rcases Om q with y | y
   ·exact .inl y
   ·exact .inr (by rw[y];exact abf)
  ·exact .inr (aaz _ q)
def HW {k:Key}(h:k∉kvs.map (·.1)):dz kvs k=none:=by
 unfold dz;have:kvs.find? (fun kv=>decide (kv.1=k))=none:=List.find?_eq_none.mpr fun p hp q=>h (by rw[<-aek q];exact List.mem_map_of_mem hp);rw[this];rfl
def lR (z:Str):kU [.t (.str z)]=some (.t (.tup [.int (cL z),.lst ((vP z).map D.int)]),[]):=by
 rw[Lr];by_cases h:z∈gO
 ·simp only[gO,aao,aa4,acg] at h;rcases h with rfl | rfl | rfl | rfl | rfl | rfl | rfl | rfl | rfl | rfl | rfl | rfl | rfl <;> rfl
 ·have e1:dz SHP (.inr z)=none:=HW fun q=>by
   unfold SHP at q;have k1:(.inr z:Key)∈RJ.map (·.1)->False:=fun q=>by
    apply h;simp only[RJ,aax,abe,aao,aa4,acg,afI] at q;rcases q with rfl | rfl | rfl | rfl | rfl | rfl <;> decide
   have k2:(.inr z:Key)∈RK.map (·.1)->False:=fun q=>by
    apply h;simp only[RK,aax,abe,aao,aa4,acg,afI] at q;rcases q with rfl | rfl | rfl | rfl <;> decide
   have k3:(.inr z:Key)∈VZ.map (·.1)->False:=fun q=>by
    apply h;simp only[VZ,aax,abe,aao,aa4,acg,afI] at q;rcases q with rfl | rfl | rfl <;> decide
   have one:∀L:List (Key×D),((.inr z:Key)∈L.map (·.1)->False)->(.inr z:Key)∈(eV [] L).map (·.1)->False:=fun L k q=>by
    rcases rK q with q | q
    ·cases q
    ·exact k q
   rcases rK q with q | q
   ·rcases rK q with q | q
    ·exact one _ k1 q
    ·exact one _ k2 q
   ·exact one _ k3 q
  rw[e1];have e2:cL z=0:=zw h;have e3:vP z=[]:=by unfold vP;rw[e2];rw[show((0:Int) - fH z).toNat=0 by lia];rfl
  rw[e2,e3];rfl
def Jz:cL "now" =2/\cL "within" =3:=by decide
def BH (n:Nat) (z:Str) (r:List D):(iJ (n+1) (.tup (.str z :: r)):Int)=1+(((dQ z r).flatMap (tF n)).length:Int):=by
 unfold iJ;show(((.tup (.str z :: r):D) :: (dQ z r).flatMap (tF n)).length:Int)=_;rw[aar];push_cast;lia
def Ek (n:Nat) (z:Str) (r:List D):(As (n+1) (.tup (.str z :: r)):Int)=(if bX z=true then 1 else 0)+((((dQ z r).flatMap (tF n)).filter Ol).length:Int):=by
 unfold As;show((((.tup (.str z :: r):D) :: (dQ z r).flatMap (tF n)).filter Ol).length:Int)=_;by_cases h:bX z=true
 ·rw[adD (by exact h),if_pos h,aar];push_cast;lia
 ·rw[adE (by exact h),if_neg h];lia
def rL (n:Nat) (bs:BBB) (z:Str) (r:List D):kC (n+1) bs (.tup (.str z :: r))=true↔g8 bs z r=true/\∀p∈dQ z r,kC n (kT bs z r) p=true:=by
 show(g8 bs z r && (dQ z r).all (kC n (kT bs z r)))=true↔_;rw[adQ,adU]
def Gf (c:cL z=(r.length:Int)+1) (n1:¬z="now") (n2:¬(z="within"/\p9 (r.getD 0 .cM) 0 5=false)) (hb:bX z=false):g8 bs z r=true:=by
 unfold g8;rw[if_pos c];cases r with
 | nil=>rfl
 | cons a q=>
  simp only[n1,afe,hb];by_cases k:z="within"
  ·rw[if_pos k];cases w:p9 a 0 5 with
   | true=>rfl
   | false=>exact absurd ⟨k,w⟩ n2
  ·rw[if_neg k];rfl
structure Dr (deep:Nat) (bs:BBB) (room:Nat) (bin:Nat) (d:D):Prop where
 fm:kC deep bs d=true
 sz:iJ deep d<=room
 bn:As deep d=bin
 fit:L8 8 d
 dep:ig d<=deep+1
def names14:BBB:=D7++(["not","now","each","nows","anyone","eacha"]:BBB)
noncomputable def pQ:List D:=names14.map D.str
def ZL:∀z∈names14,nameB (.str z)=true/\z.length<=8:=by decide +kernel
def JC (b:Int):List (Key×D):=[(.inr "names",.lst pQ),(.inr "binders",.int b)]
def T5 (b:Int):dz (JC b) (.inr "names")=some (.lst pQ):=rfl
def T6 (b:Int):dz (JC b) (.inr "binders")=some (.int b):=rfl
def ZM (b x:Int):putD (JC b) (.inr "binders") (.int x)=JC x:=rfl
def AO:pQ.length=14:=rfl
def T7 {i:Int}(h0:0<=i) (h1:i < 14):∃z,jh pQ i=some (.str z)/\nameB (.str z)=true/\z.length<=8:=by
 have h:i.toNat < names14.length:=by show _ < 14;lia
 refine⟨names14[i.toNat],Sq.Ei h0 (by unfold pQ;rw[abi,abu h];rfl),?_⟩;exact ZL _ (List.getElem_mem h)
abbrev tp (t:ir):MO:=.dct (bK t)
def kg {t:ir}{m:Int}(h1:0 < m) (h2:m < 1000) (h3:0<=t.n) (h4:t.n < 900000):cV [.b (tp t),.t (.int m)]=some (.t (.int (eY t m)),[tp (dw t m)]):=mK h1 (by lia) h3 (by lia)
def jq (au:FM):GS:=
 (aO (bR 3 (aZ au (eU (ao 0) (aH (eC (.int 5)) aE))))
 (aO (ji (qB (eF (eP pK (aa (eF (ao 3)) (aa (eC (.int 0)) aq))))) (cz (eP cT (aa (eC (.str "any")) aq))) cW)
 (aO (ji (qB (eF (eP pK (aa (eF (ao 3)) (aa (eC (.int 1)) aq))))) (cz (eP cT (aa (eC (.str "name")) (aa (d8 1 (eF (aZ au (eU (ao 0) (aH (oH 1) aE))))) aq)))) cW)
 (aO (bR 4 (eP Ht (aa (eF (eP c8 (aa (eC (.int 0)) (aa (eC (.int 1)) (aa (eC (.int 2)) (aa (eC (.int 3)) (aa (eC (.int 5)) (aa (eC (.int 9)) aq)))))))) (aa (eF (aZ au (eU (ao 0) (aH (eC (.int 6)) aE)))) aq))))
 (aO (ji (iI (qB (eF (eP QO (aa (eF (ao 2)) (aa (eF (eP cT aq)) aq))))) (qB (eF (eP Xn (aa (eF (aZ au (eU (ao 0) (aH (eC (.int 3)) aE)))) (aa (eC (.int 0)) aq)))))) (bR 4 (eT (d8 2 (eF (aZ au (eU (ao 0) (aH (oH 2) aE))))))) cW)
 (cz (eP cT (aa (eF (eP Ht (aa (eF (eP c8 (aa (eC (.str "less")) (aa (eC (.str "same")) (aa (eC (.str "more")) aq))))) (aa (eF (eP nF (aa (eF (ao 3)) (aa (eC (.int 2)) aq)))) aq)))) (aa (eF (ao 4)) aq)))))))))
def oR:FM:=aQ 5 (jq cV)
def Ls:∀us r,oR us=some r->aQ 5 (jq cV) us=some r:=fun _ _ h=>h
def Ac {x:D}{l:List D}{i:Int}(h0:0<=i) (h1:i < l.length):∃y,jh l i=some y/\y∈l:=by
 obtain⟨y,a,b⟩:=Sq.VX (l:=l) h0 h1;exact⟨y,a,ach b⟩
def Gg (bs:BBB) (a b:D):Di bs (.tup [a,b])=if qy a (.str "name")=true then nameB b else inD a (qJ.map D.str) && (p9 b 0 9 || inD b (bs.map D.str)):=rfl
def Oo {t:ir}(h0:0<=t.n) (h1:t.n < 800000) (hb:bs.length < 900) (hs:∀z∈bs,z.length<=8):
  ∃d t',oR [.b (tp t),.t (.lst pQ),.t (.tup (bs.map D.str))]=some (.t d,[tp t'])/\Di bs d=true/\L8 8 d/\ig d<=1/\t.n<=t'.n/\t'.n<=t.n+4:=by
 have p1:=kg (t:=t) (m:=5) (by lia) (by lia) h0 (by lia);obtain⟨w0,w1⟩:=cj (t:=t) (m:=5) (by lia);generalize hw:eY t 5=w at *;have t1n:(dw t 5).n=t.n+1:=fG t 5;generalize dw t 5=t1 at *;by_cases c0:w=0
 ·subst c0;exact⟨.tup [.str "any"],t1,by simp[oR,aQ,jq,p1,aG],rfl,⟨(by show 1<=8;lia),(by show 3<=8;lia),True.intro⟩,by decide,by lia,by lia⟩
 ·by_cases c1:w=1
  ·subst c1;have p2:=kg (t:=t1) (m:=14) (by lia) (by lia) (by lia) (by lia);obtain⟨v0,v1⟩:=cj (t:=t1) (m:=14) (by lia);generalize eY t1 14=v at *;have XH:(dw t1 14).n=t1.n+1:=fG t1 14;generalize dw t1 14=t2 at *;obtain⟨z,a1,a2,a3⟩:=T7 v0 v1;have nl:(pQ.length:Int)=14:=rfl;refine⟨.tup [.str "name",.str z],t2,by simp[oR,aQ,jq,p1,aG,nl,p2,a1],?_,⟨(by show 2<=8;lia),(by show 4<=8;lia),a3,True.intro⟩,by show max 0 (max 0 0)+1<=1;lia,by lia,by lia⟩;rw[Gg,if_pos (qE _)];exact a2
  ·have p2:=kg (t:=t1) (m:=6) (by lia) (by lia) (by lia) (by lia);obtain⟨v0,v1⟩:=cj (t:=t1) (m:=6) (by lia);generalize eY t1 6=v at *;have XH:(dw t1 6).n=t1.n+1:=fG t1 6;generalize dw t1 6=t2 at *;obtain⟨nb,b1,b2⟩:=Ac (x:=.cM) (l:=[.int 0,.int 1,.int 2,.int 3,.int 5,.int 9]) v0 v1;have hnb:p9 nb 0 9=true/\L8 8 nb/\ig nb=0:=by
    simp only[aao,aa4,acg] at b2;rcases b2 with rfl | rfl | rfl | rfl | rfl | rfl <;> exact⟨by decide,True.intro,rfl⟩
   obtain⟨hd,d1,d2⟩:=Ac (x:=.cM) (l:=[.str "less",.str "same",.str "more"]) (i:=w - 2) (by lia) (by simp only[aar,acm];lia);have hhd:inD hd (qJ.map D.str)=true/\qy hd (.str "name")=false/\L8 8 hd/\ig hd=0:=by
    simp only[aao,aa4,acg] at d2;rcases d2 with rfl | rfl | rfl <;> exact⟨by decide,by decide,(by show _<=8;decide),rfl⟩
   have fin:∀x:D,(p9 x 0 9=true\/inD x (bs.map D.str)=true)->L8 8 x->ig x=0->Di bs (.tup [hd,x])=true/\L8 8 (.tup [hd,x])/\ig (.tup [hd,x])<=1:=fun x h1 h2 h3=>by
    refine⟨?_,⟨(by show 2<=8;lia),hhd.2.2.1,h2,True.intro⟩,by show max (ig hd) (max (ig x) 0)+1<=1;rw[hhd.2.2.2,h3];decide⟩;rw[Gg,hhd.2.1,hhd.1];rcases h1 with q | q
    ·rw[q];rfl
    ·rw[q];simp
   have dv:ig (.tup (bs.map D.str))<=40:=by show cF (bs.map D.str)+1<=40;rw[L2.uq];lia
   cases bs with
   | nil=>
    obtain⟨f1,f2,f3⟩:=fin nb (.inl hnb.1) hnb.2.1 hnb.2.2;refine⟨.tup [hd,nb],t2,?_,f1,f2,f3,by lia,by lia⟩;have q:qy (.tup []) (.tup [])=true:=rfl;simp only[abe] at dv ⊢;simp[oR,aQ,jq,p1,aG,c0,c1,p2,b1,dv,q,d1]
   | cons y ys=>
    have q:qy (.tup ((y :: ys).map D.str)) (.tup [])=false:=rfl;have p3:=kg (t:=t2) (m:=3) (by lia) (by lia) (by lia) (by lia);have t3n:(dw t2 3).n=t2.n+1:=fG t2 3;generalize eY t2 3=u at *;generalize dw t2 3=t3 at *;by_cases c3:0 < u
    ·have p4:=kg (t:=t3) (m:=((y :: ys).map D.str).length) (by rw[aas];simp only[aar];lia) (by rw[aas];lia) (by lia) (by lia);have t4n:(dw t3 ((y :: ys).map D.str).length).n=t3.n+1:=fG t3 _;obtain⟨x0,x1⟩:=cj (t:=t3) (m:=((y :: ys).map D.str).length) (by rw[aas];simp only[aar];lia);obtain⟨vv,g1,g2⟩:=Ac (x:=.cM) (l:=(y :: ys).map D.str) x0 x1;generalize dw t3 ((y :: ys).map D.str).length=t4 at *;generalize eY t3 ((y :: ys).map D.str).length=x at *;obtain⟨vs,m1,rfl⟩:=acK.mp g2;have iv:inD (.str vs) ((y :: ys).map D.str)=true:=by
      unfold inD;exact afS.mpr ⟨.str vs,g2,qE _⟩
     obtain⟨f1,f2,f3⟩:=fin (.str vs) (.inr iv) (hs vs m1) rfl;refine⟨.tup [hd,.str vs],t4,?_,f1,f2,f3,by lia,by lia⟩;generalize (y :: ys).map D.str=L at *;simp[oR,aQ,jq,p1,aG,c0,c1,p2,b1,dv,q,p3,c3,p4,g1,d1]
    ·obtain⟨f1,f2,f3⟩:=fin nb (.inl hnb.1) hnb.2.1 hnb.2.2;refine⟨.tup [hd,nb],t3,?_,f1,f2,f3,by lia,by lia⟩;generalize (y :: ys).map D.str=L at *;simp[oR,aQ,jq,p1,aG,c0,c1,p2,b1,dv,q,p3,c3,d1]
def dr0 (sh:g8 bs z r=true) (pl:dQ z r=[]) (nb:bX z=false) (hr:1<=room) (fit:L8 8 (.tup (.str z :: r))) (dep:ig (.tup (.str z :: r))<=n+2):Dr (n+1) bs room 0 (.tup (.str z :: r)):=by
 have es:=BH n z r;have eb:=Ek n z r;rw[pl] at es eb;rw[nb] at eb;simp at es eb;exact⟨(rL n bs z r).mpr ⟨sh,by rw[pl];simp⟩,by lia,by lia,fit,dep⟩
def dr1 {b:Nat}{p:D}(sh:g8 bs z r=true) (pl:dQ z r=[p]) (h:Dr n (kT bs z r) room b p) (fit:L8 8 (.tup (.str z :: r))) (dep:ig (.tup (.str z :: r))<=n+2):Dr (n+1) bs (room+1) ((if bX z=true then 1 else 0)+b) (.tup (.str z :: r)):=by
 have es:=BH n z r;have eb:=Ek n z r;rw[pl] at es eb;have e1:([p].flatMap (tF n)).length=iJ n p:=by simp[iJ]
 have e2:(([p].flatMap (tF n)).filter Ol).length=As n p:=by simp[As]
 rw[e1] at es;rw[e2] at eb;have:=h.sz;have:=h.bn;refine⟨(rL n bs z r).mpr ⟨sh,by rw[pl];intro q hq;rw[show q=p by simpa using hq];exact h.fm⟩,by lia,?_,fit,dep⟩;by_cases hb:bX z=true
 ·rw[if_pos hb] at eb ⊢;lia
 ·rw[if_neg hb] at eb ⊢;lia
def dr2 {r1 r2 b1 b2:Nat}{p q:D}(sh:g8 bs z r=true) (pl:dQ z r=[p,q]) (nb:bX z=false) (h1:Dr n bs r1 b1 p) (h2:Dr n bs r2 b2 q) (fit:L8 8 (.tup (.str z :: r))) (dep:ig (.tup (.str z :: r))<=n+2):Dr (n+1) bs (r1+r2+1) (b1+b2) (.tup (.str z :: r)):=by
 have es:=BH n z r;have eb:=Ek n z r;rw[pl] at es eb;have e1:([p,q].flatMap (tF n)).length=iJ n p+iJ n q:=by simp[iJ]
 have e2:(([p,q].flatMap (tF n)).filter Ol).length=As n p+As n q:=by simp[As]
 rw[e1] at es;rw[e2,nb] at eb;simp at eb;have:=h1.sz;have:=h1.bn;have:=h2.sz;have:=h2.bn;have ib:kT bs z r=bs:=by unfold kT;rw[if_neg (by rw[nb];simp)]
 refine⟨(rL n bs z r).mpr ⟨sh,by rw[pl,ib];intro x hx;simp at hx;rcases hx with rfl | rfl;exact h1.fm;exact h2.fm⟩,by lia,by lia,fit,dep⟩
def Dr.more {T8 b:Nat}{d:D}(h:Dr n bs room b d) (hr:room<=T8):Dr n bs T8 b d:=⟨h.fm,aaA h.sz hr,h.bn,h.fit,h.dep⟩
def cg (au:FM) (HX:FM) (iz:FM) (Gh:FM):GS:=
 (aO (bR 5 (aZ au (eU (ao 0) (aH (eC (.int 9)) aE))))
 (aO (ji (Fj (qB (eF (eP AI (aa (eF (ao 3)) (aa (eC (.int 2)) aq))))) (Fj (qB (eF (eP AI (aa (eF (ao 4)) (aa (eC (.int 2)) aq))))) (qB (eF (eP pK (aa (eF (ao 5)) (aa (eC (.int 0)) aq))))))) (aO (ji (qB (eF (eP pK (aa (eF (eP Cd (aa (eF (ao 5)) (aa (eC (.int 5)) aq)))) (aa (eC (.int 4)) aq))))) (cz (eP cT (aa (eF (eP Ht (aa (eF (eP c8 (aa (eC (.str "yes")) (aa (eC (.str "no")) aq)))) (aa (eF (aZ au (eU (ao 0) (aH (eC (.int 2)) aE)))) aq)))) aq))) cW)
 (cz (eP cT (aa (eC (.str "now")) (aa (eF (aZ HX (eU (ao 0) (aH (d8 1 (eC (.str "names"))) (aH (eF (ao 2)) aE))))) aq))))) cW)
 (aO (ji (iI (qB (eF (eP AI (aa (eF (ao 5)) (aa (eC (.int 5)) aq))))) (qB (eF (eP Xn (aa (eF (ao 3)) (aa (eC (.int 2)) aq)))))) (aO (bR 6 (eP cE (aa (eC (.int 1)) (aa (eF (aZ au (eU (ao 0) (aH (eF (eP nF (aa (eF (ao 3)) (aa (eC (.int 2)) aq)))) aE)))) aq))))
 (aO (bR 7 (aZ iz (eU (ao 0) (eU (ao 1) (aH (eF (ao 2)) (aH (eF (ao 6)) (aH (eF (eP nF (aa (eF (ao 4)) (aa (eC (.int 1)) aq)))) aE)))))))
 (aO (bR 8 (aZ iz (eU (ao 0) (eU (ao 1) (aH (eF (ao 2)) (aH (eF (eP nF (aa (eF (eP nF (aa (eF (ao 3)) (aa (eC (.int 1)) aq)))) (aa (eF (ao 6)) aq)))) (aH (eF (eP nF (aa (eF (ao 4)) (aa (eC (.int 1)) aq)))) aE)))))))
 (cz (eP cT (aa (eF (eP Ht (aa (eF (eP c8 (aa (eC (.str "both")) (aa (eC (.str "either")) (aa (eC (.str "till")) (aa (eC (.str "till")) aq)))))) (aa (eF (eP nF (aa (eF (ao 5)) (aa (eC (.int 1)) aq)))) aq)))) (aa (eF (ao 7)) (aa (eF (ao 8)) aq)))))))) cW)
 (cz (aZ Gh (eU (ao 0) (eU (ao 1) (aH (eF (ao 2)) (aH (eF (ao 3)) (aH (eF (ao 4)) aE))))))))))
def eu (au:FM) (iz:FM):GS:=
 (aO (bR 5 (aZ au (eU (ao 0) (aH (eC (.int 8)) aE))))
 (aO (ji (iI (qB (eF (eP AI (aa (eF (ao 5)) (aa (eC (.int 3)) aq))))) (qB (eF (eP AI (aa (d8 1 (eC (.str "binders"))) (aa (eC (.int 3)) aq)))))) (aO (zc 1 (eC (.str "binders")) (eF (eP cE (aa (d8 1 (eC (.str "binders"))) (aa (eC (.int 1)) aq)))))
 (aO (bR 6 (eT (d8 1 (eC (.str "names")))))
 (aO (bR 7 (eP Ht (aa (eF (eP c8 (aa (eC (.str "x")) (aa (eC (.str "k")) (aa (eC (.str "a")) (aa (eC (.str "ab")) aq)))))) (aa (eF (aZ au (eU (ao 0) (aH (eC (.int 4)) aE)))) aq))))
 (aO (bR 8 (eP cT (aa (eF (eP Ht (aa (eF (eP c8 (aa (eC (.str "each")) (aa (eC (.str "one")) aq)))) (aa (eF (eP Cd (aa (eF (ao 5)) (aa (eC (.int 2)) aq)))) aq)))) (aa (d8 6 (eF (aZ au (eU (ao 0) (aH (oH 6) aE))))) (aa (eF (ao 7)) aq)))))
 (cz (eP cE (aa (eF (ao 8)) (aa (eF (eP cT (aa (eF (aZ iz (eU (ao 0) (eU (ao 1) (aH (eF (eP cE (aa (eF (ao 2)) (aa (eF (eP cT (aa (eF (ao 7)) aq))) aq)))) (aH (eF (eP nF (aa (eF (ao 3)) (aa (eC (.int 1)) aq)))) (aH (eF (eP nF (aa (eF (ao 4)) (aa (eC (.int 1)) aq)))) aE))))))) aq))) aq)))))))) cW)
 (aO (bR 8 (eP cT (aa (eF (eP Ht (aa (eF (eP c8 (aa (eC (.str "not")) (aa (eC (.str "next")) (aa (eC (.str "always")) (aa (eC (.str "some")) aq)))))) (aa (eF (eP Cd (aa (eF (ao 5)) (aa (eC (.int 4)) aq)))) aq)))) aq)))
 (aO (ji (qB (eF (eP pK (aa (eF (ao 5)) (aa (eC (.int 3)) aq))))) (bR 8 (eP cT (aa (eC (.str "within")) (aa (eF (aZ au (eU (ao 0) (aH (eC (.int 6)) aE)))) aq)))) cW)
 (cz (eP cE (aa (eF (ao 8)) (aa (eF (eP cT (aa (eF (aZ iz (eU (ao 0) (eU (ao 1) (aH (eF (ao 2)) (aH (eF (eP nF (aa (eF (ao 3)) (aa (eC (.int 1)) aq)))) (aH (eF (eP nF (aa (eF (ao 4)) (aa (eC (.int 1)) aq)))) aE))))))) aq))) aq))))))))
section
variable {f1 f2 f3 f4:FM}{T0 T1 T2 T3 T4:MO}{ws Nx Ma:List (Key×D)}{vs nd d1 d2:D}{room deep w:Int}
def V0 {v:Int}{y:D}(p1:f1 [.b T0,.t (.int 9)]=some (.t (.int w),[T1])) (h:room < 2\/deep < 2\/w=0) (h5:w % 5=4) (p2:f1 [.b T1,.t (.int 2)]=some (.t (.int v),[T2])) (hy:jh [.str "yes",.str "no"] v=some y):
  aQ 9 (cg f1 f2 f3 f4) [.b T0,.b (.dct ws),.t vs,.t (.int room),.t (.int deep)]=some (.t (.tup [y]),[T2,.dct ws]):=by
 by_cases a:room < 2
 ·simp[aQ,cg,p1,a,h5,p2,hy,aG]
 ·by_cases b:deep < 2
  ·simp[aQ,cg,p1,a,b,h5,p2,hy,aG]
  ·have c:w=0:=by rcases h with h | h | h;exact absurd h a;exact absurd h b;exact h
   subst c;exact absurd h5 (by decide)
def V1 {d:D}(p1:f1 [.b T0,.t (.int 9)]=some (.t (.int w),[T1])) (h:room < 2\/deep < 2\/w=0) (h5:¬w % 5=4) (hn:dz ws (.inr "names")=some nd) (p2:f2 [.b T1,.t nd,.t vs]=some (.t d,[T2])):
  aQ 9 (cg f1 f2 f3 f4) [.b T0,.b (.dct ws),.t vs,.t (.int room),.t (.int deep)]=some (.t (.tup [.str "now",d]),[T2,.dct ws]):=by
 by_cases a:room < 2
 ·simp[aQ,cg,p1,a,h5,hn,p2,aG]
 ·by_cases b:deep < 2
  ·simp[aQ,cg,p1,a,b,h5,hn,p2,aG]
  ·have c:w=0:=by rcases h with h | h | h;exact absurd h a;exact absurd h b;exact h
   subst c;simp[aQ,cg,p1,a,b,hn,p2,aG]
def V2 {fi:Int}{y:D}(p1:f1 [.b T0,.t (.int 9)]=some (.t (.int w),[T1])) (ha:¬room < 2) (hb:¬deep < 2) (hc:¬w=0) (h5:w < 5) (h2:2 < room) (p2:f1 [.b T1,.t (.int (room - 2))]=some (.t (.int fi),[T2]))
  (p3:f3 [.b T2,.b (.dct ws),.t vs,.t (.int (1+fi)),.t (.int (deep - 1))]=some (.t d1,[T3,.dct Nx])) (p4:f3 [.b T3,.b (.dct Nx),.t vs,.t (.int (room - 1 - (1+fi))),.t (.int (deep - 1))]=some (.t d2,[T4,.dct Ma])) (hy:jh [.str "both",.str "either",.str "till",.str "till"] (w - 1)=some y):
  aQ 9 (cg f1 f2 f3 f4) [.b T0,.b (.dct ws),.t vs,.t (.int room),.t (.int deep)]=some (.t (.tup [y,d1,d2]),[T4,.dct Ma]):=by
 simp[aQ,cg,p1,ha,hb,hc,h5,h2,p2,p3,p4,hy,aG]
def ZN (p1:f1 [.b T0,.t (.int 9)]=some (.t (.int w),[T1])) (ha:¬room < 2) (hb:¬deep < 2) (hc:¬w=0) (h:¬(w < 5/\2 < room)) (p2:f4 [.b T1,.b (.dct ws),.t vs,.t (.int room),.t (.int deep)]=some (.t d1,[T2,.dct Nx])):
  aQ 9 (cg f1 f2 f3 f4) [.b T0,.b (.dct ws),.t vs,.t (.int room),.t (.int deep)]=some (.t d1,[T2,.dct Nx]):=by
 by_cases a:w < 5
 ·have b:¬2 < room:=fun q=>h ⟨a,q⟩;simp[aQ,cg,p1,ha,hb,hc,a,b,p2,aG]
 ·simp[aQ,cg,p1,ha,hb,hc,a,p2,aG]
def V3 {b x n:Int}{bl nl:List D}{xd hd nm:D}(p1:f1 [.b T0,.t (.int 8)]=some (.t (.int w),[T1])) (h3:w < 3) (hb:dz ws (.inr "binders")=some (.int b)) (b3:b < 3) (hl:ws.length < 100000) (hp:putD ws (.inr "binders") (.int (b+1))=Nx) (hn:dz Nx (.inr "names")=some (.lst nl))
  (p2:f1 [.b T1,.t (.int 4)]=some (.t (.int x),[T2])) (hx:jh [.str "x",.str "k",.str "a",.str "ab"] x=some xd) (hh:jh [.str "each",.str "one"] (w % 2)=some hd) (p3:f1 [.b T2,.t (.int (nl.length:Nat))]=some (.t (.int n),[T3])) (hm:jh nl n=some nm) (hv:bl.length+1<=100000)
  (p4:f2 [.b T3,.b (.dct Nx),.t (.tup (bl++[xd])),.t (.int (room - 1)),.t (.int (deep - 1))]=some (.t d1,[T4,.dct Ma])):
  aQ 9 (eu f1 f2) [.b T0,.b (.dct ws),.t (.tup bl),.t (.int room),.t (.int deep)]=some (.t (.tup [hd,nm,xd,d1]),[T4,.dct Ma]):=by
 simp[aQ,eu,p1,h3,hb,b3,hl,hp,hn,p2,hx,hh,p3,hm,hv,p4,aG]
def V4 {b:Int}{hd:D}(p1:f1 [.b T0,.t (.int 8)]=some (.t (.int w),[T1])) (hb:dz ws (.inr "binders")=some (.int b)) (h3:¬(w < 3/\b < 3)) (hw:¬w=3) (hh:jh [.str "not",.str "next",.str "always",.str "some"] (w % 4)=some hd)
  (p4:f2 [.b T1,.b (.dct ws),.t vs,.t (.int (room - 1)),.t (.int (deep - 1))]=some (.t d1,[T4,.dct Ma])):
  aQ 9 (eu f1 f2) [.b T0,.b (.dct ws),.t vs,.t (.int room),.t (.int deep)]=some (.t (.tup [hd,d1]),[T4,.dct Ma]):=by
 by_cases a:w < 3
 ·have b:¬b < 3:=fun q=>h3 ⟨a,q⟩;simp[aQ,eu,p1,a,hb,b,hw,hh,p4,aG]
 ·simp[aQ,eu,p1,a,hw,hh,p4,aG]
def Lu {k:Int}(p1:f1 [.b T0,.t (.int 8)]=some (.t (.int 3),[T1])) (p2:f1 [.b T1,.t (.int 6)]=some (.t (.int k),[T2]))
  (p4:f2 [.b T2,.b (.dct ws),.t vs,.t (.int (room - 1)),.t (.int (deep - 1))]=some (.t d1,[T4,.dct Ma])):
  aQ 9 (eu f1 f2) [.b T0,.b (.dct ws),.t vs,.t (.int room),.t (.int deep)]=some (.t (.tup [.str "within",.int k,d1]),[T4,.dct Ma]):=by
 have hh:jh [D.str "not",.str "next",.str "always",.str "some"] 3=some (.str "some"):=rfl;simp[aQ,eu,p1,p2,hh,p4,aG]
end
def ZO:Nat->FM×FM
 | 0=>(fun _=>none,fun _=>none)
 | j+1=>(aQ 9 (cg cV oR (ZO j).1 (ZO j).2),aQ 9 (eu cV (ZO j).1))
def zy (j:Nat):FM:=(ZO j).1
def Oq (j:Nat):FM:=(ZO j).2
def RM (j:Nat):∀us r,zy (j+1) us=some r->aQ 9 (cg cV oR (zy j) (Oq j)) us=some r:=fun _ _ h=>h
def RN (j:Nat):∀us r,Oq (j+1) us=some r->aQ 9 (eu cV (zy j)) us=some r:=fun _ _ h=>h
def Lv (us:List U):zy 0 us=none:=rfl
def Lw (us:List U):Oq 0 us=none:=rfl
def Ot (f:FM) (deep room:Nat):Prop:=∀(t:ir) (bs:BBB) (b:Nat),0<=t.n->t.n+8 * room < 700000->bs.length+deep < 800->(∀z∈bs,z.length<=8)->b<=3->
 ∃(d:D) (t':ir) (bin:Nat),f [.b (tp t),.b (.dct (JC b)),.t (.tup (bs.map D.str)),.t (.int room),.t (.int deep)]=some (.t d,[tp t',.dct (JC ((b+bin:Nat):Int))])/\Dr deep bs room bin d/\b+bin<=3/\t.n<=t'.n/\t'.n<=t.n+8 * room
def Lx (h:z.length<=8):L8 8 (.str z):=h
def BI (c:cL z=(r.length:Int)+1) (n1:z≠"now") (n2:z≠"within") (hb:bX z=false):g8 bs z r=true:=Gf c n1 (fun q=>n2 q.1) hb
def Ou {f:FM}(hr:2<=room) (hd:2<=deep) (ih:Ot f (deep - 1) (room - 1)):
  ∀(t:ir) (bs:BBB) (b:Nat),0<=t.n->t.n+8 * room < 700002->bs.length+deep < 800->(∀z∈bs,z.length<=8)->b<=3->
  ∃(d:D) (t':ir) (bin:Nat),aQ 9 (eu cV f) [.b (tp t),.b (.dct (JC b)),.t (.tup (bs.map D.str)),.t (.int room),.t (.int deep)]=some (.t d,[tp t',.dct (JC ((b+bin:Nat):Int))])/\Dr deep bs room bin d/\b+bin<=3/\t.n<=t'.n/\t'.n+1<=t.n+8 * room:=by
 intro t bs b t0 t1 hl hs hb;obtain⟨n,rfl⟩:∃n,deep=n+1:=⟨deep - 1,by lia⟩
 obtain⟨rm,rfl⟩:∃m,room=m+1:=⟨room - 1,by lia⟩
 have ih:Ot f n rm:=ih;have er:(((rm+1:Nat):Int) - 1)=(rm:Int):=by lia
 have ed:(((n+1:Nat):Int) - 1)=(n:Int):=by lia
 have p1:=kg (t:=t) (m:=8) (by lia) (by lia) t0 (by lia);obtain⟨w0,w1⟩:=cj (t:=t) (m:=8) (by lia);have t1n:(dw t 8).n=t.n+1:=fG t 8;generalize eY t 8=w at *;generalize dw t 8=ta at *;by_cases c:w < 3/\(b:Int) < 3
 ·have p2:=kg (t:=ta) (m:=4) (by lia) (by lia) (by lia) (by lia);obtain⟨x0,x1⟩:=cj (t:=ta) (m:=4) (by lia);have XH:(dw ta 4).n=ta.n+1:=fG ta 4;generalize eY ta 4=x at *;generalize dw ta 4=tb at *;have p3:=kg (t:=tb) (m:=(pQ.length:Nat)) (by rw[AO];lia) (by rw[AO];lia) (by lia) (by lia);obtain⟨m0,m1⟩:=cj (t:=tb) (m:=(pQ.length:Nat)) (by rw[AO];lia);have t3n:(dw tb (pQ.length:Nat)).n=tb.n+1:=fG tb _;generalize eY tb (pQ.length:Nat)=m at *;generalize dw tb (pQ.length:Nat)=tc at *;obtain⟨nm,a1,a2,a3⟩:=T7 m0 (by rw[AO] at m1;exact m1);obtain⟨xd,b1,b2⟩:=Ac (x:=.cM) (l:=[.str "x",.str "k",.str "a",.str "ab"]) x0 x1;obtain⟨hd,d1,d2⟩:=Ac (x:=.cM) (l:=[.str "each",.str "one"]) (i:=w % 2) (aeG _ (by decide)) (aei _ (by decide));obtain⟨xs,rfl,xn,xl⟩:∃xs,xd= .str xs/\nameB (.str xs)=true/\xs.length<=8:=by
   simp only[aao,aa4,acg] at b2;rcases b2 with rfl | rfl | rfl | rfl <;> exact⟨_,rfl,by decide +kernel,by decide⟩
  obtain⟨hs2,rfl,hbn,hhl,FA⟩:∃z,hd= .str z/\bX z=true/\z.length<=8/\cL z=4/\fH z=3/\z≠"now"/\z≠"within":=by
   simp only[aao,aa4,acg] at d2;rcases d2 with rfl | rfl <;> exact⟨_,rfl,by decide,by decide,by decide,by decide,by decide,by decide⟩
  obtain⟨l4,s3,n1,n2⟩:=FA;obtain⟨d,t',bin,g1,g2,g3,g4,g5⟩:=ih tc (bs++[xs]) (b+1) (by lia) (by lia) (by rw[aaB,acD];lia) (by
   intro z hz;rcases abP.mp hz with q | q
   ·exact hs z q
   ·rw[show z=xs by simpa using q];exact xl) (by lia)
  have ev:(bs++[xs]).map D.str=bs.map D.str++[.str xs]:=by rw[aej];rfl
  have eb1:((b+1:Nat):Int)=(b:Int)+1:=by lia
  rw[ev,eb1] at g1;have sh:g8 bs hs2 [.str nm,.str xs,d]=true:=by
   unfold g8;rw[if_pos (by rw[l4];rfl)];simp only[n1,n2,afe,hbn,if_true,a2,xn];rfl
  have pl:dQ hs2 [.str nm,.str xs,d]=[d]:=by unfold dQ;rw[s3];rfl
  have ib:kT bs hs2 [.str nm,.str xs,d]=bs++[xs]:=by unfold kT;rw[if_pos hbn];rfl
  have dr:=dr1 (n:=n) (room:=rm) (b:=bin) (bs:=bs) (z:=hs2) (r:=[.str nm,.str xs,d]) sh pl (by rw[ib];exact g2) ⟨(by show 4<=8;lia),Lx hhl,Lx a3,Lx xl,g2.fit,True.intro⟩ (by
   have:=g2.dep;show max 0 (max 0 (max 0 (max (ig d) 0)))+1<=n+2;lia)
  rw[if_pos hbn] at dr;refine⟨_,t',1+bin,?_,dr,by lia,by lia,by lia⟩;have ebb:((b+(1+bin):Nat):Int)=((b+1+bin:Nat):Int):=by lia
  rw[ebb];exact V3 (f1:=cV) (f2:=f) (ws:=JC b) (Nx:=JC ((b:Int)+1)) (Ma:=JC ((b+1+bin:Nat):Int)) p1 c.1 (T6 b) c.2 (by show 2 < 100000;lia) (ZM b _) (T5 _) p2 b1 d1 p3 a1 (by rw[aas];lia) (by rw[er,ed];exact g1)
 ·by_cases cw:w=3
  ·subst cw;have p2:=kg (t:=ta) (m:=6) (by lia) (by lia) (by lia) (by lia);obtain⟨x0,x1⟩:=cj (t:=ta) (m:=6) (by lia);have XH:(dw ta 6).n=ta.n+1:=fG ta 6;generalize eY ta 6=x at *;generalize dw ta 6=tb at *;obtain⟨d,t',bin,g1,g2,g3,g4,g5⟩:=ih tb bs b (by lia) (by lia) (by lia) hs hb;have sh:g8 bs "within" [.int x,d]=true:=by
    unfold g8;rw[if_pos (by rw[Jz.2];rfl)];simp only[show ¬(("within":Str)="now") by decide,afe,if_true];show(decide (0<=x) && decide (x<=5))=true;simp only[abt,abO];lia
   have pl:dQ "within" [.int x,d]=[d]:=by unfold dQ;rw[show fH "within" =2 by decide];rfl
   have nb:bX "within" =false:=by decide
   have ib:kT bs "within" [.int x,d]=bs:=by unfold kT;rw[if_neg (by rw[nb];simp)]
   have dr:=dr1 (n:=n) (room:=rm) (b:=bin) (bs:=bs) (z:="within") (r:=[.int x,d]) sh pl (by rw[ib];exact g2) ⟨(by show 3<=8;lia),(by show 6<=8;lia),True.intro,g2.fit,True.intro⟩ (by
    have:=g2.dep;show max 0 (max 0 (max (ig d) 0))+1<=n+2;lia)
   rw[if_neg (by rw[nb];simp),Nat.zero_add] at dr;exact⟨_,t',bin,Lu p1 p2 (by rw[er,ed];exact g1),dr,g3,by lia,by lia⟩
  ·obtain⟨d,t',bin,g1,g2,g3,g4,g5⟩:=ih ta bs b (by lia) (by lia) (by lia) hs hb;obtain⟨hd,d1,d2⟩:=Ac (x:=.cM) (l:=[.str "not",.str "next",.str "always",.str "some"]) (i:=w % 4) (aeG _ (by decide)) (aei _ (by decide));obtain⟨z,rfl,nb,zl,l2,s1,n1,n2⟩:∃z,hd= .str z/\bX z=false/\z.length<=8/\cL z=2/\fH z=1/\z≠"now"/\z≠"within":=by
    simp only[aao,aa4,acg] at d2;rcases d2 with rfl | rfl | rfl | rfl <;> exact⟨_,rfl,by decide,by decide,by decide,by decide,by decide,by decide⟩
   have sh:g8 bs z [d]=true:=BI (by rw[l2];rfl) n1 n2 nb;have pl:dQ z [d]=[d]:=by unfold dQ;rw[s1];rfl
   have ib:kT bs z [d]=bs:=by unfold kT;rw[if_neg (by rw[nb];simp)]
   have dr:=dr1 (n:=n) (room:=rm) (b:=bin) (bs:=bs) (z:=z) (r:=[d]) sh pl (by rw[ib];exact g2) ⟨(by show 2<=8;lia),Lx zl,g2.fit,True.intro⟩ (by
    have:=g2.dep;show max 0 (max (ig d) 0)+1<=n+2;lia)
   rw[if_neg (by rw[nb];simp),Nat.zero_add] at dr;exact⟨_,t',bin,V4 p1 (T6 b) c cw d1 (by rw[er,ed];exact g1),dr,g3,by lia,by lia⟩
def V5:∀(deep:Nat),1<=deep->∀(j room:Nat),2 * deep<=j->1<=room->room<=100->Ot (zy j) deep room:=by
 intro deep
 induction deep with
 | zero=>intro h;lia
 | succ n ih=>
  intro _ j room hj hr hr9 t bs b t0 t1 hl hs hb;obtain⟨i,rfl⟩:∃i,j=i+2:=⟨j - 2,by lia⟩
  have p1:=kg (t:=t) (m:=9) (by lia) (by lia) t0 (by lia);obtain⟨w0,w1⟩:=cj (t:=t) (m:=9) (by lia);have t1n:(dw t 9).n=t.n+1:=fG t 9;generalize eY t 9=w at *;generalize dw t 9=ta at *;show ∃d t' bin,aQ 9 (cg cV oR (zy (i+1)) (Oq (i+1))) _=_/\_;by_cases c:(room:Int) < 2\/((n+1:Nat):Int) < 2\/w=0
  ·by_cases c5:w % 5=4
   ·have p2:=kg (t:=ta) (m:=2) (by lia) (by lia) (by lia) (by lia);obtain⟨v0,v1⟩:=cj (t:=ta) (m:=2) (by lia);have XH:(dw ta 2).n=ta.n+1:=fG ta 2;generalize eY ta 2=v at *;generalize dw ta 2=tb at *;obtain⟨y,y1,y2⟩:=Ac (x:=.cM) (l:=[.str "yes",.str "no"]) v0 v1;obtain⟨z,rfl,nb,zl,l2,s1,n1,n2⟩:∃z,y= .str z/\bX z=false/\z.length<=8/\cL z=1/\fH z=1/\z≠"now"/\z≠"within":=by
     simp only[aao,aa4,acg] at y2;rcases y2 with rfl | rfl <;> exact⟨_,rfl,by decide,by decide,by decide,by decide,by decide,by decide⟩
    refine⟨_,tb,0,V0 p1 c c5 p2 y1,dr0 (BI (by rw[l2];rfl) n1 n2 nb) (by unfold dQ;rw[s1];rfl) nb hr ⟨(by show 1<=8;lia),Lx zl,True.intro⟩ (by show max 0 0+1<=n+2;lia),hb,by lia,by lia⟩
   ·obtain⟨d,t',g1,g2,g3,g4,g5,g6⟩:=Oo (t:=ta) (bs:=bs) (by lia) (by lia) (by lia) hs;refine⟨_,t',0,V1 p1 c c5 (T5 b) g1,dr0 (z:="now") (r:=[d]) ?_ (by unfold dQ;rw[show fH "now" =2 by decide];rfl) (by decide) hr ⟨(by show 2<=8;lia),(by show 3<=8;lia),g3,True.intro⟩ (by show max 0 (max (ig d) 0)+1<=n+2;lia),hb,by lia,by lia⟩;unfold g8;rw[if_pos (by rw[Jz.1];rfl)];simp only[if_true];exact g2
  ·have c1:¬(room:Int) < 2:=fun q=>c (.inl q);have c2:¬((n+1:Nat):Int) < 2:=fun q=>c (.inr (.inl q));have c3:¬w=0:=fun q=>c (.inr (.inr q));have ed:(((n+1:Nat):Int) - 1)=(n:Int):=by lia
   by_cases c4:w < 5/\2 < (room:Int)
   ·have p2:=kg (t:=ta) (m:=(room:Int) - 2) (by lia) (by lia) (by lia) (by lia);obtain⟨v0,v1⟩:=cj (t:=ta) (m:=(room:Int) - 2) (by lia);have XH:(dw ta ((room:Int) - 2)).n=ta.n+1:=fG ta _;generalize eY ta ((room:Int) - 2)=v at *;generalize dw ta ((room:Int) - 2)=tb at *;obtain⟨r1,hr1⟩:∃r1:Nat,(r1:Int)=1+v:=⟨(1+v).toNat,by lia⟩
    obtain⟨r2,hr2⟩:∃r2:Nat,(r2:Int)=(room:Int) - 1 - (1+v):=⟨((room:Int) - 1 - (1+v)).toNat,by lia⟩
    obtain⟨d1,ta1,b1,g1,g2,g3,g4,g5⟩:=ih (by lia) (i+1) r1 (by lia) (by lia) (by lia) tb bs b (by lia) (by lia) (by lia) hs hb;obtain⟨d2,ta2,b2,k1,k2,k3,k4,k5⟩:=ih (by lia) (i+1) r2 (by lia) (by lia) (by lia) ta1 bs (b+b1) (by lia) (by lia) (by lia) hs g3;obtain⟨y,y1,y2⟩:=Ac (x:=.cM) (l:=[.str "both",.str "either",.str "till",.str "till"]) (i:=w - 1) (by lia) (by simp only[aar,acm];lia);obtain⟨z,rfl,nb,zl,l2,s1,n1,n2⟩:∃z,y= .str z/\bX z=false/\z.length<=8/\cL z=3/\fH z=1/\z≠"now"/\z≠"within":=by
     simp only[aao,aa4,acg] at y2;rcases y2 with rfl | rfl | rfl | rfl <;> exact⟨_,rfl,by decide,by decide,by decide,by decide,by decide,by decide⟩
    have dr:=dr2 (n:=n) (bs:=bs) (z:=z) (r:=[d1,d2]) (BI (by rw[l2];rfl) n1 n2 nb) (by unfold dQ;rw[s1];rfl) nb g2 k2 ⟨(by show 3<=8;lia),Lx zl,g2.fit,k2.fit,True.intro⟩ (by
     have:=g2.dep;have:=k2.dep;show max 0 (max (ig d1) (max (ig d2) 0))+1<=n+2;lia)
    have ebb:((b+(b1+b2):Nat):Int)=((b+b1+b2:Nat):Int):=by lia
    refine⟨_,ta2,b1+b2,?_,dr.more (by lia),by lia,by lia,by lia⟩;rw[ebb];rw[hr1] at g1;rw[hr2] at k1;exact V2 p1 c1 c2 c3 c4.1 c4.2 p2 (by rw[ed];exact g1) (by rw[ed];exact k1) y1
   ·obtain⟨d,t',bin,g1,g2,g3,g4,g5⟩:=Ou (f:=zy i) (deep:=n+1) (room:=room) (by lia) (by lia) (ih (by lia) i (room - 1) (by lia) (by lia) (by lia)) ta bs b (by lia) (by lia) hl hs hb;exact⟨d,t',bin,ZN p1 c1 c2 c3 c4 g1,g2,g3,by lia,by lia⟩
theorem BJ {f g:D->List D}:∀{ps:List D},(∀p∈ps,f p=g p)->ps.flatMap f=ps.flatMap g
 | [],_=>rfl
 | p :: ps,h=>by rw[aeV,aeV,h p abf,BJ fun q hq=>h q (aaz _ hq)]
theorem Dj:∀{n:Nat}{bs:BBB}{d:D},kC n bs d=true->kC (n+1) bs d=true/\tF (n+1) d=tF n d
 | 0,_,_,h=>by cases h
 | n+1,bs,d,h=>by
  obtain⟨z,r,rfl,h1,h2⟩:=BG h;have up:=fun p hp=>Dj (h2 p hp);refine⟨(rL (n+1) bs z r).mpr ⟨h1,fun p hp=>(up p hp).1⟩,?_⟩;show(.tup (.str z :: r):D) :: (dQ z r).flatMap (tF (n+1))= .tup (.str z :: r) :: (dQ z r).flatMap (tF n);rw[BJ fun p hp=>(up p hp).2]
def Ly {m:Nat}{d:D}(hm:n<=m) (h:kC n bs d=true):kC m bs d=true/\tF m d=tF n d:=by
  induction m with
  | zero => obtain rfl : n = 0 := by lia
            exact⟨h,rfl⟩
  | succ m ih=>
    by_cases e:n=m+1
    . subst e;exact⟨h,rfl⟩
    . obtain⟨a,b⟩:=ih (by lia)
      obtain⟨c,d⟩:=Dj a;exact⟨c,d.trans b⟩
def Dr.say {bin:Nat}{d:D}(h:Dr deep [] room bin d) (h1:deep<=8) (h2:room<=16) (h3:bin<=3):VY d=true:=by
 obtain⟨a,b⟩:=Ly h1 h.fm;have s:=h.sz;have n:=h.bn;unfold iJ at s;unfold As at n;unfold VY iJ As;rw[a,b];simp only[Bool.true_and,abt,abO];lia
def nI (iz:FM):GS:=
 (cz (aZ iz (eU (ao 0) (eU (yj [("names",(eF (ao 1))),("binders",(eC (.int 0)))]) (aH (eF (eP cT aq)) (aH (eF (ao 2)) (aH (eF (ao 3)) aE)))))))
def zA:FM:=aQ 4 (nI (zy 17))
def HY:∀us r,zA us=some r->aQ 4 (nI (zy 17)) us=some r:=fun _ _ h=>h
def ZP:eV [] [((.inr "names":Key),D.lst pQ),(.inr "binders",.int 0)]=JC 0:=rfl
def Lz {t:ir}(h0:0<=t.n) (h1:t.n < 600000) (r1:1<=room) (r2:room<=16) (d1:1<=deep) (d2:deep<=8):
  ∃d t',zA [.b (tp t),.t (.lst pQ),.t (.int room),.t (.int deep)]=some (.t d,[tp t'])/\VY d=true/\L8 8 d/\ig d<=9/\t.n<=t'.n/\t'.n<=t.n+128:=by
 obtain⟨d,t',bin,g1,g2,g3,g4,g5⟩:=V5 deep d1 17 room (by lia) r1 (by lia) t [] 0 h0 (by lia) (by simp only[acm];lia) (by simp) (by lia);have dp:=g2.dep;refine⟨d,t',?_,g2.say d2 r2 (by lia),g2.fit,by lia,g4,by lia⟩;have g1:zy 17 [.b (tp t),.b (.dct (JC 0)),.t (.tup []),.t (.int room),.t (.int deep)]=some (.t d,[tp t',.dct (JC ((0+bin:Nat):Int))]):=g1;have w0:=ZP;show aQ 4 (nI (zy 17)) _=_;generalize zy 17=f at *;generalize pQ=nl at *;simp[aQ,nI,aG,w0,g1]
end Ss
end
section
namespace Sp
open PySem PySem.Spec PyProof.Rows L2 Sw Ss
variable {zs:BBB}{z:Str}
noncomputable def JF:BBB:=["not","next","always","some"]
noncomputable def JH:BBB:=["both","either","till"]
inductive Ts (bs:BBB):D->Prop where
 | any:Ts bs (.tup [.str "any"])
 | name {a:Str}:nameB (.str a)=true->Ts bs (.tup [.str "name",.str a])
 | num {o:Str}{k:Int}:o∈qJ->0<=k->k<=9->Ts bs (.tup [.str o,.int k])
 | var {o y:Str}:o∈qJ->y∈bs->Ts bs (.tup [.str o,.str y])
inductive Sy:Nat->BBB->D->Prop where
 | leaf {n:Nat}{bs:BBB}{z:Str}:z="yes"\/z="no"->Sy (n+1) bs (.tup [.str z])
 | now {n:Nat}{bs:BBB}{t:D}:Ts bs t->Sy (n+1) bs (.tup [.str "now",t])
 | one {n:Nat}{bs:BBB}{z:Str}{p:D}:z∈JF->Sy n bs p->Sy (n+1) bs (.tup [.str z,p])
 | two {n:Nat}{bs:BBB}{z:Str}{p q:D}:z∈JH->Sy n bs p->Sy n bs q->Sy (n+1) bs (.tup [.str z,p,q])
 | LA {n:Nat}{bs:BBB}{k:Int}{p:D}:0<=k->k<=5->Sy n bs p->Sy (n+1) bs (.tup [.str "within",.int k,p])
 | bnd {n:Nat}{bs:BBB}{z a y:Str}{p:D}:z="each"\/z="one"->nameB (.str a)=true->nameB (.str y)=true->Sy n (bs++[y]) p->Sy (n+1) bs (.tup [.str z,.str a,.str y,p])
def El {x:D}(h:inD x (zs.map D.str)=true):∃z∈zs,x= .str z:=by
 unfold inD at h;rw[List.any_map,afS] at h;obtain⟨z,hz,e⟩:=h;exact⟨z,hz,zo (show qy (.str z) x=true from e)⟩
def JJ (h:z∈zs):inD (.str z) (zs.map D.str)=true:=by
 unfold inD;rw[List.any_map,afS];exact⟨z,h,qE _⟩
def Dk {b:D}{m:Int}(h:p9 b 0 m=true):∃k,b= .int k/\0<=k/\k<=m:=by
 cases b with
 | int k=>simp only[p9,abt,abO] at h;exact⟨k,rfl,h.1,h.2⟩
 | _=>cases h
def Ts.of {bs:BBB}{t:D}(h:Di bs t=true):Ts bs t:=by
 unfold Di at h;split at h
 ·rename_i a;have:qy (.str "any") a=true:=by cases a <;> simp[qy] at h ⊢;exact h.symm
  rw[zo this];exact .any
 ·rename_i a b;split at h
  ·rename_i c;have:qy (.str "name") a=true:=by cases a <;> simp[qy] at c ⊢;exact c.symm
   rw[zo this];obtain⟨y,rfl⟩:=uC h;exact .name h
  ·obtain⟨h1,h2⟩:=adQ.mp h;obtain⟨o,ho,rfl⟩:=El h1;rcases Bool.or_eq_true_iff.mp h2 with q | q
   ·obtain⟨k,rfl,k0,k1⟩:=Dk q;exact .num ho k0 k1
   ·obtain⟨y,hy,rfl⟩:=El q;exact .var ho hy
 ·cases h
def uD {o:Str}(h:o∈qJ):o≠"name"/\o≠"any":=by
 simp only[qJ,aao,aa4,acg] at h;rcases h with rfl | rfl | rfl <;> decide
theorem Sy.of:∀{n:Nat}{bs:BBB}{d:D},kC n bs d=true->Sy n bs d
 | 0,_,_,h=>by cases h
 | n+1,bs,d,h=>by
  obtain⟨z,r,rfl,hs,hp⟩:=BG h;obtain⟨c,hh,hz⟩:=HU hs;unfold g8 at hs;rw[if_pos c] at hs;simp only[gO,aao,aa4,acg] at hz;have two:∀{k:Nat},cL z=(k:Int)+1->r.length=k:=fun e=>by lia
  have l0:r.length=0->r=[]:=List.eq_nil_of_length_eq_zero;have l1:r.length=1->∃a,r=[a]:=fun e=>by match r,e with | [a],_=>exact⟨a,rfl⟩
  have l2:r.length=2->∃a b,r=[a,b]:=fun e=>by match r,e with | [a,b],_=>exact⟨a,b,rfl⟩
  have l3:r.length=3->∃a b p,r=[a,b,p]:=fun e=>by match r,e with | [a,b,p],_=>exact⟨a,b,p,rfl⟩
  rcases hz with rfl | rfl | rfl | rfl | rfl | rfl | rfl | rfl | rfl | rfl | rfl | rfl | rfl
  ·rw[l0 (two (k:=0) (by decide))];exact .leaf (.inl rfl)
  ·rw[l0 (two (k:=0) (by decide))];exact .leaf (.inr rfl)
  ·obtain⟨a,rfl⟩:=l1 (two (k:=1) (by decide));exact .now (.of hs)
  ·obtain⟨a,rfl⟩:=l1 (two (k:=1) (by decide));exact .one (by decide) (Sy.of (hp a (by show a∈[a];simp)))
  ·obtain⟨a,b,rfl⟩:=l2 (two (k:=2) (by decide));exact .two (by decide) (Sy.of (hp a (by show a∈[a,b];simp))) (Sy.of (hp b (by show b∈[a,b];simp)))
  ·obtain⟨a,b,rfl⟩:=l2 (two (k:=2) (by decide));exact .two (by decide) (Sy.of (hp a (by show a∈[a,b];simp))) (Sy.of (hp b (by show b∈[a,b];simp)))
  ·obtain⟨a,rfl⟩:=l1 (two (k:=1) (by decide));exact .one (by decide) (Sy.of (hp a (by show a∈[a];simp)))
  ·obtain⟨a,b,rfl⟩:=l2 (two (k:=2) (by decide));exact .two (by decide) (Sy.of (hp a (by show a∈[a,b];simp))) (Sy.of (hp b (by show b∈[a,b];simp)))
  ·obtain⟨a,b,rfl⟩:=l2 (two (k:=2) (by decide));obtain⟨k,rfl,k0,k1⟩:=Dk (m:=5) hs;exact .LA k0 k1 (Sy.of (hp b (by show b∈[b];simp)))
  ·obtain⟨a,rfl⟩:=l1 (two (k:=1) (by decide));exact .one (by decide) (Sy.of (hp a (by show a∈[a];simp)))
  ·obtain⟨a,rfl⟩:=l1 (two (k:=1) (by decide));exact .one (by decide) (Sy.of (hp a (by show a∈[a];simp)))
  ·obtain⟨a,b,p,rfl⟩:=l3 (two (k:=3) (by decide));obtain⟨h1,h2⟩:=adQ.mp (show(nameB a && nameB b)=true from hs);obtain⟨x,rfl⟩:=uC h1;obtain⟨y,rfl⟩:=uC h2;exact .bnd (.inl rfl) h1 h2 (Sy.of (hp p (by show p∈[p];simp)))
  ·obtain⟨a,b,p,rfl⟩:=l3 (two (k:=3) (by decide));obtain⟨h1,h2⟩:=adQ.mp (show(nameB a && nameB b)=true from hs);obtain⟨x,rfl⟩:=uC h1;obtain⟨y,rfl⟩:=uC h2;exact .bnd (.inr rfl) h1 h2 (Sy.of (hp p (by show p∈[p];simp)))
def kL (h:z∈JF):z="not"\/z="next"\/z="always"\/z="some":=by simpa[JF] using h
def qL (h:z∈JH):z="both"\/z="either"\/z="till":=by simpa[JH] using h
end Sp
end
section
namespace Sf
open PySem PySem.Spec PyProof.Rows L2 Sw Ss Sp
variable {n:Nat}{z y:Str}{p:D}{ds r pl us:List D}{w:D->BBB}{bs ws:BBB}{S:SS}{f1 f2:FM}{i:Int}{x2:Option U}
noncomputable def tW:D->Str
 | .str z=>z
 | .int k=>toString k
 | _=>""
def GH:D->BBB
 | .tup ts=>ts.map tW
 | _=>[]
def vQ:Nat->D->BBB
 | n+1,.tup [.str z]=>[z]
 | n+1,.tup [.str z,p]=>if z="now" then z :: GH p else z :: vQ n p
 | n+1,.tup [.str z,p,q]=>if z="within" then z :: tW p :: vQ n q else z :: (vQ n p++vQ n q)
 | n+1,.tup [.str z,a,y,p]=>z :: tW a :: tW y :: vQ n p
 | _,_=>[]
def BK :vQ (n+1) (.tup [.str z])=[z]:=rfl
def vo {t:D}:vQ (n+1) (.tup [.str "now",t])=("now":Str) :: GH t:=by show(if _ then _ else _)=_;rw[if_pos rfl]
def vp (h:z≠"now"):vQ (n+1) (.tup [.str z,p])=z :: vQ n p:=by show(if _ then _ else _)=_;rw[if_neg h]
def vq {q:D}(h:z≠"within"):vQ (n+1) (.tup [.str z,p,q])=z :: (vQ n p++vQ n q):=by show(if _ then _ else _)=_;rw[if_neg h]
def vt {q:D}:vQ (n+1) (.tup [.str "within",p,q])=("within":Str) :: tW p :: vQ n q:=by show(if _ then _ else _)=_;rw[if_pos rfl]
def vA {a y:D}:vQ (n+1) (.tup [.str z,a,y,p])=z :: tW a :: tW y :: vQ n p:=rfl
noncomputable def sL (ws:BBB):List D:=ws.map D.str
def Em (h:z∈JF):z≠"now":=by rcases kL h with rfl | rfl | rfl | rfl <;> decide
def oU (h:z∈JH):z≠"within":=by rcases qL h with rfl | rfl | rfl <;> decide
def vB (a b:BBB):sL (a++b)=sL a++sL b:=aej
def eZ (a:BBB):(sL a).length=a.length:=aas ..
def rM (z:Str):Bs [.str z]=AAA (.str z):=rfl
def En {k:Int}(h0:0<=k) (h9:k<=9):Bs [.int k]=AAA (.str (toString k)):=by
 show(if k.natAbs < 10 ^ 30 then some (U.t (.str (toString k))) else none)=_;rw[if_pos (by lia)]
def mL (g9:FM) (fM:FM):GS:=
 (mH (eT (eM 3 jH (aa (eF (aZ fM (aH (eF (ao 4)) aE))) aq))))
def PN (g9:FM) (fM:FM):GS:=
 (cz (ao 3))
def PR (g9:FM) (fM:FM):GS:=
 (aO (uc (bName 4) (sZ (eF (ao 1))) (mL g9 fM)) (PN g9 fM))
def Ov (g9:FM) (fM:FM):GS:=
 (aO (bR 3 (eP cE (aa (eF (eP c8 (aa (d8 0 (eC (.int 0))) aq))) (aa (eF (Bf [] (sZ (eF (ao 2))) kP (eF (eP Bs (aa (eF (ao 0)) aq))))) aq)))) (PR g9 fM))
def V6 (g9:FM) (fM:FM):GS:=
 (aO (bR 2 (eIf (qB (eF (eP pK (aa (d8 0 (eC (.int 0))) (aa (eC (.str "now")) aq))))) (eT (d8 0 (eC (.int 1)))) (Bl (eF (ao 0)) (some (eC (.int 1))) (some (eF (eP nF (aa (oH 0) (aa (oH 1) aq)))))))) (Ov g9 fM))
def c9 (g9:FM) (fM:FM):GS:=
 (aO (bR 1 (aZ g9 (aH (eF (ao 0)) aE))) (V6 g9 fM))
section
variable {f1 f2:FM}{z:Str}{p q:D}
def V7 {w:BBB}(h:ds.length+w.length<=100000):jH [.lst (sL w)] (.lst ds)=some (.cM,.lst (ds++sL w)):=by
 show(if _ then _ else _)=_;rw[if_pos (by rw[eZ];exact h)]
def ad8 (a:D):L2.cutD [a] (some 1) (some 1)=[]:=rfl
def ad9 (a b:D):L2.cutD [a,b] (some 1) (some 1)=[]:=rfl
def aea (a b c:D):L2.cutD [a,b,c] (some 1) (some 1)=[]:=rfl
def aeb (a b c:D):L2.cutD [a,b,c] (some 1) (some 2)=[b]:=rfl
def aec (a b c d:D):L2.cutD [a,b,c,d] (some 1) (some 3)=[b,c]:=rfl
theorem Gi {w:D->BBB}{a0 a1 a2:Option U}:∀(pl:List D) (ws:BBB) (x4:Option U),vO x4=false->(∀p∈pl,f2 [.t p]=some (.m (.lst (sL (w p))),[]))->ws.length+(pl.flatMap w).length<=90000->
  ∃y4,vO y4=false/\loop (bName 4) (mL f1 f2) pl [a0,a1,a2,AAB (sL ws),x4]=some (.nx [a0,a1,a2,AAB (sL (ws++pl.flatMap w)),y4])
 | [],ws,x4,h4,_,_=>⟨x4,h4,by simp[loop]⟩
 | p :: pl,ws,x4,h4,hp,hl=>by
  have e2:=hp p abf;rw[aeV,aaB] at hl;have x1:=V7 (ds:=sL ws) (w:=w p) (by rw[eZ];lia);rw[<-vB] at x1;obtain⟨y4,q4,lp⟩:=Gi (a0:=a0) (a1:=a1) (a2:=a2) pl (ws++w p) (AAA p) rfl (fun q hq=>hp q (aaz _ hq)) (by rw[aaB];lia);refine⟨y4,q4,?_⟩;have eb:bName 4 p [a0,a1,a2,AAB (sL ws),x4]=some [a0,a1,a2,AAB (sL ws),AAA p]:=by simp[-kr,iy,h4]
  have tr:mL f1 f2 [a0,a1,a2,AAB (sL ws),AAA p]=some (.nx [a0,a1,a2,AAB (sL (ws++w p)),AAA p]):=by simp[mL,e2,x1,Vh,yc]
  show(bName 4 p _).bind (fun S1=>(mL f1 f2 S1).bind _)=_;rw[eb,aag,tr,aag,aeV,<-aeT];exact lp
def RO (hz:z≠"now") (e1:f1 [.t (.tup [.str z])]=some (.t (.tup []),[])):aQ 5 (c9 f1 f2) [.t (.tup [.str z])]=some (.m (.lst (sL [z])),[]):=by
 simp[aQ,c9,V6,Ov,PR,PN,e1,hz,gG,jL,fS,slotsOf,bE,bh,wb,kP,aG,sL,fQ,ad8]
def sL1 (z:Str):[D.str z]=sL [z]:=rfl
def V8 (hz:z≠"now") (e1:f1 [.t (.tup [.str z,p])]=some (.t (.tup [p]),[])) (e2:f2 [.t p]=some (.m (.lst (sL (w p))),[])) (hl:(w p).length<=80000):aQ 5 (c9 f1 f2) [.t (.tup [.str z,p])]=some (.m (.lst (sL (z :: w p))),[]):=by
 obtain⟨y4,_,lp⟩:=Gi (f1:=f1) (f2:=f2) (w:=w) (a0:=AAA (.tup [.str z,p])) (a1:=AAA (.tup [p])) (a2:=AAA (.tup [])) [p] [z] none rfl (fun q hq=>by rw[aav.mp hq];exact e2) (by simp;lia);rw[<-sL1] at lp;simp[aQ,c9,V6,Ov,PR,PN,e1,hz,gG,jL,fS,slotsOf,bE,bh,wb,kP,aG,fQ,ad9,lp]
def V9 (hz:z≠"now") (e1:f1 [.t (.tup [.str z,p,q])]=some (.t (.tup [p,q]),[])) (e2:f2 [.t p]=some (.m (.lst (sL (w p))),[])) (e3:f2 [.t q]=some (.m (.lst (sL (w q))),[])) (hl:(w p).length+(w q).length<=80000):aQ 5 (c9 f1 f2) [.t (.tup [.str z,p,q])]=some (.m (.lst (sL (z :: (w p++w q)))),[]):=by
 obtain⟨y4,_,lp⟩:=Gi (f1:=f1) (f2:=f2) (w:=w) (a0:=AAA (.tup [.str z,p,q])) (a1:=AAA (.tup [p,q])) (a2:=AAA (.tup [])) [p,q] [z] none rfl (fun r hr=>by
  rcases aao.mp hr with e | e
  ·rw[e];exact e2
  ·rw[aav.mp e];exact e3) (by simp;lia)
 rw[<-sL1] at lp;simp[aQ,c9,V6,Ov,PR,PN,e1,hz,gG,jL,fS,slotsOf,bE,bh,wb,kP,aG,fQ,aea,lp]
def Wa {k:Int}(h0:0<=k) (h9:k<=9) (hz:z≠"now") (e1:f1 [.t (.tup [.str z,.int k,p])]=some (.t (.tup [p]),[])) (e2:f2 [.t p]=some (.m (.lst (sL (w p))),[])) (hl:(w p).length<=80000):aQ 5 (c9 f1 f2) [.t (.tup [.str z,.int k,p])]=some (.m (.lst (sL (z :: tW (.int k) :: w p))),[]):=by
 obtain⟨y4,_,lp⟩:=Gi (f1:=f1) (f2:=f2) (w:=w) (a0:=AAA (.tup [.str z,.int k,p])) (a1:=AAA (.tup [p])) (a2:=AAA (.tup [.int k])) [p] [z,tW (.int k)] none rfl (fun q hq=>by rw[aav.mp hq];exact e2) (by simp;lia);rw[show sL [z,tW (.int k)]=[D.str z,.str (toString k)] from rfl] at lp;have e5:=En h0 h9;have e6:tW (.int k)=(toString k:Str):=rfl;rw[e6] at lp ⊢;generalize (Str.ofString (toString k))=tk at e5 lp ⊢;simp[aQ,c9,V6,Ov,PR,PN,e1,hz,gG,jL,fS,slotsOf,bE,bh,wb,kP,aG,fQ,aeb,e5,lp]
def Wb {a:Str}(hz:z≠"now") (e1:f1 [.t (.tup [.str z,.str a,.str y,p])]=some (.t (.tup [p]),[])) (e2:f2 [.t p]=some (.m (.lst (sL (w p))),[])) (hl:(w p).length<=80000):aQ 5 (c9 f1 f2) [.t (.tup [.str z,.str a,.str y,p])]=some (.m (.lst (sL (z :: a :: y :: w p))),[]):=by
 obtain⟨y4,_,lp⟩:=Gi (f1:=f1) (f2:=f2) (w:=w) (a0:=AAA (.tup [.str z,.str a,.str y,p])) (a1:=AAA (.tup [p])) (a2:=AAA (.tup [.str a,.str y])) [p] [z,a,y] none rfl (fun q hq=>by rw[aav.mp hq];exact e2) (by simp;lia);rw[show sL [z,a,y]=[D.str z,.str a,.str y] from rfl] at lp;simp[aQ,c9,V6,Ov,PR,PN,e1,hz,gG,jL,fS,slotsOf,bE,bh,wb,kP,aG,fQ,aec,rM,lp]
def woN {t:D}(e1:f1 [.t (.tup [.str "now",t])]=some (.t (.tup []),[])):c9 f1 f2 [AAA (.tup [.str "now",t]),none,none,none,none]=Ov f1 f2 [AAA (.tup [.str "now",t]),AAA (.tup []),AAA t,none,none]:=by
 simp[c9,V6,e1,fQ,gR]
def Wc {t:D}(h:Ts bs t) (e1:f1 [.t (.tup [.str "now",t])]=some (.t (.tup []),[])):aQ 5 (c9 f1 f2) [.t (.tup [.str "now",t])]=some (.m (.lst (sL ("now" :: GH t))),[]):=by
 cases h with
 | any=>simp[aQ,woN e1,Ov,PR,PN,gG,jL,fS,slotsOf,bE,bh,wb,kP,aG,fQ,gR,rM,GH,tW,sL]
 | name _=>simp[aQ,woN e1,Ov,PR,PN,gG,jL,fS,slotsOf,bE,bh,wb,kP,aG,fQ,gR,rM,GH,tW,sL]
 | num _ h0 h9=>simp[aQ,woN e1,Ov,PR,PN,gG,jL,fS,slotsOf,bE,bh,wb,kP,aG,fQ,gR,rM,En h0 h9,GH,tW,sL]
 | var _ _=>simp[aQ,woN e1,Ov,PR,PN,gG,jL,fS,slotsOf,bE,bh,wb,kP,aG,fQ,gR,rM,GH,tW,sL]
end
theorem vC:∀{n:Nat}{bs:BBB}{d:D},Sy n bs d->(vQ n d).length+4<=8 * 2 ^ n
 | _,_,_,.leaf (n:=n) _=>by
  rw[BK];have:1<=2 ^ n:=Nat.one_le_two_pow;rw[aeK];show 1+4<=_;lia
 | _,_,_,.now (n:=n) h=>by
  rw[vo];have:1<=2 ^ n:=Nat.one_le_two_pow;rw[aeK];cases h <;> (show _+1+4<=_;simp[GH];lia)
 | _,_,_,.one (n:=n) hz hp=>by
  have:=vC hp;rw[vp (Em hz),aeK];show _+1+4<=_;lia
 | _,_,_,.two (n:=n) hz hp hq=>by
  have:=vC hp;have:=vC hq;rw[vq (oU hz),aeK];rw[aar,aaB];lia
 | _,_,_,.LA (n:=n) _ _ hp=>by
  have:=vC hp;rw[vt,aeK];show _+1+1+4<=_;lia
 | _,_,_,.bnd (n:=n) _ _ _ hp=>by
  have:=vC hp;rw[vA,aeK];show _+1+1+1+4<=_;lia
def kW {d:D}(h:Sy n bs d) (hn:n<=8):(vQ n d).length<=2048:=by
 have a:=vC h;have b:2 ^ n<=2 ^ 8:=Nat.pow_le_pow_right (by decide) hn;have c:2 ^ 8=256:=rfl;lia
def uE:Nat->FM
 | 0=>fun _=>none
 | j+1=>aQ 5 (c9 wQ (uE j))
def LB (j:Nat):∀us r,uE (j+1) us=some r->aQ 5 (c9 wQ (uE j)) us=some r:=fun _ _ h=>h
def Gj (us:List U):uE 0 us=none:=rfl
def vD (hz:z∈gO)(h:(.str z :: r).drop (fH z)=pl):wQ [.t (.tup (.str z :: r))]=some (.t (.tup pl),[]):=by rw[Oj (Jy z hz),h]
def qM (h:z∈JF):z∈gO/\fH z=1/\bX z=false/\z≠"now":=by rcases kL h with rfl | rfl | rfl | rfl <;> decide
def mO (h:z∈JH):z∈gO/\fH z=1/\bX z=false/\z≠"now":=by rcases qL h with rfl | rfl | rfl <;> decide
def n6 (h:z="yes"\/z="no"):z∈gO/\fH z=1/\bX z=false/\z≠"now":=by rcases h with rfl | rfl <;> decide
def qN:("within":Str)∈gO/\fH "within" =2/\bX "within" =false/\("within":Str)≠"now":=by decide
def j6 (h:z="each"\/z="one"):z∈gO/\fH z=3/\bX z=true/\z≠"now":=by rcases h with rfl | rfl <;> decide
def yD:("now":Str)∈gO/\fH "now" =2:=by decide
def Ow {d:D}(h:Sy n bs d):∀{j:Nat},n<=j->n<=8->uE j [.t d]=some (.m (.lst (sL (vQ n d))),[]):=by
 induction h with
 | leaf hz=>
  intro j hj _;obtain⟨i,rfl⟩:∃i,j=i+1:=⟨j - 1,by lia⟩
  obtain⟨a,b,c,d⟩:=n6 hz;exact RO d (vD a (by rw[b];rfl))
 | now ht=>
  intro j hj _;obtain⟨i,rfl⟩:∃i,j=i+1:=⟨j - 1,by lia⟩
  rw[vo];exact Wc ht (vD yD.1 (by rw[yD.2];rfl))
 | @one n bs z p hz hp ih=>
  intro j hj hn;obtain⟨i,rfl⟩:∃i,j=i+1:=⟨j - 1,by lia⟩
  obtain⟨a,b,c,d⟩:=qM hz;have f:=kW hp (by lia);rw[vp d];exact V8 (w:=vQ n) d (vD a (by rw[b];rfl)) (ih (by lia) (by lia)) (by lia)
 | @two n bs z p q hz hp hq XI XJ=>
  intro j hj hn;obtain⟨i,rfl⟩:∃i,j=i+1:=⟨j - 1,by lia⟩
  obtain⟨a,b,c,d⟩:=mO hz;have f:=kW hp (by lia);have g:=kW hq (by lia);rw[vq (oU hz)];exact V9 (w:=vQ n) d (vD a (by rw[b];rfl)) (XI (by lia) (by lia)) (XJ (by lia) (by lia)) (by lia)
 | @LA n bs k p h0 h5 hp ih=>
  intro j hj hn;obtain⟨i,rfl⟩:∃i,j=i+1:=⟨j - 1,by lia⟩
  obtain⟨a,b,c,d⟩:=qN;have f:=kW hp (by lia);rw[vt];exact Wa (w:=vQ n) h0 (by lia) d (vD a (by rw[b];rfl)) (ih (by lia) (by lia)) (by lia)
 | @bnd n bs z a y p hz ha hy hp ih=>
  intro j hj hn;obtain⟨i,rfl⟩:∃i,j=i+1:=⟨j - 1,by lia⟩
  obtain⟨a1,b,c,d⟩:=j6 hz;have f:=kW hp (by lia);rw[vA];exact Wb (w:=vQ n) d (vD a1 (by rw[b];rfl)) (ih (by lia) (by lia)) (by lia)
variable {C:Addr}{L:BBB}{k:Nat}{s b:Int}{w:Str}
def Ad (L:BBB) (k:Nat) (s b:Int):List (Str×D):=[("words",.lst (sL L)),("at",.int k),("sayings",.int s),("binders",.int b)]
def rd (C:Addr) (L:BBB) (k:Nat) (s b:Int):MO:=.ins C (Ad L k s b)
def aed:(Ad L k s b).lookup ("at":Str)=some (.int k):=rfl
def ZQ:(Ad L k s b).lookup ("sayings":Str)=some (.int s):=rfl
def ZR:(Ad L k s b).lookup ("binders":Str)=some (.int b):=rfl
def aee:(Ad L k s b).length=4:=rfl
def iV (i:Nat) (f:Str) (S:SS):dP C i f S=(lH C S i).bind fun kvs=>(kvs.lookup f).map fun d=>(d,S):=rfl
def mQ (S:SS):lH C (some (.b (rd C L k s b)) :: S) 0=some (Ad L k s b):=by
 show(if C=C then some (Ad L k s b) else none)=_;rw[if_pos rfl]
def BL {op:Int->Int->Int}{f:Str}{g:GD}{n m:Int}(h1:(Ad L k s b).lookup f=some (.int n)) (h2:g (some (.b (rd C L k s b)) :: S)=some (.int m,some (.b (rd C L k s b)) :: S)):oM op C 0 f g (some (.b (rd C L k s b)) :: S)=some (.nx (some (.b (.ins C (lI f (.int (op n m)) (Ad L k s b)))) :: S)):=by
 unfold oM;rw[mQ,aag,h1];dsimp only;rw[h2,aag];dsimp only;rw[mQ,aag,if_pos (by rw[aee];decide)];rfl
def nJ {m:Str}{f:FM}{gu:GU}{r:U}{o':MO}(hl:(Ad L k s b).lookup m=none) (hg:gu (some (.b (rd C L k s b)) :: S)=some (us.map U.t,some (.b (rd C L k s b)) :: S)) (hf:f (.b (rd C L k s b) :: us.map U.t)=some (r,[o'])):
  cK C m 0 f gu (some (.b (rd C L k s b)) :: S)=some (r,some (.b o') :: S):=by
 unfold cK;rw[mQ,aag,if_pos hl];unfold aZ z5;rw[hg];have q1:slotsOf (U.v 0 :: us.map U.t)=[0]:=by show 0 :: slotsOf (us.map U.t)=_;rw[Lh]
 have q2:bE (U.v 0 :: us.map U.t)=0:=Li us;have q3:bh (some (.b (rd C L k s b)) :: S) (.v 0 :: us.map U.t)=some (.b (rd C L k s b) :: us.map U.t):=by
  show(some (U.b (rd C L k s b))).bind (fun w=>(bh _ (us.map U.t)).map fun ws=>w :: ws)=_;rw[z7];rfl
 have q4:wb (.v 0 :: us.map U.t) [o'] (some (.b (rd C L k s b)) :: S)=some (some (.b o') :: S):=HK _ us;simp only[adJ,aag];rw[if_pos ⟨by rw[q1];decide,by rw[q2];decide⟩,q3,aag,hf,aag,q4];rfl
def oV (ak:Addr):GS:=
 (aO (ji (qB (eF (eP pK (aa (dP ak 0 "at") (aa (eF (eP wA (aa (dP ak 0 "words") aq))) aq))))) Zb cW)
 (aO (oM (fun i j=>i+j) ak 0 "at" (eC (.int 1)))
 (cz (eP Ht (aa (dP ak 0 "words") (aa (eF (eP nF (aa (dP ak 0 "at") (aa (eC (.int 1)) aq)))) aq))))))
def mR (C:Addr):FM:=aQ 1 (oV C)
def RP (C:Addr):∀us r,mR C us=some r->aQ 1 (oV C) us=some r:=fun _ _ h=>h
def iW (h:L[k]? =some w) (hl:L.length<=10000):mR C [.b (rd C L k s b)]=some (.t (.str w),[rd C L (k+1) s b]):=by
 have hk:k < L.length:=(aay.mp h).1;have e1:qy (.int (k:Int)) (.int (L.length:Int))=false:=by
  have:¬((k:Int)=(L.length:Int)):=by lia
  show decide _=false;exact abg this
 have e2:=BL (C:=C) (L:=L) (k:=k) (s:=s) (b:=b) (op:=fun i j=>i+j) (f:="at") (g:=eC (.int 1)) (S:=[]) aed rfl;have e3:jh (sL L) (k:Int)=some (.str w):=Sq.Ei (by lia) (by rw[aeS];show(L.map D.str)[k]? =_;rw[abi,h];rfl);have e4:(sL L).length<=100000:=by rw[eZ];lia
 have e5:dP C 0 "at" [some (.b (rd C L k s b))]=some (.int k,[some (.b (rd C L k s b))]):=by rw[iV,mQ];rfl
 have e6:dP C 0 "words" [some (.b (rd C L k s b))]=some (.lst (sL L),[some (.b (rd C L k s b))]):=by rw[iV,mQ];rfl
 have e7:dP C 0 "at" [some (.b (rd C L (k+1) s b))]=some (.int ((k:Int)+1),[some (.b (rd C L (k+1) s b))]):=by rw[iV,mQ];rfl
 have e8:dP C 0 "words" [some (.b (rd C L (k+1) s b))]=some (.lst (sL L),[some (.b (rd C L (k+1) s b))]):=by rw[iV,mQ];rfl
 have e9:oM (fun i j=>i+j) C 0 "at" (eC (.int 1)) [some (.b (rd C L k s b))]=some (.nx [some (.b (rd C L (k+1) s b))]):=e2;have Ox:wA [.lst (sL L)]=AAC (L.length:Int):=by
  show some (U.t (.int ((sL L).length:Nat)))=_;rw[eZ]
 simp[mR,aQ,oV,e5,e6,e7,e8,e9,Ox,e1,e3,aG]
def sR:GS:=
 (ji (vM (qB (eF (ao 1)))) Zb cW)
def iK:FM:=aQ 2 sR
def Oz:∀us r,iK us=some r->aQ 2 sR us=some r:=fun _ _ h=>h
def mq (o:MO):iK [.b o,.t (.bl true)]=some (.t .cM,[o]):=by kernel_rfl
def gU (bT:FM) (bW:FM) (BN:FM) (ak:Addr):GS:=
 (aO (bR 1 (cK ak "taken" 0 bT aE))
 (aO (mH (cK ak "wanted" 0 bW (aH (eF (aZ BN (aH (eF (ao 1)) aE))) aE)))
 (cz (ao 1))))
def RQ {f3:FM}(e1:f1 [.b (rd C L k s b)]=some (.t (.str w),[rd C L (k+1) s b])) (e2:f2 [.b (rd C L (k+1) s b),.t (.bl true)]=some (.t .cM,[rd C L (k+1) s b])) (e3:f3 [.t (.str w)]=some (.t (.bl true),[])):
  aQ 2 (gU f1 f2 f3 C) [.b (rd C L k s b)]=some (.t (.str w),[rd C L (k+1) s b]):=by
 have m1:=nJ (m:="taken") (gu:=aE) (us:=[]) (S:=[none]) rfl rfl e1;have m2:=nJ (m:="wanted") (gu:=aH (eF (aZ f3 (aH (eF (ao 1)) aE))) aE) (us:=[.bl true]) (S:=[AAA (.str w)]) rfl (by simp[e3]) e2;simp[aQ,gU,m1,m2,aG]
def GJ (C:Addr):FM:=aQ 2 (gU (mR C) iK nv C)
def Wd (C:Addr):∀us r,GJ C us=some r->aQ 2 (gU (mR C) iK nv C) us=some r:=fun _ _ h=>h
def Eo (h:nameB (.str z)=true):nv [.t (.str z)]=some (.t (.bl true),[]):=by
 have l:z.length<=20000:=by
  have h:(decide (1<=z.length) && decide (z.length<=8) && (Sw.signs z).all tu)=true:=h;simp only[abt,abO] at h;lia
 show(if z.length<=20000 then some (U.t (.bl (nameB (.str z))),[]) else none)=_;rw[if_pos l,h]
def Gk (h:L[k]? =some w) (hl:L.length<=10000) (hn:nameB (.str w)=true):GJ C [.b (rd C L k s b)]=some (.t (.str w),[rd C L (k+1) s b]):=RQ (iW h hl) (mq _) (Eo hn)
def zB:GS:=
 (cz (eT (lP false [("yes",1),("no",1),("now",2),("not",2),("both",3),("either",3),("next",2),("till",3),("within",3),("always",2),("some",2),("each",4),("one",4)] (eF (ao 0)))))
def jM:FM:=aQ 1 zB
def OA:∀us r,jM us=some r->aQ 1 zB us=some r:=fun _ _ h=>h
def JK (h:z∈gO):jM [.t (.str z)]=some (.t (.bl true),[]):=by
 have:z∈(["yes","no","now","not","both","either","next","till","within","always","some","each","one"]:BBB):=h;simp only[aao,aa4,acg] at this;rcases this with rfl | rfl | rfl | rfl | rfl | rfl | rfl | rfl | rfl | rfl | rfl | rfl | rfl <;> rfl
def fB (bT:FM) (bW:FM) (yE:FM) (ak:Addr):GS:=
 (aO (bR 2 (cK ak "taken" 0 bT aE))
 (aO (oM (fun i j=>i+j) ak 0 "sayings" (eC (.int 1)))
 (aO (ji (qB (rG false ["each","one"] (eF (ao 2)))) (oM (fun i j=>i+j) ak 0 "binders" (eC (.int 1))) cW)
 (aO (mH (cK ak "wanted" 0 bW (aH (eQ (iI (qB (eF (aZ yE (aH (eF (ao 2)) aE)))) (qB (eF (eP xO (aa (dP ak 0 "sayings") (aa (eC (.int 16)) aq))))))) aE)))
 (aO (mH (cK ak "wanted" 0 bW (aH (eQ (iI (qB (eF (eP AI (aa (eF (ao 1)) (aa (eC (.int 8)) aq))))) (qB (eF (eP xO (aa (dP ak 0 "binders") (aa (eC (.int 3)) aq))))))) aE)))
 (cz (ao 2)))))))
def bI (z:Str):Int:=if bX z then 1 else 0
def RS {f3:FM}{a:Int}(h1:s+1<=16) (h2:a < 8) (h3:b+bI w<=3) (e1:f1 [.b (rd C L k s b)]=some (.t (.str w),[rd C L (k+1) s b])) (e2:∀o,f2 [.b o,.t (.bl true)]=some (.t .cM,[o])) (e3:f3 [.t (.str w)]=some (.t (.bl true),[])):
  aQ 3 (fB f1 f2 f3 C) [.b (rd C L k s b),.t (.int a)]=some (.t (.str w),[rd C L (k+1) (s+1) (b+bI w)]):=by
 have m1:=nJ (m:="taken") (gu:=aE) (us:=[]) (S:=[AAC a,none]) rfl rfl e1;have m2:oM (fun i j=>i+j) C 0 "sayings" (eC (.int 1)) [some (.b (rd C L (k+1) s b)),AAC a,AAA (.str w)]=some (.nx [some (.b (rd C L (k+1) (s+1) b)),AAC a,AAA (.str w)]):=BL (op:=fun i j=>i+j) (m:=1) ZQ rfl;have m3:oM (fun i j=>i+j) C 0 "binders" (eC (.int 1)) [some (.b (rd C L (k+1) (s+1) b)),AAC a,AAA (.str w)]=some (.nx [some (.b (rd C L (k+1) (s+1) (b+1))),AAC a,AAA (.str w)]):=BL (op:=fun i j=>i+j) (m:=1) ZR rfl;have fs:∀b:Int,dP C 0 "sayings" [some (.b (rd C L (k+1) (s+1) b)),AAC a,AAA (.str w)]=some (.int (s+1),[some (.b (rd C L (k+1) (s+1) b)),AAC a,AAA (.str w)]):=fun b=>by rw[iV,mQ];rfl
 have fb:∀b:Int,dP C 0 "binders" [some (.b (rd C L (k+1) (s+1) b)),AAC a,AAA (.str w)]=some (.int b,[some (.b (rd C L (k+1) (s+1) b)),AAC a,AAA (.str w)]):=fun b=>by rw[iV,mQ];rfl
 cases hb:bX w with
 | false=>
  have e0:bI w=0:=by unfold bI;rw[hb];rfl
  rw[e0,acL] at h3 ⊢;have m4:=nJ (C:=C) (L:=L) (m:="wanted") (k:=k+1) (s:=s+1) (b:=b) (gu:=aH (eQ (iI (qB (eF (aZ f3 (aH (eF (ao 2)) aE)))) (qB (eF (eP xO (aa (dP C 0 "sayings") (aa (eC (.int 16)) aq))))))) aE) (us:=[.bl true]) (S:=[AAC a,AAA (.str w)]) rfl (by simp[e3,fs,h1]) (e2 _);have m5:=nJ (C:=C) (L:=L) (m:="wanted") (k:=k+1) (s:=s+1) (b:=b) (gu:=aH (eQ (iI (qB (eF (eP AI (aa (eF (ao 1)) (aa (eC (.int 8)) aq))))) (qB (eF (eP xO (aa (dP C 0 "binders") (aa (eC (.int 3)) aq))))))) aE) (us:=[.bl true]) (S:=[AAC a,AAA (.str w)]) rfl (by simp[fb,h2,h3]) (e2 _);unfold bX HR at hb;simp only[aax,abe] at hb;simp[aQ,fB,m1,m2,hb,m4,m5,rG,aG]
 | true=>
  have e0:bI w=1:=by unfold bI;rw[hb];rfl
  rw[e0] at h3 ⊢;have m4:=nJ (C:=C) (L:=L) (m:="wanted") (k:=k+1) (s:=s+1) (b:=b+1) (gu:=aH (eQ (iI (qB (eF (aZ f3 (aH (eF (ao 2)) aE)))) (qB (eF (eP xO (aa (dP C 0 "sayings") (aa (eC (.int 16)) aq))))))) aE) (us:=[.bl true]) (S:=[AAC a,AAA (.str w)]) rfl (by simp[e3,fs,h1]) (e2 _);have m5:=nJ (C:=C) (L:=L) (m:="wanted") (k:=k+1) (s:=s+1) (b:=b+1) (gu:=aH (eQ (iI (qB (eF (eP AI (aa (eF (ao 1)) (aa (eC (.int 8)) aq))))) (qB (eF (eP xO (aa (dP C 0 "binders") (aa (eC (.int 3)) aq))))))) aE) (us:=[.bl true]) (S:=[AAC a,AAA (.str w)]) rfl (by simp[fb,h2,h3]) (e2 _);unfold bX HR at hb;simp only[aax,abe] at hb;simp[aQ,fB,m1,m2,m3,hb,m4,m5,rG,aG]
def EV (C:Addr):FM:=aQ 3 (fB (mR C) iK jM C)
def We (C:Addr):∀us r,EV C us=some r->aQ 3 (fB (mR C) iK jM C) us=some r:=fun _ _ h=>h
def ZS {a:Int}(h:L[k]? =some w) (hl:L.length<=10000) (hw:w∈gO) (h1:s+1<=16) (h2:a < 8) (h3:b+bI w<=3):EV C [.b (rd C L k s b),.t (.int a)]=some (.t (.str w),[rd C L (k+1) (s+1) (b+bI w)]):=RS h1 h2 h3 (iW h hl) mq (JK hw)
variable {C:Addr}{L:BBB}{k:Nat}{s b:Int}{w:Str}
def BF (kvs:AAJ) (g:GD) (S:SS):Aq kvs g S=(g S).bind fun p=>match p.1 with | .str z=>(cG kvs z).map fun i=>(.int i,p.2) | _=>none:=rfl
def kX (n:Bool) (kvs:AAJ) (g:GD) (S:SS):lP n kvs g S=(g S).bind fun p=>match p.1 with | .str z=>some (.bl (n != (cG kvs z).isSome),p.2) | _=>none:=rfl
def HZ (kvs:AAJ) (g gd:GD) (S:SS):Bt kvs g gd S=(g S).bind fun p=>(gd p.2).bind fun q=>match p.1 with | .str z=>some ((match cG kvs z with | some i=>.int i | none=>q.1),q.2) | _=>none:=rfl
noncomputable def qz:List (Str×Int):=[("0",0),("1",1),("2",2),("3",3),("4",4),("5",5),("6",6),("7",7),("8",8),("9",9)]
def OB {k:Int}(h0:0<=k) (h1:k<=9):cG qz (tW (.int k))=some k:=by
 obtain⟨n,rfl⟩:=afX h0;exact(by decide +kernel:∀n < 10,cG qz (tW (.int (n:Nat)))=some (n:Int)) n (by lia)
def cJ (bT:FM) (cO:FM) (bW:FM) (ak:Addr):GS:=
 (aO (bR 2 (cK ak "taken" 0 bT aE))
 (aO (ji (qB (eF (eP pK (aa (eF (ao 2)) (aa (eC (.str "any")) aq))))) (cz (eP cT (aa (eC (.str "any")) aq))) cW)
 (aO (ji (qB (eF (eP pK (aa (eF (ao 2)) (aa (eC (.str "name")) aq))))) (cz (eP cT (aa (eC (.str "name")) (aa (eF (cK ak "name_taken" 0 cO aE)) aq)))) cW)
 (aO (mH (cK ak "wanted" 0 bW (aH (eF (eP zX (aa (eF (ao 2)) (aa (eF (eP cT (aa (eC (.str "less")) (aa (eC (.str "same")) (aa (eC (.str "more")) aq))))) aq)))) aE)))
 (aO (bR 3 (cK ak "taken" 0 bT aE))
 (aO (mH (cK ak "wanted" 0 bW (aH (eQ (Fj (qB (lP false [("0",0),("1",1),("2",2),("3",3),("4",4),("5",5),("6",6),("7",7),("8",8),("9",9)] (eF (ao 3)))) (qB (eF (eP zX (aa (eF (ao 3)) (aa (eF (ao 1)) aq))))))) aE)))
 (cz (eP cT (aa (eF (ao 2)) (aa (Bt [("0",0),("1",1),("2",2),("3",3),("4",4),("5",5),("6",6),("7",7),("8",8),("9",9)] (eF (ao 3)) (eF (ao 3))) aq))))))))))
section
variable {f1 f2 f3:FM}{bd:D}
def Wf (e1:f1 [.b (rd C L k s b)]=some (.t (.str "any"),[rd C L (k+1) s b])):aQ 4 (cJ f1 f2 f3 C) [.b (rd C L k s b),.t bd]=some (.t (.tup [.str "any"]),[rd C L (k+1) s b]):=by
 have m1:=nJ (m:="taken") (gu:=aE) (us:=[]) (S:=[AAA bd,none,none]) rfl rfl e1;simp[aQ,cJ,m1,aG]
def RU (e1:f1 [.b (rd C L k s b)]=some (.t (.str "name"),[rd C L (k+1) s b])) (e2:f2 [.b (rd C L (k+1) s b)]=some (.t (.str w),[rd C L (k+1+1) s b])):aQ 4 (cJ f1 f2 f3 C) [.b (rd C L k s b),.t bd]=some (.t (.tup [.str "name",.str w]),[rd C L (k+1+1) s b]):=by
 have m1:=nJ (m:="taken") (gu:=aE) (us:=[]) (S:=[AAA bd,none,none]) rfl rfl e1;have m2:=nJ (m:="name_taken") (gu:=aE) (us:=[]) (S:=[AAA bd,AAA (.str "name"),none]) rfl rfl e2;have ne:¬(("name":Str)="any"):=by decide
 simp[aQ,cJ,m1,m2,ne,aG]
def OC {o:Str}{v:D}(ho:o∈qJ) (e1:f1 [.b (rd C L k s b)]=some (.t (.str o),[rd C L (k+1) s b])) (e2:f1 [.b (rd C L (k+1) s b)]=some (.t (.str w),[rd C L (k+1+1) s b])) (e3:∀o,f3 [.b o,.t (.bl true)]=some (.t .cM,[o]))
  (hin:(cG qz w).isSome=true\/((cG qz w)=none/\zX [.str w,bd]=AAA (.bl true))) (hv:(match cG qz w with | some i=>D.int i | none=>.str w)=v):aQ 4 (cJ f1 f2 f3 C) [.b (rd C L k s b),.t bd]=some (.t (.tup [.str o,v]),[rd C L (k+1+1) s b]):=by
 have m1:=nJ (m:="taken") (gu:=aE) (us:=[]) (S:=[AAA bd,none,none]) rfl rfl e1;have m2:=nJ (m:="taken") (gu:=aE) (us:=[]) (S:=[AAA bd,AAA (.str o),none]) rfl rfl e2;have n1:o≠"any":=(uD ho).2;have n2:o≠"name":=(uD ho).1;have t3:inD (.str o) [.str "less",.str "same",.str "more"]=true:=JJ (zs:=qJ) ho;have m3:=nJ (C:=C) (L:=L) (m:="wanted") (k:=k+1) (s:=s) (b:=b) (gu:=aH (eF (eP zX (aa (eF (ao 2)) (aa (eF (eP cT (aa (eC (.str "less")) (aa (eC (.str "same")) (aa (eC (.str "more")) aq))))) aq)))) aE) (us:=[.bl true]) (S:=[AAA bd,AAA (.str o),none]) rfl (by simp[zX,t3,cF,ig]) (e3 _);have m4:=nJ (C:=C) (L:=L) (m:="wanted") (k:=k+1+1) (s:=s) (b:=b) (gu:=aH (eQ (Fj (qB (lP false qz (eF (ao 3)))) (qB (eF (eP zX (aa (eF (ao 3)) (aa (eF (ao 1)) aq))))))) aE) (us:=[.bl true]) (S:=[AAA bd,AAA (.str o),AAA (.str w)]) rfl (by
  rcases hin with q | ⟨q1,q2⟩
  ·simp[kX,q]
  ·simp[kX,q1,q2]) (e3 _)
 unfold qz at m4 hv;simp[aQ,cJ,m1,m2,m3,m4,n1,n2,HZ,hv,aG]
end
variable {C:Addr}{L:BBB}{k:Nat}{s b:Int}{w:Str}
def Mf (C:Addr):FM:=aQ 4 (cJ (mR C) (GJ C) iK C)
def Wg (C:Addr):∀us r,Mf C us=some r->aQ 4 (cJ (mR C) (GJ C) iK C) us=some r:=fun _ _ h=>h
theorem qO:∀bs:BBB,cF (bs.map D.str)<=40
 | []=>acI _
 | y :: bs=>by
  have:=qO bs;show max (ig (.str y)) (cF (bs.map D.str))<=40;have e:ig (.str y)=0:=rfl;lia
def fT (bT:FM) (bW:FM) (ak:Addr):GS:=
 (aO (bR 1 (cK ak "taken" 0 bT aE))
 (aO (mH (cK ak "wanted" 0 bW (aH (eQ (iI (qB (lP false [("0",0),("1",1),("2",2),("3",3),("4",4),("5",5),("6",6),("7",7),("8",8),("9",9)] (eF (ao 1)))) (qB (eF (eP xO (aa (Aq [("0",0),("1",1),("2",2),("3",3),("4",4),("5",5),("6",6),("7",7),("8",8),("9",9)] (eF (ao 1))) (aa (eC (.int 5)) aq))))))) aE)))
 (cz (eT (Aq [("0",0),("1",1),("2",2),("3",3),("4",4),("5",5),("6",6),("7",7),("8",8),("9",9)] (eF (ao 1)))))))
def LC (C:Addr):FM:=aQ 2 (fT (mR C) iK C)
def Wh (C:Addr):∀us r,LC C us=some r->aQ 2 (fT (mR C) iK C) us=some r:=fun _ _ h=>h
def RV {n:Int}(h5:n<=5) (hf:cG qz w=some n) (e1:f1 [.b (rd C L k s b)]=some (.t (.str w),[rd C L (k+1) s b])) (e2:∀o,f2 [.b o,.t (.bl true)]=some (.t .cM,[o])):aQ 2 (fT f1 f2 C) [.b (rd C L k s b)]=some (.t (.int n),[rd C L (k+1) s b]):=by
 have m1:=nJ (m:="taken") (gu:=aE) (us:=[]) (S:=[none]) rfl rfl e1;have m2:=nJ (C:=C) (L:=L) (m:="wanted") (k:=k+1) (s:=s) (b:=b) (gu:=aH (eQ (iI (qB (lP false qz (eF (ao 1)))) (qB (eF (eP xO (aa (Aq qz (eF (ao 1))) (aa (eC (.int 5)) aq))))))) aE) (us:=[.bl true]) (S:=[AAA (.str w)]) rfl (by simp[kX,BF,hf,h5]) (e2 _);unfold qz at m2 hf;simp[aQ,fT,m1,m2,BF,hf,aG]
def ZT {n:Int}(h0:0<=n) (h5:n<=5) (h:L[k]? =some (tW (.int n))) (hl:L.length<=10000):LC C [.b (rd C L k s b)]=some (.t (.int n),[rd C L (k+1) s b]):=RV h5 (OB h0 (by lia)) (iW h hl) mq
def bU (kD:FM) (kE:FM) (jr:FM) (cO:FM) (ak:Addr):GS:=
 (aO (bR 3 (cK ak "head_taken" 0 kD (aH (eF (ao 2)) aE)))
 (aO (ji (qB (eF (eP pK (aa (eF (ao 3)) (aa (eC (.str "now")) aq))))) (cz (eP cT (aa (eF (ao 3)) (aa (eF (cK ak "test_taken" 0 kE (aH (eF (ao 1)) aE))) aq)))) cW)
 (aO (ji (qB (eF (eP pK (aa (eF (ao 3)) (aa (eC (.str "within")) aq))))) (cz (eP cT (aa (eF (ao 3)) (aa (eF (cK ak "within_taken" 0 jr aE)) aq)))) cW)
 (aO (ji (qB (rG false ["each","one"] (eF (ao 3)))) (aO (bR 4 (cK ak "name_taken" 0 cO aE))
 (cz (eP cT (aa (eF (ao 3)) (aa (eF (ao 4)) (aa (eF (cK ak "name_taken" 0 cO aE)) aq)))))) cW)
 (cz (eP cT (aa (eF (ao 3)) aq)))))))
section
variable {f1 f2 f3 f4:FM}{bd:D}{a:Int}{s' b':Int}
def OD {t:D}{k':Nat}(e1:f1 [.b (rd C L k s b),.t (.int a)]=some (.t (.str "now"),[rd C L (k+1) s' b'])) (e2:f2 [.b (rd C L (k+1) s' b'),.t bd]=some (.t t,[rd C L k' s' b'])):aQ 5 (bU f1 f2 f3 f4 C) [.b (rd C L k s b),.t bd,.t (.int a)]=some (.t (.tup [.str "now",t]),[rd C L k' s' b']):=by
 have m1:=nJ (m:="head_taken") (gu:=aH (eF (ao 2)) aE) (us:=[.int a]) (S:=[AAA bd,AAC a,none,none]) rfl rfl e1;have m2:=nJ (m:="test_taken") (gu:=aH (eF (ao 1)) aE) (us:=[bd]) (S:=[AAA bd,AAC a,AAA (.str "now"),none]) rfl rfl e2;simp[aQ,bU,m1,m2,aG]
def Ia {n:Int}(e1:f1 [.b (rd C L k s b),.t (.int a)]=some (.t (.str "within"),[rd C L (k+1) s' b'])) (e2:f3 [.b (rd C L (k+1) s' b')]=some (.t (.int n),[rd C L (k+1+1) s' b'])):aQ 5 (bU f1 f2 f3 f4 C) [.b (rd C L k s b),.t bd,.t (.int a)]=some (.t (.tup [.str "within",.int n]),[rd C L (k+1+1) s' b']):=by
 have m1:=nJ (m:="head_taken") (gu:=aH (eF (ao 2)) aE) (us:=[.int a]) (S:=[AAA bd,AAC a,none,none]) rfl rfl e1;have m2:=nJ (m:="within_taken") (gu:=aE) (us:=[]) (S:=[AAA bd,AAC a,AAA (.str "within"),none]) rfl rfl e2;have ne:¬(("within":Str)="now"):=by decide
 simp[aQ,bU,m1,m2,ne,aG]
def Wi {x:Str}(hw:bX w=true) (n1:w≠"now") (n2:w≠"within") (e1:f1 [.b (rd C L k s b),.t (.int a)]=some (.t (.str w),[rd C L (k+1) s' b'])) (e2:f4 [.b (rd C L (k+1) s' b')]=some (.t (.str x),[rd C L (k+1+1) s' b'])) (e3:f4 [.b (rd C L (k+1+1) s' b')]=some (.t (.str y),[rd C L (k+1+1+1) s' b'])):aQ 5 (bU f1 f2 f3 f4 C) [.b (rd C L k s b),.t bd,.t (.int a)]=some (.t (.tup [.str w,.str x,.str y]),[rd C L (k+1+1+1) s' b']):=by
 have m1:=nJ (m:="head_taken") (gu:=aH (eF (ao 2)) aE) (us:=[.int a]) (S:=[AAA bd,AAC a,none,none]) rfl rfl e1;have m2:=nJ (m:="name_taken") (gu:=aE) (us:=[]) (S:=[AAA bd,AAC a,AAA (.str w),none]) rfl rfl e2;have m3:=nJ (m:="name_taken") (gu:=aE) (us:=[]) (S:=[AAA bd,AAC a,AAA (.str w),AAA (.str x)]) rfl rfl e3;unfold bX HR at hw;simp only[aax,abe] at hw;simp[aQ,bU,m1,m2,m3,n1,n2,hw,rG,aG]
def uF (hw:bX w=false) (n1:w≠"now") (n2:w≠"within") (e1:f1 [.b (rd C L k s b),.t (.int a)]=some (.t (.str w),[rd C L (k+1) s' b'])):aQ 5 (bU f1 f2 f3 f4 C) [.b (rd C L k s b),.t bd,.t (.int a)]=some (.t (.tup [.str w]),[rd C L (k+1) s' b']):=by
 have m1:=nJ (m:="head_taken") (gu:=aH (eF (ao 2)) aE) (us:=[.int a]) (S:=[AAA bd,AAC a,none,none]) rfl rfl e1;unfold bX HR at hw;simp only[aax,abe] at hw;simp[aQ,bU,m1,n1,n2,hw,rG,aG]
end
def Dl (C:Addr):FM:=aQ 5 (bU (EV C) (Mf C) (LC C) (GJ C) C)
def Wj (C:Addr):∀us r,Dl C us=some r->aQ 5 (bU (EV C) (Mf C) (LC C) (GJ C) C) us=some r:=fun _ _ h=>h
variable {C:Addr}{L:BBB}{k:Nat}{s b:Int}{w:Str}
def uG:GS:=
 (cz (eP nF (aa (Aq [("yes",1),("no",1),("now",2),("not",2),("both",3),("either",3),("next",2),("till",3),("within",3),("always",2),("some",2),("each",4),("one",4)] (eF (ao 0))) (aa (Aq [("yes",1),("no",1),("now",2),("not",1),("both",1),("either",1),("next",1),("till",1),("within",2),("always",1),("some",1),("each",3),("one",3)] (eF (ao 0))) aq))))
def Au:FM:=aQ 1 uG
def pw_run:∀us r,Au us=some r->aQ 1 uG us=some r:=fun _ _ h=>h
def pw_leaf (h:z="yes"\/z="no"):Au [.t (.str z)]=some (.t (.int 0),[]):=by rcases h with rfl | rfl <;> rfl
def pw_now:Au [.t (.str "now")]=some (.t (.int 0),[]):=rfl
def pw_wth:Au [.t (.str "within")]=some (.t (.int 1),[]):=rfl
def pw_one (h:z∈JF):Au [.t (.str z)]=some (.t (.int 1),[]):=by rcases kL h with rfl | rfl | rfl | rfl <;> rfl
def pw_two (h:z∈JH):Au [.t (.str z)]=some (.t (.int 2),[]):=by rcases qL h with rfl | rfl | rfl <;> rfl
def pw_bnd (h:z="each"\/z="one"):Au [.t (.str z)]=some (.t (.int 1),[]):=by rcases h with rfl | rfl <;> rfl
def iA (cy:FM) (ez:FM) (eB:FM) (bC:FM) (ak:Addr):GS:=
 (bR 3 (eP cE (aa (eF (ao 3)) (aa (eF (eP cT (aa (eF (cK ak "saying_taken" 0 bC (aH (eF (ao 4)) (aH (eF (eP cE (aa (eF (ao 2)) (aa (eC (.int 1)) aq)))) aE)))) aq))) aq))))
def cu (cy:FM) (ez:FM) (eB:FM) (bC:FM) (ak:Addr):GS:=
 (aO (bR 3 (cK ak "begin_taken" 0 cy (aH (eF (ao 1)) (aH (eF (ao 2)) aE))))
 (aO (bR 4 (aZ ez (aH (eF (ao 3)) (aH (eF (ao 1)) aE))))
 (aO (uc (bName 5) (ya (aa (eF (aZ eB (aH (d8 3 (eC (.int 0))) aE))) aq)) (iA cy ez eB bC ak))
 (cz (ao 3)))))
section
variable {f1 f2 f3 f4:FM}{bd ib:D}{a:Int}{z:Str}{r:List D}{k1 k2 k3:Nat}{s1 b1 s2 b2 s3 b3:Int}{p q:D}
def rg {n:Int}(h0:0<=n) (h1:n < 1000000) (e3:f3 [.t (.str z)]=some (.t (.int n),[])) (hS:S[3]? =some (AAA (.tup (.str z :: r)))):ya (aa (eF (aZ f3 (aH (d8 3 (eC (.int 0))) aE))) aq) S=some (B6 0 n.toNat,S):=by
 refine Sq.Dh ?_ h1 (by lia);simp[hS,fQ,e3]
def AQ {j:Int}(hr:r.length<=1000) (e4:f4 [.b (rd C L k s b),.t ib,.t (.int (a+1))]=some (.t p,[rd C L k1 s1 b1])):
  iA f1 f2 f3 f4 C [some (.b (rd C L k s b)),AAA bd,AAC a,AAA (.tup (.str z :: r)),AAA ib,AAC j]=some (.nx [some (.b (rd C L k1 s1 b1)),AAA bd,AAC a,AAA (.tup (.str z :: (r++[p]))),AAA ib,AAC j]):=by
 have m1:=nJ (m:="saying_taken") (gu:=aH (eF (ao 4)) (aH (eF (eP cE (aa (eF (ao 2)) (aa (eC (.int 1)) aq)))) aE)) (us:=[ib,.int (a+1)]) (S:=[AAA bd,AAC a,AAA (.tup (.str z :: r)),AAA ib,AAC j]) rfl (by simp) e4;have l:r.length+1+1<=100000:=by lia
 simp[iA,m1,l]
def ZU (hr:r.length<=900) (e1:f1 [.b (rd C L k s b),.t bd,.t (.int a)]=some (.t (.tup (.str z :: r)),[rd C L k1 s1 b1])) (e2:f2 [.t (.tup (.str z :: r)),.t bd]=some (.t ib,[])) (e3:f3 [.t (.str z)]=some (.t (.int 0),[])):
  aQ 6 (cu f1 f2 f3 f4 C) [.b (rd C L k s b),.t bd,.t (.int a)]=some (.t (.tup (.str z :: r)),[rd C L k1 s1 b1]):=by
 have m1:=nJ (m:="begin_taken") (gu:=aH (eF (ao 1)) (aH (eF (ao 2)) aE)) (us:=[bd,.int a]) (S:=[AAA bd,AAC a,none,none,none]) rfl rfl e1;have g:=rg (n:=0) (S:=[some (.b (rd C L k1 s1 b1)),AAA bd,AAC a,AAA (.tup (.str z :: r)),AAA ib,none]) (by decide) (by decide) e3 rfl;have e0:B6 0 (0:Int).toNat=[]:=rfl;rw[e0] at g;simp[-D3,aQ,cu,m1,e2,wL,g,loop,aG]
def Wl (hr:r.length<=900) (e1:f1 [.b (rd C L k s b),.t bd,.t (.int a)]=some (.t (.tup (.str z :: r)),[rd C L k1 s1 b1])) (e2:f2 [.t (.tup (.str z :: r)),.t bd]=some (.t ib,[])) (e3:f3 [.t (.str z)]=some (.t (.int 1),[]))
  (e4:f4 [.b (rd C L k1 s1 b1),.t ib,.t (.int (a+1))]=some (.t p,[rd C L k2 s2 b2])):
  aQ 6 (cu f1 f2 f3 f4 C) [.b (rd C L k s b),.t bd,.t (.int a)]=some (.t (.tup (.str z :: (r++[p]))),[rd C L k2 s2 b2]):=by
 have m1:=nJ (m:="begin_taken") (gu:=aH (eF (ao 1)) (aH (eF (ao 2)) aE)) (us:=[bd,.int a]) (S:=[AAA bd,AAC a,none,none,none]) rfl rfl e1;have g:=rg (n:=1) (S:=[some (.b (rd C L k1 s1 b1)),AAA bd,AAC a,AAA (.tup (.str z :: r)),AAA ib,none]) (by decide) (by decide) e3 rfl;have e0:B6 0 (1:Int).toNat=[.int 0]:=rfl;rw[e0] at g;have t1:=AQ (f1:=f1) (f2:=f2) (f3:=f3) (bd:=bd) (z:=z) (r:=r) (j:=0) (by lia) e4;simp[-D3,aQ,cu,m1,e2,wL,g,loop,t1,aG]
def aef (hr:r.length<=900) (e1:f1 [.b (rd C L k s b),.t bd,.t (.int a)]=some (.t (.tup (.str z :: r)),[rd C L k1 s1 b1])) (e2:f2 [.t (.tup (.str z :: r)),.t bd]=some (.t ib,[])) (e3:f3 [.t (.str z)]=some (.t (.int 2),[]))
  (e4:f4 [.b (rd C L k1 s1 b1),.t ib,.t (.int (a+1))]=some (.t p,[rd C L k2 s2 b2])) (e5:f4 [.b (rd C L k2 s2 b2),.t ib,.t (.int (a+1))]=some (.t q,[rd C L k3 s3 b3])):
  aQ 6 (cu f1 f2 f3 f4 C) [.b (rd C L k s b),.t bd,.t (.int a)]=some (.t (.tup (.str z :: (r++[p]++[q]))),[rd C L k3 s3 b3]):=by
 have m1:=nJ (m:="begin_taken") (gu:=aH (eF (ao 1)) (aH (eF (ao 2)) aE)) (us:=[bd,.int a]) (S:=[AAA bd,AAC a,none,none,none]) rfl rfl e1;have g:=rg (n:=2) (S:=[some (.b (rd C L k1 s1 b1)),AAA bd,AAC a,AAA (.tup (.str z :: r)),AAA ib,none]) (by decide) (by decide) e3 rfl;have e0:B6 0 (2:Int).toNat=[.int 0,.int 1]:=rfl;rw[e0] at g;have t1:=AQ (f1:=f1) (f2:=f2) (f3:=f3) (bd:=bd) (z:=z) (r:=r) (j:=0) (by lia) e4;have t2:=AQ (f1:=f1) (f2:=f2) (f3:=f3) (bd:=bd) (z:=z) (r:=r++[p]) (j:=1) (by rw[aaB];show r.length+1<=1000;lia) e5;simp only[aeT] at t2;simp[-D3,aQ,cu,m1,e2,wL,g,loop,t1,t2,aG]
end
variable {C:Addr}{L:BBB}
def AR (C:Addr):Nat->FM
 | 0=>fun _=>none
 | j+1=>aQ 6 (cu (Dl C) fy Au (AR C j) C)
def Wm (C:Addr) (j:Nat):∀us r,AR C (j+1) us=some r->aQ 6 (cu (Dl C) fy Au (AR C j) C) us=some r:=fun _ _ h=>h
def OE (C:Addr) (us:List U):AR C 0 us=none:=rfl
def zC (h:dQ z r=pl):iJ (n+1) (.tup (.str z :: r))=(pl.flatMap (tF n)).length+1:=by rw[<-h];rfl
def Dm {i:Nat}(hs:fH z=i) (h:(D.str z :: r).drop i=pl):dQ z r=pl:=by unfold dQ;rw[hs,h]
def fm1 (f:D->List D) (p:D):[p].flatMap f=f p:=by simp
def fm2 (f:D->List D) (p q:D):[p,q].flatMap f=f p++f q:=by simp
def vR (h:bX z=false):bI z=0:=by unfold bI;rw[h];rfl
def LD (h:bX z=true):bI z=1:=by unfold bI;rw[h];rfl
variable {C:Addr}{L:BBB}
def OF (c:Nat) (a b:Str) (r:BBB):(Str.join ⟨#[c]⟩ (a :: b :: r)).cps.toList=a.cps.toList++c :: (Str.join ⟨#[c]⟩ (b :: r)).cps.toList:=by
 show(a++⟨#[c]⟩++Str.join ⟨#[c]⟩ (b :: r)).cps.toList=_;simp only[Str.cps_append,Array.toList_append];simp
structure Wk (z:Str):Prop where
 len:z.length<=8
 fr:32∉z.cps.toList
def AS (h:nameB (.str z)=true):Wk z:=by
 have h:(decide (1<=z.length) && decide (z.length<=8) && (Sw.signs z).all tu)=true:=h;simp only[abt,abO] at h;refine⟨h.1.2,fun m=>?_⟩;have:=adU.mp h.2 ⟨#[32]⟩ (acK.mpr ⟨32,m,rfl⟩);exact absurd this (by decide +kernel)
def Ib {zs:BBB}(h:(zs.all fun z=>decide (z.length<=8) && decide (32∉z.cps.toList))=true):∀z∈zs,Wk z:=fun z hz=>by
 have:=adU.mp h z hz;simp only[abt,abO] at this;exact⟨this.1,this.2⟩
def vE:∀z∈gO,Wk z:=Ib (by decide +kernel)
def JL:∀z∈(["any","name","less","same","more"]:BBB),Wk z:=Ib (by decide +kernel)
def OG {k:Int}(h0:0<=k) (h9:k<=9):Wk (tW (.int k)):=by
 obtain⟨n,rfl⟩:=afX h0;have:=(by decide +kernel:∀n < 10,(tW (.int (n:Nat))).length<=8/\32∉(tW (.int (n:Nat))).cps.toList) n (by lia);exact⟨this.1,this.2⟩
def ZV {t:D}(h:Ts bs t) (hb:∀y∈bs,nameB (.str y)=true):∀z∈GH t,Wk z:=by
 have t3:∀o∈qJ,Wk o:=Ib (by decide +kernel);cases h with
 | any=>intro z hz;rw[aav.mp hz];exact JL _ (by decide)
 | name hn=>
  intro z hz;rcases aao.mp (show z∈[_,_] from hz) with e | e
  ·rw[e];exact JL _ (by decide)
  ·rw[aav.mp e];exact AS hn
 | num ho h0 h9=>
  intro z hz;rcases aao.mp (show z∈[_,_] from hz) with e | e
  ·rw[e];exact t3 _ ho
  ·rw[aav.mp e];exact OG h0 h9
 | var ho hy=>
  intro z hz;rcases aao.mp (show z∈[_,_] from hz) with e | e
  ·rw[e];exact t3 _ ho
  ·rw[aav.mp e];exact AS (hb _ hy)
def T9 {d:D}(h:Sy n bs d):(∀y∈bs,nameB (.str y)=true)->(∀z∈vQ n d,Wk z)/\vQ n d≠[]:=by
 induction h with
 | leaf hz=>intro hb;rw[BK];exact⟨fun z hz'=>by rw[aav.mp hz'];exact vE _ (n6 hz).1,ad3 _ _⟩
 | now ht=>
  intro hb;rw[vo];refine⟨fun z hz=>?_,ad3 _ _⟩;rcases aao.mp hz with e | e
  ·rw[e];exact vE _ yD.1
  ·exact ZV ht hb z e
 | one hz _ ih=>
  intro hb;rw[vp (Em hz)];refine⟨fun z hz'=>?_,ad3 _ _⟩;rcases aao.mp hz' with e | e
  ·rw[e];exact vE _ (qM hz).1
  ·exact(ih hb).1 z e
 | two hz _ _ XI XJ=>
  intro hb;rw[vq (oU hz)];refine⟨fun z hz'=>?_,ad3 _ _⟩;rcases aao.mp hz' with e | e
  ·rw[e];exact vE _ (mO hz).1
  ·rcases abP.mp e with e | e
   ·exact(XI hb).1 z e
   ·exact(XJ hb).1 z e
 | LA h0 h5 _ ih=>
  intro hb;rw[vt];refine⟨fun z hz'=>?_,ad3 _ _⟩;rcases aao.mp hz' with e | e
  ·rw[e];exact vE _ qN.1
  ·rcases aao.mp e with e | e
   ·rw[e];exact OG h0 (by lia)
   ·exact(ih hb).1 z e
 | bnd hz hx hy _ ih=>
  intro hb;rw[vA];refine⟨fun z hz'=>?_,ad3 _ _⟩;have ih':=ih (fun v hv=>by
   rcases abP.mp hv with e | e
   ·exact hb v e
   ·rw[aav.mp e];exact hy)
  rcases aao.mp hz' with e | e
  ·rw[e];exact vE _ (j6 hz).1
  ·rcases aao.mp e with e | e
   ·rw[e];exact AS hx
   ·rcases aao.mp e with e | e
    ·rw[e];exact AS hy
    ·exact ih'.1 z e
noncomputable def txt (W:BBB):Str:=Txt.join " " W
theorem JM:∀W:BBB,um (sL W)=some W
 | []=>rfl
 | z :: W=>by show(um (sL W)).map _=_;rw[JM W];rfl
theorem ZW:∀{W:BBB},(∀z∈W,Wk z)->(W.map (·.length)).sum<=8 * W.length
 | [],_=>aap _
 | z :: W,h=>by
  have:=ZW fun q hq=>h q (aaz _ hq);have:=(h z abf).len;simp only[aax,List.sum_cons,aar];lia
def OH {W:BBB}(h:∀z∈W,Wk z) (hl:W.length<=2048):nu [.str " ",.lst (sL W)]=AAA (.str (txt W)):=by
 show((um (sL W)).bind fun zs=>if JoinOk " " zs=true then some (U.t (.str (Txt.join " " zs))) else none)=_;have:=ZW h;rw[JM,aag,if_pos (joinOk_of_weight (by lia) (by decide))];rfl
def AU (fM:FM):GS:=
 (cz (eP nu (aa (eC (.str " ")) (aa (eF (aZ fM (aH (eF (ao 0)) aE))) aq))))
def zD:FM:=aQ 1 (AU (uE 9))
def LF:∀us r,zD us=some r->aQ 1 (AU (uE 9)) us=some r:=fun _ _ h=>h
def Ic {f:FM}{d:D}{W:BBB}(e1:f [.t d]=some (.m (.lst (sL W)),[])) (e2:nu [.str " ",.lst (sL W)]=AAA (.str (txt W))):aQ 1 (AU f) [.t d]=some (.t (.str (txt W)),[]):=by
 simp[aQ,AU,e1,e2,aG]
def OI {d:D}(h:Sy 8 [] d):zD [.t d]=some (.t (.str (txt (vQ 8 d))),[]):=Ic (Ow h (by decide) (by decide)) (OH (T9 h (by simp)).1 (kW h (by decide)))
def i9 (ak:Addr):GS:=
 (aO (Br ak 0 "words" (eF (ao 1)))
 (aO (Br ak 0 "at" (eC (.int 0)))
 (aO (Br ak 0 "sayings" (eC (.int 0)))
 (Br ak 0 "binders" (eC (.int 0))))))
def Ae (C:Addr):FM:=aQ 2 (i9 C)
def OJ (C:Addr):∀us r,Ae C us=some r->aQ 2 (i9 C) us=some r:=fun _ _ h=>h
def Ep {f:Str}{g:GD}{d:D}{kvs:List (Str×D)}(hl:kvs.length < 900) (h:g (some (.b (.ins C kvs)) :: S)=some (d,some (.b (.ins C kvs)) :: S)):Br C 0 f g (some (.b (.ins C kvs)) :: S)=some (.nx (some (.b (.ins C (lI f d kvs))) :: S)):=by
 unfold Br;rw[h,aag];have e:lH C (some (.b (.ins C kvs)) :: S) 0=some kvs:=by
  show(if C=C then some kvs else none)=_;rw[if_pos rfl]
 dsimp only;rw[e,aag,if_pos hl];rfl
def JN (W:BBB):Ae C [.b (.ins C []),.t (.lst (sL W))]=some (.t .cM,[rd C W 0 0 0]):=by
 have s1:=Ep (C:=C) (f:="words") (g:=eF (ao 1)) (S:=[AAA (.lst (sL W))]) (kvs:=[]) (by decide) rfl;have s2:=Ep (C:=C) (f:="at") (g:=eC (.int 0)) (S:=[AAA (.lst (sL W))]) (kvs:=lI "words" (.lst (sL W)) []) (by show 1 < 900;decide) rfl;have s3:=Ep (C:=C) (f:="sayings") (g:=eC (.int 0)) (S:=[AAA (.lst (sL W))]) (kvs:=lI "at" (.int 0) (lI "words" (.lst (sL W)) [])) (by show 2 < 900;decide) rfl;have s4:=Ep (C:=C) (f:="binders") (g:=eC (.int 0)) (S:=[AAA (.lst (sL W))]) (kvs:=lI "sayings" (.int 0) (lI "at" (.int 0) (lI "words" (.lst (sL W)) []))) (by show 3 < 900;decide) rfl;have e:lI "binders" (.int 0) (lI "sayings" (.int 0) (lI "at" (.int 0) (lI "words" (.lst (sL W)) [])))=Ad W 0 0 0:=rfl;rw[e] at s4;show((i9 C) [some (.b (.ins C [])),AAA (.lst (sL W))]).bind _=_;unfold i9;rw[HJ,s1,aag];simp only;rw[HJ,s2,aag];simp only;rw[HJ,s3,aag];simp only;rw[s4];rfl
def mw (lT:FM) (bC:FM) (ak:Addr):GS:=
 (aO (bR 1 (yt ak lT (aH (eF (eP jO (aa (eF (ao 0)) (aa (eC (.str " ")) aq)))) aE)))
 (aO (bR 2 (cK ak "saying_taken" 1 bC (aH (eF (eP cT aq)) (aH (eC (.int 0)) aE))))
 (aO (ji (qB (eF (eP AI (aa (dP ak 1 "at") (aa (eF (eP wA (aa (dP ak 1 "words") aq))) aq))))) Zb cW)
 (cz (ao 2)))))
def Wn {m:Str}{f:FM}{gu:GU}{r:U}{o':MO}{t0 t2:Option U}(hl:(Ad L k s b).lookup m=none) (hg:gu [t0,some (.m (rd C L k s b)),t2]=some (us.map U.t,[t0,some (.m (rd C L k s b)),t2])) (hf:f (.b (rd C L k s b) :: us.map U.t)=some (r,[o'])):
  cK C m 1 f gu [t0,some (.m (rd C L k s b)),t2]=some (r,[t0,some (.m o'),t2]):=by
 unfold cK;have e:lH C [t0,some (.m (rd C L k s b)),t2] 1=some (Ad L k s b):=by
  show(if C=C then some (Ad L k s b) else none)=_;rw[if_pos rfl]
 rw[e,aag,if_pos hl];unfold aZ z5;rw[hg];have q1:slotsOf (U.v 1 :: us.map U.t)=[1]:=by show 1 :: slotsOf (us.map U.t)=_;rw[Lh]
 have q2:bE (U.v 1 :: us.map U.t)=0:=Li us;have q3:bh [t0,some (.m (rd C L k s b)),t2] (.v 1 :: us.map U.t)=some (.b (rd C L k s b) :: us.map U.t):=by
  show(some (U.b (rd C L k s b))).bind (fun w=>(bh _ (us.map U.t)).map fun ws=>w :: ws)=_;rw[z7];rfl
 have q4:wb (.v 1 :: us.map U.t) [o'] [t0,some (.m (rd C L k s b)),t2]=some [t0,some (.m o'),t2]:=HK _ us;simp only[adJ,aag];rw[if_pos ⟨by rw[q1];decide,by rw[q2];decide⟩,q3,aag,hf,aag,q4];rfl
def RW {d:D}(e0:jO [.str z,.str " "]=AAB (sL L)) (e1:f1 [.b (.ins C []),.t (.lst (sL L))]=some (.t .cM,[rd C L 0 0 0])) (e2:f2 [.b (rd C L 0 0 0),.t (.tup []),.t (.int 0)]=some (.t d,[rd C L L.length s b])):
  aQ 3 (mw f1 f2 C) [.t (.str z)]=some (.t d,[]):=by
 have g1:(aH (eF (eP jO (aa (eF (ao 0)) (aa (eC (.str " ")) aq)))) aE) [AAA (.str z),none,none]=some ([.t (.lst (sL L))],[AAA (.str z),none,none]):=by simp[e0]
 have mk:yt C f1 (aH (eF (eP jO (aa (eF (ao 0)) (aa (eC (.str " ")) aq)))) aE) [AAA (.str z),none,none]=some (.m (rd C L 0 0 0),[AAA (.str z),none,none]):=by
  unfold yt;rw[g1,aag];dsimp only;rw[if_pos ⟨rfl,rfl⟩];show(some [U.t (.lst (sL L))]).bind _=_;rw[aag,e1];rfl
 have m1:=Wn (m:="saying_taken") (gu:=aH (eF (eP cT aq)) (aH (eC (.int 0)) aE)) (us:=[.tup [],.int 0]) (t0:=AAA (.str z)) (t2:=none) rfl rfl e2;have f3:dP C 1 "at" [AAA (.str z),some (.m (rd C L L.length s b)),AAA d]=some (.int L.length,[AAA (.str z),some (.m (rd C L L.length s b)),AAA d]):=by
  have e:lH C [AAA (.str z),some (.m (rd C L L.length s b)),AAA d] 1=some (Ad L L.length s b):=by
   show(if C=C then some (Ad L L.length s b) else none)=_;rw[if_pos rfl]
  rw[iV,e];rfl
 have f4:dP C 1 "words" [AAA (.str z),some (.m (rd C L L.length s b)),AAA d]=some (.lst (sL L),[AAA (.str z),some (.m (rd C L L.length s b)),AAA d]):=by
  have e:lH C [AAA (.str z),some (.m (rd C L L.length s b)),AAA d] 1=some (Ad L L.length s b):=by
   show(if C=C then some (Ad L L.length s b) else none)=_;rw[if_pos rfl]
  rw[iV,e];rfl
 have Ox:wA [.lst (sL L)]=AAC (L.length:Int):=by
  show some (U.t (.int ((sL L).length:Nat)))=_;rw[eZ]
 simp[aQ,mw,mk,m1,f3,f4,Ox,aG]
def ZX (C:Addr):FM:=aQ 3 (mw (Ae C) (AR C 9) C)
def Wo (C:Addr):∀us r,ZX C us=some r->aQ 3 (mw (Ae C) (AR C 9) C) us=some r:=fun _ _ h=>h
def gH (bw:FM) (aP:FM):GS:=
 (bR 1 (eP cE (aa (eF (ao 1)) (aa (eF (aZ aP (aH (d8 0 (eF (ao 2))) aE))) aq))))
def b8 (bw:FM) (aP:FM):GS:=
 (aO (bR 1 (eP c8 (aa (d8 0 (eC (.int 0))) aq)))
 (aO (ji (qB (eF (eP pK (aa (d8 0 (eC (.int 0))) (aa (eC (.str "now")) aq))))) (bR 1 (eP cE (aa (eF (ao 1)) (aa (eF (Bf [] (sZ (d8 0 (eC (.int 1)))) kP (eF (eP Bs (aa (eF (ao 0)) aq))))) aq)))) cW)
 (aO (ji (qB (eF (eP pK (aa (d8 0 (eC (.int 0))) (aa (eC (.str "within")) aq))))) (mH (eT (eM 1 hAppend (aa (eF (eP Bs (aa (d8 0 (eC (.int 1))) aq))) aq)))) cW)
 (aO (ji (qB (eF (eP zX (aa (d8 0 (eC (.int 0))) (aa (eF (eP cT (aa (eC (.str "each")) (aa (eC (.str "one")) aq)))) aq))))) (bR 1 (eP cE (aa (eF (ao 1)) (aa (eF (eP c8 (aa (d8 0 (eC (.int 1))) (aa (d8 0 (eC (.int 2))) aq)))) aq)))) cW)
 (aO (uc (bName 2) (sZ (eF (eP Ht (aa (eF (aZ bw (aH (d8 0 (eC (.int 0))) aE))) (aa (eC (.int 1)) aq))))) (gH bw aP))
 (cz (ao 1)))))))
section
variable {f1 f2:FM}{z:Str}{p q lg:D}{wp wq:BBB}
def Wq {a c:BBB}(h:a.length+c.length<=100000):cE [.lst (sL a),.lst (sL c)]=AAB (sL (a++c)):=by
 show(if(sL a).length+(sL c).length<=100000 then some (U.m (.lst (sL a++sL c))) else none)=_;rw[if_pos (by rw[eZ,eZ];exact h),vB]
def lwt (ha:jh ds i=some p) (e2:f2 [.t p]=some (.m (.lst (sL wp)),[])) (hl:ws.length+wp.length<=100000):gH f1 f2 [AAA (.tup ds),AAB (sL ws),AAC i]=some (.nx [AAA (.tup ds),AAB (sL (ws++wp)),AAC i]):=by
 have a:=Wq hl;simp[-fP,gH,ha,e2,a]
def nb (h:bX z=false):zX [.str z,.tup [.str "each",.str "one"]]=AAA (.bl false):=by
 unfold bX HR at h;simp only[aax,abe] at h;show(if cF [D.str "each",D.str "one"]<=40 then some (U.t (.bl (inD (.str z) [.str "each",.str "one"]))) else none)=_;rw[if_pos (show cF [D.str "each",D.str "one"]<=40 from qO ["each","one"]),h]
def yb (h:bX z=true):zX [.str z,.tup [.str "each",.str "one"]]=AAA (.bl true):=by
 unfold bX HR at h;simp only[aax,abe] at h;show(if cF [D.str "each",D.str "one"]<=40 then some (U.t (.bl (inD (.str z) [.str "each",.str "one"]))) else none)=_;rw[if_pos (show cF [D.str "each",D.str "one"]<=40 from qO ["each","one"]),h]
def lp1 (h2:vO x2=false) (ha:jh ds i=some p) (e2:f2 [.t p]=some (.m (.lst (sL wp)),[])) (hl:ws.length+wp.length<=100000):loop (bName 2) (gH f1 f2) [.int i] [AAA (.tup ds),AAB (sL ws),x2]=some (.nx [AAA (.tup ds),AAB (sL (ws++wp)),AAC i]):=by
 have t:=lwt (f1:=f1) ha e2 hl;have eb:bName 2 (.int i) [AAA (.tup ds),AAB (sL ws),x2]=some [AAA (.tup ds),AAB (sL ws),AAC i]:=by simp[-kr,iy,h2]
 show(bName 2 (.int i) _).bind (fun S1=>(gH f1 f2 S1).bind _)=_;rw[eb,aag,t,aag];rfl
def lp2 {j:Int}(h2:vO x2=false) (ha:jh ds i=some p) (hb:jh ds j=some q) (e2:f2 [.t p]=some (.m (.lst (sL wp)),[])) (e3:f2 [.t q]=some (.m (.lst (sL wq)),[])) (hl:ws.length+wp.length+wq.length<=100000):loop (bName 2) (gH f1 f2) [.int i,.int j] [AAA (.tup ds),AAB (sL ws),x2]=some (.nx [AAA (.tup ds),AAB (sL (ws++wp++wq)),AAC j]):=by
 have t:=lwt (f1:=f1) ha e2 (ws:=ws) (by lia);have eb:bName 2 (.int i) [AAA (.tup ds),AAB (sL ws),x2]=some [AAA (.tup ds),AAB (sL ws),AAC i]:=by simp[-kr,iy,h2]
 show(bName 2 (.int i) _).bind (fun S1=>(gH f1 f2 S1).bind _)=_;rw[eb,aag,t,aag];exact lp1 rfl hb e3 (by rw[aaB];lia)
def RX (n1:z≠"now") (n2:z≠"within") (hb:bX z=false) (e1:f1 [.t (.str z)]=some (.t (.tup [lg,.lst []]),[])):aQ 3 (b8 f1 f2) [.t (.tup [.str z])]=some (.m (.lst (sL [z])),[]):=by
 have b:=nb hb;simp[aQ,b8,fQ,gR,n1,n2,b,e1,gG,loop,aG,sL]
def Wr (n1:z≠"now") (n2:z≠"within") (hb:bX z=false) (e1:f1 [.t (.str z)]=some (.t (.tup [lg,.lst [.int 1]]),[])) (e2:f2 [.t p]=some (.m (.lst (sL wp)),[])) (hl:wp.length<=4000):aQ 3 (b8 f1 f2) [.t (.tup [.str z,p])]=some (.m (.lst (sL (z :: wp))),[]):=by
 have b:=nb hb;have l:=lp1 (f1:=f1) (x2:=none) (ds:=[.str z,p]) (i:=1) (ws:=[z]) rfl (gR ..) e2 (by show 1+_<=_;lia);rw[<-sL1] at l;simp[aQ,b8,fQ,gR,n1,n2,b,e1,gG,l,aG]
def Ws (n1:z≠"now") (n2:z≠"within") (hb:bX z=false) (e1:f1 [.t (.str z)]=some (.t (.tup [lg,.lst [.int 1,.int 2]]),[])) (e2:f2 [.t p]=some (.m (.lst (sL wp)),[])) (e3:f2 [.t q]=some (.m (.lst (sL wq)),[])) (hl:wp.length+wq.length<=9000):aQ 3 (b8 f1 f2) [.t (.tup [.str z,p,q])]=some (.m (.lst (sL (z :: (wp++wq)))),[]):=by
 have b:=nb hb;have l:=lp2 (f1:=f1) (x2:=none) (ds:=[.str z,p,q]) (i:=1) (j:=2) (ws:=[z]) rfl (gR ..) (yz ..) e2 e3 (by show 1+_+_<=_;lia);rw[<-sL1] at l;simp[aQ,b8,fQ,gR,n1,n2,b,e1,gG,l,aG]
def Wt {x:Str}(n1:z≠"now") (n2:z≠"within") (hb:bX z=true) (e1:f1 [.t (.str z)]=some (.t (.tup [lg,.lst [.int 3]]),[])) (e2:f2 [.t p]=some (.m (.lst (sL wp)),[])) (hl:wp.length<=4000):aQ 3 (b8 f1 f2) [.t (.tup [.str z,.str x,.str y,p])]=some (.m (.lst (sL (z :: x :: y :: wp))),[]):=by
 have b:=yb hb;have a3:jh [D.str z,.str x,.str y,p] 3=some p:=rfl;have l:=lp1 (f1:=f1) (x2:=none) (ds:=[.str z,.str x,.str y,p]) (i:=3) (ws:=[z,x,y]) rfl a3 e2 (by show 3+_<=_;lia);rw[show sL [z,x,y]=[D.str z,.str x,.str y] from rfl] at l;simp[aQ,b8,fQ,gR,yz,n1,n2,b,e1,gG,l,aG]
def Wu {i0:Int}(h0:0<=i0) (h9:i0<=9) (e1:f1 [.t (.str "within")]=some (.t (.tup [lg,.lst [.int 2]]),[])) (e2:f2 [.t p]=some (.m (.lst (sL wp)),[])) (hl:wp.length<=4000):aQ 3 (b8 f1 f2) [.t (.tup [.str "within",.int i0,p])]=some (.m (.lst (sL ("within" :: tW (.int i0) :: wp))),[]):=by
 have b:=nb (z:="within") (by decide);have n1:¬(("within":Str)="now"):=by decide
 have l:=lp1 (f1:=f1) (x2:=none) (ds:=[.str "within",.int i0,p]) (i:=2) (ws:=["within",tW (.int i0)]) rfl (yz ..) e2 (by show 2+_<=_;lia);rw[show sL ["within",tW (.int i0)]=[D.str "within",.str (toString i0)] from rfl] at l;have e5:=En h0 h9;have e6:tW (.int i0)=(toString i0:Str):=rfl;rw[e6] at l ⊢;generalize (Str.ofString (toString i0))=tk at e5 l ⊢;simp[aQ,b8,fQ,gR,yz,n1,b,e1,gG,e5,hAppend,Vh,yc,l,aG]
def Wv {t:D}(h:Ts bs t) (e1:f1 [.t (.str "now")]=some (.t (.tup [lg,.lst []]),[])):aQ 3 (b8 f1 f2) [.t (.tup [.str "now",t])]=some (.m (.lst (sL ("now" :: GH t))),[]):=by
 have b:=nb (z:="now") (by decide);have n2:¬(("now":Str)="within"):=by decide
 cases h with
 | any=>simp[aQ,b8,fQ,gR,n2,b,e1,gG,jL,fS,slotsOf,bE,bh,wb,kP,aG,rM,GH,tW,sL,loop]
 | name _=>simp[aQ,b8,fQ,gR,n2,b,e1,gG,jL,fS,slotsOf,bE,bh,wb,kP,aG,rM,GH,tW,sL,loop]
 | num _ h0 h9=>simp[aQ,b8,fQ,gR,n2,b,e1,gG,jL,fS,slotsOf,bE,bh,wb,kP,aG,rM,En h0 h9,GH,tW,sL,loop]
 | var _ _=>simp[aQ,b8,fQ,gR,n2,b,e1,gG,jL,fS,slotsOf,bE,bh,wb,kP,aG,rM,GH,tW,sL,loop]
end
def nK:Nat->FM
 | 0=>fun _=>none
 | j+1=>aQ 3 (b8 kU (nK j))
def Ie (j:Nat):∀us r,nK (j+1) us=some r->aQ 3 (b8 kU (nK j)) us=some r:=fun _ _ h=>h
def Er (us:List U):nK 0 us=none:=rfl
def Ww (h:z∈JF):kU [.t (.str z)]=some (.t (.tup [.int 2,.lst [.int 1]]),[]):=by rw[lR];rcases kL h with rfl | rfl | rfl | rfl <;> rfl
def Wx (h:z∈JH):kU [.t (.str z)]=some (.t (.tup [.int 3,.lst [.int 1,.int 2]]),[]):=by rw[lR];rcases qL h with rfl | rfl | rfl <;> rfl
def RY (h:z="yes"\/z="no"):kU [.t (.str z)]=some (.t (.tup [.int 1,.lst []]),[]):=by rw[lR];rcases h with rfl | rfl <;> rfl
def Wy:kU [.t (.str "now")]=some (.t (.tup [.int 2,.lst []]),[]):=by rw[lR];rfl
def Wz:kU [.t (.str "within")]=some (.t (.tup [.int 3,.lst [.int 2]]),[]):=by rw[lR];rfl
def WA (h:z="each"\/z="one"):kU [.t (.str z)]=some (.t (.tup [.int 4,.lst [.int 3]]),[]):=by rw[lR];rcases h with rfl | rfl <;> rfl
def LG {d:D}(h:Sy n bs d):∀{j:Nat},n<=j->n<=8->nK j [.t d]=some (.m (.lst (sL (vQ n d))),[]):=by
 induction h with
 | leaf hz=>
  intro j hj _;obtain⟨i,rfl⟩:∃i,j=i+1:=⟨j - 1,by lia⟩
  obtain⟨a,b,c,d⟩:=n6 hz;exact RX d (by rcases hz with rfl | rfl <;> decide) c (RY hz)
 | now ht=>
  intro j hj _;obtain⟨i,rfl⟩:∃i,j=i+1:=⟨j - 1,by lia⟩
  rw[vo];exact Wv ht Wy
 | @one n bs z p hz hp ih=>
  intro j hj hn;obtain⟨i,rfl⟩:∃i,j=i+1:=⟨j - 1,by lia⟩
  obtain⟨a,b,c,d⟩:=qM hz;have f:=kW hp (by lia);rw[vp d];exact Wr d (by rcases kL hz with rfl | rfl | rfl | rfl <;> decide) c (Ww hz) (ih (by lia) (by lia)) (by lia)
 | @two n bs z p q hz hp hq XI XJ=>
  intro j hj hn;obtain⟨i,rfl⟩:∃i,j=i+1:=⟨j - 1,by lia⟩
  obtain⟨a,b,c,d⟩:=mO hz;have f:=kW hp (by lia);have g:=kW hq (by lia);rw[vq (oU hz)];exact Ws d (oU hz) c (Wx hz) (XI (by lia) (by lia)) (XJ (by lia) (by lia)) (by lia)
 | @LA n bs k p h0 h5 hp ih=>
  intro j hj hn;obtain⟨i,rfl⟩:∃i,j=i+1:=⟨j - 1,by lia⟩
  have f:=kW hp (by lia);rw[vt];exact Wu h0 (by lia) Wz (ih (by lia) (by lia)) (by lia)
 | @bnd n bs z a y p hz ha hy hp ih=>
  intro j hj hn;obtain⟨i,rfl⟩:∃i,j=i+1:=⟨j - 1,by lia⟩
  obtain⟨a1,b,c,d⟩:=j6 hz;have f:=kW hp (by lia);rw[vA];exact Wt d (by rcases hz with rfl | rfl <;> decide) c (WA hz) (ih (by lia) (by lia)) (by lia)
end Sf
end
section
namespace Sx
open PySem PySem.Spec PyProof.Rows L2 Sw Ss Sp Sf
variable {gu:GU}{us:List D}{S:SS}{z:Str}{i x y zz r0 r1 r2:Int}{k' n k1 j:Nat}{r:Rs}{t0 t2 x2 x7 x1 x9:Option U}{ft:BBS}{os:List MO}{fd d7:D}{ps ns:BBD}
section
variable (S:SS)(g:GS)(ge:GE)(gd:GD)(ga gb:GX)(q:GT)(gA:GA)(C:Addr)(ns:BBB)(i:Nat)
@[simp] theorem ZY:N2 g gb S=match g S with | some (.nx S1)=>gb S1 | _=>none:=rfl
@[simp] theorem WB:qd ga g gb S=match ga S with | some r=>some r | none=>(match g S with | some (.nx S1)=>gb S1 | _=>none):=rfl
@[simp] theorem afs:PL q ga gb S=(q S).bind fun p=>if p.1 then ga p.2 else gb p.2:=rfl
@[simp] theorem aft:Rq S=none:=rfl
@[simp] theorem afu:RG gd gb S=(gd S).bind fun p=>gb p.2:=rfl
@[simp] theorem ZZ:zp C ns gA S=(gA S).bind fun p=>if p.1.length=ns.length then some ((C,ns.zip p.1),p.2) else none:=rfl
@[simp] theorem afv:Zb S=none:=rfl
end
variable {C N:Addr}{L:BBB}{k:Nat}{s b:Int}{w:Str}
noncomputable def Ig (C:Addr) (j:Int):XV:=(C,[((Str.ofString "at"),D.int j)])
def rN {m:Str}{f:FX}{r:XV}{o':MO}(hl:(Ad L k s b).lookup m=none) (hg:gu (some (.b (rd C L k s b)) :: S)=some (us.map U.t,some (.b (rd C L k s b)) :: S)) (hf:f (.b (rd C L k s b) :: us.map U.t)=some (r,[o'])):
  dB C m 0 f gu (some (.b (rd C L k s b)) :: S)=some (r,some (.b o') :: S):=by
 unfold dB;rw[mQ,aag,if_pos hl];unfold yy z5;rw[hg];have q1:slotsOf (U.v 0 :: us.map U.t)=[0]:=by show 0 :: slotsOf (us.map U.t)=_;rw[Lh]
 have q2:bE (U.v 0 :: us.map U.t)=0:=Li us;have q3:bh (some (.b (rd C L k s b)) :: S) (.v 0 :: us.map U.t)=some (.b (rd C L k s b) :: us.map U.t):=by
  show(some (U.b (rd C L k s b))).bind (fun w=>(bh _ (us.map U.t)).map fun ws=>w :: ws)=_;rw[z7];rfl
 have q4:wb (.v 0 :: us.map U.t) [o'] (some (.b (rd C L k s b)) :: S)=some (some (.b o') :: S):=HK _ us;simp only[adJ,aag];rw[if_pos ⟨by rw[q1];decide,by rw[q2];decide⟩,q3,aag,hf,aag,q4];rfl
def gP {m:Str}{f:FX}(hg:gu (some (.b (rd C L k s b)) :: S)=some (us.map U.t,some (.b (rd C L k s b)) :: S)) (hf:f (.b (rd C L k s b) :: us.map U.t)=none):
  dB C m 0 f gu (some (.b (rd C L k s b)) :: S)=none:=by
 unfold dB;rw[mQ,aag];split
 ·unfold yy z5;rw[hg];have q3:bh (some (.b (rd C L k s b)) :: S) (.v 0 :: us.map U.t)=some (.b (rd C L k s b) :: us.map U.t):=by
   show(some (U.b (rd C L k s b))).bind (fun w=>(bh _ (us.map U.t)).map fun ws=>w :: ws)=_;rw[z7];rfl
  simp only[adJ,aag];rw[q3,aag,hf];split <;> rfl
 ·rfl
def kh (ak:Addr) (bu:Addr):GX:=
 (PL (qB (eF (eP pK (aa (dP ak 0 "at") (aa (eF (eP wA (aa (dP ak 0 "words") aq))) aq))))) (zp bu ["at"] (aa (dP ak 0 "at") aq)) Rq)
def qP (C N:Addr):FX:=d9 1 (kh C N)
def OL (C N:Addr):∀us r,qP C N us=some r->d9 1 (kh C N) us=some r:=fun _ _ h=>h
def Ih (S:SS):dP C 0 "at" (some (.b (rd C L k s b)) :: S)=some (.int k,some (.b (rd C L k s b)) :: S):=by rw[iV,mQ];rfl
def OM (S:SS):dP C 0 "words" (some (.b (rd C L k s b)) :: S)=some (.lst (sL L),some (.b (rd C L k s b)) :: S):=by rw[iV,mQ];rfl
def Es:wA [.lst (sL L)]=AAC (L.length:Int):=by
 show some (U.t (.int ((sL L).length:Nat)))=_;rw[eZ]
def yF (h:L[k]? =none) (hk:k<=L.length):qP C N [.b (rd C L k s b)]=some (Ig N k,[rd C L k s b]):=by
 have e:k=L.length:=by have:=acH.mp h;lia
 have e5:=Ih (C:=C) (L:=L) (k:=k) (s:=s) (b:=b) [];have e6:=OM (C:=C) (L:=L) (k:=k) (s:=s) (b:=b) [];have Ox:=Es (L:=L);have e1:qy (.int (k:Int)) (.int (L.length:Int))=true:=by rw[e];exact qE _
 simp[-AK,qP,d9,kh,e5,e6,Ox,e1,aG,Ig]
def nM (h:L[k]? =some w):qP C N [.b (rd C L k s b)]=none:=by
 have hk:k < L.length:=(aay.mp h).1;have e5:=Ih (C:=C) (L:=L) (k:=k) (s:=s) (b:=b) [];have e6:=OM (C:=C) (L:=L) (k:=k) (s:=s) (b:=b) [];have Ox:=Es (L:=L);have e1:qy (.int (k:Int)) (.int (L.length:Int))=false:=by
  have:¬((k:Int)=(L.length:Int)):=by lia
  show decide _=false;exact abg this
 simp[-AK,qP,d9,kh,e5,e6,Ox,e1]
def jI (ak:Addr) (bu:Addr):GX:=
 (PL (vM (qB (eF (ao 1)))) (zp bu ["at"] (aa (eF (eP nF (aa (dP ak 0 "at") (aa (eC (.int 1)) aq)))) aq)) Rq)
def fu (C N:Addr):FX:=d9 2 (jI C N)
def LH (C N:Addr):∀us r,fu C N us=some r->d9 2 (jI C N) us=some r:=fun _ _ h=>h
def qQ:fu C N [.b (rd C L (k+1) s b),.t (.bl false)]=some (Ig N k,[rd C L (k+1) s b]):=by
 have e5:=Ih (C:=C) (L:=L) (k:=k+1) (s:=s) (b:=b) [AAA (.bl false)];have e:((k+1:Nat):Int) - 1=k:=by lia
 simp[fu,d9,jI,e5,aG,Ig]
def j7 (o:MO):fu C N [.b o,.t (.bl true)]=none:=by
 simp[fu,d9,jI]
structure Mg (L:BBB) (k:Nat) (P:Str->Prop):Prop where
 le:k<=L.length
 no:∀w,L[k]? =some w->¬P w
def Et (L:BBB):Prop:=L.length<=10000/\∀w∈L,w.length<=20000
def Et.wd (h:Et L) (e:L[k]? =some w):w.length<=20000:=h.2 w (ach e)
def fc (bW:FM) (BN:FM) (bT:FM) (dD:FX) (fL:FX) (ak:Addr):GX:=
 (qd (dB ak "taken" 0 fL aE) (bR 1 (cK ak "taken" 0 bT aE))
 (dB ak "wanted" 0 dD (aH (eF (aZ BN (aH (eF (ao 1)) aE))) aE)))
def GK (C N:Addr):FX:=d9 2 (fc iK nv (mR C) (fu C N) (qP C N) C)
def RZ (C N:Addr):∀us r,GK C N us=some r->d9 2 (fc iK nv (mR C) (fu C N) (qP C N) C) us=some r:=fun _ _ h=>h
def JP (h:z.length<=20000):nv [.t (.str z)]=some (.t (.bl (nameB (.str z))),[]):=by
 show(if z.length<=20000 then some (U.t (.bl (nameB (.str z))),[]) else none)=_;rw[if_pos h]
def Ii (hL:Et L) (h:Mg L k fun w=>nameB (.str w)=true):∃o,GK C N [.b (rd C L k s b)]=some (Ig N k,[o]):=by
 cases e:L[k]? with
 | none=>
  have m1:=rN (m:="taken") (gu:=aE) (us:=[]) (S:=[none]) rfl rfl (yF (C:=C) (N:=N) (s:=s) (b:=b) e h.le);exact⟨_,by simp[GK,d9,fc,m1,aG];rfl⟩
 | some w=>
  have hw:nameB (.str w)=false:=by simpa using h.no w e
  have m0:=gP (m:="taken") (gu:=aE) (us:=[]) (S:=[none]) rfl (nM (C:=C) (N:=N) (s:=s) (b:=b) e);have m1:=nJ (m:="taken") (gu:=aE) (us:=[]) (S:=[none]) rfl rfl (iW (C:=C) (s:=s) (b:=b) e hL.1);have e3:=JP (Et.wd hL e);rw[hw] at e3;have m2:=rN (m:="wanted") (gu:=aH (eF (aZ nv (aH (eF (ao 1)) aE))) aE) (us:=[.bl false]) (S:=[AAA (.str w)]) rfl (by simp[e3]) (qQ (C:=C) (N:=N) (L:=L) (k:=k) (s:=s) (b:=b));exact⟨_,by simp[GK,d9,fc,m0,m1,m2,aG];rfl⟩
def Eu (hL:Et L) (e:L[k]? =some w) (hn:nameB (.str w)=true):GK C N [.b (rd C L k s b)]=none:=by
 have m0:=gP (m:="taken") (gu:=aE) (us:=[]) (S:=[none]) rfl (nM (C:=C) (N:=N) (s:=s) (b:=b) e);have m1:=nJ (m:="taken") (gu:=aE) (us:=[]) (S:=[none]) rfl rfl (iW (C:=C) (s:=s) (b:=b) e hL.1);have e3:=Eo hn;have m2:=gP (m:="wanted") (gu:=aH (eF (aZ nv (aH (eF (ao 1)) aE))) aE) (us:=[.bl true]) (S:=[AAA (.str w)]) (by simp[e3]) (j7 (C:=C) (N:=N) (rd C L (k+1) s b));simp[GK,d9,fc,m0,m1,m2]
def dF (bW:FM) (bT:FM) (dD:FX) (fL:FX) (ak:Addr):GX:=
 (qd (dB ak "taken" 0 fL aE) (bR 1 (cK ak "taken" 0 bT aE))
 (dB ak "wanted" 0 dD (aH (eQ (iI (qB (lP false [("0",0),("1",1),("2",2),("3",3),("4",4),("5",5),("6",6),("7",7),("8",8),("9",9)] (eF (ao 1)))) (qB (eF (eP xO (aa (Aq [("0",0),("1",1),("2",2),("3",3),("4",4),("5",5),("6",6),("7",7),("8",8),("9",9)] (eF (ao 1))) (aa (eC (.int 5)) aq))))))) aE)))
def ON (C N:Addr):FX:=d9 2 (dF iK (mR C) (fu C N) (qP C N) C)
def R5 (C N:Addr):∀us r,ON C N us=some r->d9 2 (dF iK (mR C) (fu C N) (qP C N) C) us=some r:=fun _ _ h=>h
def R6 (w:Str):Prop:=∃i:Int,cG qz w=some i/\i<=5
def WC (hL:Et L) (h:Mg L k R6):∃o,ON C N [.b (rd C L k s b)]=some (Ig N k,[o]):=by
 cases e:L[k]? with
 | none=>
  have m1:=rN (m:="taken") (gu:=aE) (us:=[]) (S:=[none]) rfl rfl (yF (C:=C) (N:=N) (s:=s) (b:=b) e h.le);exact⟨_,by simp[ON,d9,dF,m1,aG];rfl⟩
 | some w=>
  have m0:=gP (m:="taken") (gu:=aE) (us:=[]) (S:=[none]) rfl (nM (C:=C) (N:=N) (s:=s) (b:=b) e);have m1:=nJ (m:="taken") (gu:=aE) (us:=[]) (S:=[none]) rfl rfl (iW (C:=C) (s:=s) (b:=b) e hL.1);have m2:=rN (C:=C) (L:=L) (m:="wanted") (k:=k+1) (s:=s) (b:=b) (gu:=aH (eQ (iI (qB (lP false qz (eF (ao 1)))) (qB (eF (eP xO (aa (Aq qz (eF (ao 1))) (aa (eC (.int 5)) aq))))))) aE) (us:=[.bl false]) (S:=[AAA (.str w)]) rfl (by
   cases q:cG qz w with
   | none=>simp[Sf.kX,q]
   | some i=>
    have:¬i<=5:=fun z=>h.no w e ⟨i,q,z⟩;simp[Sf.kX,Sf.BF,q,this]) (qQ (N:=N))
  unfold qz at m2;exact⟨_,by simp[ON,d9,dF,m0,m1,m2,aG];rfl⟩
def WE (hL:Et L) (e:L[k]? =some w)(q:cG qz w=some i) (h5:i<=5):ON C N [.b (rd C L k s b)]=none:=by
 have m0:=gP (m:="taken") (gu:=aE) (us:=[]) (S:=[none]) rfl (nM (C:=C) (N:=N) (s:=s) (b:=b) e);have m1:=nJ (m:="taken") (gu:=aE) (us:=[]) (S:=[none]) rfl rfl (iW (C:=C) (s:=s) (b:=b) e hL.1);have m2:=gP (C:=C) (L:=L) (m:="wanted") (k:=k+1) (s:=s) (b:=b) (gu:=aH (eQ (iI (qB (lP false qz (eF (ao 1)))) (qB (eF (eP xO (aa (Aq qz (eF (ao 1))) (aa (eC (.int 5)) aq))))))) aE) (us:=[.bl true]) (S:=[AAA (.str w)]) (by simp[Sf.kX,Sf.BF,q,h5]) (j7 (C:=C) (N:=N) _);unfold qz at m2;simp[ON,d9,dF,m0,m1,m2]
variable {C N:Addr}{L:BBB}{k:Nat}{s b:Int}{w:Str}
def Gm {kvs:AAJ}:(cG kvs z).isSome=decide (z∈kvs.map (·.1)):=by
 unfold cG;rw[Option.isSome_map]
 induction kvs with
 | nil=>rfl
 | cons p kvs ih=>
  rw[ack,aax];by_cases h:p.1=z
  ·simp[h]
  ·have h2:¬z=p.1:=fun y=>h y.symm;simp[h,h2,ih]
def JQ (z:Str):jM [.t (.str z)]=some (.t (.bl (decide (z∈gO))),[]):=by
 by_cases h:z∈gO
 ·rw[JK h,acB h]
 ·rw[abg h];have e:=Gm (kvs:=[("yes",1),("no",1),("now",2),("not",2),("both",3),("either",3),("next",2),("till",3),("within",3),("always",2),("some",2),("each",4),("one",4)]) (z:=z);have h2:¬z∈([("yes",1),("no",1),("now",2),("not",2),("both",3),("either",3),("next",2),("till",3),("within",3),("always",2),("some",2),("each",4),("one",4)]:AAJ).map (·.1):=fun y=>h y;rw[abg h2] at e;simp[jM,aQ,zB,Sf.kX,e,aG]
def cP (bW:FM) (yE:FM) (bT:FM) (dD:FX) (fL:FX) (ak:Addr):GX:=
 (qd (dB ak "taken" 0 fL aE) (bR 2 (cK ak "taken" 0 bT aE))
 (N2 (oM (fun i j=>i+j) ak 0 "sayings" (eC (.int 1)))
 (N2 (ji (qB (rG false ["each","one"] (eF (ao 2)))) (oM (fun i j=>i+j) ak 0 "binders" (eC (.int 1))) cW)
 (qd (dB ak "wanted" 0 dD (aH (eQ (iI (qB (eF (aZ yE (aH (eF (ao 2)) aE)))) (qB (eF (eP xO (aa (dP ak 0 "sayings") (aa (eC (.int 16)) aq))))))) aE)) (mH (cK ak "wanted" 0 bW (aH (eQ (iI (qB (eF (aZ yE (aH (eF (ao 2)) aE)))) (qB (eF (eP xO (aa (dP ak 0 "sayings") (aa (eC (.int 16)) aq))))))) aE)))
 (dB ak "wanted" 0 dD (aH (eQ (iI (qB (eF (eP AI (aa (eF (ao 1)) (aa (eC (.int 8)) aq))))) (qB (eF (eP xO (aa (dP ak 0 "binders") (aa (eC (.int 3)) aq))))))) aE))))))
def Ew (C N:Addr):FX:=d9 3 (cP iK jM (mR C) (fu C N) (qP C N) C)
def R7 (C N:Addr):∀us r,Ew C N us=some r->d9 3 (cP iK jM (mR C) (fu C N) (qP C N) C) us=some r:=fun _ _ h=>h
structure Z0 (s b a:Int) (w:Str):Prop where
 hd:w∈gO
 sy:s+1<=16
 ar:a < 8
 bn:b+bI w<=3
section
variable {a:Int}
def OO {X:GX}(hL:Et L) (e:L[k]? =some w):∃b',b'=b+bI w/\
  (qd (dB C "taken" 0 (qP C N) aE) (bR 2 (cK C "taken" 0 (mR C) aE))
   (N2 (oM (fun i j=>i+j) C 0 "sayings" (eC (.int 1)))
   (N2 (ji (qB (rG false ["each","one"] (eF (ao 2)))) (oM (fun i j=>i+j) C 0 "binders" (eC (.int 1))) cW) X))) [some (.b (rd C L k s b)),AAC a,none]=X [some (.b (rd C L (k+1) (s+1) b')),AAC a,AAA (.str w)]:=by
 have m0:=gP (m:="taken") (gu:=aE) (us:=[]) (S:=[AAC a,none]) rfl (nM (C:=C) (N:=N) (s:=s) (b:=b) e);have m1:=nJ (m:="taken") (gu:=aE) (us:=[]) (S:=[AAC a,none]) rfl rfl (iW (C:=C) (s:=s) (b:=b) e hL.1);have m2:oM (fun i j=>i+j) C 0 "sayings" (eC (.int 1)) [some (.b (rd C L (k+1) s b)),AAC a,AAA (.str w)]=some (.nx [some (.b (rd C L (k+1) (s+1) b)),AAC a,AAA (.str w)]):=BL (op:=fun i j=>i+j) (m:=1) ZQ rfl;have m3:oM (fun i j=>i+j) C 0 "binders" (eC (.int 1)) [some (.b (rd C L (k+1) (s+1) b)),AAC a,AAA (.str w)]=some (.nx [some (.b (rd C L (k+1) (s+1) (b+1))),AAC a,AAA (.str w)]):=BL (op:=fun i j=>i+j) (m:=1) ZR rfl;refine⟨_,rfl,?_⟩;cases hb:bX w with
 | false=>
  rw[vR hb,acL];unfold bX HR at hb;simp only[aax,abe] at hb;simp[m0,m1,m2,hb,rG]
 | true=>
  rw[LD hb];unfold bX HR at hb;simp only[aax,abe] at hb;simp[m0,m1,m2,m3,hb,rG]
def OP (hL:Et L) (h:Mg L k (Z0 s b a)):∃o,Ew C N [.b (rd C L k s b),.t (.int a)]=some (Ig N k,[o]):=by
 cases e:L[k]? with
 | none=>
  have m1:=rN (m:="taken") (gu:=aE) (us:=[]) (S:=[AAC a,none]) rfl rfl (yF (C:=C) (N:=N) (s:=s) (b:=b) e h.le);exact⟨_,by simp[Ew,d9,cP,m1,aG];rfl⟩
 | some w=>
  have hn:=h.no w e;obtain⟨b',hb',mid⟩:=OO (C:=C) (N:=N) (s:=s) (b:=b) (a:=a) (X:=qd (dB C "wanted" 0 (fu C N) (aH (eQ (iI (qB (eF (aZ jM (aH (eF (ao 2)) aE)))) (qB (eF (eP xO (aa (dP C 0 "sayings") (aa (eC (.int 16)) aq))))))) aE)) (mH (cK C "wanted" 0 iK (aH (eQ (iI (qB (eF (aZ jM (aH (eF (ao 2)) aE)))) (qB (eF (eP xO (aa (dP C 0 "sayings") (aa (eC (.int 16)) aq))))))) aE)))
 (dB C "wanted" 0 (fu C N) (aH (eQ (iI (qB (eF (eP AI (aa (eF (ao 1)) (aa (eC (.int 8)) aq))))) (qB (eF (eP xO (aa (dP C 0 "binders") (aa (eC (.int 3)) aq))))))) aE))) hL e
  have e3:=JQ w;have fs:dP C 0 "sayings" [some (.b (rd C L (k+1) (s+1) b')),AAC a,AAA (.str w)]=some (.int (s+1),[some (.b (rd C L (k+1) (s+1) b')),AAC a,AAA (.str w)]):=by rw[iV,mQ];rfl
  have fb:dP C 0 "binders" [some (.b (rd C L (k+1) (s+1) b')),AAC a,AAA (.str w)]=some (.int b',[some (.b (rd C L (k+1) (s+1) b')),AAC a,AAA (.str w)]):=by rw[iV,mQ];rfl
  refine⟨rd C L (k+1) (s+1) b',?_⟩;show(cP iK jM (mR C) (fu C N) (qP C N) C [some (.b (rd C L k s b)),AAC a,none]).bind _=_;rw[show cP iK jM (mR C) (fu C N) (qP C N) C [some (.b (rd C L k s b)),AAC a,none]=_ from mid];by_cases c1:w∈gO/\s+1<=16
  ·have m4:=gP (C:=C) (L:=L) (m:="wanted") (f:=fu C N) (k:=k+1) (s:=s+1) (b:=b') (gu:=aH (eQ (iI (qB (eF (aZ jM (aH (eF (ao 2)) aE)))) (qB (eF (eP xO (aa (dP C 0 "sayings") (aa (eC (.int 16)) aq))))))) aE) (us:=[.bl true]) (S:=[AAC a,AAA (.str w)]) (by simp[e3,fs,c1]) (j7 _);have m5:=nJ (C:=C) (L:=L) (m:="wanted") (k:=k+1) (s:=s+1) (b:=b') (gu:=aH (eQ (iI (qB (eF (aZ jM (aH (eF (ao 2)) aE)))) (qB (eF (eP xO (aa (dP C 0 "sayings") (aa (eC (.int 16)) aq))))))) aE) (us:=[.bl true]) (S:=[AAC a,AAA (.str w)]) rfl (by simp[e3,fs,c1]) (mq _);have c2:¬(a < 8/\b'<=3):=fun z=>hn ⟨c1.1,c1.2,z.1,hb'▸z.2⟩;have m6:=rN (C:=C) (L:=L) (m:="wanted") (f:=fu C N) (k:=k+1) (s:=s+1) (b:=b') (gu:=aH (eQ (iI (qB (eF (eP AI (aa (eF (ao 1)) (aa (eC (.int 8)) aq))))) (qB (eF (eP xO (aa (dP C 0 "binders") (aa (eC (.int 3)) aq))))))) aE) (us:=[.bl false]) (S:=[AAC a,AAA (.str w)]) rfl (by
    by_cases c3:a < 8
    ·have c4:¬b'<=3:=fun z=>c2 ⟨c3,z⟩;simp[c3,fb,c4]
    ·simp[c3]) (qQ)
   simp[m4,m5,m6,aG]
  ·have m4:=rN (C:=C) (L:=L) (m:="wanted") (f:=fu C N) (k:=k+1) (s:=s+1) (b:=b') (gu:=aH (eQ (iI (qB (eF (aZ jM (aH (eF (ao 2)) aE)))) (qB (eF (eP xO (aa (dP C 0 "sayings") (aa (eC (.int 16)) aq))))))) aE) (us:=[.bl false]) (S:=[AAC a,AAA (.str w)]) rfl (by
    by_cases c3:w∈gO
    ·have c4:¬s+1<=16:=fun z=>c1 ⟨c3,z⟩;simp[e3,c3,fs,c4]
    ·simp[e3,c3]) (qQ)
   simp[m4,aG]
def WG (hL:Et L) (e:L[k]? =some w) (h:Z0 s b a w):Ew C N [.b (rd C L k s b),.t (.int a)]=none:=by
 obtain⟨b',hb',mid⟩:=OO (C:=C) (N:=N) (s:=s) (b:=b) (a:=a) (X:=qd (dB C "wanted" 0 (fu C N) (aH (eQ (iI (qB (eF (aZ jM (aH (eF (ao 2)) aE)))) (qB (eF (eP xO (aa (dP C 0 "sayings") (aa (eC (.int 16)) aq))))))) aE)) (mH (cK C "wanted" 0 iK (aH (eQ (iI (qB (eF (aZ jM (aH (eF (ao 2)) aE)))) (qB (eF (eP xO (aa (dP C 0 "sayings") (aa (eC (.int 16)) aq))))))) aE)))
 (dB C "wanted" 0 (fu C N) (aH (eQ (iI (qB (eF (eP AI (aa (eF (ao 1)) (aa (eC (.int 8)) aq))))) (qB (eF (eP xO (aa (dP C 0 "binders") (aa (eC (.int 3)) aq))))))) aE))) hL e
 have e3:=JQ w;have c1:=h.hd;have c2:=h.sy;have c3:=h.ar;have c4:b'<=3:=hb'▸h.bn;have fs:dP C 0 "sayings" [some (.b (rd C L (k+1) (s+1) b')),AAC a,AAA (.str w)]=some (.int (s+1),[some (.b (rd C L (k+1) (s+1) b')),AAC a,AAA (.str w)]):=by rw[iV,mQ];rfl
 have fb:dP C 0 "binders" [some (.b (rd C L (k+1) (s+1) b')),AAC a,AAA (.str w)]=some (.int b',[some (.b (rd C L (k+1) (s+1) b')),AAC a,AAA (.str w)]):=by rw[iV,mQ];rfl
 have m4:=gP (C:=C) (L:=L) (m:="wanted") (f:=fu C N) (k:=k+1) (s:=s+1) (b:=b') (gu:=aH (eQ (iI (qB (eF (aZ jM (aH (eF (ao 2)) aE)))) (qB (eF (eP xO (aa (dP C 0 "sayings") (aa (eC (.int 16)) aq))))))) aE) (us:=[.bl true]) (S:=[AAC a,AAA (.str w)]) (by simp[e3,fs,c1,c2]) (j7 _);have m5:=nJ (C:=C) (L:=L) (m:="wanted") (k:=k+1) (s:=s+1) (b:=b') (gu:=aH (eQ (iI (qB (eF (aZ jM (aH (eF (ao 2)) aE)))) (qB (eF (eP xO (aa (dP C 0 "sayings") (aa (eC (.int 16)) aq))))))) aE) (us:=[.bl true]) (S:=[AAC a,AAA (.str w)]) rfl (by simp[e3,fs,c1,c2]) (mq _);have m6:=gP (C:=C) (L:=L) (m:="wanted") (f:=fu C N) (k:=k+1) (s:=s+1) (b:=b') (gu:=aH (eQ (iI (qB (eF (eP AI (aa (eF (ao 1)) (aa (eC (.int 8)) aq))))) (qB (eF (eP xO (aa (dP C 0 "binders") (aa (eC (.int 3)) aq))))))) aE) (us:=[.bl true]) (S:=[AAC a,AAA (.str w)]) (by simp[c3,fb,c4]) (j7 _);show(cP iK jM (mR C) (fu C N) (qP C N) C [some (.b (rd C L k s b)),AAC a,none]).bind _=_;rw[show cP iK jM (mR C) (fu C N) (qP C N) C [some (.b (rd C L k s b)),AAC a,none]=_ from mid];simp[m4,m5,m6]
end
variable {C N:Addr}{L:BBB}{k:Nat}{s b:Int}{w:Str}{bs:BBB}
inductive Rt where
 | ok (t:D) (k:Nat)
 | no (j:Nat)
inductive GL (L bs:BBB) (k:Nat):Rt->Prop
 | none:L[k]? =none->k<=L.length->GL L bs k (.no k)
 | any:L[k]? =some "any"->GL L bs k (.ok (.tup [.str "any"]) (k+1))
 | name {w:Str}:L[k]? =some "name"->L[k+1]? =some w->nameB (.str w)=true->GL L bs k (.ok (.tup [.str "name",.str w]) (k+1+1))
 | Ex:L[k]? =some "name"->Mg L (k+1) (fun w=>nameB (.str w)=true)->GL L bs k (.no (k+1))
 | bad {o:Str}:L[k]? =some o->o≠"any"->o≠"name"->o∉qJ->GL L bs k (.no k)
 | num {o w:Str}{i:Int}:L[k]? =some o->o∈qJ->L[k+1]? =some w->cG qz w=some i->GL L bs k (.ok (.tup [.str o,.int i]) (k+1+1))
 | var {o w:Str}:L[k]? =some o->o∈qJ->L[k+1]? =some w->cG qz w=Option.none->w∈bs->GL L bs k (.ok (.tup [.str o,.str w]) (k+1+1))
 | JR {o:Str}:L[k]? =some o->o∈qJ->Mg L (k+1) (fun w=>(cG qz w).isSome=true\/w∈bs)->GL L bs k (.no (k+1))
def lJ (e:L[k]? =some w):k+1<=L.length:=(aay.mp e).1
def R8 (hk:k<=L.length):∃r,GL L bs k r:=by
 cases e:L[k]? with
 | none=>exact⟨_,.none e hk⟩
 | some o=>
  have l1:=lJ e;by_cases h1:o="any"
  ·subst h1;exact⟨_,.any e⟩
  ·by_cases h2:o="name"
   ·subst h2;cases e2:L[k+1]? with
    | none=>exact⟨_,.Ex e ⟨l1,fun w z=>by rw[e2] at z;cases z⟩⟩
    | some w=>
     by_cases h3:nameB (.str w)=true
     ·exact⟨_,.name e e2 h3⟩
     ·exact⟨_,.Ex e ⟨l1,fun v z=>by rw[e2] at z;cases z;exact h3⟩⟩
   ·by_cases h3:o∈qJ
    ·cases e2:L[k+1]? with
     | none=>exact⟨_,.JR e h3 ⟨l1,fun w z=>by rw[e2] at z;cases z⟩⟩
     | some w=>
      cases e3:cG qz w with
      | some i=>exact⟨_,.num e h3 e2 e3⟩
      | none=>
       by_cases h4:w∈bs
       ·exact⟨_,.var e h3 e2 e3 h4⟩
       ·exact⟨_,.JR e h3 ⟨l1,fun v z=>by rw[e2] at z;cases z;rw[e3];simp[h4]⟩⟩
    ·exact⟨_,.bad e h1 h2 h3⟩
def OQ (z:Str) (bs:BBB):inD (.str z) (bs.map D.str)=decide (z∈bs):=by
 by_cases h:z∈bs
 ·rw[JJ h,acB h]
 ·rw[abg h];cases q:inD (.str z) (bs.map D.str) with
  | false=>rfl
  | true=>
   obtain⟨y,hy,e⟩:=El q;cases e;exact absurd hy h
def Ij (z:Str) (bs:BBB):zX [.str z,.tup (bs.map D.str)]=AAA (.bl (decide (z∈bs))):=by
 show(if cF (bs.map D.str)<=40 then some (U.t (.bl (inD (.str z) (bs.map D.str)))) else none)=_;rw[if_pos (qO bs),OQ]
def R9 (z:Str):zX [.str z,.tup [.str "less",.str "same",.str "more"]]=AAA (.bl (decide (z∈qJ))):=Ij z qJ
def bQ (bW:FM) (bT:FM) (cO:FM) (dD:FX) (fL:FX) (iB:FX) (ak:Addr):GX:=
 (qd (dB ak "taken" 0 fL aE) (bR 2 (cK ak "taken" 0 bT aE))
 (N2 (ji (qB (eF (eP pK (aa (eF (ao 2)) (aa (eC (.str "any")) aq))))) (cz (eP cT (aa (eC (.str "any")) aq))) cW)
 (qd (PL (qB (eF (eP pK (aa (eF (ao 2)) (aa (eC (.str "name")) aq))))) (RG (eC (.str "name")) (dB ak "name_taken" 0 iB aE)) Rq) (ji (qB (eF (eP pK (aa (eF (ao 2)) (aa (eC (.str "name")) aq))))) (cz (eP cT (aa (eC (.str "name")) (aa (eF (cK ak "name_taken" 0 cO aE)) aq)))) cW)
 (qd (dB ak "wanted" 0 dD (aH (eF (eP zX (aa (eF (ao 2)) (aa (eF (eP cT (aa (eC (.str "less")) (aa (eC (.str "same")) (aa (eC (.str "more")) aq))))) aq)))) aE)) (mH (cK ak "wanted" 0 bW (aH (eF (eP zX (aa (eF (ao 2)) (aa (eF (eP cT (aa (eC (.str "less")) (aa (eC (.str "same")) (aa (eC (.str "more")) aq))))) aq)))) aE)))
 (qd (dB ak "taken" 0 fL aE) (bR 3 (cK ak "taken" 0 bT aE))
 (dB ak "wanted" 0 dD (aH (eQ (Fj (qB (lP false [("0",0),("1",1),("2",2),("3",3),("4",4),("5",5),("6",6),("7",7),("8",8),("9",9)] (eF (ao 3)))) (qB (eF (eP zX (aa (eF (ao 3)) (aa (eF (ao 1)) aq))))))) aE)))))))
def Gn (C N:Addr):FX:=d9 4 (bQ iK (mR C) (GJ C) (fu C N) (qP C N) (GK C N) C)
def Se (C N:Addr):∀us r,Gn C N us=some r->d9 4 (bQ iK (mR C) (GJ C) (fu C N) (qP C N) (GK C N) C) us=some r:=fun _ _ h=>h
theorem JV (hL:Et L){r:Rt}(h:GL L bs k r):match r with
  | .ok t k'=>Gn C N [.b (rd C L k s b),.t (.tup (bs.map D.str))]=none/\Mf C [.b (rd C L k s b),.t (.tup (bs.map D.str))]=some (.t t,[rd C L k' s b])
  | .no j=>∃o,Gn C N [.b (rd C L k s b),.t (.tup (bs.map D.str))]=some (Ig N j,[o]):=by
 have tk:∀{w:Str},L[k]? =some w->dB C "taken" 0 (qP C N) aE [some (.b (rd C L k s b)),AAA (.tup (bs.map D.str)),none,none]=none/\cK C "taken" 0 (mR C) aE [some (.b (rd C L k s b)),AAA (.tup (bs.map D.str)),none,none]=some (.t (.str w),[some (.b (rd C L (k+1) s b)),AAA (.tup (bs.map D.str)),none,none]):=fun e=>
  ⟨gP (m:="taken") (gu:=aE) (us:=[]) rfl (nM e),nJ (m:="taken") (gu:=aE) (us:=[]) rfl rfl (iW e hL.1)⟩
 have wn:∀(o:Str) (x:Option U),L[k]? =some o->(aH (eF (eP zX (aa (eF (ao 2)) (aa (eF (eP cT (aa (eC (.str "less")) (aa (eC (.str "same")) (aa (eC (.str "more")) aq))))) aq)))) aE) [some (.b (rd C L (k+1) s b)),AAA (.tup (bs.map D.str)),AAA (.str o),none]=some ([D.bl (decide (o∈qJ))].map U.t,[some (.b (rd C L (k+1) s b)),AAA (.tup (bs.map D.str)),AAA (.str o),none]):=fun o x e=>by
  have f:=R9 o;simp[f]
 have w2:∀(o w:Str),(aH (eQ (Fj (qB (lP false qz (eF (ao 3)))) (qB (eF (eP zX (aa (eF (ao 3)) (aa (eF (ao 1)) aq))))))) aE) [some (.b (rd C L (k+1+1) s b)),AAA (.tup (bs.map D.str)),AAA (.str o),AAA (.str w)]=some ([D.bl ((cG qz w).isSome || decide (w∈bs))].map U.t,[some (.b (rd C L (k+1+1) s b)),AAA (.tup (bs.map D.str)),AAA (.str o),AAA (.str w)]):=fun o w=>by
  have f:=Ij w bs;cases q:cG qz w with
  | none=>simp[Sf.kX,q,f]
  | some i=>simp[Sf.kX,q]
 unfold qz at w2;cases h with
 | none e hk=>
  have m1:=rN (m:="taken") (gu:=aE) (us:=[]) (S:=[AAA (.tup (bs.map D.str)),none,none]) rfl rfl (yF (C:=C) (N:=N) (s:=s) (b:=b) e hk);exact⟨_,by simp[Gn,d9,bQ,m1,aG];rfl⟩
 | any e=>
  obtain⟨m0,m1⟩:=tk e;exact⟨by simp[Gn,d9,bQ,m0,m1],Wf (iW e hL.1)⟩
 | @name w e e2 hn=>
  obtain⟨m0,m1⟩:=tk e;have m2:=gP (m:="name_taken") (gu:=aE) (us:=[]) (S:=[AAA (.tup (bs.map D.str)),AAA (.str "name"),none]) rfl (Eu (C:=C) (N:=N) (s:=s) (b:=b) hL e2 hn);have m3:=nJ (m:="name_taken") (gu:=aE) (us:=[]) (S:=[AAA (.tup (bs.map D.str)),AAA (.str "name"),none]) rfl rfl (Gk (C:=C) (s:=s) (b:=b) e2 hL.1 hn);have ne:¬(("name":Str)="any"):=by decide
  exact⟨by simp[Gn,d9,bQ,m0,m1,m2,m3,ne],RU (iW e hL.1) (Gk e2 hL.1 hn)⟩
 | Ex e hn=>
  obtain⟨m0,m1⟩:=tk e;obtain⟨o,x⟩:=Ii (C:=C) (N:=N) (s:=s) (b:=b) hL hn;have m2:=rN (m:="name_taken") (gu:=aE) (us:=[]) (S:=[AAA (.tup (bs.map D.str)),AAA (.str "name"),none]) rfl rfl x;have ne:¬(("name":Str)="any"):=by decide
  exact⟨o,by simp[Gn,d9,bQ,m0,m1,m2,ne,aG]⟩
 | @bad o e n1 n2 n3=>
  obtain⟨m0,m1⟩:=tk e;have g:=wn o none e;rw[abg n3] at g;have m2:=rN (m:="wanted") (f:=fu C N) (us:=[.bl false]) rfl g qQ;exact⟨_,by simp[Gn,d9,bQ,m0,m1,m2,n1,n2,aG];rfl⟩
 | @num o w i e ho e2 hi=>
  obtain⟨m0,m1⟩:=tk e;obtain⟨n2,n1⟩:=uD ho;have g:=wn o none e;rw[acB ho] at g;have m2:=gP (m:="wanted") (f:=fu C N) (us:=[.bl true]) g (j7 _);have m3:=nJ (m:="wanted") (us:=[.bl true]) rfl g (mq _);have m4:=gP (m:="taken") (gu:=aE) (us:=[]) (S:=[AAA (.tup (bs.map D.str)),AAA (.str o),none]) rfl (nM (C:=C) (N:=N) (s:=s) (b:=b) e2);have m5:=nJ (m:="taken") (gu:=aE) (us:=[]) (S:=[AAA (.tup (bs.map D.str)),AAA (.str o),none]) rfl rfl (iW (C:=C) (s:=s) (b:=b) e2 hL.1);have g2:=w2 o w;unfold qz at hi;rw[hi] at g2;have m6:=gP (m:="wanted") (f:=fu C N) (us:=[.bl true]) g2 (j7 _);exact⟨by simp[Gn,d9,bQ,m0,m1,m2,m3,m4,m5,m6,n1,n2],OC ho (iW e hL.1) (iW e2 hL.1) mq (.inl (by unfold qz;rw[hi];rfl)) (by unfold qz;rw[hi])⟩
 | @var o w e ho e2 hi hw=>
  obtain⟨m0,m1⟩:=tk e;obtain⟨n2,n1⟩:=uD ho;have g:=wn o none e;rw[acB ho] at g;have m2:=gP (m:="wanted") (f:=fu C N) (us:=[.bl true]) g (j7 _);have m3:=nJ (m:="wanted") (us:=[.bl true]) rfl g (mq _);have m4:=gP (m:="taken") (gu:=aE) (us:=[]) (S:=[AAA (.tup (bs.map D.str)),AAA (.str o),none]) rfl (nM (C:=C) (N:=N) (s:=s) (b:=b) e2);have m5:=nJ (m:="taken") (gu:=aE) (us:=[]) (S:=[AAA (.tup (bs.map D.str)),AAA (.str o),none]) rfl rfl (iW (C:=C) (s:=s) (b:=b) e2 hL.1);have g2:=w2 o w;have f:=Ij w bs;rw[acB hw] at g2 f;rw[Bool.or_true] at g2;have m6:=gP (m:="wanted") (f:=fu C N) (us:=[.bl true]) g2 (j7 _);exact⟨by simp[Gn,d9,bQ,m0,m1,m2,m3,m4,m5,m6,n1,n2],OC ho (iW e hL.1) (iW e2 hL.1) mq (.inr ⟨hi,f⟩) (by rw[hi])⟩
 | @JR o e ho hn=>
  obtain⟨m0,m1⟩:=tk e;obtain⟨n2,n1⟩:=uD ho;have g:=wn o none e;rw[acB ho] at g;have m2:=gP (m:="wanted") (f:=fu C N) (us:=[.bl true]) g (j7 _);have m3:=nJ (m:="wanted") (us:=[.bl true]) rfl g (mq _);cases e2:L[k+1]? with
  | none=>
   have m4:=rN (m:="taken") (gu:=aE) (us:=[]) (S:=[AAA (.tup (bs.map D.str)),AAA (.str o),none]) rfl rfl (yF (C:=C) (N:=N) (s:=s) (b:=b) e2 hn.le);exact⟨_,by simp[Gn,d9,bQ,m0,m1,m2,m3,m4,n1,n2,aG];rfl⟩
  | some w=>
   have m4:=gP (m:="taken") (gu:=aE) (us:=[]) (S:=[AAA (.tup (bs.map D.str)),AAA (.str o),none]) rfl (nM (C:=C) (N:=N) (s:=s) (b:=b) e2);have m5:=nJ (m:="taken") (gu:=aE) (us:=[]) (S:=[AAA (.tup (bs.map D.str)),AAA (.str o),none]) rfl rfl (iW (C:=C) (s:=s) (b:=b) e2 hL.1);have q:=hn.no w e2;have g2:=w2 o w;have q1:(cG qz w).isSome=false:=by
    cases z:(cG qz w).isSome with
    | false=>rfl
    | true=>exact absurd (.inl z) q
   have q2:¬w∈bs:=fun z=>q (.inr z);unfold qz at q1;rw[q1,abg q2] at g2;have m6:=rN (m:="wanted") (f:=fu C N) (us:=[.bl false]) rfl g2 qQ;exact⟨_,by simp[Gn,d9,bQ,m0,m1,m2,m3,m4,m5,m6,n1,n2,aG];rfl⟩
variable {C N:Addr}{L:BBB}{k:Nat}{s b:Int}{w:Str}{bs:BBB}
def bJ (cO:FM) (jr:FM) (kE:FM) (kD:FM) (iB:FX) (uH:FX) (wR:FX) (wU:FX) (ak:Addr):GX:=
 (qd (dB ak "head_taken" 0 wU (aH (eF (ao 2)) aE)) (bR 3 (cK ak "head_taken" 0 kD (aH (eF (ao 2)) aE)))
 (qd (PL (qB (eF (eP pK (aa (eF (ao 3)) (aa (eC (.str "now")) aq))))) (RG (eF (ao 3)) (dB ak "test_taken" 0 wR (aH (eF (ao 1)) aE))) Rq) (ji (qB (eF (eP pK (aa (eF (ao 3)) (aa (eC (.str "now")) aq))))) (cz (eP cT (aa (eF (ao 3)) (aa (eF (cK ak "test_taken" 0 kE (aH (eF (ao 1)) aE))) aq)))) cW)
 (qd (PL (qB (eF (eP pK (aa (eF (ao 3)) (aa (eC (.str "within")) aq))))) (RG (eF (ao 3)) (dB ak "within_taken" 0 uH aE)) Rq) (ji (qB (eF (eP pK (aa (eF (ao 3)) (aa (eC (.str "within")) aq))))) (cz (eP cT (aa (eF (ao 3)) (aa (eF (cK ak "within_taken" 0 jr aE)) aq)))) cW)
 (PL (qB (rG false ["each","one"] (eF (ao 3)))) (qd (dB ak "name_taken" 0 iB aE) (bR 4 (cK ak "name_taken" 0 cO aE))
 (RG (eF (ao 3)) (RG (eF (ao 4)) (dB ak "name_taken" 0 iB aE)))) Rq))))
def uI (C N:Addr):FX:=d9 5 (bJ (GJ C) (LC C) (Mf C) (EV C) (GK C N) (ON C N) (Gn C N) (Ew C N) C)
def Sg (C N:Addr):∀us r,uI C N us=some r->d9 5 (bJ (GJ C) (LC C) (Mf C) (EV C) (GK C N) (ON C N) (Gn C N) (Ew C N) C) us=some r:=fun _ _ h=>h
section
variable {bd:D}{a:Int}{r:XV}{o:MO}{s' b':Int}
def Ua (x:Ew C N [.b (rd C L k s b),.t (.int a)]=some (r,[o])):uI C N [.b (rd C L k s b),.t bd,.t (.int a)]=some (r,[o]):=by
 have m1:=rN (m:="head_taken") (gu:=aH (eF (ao 2)) aE) (us:=[.int a]) (S:=[AAA bd,AAC a,none,none]) rfl rfl x;simp[uI,d9,bJ,m1,aG]
def uJ (x:Ew C N [.b (rd C L k s b),.t (.int a)]=none) (e:EV C [.b (rd C L k s b),.t (.int a)]=some (.t (.str w),[rd C L (k+1) s' b'])):
  dB C "head_taken" 0 (Ew C N) (aH (eF (ao 2)) aE) [some (.b (rd C L k s b)),AAA bd,AAC a,none,none]=none/\cK C "head_taken" 0 (EV C) (aH (eF (ao 2)) aE) [some (.b (rd C L k s b)),AAA bd,AAC a,none,none]=some (.t (.str w),[some (.b (rd C L (k+1) s' b')),AAA bd,AAC a,none,none]):=
 ⟨gP (m:="head_taken") (gu:=aH (eF (ao 2)) aE) (us:=[.int a]) rfl x,nJ (m:="head_taken") (gu:=aH (eF (ao 2)) aE) (us:=[.int a]) rfl rfl e⟩
def LI (x:Ew C N [.b (rd C L k s b),.t (.int a)]=none) (e:EV C [.b (rd C L k s b),.t (.int a)]=some (.t (.str "now"),[rd C L (k+1) s' b'])) (y:Gn C N [.b (rd C L (k+1) s' b'),.t bd]=some (r,[o])):uI C N [.b (rd C L k s b),.t bd,.t (.int a)]=some (r,[o]):=by
 obtain⟨m0,m1⟩:=uJ (bd:=bd) x e;have m2:=rN (m:="test_taken") (gu:=aH (eF (ao 1)) aE) (us:=[bd]) (S:=[AAA bd,AAC a,AAA (.str "now"),none]) rfl rfl y;simp[uI,d9,bJ,m0,m1,m2,aG]
def Sh {t:D}(x:Ew C N [.b (rd C L k s b),.t (.int a)]=none) (e:EV C [.b (rd C L k s b),.t (.int a)]=some (.t (.str "now"),[rd C L (k+1) s' b'])) (y:Gn C N [.b (rd C L (k+1) s' b'),.t bd]=none) (z:Mf C [.b (rd C L (k+1) s' b'),.t bd]=some (.t t,[rd C L k' s' b'])):uI C N [.b (rd C L k s b),.t bd,.t (.int a)]=none:=by
 obtain⟨m0,m1⟩:=uJ (bd:=bd) x e;have m2:=gP (m:="test_taken") (gu:=aH (eF (ao 1)) aE) (us:=[bd]) (S:=[AAA bd,AAC a,AAA (.str "now"),none]) rfl y;have m3:=nJ (m:="test_taken") (gu:=aH (eF (ao 1)) aE) (us:=[bd]) (S:=[AAA bd,AAC a,AAA (.str "now"),none]) rfl rfl z;simp[uI,d9,bJ,m0,m1,m2,m3]
def LJ (x:Ew C N [.b (rd C L k s b),.t (.int a)]=none) (e:EV C [.b (rd C L k s b),.t (.int a)]=some (.t (.str "within"),[rd C L (k+1) s' b'])) (y:ON C N [.b (rd C L (k+1) s' b')]=some (r,[o])):uI C N [.b (rd C L k s b),.t bd,.t (.int a)]=some (r,[o]):=by
 obtain⟨m0,m1⟩:=uJ (bd:=bd) x e;have m2:=rN (m:="within_taken") (gu:=aE) (us:=[]) (S:=[AAA bd,AAC a,AAA (.str "within"),none]) rfl rfl y;have ne:¬(("within":Str)="now"):=by decide
 simp[uI,d9,bJ,m0,m1,m2,ne,aG]
def JX (x:Ew C N [.b (rd C L k s b),.t (.int a)]=none) (e:EV C [.b (rd C L k s b),.t (.int a)]=some (.t (.str "within"),[rd C L (k+1) s' b'])) (y:ON C N [.b (rd C L (k+1) s' b')]=none) (z:LC C [.b (rd C L (k+1) s' b')]=some (.t (.int i),[rd C L (k+1+1) s' b'])):uI C N [.b (rd C L k s b),.t bd,.t (.int a)]=none:=by
 obtain⟨m0,m1⟩:=uJ (bd:=bd) x e;have m2:=gP (m:="within_taken") (gu:=aE) (us:=[]) (S:=[AAA bd,AAC a,AAA (.str "within"),none]) rfl y;have m3:=nJ (m:="within_taken") (gu:=aE) (us:=[]) (S:=[AAA bd,AAC a,AAA (.str "within"),none]) rfl rfl z;have ne:¬(("within":Str)="now"):=by decide
 simp[uI,d9,bJ,m0,m1,m2,m3,ne]
def Ik (hw:bX w=true) (n1:w≠"now") (n2:w≠"within") (x:Ew C N [.b (rd C L k s b),.t (.int a)]=none) (e:EV C [.b (rd C L k s b),.t (.int a)]=some (.t (.str w),[rd C L (k+1) s' b'])) (y:GK C N [.b (rd C L (k+1) s' b')]=some (r,[o])):uI C N [.b (rd C L k s b),.t bd,.t (.int a)]=some (r,[o]):=by
 obtain⟨m0,m1⟩:=uJ (bd:=bd) x e;have m2:=rN (m:="name_taken") (gu:=aE) (us:=[]) (S:=[AAA bd,AAC a,AAA (.str w),none]) rfl rfl y;unfold bX HR at hw;simp only[aax,abe] at hw;simp[uI,d9,bJ,m0,m1,m2,n1,n2,hw,rG,aG]
def Il {v:Str}(hw:bX w=true) (n1:w≠"now") (n2:w≠"within") (x:Ew C N [.b (rd C L k s b),.t (.int a)]=none) (e:EV C [.b (rd C L k s b),.t (.int a)]=some (.t (.str w),[rd C L (k+1) s' b'])) (y:GK C N [.b (rd C L (k+1) s' b')]=none) (z:GJ C [.b (rd C L (k+1) s' b')]=some (.t (.str v),[rd C L (k+1+1) s' b'])) (y2:GK C N [.b (rd C L (k+1+1) s' b')]=some (r,[o])):uI C N [.b (rd C L k s b),.t bd,.t (.int a)]=some (r,[o]):=by
 obtain⟨m0,m1⟩:=uJ (bd:=bd) x e;have m2:=gP (m:="name_taken") (gu:=aE) (us:=[]) (S:=[AAA bd,AAC a,AAA (.str w),none]) rfl y;have m3:=nJ (m:="name_taken") (gu:=aE) (us:=[]) (S:=[AAA bd,AAC a,AAA (.str w),none]) rfl rfl z;have m4:=rN (m:="name_taken") (gu:=aE) (us:=[]) (S:=[AAA bd,AAC a,AAA (.str w),AAA (.str v)]) rfl rfl y2;unfold bX HR at hw;simp only[aax,abe] at hw;simp[uI,d9,bJ,m0,m1,m2,m3,m4,n1,n2,hw,rG,aG]
def Si {v:Str}(hw:bX w=true) (n1:w≠"now") (n2:w≠"within") (x:Ew C N [.b (rd C L k s b),.t (.int a)]=none) (e:EV C [.b (rd C L k s b),.t (.int a)]=some (.t (.str w),[rd C L (k+1) s' b'])) (y:GK C N [.b (rd C L (k+1) s' b')]=none) (z:GJ C [.b (rd C L (k+1) s' b')]=some (.t (.str v),[rd C L (k+1+1) s' b'])) (y2:GK C N [.b (rd C L (k+1+1) s' b')]=none):uI C N [.b (rd C L k s b),.t bd,.t (.int a)]=none:=by
 obtain⟨m0,m1⟩:=uJ (bd:=bd) x e;have m2:=gP (m:="name_taken") (gu:=aE) (us:=[]) (S:=[AAA bd,AAC a,AAA (.str w),none]) rfl y;have m3:=nJ (m:="name_taken") (gu:=aE) (us:=[]) (S:=[AAA bd,AAC a,AAA (.str w),none]) rfl rfl z;have m4:=gP (m:="name_taken") (gu:=aE) (us:=[]) (S:=[AAA bd,AAC a,AAA (.str w),AAA (.str v)]) rfl y2;unfold bX HR at hw;simp only[aax,abe] at hw;simp[uI,d9,bJ,m0,m1,m2,m3,m4,n1,n2,hw,rG]
def vF (hw:bX w=false) (n1:w≠"now") (n2:w≠"within") (x:Ew C N [.b (rd C L k s b),.t (.int a)]=none) (e:EV C [.b (rd C L k s b),.t (.int a)]=some (.t (.str w),[rd C L (k+1) s' b'])):uI C N [.b (rd C L k s b),.t bd,.t (.int a)]=none:=by
 obtain⟨m0,m1⟩:=uJ (bd:=bd) x e;unfold bX HR at hw;simp only[aax,abe] at hw;simp[uI,d9,bJ,m0,m1,n1,n2,hw,rG]
end
def iC (eB:FM) (bC:FM) (ez:FM) (cy:FM) (cQ:FX) (fC:FX) (ak:Addr):GS:=
 (bR 3 (eP cE (aa (eF (ao 3)) (aa (eF (eP cT (aa (eF (cK ak "saying_taken" 0 bC (aH (eF (ao 4)) (aH (eF (eP cE (aa (eF (ao 2)) (aa (eC (.int 1)) aq)))) aE)))) aq))) aq))))
def cU (eB:FM) (bC:FM) (ez:FM) (cy:FM) (cQ:FX) (fC:FX) (ak:Addr):GX:=
 (RG (eF (ao 3)) (dB ak "saying_taken" 0 cQ (aH (eF (ao 4)) (aH (eF (eP cE (aa (eF (ao 2)) (aa (eC (.int 1)) aq)))) aE))))
def dG (eB:FM) (bC:FM) (ez:FM) (cy:FM) (cQ:FX) (fC:FX) (ak:Addr):GX:=
 (qd (dB ak "begin_taken" 0 fC (aH (eF (ao 1)) (aH (eF (ao 2)) aE))) (bR 3 (cK ak "begin_taken" 0 cy (aH (eF (ao 1)) (aH (eF (ao 2)) aE))))
 (N2 (bR 4 (aZ ez (aH (eF (ao 3)) (aH (eF (ao 1)) aE))))
 (N5 (bName 5) (ya (aa (eF (aZ eB (aH (d8 3 (eC (.int 0))) aE))) aq)) (cU eB bC ez cy cQ fC ak) (iC eB bC ez cy cQ fC ak))))
def wV (C N:Addr):Nat->FX
 | 0=>fun _=>none
 | j+1=>d9 6 (dG Au (AR C j) fy (Dl C) (wV C N j) (uI C N) C)
def Sj (C N:Addr) (j:Nat):∀us r,wV C N (j+1) us=some r->d9 6 (dG Au (AR C j) fy (Dl C) (wV C N j) (uI C N) C) us=some r:=fun _ _ h=>h
def OR (C N:Addr) (us:List U):wV C N 0 us=none:=rfl
section
variable {bd ib:D}{a:Int}{z:Str}{r:List D}{x:XV}{o:MO}{k1 k2 k3:Nat}{s1 b1 s2 b2 s3 b3:Int}{p q:D}{j:Nat}
def Dn (h:uI C N [.b (rd C L k s b),.t bd,.t (.int a)]=some (x,[o])):wV C N (j+1) [.b (rd C L k s b),.t bd,.t (.int a)]=some (x,[o]):=by
 have m1:=rN (m:="begin_taken") (gu:=aH (eF (ao 1)) (aH (eF (ao 2)) aE)) (us:=[bd,.int a]) (S:=[AAA bd,AAC a,none,none,none]) rfl rfl h;simp[wV,d9,dG,m1,aG]
def BO {n:Int}(h0:0<=n) (h1:n < 1000000) (h:uI C N [.b (rd C L k s b),.t bd,.t (.int a)]=none) (e1:Dl C [.b (rd C L k s b),.t bd,.t (.int a)]=some (.t (.tup (.str z :: r)),[rd C L k1 s1 b1])) (e2:fy [.t (.tup (.str z :: r)),.t bd]=some (.t ib,[])) (e3:Au [.t (.str z)]=some (.t (.int n),[])):
  wV C N (j+1) [.b (rd C L k s b),.t bd,.t (.int a)]=(Aa (bName 5) (cU Au (AR C j) fy (Dl C) (wV C N j) (uI C N) C) (iC Au (AR C j) fy (Dl C) (wV C N j) (uI C N) C) (B6 0 n.toNat) [some (.b (rd C L k1 s1 b1)),AAA bd,AAC a,AAA (.tup (.str z :: r)),AAA ib,none]).bind fun o=>(aG [.b (rd C L k s b),.t bd,.t (.int a)] o.2).map fun os=>(o.1,os):=by
 have m0:=gP (m:="begin_taken") (gu:=aH (eF (ao 1)) (aH (eF (ao 2)) aE)) (us:=[bd,.int a]) (S:=[AAA bd,AAC a,none,none,none]) rfl h;have m1:=nJ (m:="begin_taken") (gu:=aH (eF (ao 1)) (aH (eF (ao 2)) aE)) (us:=[bd,.int a]) (S:=[AAA bd,AAC a,none,none,none]) rfl rfl e1;have g:=rg (n:=n) (S:=[some (.b (rd C L k1 s1 b1)),AAA bd,AAC a,AAA (.tup (.str z :: r)),AAA ib,none]) h0 h1 e3 rfl;show(dG Au (AR C j) fy (Dl C) (wV C N j) (uI C N) C [some (.b (rd C L k s b)),AAA bd,AAC a,none,none,none]).bind _=_
 congr 1
 unfold dG;rw[WB,m0];have q1:bR 3 (cK C "begin_taken" 0 (Dl C) (aH (eF (ao 1)) (aH (eF (ao 2)) aE))) [some (.b (rd C L k s b)),AAA bd,AAC a,none,none,none]=some (.nx [some (.b (rd C L k1 s1 b1)),AAA bd,AAC a,AAA (.tup (.str z :: r)),none,none]):=by simp[m1]
 have q2:bR 4 (aZ fy (aH (eF (ao 3)) (aH (eF (ao 1)) aE))) [some (.b (rd C L k1 s1 b1)),AAA bd,AAC a,AAA (.tup (.str z :: r)),none,none]=some (.nx [some (.b (rd C L k1 s1 b1)),AAA bd,AAC a,AAA (.tup (.str z :: r)),AAA ib,none]):=by simp[e2]
 simp only[q1];rw[ZY,q2];show N5 _ _ _ _ _=_;unfold N5;rw[g,aag]
def Z1 (h:wV C N j [.b (rd C L k s b),.t ib,.t (.int (a+1))]=some (x,[o])):cU Au (AR C j) fy (Dl C) (wV C N j) (uI C N) C [some (.b (rd C L k s b)),AAA bd,AAC a,AAA (.tup (.str z :: r)),AAA ib,AAC i]=some (x,[some (.b o),AAA bd,AAC a,AAA (.tup (.str z :: r)),AAA ib,AAC i]):=by
 have m1:=rN (m:="saying_taken") (gu:=aH (eF (ao 4)) (aH (eF (eP cE (aa (eF (ao 2)) (aa (eC (.int 1)) aq)))) aE)) (us:=[ib,.int (a+1)]) (S:=[AAA bd,AAC a,AAA (.tup (.str z :: r)),AAA ib,AAC i]) rfl (by simp) h;simp[cU,m1]
def Sk (h:wV C N j [.b (rd C L k s b),.t ib,.t (.int (a+1))]=none):cU Au (AR C j) fy (Dl C) (wV C N j) (uI C N) C [some (.b (rd C L k s b)),AAA bd,AAC a,AAA (.tup (.str z :: r)),AAA ib,AAC i]=none:=by
 have m1:=gP (m:="saying_taken") (gu:=aH (eF (ao 4)) (aH (eF (eP cE (aa (eF (ao 2)) (aa (eC (.int 1)) aq)))) aE)) (us:=[ib,.int (a+1)]) (S:=[AAA bd,AAC a,AAA (.tup (.str z :: r)),AAA ib,AAC i]) (by simp) h;simp[cU,m1]
def Sl (hr:r.length<=1000) (h:AR C j [.b (rd C L k s b),.t ib,.t (.int (a+1))]=some (.t p,[rd C L k1 s1 b1])):iC Au (AR C j) fy (Dl C) (wV C N j) (uI C N) C [some (.b (rd C L k s b)),AAA bd,AAC a,AAA (.tup (.str z :: r)),AAA ib,AAC i]=some (.nx [some (.b (rd C L k1 s1 b1)),AAA bd,AAC a,AAA (.tup (.str z :: (r++[p]))),AAA ib,AAC i]):=
 AQ (f1:=Dl C) (f2:=fy) (f3:=Au) (f4:=AR C j) hr h
def WH {y5:Option U}{s0 s1 s2 s3 s4:Option U}(h:vO y5=false):bName 5 (.int i) [s0,s1,s2,s3,s4,y5]=some [s0,s1,s2,s3,s4,AAC i]:=by simp[-kr,iy,h]
def Ub (h:uI C N [.b (rd C L k s b),.t bd,.t (.int a)]=none) (e1:Dl C [.b (rd C L k s b),.t bd,.t (.int a)]=some (.t (.tup (.str z :: r)),[rd C L k1 s1 b1])) (e2:fy [.t (.tup (.str z :: r)),.t bd]=some (.t ib,[])) (e3:Au [.t (.str z)]=some (.t (.int 0),[])):wV C N (j+1) [.b (rd C L k s b),.t bd,.t (.int a)]=none:=by
 rw[BO (by decide) (by decide) h e1 e2 e3];rfl
def Z2:B6 0 (1:Int).toNat=[D.int 0]:=rfl
def WI:B6 0 (2:Int).toNat=[D.int 0,D.int 1]:=rfl
theorem rO (bd:GB) (gx:GX) (g:GS) (d:D) (ds:List D) (S:SS):Aa bd gx g (d :: ds) S=(bd d S).bind fun S1=>match gx S1 with
  | some r=>some r
  | none=>(g S1).bind fun o=>match o with
   | .nx S2=>Aa bd gx g ds S2
   | .ct S2=>Aa bd gx g ds S2
   | _=>none:=rfl
def Ey (h:uI C N [.b (rd C L k s b),.t bd,.t (.int a)]=none) (e1:Dl C [.b (rd C L k s b),.t bd,.t (.int a)]=some (.t (.tup (.str z :: r)),[rd C L k1 s1 b1])) (e2:fy [.t (.tup (.str z :: r)),.t bd]=some (.t ib,[])){n:Int}(hn:n=1\/n=2) (e3:Au [.t (.str z)]=some (.t (.int n),[]))
  (e4:wV C N j [.b (rd C L k1 s1 b1),.t ib,.t (.int (a+1))]=some (x,[o])):wV C N (j+1) [.b (rd C L k s b),.t bd,.t (.int a)]=some (x,[o]):=by
 rw[BO (by lia) (by lia) h e1 e2 e3];have t:=Z1 (bd:=bd) (z:=z) (r:=r) (i:=0) e4;rcases hn with rfl | rfl
 ·rw[Z2,rO,WH rfl,aag,t];rfl
 ·rw[WI,rO,WH rfl,aag,t];rfl
def OS (hr:r.length<=900) (h:uI C N [.b (rd C L k s b),.t bd,.t (.int a)]=none) (e1:Dl C [.b (rd C L k s b),.t bd,.t (.int a)]=some (.t (.tup (.str z :: r)),[rd C L k1 s1 b1])) (e2:fy [.t (.tup (.str z :: r)),.t bd]=some (.t ib,[])) (e3:Au [.t (.str z)]=some (.t (.int 1),[]))
  (e4:wV C N j [.b (rd C L k1 s1 b1),.t ib,.t (.int (a+1))]=none) (e5:AR C j [.b (rd C L k1 s1 b1),.t ib,.t (.int (a+1))]=some (.t p,[rd C L k2 s2 b2])):wV C N (j+1) [.b (rd C L k s b),.t bd,.t (.int a)]=none:=by
 rw[BO (by decide) (by decide) h e1 e2 e3,Z2,rO,WH rfl,aag,Sk (bd:=bd) (z:=z) (r:=r) (i:=0) e4];simp only;rw[Sl (N:=N) (bd:=bd) (z:=z) (r:=r) (i:=0) (by lia) e5];rfl
def WJ (hr:r.length<=900) (h:uI C N [.b (rd C L k s b),.t bd,.t (.int a)]=none) (e1:Dl C [.b (rd C L k s b),.t bd,.t (.int a)]=some (.t (.tup (.str z :: r)),[rd C L k1 s1 b1])) (e2:fy [.t (.tup (.str z :: r)),.t bd]=some (.t ib,[])) (e3:Au [.t (.str z)]=some (.t (.int 2),[]))
  (e4:wV C N j [.b (rd C L k1 s1 b1),.t ib,.t (.int (a+1))]=none) (e5:AR C j [.b (rd C L k1 s1 b1),.t ib,.t (.int (a+1))]=some (.t p,[rd C L k2 s2 b2])) (e6:wV C N j [.b (rd C L k2 s2 b2),.t ib,.t (.int (a+1))]=some (x,[o])):wV C N (j+1) [.b (rd C L k s b),.t bd,.t (.int a)]=some (x,[o]):=by
 rw[BO (by decide) (by decide) h e1 e2 e3,WI,rO,WH rfl,aag,Sk (bd:=bd) (z:=z) (r:=r) (i:=0) e4];simp only;rw[Sl (N:=N) (bd:=bd) (z:=z) (r:=r) (i:=0) (by lia) e5];simp only[aag];rw[rO,WH rfl,aag,Z1 (bd:=bd) (z:=z) (r:=r++[p]) (i:=1) e6];rfl
def Z3 (hr:r.length<=900) (h:uI C N [.b (rd C L k s b),.t bd,.t (.int a)]=none) (e1:Dl C [.b (rd C L k s b),.t bd,.t (.int a)]=some (.t (.tup (.str z :: r)),[rd C L k1 s1 b1])) (e2:fy [.t (.tup (.str z :: r)),.t bd]=some (.t ib,[])) (e3:Au [.t (.str z)]=some (.t (.int 2),[]))
  (e4:wV C N j [.b (rd C L k1 s1 b1),.t ib,.t (.int (a+1))]=none) (e5:AR C j [.b (rd C L k1 s1 b1),.t ib,.t (.int (a+1))]=some (.t p,[rd C L k2 s2 b2])) (e6:wV C N j [.b (rd C L k2 s2 b2),.t ib,.t (.int (a+1))]=none) (e7:AR C j [.b (rd C L k2 s2 b2),.t ib,.t (.int (a+1))]=some (.t q,[rd C L k3 s3 b3])):wV C N (j+1) [.b (rd C L k s b),.t bd,.t (.int a)]=none:=by
 rw[BO (by decide) (by decide) h e1 e2 e3,WI,rO,WH rfl,aag,Sk (bd:=bd) (z:=z) (r:=r) (i:=0) e4];simp only;rw[Sl (N:=N) (bd:=bd) (z:=z) (r:=r) (i:=0) (by lia) e5];simp only[aag];rw[rO,WH rfl,aag,Sk (bd:=bd) (z:=z) (r:=r++[p]) (i:=1) e6];simp only;rw[Sl (N:=N) (bd:=bd) (z:=z) (r:=r++[p]) (i:=1) (by simp;lia) e7];rfl
end
variable {C N:Addr}{L:BBB}{k:Nat}{s b:Int}{w:Str}{bs:BBB}
inductive Rs where
 | ok (d:D) (k:Nat) (s b:Int)
 | no (j:Nat)
noncomputable def Rs.mp (f:D->D):Rs->Rs
 | .ok d k s b=>.ok (f d) k s b
 | .no j=>.no j
structure Cn (s b:Int) (w:Str):Prop where
 hd:w∈gO
 sy:s+1<=16
 bn:b+bI w<=3
inductive Rd (L:BBB):Nat->BBB->Nat->Int->Int->Rs->Prop
 | deep {bs:BBB}{k:Nat}{s b:Int}:k<=L.length->Rd L 0 bs k s b (.no k)
 | bad {n:Nat}{bs:BBB}{k:Nat}{s b:Int}:Mg L k (Cn s b)->Rd L (n+1) bs k s b (.no k)
 | leaf {n:Nat}{bs:BBB}{k:Nat}{s b:Int}{z:Str}:L[k]? =some z->Cn s b z->(z="yes"\/z="no")->Rd L (n+1) bs k s b (.ok (.tup [.str z]) (k+1) (s+1) b)
 | now {n:Nat}{bs:BBB}{k k':Nat}{s b:Int}{t:D}:L[k]? =some "now"->Cn s b "now"->GL L bs (k+1) (.ok t k')->Rd L (n+1) bs k s b (.ok (.tup [.str "now",t]) k' (s+1) b)
 | Gp {n:Nat}{bs:BBB}{k j:Nat}{s b:Int}:L[k]? =some "now"->Cn s b "now"->GL L bs (k+1) (.no j)->Rd L (n+1) bs k s b (.no j)
 | LA {n:Nat}{bs:BBB}{k:Nat}{s b:Int}{w:Str}{i:Int}{r:Rs}:L[k]? =some "within"->Cn s b "within"->L[k+1]? =some w->cG qz w=some i->i<=5->Rd L n bs (k+1+1) (s+1) b r->Rd L (n+1) bs k s b (r.mp fun p=>.tup [.str "within",.int i,p])
 | Dp {n:Nat}{bs:BBB}{k:Nat}{s b:Int}:L[k]? =some "within"->Cn s b "within"->Mg L (k+1) R6->Rd L (n+1) bs k s b (.no (k+1))
 | bnd {n:Nat}{bs:BBB}{k:Nat}{s b:Int}{z x y:Str}{r:Rs}:L[k]? =some z->Cn s b z->(z="each"\/z="one")->L[k+1]? =some x->nameB (.str x)=true->L[k+1+1]? =some y->nameB (.str y)=true->Rd L n (bs++[y]) (k+1+1+1) (s+1) (b+1) r->Rd L (n+1) bs k s b (r.mp fun p=>.tup [.str z,.str x,.str y,p])
 | zE {n:Nat}{bs:BBB}{k:Nat}{s b:Int}{z:Str}:L[k]? =some z->Cn s b z->(z="each"\/z="one")->Mg L (k+1) (fun w=>nameB (.str w)=true)->Rd L (n+1) bs k s b (.no (k+1))
 | zF {n:Nat}{bs:BBB}{k:Nat}{s b:Int}{z x:Str}:L[k]? =some z->Cn s b z->(z="each"\/z="one")->L[k+1]? =some x->nameB (.str x)=true->Mg L (k+1+1) (fun w=>nameB (.str w)=true)->Rd L (n+1) bs k s b (.no (k+1+1))
 | one {n:Nat}{bs:BBB}{k:Nat}{s b:Int}{z:Str}{r:Rs}:L[k]? =some z->Cn s b z->z∈JF->Rd L n bs (k+1) (s+1) b r->Rd L (n+1) bs k s b (r.mp fun p=>.tup [.str z,p])
 | two {n:Nat}{bs:BBB}{k k1:Nat}{s b s1 b1:Int}{z:Str}{p:D}{r:Rs}:L[k]? =some z->Cn s b z->z∈JH->Rd L n bs (k+1) (s+1) b (.ok p k1 s1 b1)->Rd L n bs k1 s1 b1 r->Rd L (n+1) bs k s b (r.mp fun q=>.tup [.str z,p,q])
 | Gq {n:Nat}{bs:BBB}{k j:Nat}{s b:Int}{z:Str}:L[k]? =some z->Cn s b z->z∈JH->Rd L n bs (k+1) (s+1) b (.no j)->Rd L (n+1) bs k s b (.no j)
def uB (h:z∈gO):(z="yes"\/z="no")\/z="now"\/z="within"\/(z="each"\/z="one")\/z∈JF\/z∈JH:=by
 have:z∈(["yes","no","now","not","both","either","next","till","within","always","some","each","one"]:BBB):=h;simp only[aao,aa4,acg] at this;rcases this with rfl | rfl | rfl | rfl | rfl | rfl | rfl | rfl | rfl | rfl | rfl | rfl | rfl
 ·exact .inl (.inl rfl)
 ·exact .inl (.inr rfl)
 ·exact .inr (.inl rfl)
 ·exact .inr (.inr (.inr (.inr (.inl (by simp[JF])))))
 ·exact .inr (.inr (.inr (.inr (.inr (by simp[JH])))))
 ·exact .inr (.inr (.inr (.inr (.inr (by simp[JH])))))
 ·exact .inr (.inr (.inr (.inr (.inl (by simp[JF])))))
 ·exact .inr (.inr (.inr (.inr (.inr (by simp[JH])))))
 ·exact .inr (.inr (.inl rfl))
 ·exact .inr (.inr (.inr (.inr (.inl (by simp[JF])))))
 ·exact .inr (.inr (.inr (.inr (.inl (by simp[JF])))))
 ·exact .inr (.inr (.inr (.inl (.inl rfl))))
 ·exact .inr (.inr (.inr (.inl (.inr rfl))))
def GL.le {t:D}(h:GL L bs k (.ok t k')):k'<=L.length:=by
 cases h with
 | any e=>exact lJ e
 | name e e2 _=>exact lJ e2
 | num e _ e2 _=>exact lJ e2
 | var e _ e2 _ _=>exact lJ e2
def Rd.le {n:Nat}{r:Rs}(h:Rd L n bs k s b r):∀{d k' s' b'},r= .ok d k' s' b'->k'<=L.length:=by
 induction h with
 | deep _=>intro _ _ _ _ e;cases e
 | bad _=>intro _ _ _ _ e;cases e
 | leaf e _ _=>intro _ _ _ _ q;cases q;exact lJ e
 | now _ _ t=>intro _ _ _ _ q;cases q;exact t.le
 | Gp _ _ _=>intro _ _ _ _ e;cases e
 | @LA _ _ _ _ _ _ _ r _ _ _ _ _ _ ih=>intro _ _ _ _ q;cases r with
  | ok d k s b=>cases q;exact ih rfl
  | no j=>cases q
 | Dp _ _ _=>intro _ _ _ _ e;cases e
 | @bnd _ _ _ _ _ _ _ _ r _ _ _ _ _ _ _ _ ih=>intro _ _ _ _ q;cases r with
  | ok d k s b=>cases q;exact ih rfl
  | no j=>cases q
 | zE _ _ _ _=>intro _ _ _ _ e;cases e
 | zF _ _ _ _ _ _=>intro _ _ _ _ e;cases e
 | @one _ _ _ _ _ _ r _ _ _ _ ih=>intro _ _ _ _ q;cases r with
  | ok d k s b=>cases q;exact ih rfl
  | no j=>cases q
 | @two _ _ _ _ _ _ _ _ _ _ r _ _ _ _ _ _ ih=>intro _ _ _ _ q;cases r with
  | ok d k s b=>cases q;exact ih rfl
  | no j=>cases q
 | Gq _ _ _ _ _=>intro _ _ _ _ e;cases e
theorem zG:∀(n:Nat) (bs:BBB) (k:Nat) (s b:Int),k<=L.length->∃r,Rd L n bs k s b r
 | 0,bs,k,s,b,hk=>⟨_,.deep hk⟩
 | n+1,bs,k,s,b,hk=>by
  cases e:L[k]? with
  | none=>exact⟨_,.bad ⟨hk,fun w z=>by rw[e] at z;cases z⟩⟩
  | some z=>
   have l1:=lJ e;by_cases c:Cn s b z
   ·rcases uB c.hd with h | rfl | rfl | h | h | h
    ·exact⟨_,.leaf e c h⟩
    ·obtain⟨r,hr⟩:=R8 (bs:=bs) l1;cases r with
     | ok t k'=>exact⟨_,.now e c hr⟩
     | no j=>exact⟨_,.Gp e c hr⟩
    ·cases e2:L[k+1]? with
     | none=>exact⟨_,.Dp e c ⟨l1,fun w z=>by rw[e2] at z;cases z⟩⟩
     | some w=>
      by_cases f:R6 w
      ·obtain⟨i,f1,f2⟩:=f;obtain⟨r,hr⟩:=zG n bs (k+1+1) (s+1) b (lJ e2);exact⟨_,.LA e c e2 f1 f2 hr⟩
      ·exact⟨_,.Dp e c ⟨l1,fun v z=>by rw[e2] at z;cases z;exact f⟩⟩
    ·cases e2:L[k+1]? with
     | none=>exact⟨_,.zE e c h ⟨l1,fun w z=>by rw[e2] at z;cases z⟩⟩
     | some x=>
      by_cases f:nameB (.str x)=true
      ·cases e3:L[k+1+1]? with
       | none=>exact⟨_,.zF e c h e2 f ⟨lJ e2,fun w z=>by rw[e3] at z;cases z⟩⟩
       | some y=>
        by_cases g:nameB (.str y)=true
        ·obtain⟨r,hr⟩:=zG n (bs++[y]) (k+1+1+1) (s+1) (b+1) (lJ e3);exact⟨_,.bnd e c h e2 f e3 g hr⟩
        ·exact⟨_,.zF e c h e2 f ⟨lJ e2,fun v z=>by rw[e3] at z;cases z;exact g⟩⟩
      ·exact⟨_,.zE e c h ⟨l1,fun v z=>by rw[e2] at z;cases z;exact f⟩⟩
    ·obtain⟨r,hr⟩:=zG n bs (k+1) (s+1) b l1;exact⟨_,.one e c h hr⟩
    ·obtain⟨r,hr⟩:=zG n bs (k+1) (s+1) b l1;cases r with
     | no j=>exact⟨_,.Gq e c h hr⟩
     | ok p k1 s1 b1=>
      obtain⟨r2,hr2⟩:=zG n bs k1 s1 b1 (hr.le rfl);exact⟨_,.two e c h hr hr2⟩
   ·exact⟨_,.bad ⟨hk,fun v z=>by rw[e] at z;cases z;exact c⟩⟩
variable {C N:Addr}{L:BBB}{k:Nat}{s b:Int}{w:Str}{bs:BBB}
def gj (e:L[k]? =some w):L.drop k=w :: L.drop (k+1):=by
 obtain⟨h,q⟩:=aay.mp e;rw[acG h,q]
def BP (h:cG qz w=some i):0<=i/\i<=9/\tW (.int i)=w:=by
 have key:∀p∈qz,0<=p.2/\p.2<=9/\tW (.int p.2)=p.1:=by decide +kernel
 unfold cG at h;obtain⟨p,h1,rfl⟩:=aB h;have a:=key p (afN h1);have b:p.1=w:=by have:=List.find?_some h1;exact aek this
 rw[<-b];exact a
def WK {t:D}(h:GL L bs k (.ok t k')):Ts bs t/\L.drop k=GH t++L.drop k':=by
 cases h with
 | any e=>exact⟨.any,gj e⟩
 | name e e2 hn=>exact⟨.name hn,by rw[gj e,gj e2];rfl⟩
 | num e ho e2 hi=>
  obtain⟨a,c,d⟩:=BP hi;refine⟨.num ho a c,?_⟩;rw[gj e,gj e2,<-d];rfl
 | var e ho e2 _ hw=>exact⟨.var ho hw,by rw[gj e,gj e2];rfl⟩
def Z4 (h:Rd L n bs k s b r):∀{d k' s' b'},r= .ok d k' s' b'->Sy n bs d/\L.drop k=vQ n d++L.drop k':=by
 induction h with
 | deep _=>intro _ _ _ _ e;cases e
 | bad _=>intro _ _ _ _ e;cases e
 | leaf e _ hz=>intro _ _ _ _ q;cases q;exact⟨.leaf hz,gj e⟩
 | now e _ t=>
  intro _ _ _ _ q;cases q;obtain⟨a,c⟩:=WK t;exact⟨.now a,by rw[gj e,c,vo];rfl⟩
 | Gp _ _ _=>intro _ _ _ _ e;cases e
 | @LA _ _ _ _ _ w i r e _ e2 hi h5 _ ih=>
  intro _ _ _ _ q;cases r with
  | no j=>cases q
  | ok p k1 s1 b1=>
   cases q;obtain⟨a,c⟩:=ih rfl;obtain⟨f1,f2,f3⟩:=BP hi;exact⟨.LA f1 h5 a,by rw[gj e,gj e2,c,vt,f3];rfl⟩
 | Dp _ _ _=>intro _ _ _ _ e;cases e
 | @bnd _ _ _ _ _ z x y r e _ hz e2 hx e3 hy _ ih=>
  intro _ _ _ _ q;cases r with
  | no j=>cases q
  | ok p k1 s1 b1=>
   cases q;obtain⟨a,c⟩:=ih rfl;exact⟨.bnd hz hx hy a,by rw[gj e,gj e2,gj e3,c,vA];rfl⟩
 | zE _ _ _ _=>intro _ _ _ _ e;cases e
 | zF _ _ _ _ _ _=>intro _ _ _ _ e;cases e
 | @one _ _ _ _ _ z r e _ hz _ ih=>
  intro _ _ _ _ q;cases r with
  | no j=>cases q
  | ok p k1 s1 b1=>
   cases q;obtain⟨a,c⟩:=ih rfl;exact⟨.one hz a,by rw[gj e,c,vp (Em hz)];rfl⟩
 | @two _ _ _ _ _ _ _ _ z p r e _ hz _ _ ih1 ih=>
  intro _ _ _ _ q;cases r with
  | no j=>cases q
  | ok p k1 s1 b1=>
   cases q;obtain⟨a1,c1⟩:=ih1 rfl;obtain⟨a,c⟩:=ih rfl;exact⟨.two hz a1 a,by rw[gj e,c1,c,vq (oU hz),List.cons_append,aeT]⟩
 | Gq _ _ _ _ _=>intro _ _ _ _ e;cases e
def StS (C N:Addr) (L:BBB) (j:Nat) (bs:BBB) (k:Nat) (s b a:Int):Rs->Prop
 | .ok d k' s' b'=>wV C N j [.b (rd C L k s b),.t (.tup (bs.map D.str)),.t (.int a)]=none/\AR C j [.b (rd C L k s b),.t (.tup (bs.map D.str)),.t (.int a)]=some (.t d,[rd C L k' s' b'])
 | .no i=>∃o,wV C N j [.b (rd C L k s b),.t (.tup (bs.map D.str)),.t (.int a)]=some (Ig N i,[o])
structure Hy (C N:Addr) (L:BBB) (k:Nat) (s b a:Int) (z:Str):Prop where
 x:Ew C N [.b (rd C L k s b),.t (.int a)]=none
 f:EV C [.b (rd C L k s b),.t (.int a)]=some (.t (.str z),[rd C L (k+1) (s+1) (b+bI z)])
def uK {a:Int}(hL:Et L) (e:L[k]? =some z) (c:Cn s b z) (ha:a < 8):Hy C N L k s b a z:=⟨WG hL e ⟨c.hd,c.sy,ha,c.bn⟩,ZS e hL.1 c.hd c.sy ha c.bn⟩
def WL (hL:Et L) (e:L[k]? =some w) (hi:cG qz w=some i) (h5:i<=5):LC C [.b (rd C L k s b)]=some (.t (.int i),[rd C L (k+1) s b]):=by
 obtain⟨f1,f2,f3⟩:=BP hi;exact ZT f1 h5 (by rw[f3];exact e) hL.1
def Sm (hL:Et L) (h:Rd L n bs k s b r):∀{j:Nat}{a:Int},n+1<=j->(∀y∈bs,nameB (.str y)=true)->bs.length+n<=100->a+n=8->StS C N L j bs k s b a r:=by
 induction h with
 | @deep bs k s b hk=>
  intro j a hj _ _ ha;obtain⟨i,rfl⟩:∃i,j=i+1:=⟨j - 1,by lia⟩
  obtain⟨o,x⟩:=OP (C:=C) (N:=N) (s:=s) (b:=b) (a:=a) hL ⟨hk,fun w _ z=>by have:=z.ar;lia⟩;exact⟨o,Dn (Ua x)⟩
 | @bad n bs k s b hn=>
  intro j a hj _ _ ha;obtain⟨i,rfl⟩:∃i,j=i+1:=⟨j - 1,by lia⟩
  obtain⟨o,x⟩:=OP (C:=C) (N:=N) (s:=s) (b:=b) (a:=a) hL ⟨hn.le,fun w e z=>hn.no w e ⟨z.hd,z.sy,z.bn⟩⟩;exact⟨o,Dn (Ua x)⟩
 | @leaf n bs k s b z e c hz=>
  intro j a hj _ _ ha;obtain⟨i,rfl⟩:∃i,j=i+1:=⟨j - 1,by lia⟩
  obtain⟨q1,q2,q3,q4⟩:=n6 hz;have n2:z≠"within":=by rcases hz with rfl | rfl <;> decide
  have y:=uK (C:=C) (N:=N) (a:=a) hL e c (by lia);have yf:=y.f;rw[vR q3,acL] at yf;exact⟨Ub (vF q3 q4 n2 y.x yf) (uF q3 q4 n2 yf) (gg q3) (pw_leaf hz),ZU (by decide) (uF q3 q4 n2 yf) (gg q3) (pw_leaf hz)⟩
 | @now n bs k k' s b t e c ht=>
  intro j a hj _ _ ha;obtain⟨i,rfl⟩:∃i,j=i+1:=⟨j - 1,by lia⟩
  have q3:bX "now" =false:=by decide
  have y:=uK (C:=C) (N:=N) (a:=a) hL e c (by lia);have yf:=y.f;rw[vR q3,acL] at yf;obtain⟨t1,t2⟩:=JV (C:=C) (N:=N) (s:=s+1) (b:=b) hL ht;exact⟨Ub (Sh y.x yf t1 t2) (OD yf t2) (gg q3) pw_now,ZU (by show 1<=900;decide) (OD yf t2) (gg q3) pw_now⟩
 | @Gp n bs k jj s b e c ht=>
  intro j a hj _ _ ha;obtain⟨i,rfl⟩:∃i,j=i+1:=⟨j - 1,by lia⟩
  have q3:bX "now" =false:=by decide
  have y:=uK (C:=C) (N:=N) (a:=a) hL e c (by lia);have yf:=y.f;rw[vR q3,acL] at yf;obtain⟨o,t1⟩:=JV (C:=C) (N:=N) (s:=s+1) (b:=b) hL ht;exact⟨o,Dn (LI y.x yf t1)⟩
 | @LA n bs k s b w iv r e c e2 hi h5 _ ih=>
  intro j a hj hb hl ha;obtain⟨i,rfl⟩:∃i,j=i+1:=⟨j - 1,by lia⟩
  obtain⟨q1,q2,q3,q4⟩:=qN;have y:=uK (C:=C) (N:=N) (a:=a) hL e c (by lia);have yf:=y.f;rw[vR q3,acL] at yf;have t1:=WE (C:=C) (N:=N) (s:=s+1) (b:=b) hL e2 hi h5;have t2:=WL (C:=C) (s:=s+1) (b:=b) hL e2 hi h5;have g:=ih (j:=i) (a:=a+1) (by lia) hb (by lia) (by lia);cases r with
  | no jj=>
   obtain⟨o,g⟩:=g;exact⟨o,Ey (JX y.x yf t1 t2) (Ia yf t2) (gg q3) (.inl rfl) pw_wth g⟩
  | ok p k1 s1 b1=>exact⟨OS (by show 1<=900;decide) (JX y.x yf t1 t2) (Ia yf t2) (gg q3) pw_wth g.1 g.2,Wl (by show 1<=900;decide) (Ia yf t2) (gg q3) pw_wth g.2⟩
 | @Dp n bs k s b e c hn=>
  intro j a hj _ _ ha;obtain⟨i,rfl⟩:∃i,j=i+1:=⟨j - 1,by lia⟩
  obtain⟨q1,q2,q3,q4⟩:=qN;have y:=uK (C:=C) (N:=N) (a:=a) hL e c (by lia);have yf:=y.f;rw[vR q3,acL] at yf;obtain⟨o,t1⟩:=WC (C:=C) (N:=N) (s:=s+1) (b:=b) hL hn;exact⟨o,Dn (LJ y.x yf t1)⟩
 | @bnd n bs k s b z x v r e c hz e2 hx e3 hv _ ih=>
  intro j a hj hb hl ha;obtain⟨i,rfl⟩:∃i,j=i+1:=⟨j - 1,by lia⟩
  obtain⟨q1,q2,q3,q4⟩:=j6 hz;have n2:z≠"within":=by rcases hz with rfl | rfl <;> decide
  have y:=uK (C:=C) (N:=N) (a:=a) hL e c (by lia);have yf:=y.f;rw[LD q3] at yf;have t1:=Eu (C:=C) (N:=N) (s:=s+1) (b:=b+1) hL e2 hx;have t2:=Gk (C:=C) (s:=s+1) (b:=b+1) e2 hL.1 hx;have t3:=Eu (C:=C) (N:=N) (s:=s+1) (b:=b+1) hL e3 hv;have t4:=Gk (C:=C) (s:=s+1) (b:=b+1) e3 hL.1 hv;have bg:=Wi (f2:=Mf C) (f3:=LC C) (bd:=.tup (bs.map D.str)) q3 q4 n2 yf t2 t4;have bx:=Si (bd:=.tup (bs.map D.str)) q3 q4 n2 y.x yf t1 t2 t3;have bo:fy [.t (.tup [.str z,.str x,.str v]),.t (.tup (bs.map D.str))]=some (.t (.tup ((bs++[v]).map D.str)),[]):=by rw[aej];exact Lp q3 (by rw[aas];lia)
  have g:=ih (j:=i) (a:=a+1) (by lia) (fun u hu=>by
   rcases abP.mp hu with hu | hu
   ·exact hb u hu
   ·rw[aav.mp hu];exact hv) (by rw[aaB,acD];lia) (by lia)
  cases r with
  | no jj=>
   obtain⟨o,g⟩:=g;exact⟨o,Ey bx bg bo (.inl rfl) (pw_bnd hz) g⟩
  | ok p k1 s1 b1=>exact⟨OS (by show 2<=900;decide) bx bg bo (pw_bnd hz) g.1 g.2,Wl (by show 2<=900;decide) bg bo (pw_bnd hz) g.2⟩
 | @zE n bs k s b z e c hz hn=>
  intro j a hj _ _ ha;obtain⟨i,rfl⟩:∃i,j=i+1:=⟨j - 1,by lia⟩
  obtain⟨q1,q2,q3,q4⟩:=j6 hz;have n2:z≠"within":=by rcases hz with rfl | rfl <;> decide
  have y:=uK (C:=C) (N:=N) (a:=a) hL e c (by lia);have yf:=y.f;rw[LD q3] at yf;obtain⟨o,t1⟩:=Ii (C:=C) (N:=N) (s:=s+1) (b:=b+1) hL hn;exact⟨o,Dn (Ik q3 q4 n2 y.x yf t1)⟩
 | @zF n bs k s b z x e c hz e2 hx hn=>
  intro j a hj _ _ ha;obtain⟨i,rfl⟩:∃i,j=i+1:=⟨j - 1,by lia⟩
  obtain⟨q1,q2,q3,q4⟩:=j6 hz;have n2:z≠"within":=by rcases hz with rfl | rfl <;> decide
  have y:=uK (C:=C) (N:=N) (a:=a) hL e c (by lia);have yf:=y.f;rw[LD q3] at yf;have t1:=Eu (C:=C) (N:=N) (s:=s+1) (b:=b+1) hL e2 hx;have t2:=Gk (C:=C) (s:=s+1) (b:=b+1) e2 hL.1 hx;obtain⟨o,t3⟩:=Ii (C:=C) (N:=N) (s:=s+1) (b:=b+1) hL hn;exact⟨o,Dn (Il q3 q4 n2 y.x yf t1 t2 t3)⟩
 | @one n bs k s b z r e c hz _ ih=>
  intro j a hj hb hl ha;obtain⟨i,rfl⟩:∃i,j=i+1:=⟨j - 1,by lia⟩
  obtain⟨q1,q2,q3,q4⟩:=qM hz;have n2:z≠"within":=by rcases kL hz with rfl | rfl | rfl | rfl <;> decide
  have y:=uK (C:=C) (N:=N) (a:=a) hL e c (by lia);have yf:=y.f;rw[vR q3,acL] at yf;have bg:=uF (f2:=Mf C) (f3:=LC C) (f4:=GJ C) (bd:=.tup (bs.map D.str)) q3 q4 n2 yf;have bx:=vF (bd:=.tup (bs.map D.str)) q3 q4 n2 y.x yf;have g:=ih (j:=i) (a:=a+1) (by lia) hb (by lia) (by lia);cases r with
  | no jj=>
   obtain⟨o,g⟩:=g;exact⟨o,Ey bx bg (gg q3) (.inl rfl) (pw_one hz) g⟩
  | ok p k1 s1 b1=>exact⟨OS (by decide) bx bg (gg q3) (pw_one hz) g.1 g.2,Wl (by decide) bg (gg q3) (pw_one hz) g.2⟩
 | @two n bs k k1 s b s1 b1 z p r e c hz _ _ ih1 ih=>
  intro j a hj hb hl ha;obtain⟨i,rfl⟩:∃i,j=i+1:=⟨j - 1,by lia⟩
  obtain⟨q1,q2,q3,q4⟩:=mO hz;have n2:z≠"within":=oU hz;have y:=uK (C:=C) (N:=N) (a:=a) hL e c (by lia);have yf:=y.f;rw[vR q3,acL] at yf;have bg:=uF (f2:=Mf C) (f3:=LC C) (f4:=GJ C) (bd:=.tup (bs.map D.str)) q3 q4 n2 yf;have bx:=vF (bd:=.tup (bs.map D.str)) q3 q4 n2 y.x yf;have g1:=ih1 (j:=i) (a:=a+1) (by lia) hb (by lia) (by lia);have g:=ih (j:=i) (a:=a+1) (by lia) hb (by lia) (by lia);cases r with
  | no jj=>
   obtain⟨o,g⟩:=g;exact⟨o,WJ (by decide) bx bg (gg q3) (pw_two hz) g1.1 g1.2 g⟩
  | ok q k2 s2 b2=>exact⟨Z3 (by decide) bx bg (gg q3) (pw_two hz) g1.1 g1.2 g.1 g.2,aef (by decide) bg (gg q3) (pw_two hz) g1.2 g.2⟩
 | @Gq n bs k jj s b z e c hz _ ih1=>
  intro j a hj hb hl ha;obtain⟨i,rfl⟩:∃i,j=i+1:=⟨j - 1,by lia⟩
  obtain⟨q1,q2,q3,q4⟩:=mO hz;have n2:z≠"within":=oU hz;have y:=uK (C:=C) (N:=N) (a:=a) hL e c (by lia);have yf:=y.f;rw[vR q3,acL] at yf;have bg:=uF (f2:=Mf C) (f3:=LC C) (f4:=GJ C) (bd:=.tup (bs.map D.str)) q3 q4 n2 yf;have bx:=vF (bd:=.tup (bs.map D.str)) q3 q4 n2 y.x yf;obtain⟨o,g⟩:=ih1 (j:=i) (a:=a+1) (by lia) hb (by lia) (by lia);exact⟨o,Ey bx bg (gg q3) (.inr rfl) (pw_two hz) g⟩
def Ez (w:Str):w.cps.toList.length=w.length:=by simp[Str.length]
noncomputable def wt (ws:BBB):Nat:=(ws.map fun w=>w.length+1).sum
def rQ (w:Str) (ws:BBB):wt (w :: ws)=w.length+1+wt ws:=by simp[wt]
def kF (a b:BBB):wt (a++b)=wt a+wt b:=by simp[wt]
theorem OT {w:Str}:∀{ws:BBB},w∈ws->w.length+1<=wt ws
 | x :: ws,h=>by
  rw[rQ];rcases aao.mp h with rfl | h
  ·lia
  ·have:=OT h;lia
theorem wW:∀ws:BBB,ws.length<=wt ws
 | []=>acI _
 | w :: ws=>by have:=wW ws;rw[rQ,aar];lia
theorem Im:∀ws:BBB,(ws.map (·.length)).sum+ws.length=wt ws
 | []=>rfl
 | w :: ws=>by have:=Im ws;rw[rQ,aax,List.sum_cons,aar];lia
theorem JY:∀(w:Str) (ws:BBB),wt (w :: ws)=(Str.join ⟨#[32]⟩ (w :: ws)).length+1
 | w,[]=>by simp[rQ,wt,Str.join]
 | w,v :: ws=>by
  have ih:=JY v ws;have e:=congrArg List.length (OF 32 w v ws);rw[Ez,aaB,aar,Ez,Ez] at e;rw[rQ,ih,e];lia
def join_eq (ws:BBB):Txt.join " " ws=Str.join ⟨#[32]⟩ ws:=StrLaws.glued_eq_join _ _
def OU (z:Str):∃w ws,Txt.split z " " =w :: ws:=by
 have:=PyProof.Rows.split_pos z " ";cases h:Txt.split z " " with
 | nil=>rw[h] at this;exact absurd this (by decide)
 | cons w ws=>exact⟨w,ws,rfl⟩
def JZ (z:Str):Txt.join " " (Txt.split z " ")=z:=by rw[join_eq];exact StrLaws.join_split z ⟨#[32]⟩
def Gr (z:Str):wt (Txt.split z " ")=z.length+1:=by
 obtain⟨w,ws,e⟩:=OU z;have j:=JZ z;rw[join_eq] at j;rw[e] at j ⊢;rw[JY,j]
def Dq (h:z.length<=20000):jO [.str z,.str " "]=AAB ((Txt.split z " ").map D.str):=by
 have a:=Gr z;have b:=wW (Txt.split z " ");show(if _ then some (U.m (.lst ((Txt.split z " ").map D.str))) else none)=_;rw[if_pos ⟨by decide,by lia,by lia⟩]
theorem strs_map:∀ws:BBB,um (ws.map D.str)=some ws
 | []=>rfl
 | w :: ws=>by show(um (ws.map D.str)).map _=_;rw[strs_map ws];rfl
def yG {ws:BBB}(h:wt ws<=100000):nu [.str " ",.lst (ws.map D.str)]=AAA (.str (Txt.join " " ws)):=by
 show((um (ws.map D.str)).bind fun zs=>if JoinOk " " zs=true then some (U.t (.str (Txt.join " " zs))) else none)=_;have:=Im ws;rw[strs_map,aag,if_pos (joinOk_of_weight (by lia) (by decide))]
def vG (ws:BBB):(Txt.join " " ws).length<=wt ws:=by
 rw[join_eq];have a:=StrLaws.join_length_le (⟨#[32]⟩:Str) ws;have b:=Im ws;have c:(⟨#[32]⟩:Str).length=1:=rfl;rw[c] at a;lia
noncomputable def mS (ws:BBB) (lo hi:BBM):BBB:=(ws.drop (HT.iR ws.length 0 lo)).take (HT.iR ws.length ws.length hi - HT.iR ws.length 0 lo)
def yH (ws:BBB) (lo hi:BBM):L2.cutD (ws.map D.str) lo hi=(mS ws lo hi).map D.str:=by
 unfold L2.cutD mS;rw[aas,List.map_take,af2]
def So (ws:BBB) (k:Nat):wt (ws.take k)<=wt ws:=by
 have:=kF (ws.take k) (ws.drop k);rw[List.take_append_drop] at this;lia
def Su (ws:BBB) (k:Nat):wt (ws.drop k)<=wt ws:=by
 have:=kF (ws.take k) (ws.drop k);rw[List.take_append_drop] at this;lia
def BQ (ws:BBB) (lo hi:BBM):wt (mS ws lo hi)<=wt ws:=aaA (So _ _) (Su _ _)
def mT {a b:BBB}(h:wt a+wt b<=100000):cE [.lst (a.map D.str),.lst (b.map D.str)]=AAB ((a++b).map D.str):=by
 have h1:=wW a;have h2:=wW b;rw[fP,if_pos (by rw[aas,aas];lia),aej]
variable {C N:Addr}{L:BBB}{k:Nat}{s b:Int}
def OV (h:z.length<=9000):Et (Txt.split z " "):=by
 have a:=Gr z;have b:=wW (Txt.split z " ");exact⟨by lia,fun w hw=>by have:=OT hw;lia⟩
def Z5 {m:Str}{f:FX}{r:XV}{o':MO}(hl:(Ad L k s b).lookup m=none) (hg:gu [t0,some (.m (rd C L k s b)),t2]=some (us.map U.t,[t0,some (.m (rd C L k s b)),t2])) (hf:f (.b (rd C L k s b) :: us.map U.t)=some (r,[o'])):
  dB C m 1 f gu [t0,some (.m (rd C L k s b)),t2]=some (r,[t0,some (.m o'),t2]):=by
 unfold dB;have e:lH C [t0,some (.m (rd C L k s b)),t2] 1=some (Ad L k s b):=by
  show(if C=C then some (Ad L k s b) else none)=_;rw[if_pos rfl]
 rw[e,aag,if_pos hl];unfold yy z5;rw[hg];have q1:slotsOf (U.v 1 :: us.map U.t)=[1]:=by show 1 :: slotsOf (us.map U.t)=_;rw[Lh]
 have q2:bE (U.v 1 :: us.map U.t)=0:=Li us;have q3:bh [t0,some (.m (rd C L k s b)),t2] (.v 1 :: us.map U.t)=some (.b (rd C L k s b) :: us.map U.t):=by
  show(some (U.b (rd C L k s b))).bind (fun w=>(bh _ (us.map U.t)).map fun ws=>w :: ws)=_;rw[z7];rfl
 have q4:wb (.v 1 :: us.map U.t) [o'] [t0,some (.m (rd C L k s b)),t2]=some [t0,some (.m o'),t2]:=HK _ us;simp only[adJ,aag];rw[if_pos ⟨by rw[q1];decide,by rw[q2];decide⟩,q3,aag,hf,aag,q4];rfl
def OW {m:Str}{f:FX}(hg:gu [t0,some (.m (rd C L k s b)),t2]=some (us.map U.t,[t0,some (.m (rd C L k s b)),t2])) (hf:f (.b (rd C L k s b) :: us.map U.t)=none):
  dB C m 1 f gu [t0,some (.m (rd C L k s b)),t2]=none:=by
 unfold dB;have e:lH C [t0,some (.m (rd C L k s b)),t2] 1=some (Ad L k s b):=by
  show(if C=C then some (Ad L k s b) else none)=_;rw[if_pos rfl]
 rw[e,aag];split
 ·unfold yy z5;rw[hg];have q3:bh [t0,some (.m (rd C L k s b)),t2] (.v 1 :: us.map U.t)=some (.b (rd C L k s b) :: us.map U.t):=by
   show(some (U.b (rd C L k s b))).bind (fun w=>(bh _ (us.map U.t)).map fun ws=>w :: ws)=_;rw[z7];rfl
  simp only[adJ,aag];rw[q3,aag,hf];split <;> rfl
 ·rfl
def ju (bC:FM) (lT:FM) (cQ:FX) (ak:Addr) (bu:Addr):GX:=
 (N2 (bR 1 (yt ak lT (aH (eF (eP jO (aa (eF (ao 0)) (aa (eC (.str " ")) aq)))) aE)))
 (qd (dB ak "saying_taken" 1 cQ (aH (eF (eP cT aq)) (aH (eC (.int 0)) aE))) (bR 2 (cK ak "saying_taken" 1 bC (aH (eF (eP cT aq)) (aH (eC (.int 0)) aE))))
 (PL (qB (eF (eP AI (aa (dP ak 1 "at") (aa (eF (eP wA (aa (dP ak 1 "words") aq))) aq))))) (zp bu ["at"] (aa (dP ak 1 "at") aq)) Rq)))
def Mh (C N:Addr):FX:=d9 3 (ju (AR C 9) (Ae C) (wV C N 9) C N)
def Sv (C N:Addr):∀us r,Mh C N us=some r->d9 3 (ju (AR C 9) (Ae C) (wV C N 9) C N) us=some r:=fun _ _ h=>h
inductive Tf (L:BBB):BBS->D->Prop
 | good {d:D}{s b:Int}:Rd L 8 [] 0 0 0 (.ok d L.length s b)->Tf L none d
 | more {d:D}{k:Nat}{s b:Int}:Rd L 8 [] 0 0 0 (.ok d k s b)->k < L.length->Tf L (some k) .cM
 | bad {j:Nat}:Rd L 8 [] 0 0 0 (.no j)->Tf L (some j) .cM
def WM (L:BBB):∃ft d,Tf L ft d:=by
 obtain⟨r,hr⟩:=zG (L:=L) 8 [] 0 0 0 (acI _);cases r with
 | no j=>exact⟨_,_,.bad hr⟩
 | ok d k s b=>
  have hk:=hr.le rfl;by_cases e:k=L.length
  ·subst e;exact⟨_,_,.good hr⟩
  ·exact⟨_,_,.more hr (by lia)⟩
def Sz :lH C [t0,some (.m (rd C L k s b)),t2] 1=some (Ad L k s b):=by
 show(if C=C then some (Ad L k s b) else none)=_;rw[if_pos rfl]
def Z6 (e0:jO [.str z,.str " "]=AAB (sL L)):yt C (Ae C) (aH (eF (eP jO (aa (eF (ao 0)) (aa (eC (.str " ")) aq)))) aE) [AAA (.str z),none,none]=some (.m (rd C L 0 0 0),[AAA (.str z),none,none]):=by
 have g1:(aH (eF (eP jO (aa (eF (ao 0)) (aa (eC (.str " ")) aq)))) aE) [AAA (.str z),none,none]=some ([.t (.lst (sL L))],[AAA (.str z),none,none]):=by simp[e0]
 unfold yt;rw[g1,aag];dsimp only;rw[if_pos ⟨rfl,rfl⟩];show(some [U.t (.lst (sL L))]).bind _=_;rw[aag,JN];rfl
def RsS (C N:Addr) (z:Str) (d:D):BBS->Prop
 | none=>Mh C N [.t (.str z)]=none/\ZX C [.t (.str z)]=some (.t d,[])/\zD [.t d]=some (.t (.str z),[])
 | some j=>Mh C N [.t (.str z)]=some (Ig N j,[])
def SA {d:D}(hz:z.length<=9000) (h:Tf (Txt.split z " ") ft d):RsS C N z d ft:=by
 have hL:=OV hz;have e0:jO [.str z,.str " "]=AAB (sL (Txt.split z " ")):=Dq (by lia);have jn:=JZ z;generalize Txt.split z " " =L at *;have mk:=Z6 (C:=C) e0;have spec:=fun {r:Rs}(hr:Rd L 8 [] 0 0 0 r)=>Sm (C:=C) (N:=N) hL hr (j:=9) (a:=0) (by decide) (by simp) (by simp) (by decide);cases h with
 | @good d s b hr=>
  obtain⟨x1,x2⟩:=spec hr;have m0:=OW (m:="saying_taken") (gu:=aH (eF (eP cT aq)) (aH (eC (.int 0)) aE)) (us:=[.tup [],.int 0]) (t0:=AAA (.str z)) (t2:=none) rfl x1;have m1:=Wn (m:="saying_taken") (gu:=aH (eF (eP cT aq)) (aH (eC (.int 0)) aE)) (us:=[.tup [],.int 0]) (t0:=AAA (.str z)) (t2:=none) rfl rfl x2;have f3:dP C 1 "at" [AAA (.str z),some (.m (rd C L L.length s b)),AAA d]=some (.int L.length,[AAA (.str z),some (.m (rd C L L.length s b)),AAA d]):=by rw[iV,Sz];rfl
  have f4:dP C 1 "words" [AAA (.str z),some (.m (rd C L L.length s b)),AAA d]=some (.lst (sL L),[AAA (.str z),some (.m (rd C L L.length s b)),AAA d]):=by rw[iV,Sz];rfl
  have Ox:=Es (L:=L);refine⟨by simp[Mh,d9,ju,mk,m0,m1,f3,f4,Ox],RW e0 (JN _) x2,?_⟩;obtain⟨sy,dr⟩:=Z4 hr rfl;rw[List.drop_zero,afg,abU] at dr;have e:=OI sy;rw[<-dr] at e;rw[e,show txt L=z from jn]
 | @more d k s b hr hk=>
  obtain⟨x1,x2⟩:=spec hr;have m0:=OW (m:="saying_taken") (gu:=aH (eF (eP cT aq)) (aH (eC (.int 0)) aE)) (us:=[.tup [],.int 0]) (t0:=AAA (.str z)) (t2:=none) rfl x1;have m1:=Wn (m:="saying_taken") (gu:=aH (eF (eP cT aq)) (aH (eC (.int 0)) aE)) (us:=[.tup [],.int 0]) (t0:=AAA (.str z)) (t2:=none) rfl rfl x2;have f3:dP C 1 "at" [AAA (.str z),some (.m (rd C L k s b)),AAA d]=some (.int k,[AAA (.str z),some (.m (rd C L k s b)),AAA d]):=by rw[iV,Sz];rfl
  have f4:dP C 1 "words" [AAA (.str z),some (.m (rd C L k s b)),AAA d]=some (.lst (sL L),[AAA (.str z),some (.m (rd C L k s b)),AAA d]):=by rw[iV,Sz];rfl
  have Ox:=Es (L:=L);show Mh C N [.t (.str z)]=some (Ig N k,[]);simp[Mh,d9,ju,mk,m0,m1,f3,f4,Ox,hk,aG,Ig]
 | @bad j hr=>
  obtain⟨o,x1⟩:=spec hr;have m0:=Z5 (m:="saying_taken") (gu:=aH (eF (eP cT aq)) (aH (eC (.int 0)) aE)) (us:=[.tup [],.int 0]) (t0:=AAA (.str z)) (t2:=none) rfl rfl x1;show Mh C N [.t (.str z)]=some (Ig N j,[]);simp[Mh,d9,ju,mk,m0,aG]
variable {L:BBB}{k:Nat}{s b:Int}{w:Str}{bs W:BBB}
def oW (e:L[k]? =some w):jh (sL L) (k:Int)=some (.str w):=Sq.Ei (by lia) (by rw[aeS];show(L.map D.str)[k]? =_;rw[abi,e];rfl)
def Uc (z:Str) (W:BBB):zX [.str z,.lst (sL W)]=AAA (.bl (decide (z∈W))):=by
 show(if cF (W.map D.str)<=40 then some (U.t (.bl (inD (.str z) (W.map D.str)))) else none)=_;rw[if_pos (qO W),OQ]
def gm:GS:=
 (aO (ji (iI (qB (eF (eP AI (aa (eF (ao 1)) (aa (oH 0) aq))))) (qB (eF (eP zX (aa (d8 0 (eF (ao 1))) (aa (eF (ao 2)) aq)))))) (cz (eP cE (aa (eF (ao 1)) (aa (eC (.int 1)) aq)))) cW)
 (cz (eP cT (aa (eF (ao 1)) aq))))
def J0:FM:=aQ 3 gm
def WN:∀us r,J0 us=some r->aQ 3 gm us=some r:=fun _ _ h=>h
def EA (e:L[k]? =some w) (h:w∈W):J0 [.t (.lst (sL L)),.t (.int k),.t (.lst (sL W))]=some (.t (.int ((k+1:Nat):Int)),[]):=by
 have lt:=lJ e;have l:((k:Int) < L.length):=by lia
 have a:=oW e;have f:=Uc w W;rw[acB h] at f;simp[J0,aQ,gm,eZ,l,a,f,aG]
def OX (h:Mg L k (·∈W)):J0 [.t (.lst (sL L)),.t (.int k),.t (.lst (sL W))]=some (.t (.tup [.int k]),[]):=by
 cases e:L[k]? with
 | none=>
  have:=acH.mp e;have l:¬((k:Int) < L.length):=by lia
  simp[J0,aQ,gm,eZ,l,aG]
 | some w=>
  have lt:=lJ e;have l:((k:Int) < L.length):=by lia
  have a:=oW e;have f:=Uc w W;rw[abg (h.no w e)] at f;simp[J0,aQ,gm,eZ,l,a,f,aG]
def gn (Cq:FM):GS:=
 (aO (ji (iI (qB (eF (eP AI (aa (eF (ao 1)) (aa (oH 0) aq))))) (qB (eF (aZ Cq (aH (d8 0 (eF (ao 1))) aE))))) (cz (eP cE (aa (eF (ao 1)) (aa (eC (.int 1)) aq)))) cW)
 (cz (eP cT (aa (eF (ao 1)) aq))))
def J1:FM:=aQ 2 (gn nv)
def WO:∀us r,J1 us=some r->aQ 2 (gn nv) us=some r:=fun _ _ h=>h
def EB (e:L[k]? =some w) (h:nameB (.str w)=true):J1 [.t (.lst (sL L)),.t (.int k)]=some (.t (.int ((k+1:Nat):Int)),[]):=by
 have lt:=lJ e;have l:((k:Int) < L.length):=by lia
 have a:=oW e;have f:=Eo h;simp[J1,aQ,gn,eZ,l,a,f,aG]
def OY (hL:Et L) (h:Mg L k fun w=>nameB (.str w)=true):J1 [.t (.lst (sL L)),.t (.int k)]=some (.t (.tup [.int k]),[]):=by
 cases e:L[k]? with
 | none=>
  have:=acH.mp e;have l:¬((k:Int) < L.length):=by lia
  simp[J1,aQ,gn,eZ,l,aG]
 | some w=>
  have lt:=lJ e;have l:((k:Int) < L.length):=by lia
  have a:=oW e;have f:=JP (Et.wd hL e);have hn:nameB (.str w)=false:=by simpa using h.no w e
  rw[hn] at f;simp[J1,aQ,gn,eZ,l,a,f,aG]
def Ud:BBB:=sgn "0123456789"
def J2:Ud=qz.map (·.1):=by decide +kernel
def LK:zu [.str "0123456789"]=AAB (sL Ud):=by
 show(if("0123456789":Str).length<=100000 then some (U.m (.lst ((sgn "0123456789").map D.str))) else none)=_;rw[if_pos (by decide)];rfl
def J3 (z:Str):z∈Ud↔(cG qz z).isSome=true:=by rw[Gm,J2];simp
noncomputable def SD:Rt->D
 | .ok _ k=>.int k
 | .no j=>.tup [.int j]
def cB (aL:FM) (aK:FM):GS:=
 (aO (bR 3 (aZ aL (aH (eF (ao 0)) (aH (eF (ao 1)) (aH (eF (eP c8 (aa (eC (.str "any")) (aa (eC (.str "name")) (aa (eC (.str "less")) (aa (eC (.str "same")) (aa (eC (.str "more")) aq))))))) aE)))))
 (aO (ji (Fj (qB (PD ["tuple"] (eF (ao 3)))) (qB (eF (eP pK (aa (d8 0 (eF (ao 1))) (aa (eC (.str "any")) aq)))))) (cz (ao 3)) cW)
 (aO (ji (qB (eF (eP pK (aa (d8 0 (eF (ao 1))) (aa (eC (.str "name")) aq))))) (cz (aZ aK (aH (eF (ao 0)) (aH (eF (ao 3)) aE)))) cW)
 (cz (aZ aL (aH (eF (ao 0)) (aH (eF (ao 3)) (aH (eF (eP cE (aa (eF (eP zu (aa (eC (.str "0123456789")) aq))) (aa (eF (ao 2)) aq)))) aE))))))))
def J4:FM:=aQ 4 (cB J0 J1)
def WQ:∀us r,J4 us=some r->aQ 4 (cB J0 J1) us=some r:=fun _ _ h=>h
noncomputable def TW:BBB:=["any","name","less","same","more"]
def J5 (hL:Et L) (hb:bs.length<=200){r:Rt}(h:GL L bs k r):J4 [.t (.lst (sL L)),.t (.int k),.t (.lst (sL bs))]=some (.t (SD r),[]):=by
 have tw:∀z,z∈TW↔(z="any"\/z="name"\/z∈qJ):=by intro z;simp[TW,qJ]
 have dg:=LK;have ad:cE [.lst (sL Ud),.lst (sL bs)]=AAB (sL (Ud++bs)):=by
  rw[fP,if_pos (by rw[eZ,eZ,J2];show 10+bs.length<=100000;lia),vB]
 have Ds:∀{z:Str},L[k]? =some z->z∈TW->J0 [.t (.lst (sL L)),.t (.int k),.t (.lst [.str "any",.str "name",.str "less",.str "same",.str "more"])]=some (.t (.int ((k+1:Nat):Int)),[]):=fun e h=>EA (W:=TW) e h;have Ue:Mg L k (·∈TW)->J0 [.t (.lst (sL L)),.t (.int k),.t (.lst [.str "any",.str "name",.str "less",.str "same",.str "more"])]=some (.t (.tup [.int k]),[]):=fun h=>OX (W:=TW) h;have GO:∀n:Int,kK ["tuple"] (.int n)=some false:=fun n=>rfl;have Ug:∀n:Int,kK ["tuple"] (.tup [.int n])=some true:=fun n=>rfl;cases h with
 | none e hk=>
  have f:=Ue ⟨hk,fun w z=>by rw[e] at z;cases z⟩;simp[J4,aQ,cB,f,Ug,aG,SD]
 | any e=>
  have f:=Ds e ((tw _).mpr (.inl rfl));have a:=oW e;simp[J4,aQ,cB,f,GO,a,aG,SD]
 | @name w e e2 hn=>
  have f:=Ds e ((tw _).mpr (.inr (.inl rfl)));have a:=oW e;have g:=EB e2 hn;have ne:¬(("name":Str)="any"):=by decide
  have e1:(((k+1:Nat):Int))=(k:Int)+1:=by lia
  have e3:(((k+1+1:Nat):Int))=(k:Int)+1+1:=by lia
  rw[e1] at f g;rw[e3] at g;simp[J4,aQ,cB,f,GO,a,g,ne,aG,SD]
 | Ex e hn=>
  have f:=Ds e ((tw _).mpr (.inr (.inl rfl)));have a:=oW e;have g:=OY hL hn;have ne:¬(("name":Str)="any"):=by decide
  have e1:(((k+1:Nat):Int))=(k:Int)+1:=by lia
  rw[e1] at f g;simp[J4,aQ,cB,f,GO,a,g,ne,aG,SD]
 | @bad o e n1 n2 n3=>
  have f:=Ue ⟨by have:=lJ e;lia,fun w z q=>by rw[e] at z;cases z;rcases(tw _).mp q with h | h | h;exact n1 h;exact n2 h;exact n3 h⟩;simp[J4,aQ,cB,f,Ug,aG,SD]
 | @num o w i e ho e2 hi=>
  obtain⟨n2,n1⟩:=uD ho;have f:=Ds e ((tw _).mpr (.inr (.inr ho)));have a:=oW e;have g:=EA (W:=Ud++bs) e2 (abV _ ((J3 w).mpr (by rw[hi];rfl)));have e1:(((k+1:Nat):Int))=(k:Int)+1:=by lia
  have e3:(((k+1+1:Nat):Int))=(k:Int)+1+1:=by lia
  rw[e1] at f g;rw[e3] at g;simp[-fP,J4,aQ,cB,f,GO,a,g,n1,n2,dg,ad,aG,SD]
 | @var o w e ho e2 hi hw=>
  obtain⟨n2,n1⟩:=uD ho;have f:=Ds e ((tw _).mpr (.inr (.inr ho)));have a:=oW e;have g:=EA (W:=Ud++bs) e2 (aaw _ hw);have e1:(((k+1:Nat):Int))=(k:Int)+1:=by lia
  have e3:(((k+1+1:Nat):Int))=(k:Int)+1+1:=by lia
  rw[e1] at f g;rw[e3] at g;simp[-fP,J4,aQ,cB,f,GO,a,g,n1,n2,dg,ad,aG,SD]
 | @JR o e ho hn=>
  obtain⟨n2,n1⟩:=uD ho;have f:=Ds e ((tw _).mpr (.inr (.inr ho)));have a:=oW e;have g:=OX (W:=Ud++bs) ⟨hn.le,fun w z q=>hn.no w z (by rcases abP.mp q with q | q;exact .inl ((J3 w).mp q);exact .inr q)⟩;have e1:(((k+1:Nat):Int))=(k:Int)+1:=by lia
  rw[e1] at f g;simp[-fP,J4,aQ,cB,f,GO,a,g,n1,n2,dg,ad,aG,SD]
variable {L:BBB}{k:Nat}{s b:Int}{w:Str}{bs:BBB}
def b6 (bw:FM) (aR:FM) (aL:FM) (aK:FM) (bA:FM):GS:=
 (ji (vM (qB (PD ["tuple"] (eF (ao 7))))) (aO (bR 9 (eP c8 (aa (d8 3 (eC (.int 0))) (aa (d8 3 (eC (.int 1))) (aa (eF (eP nF (aa (d8 3 (eC (.int 2))) (aa (eC (.int 1)) aq)))) aq)))))
 (aO (bR 7 (aZ bA (aH (eF (ao 0)) (aH (eF (ao 7)) (aH (eF (ao 2)) (eU (ao 9) aE))))))
 (aO (zc 3 (eC (.int 0)) (d8 9 (eC (.int 0))))
 (zc 3 (eC (.int 1)) (d8 9 (eC (.int 1))))))) cW)
def gq (bw:FM) (aR:FM) (aL:FM) (aK:FM) (bA:FM):GS:=
 (aO (ji (qB (eF (eP pK (aa (eF (ao 1)) (aa (oH 0) aq))))) (cz (eP cT (aa (eF (ao 1)) aq))) cW)
 (aO (bR 4 (eT (d8 0 (eF (ao 1)))))
 (aO (zc 3 (eC (.int 0)) (eF (eP nF (aa (d8 3 (eC (.int 0))) (aa (eC (.int 1)) aq)))))
 (aO (QH (K0 2 (Be (bName 5) (Be (bName 6) M9))) (eF (aZ bw (aH (eF (ao 4)) aE))))
 (aO (ji (qB (eF (eP zX (aa (eF (ao 4)) (aa (eF (eP cT (aa (eC (.str "each")) (aa (eC (.str "one")) aq)))) aq))))) (zc 3 (eC (.int 1)) (eF (eP nF (aa (d8 3 (eC (.int 1))) (aa (eC (.int 1)) aq))))) cW)
 (aO (ji (Fj (qB (eF (eP pK (aa (eF (ao 5)) (aa (eC (.int 0)) aq))))) (qB (eF (eP AI (aa (Fy C4 3) (aa (eC (.int 0)) aq)))))) (cz (eP cT (aa (eF (ao 1)) aq))) cW)
 (aO (bR 7 (eP cE (aa (eF (ao 1)) (aa (eC (.int 1)) aq))))
 (aO (ji (qB (eF (eP pK (aa (eF (ao 4)) (aa (eC (.str "now")) aq))))) (bR 7 (aZ aR (aH (eF (ao 0)) (aH (eF (ao 7)) (aH (eF (ao 2)) aE))))) (ji (qB (eF (eP pK (aa (eF (ao 4)) (aa (eC (.str "within")) aq))))) (bR 7 (aZ aL (aH (eF (ao 0)) (aH (eF (ao 7)) (aH (eF (eP zu (aa (eC (.str "012345")) aq))) aE))))) (ji (qB (eF (eP zX (aa (eF (ao 4)) (aa (eF (eP cT (aa (eC (.str "each")) (aa (eC (.str "one")) aq)))) aq))))) (aO (bR 7 (aZ aK (aH (eF (ao 0)) (aH (eF (ao 7)) aE))))
 (ji (vM (qB (PD ["tuple"] (eF (ao 7))))) (aO (bR 2 (eP cE (aa (eF (ao 2)) (aa (eF (Bl (eF (ao 0)) (some (eF (ao 7))) (some (eF (eP cE (aa (eF (ao 7)) (aa (eC (.int 1)) aq))))))) aq))))
 (bR 7 (aZ aK (aH (eF (ao 0)) (aH (eF (ao 7)) aE))))) cW)) cW)))
 (aO (uc (bName 8) (sZ (eF (ao 6))) (b6 bw aR aL aK bA))
 (cz (ao 7)))))))))))
def OZ (bw:FM) (aR:FM) (aL:FM) (aK:FM) (bA:FM):GS:=
 (ji (qB (eF (eP pK (aa (eF (ao 1)) (aa (oH 0) aq))))) (cz (eP cT (aa (eF (ao 1)) aq))) cW)
def SE (bw:FM) (aR:FM) (aL:FM) (aK:FM) (bA:FM):GS:=
 (bR 4 (eT (d8 0 (eF (ao 1)))))
def SG (bw:FM) (aR:FM) (aL:FM) (aK:FM) (bA:FM):GS:=
 (zc 3 (eC (.int 0)) (eF (eP nF (aa (d8 3 (eC (.int 0))) (aa (eC (.int 1)) aq)))))
def SH (bw:FM) (aR:FM) (aL:FM) (aK:FM) (bA:FM):GS:=
 (QH (K0 2 (Be (bName 5) (Be (bName 6) M9))) (eF (aZ bw (aH (eF (ao 4)) aE))))
def O0 (bw:FM) (aR:FM) (aL:FM) (aK:FM) (bA:FM):GS:=
 (ji (qB (eF (eP zX (aa (eF (ao 4)) (aa (eF (eP cT (aa (eC (.str "each")) (aa (eC (.str "one")) aq)))) aq))))) (zc 3 (eC (.int 1)) (eF (eP nF (aa (d8 3 (eC (.int 1))) (aa (eC (.int 1)) aq))))) cW)
def Io (bw:FM) (aR:FM) (aL:FM) (aK:FM) (bA:FM):GS:=
 (ji (Fj (qB (eF (eP pK (aa (eF (ao 5)) (aa (eC (.int 0)) aq))))) (qB (eF (eP AI (aa (Fy C4 3) (aa (eC (.int 0)) aq)))))) (cz (eP cT (aa (eF (ao 1)) aq))) cW)
def SI (bw:FM) (aR:FM) (aL:FM) (aK:FM) (bA:FM):GS:=
 (bR 7 (eP cE (aa (eF (ao 1)) (aa (eC (.int 1)) aq))))
def zH (bw:FM) (aR:FM) (aL:FM) (aK:FM) (bA:FM):GS:=
 (ji (qB (eF (eP pK (aa (eF (ao 4)) (aa (eC (.str "now")) aq))))) (bR 7 (aZ aR (aH (eF (ao 0)) (aH (eF (ao 7)) (aH (eF (ao 2)) aE))))) (ji (qB (eF (eP pK (aa (eF (ao 4)) (aa (eC (.str "within")) aq))))) (bR 7 (aZ aL (aH (eF (ao 0)) (aH (eF (ao 7)) (aH (eF (eP zu (aa (eC (.str "012345")) aq))) aE))))) (ji (qB (eF (eP zX (aa (eF (ao 4)) (aa (eF (eP cT (aa (eC (.str "each")) (aa (eC (.str "one")) aq)))) aq))))) (aO (bR 7 (aZ aK (aH (eF (ao 0)) (aH (eF (ao 7)) aE))))
 (ji (vM (qB (PD ["tuple"] (eF (ao 7))))) (aO (bR 2 (eP cE (aa (eF (ao 2)) (aa (eF (Bl (eF (ao 0)) (some (eF (ao 7))) (some (eF (eP cE (aa (eF (ao 7)) (aa (eC (.int 1)) aq))))))) aq))))
 (bR 7 (aZ aK (aH (eF (ao 0)) (aH (eF (ao 7)) aE))))) cW)) cW)))
def WR (bw:FM) (aR:FM) (aL:FM) (aK:FM) (bA:FM):GS:=
 (uc (bName 8) (sZ (eF (ao 6))) (b6 bw aR aL aK bA))
def SJ (bw:FM) (aR:FM) (aL:FM) (aK:FM) (bA:FM):GS:=
 (cz (ao 7))
def O1 (bw:FM) (aR:FM) (aL:FM) (aK:FM) (bA:FM):gq bw aR aL aK bA=aO (OZ bw aR aL aK bA) (aO (SE bw aR aL aK bA) (aO (SG bw aR aL aK bA) (aO (SH bw aR aL aK bA) (aO (O0 bw aR aL aK bA) (aO (Io bw aR aL aK bA) (aO (SI bw aR aL aK bA) (aO (zH bw aR aL aK bA) (aO (WR bw aR aL aK bA) (SJ bw aR aL aK bA))))))))):=rfl
def fR {a b:GS}{S1:SS}(h:a S=some (.nx S1)):aO a b S=b S1:=by unfold aO;rw[h];rfl
def Af {a b:GS}{u:U}{S1:SS}(h:a S=some (.rt u S1)):aO a b S=some (.rt u S1):=by unfold aO;rw[h];rfl
def AV {g:GS}{us:List U}{S0:SS}{d:D}{S':SS}(hS:us.map some++List.replicate (n - us.length) none=S0) (h:g S0=some (.rt (.t d) S')) (ho:aG us S'=some os):aQ n g us=some (.t d,os):=by
 subst hS;show(g _).bind _=_;rw[h];show(aG us S').map _=_;rw[ho];rfl
noncomputable def rm (x y z:Int):MO:=.lst [.int x,.int y,.int z]
section
variable {f5:FM}{r0 r1 r2:Int}{x2 x4 x5 x6 x7 x8 x9:Option U}
abbrev lS (L:BBB) (k:Nat) (x2:Option U) (r0 r1 r2:Int) (x4 x5 x6 x7 x8 x9:Option U):SS:=[AAA (.lst (sL L)),AAC k,x2,some (.b (rm r0 r1 r2)),x4,x5,x6,x7,x8,x9]
abbrev qR (f5:FM) (g:FM->FM->FM->FM->FM->GS):GS:=g kU J4 J0 J1 f5
def rd0:pP (.b (rm r0 r1 r2)) (.int 0)=some (.int r0):=rfl
def rd1:pP (.b (rm r0 r1 r2)) (.int 1)=some (.int r1):=rfl
def rd2:pP (.b (rm r0 r1 r2)) (.int 2)=some (.int r2):=rfl
def Z7:pP (.m (rm r0 r1 r2)) (.int 0)=some (.int r0):=rfl
def Z8:pP (.m (rm r0 r1 r2)) (.int 1)=some (.int r1):=rfl
def wr0 (x:Int):rE (rm r0 r1 r2) (.int 0) (.int x)=some (rm x r1 r2):=rfl
def wr1 (x:Int):rE (rm r0 r1 r2) (.int 1) (.int x)=some (rm r0 x r2):=rfl
def AW (z:Str):zX [.str z,.tup [.str "each",.str "one"]]=AAA (.bl (bX z)):=by
 show(if cF [D.str "each",.str "one"]<=40 then some (U.t (.bl (inD (.str z) [.str "each",.str "one"]))) else none)=_;rw[if_pos (by decide +kernel)];rfl
def J6:C4 [.lst [.int r0,.int r1,.int r2]]=AAC (min r0 (min r1 r2)):=rfl
def ael (e:L[k]? =none) (hk:k<=L.length):qR f5 gq (lS L k x2 r0 r1 r2 none none none none none none)=some (.rt (.t (.tup [.int k])) (lS L k x2 r0 r1 r2 none none none none none none)):=by
 have e1:k=L.length:=by have:=acH.mp e;lia
 show gq _ _ _ _ _ _=_;rw[O1];refine Af ?_;have q:qy (.int (k:Int)) (.int (L.length:Int))=true:=by rw[e1];exact qE _
 simp[-AK,OZ,eZ,q]
def Z9 (e:L[k]? =some w):qR f5 gq (lS L k x2 r0 r1 r2 none none none none none none)=
  (aO (qR f5 Io) (aO (qR f5 SI) (aO (qR f5 zH) (aO (qR f5 WR) (qR f5 SJ))))) (lS L k x2 (r0 - 1) (r1 - bI w) r2 (AAA (.str w)) (AAC (cL w)) (AAA (.lst ((vP w).map D.int))) none none none):=by
 have lt:=lJ e;have q:qy (.int (k:Int)) (.int (L.length:Int))=false:=by
  have:¬((k:Int)=(L.length:Int)):=by lia
  show decide _=false;exact abg this
 have a:=oW e;have sh:=lR w;have s0:qR f5 OZ (lS L k x2 r0 r1 r2 none none none none none none)=some (.nx (lS L k x2 r0 r1 r2 none none none none none none)):=by simp[-AK,OZ,eZ,q]
 have s1:qR f5 SE (lS L k x2 r0 r1 r2 none none none none none none)=some (.nx (lS L k x2 r0 r1 r2 (AAA (.str w)) none none none none none)):=by simp[SE,a]
 have s2:qR f5 SG (lS L k x2 r0 r1 r2 (AAA (.str w)) none none none none none)=some (.nx (lS L k x2 (r0 - 1) r1 r2 (AAA (.str w)) none none none none none)):=by simp[SG,rd0,wr0]
 have s3:qR f5 SH (lS L k x2 (r0 - 1) r1 r2 (AAA (.str w)) none none none none none)=some (.nx (lS L k x2 (r0 - 1) r1 r2 (AAA (.str w)) (AAC (cL w)) (AAA (.lst ((vP w).map D.int))) none none none)):=by
  simp[SH,sh,K0,Be,M9]
 have s4:qR f5 O0 (lS L k x2 (r0 - 1) r1 r2 (AAA (.str w)) (AAC (cL w)) (AAA (.lst ((vP w).map D.int))) none none none)=some (.nx (lS L k x2 (r0 - 1) (r1 - bI w) r2 (AAA (.str w)) (AAC (cL w)) (AAA (.lst ((vP w).map D.int))) none none none)):=by
  have g:=AW w;cases hb:bX w with
  | true=>rw[hb] at g;rw[LD hb];simp[O0,g,rd1,wr1]
  | false=>rw[hb] at g;rw[vR hb,Int.sub_zero];simp[O0,g]
 show gq _ _ _ _ _ _=_;rw[O1];show aO (qR f5 OZ) (aO (qR f5 SE) (aO (qR f5 SG) (aO (qR f5 SH) (aO (qR f5 O0) _)))) _=_;rw[fR s0,fR s1,fR s2,fR s3,fR s4]
def WS {p q r:Int}(h:cL w=0\/p < 0\/q < 0\/r < 0):qR f5 Io (lS L k x2 p q r (AAA (.str w)) (AAC (cL w)) x6 x7 x8 x9)=some (.rt (.t (.tup [.int k])) (lS L k x2 p q r (AAA (.str w)) (AAC (cL w)) x6 x7 x8 x9)):=by
 have mn:=J6 (r0:=p) (r1:=q) (r2:=r);have lk:look (.b (rm p q r))=some (.lst [.int p,.int q,.int r]):=rfl;by_cases h0:cL w=0
 ·simp[Io,h0]
 ·have hm:min p (min q r) < 0:=by rcases h with h | h | h | h;exact absurd h h0;all_goals lia
  simp[Io,h0,lk,mn,hm]
def SK {p q r:Int}(h0:cL w≠0) (hp:0<=p) (hq:0<=q) (hr:0<=r):qR f5 Io (lS L k x2 p q r (AAA (.str w)) (AAC (cL w)) x6 x7 x8 x9)=some (.nx (lS L k x2 p q r (AAA (.str w)) (AAC (cL w)) x6 x7 x8 x9)):=by
 have mn:=J6 (r0:=p) (r1:=q) (r2:=r);have lk:look (.b (rm p q r))=some (.lst [.int p,.int q,.int r]):=rfl;have hm:¬min p (min q r) < 0:=by lia
 simp[Io,h0,lk,mn,hm]
def aem:qR f5 SI (lS L k x2 r0 r1 r2 x4 x5 x6 none x8 x9)=some (.nx (lS L k x2 r0 r1 r2 x4 x5 x6 (AAC ((k+1:Nat):Int)) x8 x9)):=by simp[SI]
def Gs {j:Int}:qR f5 b6 (lS L k x2 r0 r1 r2 x4 x5 x6 (AAA (.tup [.int j])) x8 x9)=some (.nx (lS L k x2 r0 r1 r2 x4 x5 x6 (AAA (.tup [.int j])) x8 x9)):=by
 have Ug:kK ["tuple"] (.tup [.int j])=some true:=rfl;simp[b6,Ug]
def AX (h2:x2=AAA (.lst (sL bs))\/x2=AAB (sL bs)) (h9:vO x9=false) (e:f5 [.t (.lst (sL L)),.t (.int k1),.t (.lst (sL bs)),.b (rm r0 r1 (r2 - 1))]=some (.t fd,[rm x y zz])):
  qR f5 b6 (lS L k x2 r0 r1 r2 x4 x5 x6 (AAC k1) x8 x9)=some (.nx (lS L k (AAA (.lst (sL bs))) x y r2 x4 x5 x6 (AAA fd) x8 (some (.m (rm x y zz))))):=by
 have GO:kK ["tuple"] (.int (k1:Int))=some false:=rfl;have e2:U.m (MO.lst [.int r0,.int r1,.int (r2 - 1)])= .m (rm r0 r1 (r2 - 1)):=rfl;rcases h2 with rfl | rfl
 ·simp[-kr,iy,b6,GO,rd0,rd1,rd2,h9,e2,e,Z7,Z8,wr0,wr1]
 ·simp[-kr,iy,b6,GO,rd0,rd1,rd2,h9,e2,e,Z7,Z8,wr0,wr1]
def XM (h:vO x8=false):bName 8 (.int i) (lS L k x2 r0 r1 r2 x4 x5 x6 x7 x8 x9)=some (lS L k x2 r0 r1 r2 x4 x5 x6 x7 (AAC i) x9):=by simp[-kr,iy,h]
def it6 :sZ (eF (ao 6)) (lS L k x2 r0 r1 r2 x4 x5 (AAA (.lst (ps.map D.int))) x7 x8 x9)=some (ps.map D.int,lS L k x2 r0 r1 r2 x4 x5 (AAA (.lst (ps.map D.int))) x7 x8 x9):=by simp[gG]
def WT :qR f5 WR (lS L k x2 r0 r1 r2 x4 x5 (AAA (.lst (ps.map D.int))) x7 x8 x9)=loop (bName 8) (qR f5 b6) (ps.map D.int) (lS L k x2 r0 r1 r2 x4 x5 (AAA (.lst (ps.map D.int))) x7 x8 x9):=by
 show uc _ _ _ _=_;rw[wL,it6,aag]
theorem AY {j:Int}:∀(ps:BBD) (x8:Option U),vO x8=false->∃y8,loop (bName 8) (qR f5 b6) (ps.map D.int) (lS L k x2 r0 r1 r2 x4 x5 x6 (AAA (.tup [.int j])) x8 x9)=some (.nx (lS L k x2 r0 r1 r2 x4 x5 x6 (AAA (.tup [.int j])) y8 x9))
 | [],x8,_=>⟨x8,rfl⟩
 | p :: ps,x8,h=>by
  obtain⟨y8,e⟩:=AY (j:=j) ps (AAC p) rfl;refine⟨y8,?_⟩;rw[aax,lQ,XM h,aag,Gs];exact e
end
variable {L:BBB}{k:Nat}{s b:Int}{w:Str}{bs:BBB}
def vU:Nat->FM
 | 0=>fun _=>none
 | j+1=>aQ 10 (qR (vU j) gq)
def WU (j:Nat):∀us r,vU (j+1) us=some r->aQ 10 (gq kU J4 J0 J1 (vU j)) us=some r:=fun _ _ h=>h
def O2 (us:List U):vU 0 us=none:=rfl
section
variable {f5:FM}{r0 r1 r2:Int}{x4 x5 x6 x8 x9:Option U}
def vH (n1:w≠"now") (n2:w≠"within") (hb:bX w=false):qR f5 zH (lS L k x2 r0 r1 r2 (AAA (.str w)) x5 x6 x7 x8 x9)=some (.nx (lS L k x2 r0 r1 r2 (AAA (.str w)) x5 x6 x7 x8 x9)):=by
 have g:=AW w;rw[hb] at g;simp[zH,n1,n2,g]
def O3 (e:J4 [.t (.lst (sL L)),.t d7,.t (.lst (sL bs))]=some (.t fd,[])):qR f5 zH (lS L k (AAA (.lst (sL bs))) r0 r1 r2 (AAA (.str "now")) x5 x6 (AAA d7) x8 x9)=some (.nx (lS L k (AAA (.lst (sL bs))) r0 r1 r2 (AAA (.str "now")) x5 x6 (AAA fd) x8 x9)):=by
 simp[zH,e]
def D6:BBB:=sgn "012345"
def SM:zu [.str "012345"]=AAB (sL D6):=by
 show(if("012345":Str).length<=100000 then some (U.m (.lst ((sgn "012345").map D.str))) else none)=_;rw[if_pos (by decide)];rfl
def Uh (z:Str):z∈D6↔R6 z:=by
 have a:∀p∈qz,p.2<=5->p.1∈D6:=by decide +kernel
 have c:∀z∈D6,∃i∈([0,1,2,3,4,5]:BBD),cG qz z=some i:=by decide +kernel
 constructor
 ·intro h;obtain⟨i,hi,e⟩:=c z h;refine⟨i,e,?_⟩;simp only[aao,aa4,acg] at hi;rcases hi with rfl | rfl | rfl | rfl | rfl | rfl <;> decide
 ·rintro⟨i,e,h5⟩;unfold cG at e;obtain⟨p,h1,rfl⟩:=aB e;have q:p.1=z:=by have:=List.find?_some h1;exact aek this
  rw[<-q];exact a p (afN h1) h5
def O4 (e:J0 [.t (.lst (sL L)),.t d7,.t (.lst (sL D6))]=some (.t fd,[])):qR f5 zH (lS L k x2 r0 r1 r2 (AAA (.str "within")) x5 x6 (AAA d7) x8 x9)=some (.nx (lS L k x2 r0 r1 r2 (AAA (.str "within")) x5 x6 (AAA fd) x8 x9)):=by
 have ne:¬(("within":Str)="now"):=by decide
 have ls:=SM;simp[zH,ne,ls,e]
def SN {j:Int}(n1:w≠"now") (n2:w≠"within") (hb:bX w=true) (e:J1 [.t (.lst (sL L)),.t d7]=some (.t (.tup [.int j]),[])):qR f5 zH (lS L k x2 r0 r1 r2 (AAA (.str w)) x5 x6 (AAA d7) x8 x9)=some (.nx (lS L k x2 r0 r1 r2 (AAA (.str w)) x5 x6 (AAA (.tup [.int j])) x8 x9)):=by
 have g:=AW w;rw[hb] at g;have Ug:kK ["tuple"] (.tup [.int j])=some true:=rfl;simp[zH,n1,n2,g,e,Ug]
def J7 {c:BBB}(n1:w≠"now") (n2:w≠"within") (hb:bX w=true) (hl:bs.length+c.length<=100000) (e:J1 [.t (.lst (sL L)),.t d7]=some (.t (.int k1),[])) (hc:L2.cutD (sL L) (some (k1:Int)) (some ((k1:Int)+1))=sL c) (e2:J1 [.t (.lst (sL L)),.t (.int k1)]=some (.t fd,[])):
  qR f5 zH (lS L k (AAA (.lst (sL bs))) r0 r1 r2 (AAA (.str w)) x5 x6 (AAA d7) x8 x9)=some (.nx (lS L k (AAB (sL (bs++c))) r0 r1 r2 (AAA (.str w)) x5 x6 (AAA fd) x8 x9)):=by
 have g:=AW w;rw[hb] at g;have GO:kK ["tuple"] (.int (k1:Int))=some false:=rfl;have ad:cE [.lst (sL bs),.lst (sL c)]=AAB (sL (bs++c)):=by rw[fP,if_pos (by rw[eZ,eZ];exact hl),vB]
 simp[-fP,zH,n1,n2,g,e,GO,hc,ad,e2]
def l9 {d:D}:qR f5 SJ (lS L k x2 r0 r1 r2 x4 x5 x6 (AAA d) x8 x9)=some (.rt (.t d) (lS L k x2 r0 r1 r2 x4 x5 x6 (AAA d) x8 x9)):=by simp[SJ]
def J8 {y:Str}(e:L[k1]? =some y):L2.cutD (sL L) (some (k1:Int)) (some ((k1:Int)+1))=sL [y]:=by
 have lt:=lJ e;unfold L2.cutD;have a1:HT.iR (sL L).length 0 (some (k1:Int))=k1:=by rw[HT.AG,eZ];lia
 have a2:HT.iR (sL L).length (sL L).length (some ((k1:Int)+1))=k1+1:=by
  have:((k1:Int)+1)=((k1+1:Nat):Int):=by lia
  rw[this,HT.AG,eZ];lia
 rw[a1,a2];show((L.map D.str).drop k1).take (k1+1 - k1)=_;rw[<-af2,gj e,Nat.add_sub_cancel_left];rfl
def SO (e:L[k1]? =none):L2.cutD (sL L) (some (k1:Int)) (some ((k1:Int)+1))=sL []:=by
 have:=acH.mp e;unfold L2.cutD;have a1:HT.iR (sL L).length 0 (some (k1:Int))=L.length:=by rw[HT.AG,eZ];lia
 rw[a1,aeY (by rw[eZ];exact aap _),List.take_nil];rfl
end
def LfS (L:BBB) (j:Nat) (n:Nat) (bs:BBB) (k:Nat) (s b:Int):Rs->Prop
 | .ok _ k' s' b'=>vU j [.t (.lst (sL L)),.t (.int k),.t (.lst (sL bs)),.b (rm (16 - s) (3 - b) ((n:Int) - 1))]=some (.t (.int k'),[rm (16 - s') (3 - b') ((n:Int) - 1)])
 | .no i=>∃x y,vU j [.t (.lst (sL L)),.t (.int k),.t (.lst (sL bs)),.b (rm (16 - s) (3 - b) ((n:Int) - 1))]=some (.t (.tup [.int i]),[rm x y ((n:Int) - 1)])
section

def J9 (e:L[k]? =none) (hk:k<=L.length):vU (j+1) [.t (.lst (sL L)),.t (.int k),.t (.lst (sL bs)),.b (rm r0 r1 r2)]=some (.t (.tup [.int k]),[rm r0 r1 r2]):=
 AV (S0:=lS L k (AAA (.lst (sL bs))) r0 r1 r2 none none none none none none) rfl (ael e hk) rfl
def Gu (e:L[k]? =some w) (h:cL w=0\/r0 - 1 < 0\/r1 - bI w < 0\/r2 < 0):vU (j+1) [.t (.lst (sL L)),.t (.int k),.t (.lst (sL bs)),.b (rm r0 r1 r2)]=some (.t (.tup [.int k]),[rm (r0 - 1) (r1 - bI w) r2]):=
 AV (S0:=lS L k (AAA (.lst (sL bs))) r0 r1 r2 none none none none none none) rfl ((Z9 e).trans (Af (WS h))) rfl
def oX {q0 q1:Int}{f7:D}{x2' y8 x9':Option U}(e:L[k]? =some w) (h0:cL w≠0) (hp:0<=r0 - 1) (hq:0<=r1 - bI w) (hr:0<=r2)
  (e7:qR (vU j) zH (lS L k (AAA (.lst (sL bs))) (r0 - 1) (r1 - bI w) r2 (AAA (.str w)) (AAC (cL w)) (AAA (.lst ((vP w).map D.int))) (AAC ((k+1:Nat):Int)) none none)=some (.nx (lS L k x2 (r0 - 1) (r1 - bI w) r2 (AAA (.str w)) (AAC (cL w)) (AAA (.lst ((vP w).map D.int))) (AAA f7) none none)))
  (e8:loop (bName 8) (qR (vU j) b6) ((vP w).map D.int) (lS L k x2 (r0 - 1) (r1 - bI w) r2 (AAA (.str w)) (AAC (cL w)) (AAA (.lst ((vP w).map D.int))) (AAA f7) none none)=some (.nx (lS L k x2' q0 q1 r2 (AAA (.str w)) (AAC (cL w)) (AAA (.lst ((vP w).map D.int))) (AAA fd) y8 x9'))):
  vU (j+1) [.t (.lst (sL L)),.t (.int k),.t (.lst (sL bs)),.b (rm r0 r1 r2)]=some (.t fd,[rm q0 q1 r2]):=by
 refine AV (S0:=lS L k (AAA (.lst (sL bs))) r0 r1 r2 none none none none none none) rfl (S':=lS L k x2' q0 q1 r2 (AAA (.str w)) (AAC (cL w)) (AAA (.lst ((vP w).map D.int))) (AAA fd) y8 x9') ?_ (by simp);rw[show qR (vU j) gq _=_ from Z9 e,fR (SK h0 hp hq hr),fR aem,fR e7,fR (by rw[WT];exact e8)];exact l9
end
def LM (h:z∈gO):cL z≠0:=by
 have:∀z∈gO,cL z≠0:=by decide +kernel
 exact this z h
def O5 (h:z="yes"\/z="no"):vP z=[]:=by rcases h with rfl | rfl <;> decide +kernel
def Ka:vP "now" =[]:=by decide +kernel
def Kc:vP "within" =[2]:=by decide +kernel
def Ke (h:z∈JF):vP z=[1]:=by rcases kL h with rfl | rfl | rfl | rfl <;> decide +kernel
def EC (h:z∈JH):vP z=[1,2]:=by rcases qL h with rfl | rfl | rfl <;> decide +kernel
def Kf (h:z="each"\/z="one"):vP z=[3]:=by rcases h with rfl | rfl <;> decide +kernel
section
variable {f5:FM}{r0 r1 r2:Int}{x2 x4 x5 x6:Option U}{p0 p1:Int}
def LN (h2:x2=AAA (.lst (sL bs))\/x2=AAB (sL bs)) (e:f5 [.t (.lst (sL L)),.t (.int k1),.t (.lst (sL bs)),.b (rm r0 r1 (r2 - 1))]=some (.t fd,[rm x y zz])):
  loop (bName 8) (qR f5 b6) ([p0].map D.int) (lS L k x2 r0 r1 r2 x4 x5 x6 (AAC k1) none none)=some (.nx (lS L k (AAA (.lst (sL bs))) x y r2 x4 x5 x6 (AAA fd) (AAC p0) (some (.m (rm x y zz))))):=by
 show loop _ _ (D.int p0 :: []) _=_;rw[lQ,XM rfl,aag,AX h2 rfl e];rfl
def aaa {k2:Nat}{x' y' zz':Int}(e:f5 [.t (.lst (sL L)),.t (.int k1),.t (.lst (sL bs)),.b (rm r0 r1 (r2 - 1))]=some (.t (.int k2),[rm x y zz])) (e2:f5 [.t (.lst (sL L)),.t (.int k2),.t (.lst (sL bs)),.b (rm x y (r2 - 1))]=some (.t fd,[rm x' y' zz'])):
  loop (bName 8) (qR f5 b6) ([p0,p1].map D.int) (lS L k (AAA (.lst (sL bs))) r0 r1 r2 x4 x5 x6 (AAC k1) none none)=some (.nx (lS L k (AAA (.lst (sL bs))) x' y' r2 x4 x5 x6 (AAA fd) (AAC p1) (some (.m (rm x' y' zz'))))):=by
 show loop _ _ (D.int p0 :: D.int p1 :: []) _=_;rw[lQ,XM rfl,aag,AX (.inl rfl) rfl e];simp only[aag];rw[lQ,XM rfl,aag,AX (.inl rfl) rfl e2];rfl
def aab {jj:Int}(e:f5 [.t (.lst (sL L)),.t (.int k1),.t (.lst (sL bs)),.b (rm r0 r1 (r2 - 1))]=some (.t (.tup [.int jj]),[rm x y zz])):
  loop (bName 8) (qR f5 b6) ([p0,p1].map D.int) (lS L k (AAA (.lst (sL bs))) r0 r1 r2 x4 x5 x6 (AAC k1) none none)=some (.nx (lS L k (AAA (.lst (sL bs))) x y r2 x4 x5 x6 (AAA (.tup [.int jj])) (AAC p1) (some (.m (rm x y zz))))):=by
 show loop _ _ (D.int p0 :: D.int p1 :: []) _=_;rw[lQ,XM rfl,aag,AX (.inl rfl) rfl e];simp only[aag];rw[lQ,XM rfl,aag,Gs];rfl
end
variable {L:BBB}{k:Nat}{s b:Int}{w:Str}{bs:BBB}
def uL (c:Cn s b w):cL w≠0/\0<=16 - s - 1/\0<=3 - b - bI w/\0<=((n+1:Nat):Int) - 1:=by
 have:=c.sy;have:=c.bn;exact⟨LM c.hd,by lia,by lia,by lia⟩
def Ui {x' y' z z':Int}(h1:x=x') (h2:y=y') (h3:z=z'):rm x y z=rm x' y' z':=by rw[h1,h2,h3]
def Kg (hL:Et L) (h:Rd L n bs k s b r):∀{j:Nat},n+1<=j->bs.length+n<=100->LfS L j n bs k s b r:=by
 induction h with
 | @deep bs k s b hk=>
  intro j hj _;obtain⟨i,rfl⟩:∃i,j=i+1:=⟨j - 1,by lia⟩
  cases e:L[k]? with
  | none=>exact⟨_,_,J9 e hk⟩
  | some w=>exact⟨_,_,Gu e (.inr (.inr (.inr (by lia))))⟩
 | @bad n bs k s b hn=>
  intro j hj _;obtain⟨i,rfl⟩:∃i,j=i+1:=⟨j - 1,by lia⟩
  cases e:L[k]? with
  | none=>exact⟨_,_,J9 e hn.le⟩
  | some w=>
   refine⟨_,_,Gu e ?_⟩;have q:=hn.no w e;by_cases c1:w∈gO
   ·by_cases c2:s+1<=16
    ·have c3:¬b+bI w<=3:=fun z=>q ⟨c1,c2,z⟩;exact .inr (.inr (.inl (by lia)))
    ·exact .inr (.inl (by lia))
   ·exact .inl (zw c1)
 | @leaf n bs k s b z e c hz=>
  intro j hj _;obtain⟨i,rfl⟩:∃i,j=i+1:=⟨j - 1,by lia⟩
  obtain⟨q1,q2,q3,q4⟩:=n6 hz;have n2:z≠"within":=by rcases hz with rfl | rfl <;> decide
  obtain⟨g1,g2,g3,g4⟩:=uL (n:=n) c;have e8:∀{S:SS},loop (bName 8) (qR (vU i) b6) ((vP z).map D.int) S=some (.nx S):=fun {S}=>by rw[O5 hz];rfl
  refine(oX e g1 g2 g3 g4 (vH q4 n2 q3) e8).trans ?_;rw[show rm (16 - s - 1) (3 - b - bI z) (((n+1:Nat):Int) - 1)=rm (16 - (s+1)) (3 - b) (((n+1:Nat):Int) - 1) from Ui (by lia) (by rw[vR q3];lia) rfl]
 | @now n bs k k' s b t e c ht=>
  intro j hj hl;obtain⟨i,rfl⟩:∃i,j=i+1:=⟨j - 1,by lia⟩
  have q3:bX "now" =false:=by decide
  obtain⟨g1,g2,g3,g4⟩:=uL (n:=n) c;have e8:∀{S:SS},loop (bName 8) (qR (vU i) b6) ((vP "now").map D.int) S=some (.nx S):=fun {S}=>by rw[Ka];rfl
  have lt:=J5 (bs:=bs) hL (by lia) ht;refine(oX e g1 g2 g3 g4 (O3 lt) e8).trans ?_;rw[show rm (16 - s - 1) (3 - b - bI "now") (((n+1:Nat):Int) - 1)=rm (16 - (s+1)) (3 - b) (((n+1:Nat):Int) - 1) from Ui (by lia) (by rw[vR q3];lia) rfl];rfl
 | @Gp n bs k jj s b e c ht=>
  intro j hj hl;obtain⟨i,rfl⟩:∃i,j=i+1:=⟨j - 1,by lia⟩
  obtain⟨g1,g2,g3,g4⟩:=uL (n:=n) c;have e8:∀{S:SS},loop (bName 8) (qR (vU i) b6) ((vP "now").map D.int) S=some (.nx S):=fun {S}=>by rw[Ka];rfl
  have lt:=J5 (bs:=bs) hL (by lia) ht;exact⟨_,_,oX e g1 g2 g3 g4 (O3 lt) e8⟩
 | @LA n bs k s b w iv r e c e2 hi h5 _ ih=>
  intro j hj hl;obtain⟨i,rfl⟩:∃i,j=i+1:=⟨j - 1,by lia⟩
  obtain⟨q1,q2,q3,q4⟩:=qN;obtain⟨g1,g2,g3,g4⟩:=uL (n:=n) c;have lw:=EA (W:=D6) e2 ((Uh w).mpr ⟨iv,hi,h5⟩);have e7:=O4 (f5:=vU i) (k:=k) (x2:=AAA (.lst (sL bs))) (r0:=16 - s - 1) (r1:=3 - b - bI "within") (r2:=((n+1:Nat):Int) - 1) (x5:=AAC (cL "within")) (x6:=AAA (.lst ((vP "within").map D.int))) (x8:=none) (x9:=none) lw;have g:=ih (j:=i) (by lia) (by lia);have er:rm (16 - (s+1)) (3 - b) ((n:Int) - 1)=rm (16 - s - 1) (3 - b - bI "within") (((n+1:Nat):Int) - 1 - 1):=Ui (by lia) (by rw[vR q3];lia) (by lia);cases r with
  | no jj=>
   obtain⟨x,y,g⟩:=g;rw[er] at g;exact⟨x,y,oX e g1 g2 g3 g4 e7 (by rw[Kc];exact LN (.inl rfl) g)⟩
  | ok p k1 s1 b1=>
   have g:vU i [.t (.lst (sL L)),.t (.int ((k+1+1:Nat):Int)),.t (.lst (sL bs)),.b (rm (16 - (s+1)) (3 - b) ((n:Int) - 1))]=some (.t (.int k1),[rm (16 - s1) (3 - b1) ((n:Int) - 1)]):=g;rw[er] at g;exact oX e g1 g2 g3 g4 e7 (by rw[Kc];exact LN (.inl rfl) g)
 | @Dp n bs k s b e c hn=>
  intro j hj hl;obtain⟨i,rfl⟩:∃i,j=i+1:=⟨j - 1,by lia⟩
  obtain⟨g1,g2,g3,g4⟩:=uL (n:=n) c;have lw:=OX (W:=D6) ⟨hn.le,fun w z q=>hn.no w z ((Uh w).mp q)⟩;have e7:=O4 (f5:=vU i) (k:=k) (x2:=AAA (.lst (sL bs))) (r0:=16 - s - 1) (r1:=3 - b - bI "within") (r2:=((n+1:Nat):Int) - 1) (x5:=AAC (cL "within")) (x6:=AAA (.lst ((vP "within").map D.int))) (x8:=none) (x9:=none) lw;obtain⟨y8,sk⟩:=AY (f5:=vU i) (L:=L) (k:=k) (x2:=AAA (.lst (sL bs))) (r0:=16 - s - 1) (r1:=3 - b - bI "within") (r2:=((n+1:Nat):Int) - 1) (x4:=AAA (.str "within")) (x5:=AAC (cL "within")) (x6:=AAA (.lst ((vP "within").map D.int))) (x9:=none) (j:=((k+1:Nat):Int)) (vP "within") none rfl;exact⟨_,_,oX e g1 g2 g3 g4 e7 sk⟩
 | @bnd n bs k s b z x v r e c hz e2 hx e3 hv _ ih=>
  intro j hj hl;obtain⟨i,rfl⟩:∃i,j=i+1:=⟨j - 1,by lia⟩
  obtain⟨q1,q2,q3,q4⟩:=j6 hz;have n2:z≠"within":=by rcases hz with rfl | rfl <;> decide
  obtain⟨g1,g2,g3,g4⟩:=uL (n:=n) c;have l1:=EB e2 hx;have l2:=EB e3 hv;have ct:=J8 e3;have e7:=J7 (f5:=vU i) (k:=k) (bs:=bs) (c:=[v]) (r0:=16 - s - 1) (r1:=3 - b - bI z) (r2:=((n+1:Nat):Int) - 1) (x5:=AAC (cL z)) (x6:=AAA (.lst ((vP z).map D.int))) (x8:=none) (x9:=none) q4 n2 q3 (by rw[acD];lia) l1 ct l2;have g:=ih (j:=i) (by lia) (by rw[aaB,acD];lia);have er:rm (16 - (s+1)) (3 - (b+1)) ((n:Int) - 1)=rm (16 - s - 1) (3 - b - bI z) (((n+1:Nat):Int) - 1 - 1):=Ui (by lia) (by rw[LD q3];lia) (by lia);cases r with
  | no jj=>
   obtain⟨x,y,g⟩:=g;rw[er] at g;exact⟨x,y,oX e g1 g2 g3 g4 e7 (by rw[Kf hz];exact LN (.inr rfl) g)⟩
  | ok p k1 s1 b1=>
   have g:vU i [.t (.lst (sL L)),.t (.int ((k+1+1+1:Nat):Int)),.t (.lst (sL (bs++[v]))),.b (rm (16 - (s+1)) (3 - (b+1)) ((n:Int) - 1))]=some (.t (.int k1),[rm (16 - s1) (3 - b1) ((n:Int) - 1)]):=g;rw[er] at g;exact oX e g1 g2 g3 g4 e7 (by rw[Kf hz];exact LN (.inr rfl) g)
 | @zE n bs k s b z e c hz hn=>
  intro j hj hl;obtain⟨i,rfl⟩:∃i,j=i+1:=⟨j - 1,by lia⟩
  obtain⟨q1,q2,q3,q4⟩:=j6 hz;have n2:z≠"within":=by rcases hz with rfl | rfl <;> decide
  obtain⟨g1,g2,g3,g4⟩:=uL (n:=n) c;have l1:=OY hL hn;have e7:=SN (f5:=vU i) (k:=k) (x2:=AAA (.lst (sL bs))) (r0:=16 - s - 1) (r1:=3 - b - bI z) (r2:=((n+1:Nat):Int) - 1) (x5:=AAC (cL z)) (x6:=AAA (.lst ((vP z).map D.int))) (x8:=none) (x9:=none) q4 n2 q3 l1;obtain⟨y8,sk⟩:=AY (f5:=vU i) (L:=L) (k:=k) (x2:=AAA (.lst (sL bs))) (r0:=16 - s - 1) (r1:=3 - b - bI z) (r2:=((n+1:Nat):Int) - 1) (x4:=AAA (.str z)) (x5:=AAC (cL z)) (x6:=AAA (.lst ((vP z).map D.int))) (x9:=none) (j:=((k+1:Nat):Int)) (vP z) none rfl;exact⟨_,_,oX e g1 g2 g3 g4 e7 sk⟩
 | @zF n bs k s b z x e c hz e2 hx hn=>
  intro j hj hl;obtain⟨i,rfl⟩:∃i,j=i+1:=⟨j - 1,by lia⟩
  obtain⟨q1,q2,q3,q4⟩:=j6 hz;have n2:z≠"within":=by rcases hz with rfl | rfl <;> decide
  obtain⟨g1,g2,g3,g4⟩:=uL (n:=n) c;have l1:=EB e2 hx;have l2:=OY hL hn;obtain⟨cc,hc1,ct⟩:∃cc:BBB,cc.length<=1/\L2.cutD (sL L) (some ((k+1+1:Nat):Int)) (some (((k+1+1:Nat):Int)+1))=sL cc:=by
   cases e3:L[k+1+1]? with
   | none=>exact⟨[],by simp,SO e3⟩
   | some y=>exact⟨[y],by simp,J8 e3⟩
  have e7:=J7 (f5:=vU i) (k:=k) (bs:=bs) (c:=cc) (r0:=16 - s - 1) (r1:=3 - b - bI z) (r2:=((n+1:Nat):Int) - 1) (x5:=AAC (cL z)) (x6:=AAA (.lst ((vP z).map D.int))) (x8:=none) (x9:=none) q4 n2 q3 (by lia) l1 ct l2;obtain⟨y8,sk⟩:=AY (f5:=vU i) (L:=L) (k:=k) (x2:=AAB (sL (bs++cc))) (r0:=16 - s - 1) (r1:=3 - b - bI z) (r2:=((n+1:Nat):Int) - 1) (x4:=AAA (.str z)) (x5:=AAC (cL z)) (x6:=AAA (.lst ((vP z).map D.int))) (x9:=none) (j:=((k+1+1:Nat):Int)) (vP z) none rfl;exact⟨_,_,oX e g1 g2 g3 g4 e7 sk⟩
 | @one n bs k s b z r e c hz _ ih=>
  intro j hj hl;obtain⟨i,rfl⟩:∃i,j=i+1:=⟨j - 1,by lia⟩
  obtain⟨q1,q2,q3,q4⟩:=qM hz;have n2:z≠"within":=by rcases kL hz with rfl | rfl | rfl | rfl <;> decide
  obtain⟨g1,g2,g3,g4⟩:=uL (n:=n) c;have g:=ih (j:=i) (by lia) (by lia);have er:rm (16 - (s+1)) (3 - b) ((n:Int) - 1)=rm (16 - s - 1) (3 - b - bI z) (((n+1:Nat):Int) - 1 - 1):=Ui (by lia) (by rw[vR q3];lia) (by lia);cases r with
  | no jj=>
   obtain⟨x,y,g⟩:=g;rw[er] at g;exact⟨x,y,oX e g1 g2 g3 g4 (vH q4 n2 q3) (by rw[Ke hz];exact LN (.inl rfl) g)⟩
  | ok p k1 s1 b1=>
   have g:vU i [.t (.lst (sL L)),.t (.int ((k+1:Nat):Int)),.t (.lst (sL bs)),.b (rm (16 - (s+1)) (3 - b) ((n:Int) - 1))]=some (.t (.int k1),[rm (16 - s1) (3 - b1) ((n:Int) - 1)]):=g;rw[er] at g;exact oX e g1 g2 g3 g4 (vH q4 n2 q3) (by rw[Ke hz];exact LN (.inl rfl) g)
 | @two n bs k k1 s b s1 b1 z p r e c hz _ _ ih1 ih=>
  intro j hj hl;obtain⟨i,rfl⟩:∃i,j=i+1:=⟨j - 1,by lia⟩
  obtain⟨q1,q2,q3,q4⟩:=mO hz;have n2:z≠"within":=oU hz;obtain⟨g1,g2,g3,g4⟩:=uL (n:=n) c;have ga:vU i [.t (.lst (sL L)),.t (.int ((k+1:Nat):Int)),.t (.lst (sL bs)),.b (rm (16 - (s+1)) (3 - b) ((n:Int) - 1))]=some (.t (.int k1),[rm (16 - s1) (3 - b1) ((n:Int) - 1)]):=ih1 (j:=i) (by lia) (by lia);have g:=ih (j:=i) (by lia) (by lia);have er:rm (16 - (s+1)) (3 - b) ((n:Int) - 1)=rm (16 - s - 1) (3 - b - bI z) (((n+1:Nat):Int) - 1 - 1):=Ui (by lia) (by rw[vR q3];lia) (by lia);have er2:rm (16 - s1) (3 - b1) ((n:Int) - 1)=rm (16 - s1) (3 - b1) (((n+1:Nat):Int) - 1 - 1):=Ui rfl rfl (by lia);rw[er,er2] at ga;cases r with
  | no jj=>
   obtain⟨x,y,g⟩:=g;rw[er2] at g;exact⟨x,y,oX e g1 g2 g3 g4 (vH q4 n2 q3) (by rw[EC hz];exact aaa ga g)⟩
  | ok q k2 s2 b2=>
   have g:vU i [.t (.lst (sL L)),.t (.int (k1:Int)),.t (.lst (sL bs)),.b (rm (16 - s1) (3 - b1) ((n:Int) - 1))]=some (.t (.int k2),[rm (16 - s2) (3 - b2) ((n:Int) - 1)]):=g;rw[er2] at g;exact oX e g1 g2 g3 g4 (vH q4 n2 q3) (by rw[EC hz];exact aaa ga g)
 | @Gq n bs k jj s b z e c hz _ ih1=>
  intro j hj hl;obtain⟨i,rfl⟩:∃i,j=i+1:=⟨j - 1,by lia⟩
  obtain⟨q1,q2,q3,q4⟩:=mO hz;have n2:z≠"within":=oU hz;obtain⟨g1,g2,g3,g4⟩:=uL (n:=n) c;obtain⟨x,y,g⟩:=ih1 (j:=i) (by lia) (by lia);have er:rm (16 - (s+1)) (3 - b) ((n:Int) - 1)=rm (16 - s - 1) (3 - b - bI z) (((n+1:Nat):Int) - 1 - 1):=Ui (by lia) (by rw[vR q3];lia) (by lia);rw[er] at g;exact⟨x,y,oX e g1 g2 g3 g4 (vH q4 n2 q3) (by rw[EC hz];exact aab g)⟩
section
variable (S:SS)(g:GE)(i:Nat)(q:GT)
@[simp] theorem aeo (tb:List (Addr×Bool)):Co tb g S=(g S).bind fun p=>match p.1 with | .x C _=>(tb.lookup C).map fun b=>(.bl b,p.2) | _=>none:=rfl
@[simp] theorem abj (cl:BBE) (f:Str):N7 cl f g S=(g S).bind fun p=>match p.1 with | .x C k=>if C∈cl then(k.lookup f).map fun d=>(d,p.2) else none | _=>none:=rfl
@[simp] theorem abk:Oa g S=(g S).bind fun p=>match p.1 with | .x _ _=>some (false,p.2) | .t d=>some (zq d,p.2) | _=>none:=rfl
@[simp] theorem abl:Jt i g S=(g S).bind fun p=>match p.1 with | .x C k=>(sY i (.x C k) p.2).map .nx | _=>none:=rfl
@[simp] theorem abm (C:Addr) (k:List (Str×D)):resolve S (.x C k)=some (.x C k):=rfl
@[simp] theorem aep (C:Addr) (k:List (Str×D)) (us:List U):slotsOf (.x C k :: us)=slotsOf us:=rfl
@[simp] theorem aer (C:Addr) (k:List (Str×D)) (us:List U):bE (.x C k :: us)=bE us:=rfl
@[simp] theorem aes (C:Addr) (k:List (Str×D)) (us:List U) (os:List MO):wb (.x C k :: us) os S=wb us os S:=by cases os <;> rfl
@[simp] theorem abn (C:Addr) (k:List (Str×D)) (us:List U) (x:Option U):aG (.x C k :: us) (x :: S)=aG us S:=by cases x <;> rfl
@[simp] theorem abo (f:FX) (gu:GU):yy f gu S=(gu S).bind fun p=>if(slotsOf p.1).Nodup/\bE p.1<=1 then(bh p.2 p.1).bind fun us=>(f us).bind fun r=>(wb p.1 r.2 p.2).map fun S2=>(r.1,S2) else none:=rfl
@[simp] theorem abp (f:List D->Option U) (gd:GD):FH f i gd S=match S[i]? with
 | some (some _)=>(gd S).bind fun p=>(match p.2[i]? with
  | some (some u)=>(look u).bind fun d=>(match f [d,p.1] with
   | some (.t e)=>if sP e=true then some (e,p.2) else none
   | _=>none)
  | _=>none)
 | _=>none:=rfl
end
def oY (bu:Addr):GS:=
 (aO (bR 1 (eP c8 (aa (Co [(bu,false)] (ao 0)) aq)))
 (aO (mH (eT (eM 1 hAppend (aa (Co [(bu,false)] (ao 0)) aq))))
 (aO (ji (Fj (qB (FH QO 1 (eF (eP c8 (aa (eC (.bl false)) (aa (eC (.bl false)) aq)))))) (Fj (vM (qB (Co [(bu,true)] (ao 0)))) (vM (qB (Co [(bu,true)] (ao 0)))))) (cz (eP M7 (aa (eC (.int 1)) aq))) cW)
 (cz (eT (N7 [bu] "at" (ao 0)))))))
def LO (C:Addr):FM:=aQ 2 (oY C)
def SQ (C:Addr):∀us r,LO C us=some r->aQ 2 (oY C) us=some r:=fun _ _ h=>h
def WV (C:Addr) (j:Int):LO C [.x C [((Str.ofString "at"),D.int j)]]=some (.t (.int j),[]):=by
 have e1:look (.m (.lst [.bl false,.bl false]))=some (.lst [.bl false,.bl false]):=rfl;have e2:QO [.lst [.bl false,.bl false],.lst [.bl false,.bl false]]=AAA (.bl false):=by kernel_rfl
 simp[-NK,LO,aQ,oY,hAppend,e1,e2,sP,List.lookup]
theorem O6 (i:Nat) (cl:BBE) (gb:GS) (gx:GX) (gs:GS) (S:SS):N4 i cl gb gx gs S=match gx S with
 | some (r,S1)=>if r.1∈cl then(sY i (.x r.1 r.2) S1).bind fun S2=>(gs S2).bind fun o=>match o with
  | .nx S3=>some (.nx (S3.set i none))
  | .rt (.t d) S3=>some (.rt (.t d) (S3.set i none))
  | _=>none else none
 | none=>gb S:=rfl
variable {C N:Addr}{L:BBB}
noncomputable def XN:BBS->D
 | none=>.cM
 | some j=>.int j
def gw (bA:FM):GS:=
 (aO (bR 1 (eP jO (aa (eF (ao 0)) (aa (eC (.str " ")) aq))))
 (aO (bR 2 (aZ bA (aH (eF (ao 1)) (aH (eC (.int 0)) (aH (eF (eP c8 aq)) (eU (eP c8 (aa (eC (.int 16)) (aa (eC (.int 3)) (aa (eC (.int 7)) aq)))) aE))))))
 (aO (ji (qB (PD ["tuple"] (eF (ao 2)))) (cz (eT (d8 2 (eC (.int 0))))) cW)
 (cz (eIf (qB (eF (eP AI (aa (eF (ao 2)) (aa (oH 1) aq))))) (ao 2) (eT (eC .cM)))))))
def Uj:FM:=aQ 3 (gw (vU 9))
def WW:∀us r,Uj us=some r->aQ 3 (gw (vU 9)) us=some r:=fun _ _ h=>h
def aac {d:D}(hz:z.length<=9000) (h:Tf (Txt.split z " ") ft d):Uj [.t (.str z)]=some (.t (XN ft),[]):=by
 have hL:=OV hz;have e0:jO [.str z,.str " "]=AAB (sL (Txt.split z " ")):=Dq (by lia);generalize Txt.split z " " =L at *;have GO:∀n:Int,kK ["tuple"] (.int n)=some false:=fun n=>rfl;have Ug:∀n:Int,kK ["tuple"] (.tup [.int n])=some true:=fun n=>rfl;have a0:∀n:Int,jh [D.int n] 0=some (.int n):=fun n=>rfl;have ok:∀{d:D}{k:Nat}{s b:Int},Rd L 8 [] 0 0 0 (.ok d k s b)->∃o,vU 9 [.t (.lst (sL L)),.t (.int 0),.t (.lst []),.b (.lst [.int 16,.int 3,.int 7])]=some (.t (.int k),[o]):=fun hr=>⟨_,Kg hL hr (j:=9) (by decide) (by decide)⟩
 cases h with
 | @good d s b hr=>
  obtain⟨o,g⟩:=ok hr;have lt:¬((L.length:Int) < L.length):=by lia
  simp[Uj,aQ,gw,e0,g,GO,eZ,lt,aG,XN]
 | @more d k s b hr hk=>
  obtain⟨o,g⟩:=ok hr;have lt:((k:Int) < L.length):=by lia
  simp[Uj,aQ,gw,e0,g,GO,eZ,lt,aG,XN]
 | @bad j hr=>
  obtain⟨x,y,g⟩:=Kg hL hr (j:=9) (by decide) (by decide);have g:vU 9 [.t (.lst (sL L)),.t (.int 0),.t (.lst []),.b (.lst [.int 16,.int 3,.int 7])]=some (.t (.tup [.int j]),[rm x y 7]):=g;simp[Uj,aQ,gw,e0,g,Ug,a0,aG,XN]
def nN (zI:FM) (ED:FM) (v8:FM) (WX:FM) (EE:FX) (bu:Addr):GS:=
 (aO (bR 1 (aZ zI (aH (eF (ao 0)) aE)))
 (aO (bR 2 (eT (eC .cM)))
 (aO (bR 3 (eT (eC .cM)))
 (aO (N4 4 [bu] (bR 3 (aZ ED (aH (eF (ao 0)) aE))) (yy EE (aH (eF (ao 0)) aE)) (Jt 2 (ao 4)))
 (aO (ji (qB (eF (eP yw (aa (eF (ao 1)) (aa (eC .cM) aq))))) (cz (eT (eQ (iI (qB (Gb true (ao 2))) (iI (qB (eF (eP pK (aa (eF (aZ v8 (eU (ao 2) aE))) (aa (eF (ao 1)) aq))))) (qB (eQ (vM (qB (PD ["bool"] (eF (aZ v8 (eU (ao 2) aE))))))))))))) cW)
 (cz (eT (eQ (iI (qB (Gb false (ao 2))) (qB (eF (eP pK (aa (eF (aZ WX (aH (eF (ao 3)) aE))) (aa (eF (ao 0)) aq))))))))))))))
def wX (C N:Addr):FM:=aQ 5 (nN Uj (ZX C) (LO N) zD (Mh C N) N)
def LP (C N:Addr):∀us r,wX C N us=some r->aQ 5 (nN Uj (ZX C) (LO N) zD (Mh C N) N) us=some r:=fun _ _ h=>h
@[simp] theorem abq (n:Bool) (g:GE) (S:SS):Gb n g S=(Oa g S).map fun p=>(.bl (n != p.1),p.2):=rfl
def O7 (hz:z.length<=9000):wX C N [.t (.str z)]=some (.t (.bl true),[]):=by
 obtain⟨ft,d,h⟩:=WM (Txt.split z " ");have e1:=aac hz h;have e2:=SA (C:=C) (N:=N) hz h;cases ft with
 | none=>
  obtain⟨x1,x2,x3⟩:=e2;simp[wX,aQ,nN,e1,O6,x1,x2,x3,XN,yw,FG,zq]
 | some j=>
  have x1:Mh C N [.t (.str z)]=some (Ig N j,[]):=e2;unfold Ig at x1;have e3:=WV N j;have GO:kK ["bool"] (.int (j:Int))=some false:=rfl;simp[wX,aQ,nN,e1,O6,x1,e3,GO,XN,yw,FG]
def jd (au:FM):GS:=
 (aO (bR 2 (aZ au (eU (ao 0) (aH (oH 1) aE))))
 (aO (bR 3 (eP c8 (aa (eC (.str "yes")) (aa (eC (.str "no")) (aa (eC (.str "now")) (aa (eC (.str "not")) (aa (eC (.str "both")) (aa (eC (.str "either")) (aa (eC (.str "next")) (aa (eC (.str "till")) (aa (eC (.str "within")) (aa (eC (.str "always")) (aa (eC (.str "some")) (aa (eC (.str "each")) (aa (eC (.str "one")) aq)))))))))))))))
 (aO (bR 3 (eP cE (aa (eF (ao 3)) (aa (eF (eP c8 (aa (eC (.str "any")) (aa (eC (.str "name")) (aa (eC (.str "less")) (aa (eC (.str "x")) (aa (eC (.str "a")) (aa (eC (.str "0")) (aa (eC (.str "5")) (aa (eC (.str "6")) (aa (eC (.str "9")) (aa (eC (.str "")) (aa (eC (.str "10")) (aa (eC (.str "A")) (aa (eC (.str "-1")) (aa (eC (.str "ninesigns")) aq)))))))))))))))) aq))))
 (aO (bR 4 (eT (d8 3 (eF (aZ au (eU (ao 0) (aH (oH 3) aE)))))))
 (aO (bR 5 (aZ au (eU (ao 0) (aH (eC (.int 8)) aE))))
 (aO (ji (qB (eF (eP pK (aa (eF (ao 5)) (aa (eC (.int 0)) aq))))) (cz (eP cE (aa (eF (Bl (eF (ao 1)) none (some (eF (ao 2))))) (aa (eF (Bl (eF (ao 1)) (some (eF (eP cE (aa (eF (ao 2)) (aa (eC (.int 1)) aq))))) none)) aq)))) cW)
 (aO (ji (qB (eF (eP AI (aa (eF (ao 5)) (aa (eC (.int 3)) aq))))) (cz (eP cE (aa (eF (eP cE (aa (eF (Bl (eF (ao 1)) none (some (eF (ao 2))))) (aa (eF (eP c8 (aa (eF (ao 4)) aq))) aq)))) (aa (eF (Bl (eF (ao 1)) (some (eF (eP nF (aa (eF (eP cE (aa (eF (ao 2)) (aa (eF (ao 5)) aq)))) (aa (eC (.int 1)) aq))))) none)) aq)))) cW)
 (aO (ji (qB (eF (eP pK (aa (eF (ao 5)) (aa (eC (.int 3)) aq))))) (cz (Bl (eF (ao 1)) none (some (eF (ao 2))))) cW)
 (aO (ji (qB (eF (eP pK (aa (eF (ao 5)) (aa (eC (.int 4)) aq))))) (cz (eP cE (aa (eF (ao 1)) (aa (eF (eP c8 (aa (eF (ao 4)) aq))) aq)))) cW)
 (aO (ji (qB (eF (eP pK (aa (eF (ao 5)) (aa (eC (.int 5)) aq))))) (cz (eP cE (aa (eF (eP cE (aa (eF (Bl (eF (ao 1)) none (some (eF (ao 2))))) (aa (eF (eP FE (aa (eF (Bl (eF (ao 1)) (some (eF (ao 2))) (some (eF (eP cE (aa (eF (ao 2)) (aa (eC (.int 1)) aq))))))) (aa (eC (.int 2)) aq)))) aq)))) (aa (eF (Bl (eF (ao 1)) (some (eF (eP cE (aa (eF (ao 2)) (aa (eC (.int 1)) aq))))) none)) aq)))) cW)
 (aO (ji (qB (eF (eP pK (aa (eF (ao 5)) (aa (eC (.int 6)) aq))))) (cz (eP cE (aa (eF (eP Ht (aa (eF (eP c8 (aa (eF (eP c8 (aa (eC (.str "always")) aq))) (aa (eF (eP c8 (aa (eC (.str "both")) (aa (eC (.str "yes")) aq)))) (aa (eF (eP c8 (aa (eC (.str "each")) (aa (eC (.str "a")) (aa (eC (.str "x")) aq))))) (aa (eF (eP c8 (aa (eC (.str "within")) (aa (eC (.str "5")) aq)))) aq)))))) (aa (eF (aZ au (eU (ao 0) (aH (eC (.int 4)) aE)))) aq)))) (aa (eF (ao 1)) aq)))) cW)
 (cz (eP cE (aa (eF (eP FE (aa (eF (eP c8 (aa (eC (.str "next")) aq))) (aa (eF (aZ au (eU (ao 0) (aH (eC (.int 9)) aE)))) aq)))) (aa (eF (ao 1)) aq)))))))))))))))
def WY (au:FM):GS:=
 (bR 2 (aZ au (eU (ao 0) (aH (oH 1) aE))))
def WZ (au:FM):GS:=
 (bR 3 (eP c8 (aa (eC (.str "yes")) (aa (eC (.str "no")) (aa (eC (.str "now")) (aa (eC (.str "not")) (aa (eC (.str "both")) (aa (eC (.str "either")) (aa (eC (.str "next")) (aa (eC (.str "till")) (aa (eC (.str "within")) (aa (eC (.str "always")) (aa (eC (.str "some")) (aa (eC (.str "each")) (aa (eC (.str "one")) aq)))))))))))))))
def W0 (au:FM):GS:=
 (bR 3 (eP cE (aa (eF (ao 3)) (aa (eF (eP c8 (aa (eC (.str "any")) (aa (eC (.str "name")) (aa (eC (.str "less")) (aa (eC (.str "x")) (aa (eC (.str "a")) (aa (eC (.str "0")) (aa (eC (.str "5")) (aa (eC (.str "6")) (aa (eC (.str "9")) (aa (eC (.str "")) (aa (eC (.str "10")) (aa (eC (.str "A")) (aa (eC (.str "-1")) (aa (eC (.str "ninesigns")) aq)))))))))))))))) aq))))
def W2 (au:FM):GS:=
 (bR 4 (eT (d8 3 (eF (aZ au (eU (ao 0) (aH (oH 3) aE)))))))
def W3 (au:FM):GS:=
 (bR 5 (aZ au (eU (ao 0) (aH (eC (.int 8)) aE))))
def LQ (au:FM):GS:=
 (ji (qB (eF (eP pK (aa (eF (ao 5)) (aa (eC (.int 0)) aq))))) (cz (eP cE (aa (eF (Bl (eF (ao 1)) none (some (eF (ao 2))))) (aa (eF (Bl (eF (ao 1)) (some (eF (eP cE (aa (eF (ao 2)) (aa (eC (.int 1)) aq))))) none)) aq)))) cW)
def LR (au:FM):GS:=
 (ji (qB (eF (eP AI (aa (eF (ao 5)) (aa (eC (.int 3)) aq))))) (cz (eP cE (aa (eF (eP cE (aa (eF (Bl (eF (ao 1)) none (some (eF (ao 2))))) (aa (eF (eP c8 (aa (eF (ao 4)) aq))) aq)))) (aa (eF (Bl (eF (ao 1)) (some (eF (eP nF (aa (eF (eP cE (aa (eF (ao 2)) (aa (eF (ao 5)) aq)))) (aa (eC (.int 1)) aq))))) none)) aq)))) cW)
def LS (au:FM):GS:=
 (ji (qB (eF (eP pK (aa (eF (ao 5)) (aa (eC (.int 3)) aq))))) (cz (Bl (eF (ao 1)) none (some (eF (ao 2))))) cW)
def LU (au:FM):GS:=
 (ji (qB (eF (eP pK (aa (eF (ao 5)) (aa (eC (.int 4)) aq))))) (cz (eP cE (aa (eF (ao 1)) (aa (eF (eP c8 (aa (eF (ao 4)) aq))) aq)))) cW)
def LV (au:FM):GS:=
 (ji (qB (eF (eP pK (aa (eF (ao 5)) (aa (eC (.int 5)) aq))))) (cz (eP cE (aa (eF (eP cE (aa (eF (Bl (eF (ao 1)) none (some (eF (ao 2))))) (aa (eF (eP FE (aa (eF (Bl (eF (ao 1)) (some (eF (ao 2))) (some (eF (eP cE (aa (eF (ao 2)) (aa (eC (.int 1)) aq))))))) (aa (eC (.int 2)) aq)))) aq)))) (aa (eF (Bl (eF (ao 1)) (some (eF (eP cE (aa (eF (ao 2)) (aa (eC (.int 1)) aq))))) none)) aq)))) cW)
def Dt (au:FM):GS:=
 (ji (qB (eF (eP pK (aa (eF (ao 5)) (aa (eC (.int 6)) aq))))) (cz (eP cE (aa (eF (eP Ht (aa (eF (eP c8 (aa (eF (eP c8 (aa (eC (.str "always")) aq))) (aa (eF (eP c8 (aa (eC (.str "both")) (aa (eC (.str "yes")) aq)))) (aa (eF (eP c8 (aa (eC (.str "each")) (aa (eC (.str "a")) (aa (eC (.str "x")) aq))))) (aa (eF (eP c8 (aa (eC (.str "within")) (aa (eC (.str "5")) aq)))) aq)))))) (aa (eF (aZ au (eU (ao 0) (aH (eC (.int 4)) aE)))) aq)))) (aa (eF (ao 1)) aq)))) cW)
def Kh (au:FM):GS:=
 (cz (eP cE (aa (eF (eP FE (aa (eF (eP c8 (aa (eC (.str "next")) aq))) (aa (eF (aZ au (eU (ao 0) (aH (eC (.int 9)) aE)))) aq)))) (aa (eF (ao 1)) aq))))
def W4 (au:FM):jd au=aO (WY au) (aO (WZ au) (aO (W0 au) (aO (W2 au) (aO (W3 au) (aO (LQ au) (aO (LR au) (aO (LS au) (aO (LU au) (aO (LV au) (aO (Dt au) (Kh au))))))))))):=rfl
def O8 {g:GS}{us:List U}{S0:SS}{o:MO}{S':SS}(hS:us.map some++List.replicate (n - us.length) none=S0) (h:g S0=some (.rt (.m o) S')) (ho:aG us S'=some os):aQ n g us=some (.m o,os):=by
 subst hS;show(g _).bind _=_;rw[h];show(aG us S').map _=_;rw[ho];rfl
noncomputable def mU:BBB:=["yes","no","now","not","both","either","next","till","within","always","some","each","one","any","name","less","x","a","0","5","6","9","","10","A","-1","ninesigns"]
def EF (t:ir):Str:=mU.getD (eY t 27).toNat ""
def LW (t:ir):(EF t).length<=9:=by
 have p:=cj (t:=t) (m:=27) (by lia);have h:∀s∈mU,s.length<=9:=by decide +kernel
 exact h _ (getD_mem (by show(eY t 27).toNat < 27;lia))
def O9 (t:ir):jh (mU.map D.str) (eY t 27)=some (.str (EF t)):=by
 have p:=cj (t:=t) (m:=27) (by lia);rw[NP (x:=D.str "") p.1 (by show eY t 27 < 27;exact p.2)];unfold EF;rw[afJ,afJ,abi];cases mU[(eY t 27).toNat]? <;> rfl
noncomputable def aad:List (BBB):=[["always"],["both","yes"],["each","a","x"],["within","5"]]
def Kl (t:ir):BBB:=aad.getD (eY t 4).toNat []
def SR (t:ir):Ht [.lst [.lst [.str "always"],.lst [.str "both",.str "yes"],.lst [.str "each",.str "a",.str "x"],.lst [.str "within",.str "5"]],.int (eY t 4)]=AAA (.lst ((Kl t).map D.str))/\wt (Kl t)<=20:=by
 have p:=cj (t:=t) (m:=4) (by lia);unfold Kl;generalize eY t 4=i at p;obtain⟨h0,h1⟩:=p;have:i=0\/i=1\/i=2\/i=3:=by lia
 rcases this with rfl | rfl | rfl | rfl <;> exact⟨rfl,by decide⟩
theorem Pa (o:Str):∀n:Nat,wt (List.replicate n o)=n * (o.length+1)
 | 0=>by simp[wt]
 | n+1=>by rw[ab9,rQ,Pa o n,Nat.succ_mul];lia
def Pb (h0:0<=i) (h1:i < 9):FE [.lst [.str "next"],.int i]=AAB ((List.replicate i.toNat ("next":Str)).map D.str):=by
 have:i=0\/i=1\/i=2\/i=3\/i=4\/i=5\/i=6\/i=7\/i=8:=by lia
 rcases this with rfl | rfl | rfl | rfl | rfl | rfl | rfl | rfl | rfl <;> rfl
def SV (a:BBB) (h:wt a<=40000):FE [.lst (a.map D.str),.int 2]=AAB ((a++a).map D.str):=by
 have l:=wW a;show(if(0:Int)<=2/\(2:Int).toNat<=100000/\(a.map D.str).length * (2:Int).toNat<=100000 then some (U.m (.lst (List.replicate (2:Int).toNat (a.map D.str)).flatten)) else none)=_;rw[if_pos ⟨by decide,by decide,by rw[aas];show a.length * 2<=100000;lia⟩,aej];show some (U.m (.lst (a.map D.str++(a.map D.str++[]))))=_;rw[abU]
def bwF:FM:=aQ 6 (jd cV)
def W5:∀us r,bwF us=some r->aQ 6 (jd cV) us=some r:=fun _ _ h=>h
abbrev wS (t:ir) (ts:BBB) (x2 x3 x4 x5:Option U):SS:=[some (.b (.dct (bK t))),AAA (.lst (ts.map D.str)),x2,x3,x4,x5]
section
variable {t0:ir}{ts:BBB}{a v:Int}{o:Str}
def SW (hn:ts≠[]) (hw:wt ts<=10000) (h0:0<=t0.n) (h1:t0.n < 900000):∃(t:ir) (a v:Int) (o:Str),0<=v/\v < 8/\o.length<=9/\t.n=t0.n+3/\
  jd cV (wS t0 ts none none none none)=(aO (LQ cV) (aO (LR cV) (aO (LS cV) (aO (LU cV) (aO (LV cV) (aO (Dt cV) (Kh cV))))))) (wS t ts (AAC a) (AAB (mU.map D.str)) (AAA (.str o)) (AAC v)):=by
 have lw:=wW ts;have lp:1<=ts.length:=by cases ts with | nil=>exact absurd rfl hn | cons _ _=>simp
 have p1:=mK (t:=t0) (m:=(ts.length:Int)) (by lia) (by lia) (by lia) (by lia);have n1:=fG t0 (ts.length:Int);generalize eY t0 (ts.length:Int)=a at p1;generalize dw t0 (ts.length:Int)=t1 at p1 n1;have p2:=mK (t:=t1) (m:=27) (by lia) (by lia) (by lia) (by lia);have n2:=fG t1 27;have oa:=O9 t1;have ol:=LW t1;generalize EF t1=o at oa ol;generalize eY t1 27=i at p2 oa;generalize dw t1 27=t2 at p2 n2;have p3:=mK (t:=t2) (m:=8) (by lia) (by lia) (by lia) (by lia);have r3:=cj (t:=t2) (m:=8) (by lia);have n3:=fG t2 8;generalize eY t2 8=v at p3 r3;generalize dw t2 8=t3 at p3 n3;refine⟨t3,a,v,o,r3.1,r3.2,ol,by lia,?_⟩;have s0:WY cV (wS t0 ts none none none none)=some (.nx (wS t1 ts (AAC a) none none none)):=by simp[WY,p1]
 have s1:WZ cV (wS t1 ts (AAC a) none none none)=some (.nx (wS t1 ts (AAC a) (AAB ((mU.take 13).map D.str)) none none)):=by simp[WZ,mU]
 have s2:W0 cV (wS t1 ts (AAC a) (AAB ((mU.take 13).map D.str)) none none)=some (.nx (wS t1 ts (AAC a) (AAB (mU.map D.str)) none none)):=by simp[W0,mU]
 have s3:W2 cV (wS t1 ts (AAC a) (AAB (mU.map D.str)) none none)=some (.nx (wS t2 ts (AAC a) (AAB (mU.map D.str)) (AAA (.str o)) none)):=by
  have ll:(mU.map D.str).length=27:=rfl;generalize mU.map D.str=LL at oa ll ⊢;simp[W2,ll,p2,oa]
 have s4:W3 cV (wS t2 ts (AAC a) (AAB (mU.map D.str)) (AAA (.str o)) none)=some (.nx (wS t3 ts (AAC a) (AAB (mU.map D.str)) (AAA (.str o)) (AAC v))):=by simp[W3,p3]
 rw[W4,fR s0,fR s1,fR s2,fR s3,fR s4]
def SX {t:ir}{x3:Option U}(hw:wt ts<=10000) (hv:0<=v) (hv2:v < 8) (ho:o.length<=9) (h0:0<=t.n) (h1:t.n < 900000):
  ∃ys t',(aO (LQ cV) (aO (LR cV) (aO (LS cV) (aO (LU cV) (aO (LV cV) (aO (Dt cV) (Kh cV))))))) (wS t ts (AAC a) x3 (AAA (.str o)) (AAC v))=some (.rt (.m (.lst (ys.map D.str))) (wS t' ts (AAC a) x3 (AAA (.str o)) (AAC v)))/\wt ys<=4 * wt ts+60/\t.n<=t'.n/\t'.n<=t.n+1:=by
 have wo:wt [o]=o.length+1:=by simp[wt]
 have c1:=yH ts none (some a);have w1:=BQ ts none (some a);by_cases v0:v=0
 ·subst v0;have c2:=yH ts (some (a+1)) none;have w2:=BQ ts (some (a+1)) none;have ad:=mT (a:=mS ts none (some a)) (b:=mS ts (some (a+1)) none) (by lia);refine⟨mS ts none (some a)++mS ts (some (a+1)) none,t,Af ?_,by rw[kF];lia,by lia,by lia⟩;simp[-fP,-List.map_append,LQ,c1,c2,ad]
 ·have s5:LQ cV (wS t ts (AAC a) x3 (AAA (.str o)) (AAC v))=some (.nx (wS t ts (AAC a) x3 (AAA (.str o)) (AAC v))):=by simp[LQ,v0]
  rw[fR s5];by_cases v1:v < 3
  ·have c2:=yH ts (some (a+v - 1)) none;have w2:=BQ ts (some (a+v - 1)) none;have ad1:cE [.lst ((mS ts none (some a)).map D.str),.lst [.str o]]=AAB ((mS ts none (some a)++[o]).map D.str):=mT (b:=[o]) (by lia);have ad:=mT (a:=mS ts none (some a)++[o]) (b:=mS ts (some (a+v - 1)) none) (by rw[kF];lia);refine⟨mS ts none (some a)++[o]++mS ts (some (a+v - 1)) none,t,Af ?_,by rw[kF,kF];lia,by lia,by lia⟩;simp[-fP,-List.map_append,-List.append_assoc,LR,v1,c1,c2,ad1,ad]
  ·have s6:LR cV (wS t ts (AAC a) x3 (AAA (.str o)) (AAC v))=some (.nx (wS t ts (AAC a) x3 (AAA (.str o)) (AAC v))):=by simp[LR,v1]
   rw[fR s6];by_cases v3:v=3
   ·subst v3;refine⟨mS ts none (some a),t,Af ?_,by lia,by lia,by lia⟩;simp[LS,c1]
   ·have s7:LS cV (wS t ts (AAC a) x3 (AAA (.str o)) (AAC v))=some (.nx (wS t ts (AAC a) x3 (AAA (.str o)) (AAC v))):=by simp[LS,v3]
    rw[fR s7];by_cases v4:v=4
    ·subst v4;have ad:cE [.lst (ts.map D.str),.lst [.str o]]=AAB ((ts++[o]).map D.str):=mT (b:=[o]) (by lia);refine⟨ts++[o],t,Af ?_,by rw[kF];lia,by lia,by lia⟩;simp[-fP,-List.map_append,LU,ad]
    ·have s8:LU cV (wS t ts (AAC a) x3 (AAA (.str o)) (AAC v))=some (.nx (wS t ts (AAC a) x3 (AAA (.str o)) (AAC v))):=by simp[LU,v4]
     rw[fR s8];by_cases v5:v=5
     ·subst v5;have c2:=yH ts (some a) (some (a+1));have c3:=yH ts (some (a+1)) none;have w2:=BQ ts (some a) (some (a+1));have w3:=BQ ts (some (a+1)) none;have rp:=SV (mS ts (some a) (some (a+1))) (by lia);have ad1:=mT (a:=mS ts none (some a)) (b:=mS ts (some a) (some (a+1))++mS ts (some a) (some (a+1))) (by rw[kF];lia);have ad:=mT (a:=mS ts none (some a)++(mS ts (some a) (some (a+1))++mS ts (some a) (some (a+1)))) (b:=mS ts (some (a+1)) none) (by rw[kF,kF];lia);refine⟨mS ts none (some a)++(mS ts (some a) (some (a+1))++mS ts (some a) (some (a+1)))++mS ts (some (a+1)) none,t,Af ?_,by rw[kF,kF,kF];lia,by lia,by lia⟩;simp[-fP,-List.map_append,-List.append_assoc,LV,c1,c2,c3,rp,ad1,ad]
     ·have s9:LV cV (wS t ts (AAC a) x3 (AAA (.str o)) (AAC v))=some (.nx (wS t ts (AAC a) x3 (AAA (.str o)) (AAC v))):=by simp[LV,v5]
      rw[fR s9];by_cases v6:v=6
      ·subst v6;have p1:=mK (t:=t) (m:=4) (by lia) (by lia) (by lia) (by lia);have n1:=fG t 4;obtain⟨ha,hb⟩:=SR t;generalize Kl t=hh at ha hb;generalize eY t 4=i at p1 ha;generalize dw t 4=t1 at p1 n1;have ad:=mT (a:=hh) (b:=ts) (by lia);refine⟨hh++ts,t1,Af ?_,by rw[kF];lia,by lia,by lia⟩;simp[-Rb,-fP,-List.map_append,Dt,p1,ha,ad]
      ·have s10:Dt cV (wS t ts (AAC a) x3 (AAA (.str o)) (AAC v))=some (.nx (wS t ts (AAC a) x3 (AAA (.str o)) (AAC v))):=by simp[Dt,v6]
       rw[fR s10];have p1:=mK (t:=t) (m:=9) (by lia) (by lia) (by lia) (by lia);have r1:=cj (t:=t) (m:=9) (by lia);have n1:=fG t 9;generalize eY t 9=i at p1 r1;generalize dw t 9=t1 at p1 n1;have rp:=Pb r1.1 r1.2;have wr:=Pa "next" i.toNat;have l4:("next":Str).length=4:=rfl;rw[l4] at wr;have hi:i.toNat<=8:=by lia
       have ad:=mT (a:=List.replicate i.toNat ("next":Str)) (b:=ts) (by lia);refine⟨List.replicate i.toNat ("next":Str)++ts,t1,?_,by rw[kF];lia,by lia,by lia⟩;generalize List.replicate i.toNat ("next":Str)=nx at rp ad;simp[-fP,-List.map_append,Kh,p1,rp,ad]
end
structure aeu (t:ir) (ts ys:BBB) (t':ir):Prop where
 run:bwF [.b (.dct (bK t)),.t (.lst (ts.map D.str))]=some (.m (.lst (ys.map D.str)),[.dct (bK t')])
 ln:wt ys<=4 * wt ts+60
 lo:t.n<=t'.n
 hi:t'.n<=t.n+4
def Uk {t:ir}{ts:BBB}(hn:ts≠[]) (hw:wt ts<=10000) (h0:0<=t.n) (h1:t.n < 800000):∃ys t',aeu t ts ys t':=by
 obtain⟨t1,a,v,o,hv,hv2,ho,n1,e1⟩:=SW hn hw h0 (by lia);obtain⟨ys,t2,e2,hl,n2,n3⟩:=SX (t:=t1) (a:=a) (x3:=AAB (mU.map D.str)) hw hv hv2 ho (by lia) (by lia);exact⟨ys,t2,⟨O8 (S0:=wS t ts none none none none) rfl (e1.trans e2) rfl,hl,by lia,by lia⟩⟩
def Pc {d:D}(h:Sy n bs d):(vQ n d).length<=3 * iJ n d:=by
 induction h with
 | @leaf n bs z hz=>
  have z1:iJ (n+1) (.tup [.str z])=1:=by rw[zC (pl:=[]) (Dm (n6 hz).2.1 rfl)];rfl
  rw[BK,z1];simp
 | @now n bs t ht=>
  have z1:iJ (n+1) (.tup [.str "now",t])=1:=by rw[zC (pl:=[]) (Dm yD.2 rfl)];rfl
  rw[vo,z1];cases ht <;> simp[GH]
 | @one n bs z p hz _ ih=>
  have z1:iJ (n+1) (.tup [.str z,p])=iJ n p+1:=by rw[zC (pl:=[p]) (Dm (qM hz).2.1 rfl),fm1];rfl
  rw[vp (Em hz),z1,aar];lia
 | @two n bs z p q hz _ _ XI XJ=>
  have z1:iJ (n+1) (.tup [.str z,p,q])=iJ n p+iJ n q+1:=by rw[zC (pl:=[p,q]) (Dm (mO hz).2.1 rfl),fm2,aaB];rfl
  rw[vq (oU hz),z1,aar,aaB];lia
 | @LA n bs i p _ _ _ ih=>
  have z1:iJ (n+1) (.tup [.str "within",.int i,p])=iJ n p+1:=by rw[zC (pl:=[p]) (Dm qN.2.1 rfl),fm1];rfl
  rw[vt,z1,aar,aar];lia
 | @bnd n bs z a y p hz _ _ _ ih=>
  have z1:iJ (n+1) (.tup [.str z,.str a,.str y,p])=iJ n p+1:=by rw[zC (pl:=[p]) (Dm (j6 hz).2.1 rfl),fm1];rfl
  rw[vA,z1,aar,aar,aar];lia
theorem Ul:∀{W:BBB},(∀z∈W,Wk z)->wt W<=9 * W.length
 | [],_=>aap _
 | w :: W,h=>by
  have a:=Ul (W:=W) fun z hz=>h z (aaz _ hz);have b:=(h w abf).len;rw[rQ,aar];lia
def BR (aU:FM) (bf:FM) (aV:FM) (aW:FM) (au:FM) (aP:FM) (aD:FM):GS:=
 (ji (vM (qB (eF (aZ aU (aH (eF (ao 2)) aE))))) (cz (eT (eC (.bl false)))) cW)
def Ip (aU:FM) (bf:FM) (aV:FM) (aW:FM) (au:FM) (aP:FM) (aD:FM):GS:=
 (ji (vM (qB (eF (aZ aU (aH (eF (ao 2)) aE))))) (cz (eT (eC (.bl false)))) cW)
def wY (aU:FM) (bf:FM) (aV:FM) (aW:FM) (au:FM) (aP:FM) (aD:FM):GS:=
 (aO (bR 4 (aZ bf (eU (ao 0) (aH (eF (ao 3)) aE))))
 (aO (bR 5 (eP cE (aa (eF (aZ aV aE)) (aa (eF (eP c8 (aa (eC (.str "not")) (aa (eC (.str "now")) (aa (eC (.str "each")) (aa (eC (.str "nows")) (aa (eC (.str "anyone")) (aa (eC (.str "eacha")) aq)))))))) aq))))
 (aO (bR 6 (aZ aW (eU (ao 4) (aH (eF (ao 5)) (aH (eF (eP cE (aa (eC (.int 1)) (aa (eF (aZ au (eU (ao 4) (aH (eC (.int 16)) aE)))) aq)))) (aH (eF (eP cE (aa (eC (.int 1)) (aa (eF (aZ au (eU (ao 4) (aH (eC (.int 8)) aE)))) aq)))) aE))))))
 (aO (bR 7 (aZ aP (aH (eF (ao 6)) aE)))
 (aO (bR 8 (aZ aD (eU (ao 4) (aH (eF (ao 7)) aE))))
 (aO (bR 9 (eP c8 (aa (eF (eP nu (aa (eC (.str " ")) (aa (eF (ao 7)) aq)))) (aa (eF (eP nu (aa (eC (.str " ")) (aa (eF (ao 8)) aq)))) (aa (eC (.str "")) (aa (eF (eP nu (aa (eC (.str " ")) (aa (eF (Nz (eF (ao 8)) (eF (eP M7 (aa (eC (.int 1)) aq))))) aq)))) aq))))))
 (aO (ji (qB (eF (eP QO (aa (eF (ao 8)) (aa (eF (eP c8 aq)) aq))))) (zc 9 (eC (.int 2)) (eF (eP nu (aa (eC (.str " ")) (aa (eF (aZ aD (eU (ao 4) (aH (eF (ao 8)) aE)))) aq))))) cW)
 (uc (bName 2) (sZ (eF (ao 9))) (Ip aU bf aV aW au aP aD)))))))))
def Km (aU:FM) (bf:FM) (aV:FM) (aW:FM) (au:FM) (aP:FM) (aD:FM):GS:=
 (aO (bR 1 (eP c8 (aa (eC (.str "")) (aa (eC (.str " ")) (aa (eC (.str "now")) (aa (eC (.str "yes yes")) (aa (eC (.str "now less x")) (aa (eC (.str "each a x now less y")) (aa (eC (.str "within 6 yes")) (aa (eC (.str "now name 5")) (aa (eC (.str "yes ")) aq)))))))))))
 (aO (uc (bName 2) (sZ (eF (ao 1))) (BR aU bf aV aW au aP aD))
 (aO (uc (bName 3) (ya (aa (eF (eP cE (aa (eC (.int 1)) (aa (eF (eP wA (aa (eF (K7 0 none (some (eC (.int 14))))) aq))) aq)))) aq)) (wY aU bf aV aW au aP aD))
 (cz (eT (eC (.bl true)))))))
def kl0 (aU:FM) (bf:FM) (aV:FM) (aW:FM) (au:FM) (aP:FM) (aD:FM):GS:=
 (bR 1 (eP c8 (aa (eC (.str "")) (aa (eC (.str " ")) (aa (eC (.str "now")) (aa (eC (.str "yes yes")) (aa (eC (.str "now less x")) (aa (eC (.str "each a x now less y")) (aa (eC (.str "within 6 yes")) (aa (eC (.str "now name 5")) (aa (eC (.str "yes ")) aq)))))))))))
def kl1 (aU:FM) (bf:FM) (aV:FM) (aW:FM) (au:FM) (aP:FM) (aD:FM):GS:=
 (uc (bName 2) (sZ (eF (ao 1))) (BR aU bf aV aW au aP aD))
def kl2 (aU:FM) (bf:FM) (aV:FM) (aW:FM) (au:FM) (aP:FM) (aD:FM):GS:=
 (uc (bName 3) (ya (aa (eF (eP cE (aa (eC (.int 1)) (aa (eF (eP wA (aa (eF (K7 0 none (some (eC (.int 14))))) aq))) aq)))) aq)) (wY aU bf aV aW au aP aD))
def kl3 (aU:FM) (bf:FM) (aV:FM) (aW:FM) (au:FM) (aP:FM) (aD:FM):GS:=
 (cz (eT (eC (.bl true))))
def aaf (aU:FM) (bf:FM) (aV:FM) (aW:FM) (au:FM) (aP:FM) (aD:FM):Km aU bf aV aW au aP aD=aO (kl0 aU bf aV aW au aP aD) (aO (kl1 aU bf aV aW au aP aD) (aO (kl2 aU bf aV aW au aP aD) (kl3 aU bf aV aW au aP aD))):=rfl
def kb0 (aU:FM) (bf:FM) (aV:FM) (aW:FM) (au:FM) (aP:FM) (aD:FM):GS:=
 (bR 4 (aZ bf (eU (ao 0) (aH (eF (ao 3)) aE))))
def kb1 (aU:FM) (bf:FM) (aV:FM) (aW:FM) (au:FM) (aP:FM) (aD:FM):GS:=
 (bR 5 (eP cE (aa (eF (aZ aV aE)) (aa (eF (eP c8 (aa (eC (.str "not")) (aa (eC (.str "now")) (aa (eC (.str "each")) (aa (eC (.str "nows")) (aa (eC (.str "anyone")) (aa (eC (.str "eacha")) aq)))))))) aq))))
def kb2 (aU:FM) (bf:FM) (aV:FM) (aW:FM) (au:FM) (aP:FM) (aD:FM):GS:=
 (bR 6 (aZ aW (eU (ao 4) (aH (eF (ao 5)) (aH (eF (eP cE (aa (eC (.int 1)) (aa (eF (aZ au (eU (ao 4) (aH (eC (.int 16)) aE)))) aq)))) (aH (eF (eP cE (aa (eC (.int 1)) (aa (eF (aZ au (eU (ao 4) (aH (eC (.int 8)) aE)))) aq)))) aE))))))
def kb3 (aU:FM) (bf:FM) (aV:FM) (aW:FM) (au:FM) (aP:FM) (aD:FM):GS:=
 (bR 7 (aZ aP (aH (eF (ao 6)) aE)))
def kb4 (aU:FM) (bf:FM) (aV:FM) (aW:FM) (au:FM) (aP:FM) (aD:FM):GS:=
 (bR 8 (aZ aD (eU (ao 4) (aH (eF (ao 7)) aE))))
def kb5 (aU:FM) (bf:FM) (aV:FM) (aW:FM) (au:FM) (aP:FM) (aD:FM):GS:=
 (bR 9 (eP c8 (aa (eF (eP nu (aa (eC (.str " ")) (aa (eF (ao 7)) aq)))) (aa (eF (eP nu (aa (eC (.str " ")) (aa (eF (ao 8)) aq)))) (aa (eC (.str "")) (aa (eF (eP nu (aa (eC (.str " ")) (aa (eF (Nz (eF (ao 8)) (eF (eP M7 (aa (eC (.int 1)) aq))))) aq)))) aq))))))
def W6 (aU:FM) (bf:FM) (aV:FM) (aW:FM) (au:FM) (aP:FM) (aD:FM):GS:=
 (ji (qB (eF (eP QO (aa (eF (ao 8)) (aa (eF (eP c8 aq)) aq))))) (zc 9 (eC (.int 2)) (eF (eP nu (aa (eC (.str " ")) (aa (eF (aZ aD (eU (ao 4) (aH (eF (ao 8)) aE)))) aq))))) cW)
def kb7 (aU:FM) (bf:FM) (aV:FM) (aW:FM) (au:FM) (aP:FM) (aD:FM):GS:=
 (uc (bName 2) (sZ (eF (ao 9))) (Ip aU bf aV aW au aP aD))
def kb_eq (aU:FM) (bf:FM) (aV:FM) (aW:FM) (au:FM) (aP:FM) (aD:FM):wY aU bf aV aW au aP aD=aO (kb0 aU bf aV aW au aP aD) (aO (kb1 aU bf aV aW au aP aD) (aO (kb2 aU bf aV aW au aP aD) (aO (kb3 aU bf aV aW au aP aD) (aO (kb4 aU bf aV aW au aP aD) (aO (kb5 aU bf aV aW au aP aD) (aO (W6 aU bf aV aW au aP aD) (kb7 aU bf aV aW au aP aD))))))):=rfl
abbrev F1 (C N:Addr) (g:FM->FM->FM->FM->FM->FM->FM->GS):GS:=g (wX C N) Bu zm zA cV (nK 9) bwF
def W7:cE [.lst (D7.map D.str),.lst [.str "not",.str "now",.str "each",.str "nows",.str "anyone",.str "eacha"]]=AAB pQ:=rfl
def LX:zm []=some (.m (.lst (D7.map D.str)),[]):=rfl
def Pd {k:Int}(h:0<=k) (h1:k < 1000000) (h2:ns.length < 1000000):Bu [.s ns,.t (.int k)]=some (.m (.dct (bK (FT ns k))),[]):=by simp[Bu,h,h1,h2]
section
variable {C N:Addr}{s0 s1 s3 s4 s5 s6 s7 s8 s9:Option U}
def W8 (hz:z.length<=9000):F1 C N BR [s0,s1,AAA (.str z),s3,s4,s5,s6,s7,s8,s9]=some (.nx [s0,s1,AAA (.str z),s3,s4,s5,s6,s7,s8,s9]):=by
 have e:=O7 (C:=C) (N:=N) hz;simp[BR,e]
theorem Iq:∀(zs:BBB) (x2:Option U),vO x2=false->(∀z∈zs,z.length<=9000)->∃y2,vO y2=false/\loop (bName 2) (F1 C N BR) (zs.map D.str) [s0,s1,x2,s3,s4,s5,s6,s7,s8,s9]=some (.nx [s0,s1,y2,s3,s4,s5,s6,s7,s8,s9])
 | [],x2,h,_=>⟨x2,h,rfl⟩
 | z :: zs,x2,h,hz=>by
  obtain⟨y2,g,e⟩:=Iq zs (AAA (.str z)) rfl fun v hv=>hz v (aaz _ hv);refine⟨y2,g,?_⟩;have b:bName 2 (.str z) [s0,s1,x2,s3,s4,s5,s6,s7,s8,s9]=some [s0,s1,AAA (.str z),s3,s4,s5,s6,s7,s8,s9]:=by simp[-kr,iy,h]
  rw[aax,lQ,b,aag,W8 (hz z abf)];exact e
def W9 (zs:BBB) (x2:Option U) (h:vO x2=false) (hz:∀z∈zs,z.length<=9000):∃y2,vO y2=false/\loop (bName 2) (F1 C N Ip) (zs.map D.str) [s0,s1,x2,s3,s4,s5,s6,s7,s8,s9]=some (.nx [s0,s1,y2,s3,s4,s5,s6,s7,s8,s9]):=Iq zs x2 h hz
end
structure J11 (ns:BBD) (S:SS):Prop where
 ex:∃x1 x2 x3 x4 x5 x6 x7 x8 x9,vO x1=false/\vO x2=false/\vO x3=false/\vO x4=false/\vO x5=false/\vO x6=false/\vO x7=false/\vO x8=false/\vO x9=false/\S=[some (.s ns),x1,x2,x3,x4,x5,x6,x7,x8,x9]
def Xa {k:Int}{x4 x5 x6 x8:Option U}(hk:0<=k) (hk2:k < 1000) (hns:ns.length < 1000) (h4:vO x4=false) (h5:vO x5=false) (h6:vO x6=false) (h7:vO x7=false) (h8:vO x8=false):
  ∃(d:D) (W Y:BBB) (t:ir),wt W<=500/\wt Y<=2100/\0<=t.n/\t.n<=300/\
   F1 C N wY [some (.s ns),x1,x2,AAC k,x4,x5,x6,x7,x8,x9]=(aO (F1 C N kb5) (aO (F1 C N W6) (F1 C N kb7))) [some (.s ns),x1,x2,AAC k,some (.m (.dct (bK t))),AAA (.lst pQ),AAA d,AAA (.lst (W.map D.str)),AAB (Y.map D.str),x9]:=by
 have e0:=Pd (ns:=ns) (k:=k) hk (by lia) (by lia);generalize ht0:FT ns k=t0 at e0;have n0:t0.n=0:=by rw[<-ht0];rfl
 have p1:=mK (t:=t0) (m:=16) (by lia) (by lia) (by lia) (by lia);obtain⟨a0,a1⟩:=cj (t:=t0) (m:=16) (by lia);have t1n:(dw t0 16).n=t0.n+1:=fG t0 16;generalize eY t0 16=a at *;generalize dw t0 16=t1 at *;have p2:=mK (t:=t1) (m:=8) (by lia) (by lia) (by lia) (by lia);obtain⟨c0,c1⟩:=cj (t:=t1) (m:=8) (by lia);have XH:(dw t1 8).n=t1.n+1:=fG t1 8;generalize eY t1 8=c at *;generalize dw t1 8=t2 at *;obtain⟨d,t3,e3,sb,_,_,m1,m2⟩:=Lz (t:=t2) (room:=(1+a).toNat) (deep:=(1+c).toNat) (by lia) (by lia) (by lia) (by lia) (by lia) (by lia);rw[Int.toNat_of_nonneg (by lia),Int.toNat_of_nonneg (by lia)] at e3;have e3:zA [.b (.dct (bK t2)),.t (.lst pQ),.t (.int (1+a)),.t (.int (1+c))]=some (.t d,[.dct (bK t3)]):=e3;have sb:(kC 8 [] d && (decide (iJ 8 d<=16) && decide (As 8 d<=3)))=true:=sb;simp only[abt,abO] at sb;have sy:=Sy.of sb.1;have e4:nK 9 [.t d]=some (.m (.lst ((vQ 8 d).map D.str)),[]):=LG sy (by lia) (by lia);have wk:=T9 sy (by simp);have w1:=Ul wk.1;have w2:=Pc sy;have w3:wt (vQ 8 d)<=432:=by have:=sb.2.1;lia
 obtain⟨Y,t4,B⟩:=Uk (t:=t3) wk.2 (by lia) (by lia) (by lia);have e5:=B.run;have bl:=B.ln;have b1:=B.lo;have b2:=B.hi;refine⟨d,vQ 8 d,Y,t4,by lia,by lia,by lia,by lia,?_⟩;generalize (vQ 8 d).map D.str=WD at e4 e5;have na:=W7;have nf:=LX;have q0:F1 C N kb0 [some (.s ns),x1,x2,AAC k,x4,x5,x6,x7,x8,x9]=some (.nx [some (.s ns),x1,x2,AAC k,some (.m (.dct (bK t0))),x5,x6,x7,x8,x9]):=by simp[-kr,iy,kb0,h4,e0]
 have q1:F1 C N kb1 [some (.s ns),x1,x2,AAC k,some (.m (.dct (bK t0))),x5,x6,x7,x8,x9]=some (.nx [some (.s ns),x1,x2,AAC k,some (.m (.dct (bK t0))),AAB pQ,x6,x7,x8,x9]):=by simp[-kr,iy,-fP,kb1,h5,nf,na]
 have q2:F1 C N kb2 [some (.s ns),x1,x2,AAC k,some (.m (.dct (bK t0))),AAB pQ,x6,x7,x8,x9]=some (.nx [some (.s ns),x1,x2,AAC k,some (.m (.dct (bK t3))),AAA (.lst pQ),AAA d,x7,x8,x9]):=by
  generalize pQ=nl at e3 ⊢;simp[-kr,iy,kb2,h6,p1,p2,e3]
 have q3:F1 C N kb3 [some (.s ns),x1,x2,AAC k,some (.m (.dct (bK t3))),AAA (.lst pQ),AAA d,x7,x8,x9]=some (.nx [some (.s ns),x1,x2,AAC k,some (.m (.dct (bK t3))),AAA (.lst pQ),AAA d,AAB WD,x8,x9]):=by
  generalize pQ=nl;simp[-kr,iy,kb3,h7,e4]
 have q4:F1 C N kb4 [some (.s ns),x1,x2,AAC k,some (.m (.dct (bK t3))),AAA (.lst pQ),AAA d,AAB WD,x8,x9]=some (.nx [some (.s ns),x1,x2,AAC k,some (.m (.dct (bK t4))),AAA (.lst pQ),AAA d,AAA (.lst WD),AAB (Y.map D.str),x9]):=by
  generalize pQ=nl;simp[-kr,iy,kb4,h8,e5]
 show wY _ _ _ _ _ _ _ _=_;rw[kb_eq];show aO (F1 C N kb0) (aO (F1 C N kb1) (aO (F1 C N kb2) (aO (F1 C N kb3) (aO (F1 C N kb4) _)))) _=_;rw[fR q0,fR q1,fR q2,fR q3,fR q4]
def Xb (W:BBB):wt W.reverse=wt W:=by
 unfold wt;rw[List.map_reverse,List.sum_reverse]
theorem Um:∀Y:BBB,cF (Y.map D.str)=0
 | []=>rfl
 | _ :: xs=>by
  have ih:=Um xs;show max 0 (cF (xs.map D.str))=0;rw[ih];rfl
def Xc {k:Int}{d:D}{Y:BBB}{t:ir}(hW:wt W<=500) (hY:wt Y<=2100) (n0:0<=t.n) (n1:t.n<=300) (h1:vO x1=false) (h2:vO x2=false) (h9:vO x9=false):
  ∃S',J11 ns S'/\(aO (F1 C N kb5) (aO (F1 C N W6) (F1 C N kb7))) [some (.s ns),x1,x2,AAC k,some (.m (.dct (bK t))),AAA (.lst pQ),AAA d,AAA (.lst (W.map D.str)),AAB (Y.map D.str),x9]=some (.nx S'):=by
 have j1:=yG (ws:=W) (by lia);have j2:=yG (ws:=Y) (by lia);have wr:=Xb Y;have j3:=yG (ws:=Y.reverse) (by lia);have l1:=vG W;have l2:=vG Y;have l3:=vG Y.reverse;have rv:DZ (.lst (Y.map D.str))=AAB (Y.reverse.map D.str):=by show some (U.m (.lst (Y.map D.str).reverse))=_;rw[List.map_reverse]
 generalize hz1:Txt.join " " W=z1 at j1 l1;generalize hz2:Txt.join " " Y=z2 at j2 l2;generalize hz3:Txt.join " " Y.reverse=z3 at j3 l3;have q5:F1 C N kb5 [some (.s ns),x1,x2,AAC k,some (.m (.dct (bK t))),AAA (.lst pQ),AAA d,AAA (.lst (W.map D.str)),AAB (Y.map D.str),x9]=some (.nx [some (.s ns),x1,x2,AAC k,some (.m (.dct (bK t))),AAA (.lst pQ),AAA d,AAA (.lst (W.map D.str)),AAA (.lst (Y.map D.str)),AAB [.str z1,.str z2,.str "",.str z3]]):=by
  generalize pQ=nl;generalize Y.reverse.map D.str=YR at rv j3;generalize Y.map D.str=YD at j2 rv;generalize W.map D.str=WD at j1;simp[-kr,iy,kb5,h9,j1,j2,j3,Nz,rv]
 rw[fR q5];have k0:("":Str).length=0:=rfl;have fin:∀(t':ir) (z4:Str),z4.length<=9000->∃S',J11 ns S'/\F1 C N kb7 [some (.s ns),x1,x2,AAC k,some (.m (.dct (bK t'))),AAA (.lst pQ),AAA d,AAA (.lst (W.map D.str)),AAA (.lst (Y.map D.str)),AAB [.str z1,.str z2,.str z4,.str z3]]=some (.nx S'):=fun t' z4 h4=>by
  obtain⟨y2,g2,lp⟩:=W9 (C:=C) (N:=N) (s0:=some (.s ns)) (s1:=x1) (s3:=AAC k) (s4:=some (.m (.dct (bK t')))) (s5:=AAA (.lst pQ)) (s6:=AAA d) (s7:=AAA (.lst (W.map D.str))) (s8:=AAA (.lst (Y.map D.str))) (s9:=AAA (.lst ([z1,z2,z4,z3].map D.str))) [z1,z2,z4,z3] x2 h2 (by
   intro v hv;simp only[aao,aa4,acg] at hv;rcases hv with rfl | rfl | rfl | rfl <;> lia)
  refine⟨_,⟨x1,y2,AAC k,some (.m (.dct (bK t'))),AAA (.lst pQ),AAA d,AAA (.lst (W.map D.str)),AAA (.lst (Y.map D.str)),AAA (.lst ([z1,z2,z4,z3].map D.str)),h1,g2,rfl,rfl,rfl,rfl,rfl,rfl,rfl,rfl⟩,?_⟩;have it:sZ (eF (ao 9)) [some (.s ns),x1,x2,AAC k,some (.m (.dct (bK t'))),AAA (.lst pQ),AAA d,AAA (.lst (W.map D.str)),AAA (.lst (Y.map D.str)),AAB [.str z1,.str z2,.str z4,.str z3]]=some ([z1,z2,z4,z3].map D.str,[some (.s ns),x1,x2,AAC k,some (.m (.dct (bK t'))),AAA (.lst pQ),AAA d,AAA (.lst (W.map D.str)),AAA (.lst (Y.map D.str)),AAA (.lst ([z1,z2,z4,z3].map D.str))]):=by
   generalize pQ=nl;generalize W.map D.str=WD;generalize Y.map D.str=YD;simp[gG]
  show uc _ _ _ _=_;rw[wL,it,aag];exact lp
 by_cases hy:Y=[]
 ·subst hy;have q6:F1 C N W6 [some (.s ns),x1,x2,AAC k,some (.m (.dct (bK t))),AAA (.lst pQ),AAA d,AAA (.lst (W.map D.str)),AAA (.lst (([]:BBB).map D.str)),AAB [.str z1,.str z2,.str "",.str z3]]=some (.nx [some (.s ns),x1,x2,AAC k,some (.m (.dct (bK t))),AAA (.lst pQ),AAA d,AAA (.lst (W.map D.str)),AAA (.lst (([]:BBB).map D.str)),AAB [.str z1,.str z2,.str "",.str z3]]):=by
   have ne:QO [.lst [],.lst []]=AAA (.bl false):=by kernel_rfl
   generalize pQ=nl;generalize W.map D.str=WD;simp[-NK,W6,ne]
  rw[fR q6];exact fin t "" (by lia)
 ·obtain⟨Z,t5,B⟩:=Uk (t:=t) hy (by lia) (by lia) (by lia);have e5:=B.run;have bl:=B.ln;have j4:=yG (ws:=Z) (by lia);have l4:=vG Z;generalize Txt.join " " Z=z4 at j4 l4;have q6:F1 C N W6 [some (.s ns),x1,x2,AAC k,some (.m (.dct (bK t))),AAA (.lst pQ),AAA d,AAA (.lst (W.map D.str)),AAA (.lst (Y.map D.str)),AAB [.str z1,.str z2,.str "",.str z3]]=some (.nx [some (.s ns),x1,x2,AAC k,some (.m (.dct (bK t5))),AAA (.lst pQ),AAA d,AAA (.lst (W.map D.str)),AAA (.lst (Y.map D.str)),AAB [.str z1,.str z2,.str z4,.str z3]]):=by
   have ne:QO [.lst (Y.map D.str),.lst []]=AAA (.bl true):=by
    have dp:ig (.lst (Y.map D.str))<=40:=by
     have:cF (Y.map D.str)=0:=Um Y;show cF (Y.map D.str)+1<=40;lia
    show(if ig (.lst (Y.map D.str))<=40 then some (U.t (.bl (!qy (.lst (Y.map D.str)) (.lst [])))) else none)=_;rw[if_pos dp];cases Y with
    | nil=>exact absurd rfl hy
    | cons x xs=>rfl
   have wrt:rE (.lst [.str z1,.str z2,.str "",.str z3]) (.int 2) (.str z4)=some (.lst [.str z1,.str z2,.str z4,.str z3]):=rfl;generalize pQ=nl;generalize Y.map D.str=YD at ne e5;generalize W.map D.str=WD;simp[-NK,-Lf,W6,ne,e5,j4,wrt]
  rw[fR q6];exact fin t5 z4 (by lia)
def Xd {k:Int}(hk:0<=k) (hk2:k < 1000) (hns:ns.length < 1000) (h:J11 ns S):∃S1 S2,bName 3 (.int k) S=some S1/\F1 C N wY S1=some (.nx S2)/\J11 ns S2:=by
 obtain⟨x1,x2,x3,x4,x5,x6,x7,x8,x9,h1,h2,h3,h4,h5,h6,h7,h8,h9,rfl⟩:=h.ex;obtain⟨d,W,Y,t,a1,a2,a3,a4,e⟩:=Xa (ns:=ns) (k:=k) (C:=C) (N:=N) (x1:=x1) (x2:=x2) (x9:=x9) hk hk2 hns h4 h5 h6 h7 h8;obtain⟨S',j,e2⟩:=Xc (ns:=ns) (k:=k) (C:=C) (N:=N) (d:=d) a1 a2 a3 a4 h1 h2 h9;exact⟨[some (.s ns),x1,x2,AAC k,x4,x5,x6,x7,x8,x9],S',by simp[-kr,iy,h3],e.trans e2,j⟩
def Pe (ns:BBD) (lo hi:BBM):(Cj ns lo hi).length<=ns.length:=by
 unfold Cj;rw[afd,adR];lia
def Xe (i:Nat) (lo hi:Option GD) (S:SS):K7 i lo hi S=match S[i]? with | some (some (.s ns))=>(oJ lo S).bind fun l=>(oJ hi l.2).map fun h=>(.m (.lst ((Cj ns l.1 h.1).map D.int)),h.2) | _=>none:=rfl
def Pf {c:Int}{r:SS}:(aa (eF (eP cE (aa (eC (.int 1)) (aa (eF (eP wA (aa (eF (K7 0 none (some (eC (.int c))))) aq))) aq)))) aq) (some (.s ns) :: r)=some ([.int ((1+(Cj ns none (some c)).length:Nat):Int)],some (.s ns) :: r):=by
 simp[Xe]
noncomputable def wZ:BBB:=[""," ","now","yes yes","now less x","each a x now less y","within 6 yes","now name 5","yes "]
def LY (C N:Addr):∀us r,D8 63 us=some r->aQ 10 (F1 C N Km) us=some r:=by
 intro us r h;unfold D8 at h;split at h
 ·rename_i ns;obtain⟨hl,rfl⟩:=b7 h;have cl:=Pe ns none (some 14);obtain⟨y2,g2,lp⟩:=Iq (C:=C) (N:=N) (s0:=some (.s ns)) (s1:=AAA (.lst (wZ.map D.str))) (s3:=none) (s4:=none) (s5:=none) (s6:=none) (s7:=none) (s8:=none) (s9:=none) wZ none rfl (by
   have:∀z∈wZ,z.length<=9000:=by decide +kernel
   exact this)
  have s0:F1 C N kl0 [some (.s ns),none,none,none,none,none,none,none,none,none]=some (.nx [some (.s ns),AAB (wZ.map D.str),none,none,none,none,none,none,none,none]):=by simp[kl0,wZ]
  have s1:F1 C N kl1 [some (.s ns),AAB (wZ.map D.str),none,none,none,none,none,none,none,none]=some (.nx [some (.s ns),AAA (.lst (wZ.map D.str)),y2,none,none,none,none,none,none,none]):=by
   have it:sZ (eF (ao 1)) [some (.s ns),AAB (wZ.map D.str),none,none,none,none,none,none,none,none]=some (wZ.map D.str,[some (.s ns),AAA (.lst (wZ.map D.str)),none,none,none,none,none,none,none,none]):=by
    generalize wZ.map D.str=FD;simp[gG]
   show uc _ _ _ _=_;rw[wL,it,aag];exact lp
  have eg:=Sq.Dh (Pf (ns:=ns) (c:=14) (r:=[AAA (.lst (wZ.map D.str)),y2,none,none,none,none,none,none,none])) (by lia) (by lia);rw[aeS] at eg;obtain⟨S',e,jS⟩:=Oh (bd:=bName 3) (body:=F1 C N wY) (B6 0 (1+(Cj ns none (some 14)).length)) (fun _ S=>J11 ns S) [some (.s ns),AAA (.lst (wZ.map D.str)),y2,none,none,none,none,none,none,none] ⟨AAA (.lst (wZ.map D.str)),y2,none,none,none,none,none,none,none,rfl,g2,rfl,rfl,rfl,rfl,rfl,rfl,rfl,rfl⟩ (fun j d S hd hJ=>by
   obtain⟨hj,rfl⟩:=RH hd;exact Xd (by lia) (by lia) (by lia) hJ)
  obtain⟨x1,x2,x3,x4,x5,x6,x7,x8,x9,_,_,_,_,_,_,_,_,_,rfl⟩:=jS.ex;have s2:F1 C N kl2 [some (.s ns),AAA (.lst (wZ.map D.str)),y2,none,none,none,none,none,none,none]=some (.nx [some (.s ns),x1,x2,x3,x4,x5,x6,x7,x8,x9]):=by
   show uc _ _ _ _=_;rw[wL,eg,aag];exact e
  have s3:F1 C N kl3 [some (.s ns),x1,x2,x3,x4,x5,x6,x7,x8,x9]=some (.rt (.t (.bl true)) [some (.s ns),x1,x2,x3,x4,x5,x6,x7,x8,x9]):=by simp[kl3]
  refine AV (S0:=[some (.s ns),none,none,none,none,none,none,none,none,none]) rfl (S':=[some (.s ns),x1,x2,x3,x4,x5,x6,x7,x8,x9]) ?_ rfl;show Km _ _ _ _ _ _ _ _=_;rw[aaf];show aO (F1 C N kl0) (aO (F1 C N kl1) (aO (F1 C N kl2) (F1 C N kl3))) _=_;rw[fR s0,fR s1,fR s2];exact s3
 ·cases h
end Sx
end
namespace K11
open PySem PySem.Spec PyProof.Rows L2 Sw Ss Sp Sf Sx
variable {j:Nat}{l:PySem.W.OpenLaw}
def top (i:Nat):Stmt:=PySem.Challenge.pw_surewatch_k11_texts_that_write_none.main.body.getD i (.Pass ⟨0,0,0,0⟩)
noncomputable def aai (s:Stmt) (j:Nat):Stmt:=match s with
 | .ClassDef _ _ _ b _ _ _ _ _ _ _=>b.getD j (.Pass ⟨0,0,0,0⟩)
 | _=>.Pass ⟨0,0,0,0⟩
def qg (i j:Nat):Stmt:=aai (top i) j
structure Zc where
 P:Program
 w:World
 K:PySem.W.Frag
 mg:Str->BBP
 ak:Addr
 bu:Addr
 oZ:Addr
 w5:Addr
 rR:Addr
 o7:Addr
 rS:Addr
 rT:Addr
 iD:Addr
 lU:Addr
 xg:Addr
 o8:Addr
 jw:Addr
structure Nb (P:Program) (w:World) (K:AAD) (mg:AAF) (ak:Addr) (bu:Addr) (oZ:Addr) (w5:Addr) (rR:Addr) (o7:Addr) (rS:Addr) (rT:Addr) (iD:Addr) (lU:Addr) (xg:Addr) (o8:Addr) (jw:Addr):Prop where
 ff:mg "isinstance" =none
 Pg:mg "str" =none
 pM:mg "len" =none
 aex:mg "all" =none
 Ir:mg "range" =none
 aey:mg "max" =none
 Gv:mg "ValueError" =none
 aez:mg "min" =none
 Uo:mg "list" =none
 EG:mg "tuple" =none
 aaj:mg "bool" =none
 Cr:∃t,mg "LONGEST_NAME" =some (.int 8 t)
 Ph:∃t,mg "LETTERS" =some (.str "abcdefghijklmnopqrstuvwxyz" t)
 Gw:∃a,mg "LENGTHS" =some (.ref a)/\KTab P w K a [("yes",1),("no",1),("now",2),("not",2),("both",3),("either",3),("next",2),("till",3),("within",3),("always",2),("some",2),("each",4),("one",4)]
 Kn:∃a,mg "STARTS" =some (.ref a)/\KTab P w K a [("yes",1),("no",1),("now",2),("not",1),("both",1),("either",1),("next",1),("till",1),("within",2),("always",1),("some",1),("each",3),("one",3)]
 uM:∃a,mg "BINDERS" =some (.ref a)/\Nu K a ["each","one"]
 v9:∃t,mg "MOST_SAYINGS" =some (.int 16 t)
 yI:∃t,mg "MOST_WITHIN" =some (.int 8 t)
 wc:∃t,mg "MOST_BINDERS" =some (.int 3 t)
 yJ:∃a,mg "FIGURES" =some (.ref a)/\KTab P w K a [("0",0),("1",1),("2",2),("3",3),("4",4),("5",5),("6",6),("7",7),("8",8),("9",9)]
 qT:∃t,mg "GREATEST_WITHIN" =some (.int 5 t)
 aM:AF K ak
 iN:PySem.W.findIn K (.ref ak) "words" =some none
 gI:PySem.W.findIn K (.ref ak) "at" =some none
 fZ:PySem.W.findIn K (.ref ak) "sayings" =some none
 iL:PySem.W.findIn K (.ref ak) "binders" =some none
 Pj:mg "NoWatch" =some (.ref oZ)
 Xf:mg "NoRow" =some (.ref w5)
 SY:mg "NoRing" =some (.ref rR)
 Pk:mg "NoPaper" =some (.ref o7)
 S4:mg "NoName" =some (.ref rS)
 S5:mg "NoJoin" =some (.ref rT)
 EH:mg "NoHappening" =some (.ref iD)
 LZ:mg "NoBeside" =some (.ref lU)
 Xg:mg "Twice" =some (.ref xg)
 Pn:mg "TooMany" =some (.ref o8)
 S6:mg "NoText" =some (.ref bu)
 Iu:mg "SureError" =some (.ref jw)
 yK:∃cd,uA K bu cd
 AZ:Me K bu
 i0:PySem.W.kitAny K (.ref bu) ([lU,iD,rT,rS,o7,rR,w5,oZ].map Value.ref)=some false
 i1:PySem.W.kitAny K (.ref bu) ([o8,xg].map Value.ref)=some false
 i2:PySem.W.kitOne K (.ref bu) (.ref bu)=some true
 i3:PySem.W.kitOne K (.ref bu) (.type "ValueError")=some true
 S7:PySem.W.hasDictIn K bu=true
 Iv:fX K bu "at"
 yL:∃bm,BB K bu bm/\(Value.ref bu :: bm).contains (.ref jw)=true
 Iw:∃bm,BB K jw bm/\bm.contains (.type "BaseException")=true
 EI:∀base,Rai P w K mg base "NoText" bu ["at"]
abbrev NZ (z:Zc):Prop:=Nb z.P z.w z.K z.mg z.ak z.bu z.oZ z.w5 z.rR z.o7 z.rS z.rT z.iD z.lU z.xg z.o8 z.jw
variable {z:Zc}{b:Heap}
abbrev zJ:Stmt:=top 16
abbrev Du (z:Zc):Prop:=Df z.K z.mg "is_name" zJ
abbrev vI (z:Zc) (b:Heap):Prop:=vm z.P z.w z.K z.mg b 1 "is_name" ["thing"] nv
abbrev zK:Stmt:=top 25
abbrev Dv (z:Zc):Prop:=Df z.K z.mg "is_head" zK
abbrev vJ (z:Zc) (b:Heap):Prop:=vm z.P z.w z.K z.mg b 1 "is_head" ["word"] jM
abbrev o9:Stmt:=top 26
abbrev uN (z:Zc):Prop:=Df z.K z.mg "parts_wanted" o9
abbrev kY (z:Zc) (b:Heap):Prop:=vm z.P z.w z.K z.mg b 1 "parts_wanted" ["head"] Au
abbrev xh:Stmt:=top 27
abbrev BS (z:Zc):Prop:=Df z.K z.mg "parts_of" xh
abbrev xj (z:Zc) (b:Heap):Prop:=vm z.P z.w z.K z.mg b 1 "parts_of" ["saying"] wQ
abbrev pq:Stmt:=top 28
abbrev uO (z:Zc):Prop:=Df z.K z.mg "bound_within" pq
abbrev kZ (z:Zc) (b:Heap):Prop:=vm z.P z.w z.K z.mg b 1 "bound_within" ["saying","bound"] fy
abbrev k6:Stmt:=qg 31 0
abbrev pR (z:Zc):Prop:=Bw z.K z.ak "__init__" "Reader.__init__" k6
abbrev je (z:Zc) (b:Heap):Prop:=uz z.P z.w z.K z.mg b 1 z.ak "__init__" ["self","words"] ((Ae z.ak))
abbrev pA:Stmt:=qg 31 1
abbrev pB (z:Zc):Prop:=Bw z.K z.ak "taken" "Reader.taken" pA
abbrev c7 (z:Zc) (b:Heap):Prop:=uz z.P z.w z.K z.mg b 3 z.ak "taken" ["self"] ((mR z.ak))
abbrev ia (z:Zc) (b:Heap):Prop:=oO z.P z.w z.K z.mg b 3 z.ak "taken" ["self"] ((qP z.ak z.bu))
abbrev nj:Stmt:=qg 31 2
abbrev nk (z:Zc):Prop:=Bw z.K z.ak "wanted" "Reader.wanted" nj
abbrev cS (z:Zc) (b:Heap):Prop:=uz z.P z.w z.K z.mg b 3 z.ak "wanted" ["self","right"] iK
abbrev f9 (z:Zc) (b:Heap):Prop:=oO z.P z.w z.K z.mg b 3 z.ak "wanted" ["self","right"] ((fu z.ak z.bu))
abbrev jP:Stmt:=qg 31 3
abbrev jQ (z:Zc):Prop:=Bw z.K z.ak "name_taken" "Reader.name_taken" jP
abbrev dH (z:Zc) (b:Heap):Prop:=uz z.P z.w z.K z.mg b 4 z.ak "name_taken" ["self"] ((GJ z.ak))
abbrev gW (z:Zc) (b:Heap):Prop:=oO z.P z.w z.K z.mg b 4 z.ak "name_taken" ["self"] ((GK z.ak z.bu))
abbrev jR:Stmt:=qg 31 4
abbrev jT (z:Zc):Prop:=Bw z.K z.ak "head_taken" "Reader.head_taken" jR
abbrev gX (z:Zc) (b:Heap):Prop:=uz z.P z.w z.K z.mg b 4 z.ak "head_taken" ["self","around"] ((EV z.ak))
abbrev jU (z:Zc) (b:Heap):Prop:=oO z.P z.w z.K z.mg b 4 z.ak "head_taken" ["self","around"] ((Ew z.ak z.bu))
abbrev jV:Stmt:=qg 31 5
abbrev jW (z:Zc):Prop:=Bw z.K z.ak "test_taken" "Reader.test_taken" jV
abbrev gY (z:Zc) (b:Heap):Prop:=uz z.P z.w z.K z.mg b 5 z.ak "test_taken" ["self","bound"] ((Mf z.ak))
abbrev jX (z:Zc) (b:Heap):Prop:=oO z.P z.w z.K z.mg b 5 z.ak "test_taken" ["self","bound"] ((Gn z.ak z.bu))
abbrev iX:Stmt:=qg 31 6
abbrev iY (z:Zc):Prop:=Bw z.K z.ak "within_taken" "Reader.within_taken" iX
abbrev fU (z:Zc) (b:Heap):Prop:=uz z.P z.w z.K z.mg b 4 z.ak "within_taken" ["self"] ((LC z.ak))
abbrev iZ (z:Zc) (b:Heap):Prop:=oO z.P z.w z.K z.mg b 4 z.ak "within_taken" ["self"] ((ON z.ak z.bu))
abbrev jx:Stmt:=qg 31 7
abbrev jy (z:Zc):Prop:=Bw z.K z.ak "begin_taken" "Reader.begin_taken" jx
abbrev gz (z:Zc) (b:Heap):Prop:=uz z.P z.w z.K z.mg b 6 z.ak "begin_taken" ["self","bound","around"] ((Dl z.ak))
abbrev jz (z:Zc) (b:Heap):Prop:=oO z.P z.w z.K z.mg b 6 z.ak "begin_taken" ["self","bound","around"] ((uI z.ak z.bu))
abbrev i6:Stmt:=qg 31 8
abbrev i7 (z:Zc):Prop:=Bw z.K z.ak "saying_taken" "Reader.saying_taken" i6
abbrev cY (z:Zc) (b:Heap) (j:Nat):Prop:=uz z.P z.w z.K z.mg b (j+6) z.ak "saying_taken" ["self","bound","around"] (AR z.ak j)
abbrev fV (z:Zc) (b:Heap) (j:Nat):Prop:=oO z.P z.w z.K z.mg b (j+6) z.ak "saying_taken" ["self","bound","around"] (wV z.ak z.bu j)
abbrev qh:Stmt:=top 32
abbrev qi (z:Zc):Prop:=Df z.K z.mg "read_saying" qh
abbrev qj (z:Zc) (b:Heap):Prop:=vm z.P z.w z.K z.mg b 16 "read_saying" ["text"] ((ZX z.ak))
abbrev qk (z:Zc) (b:Heap):Prop:=VU z.P z.w z.K z.mg b 16 "read_saying" ["text"] ((Mh z.ak z.bu))
abbrev xu:Stmt:=top 34
abbrev BU (z:Zc):Prop:=Df z.K z.mg "words_of" xu
abbrev rW (z:Zc) (b:Heap) (j:Nat):Prop:=vm z.P z.w z.K z.mg b (j+1) "words_of" ["saying"] (uE j)
abbrev EJ:Stmt:=top 35
abbrev Ko (z:Zc):Prop:=Df z.K z.mg "shown" EJ
abbrev EK (z:Zc) (b:Heap):Prop:=vm z.P z.w z.K z.mg b 11 "shown" ["saying"] zD
abbrev uP:Stmt:=top 37
abbrev Ag (z:Zc):Prop:=Df z.K z.mg "_law_tape" uP
abbrev uQ (z:Zc) (b:Heap):Prop:=vm z.P z.w z.K z.mg b 1 "_law_tape" ["_law_script","_law_at"] Bu
abbrev uR:Stmt:=top 38
abbrev Ah (z:Zc):Prop:=Df z.K z.mg "_law_pick" uR
abbrev jA (z:Zc) (b:Heap):Prop:=vm z.P z.w z.K z.mg b 1 "_law_pick" ["_law_tape_here","_law_many"] cV
abbrev pC:Stmt:=top 39
abbrev uS (z:Zc):Prop:=Df z.K z.mg "_law_is_name" pC
abbrev pD (z:Zc) (b:Heap):Prop:=vm z.P z.w z.K z.mg b 1 "_law_is_name" ["_law_thing"] nv
abbrev rX:Stmt:=top 40
abbrev yM (z:Zc):Prop:=Df z.K z.mg "_law_names" rX
abbrev rY (z:Zc) (b:Heap):Prop:=vm z.P z.w z.K z.mg b 1 "_law_names" [] zm
abbrev uT:Stmt:=top 41
abbrev Ai (z:Zc):Prop:=Df z.K z.mg "_law_test" uT
abbrev uU (z:Zc) (b:Heap):Prop:=vm z.P z.w z.K z.mg b 2 "_law_test" ["_law_tape_here","_law_names_here","_law_variables"] oR
abbrev rZ:Stmt:=top 42
abbrev yN (z:Zc):Prop:=Df z.K z.mg "_law_inner" rZ
abbrev r9 (z:Zc) (b:Heap) (j:Nat):Prop:=vm z.P z.w z.K z.mg b (j+2) "_law_inner" ["_law_tape_here","_law_world","_law_variables","_law_room","_law_deep"] (Oq j)
abbrev ql:Stmt:=top 43
abbrev we (z:Zc):Prop:=Df z.K z.mg "_law_saying" ql
abbrev j8 (z:Zc) (b:Heap) (j:Nat):Prop:=vm z.P z.w z.K z.mg b (j+2) "_law_saying" ["_law_tape_here","_law_world","_law_variables","_law_room","_law_deep"] (zy j)
abbrev se:Stmt:=top 44
abbrev yO (z:Zc):Prop:=Df z.K z.mg "_law_whole" se
abbrev sf (z:Zc) (b:Heap):Prop:=vm z.P z.w z.K z.mg b 20 "_law_whole" ["_law_tape_here","_law_names_here","_law_room","_law_deep"] zA
abbrev sr:Stmt:=top 45
abbrev yP (z:Zc):Prop:=Df z.K z.mg "_law_shape" sr
abbrev nP (z:Zc) (b:Heap):Prop:=vm z.P z.w z.K z.mg b 1 "_law_shape" ["_law_head"] kU
abbrev su:Stmt:=top 46
abbrev yQ (z:Zc):Prop:=Df z.K z.mg "_law_words" su
abbrev nQ (z:Zc) (b:Heap) (j:Nat):Prop:=vm z.P z.w z.K z.mg b (j+1) "_law_words" ["_law_saying_here"] (nK j)
abbrev pF:Stmt:=top 47
abbrev uV (z:Zc):Prop:=Df z.K z.mg "_law_refused" pF
abbrev pG (z:Zc) (b:Heap):Prop:=vm z.P z.w z.K z.mg b 1 "_law_refused" ["_law_error"] ((LO z.bu))
abbrev sA:Stmt:=top 48
abbrev yR (z:Zc):Prop:=Df z.K z.mg "_law_fault" sA
abbrev nR (z:Zc) (b:Heap) (j:Nat):Prop:=vm z.P z.w z.K z.mg b (j+3) "_law_fault" ["_law_tokens","_law_spot","_law_variables","_law_room"] (vU j)
abbrev k7:Stmt:=top 49
abbrev pS (z:Zc):Prop:=Df z.K z.mg "_law_word_fault" k7
abbrev jf (z:Zc) (b:Heap):Prop:=vm z.P z.w z.K z.mg b 1 "_law_word_fault" ["_law_tokens","_law_spot","_law_some"] J0
abbrev k8:Stmt:=top 50
abbrev pT (z:Zc):Prop:=Df z.K z.mg "_law_name_fault" k8
abbrev jg (z:Zc) (b:Heap):Prop:=vm z.P z.w z.K z.mg b 2 "_law_name_fault" ["_law_tokens","_law_spot"] J1
abbrev k9:Stmt:=top 51
abbrev pU (z:Zc):Prop:=Df z.K z.mg "_law_test_fault" k9
abbrev lq (z:Zc) (b:Heap):Prop:=vm z.P z.w z.K z.mg b 3 "_law_test_fault" ["_law_tokens","_law_spot","_law_variables"] J4
abbrev lu:Stmt:=top 52
abbrev pW (z:Zc):Prop:=Df z.K z.mg "_law_text_fault" lu
abbrev lz (z:Zc) (b:Heap):Prop:=vm z.P z.w z.K z.mg b 13 "_law_text_fault" ["_law_text"] Uj
abbrev lA:Stmt:=top 53
abbrev pX (z:Zc):Prop:=Df z.K z.mg "_law_bent_words" lA
abbrev lB (z:Zc) (b:Heap):Prop:=vm z.P z.w z.K z.mg b 2 "_law_bent_words" ["_law_tape_here","_law_tokens"] bwF
abbrev sC:Stmt:=top 54
abbrev yS (z:Zc):Prop:=Df z.K z.mg "_law_right" sC
abbrev sD (z:Zc) (b:Heap):Prop:=vm z.P z.w z.K z.mg b 17 "_law_right" ["_law_text"] ((wX z.ak z.bu))
abbrev Kp:Stmt:=top 55
abbrev aak (z:Zc):Prop:=Df z.K z.mg "law" Kp
def Iz:bD ["thing"] ["thing"] (aJ zJ):=sI
def IA (D:Du z) (N:NZ z):vI z b:=
 by obtain⟨PU,Cs⟩:=N.Cr;obtain⟨aal,Po⟩:=N.Ph;exact z9 D Iz Og fun _ _ _ _ _ _ _ hr=>(aA (cA (JW.t (xX (oz (lN (lO rfl N.ff rfl N.Pg adK (jv 0)))) (xX (bH ki (jl (i:=0) rfl N.pM) az) (nZ (bH Bc (jl (i:=0) rfl N.pM) (mj rfl Cs)))))) (aN (bz (JD.e Ba))) bS)
  (aN (bz (ou (K6 rfl) rfl N.aex PyProof.Rows.Boot.all (ah (JE.d (AJ cp rfl (rA (jv 0)) (fun _ _ _ _=>DU) (fun _ _ _ _=>(JE.d (iS (qc hr.units) (jv 0) (QV rfl Po) (by with_unfolding_all rfl)))))) aI)))))
def IB:bD ["word"] ["word"] (aJ zK):=sI
def IC (D:Dv z) (N:NZ z):vJ z b:=
 by obtain⟨Pp,BV,BW⟩:=N.Gw;exact z9 D IB OA fun _ _ _ _ _ _ _ hr=>(aN (bz (JD.e (uo rfl BV BW (jv 0)))))
def Av:bD ["head"] ["head"] (aJ o9):=sI
def Aw (D:uN z) (N:NZ z):kY z b:=
 by obtain⟨Pp,BV,BW⟩:=N.Gw;obtain⟨S8,EL,EM⟩:=N.Kn;exact z9 D Av pw_run fun _ _ _ _ _ _ _ hr=>(aN (bz (bB fq (zd rfl BV BW (jv 0)) (zd rfl EL EM (jv 0)))))
def Gx:bD ["saying"] ["saying"] (aJ xh):=sI
def Gy (D:BS z) (N:NZ z):xj z b:=
 by obtain⟨S8,EL,EM⟩:=N.Kn;exact z9 D Gx Ln fun _ _ _ _ _ _ _ hr=>(aN (bz (jo (jv 0) (iw (zd rfl EL EM (ys hr 0 az))) nH)))
def Ax:bD ["saying","bound"] ["saying","bound"] (aJ pq):=sI
def Ay (D:uO z) (N:NZ z):kZ z b:=
 by obtain⟨yT,lD,lE⟩:=N.uM;exact z9 D Ax Lo fun _ _ _ _ _ _ _ hr=>(aA (cA (Bo hr.units rfl lD lE (ys hr 0 az)) (aN (bz (bB bN (jv 1) (JE.d (bL (ah (ys hr 0 az) aI)))))) bS)
  (aN (bz (bF 1))))
def xw:bD ["self","words"] ["self","words"] (aJ k6):=sI
def xx (D:pR z) (N:NZ z):je z b:=
 Rg D xw (OJ z.ak) fun _ _ _ _ _ _ _ hr=>(aA (D0 0 N.aM N.iN (jv 1))
  (aA (D0 0 N.aM N.gI az)
  (aA (D0 0 N.aM N.fZ az)
  (aN (D0 0 N.aM N.iL az)))))
def sS:bD ["self"] ["self"] (aJ pA):=sI
def Az (D:pB z) (N:NZ z):c7 z b:=
 Rg D sS (RP z.ak) fun _ _ _ _ _ _ _ hr=>(aA (cA (bH (cN hr.units) (iT 0 N.aM N.gI) (JE.d (ou qD rfl N.pM acE (ah (iT 0 N.aM N.iN) aI)))) (aN NH) bS)
  (aA (yu 0 (fo:=fun i j=>i+j) N.aM N.gI A6 az)
  (aN (bz (vX Ce (iT 0 N.aM N.iN) (JE.d (bB fq (iT 0 N.aM N.gI) az)) (fun _ _=>rfl))))))
def zL (D:pB z) (N:NZ z):ia z b:=
 Ga D sS (OL z.ak z.bu) fun _ _ _ _ _ _ _ hr=>(iU (xi (bH (cN hr.units) (iT 0 N.aM N.gI) (JE.d (ou qD rfl N.pM acE (ah (iT 0 N.aM N.iN) aI)))) (iU (xr (N.EI _) hr (ah (iT 0 N.aM N.gI) aI))) wM))
def qU:bD ["self","right"] ["self","right"] (aJ nj):=sI
def zM (D:nk z):cS z b:=
 Rg D qU Oz fun _ _ _ _ _ _ _ hr=>(aN (cA (oz (lN (jv 1))) (aN NH) bS))
def yU (D:nk z) (N:NZ z):f9 z b:=
 Ga D qU (LH z.ak z.bu) fun _ _ _ _ _ _ _ hr=>(iU (xi (oz (lN (jv 1))) (iU (xr (N.EI _) hr (ah (JE.d (bB fq (iT 0 N.aM N.gI) az)) aI))) wM))
def gB:bD ["self","word"] ["self"] (aJ jP):=sI
def uW (D:jQ z) (N:NZ z) (br:c7 z b) (bq:cS z b) (qV:vI z b):dH z b:=
 Rg D gB (Wd z.ak) fun _ _ _ _ _ _ _ hr=>(aA (zs gB.nd 1 (FU 0 N.aM br hr))
  (aA (jG (jm 0 N.aM bq hr (aF (JE.d (jc qV hr (aF (jv 1) aT))) aT)))
  (aN (bz (bF 1)))))
def tG (D:jQ z) (N:NZ z) (bq:cS z b) (qV:vI z b) (br:c7 z b) (b9:f9 z b) (cH:ia z b):gW z b:=
 Ga D gB (RZ z.ak z.bu) fun _ _ _ _ _ _ _ hr=>(xq (oN (RE 0 N.aM cH hr)) (zs gB.nd 1 (FU 0 N.aM br hr))
  (iU (XD (xm 0 N.aM b9 hr (aF (JE.d (jc qV hr (aF (jv 1) aT))) aT)))))
def gD:bD ["self","around","head"] ["self","around"] (aJ jR):=sI
def uX (D:jT z) (N:NZ z) (br:c7 z b) (bq:cS z b) (pH:vJ z b):gX z b:=
 by obtain⟨yT,lD,lE⟩:=N.uM;obtain⟨Ct,mz⟩:=N.v9;obtain⟨EN,sE⟩:=N.yI;obtain⟨Cu,qm⟩:=N.wc;exact Rg D gD (We z.ak) fun _ _ _ _ _ _ _ hr=>(aA (zs gD.nd 2 (FU 0 N.aM br hr))
  (aA (yu 0 (fo:=fun i j=>i+j) N.aM N.fZ A6 az)
  (aA (cA (Bo hr.units rfl lD lE (jv 2)) (aN (yu 0 (fo:=fun i j=>i+j) N.aM N.iL A6 az)) bS)
  (aA (jG (jm 0 N.aM bq hr (aF (qb (JE.d (jc pH hr (aF (jv 2) aT))) (oB (JE.d (iS rq (iT 0 N.aM N.fZ) (mj rfl mz))))) aT)))
  (aA (jG (jm 0 N.aM bq hr (aF (qb (JE.d (iS ki (jv 1) (mj rfl sE))) (oB (JE.d (iS rq (iT 0 N.aM N.iL) (mj rfl qm))))) aT)))
  (aN (bz (bF 2))))))))
def tH (D:jT z) (N:NZ z) (bq:cS z b) (pH:vJ z b) (br:c7 z b) (b9:f9 z b) (cH:ia z b):jU z b:=
 by obtain⟨EN,sE⟩:=N.yI;obtain⟨Cu,qm⟩:=N.wc;obtain⟨Ct,mz⟩:=N.v9;obtain⟨yT,lD,lE⟩:=N.uM;exact Ga D gD (R7 z.ak z.bu) fun _ _ _ _ _ _ _ hr=>(xq (oN (RE 0 N.aM cH hr)) (zs gD.nd 2 (FU 0 N.aM br hr))
  (xo (yu 0 (fo:=fun i j=>i+j) N.aM N.fZ A6 az)
  (xo (cA (Bo hr.units rfl lD lE (jv 2)) (aN (yu 0 (fo:=fun i j=>i+j) N.aM N.iL A6 az)) bS)
  (xq (XD (xm 0 N.aM b9 hr (aF (qb (JE.d (jc pH hr (aF (jv 2) aT))) (oB (JE.d (iS rq (iT 0 N.aM N.fZ) (mj rfl mz))))) aT))) (jG (jm 0 N.aM bq hr (aF (qb (JE.d (jc pH hr (aF (jv 2) aT))) (oB (JE.d (iS rq (iT 0 N.aM N.fZ) (mj rfl mz))))) aT)))
  (iU (XD (xm 0 N.aM b9 hr (aF (qb (JE.d (iS ki (jv 1) (mj rfl sE))) (oB (JE.d (iS rq (iT 0 N.aM N.iL) (mj rfl qm))))) aT))))))))
def dh:bD ["self","bound","head","word"] ["self","bound"] (aJ jV):=sI
def uY (D:jW z) (N:NZ z) (br:c7 z b) (bM:dH z b) (bq:cS z b):gY z b:=
 by obtain⟨BX,jB,jC⟩:=N.yJ;exact Rg D dh (Wg z.ak) fun _ _ _ _ _ _ _ hr=>(aA (zs dh.nd 2 (FU 0 N.aM br hr))
  (aA (cA (bH (cN hr.units) (jv 2) aC) (aN (bz (bL (ah aC aI)))) bS)
  (aA (cA (bH (cN hr.units) (jv 2) aC) (aN (bz (bL (ah aC (ah (JE.d (FU 0 N.aM bM hr)) aI))))) bS)
  (aA (jG (jm 0 N.aM bq hr (aF (JE.d (iS (qc hr.units) (jv 2) (JE.d (bL (ah aC (ah aC (ah aC aI))))) (by with_unfolding_all rfl))) aT)))
  (aA (zs dh.nd 3 (FU 0 N.aM br hr))
  (aA (jG (jm 0 N.aM bq hr (aF (TF (uo rfl jB jC (jv 3)) (oB (JE.d (iS (qc hr.units) (jv 3) (jv 1) (by with_unfolding_all rfl))))) aT)))
  (aN (bz (bL (ah (jv 2) (ah (HG rfl jB jC (jv 3) (jv 3)) aI)))))))))))
def tK (D:jW z) (N:NZ z) (bq:cS z b) (br:c7 z b) (bM:dH z b) (b9:f9 z b) (cH:ia z b) (dc:gW z b):jX z b:=
 by obtain⟨BX,jB,jC⟩:=N.yJ;exact Ga D dh (Se z.ak z.bu) fun _ _ _ _ _ _ _ hr=>(xq (oN (RE 0 N.aM cH hr)) (zs dh.nd 2 (FU 0 N.aM br hr))
  (xo (cA (bH (cN hr.units) (jv 2) aC) (aN (bz (bL (ah aC aI)))) bS)
  (xq (xi (bH (cN hr.units) (jv 2) aC) (iU (Ed (ZG (ZF aC (ZE (RE 0 N.aM dc hr)))))) wM) (cA (bH (cN hr.units) (jv 2) aC) (aN (bz (bL (ah aC (ah (JE.d (FU 0 N.aM bM hr)) aI))))) bS)
  (xq (XD (xm 0 N.aM b9 hr (aF (JE.d (iS (qc hr.units) (jv 2) (JE.d (bL (ah aC (ah aC (ah aC aI))))) (by with_unfolding_all rfl))) aT))) (jG (jm 0 N.aM bq hr (aF (JE.d (iS (qc hr.units) (jv 2) (JE.d (bL (ah aC (ah aC (ah aC aI))))) (by with_unfolding_all rfl))) aT)))
  (xq (oN (RE 0 N.aM cH hr)) (zs dh.nd 3 (FU 0 N.aM br hr))
  (iU (XD (xm 0 N.aM b9 hr (aF (TF (uo rfl jB jC (jv 3)) (oB (JE.d (iS (qc hr.units) (jv 3) (jv 1) (by with_unfolding_all rfl))))) aT)))))))))
def fJ:bD ["self","word"] ["self"] (aJ iX):=sI
def sF (D:iY z) (N:NZ z) (br:c7 z b) (bq:cS z b):fU z b:=
 by obtain⟨BX,jB,jC⟩:=N.yJ;obtain⟨zN,lV⟩:=N.qT;exact Rg D fJ (Wh z.ak) fun _ _ _ _ _ _ _ hr=>(aA (zs fJ.nd 1 (FU 0 N.aM br hr))
  (aA (jG (jm 0 N.aM bq hr (aF (qb (uo rfl jB jC (jv 1)) (oB (JE.d (iS rq (zd rfl jB jC (jv 1)) (mj rfl lV))))) aT)))
  (aN (bz (JD.e (zd rfl jB jC (jv 1)))))))
def qW (D:iY z) (N:NZ z) (bq:cS z b) (br:c7 z b) (b9:f9 z b) (cH:ia z b):iZ z b:=
 by obtain⟨BX,jB,jC⟩:=N.yJ;obtain⟨zN,lV⟩:=N.qT;exact Ga D fJ (R5 z.ak z.bu) fun _ _ _ _ _ _ _ hr=>(xq (oN (RE 0 N.aM cH hr)) (zs fJ.nd 1 (FU 0 N.aM br hr))
  (iU (XD (xm 0 N.aM b9 hr (aF (qb (uo rfl jB jC (jv 1)) (oB (JE.d (iS rq (zd rfl jB jC (jv 1)) (mj rfl lV))))) aT)))))
def cZ:bD ["self","bound","around","head","name"] ["self","bound","around"] (aJ jx):=sI
def tL (D:jy z) (N:NZ z) (dR:gX z b) (dU:gY z b) (dj:fU z b) (bM:dH z b):gz z b:=
 by obtain⟨yT,lD,lE⟩:=N.uM;exact Rg D cZ (Wj z.ak) fun _ _ _ _ _ _ _ hr=>(aA (zs cZ.nd 3 (jm 0 N.aM dR hr (aF (jv 2) aT)))
  (aA (cA (bH (cN hr.units) (jv 3) aC) (aN (bz (bL (ah (jv 3) (ah (JE.d (jm 0 N.aM dU hr (aF (jv 1) aT))) aI))))) bS)
  (aA (cA (bH (cN hr.units) (jv 3) aC) (aN (bz (bL (ah (jv 3) (ah (JE.d (FU 0 N.aM dj hr)) aI))))) bS)
  (aA (cA (Bo hr.units rfl lD lE (jv 3)) (aA (zs cZ.nd 4 (FU 0 N.aM bM hr))
  (aN (bz (bL (ah (jv 3) (ah (jv 4) (ah (JE.d (FU 0 N.aM bM hr)) aI))))))) bS)
  (aN (bz (bL (ah (jv 3) aI))))))))
def sG (D:jy z) (N:NZ z) (bM:dH z b) (dj:fU z b) (dU:gY z b) (dR:gX z b) (dc:gW z b) (jD:iZ z b) (kG:jX z b) (kH:jU z b):jz z b:=
 by obtain⟨yT,lD,lE⟩:=N.uM;exact Ga D cZ (Sg z.ak z.bu) fun _ _ _ _ _ _ _ hr=>(xq (oN (xm 0 N.aM kH hr (aF (jv 2) aT))) (zs cZ.nd 3 (jm 0 N.aM dR hr (aF (jv 2) aT)))
  (xq (xi (bH (cN hr.units) (jv 3) aC) (iU (Ed (ZG (ZF (jv 3) (ZE (xm 0 N.aM kG hr (aF (jv 1) aT))))))) wM) (cA (bH (cN hr.units) (jv 3) aC) (aN (bz (bL (ah (jv 3) (ah (JE.d (jm 0 N.aM dU hr (aF (jv 1) aT))) aI))))) bS)
  (xq (xi (bH (cN hr.units) (jv 3) aC) (iU (Ed (ZG (ZF (jv 3) (ZE (RE 0 N.aM jD hr)))))) wM) (cA (bH (cN hr.units) (jv 3) aC) (aN (bz (bL (ah (jv 3) (ah (JE.d (FU 0 N.aM dj hr)) aI))))) bS)
  (iU (xi (Bo hr.units rfl lD lE (jv 3)) (xq (oN (RE 0 N.aM dc hr)) (zs cZ.nd 4 (FU 0 N.aM bM hr))
  (iU (Ed (ZG (ZF (jv 3) (ZF (jv 4) (ZE (RE 0 N.aM dc hr)))))))) wM)))))
def bO:bD ["self","bound","around","saying","inner","number"] ["self","bound","around"] (aJ i6):=sI
def sH (D:i7 z) (N:NZ z) (dI:gz z b) (iO:kZ z b) (iP:kY z b) (bV:cY z b j):cY z b (j+1):=
 Rg D bO (Wm z.ak j) fun _ _ _ _ _ _ _ hr=>(aA (zs bO.nd 3 (jm 0 N.aM dI hr (aF (jv 1) (aF (jv 2) aT))))
  (aA (zs bO.nd 4 (jc iO hr (aF (jv 3) (aF (jv 1) aT))))
  (aA (wC adL rfl (za rfl N.Ir (ah (JE.d (jc iP hr (aF (ys hr 3 az) aT))) aI)) (zg bO.nd 5) (aN (zs bO.nd 3 (bB bN (jv 3) (JE.d (bL (ah (JE.d (jm 0 N.aM bV hr (aF (jv 4) (aF (JE.d (bB bN (jv 2) az)) aT)))) aI)))))))
  (aN (bz (bF 3))))))
def qX (D:i7 z) (N:NZ z) (iP:kY z b) (bV:cY z b j) (iO:kZ z b) (dI:gz z b) (fh:fV z b j) (jY:jz z b):fV z b (j+1):=
 Ga D bO (Sj z.ak z.bu j) fun _ _ _ _ _ _ _ hr=>(xq (oN (xm 0 N.aM jY hr (aF (jv 1) (aF (jv 2) aT)))) (zs bO.nd 3 (jm 0 N.aM dI hr (aF (jv 1) (aF (jv 2) aT))))
  (xo (zs bO.nd 4 (jc iO hr (aF (jv 3) (aF (jv 1) aT))))
  (iU (xf (za rfl N.Ir (ah (JE.d (jc iP hr (aF (ys hr 3 az) aT))) aI)) (zg bO.nd 5) (aN (zs bO.nd 3 (bB bN (jv 3) (JE.d (bL (ah (JE.d (jm 0 N.aM bV hr (aF (jv 4) (aF (JE.d (bB bN (jv 2) az)) aT)))) aI)))))) (iU (oN (xop (jv 3) (ZG (ZE (xm 0 N.aM fh hr (aF (jv 4) (aF (JE.d (bB bN (jv 2) az)) aT))))))))))))
def ie:bD ["text","reader","saying"] ["text"] (aJ qh):=sI
def BY (D:qi z) (N:NZ z) (fO:je z b) (bV:cY z b 9) (mC:XA z.K z.mg "Reader" z.ak):qj z b:=
 z9 D ie (Wo z.ak) fun _ _ _ _ _ _ _ hr=>(aA (zs ie.nd 1 (jk mC fO hr (aF (JE.d (mJ ur acw aeZ zj (jv 0) aC)) aT)))
  (aA (zs ie.nd 2 (jm 1 N.aM bV hr (aF (JE.d (bL aI)) (aF az aT))))
  (aA (cA (bH ki (iT 1 N.aM N.gI) (JE.d (ou qD rfl N.pM acE (ah (iT 1 N.aM N.iN) aI)))) (aN NH) bS)
  (aN (bz (bF 2))))))
def AA (D:qi z) (N:NZ z) (bV:cY z b 9) (fO:je z b) (mC:XA z.K z.mg "Reader" z.ak) (fh:fV z b 9):qk z b:=
 adT D ie (Sv z.ak z.bu) fun _ _ _ _ _ _ _ hr=>(xo (zs ie.nd 1 (jk mC fO hr (aF (JE.d (mJ ur acw aeZ zj (jv 0) aC)) aT)))
  (xq (oN (xm 1 N.aM fh hr (aF (JE.d (bL aI)) (aF az aT)))) (zs ie.nd 2 (jm 1 N.aM bV hr (aF (JE.d (bL aI)) (aF az aT))))
  (iU (xi (bH ki (iT 1 N.aM N.gI) (JE.d (ou qD rfl N.pM acE (ah (iT 1 N.aM N.iN) aI)))) (iU (xr (N.EI _) hr (ah (iT 1 N.aM N.gI) aI))) wM))))
def mV:bD ["saying","parts","ahead","words","part"] ["saying"] (aJ xu):=sI
def Gz (D:BU z) (N:NZ z) (zO:xj z b) (qY:rW z b j):rW z b (j+1):=
 z9 D mV (LB j) fun _ _ _ _ _ _ _ hr=>(aA (zs mV.nd 1 (jc zO hr (aF (jv 0) aT)))
  (aA (zs mV.nd 2 (TH (bH (cN hr.units) (ys hr 0 az) aC) (JD.e (ys hr 0 az)) (jo (jv 0) (iw az) (iw (JE.d (bB fq (jl (i:=0) rfl N.pM) (jl (i:=1) rfl N.pM)))))))
  (aA (zs mV.nd 3 (bB bN (JE.d (bZ (ah (ys hr 0 az) aI))) (JE.d (AJ cp rfl (rA (jv 2)) (fun _ _ _ _=>DU) (fun _ _ _ _=>(JE.d (qC wK rfl N.Pg adK (ah (jv 0) aI))))))))
  (aA (wC adL rfl (rA (jv 1)) (zg mV.nd 4) (aN (jG (JD.e (DR (i:=3) PySem.F.slot_list_extend PySem.F.type_list_extend HB La Lb (ah (JE.d (jc qY hr (aF (jv 4) aT))) aI))))))
  (aN (bz (bF 3)))))))
def Pq:bD ["saying"] ["saying"] (aJ EJ):=sI
def Pr (D:Ko z) (qY:rW z b 9):EK z b:=
 z9 D Pq LF fun _ _ _ _ _ _ _ hr=>(aN (bz (mJ oK adM adN uu aC (JE.d (jc qY hr (aF (jv 0) aT))))))
def sJ:bD ["_law_script","_law_at","_law_cell"] ["_law_script","_law_at"] (aJ uP):=sI
def EO (D:Ag z) (N:NZ z):uQ z b:=
 z9 D sJ NN fun _ _ _ _ _ _ _ hr=>(aA (zs sJ.nd 2 (bF 1))
  (aA (cA (bH Bc (jl (i:=0) rfl N.pM) az) (aN (zs sJ.nd 2 (bB bN (ys hr 0 (JE.d (bB nG (jv 1) (jl (i:=0) rfl N.pM)))) (JE.d (bB DQ (jv 1) (jl (i:=0) rfl N.pM)))))) bS)
  (aN (bz (yp (hk:=acF rfl) (dO (jv 2) (dO (JE.d (ou (Hw rfl) rfl N.aey PyProof.Rows.Boot.max (ah az (ah (JE.d (bB fq (jv 2) (JE.d (bB QC az az)))) aI)))) (dO az ym))))))))
def lF:bD ["_law_tape_here","_law_many","_law_turn","_law_found","_law_mixed"] ["_law_tape_here","_law_many"] (aJ uR):=sI
def ER (D:Ah z):jA z b:=
 z9 D lF pick_run fun _ _ _ _ _ _ _ hr=>(aA (zs lF.nd 2 (bB bN (ys hr 0 aC) az))
  (aA (uh (i:=0) (vW hr) aC (jv 2))
  (aA (cA (bH Bc (ys hr 0 aC) az) (aA (zs lF.nd 3 (bB nG (ys hr 0 aC) (jv 1)))
  (aA (uh (i:=0) (vW hr) aC (JE.d (bB DQ (ys hr 0 aC) (jv 1))))
  (aN (bz (bF 3))))) bS)
  (aA (zs lF.nd 4 (bB xZ (JE.d (bB bN (JE.d (bB bN (JE.d (bB nG (ys hr 0 aC) az)) (JE.d (bB xZ (JE.d (bB xZ az (jv 2))) (jv 2))))) az)) az))
  (aA (zs lF.nd 4 (bB xZ (JE.d (bB bN (JE.d (bB nG (jv 4) az)) (JE.d (bB xZ az (jv 2))))) az))
  (aN (bz (bB nG (JE.d (bB DQ (JE.d (bB nG (jv 4) az)) az)) (jv 1)))))))))
def AB:bD ["_law_thing"] ["_law_thing"] (aJ pC):=sI
def AD (D:uS z) (N:NZ z):pD z b:=
 z9 D AB Eh fun _ _ _ _ _ _ _ hr=>(aA (cA (JW.t (xX (oz (lN (lO rfl N.ff rfl N.Pg adK (jv 0)))) (nZ (oz (M4 rq rq az (jl (i:=0) rfl N.pM) az))))) (aN (bz (JD.e Ba))) bS)
  (aN (bz (iS (cN hr.units) (JE.d (AJ cp rfl (rA (jv 0)) (fun _ _ _ _=>(QL (bH (K4 hr.units) (jv 0) aC (by with_unfolding_all rfl)))) (fun _ _ _ _=>(jv 0)))) (JE.d (bZ aI))))))
def Cv:bD [] [] (aJ rX):=sI
def Cw (D:yM z):rY z b:=
 z9 D Cv Lg fun _ _ _ _ _ _ _ hr=>(aN (bz (bZ (ah aC (ah aC (ah aC (ah aC (ah aC (ah aC (ah aC (ah aC aI)))))))))))
def nU:bD ["_law_tape_here","_law_names_here","_law_variables","_law_way","_law_number"] ["_law_tape_here","_law_names_here","_law_variables"] (aJ uT):=sI
def ES (D:Ai z) (N:NZ z) (bG:jA z b):uU z b:=
 z9 D nU Ls fun _ _ _ _ _ _ _ hr=>(aA (zs nU.nd 3 (jc bG hr (cC (bF 0) (aF az aT))))
  (aA (cA (bH (cN hr.units) (jv 3) az) (aN (bz (bL (ah aC aI)))) bS)
  (aA (cA (bH (cN hr.units) (jv 3) az) (aN (bz (bL (ah aC (ah (ys hr 1 (JE.d (jc bG hr (cC (bF 0) (aF (jl (i:=1) rfl N.pM) aT))))) aI))))) bS)
  (aA (zs nU.nd 4 (vX Ce (JE.d (bZ (ah az (ah az (ah az (ah az (ah az (ah az aI)))))))) (JE.d (jc bG hr (cC (bF 0) (aF az aT)))) (fun _ _=>rfl)))
  (aA (cA (JW.t (Bb (bH (Hu hr.units) (jv 2) (JE.d (bL aI))) (oA (bH Bc (JE.d (jc bG hr (cC (bF 0) (aF az aT)))) az)))) (aN (zs nU.nd 4 (JD.e (ys hr 2 (JE.d (jc bG hr (cC (bF 0) (aF (jl (i:=2) rfl N.pM) aT)))))))) bS)
  (aN (bz (bL (ah (JE.d (vX Ce (JE.d (bZ (ah aC (ah aC (ah aC aI))))) (JE.d (bB fq (jv 3) az)) (fun _ _=>rfl))) (ah (jv 4) aI))))))))))
def gJ:bD ["_law_tape_here","_law_world","_law_variables","_law_room","_law_deep","_law_way","_law_names_here","_law_x","_law_head"] ["_law_tape_here","_law_world","_law_variables","_law_room","_law_deep"] (aJ rZ):=sI
def Cy (D:yN z) (N:NZ z) (bG:jA z b) (fK:j8 z b j):r9 z b (j+1):=
 z9 D gJ (RN j) fun _ _ _ _ _ _ _ hr=>(aA (zs gJ.nd 5 (jc bG hr (cC (bF 0) (aF az aT))))
  (aA (cA (JW.t (Bb (bH ki (jv 5) az) (oA (bH ki (ys hr 1 aC) az)))) (aA (uh (i:=1) (vW hr) aC (JE.d (bB bN (ys hr 1 aC) az)))
  (aA (zs gJ.nd 6 (JD.e (ys hr 1 aC)))
  (aA (zs gJ.nd 7 (vX Ce (JE.d (bZ (ah aC (ah aC (ah aC (ah aC aI)))))) (JE.d (jc bG hr (cC (bF 0) (aF az aT)))) (fun _ _=>rfl)))
  (aA (zs gJ.nd 8 (bL (ah (JE.d (vX Ce (JE.d (bZ (ah aC (ah aC aI)))) (JE.d (bB nG (jv 5) az)) (fun _ _=>rfl))) (ah (ys hr 6 (JE.d (jc bG hr (cC (bF 0) (aF (jl (i:=6) rfl N.pM) aT))))) (ah (jv 7) aI)))))
  (aN (bz (bB bN (jv 8) (JE.d (bL (ah (JE.d (jc fK hr (cC (bF 0) (cC (bF 1) (aF (JE.d (bB bN (jv 2) (JE.d (bL (ah (jv 7) aI))))) (aF (JE.d (bB fq (jv 3) az)) (aF (JE.d (bB fq (jv 4) az)) aT))))))) aI)))))))))) bS)
  (aA (zs gJ.nd 8 (bL (ah (JE.d (vX Ce (JE.d (bZ (ah aC (ah aC (ah aC (ah aC aI)))))) (JE.d (bB nG (jv 5) az)) (fun _ _=>rfl))) aI)))
  (aA (cA (bH (cN hr.units) (jv 5) az) (aN (zs gJ.nd 8 (bL (ah aC (ah (JE.d (jc bG hr (cC (bF 0) (aF az aT)))) aI))))) bS)
  (aN (bz (bB bN (jv 8) (JE.d (bL (ah (JE.d (jc fK hr (cC (bF 0) (cC (bF 1) (aF (jv 2) (aF (JE.d (bB fq (jv 3) az)) (aF (JE.d (bB fq (jv 4) az)) aT))))))) aI))))))))))
def jE:bD ["_law_tape_here","_law_world","_law_variables","_law_room","_law_deep","_law_way","_law_first","_law_one","_law_other"] ["_law_tape_here","_law_world","_law_variables","_law_room","_law_deep"] (aJ ql):=sI
def BZ (D:we z) (bG:jA z b) (xy:uU z b) (fK:j8 z b j) (Aj:r9 z b j):j8 z b (j+1):=
 z9 D jE (RM j) fun _ _ _ _ _ _ _ hr=>(aA (zs jE.nd 5 (jc bG hr (cC (bF 0) (aF az aT))))
  (aA (cA (JW.t (xX (bH ki (jv 3) az) (xX (bH ki (jv 4) az) (nZ (bH (cN hr.units) (jv 5) az))))) (aA (cA (bH (cN hr.units) (JE.d (bB nG (jv 5) az)) az) (aN (bz (bL (ah (JE.d (vX Ce (JE.d (bZ (ah aC (ah aC aI)))) (JE.d (jc bG hr (cC (bF 0) (aF az aT)))) (fun _ _=>rfl))) aI)))) bS)
  (aN (bz (bL (ah aC (ah (JE.d (jc xy hr (cC (bF 0) (aF (ys hr 1 aC) (aF (jv 2) aT))))) aI)))))) bS)
  (aA (cA (JW.t (Bb (bH ki (jv 5) az) (oA (bH Bc (jv 3) az)))) (aA (zs jE.nd 6 (bB bN az (JE.d (jc bG hr (cC (bF 0) (aF (JE.d (bB fq (jv 3) az)) aT))))))
  (aA (zs jE.nd 7 (jc fK hr (cC (bF 0) (cC (bF 1) (aF (jv 2) (aF (jv 6) (aF (JE.d (bB fq (jv 4) az)) aT)))))))
  (aA (zs jE.nd 8 (jc fK hr (cC (bF 0) (cC (bF 1) (aF (jv 2) (aF (JE.d (bB fq (JE.d (bB fq (jv 3) az)) (jv 6))) (aF (JE.d (bB fq (jv 4) az)) aT)))))))
  (aN (bz (bL (ah (JE.d (vX Ce (JE.d (bZ (ah aC (ah aC (ah aC (ah aC aI)))))) (JE.d (bB fq (jv 5) az)) (fun _ _=>rfl))) (ah (jv 7) (ah (jv 8) aI))))))))) bS)
  (aN (bz (jc Aj hr (cC (bF 0) (cC (bF 1) (aF (jv 2) (aF (jv 3) (aF (jv 4) aT)))))))))))
def Cz:bD ["_law_tape_here","_law_names_here","_law_room","_law_deep"] ["_law_tape_here","_law_names_here","_law_room","_law_deep"] (aJ se):=sI
def CA (D:yO z) (fK:j8 z b 17):sf z b:=
 z9 D Cz HY fun _ _ _ _ _ _ _ hr=>(aN (bz (jc fK hr (cC (bF 0) (cC (yp (hk:=acF rfl) (dO (jv 1) (dO az ym))) (aF (JE.d (bL aI)) (aF (jv 2) (aF (jv 3) aT))))))))
def wg:bD ["_law_head","_law_shapes"] ["_law_head"] (aJ sr):=sI
def CB (D:yP z):nP z b:=
 z9 D wg Lq fun _ _ _ _ _ _ _ hr=>(aA (zs wg.nd 1 (yp (hk:=acF rfl) (dO (JE.d (bL (ah az (ah (JE.d (bZ aI)) aI)))) (dO (JE.d (bL (ah az (ah (JE.d (bZ aI)) aI)))) (dO (JE.d (bL (ah az (ah (JE.d (bZ aI)) aI)))) (dO (JE.d (bL (ah az (ah (JE.d (bZ (ah az aI))) aI)))) (dO (JE.d (bL (ah az (ah (JE.d (bZ (ah az aI))) aI)))) (dO (JE.d (bL (ah az (ah (JE.d (bZ (ah az aI))) aI)))) ym))))))))
  (aA (jG (JD.e (Jm (i:=1) (yp (hk:=acF rfl) (dO (JE.d (bL (ah az (ah (JE.d (bZ (ah az aI))) aI)))) (dO (JE.d (bL (ah az (ah (JE.d (bZ (ah az (ah az aI)))) aI)))) (dO (JE.d (bL (ah az (ah (JE.d (bZ (ah az (ah az aI)))) aI)))) (dO (JE.d (bL (ah az (ah (JE.d (bZ (ah az (ah az aI)))) aI)))) ym))))))))
  (aA (jG (JD.e (Jm (i:=1) (yp (hk:=acF rfl) (dO (JE.d (bL (ah az (ah (JE.d (bZ (ah az aI))) aI)))) (dO (JE.d (bL (ah az (ah (JE.d (bZ (ah az aI))) aI)))) (dO (JE.d (bL (ah az (ah (JE.d (bZ (ah az aI))) aI)))) ym)))))))
  (aN (bz (JD.e (Q3 (i:=1) (vW hr) (jv 0) (JE.d (bL (ah az (ah (JE.d (bZ aI)) aI)))))))))))
def iQ:bD ["_law_saying_here","_law_tokens","_law_at"] ["_law_saying_here"] (aJ su):=sI
def CC (D:yQ z) (N:NZ z) (kM:nP z b) (mW:nQ z b j):nQ z b (j+1):=
 z9 D iQ (Ie j) fun _ _ _ _ _ _ _ hr=>(aA (zs iQ.nd 1 (bZ (ah (ys hr 0 az) aI)))
  (aA (cA (bH (cN hr.units) (ys hr 0 az) aC) (aN (zs iQ.nd 1 (bB bN (jv 1) (JE.d (AJ cp rfl (rA (ys hr 0 az)) (fun _ _ _ _=>DU) (fun _ _ _ _=>(JE.d (qC wK rfl N.Pg adK (ah (jv 0) aI))))))))) bS)
  (aA (cA (bH (cN hr.units) (ys hr 0 az) aC) (aN (jG (JD.e (DR (i:=1) afT afU CO CT CY (ah (JE.d (qC wK rfl N.Pg adK (ah (ys hr 0 az) aI))) aI))))) bS)
  (aA (cA (bH (qc hr.units) (ys hr 0 az) (JE.d (bL (ah aC (ah aC aI)))) (by with_unfolding_all rfl)) (aN (zs iQ.nd 1 (bB bN (jv 1) (JE.d (bZ (ah (ys hr 0 az) (ah (ys hr 0 az) aI))))))) bS)
  (aA (wC adL rfl (rA (JE.d (vX Ce (JE.d (jc kM hr (aF (ys hr 0 az) aT))) az (fun _ _=>rfl)))) (zg iQ.nd 2) (aN (zs iQ.nd 1 (bB bN (jv 1) (JE.d (jc mW hr (aF (ys hr 0 (jv 2)) aT)))))))
  (aN (bz (bF 1))))))))
def sU:bD ["_law_error","_law_kinds"] ["_law_error"] (aJ pF):=sI
def AE (D:uV z) (N:NZ z):pG z b:=
 z9 D sU (SQ z.bu) fun _ _ _ _ _ _ _ hr=>(aA (zs sU.nd 1 (bZ (ah (xnt N.ff (Cp N.LZ (Cp N.EH (Cp N.S5 (Cp N.S4 (Cp N.Pk (Cp N.SY (Cp N.Xf (Cp N.Pj TZ)))))))) (AN ⟨N.yK,N.AZ,N.i0⟩ Eg) (bF 0)) aI)))
  (aA (jG (JD.e (DR (i:=1) afT afU CO CT CY (ah (xnt N.ff (Cp N.Pn (Cp N.Xg TZ)) (AN ⟨N.yK,N.AZ,N.i1⟩ Eg) (bF 0)) aI))))
  (aA (cA (JW.t (xX (QZ (i:=1) (Hu hr.units) (JE.d (bZ (ah Ba (ah Ba aI))))) (xX (oz (lN (xn1 N.ff N.S6 (AN ⟨N.yK,N.AZ,N.i2⟩ Eg) (bF 0)))) (nZ (oz (lN (xnb N.ff N.Gv PyProof.Rows.Boot.ValueError (AN ⟨N.yK,N.AZ,N.i3⟩ Eg) (bF 0)))))))) (aN (bz (Tz Jh az))) bS)
  (aN (bz (JD.e (Rz (Jv ⟨N.yK,N.S7,N.Iv⟩ Oc) (bF 0))))))))
def cI:bD ["_law_tokens","_law_spot","_law_variables","_law_room","_law_word","_law_long","_law_places","_law_found","_law_place","_law_deeper"] ["_law_tokens","_law_spot","_law_variables","_law_room"] (aJ sA):=sI
def CD (D:yR z) (N:NZ z) (kM:nP z b) (lW:lq z b) (dW:jf z b) (dX:jg z b) (mX:nR z b j):nR z b (j+1):=
 z9 D cI (WU j) fun _ _ _ _ _ _ _ hr=>(aA (cA (bH (cN hr.units) (jv 1) (jl (i:=0) rfl N.pM)) (aN (bz (bL (ah (jv 1) aI)))) bS)
  (aA (zs cI.nd 4 (JD.e (ys hr 0 (jv 1))))
  (aA (uh (i:=3) (vW hr) az (JE.d (bB fq (ys hr 3 az) az)))
  (aA (Vf (JE.d (jc kM hr (aF (jv 4) aT))) (Ve rfl (Fo (zg cI.nd 5) (Fo (zg cI.nd 6) QG))))
  (aA (cA (bH (qc hr.units) (jv 4) (JE.d (bL (ah aC (ah aC aI)))) (by with_unfolding_all rfl)) (aN (uh (i:=3) (vW hr) az (JE.d (bB fq (ys hr 3 az) az)))) bS)
  (aA (cA (JW.t (xX (bH (cN hr.units) (jv 5) az) (nZ (bH ki (Nq (i:=3) (HD rfl) rfl N.aez PyProof.Rows.Boot.min) az)))) (aN (bz (bL (ah (jv 1) aI)))) bS)
  (aA (zs cI.nd 7 (bB bN (jv 1) az))
  (aA (cA (bH (cN hr.units) (jv 4) aC) (aN (zs cI.nd 7 (jc lW hr (aF (jv 0) (aF (jv 7) (aF (jv 2) aT)))))) (aN (cA (bH (cN hr.units) (jv 4) aC) (aN (zs cI.nd 7 (jc dW hr (aF (jv 0) (aF (jv 7) (aF (JE.d (qC (Ab rfl) rfl N.Uo PyProof.Rows.Boot.list (ah aC aI))) aT)))))) (aN (cA (bH (qc hr.units) (jv 4) (JE.d (bL (ah aC (ah aC aI)))) (by with_unfolding_all rfl)) (aA (zs cI.nd 7 (jc dX hr (aF (jv 0) (aF (jv 7) aT))))
  (aN (cA (oz (lN (lO rfl N.ff rfl N.EG aeg (jv 7)))) (aA (zs cI.nd 2 (bB bN (jv 2) (JE.d (jo (jv 0) (iw (jv 7)) (iw (JE.d (bB bN (jv 7) az)))))))
  (aN (zs cI.nd 7 (jc dX hr (aF (jv 0) (aF (jv 7) aT)))))) bS))) bS)))))
  (aA (wC adL rfl (rA (jv 6)) (zg cI.nd 8) (aN (cA (oz (lN (lO rfl N.ff rfl N.EG aeg (jv 7)))) (aA (zs cI.nd 9 (bZ (ah (ys hr 3 az) (ah (ys hr 3 az) (ah (JE.d (bB fq (ys hr 3 az) az)) aI)))))
  (aA (zs cI.nd 7 (jc mX hr (aF (jv 0) (aF (jv 7) (aF (jv 2) (cC (bF 9) aT))))))
  (aA (uh (i:=3) (vW hr) az (ys hr 9 az))
  (aN (uh (i:=3) (vW hr) az (ys hr 9 az)))))) bS)))
  (aN (bz (bF 7))))))))))))
def xA:bD ["_law_tokens","_law_spot","_law_some"] ["_law_tokens","_law_spot","_law_some"] (aJ k7):=sI
def xB (D:pS z) (N:NZ z):jf z b:=
 z9 D xA WN fun _ _ _ _ _ _ _ hr=>(aA (cA (JW.t (Bb (bH ki (jv 1) (jl (i:=0) rfl N.pM)) (oA (bH (qc hr.units) (ys hr 0 (jv 1)) (jv 2) (by with_unfolding_all rfl))))) (aN (bz (bB bN (jv 1) az))) bS)
  (aN (bz (bL (ah (jv 1) aI)))))
def xC:bD ["_law_tokens","_law_spot"] ["_law_tokens","_law_spot"] (aJ k8):=sI
def xD (D:pT z) (N:NZ z) (qo:pD z b):jg z b:=
 z9 D xC WO fun _ _ _ _ _ _ _ hr=>(aA (cA (JW.t (Bb (bH ki (jv 1) (jl (i:=0) rfl N.pM)) (oA (lN (JE.d (jc qo hr (aF (ys hr 0 (jv 1)) aT))))))) (aN (bz (bB bN (jv 1) az))) bS)
  (aN (bz (bL (ah (jv 1) aI)))))
def pI:bD ["_law_tokens","_law_spot","_law_variables","_law_found"] ["_law_tokens","_law_spot","_law_variables"] (aJ k9):=sI
def xE (D:pU z) (N:NZ z) (dW:jf z b) (dX:jg z b):lq z b:=
 z9 D pI WQ fun _ _ _ _ _ _ _ hr=>(aA (zs pI.nd 3 (jc dW hr (aF (jv 0) (aF (jv 1) (aF (JE.d (bZ (ah aC (ah aC (ah aC (ah aC (ah aC aI))))))) aT)))))
  (aA (cA (JW.t (xX (lN (lO rfl N.ff rfl N.EG aeg (jv 3))) (nZ (bH (cN hr.units) (ys hr 0 (jv 1)) aC)))) (aN (bz (bF 3))) bS)
  (aA (cA (bH (cN hr.units) (ys hr 0 (jv 1)) aC) (aN (bz (jc dX hr (aF (jv 0) (aF (jv 3) aT))))) bS)
  (aN (bz (jc dW hr (aF (jv 0) (aF (jv 3) (aF (JE.d (bB bN (JE.d (qC (Ab rfl) rfl N.Uo PyProof.Rows.Boot.list (ah aC aI))) (jv 2))) aT)))))))))
def kJ:bD ["_law_text","_law_tokens","_law_found"] ["_law_text"] (aJ lu):=sI
def xF (D:pW z) (N:NZ z) (mX:nR z b 9):lz z b:=
 z9 D kJ WW fun _ _ _ _ _ _ _ hr=>(aA (zs kJ.nd 1 (mJ ur acw aeZ zj (jv 0) aC))
  (aA (zs kJ.nd 2 (jc mX hr (aF (jv 1) (aF az (aF (JE.d (bZ aI)) (cC (bZ (ah az (ah az (ah az aI)))) aT))))))
  (aA (cA (lN (lO rfl N.ff rfl N.EG aeg (jv 2))) (aN (bz (JD.e (ys hr 2 az)))) bS)
  (aN (bz (TH (bH ki (jv 2) (jl (i:=1) rfl N.pM)) (bF 2) (JD.e DP)))))))
def dY:bD ["_law_tape_here","_law_tokens","_law_at","_law_some","_law_other","_law_way"] ["_law_tape_here","_law_tokens"] (aJ lA):=sI
def xG (D:pX z) (N:NZ z) (bG:jA z b):lB z b:=
 z9 D dY W5 fun _ _ _ _ _ _ _ hr=>(aA (zs dY.nd 2 (jc bG hr (cC (bF 0) (aF (jl (i:=1) rfl N.pM) aT))))
  (aA (zs dY.nd 3 (bZ (ah aC (ah aC (ah aC (ah aC (ah aC (ah aC (ah aC (ah aC (ah aC (ah aC (ah aC (ah aC (ah aC aI)))))))))))))))
  (aA (zs dY.nd 3 (bB bN (jv 3) (JE.d (bZ (ah aC (ah aC (ah aC (ah aC (ah aC (ah aC (ah aC (ah aC (ah aC (ah aC (ah aC (ah aC (ah aC (ah aC aI))))))))))))))))))
  (aA (zs dY.nd 4 (JD.e (ys hr 3 (JE.d (jc bG hr (cC (bF 0) (aF (jl (i:=3) rfl N.pM) aT)))))))
  (aA (zs dY.nd 5 (jc bG hr (cC (bF 0) (aF az aT))))
  (aA (cA (bH (cN hr.units) (jv 5) az) (aN (bz (bB bN (JE.d (jo (jv 1) nH (iw (jv 2)))) (JE.d (jo (jv 1) (iw (JE.d (bB bN (jv 2) az))) nH))))) bS)
  (aA (cA (bH ki (jv 5) az) (aN (bz (bB bN (JE.d (bB bN (JE.d (jo (jv 1) nH (iw (jv 2)))) (JE.d (bZ (ah (jv 4) aI))))) (JE.d (jo (jv 1) (iw (JE.d (bB fq (JE.d (bB bN (jv 2) (jv 5))) az))) nH))))) bS)
  (aA (cA (bH (cN hr.units) (jv 5) az) (aN (bz (jo (jv 1) nH (iw (jv 2))))) bS)
  (aA (cA (bH (cN hr.units) (jv 5) az) (aN (bz (bB bN (jv 1) (JE.d (bZ (ah (jv 4) aI)))))) bS)
  (aA (cA (bH (cN hr.units) (jv 5) az) (aN (bz (bB bN (JE.d (bB bN (JE.d (jo (jv 1) nH (iw (jv 2)))) (JE.d (bB Jk (JE.d (jo (jv 1) (iw (jv 2)) (iw (JE.d (bB bN (jv 2) az))))) az)))) (JE.d (jo (jv 1) (iw (JE.d (bB bN (jv 2) az))) nH))))) bS)
  (aA (cA (bH (cN hr.units) (jv 5) az) (aN (bz (bB bN (JE.d (vX Ce (JE.d (bZ (ah (JE.d (bZ (ah aC aI))) (ah (JE.d (bZ (ah aC (ah aC aI)))) (ah (JE.d (bZ (ah aC (ah aC (ah aC aI))))) (ah (JE.d (bZ (ah aC (ah aC aI)))) aI)))))) (JE.d (jc bG hr (cC (bF 0) (aF az aT)))) (fun _ _=>rfl))) (jv 1)))) bS)
  (aN (bz (bB bN (JE.d (bB Jk (JE.d (bZ (ah aC aI))) (JE.d (jc bG hr (cC (bF 0) (aF az aT)))))) (jv 1)))))))))))))))
def gK:bD ["_law_text","_law_fault_here","_law_caught","_law_saying_here","e"] ["_law_text"] (aJ sC):=sI
def CF (D:yS z) (N:NZ z) (lX:lz z b) (sM:qj z b) (mD:pG z b) (ID:EK z b) (sN:qk z b):sD z b:=
 z9 D gK (LP z.ak z.bu) fun _ _ _ _ _ _ _ hr=>(aA (zs gK.nd 1 (jc lX hr (aF (jv 0) aT)))
  (aA (zs gK.nd 2 (JD.e DP))
  (aA (zs gK.nd 3 (JD.e DP))
  (aA (xt gK.nd 4 N.Iu N.Iw (Jv N.yL Oc) (iU (oN (xc sN hr (aF (jv 0) aT)))) (aN (zs gK.nd 3 (jc sM hr (aF (jv 0) aT)))) (fun _=>(aN (zx gK.nd 2 (bF 4)))))
  (aA (cA (bH HH (jv 1) DP) (aN (bz (JD.e (qb (xnz (bF 2)) (qb (JE.d (iS (cN hr.units) (JE.d (jc mD hr (cC (bF 2) aT))) (jv 1))) (oB (Vc (lO rfl N.ff rfl N.aaj PyProof.Rows.Boot.bool (JE.d (jc mD hr (cC (bF 2) aT))))))))))) bS)
  (aN (bz (JD.e (qb (xz (bF 2)) (oB (JE.d (iS (cN hr.units) (JE.d (jc ID hr (aF (jv 3) aT))) (jv 0)))))))))))))
def pJ:bD ["_law_script","_law_fixed","_law_text","_law_k","_law_tape_here","_law_names_here","_law_saying_here","_law_tokens","_law_bent","_law_texts"] ["_law_script"] (aJ Kp):=sI
def Xh {f:Addr}{fd:FuncData}(F:Je z.K "law" "law" Kp f fd) (N:NZ z) (pY:sD z b) (xH:uQ z b) (uZ:rY z b) (u5:sf z b) (bG:jA z b) (mW:nQ z b 9) (jJ:lB z b):gQ z.P z.w z.K z.mg b xV 21 f fd ["_law_script"] (spT z.K 1 (D8 63)):=
 okT (g:=Sx.Km ((wX z.ak z.bu)) Bu zm zA cV (nK 9) bwF) F pJ (fun _ _ _ _ _ _ hr=>(aA (zs pJ.nd 1 (bZ (ah aC (ah aC (ah aC (ah aC (ah aC (ah aC (ah aC (ah aC (ah aC aI)))))))))))
  (aA (wC adL rfl (rA (jv 1)) (zg pJ.nd 2) (aN (cA (oz (lN (JE.d (jc pY hr (aF (jv 2) aT))))) (aN (bz (JD.e Ba))) bS)))
  (aA (wC adL rfl (za rfl N.Ir (ah (JE.d (bB bN az (JE.d (ou qD rfl N.pM acE (ah (JE.d (K9 (i:=0) nH (iw az))) aI))))) aI)) (zg pJ.nd 3) (aA (zs pJ.nd 4 (jc xH hr (cC (bF 0) (aF (jv 3) aT))))
  (aA (zs pJ.nd 5 (bB bN (JE.d (jc0 uZ hr)) (JE.d (bZ (ah aC (ah aC (ah aC (ah aC (ah aC (ah aC aI))))))))))
  (aA (zs pJ.nd 6 (jc u5 hr (cC (bF 4) (aF (jv 5) (aF (JE.d (bB bN az (JE.d (jc bG hr (cC (bF 4) (aF az aT)))))) (aF (JE.d (bB bN az (JE.d (jc bG hr (cC (bF 4) (aF az aT)))))) aT))))))
  (aA (zs pJ.nd 7 (jc mW hr (aF (jv 6) aT)))
  (aA (zs pJ.nd 8 (jc jJ hr (cC (bF 4) (aF (jv 7) aT))))
  (aA (zs pJ.nd 9 (bZ (ah (JE.d (mJ oK adM adN uu aC (jv 7))) (ah (JE.d (mJ oK adM adN uu aC (jv 8))) (ah aC (ah (JE.d (mJ oK adM adN uu aC (JE.d (Vs (jv 8) (JE.d (Tz Jh az)))))) aI))))))
  (aA (cA (bH (Hu hr.units) (jv 8) (JE.d (bZ aI))) (aN (uh (i:=9) (vW hr) az (JE.d (mJ oK adM adN uu aC (JE.d (jc jJ hr (cC (bF 4) (aF (jv 8) aT)))))))) bS)
  (aN (wC adL rfl (rA (jv 9)) (zg pJ.nd 2) (aN (cA (oz (lN (JE.d (jc pY hr (aF (jv 2) aT))))) (aN (bz (JD.e Ba))) bS))))))))))))
  (aN (bz (JD.e Ba))))))) (LY z.ak z.bu)
set_option maxHeartbeats 0 in
def S9 {fa:Addr}(mC:XA z.K z.mg "Reader" z.ak) (B3:Du z) (B4:Dv z) (qp:uN z) (zP:BS z) (qu:uO z) (lY:pR z) (mF:pB z) (lG:nk z) (iE:jQ z) (iF:jT z) (iG:jW z) (gF:iY z) (gZ:jy z) (dm:i7 z) (nW:qi z) (vK:BU z) (IE:Ko z) (xJ:Ag z) (xK:Ah z) (qw:uS z) (u6:yM z) (xM:Ai z) (pZ:yN z) (nY:we z) (u9:yO z) (vc:yP z) (p5:yQ z) (qx:uV z) (p6:yR z) (lZ:pS z) (l5:pT z) (l6:pU z) (l7:pW z) (l8:pX z) (vd:yS z) (Xi:aak z) (N:NZ z) (Vg:z.mg "law" =some (.ref fa)):
  ∃fd:FuncData,(∀(s:Shared) (v:Value),BindsTo s fd ⟨[v],[]⟩ [("_law_script",v)])/\∀b:Heap,z.K.In b->b.Ns mainGlobals z.mg->gQ z.P z.w z.K z.mg b xV 21 fa fd ["_law_script"] (spT z.K 1 (D8 63)):=by
 obtain⟨f,fd,F,m⟩:=Xi.ex;cases Vg.symm.trans m;refine⟨fd,fun s v=>?_,fun b _ _=>?_⟩
 ·obtain⟨_,_,_,_,_,_,_,_,_,rfl,_,_⟩:=F.ex;exact .of_eq rfl
 ·have qV:vI z b:=IA B3 N;have pH:vJ z b:=IC B4 N;have iP:kY z b:=Aw qp N;have zO:xj z b:=Gy zP N;have iO:kZ z b:=Ay qu N;have fO:je z b:=xx lY N;have xH:uQ z b:=EO xJ N;have bG:jA z b:=ER xK;have qo:pD z b:=AD qw N;have uZ:rY z b:=Cw u6;have kM:nP z b:=CB vc;have mD:pG z b:=AE qx N;have dW:jf z b:=xB lZ N;have xy:uU z b:=ES xM N bG;have dX:jg z b:=xD l5 N qo;have jJ:lB z b:=xG l8 N bG;have br:c7 z b:=Az mF N;have cH:ia z b:=zL mF N;have bq:cS z b:=zM lG;have b9:f9 z b:=yU lG N;have lW:lq z b:=xE l6 N dW dX;have bM:dH z b:=uW iE N br bq qV;have dc:gW z b:=tG iE N bq qV br b9 cH;have dR:gX z b:=uX iF N br bq pH;have kH:jU z b:=tH iF N bq pH br b9 cH;have dj:fU z b:=sF gF N br bq;have jD:iZ z b:=qW gF N bq br b9 cH;have dU:gY z b:=uY iG N br bM bq;have kG:jX z b:=tK iG N bq br bM b9 cH dc;have dI:gz z b:=tL gZ N dR dU dj bM;have jY:jz z b:=sG gZ N bM dj dU dR dc jD kG kH;have L5:∀j:Nat,rW z b j:=by
   intro j
   induction j with
   | zero=>exact yx vK (Gj)
   | succ j ih=>exact(Gz vK N zO ih).mono (by lia)
  have qY:=(L5 9)
  have GC:∀j:Nat,nQ z b j:=by
   intro j
   induction j with
   | zero=>exact yx p5 (Er)
   | succ j ih=>exact(CC p5 N kM ih).mono (by lia)
  have mW:=(GC 9)
  have ID:EK z b:=Pr IE qY;have GF:∀j:Nat,nR z b j:=by
   intro j
   induction j with
   | zero=>exact yx p6 (O2)
   | succ j ih=>exact(CD p6 N kM lW dW dX ih).mono (by lia)
  have mX:=(GF 9)
  have lX:lz z b:=xF l7 N mX;have mY:∀j:Nat,cY z b j/\fV z b j:=by
   intro j
   induction j with
   | zero=>exact⟨NS dm (OE z.ak),Lm dm (OR z.ak z.bu)⟩
   | succ j ih=>exact⟨(sH dm N dI iO iP ih.1).mono (by lia),(qX dm N iP ih.1 iO dI ih.2 jY).mono (by lia)⟩
  have bV:=(mY 9).1;have fh:=(mY 9).2;have sM:qj z b:=BY nW N fO bV mC;have sN:qk z b:=AA nW N bV fO mC fh;have pY:sD z b:=CF vd N lX sM mD ID sN;have Ak:∀j:Nat,j8 z b j/\r9 z b j:=by
   intro j
   induction j with
   | zero=>exact⟨yx nY (Lv),yx pZ (Lw)⟩
   | succ j ih=>exact⟨(BZ nY bG xy ih.1 ih.2).mono (by lia),(Cy pZ N bG ih.1).mono (by lia)⟩
  have fK:=(Ak 17).1;have Aj:=(Ak 17).2;have u5:sf z b:=CA u9 fK;exact Xh F N pY xH uZ u5 bG mW jJ
def all_mk {w:World}{K:AAD}{mg:AAF}{fa ak bu oZ w5 rR o7 rS rT iD lU xg o8 jw:Addr}(mC:XA K mg "Reader" ak) (B3:Df K mg "is_name" zJ) (B4:Df K mg "is_head" zK) (qp:Df K mg "parts_wanted" o9) (zP:Df K mg "parts_of" xh) (qu:Df K mg "bound_within" pq) (lY:Bw K ak "__init__" "Reader.__init__" k6) (mF:Bw K ak "taken" "Reader.taken" pA) (lG:Bw K ak "wanted" "Reader.wanted" nj) (iE:Bw K ak "name_taken" "Reader.name_taken" jP) (iF:Bw K ak "head_taken" "Reader.head_taken" jR) (iG:Bw K ak "test_taken" "Reader.test_taken" jV) (gF:Bw K ak "within_taken" "Reader.within_taken" iX) (gZ:Bw K ak "begin_taken" "Reader.begin_taken" jx) (dm:Bw K ak "saying_taken" "Reader.saying_taken" i6) (nW:Df K mg "read_saying" qh) (vK:Df K mg "words_of" xu) (IE:Df K mg "shown" EJ) (xJ:Df K mg "_law_tape" uP) (xK:Df K mg "_law_pick" uR) (qw:Df K mg "_law_is_name" pC) (u6:Df K mg "_law_names" rX) (xM:Df K mg "_law_test" uT) (pZ:Df K mg "_law_inner" rZ) (nY:Df K mg "_law_saying" ql) (u9:Df K mg "_law_whole" se) (vc:Df K mg "_law_shape" sr) (p5:Df K mg "_law_words" su) (qx:Df K mg "_law_refused" pF) (p6:Df K mg "_law_fault" sA) (lZ:Df K mg "_law_word_fault" k7) (l5:Df K mg "_law_name_fault" k8) (l6:Df K mg "_law_test_fault" k9) (l7:Df K mg "_law_text_fault" lu) (l8:Df K mg "_law_bent_words" lA) (vd:Df K mg "_law_right" sC) (Xi:Df K mg "law" Kp) (N:Nb l.prog w K mg ak bu oZ w5 rR o7 rS rT iD lU xg o8 jw) (Vg:mg "law" =some (.ref fa)):
  ∃fd:FuncData,(∀(s:Shared) (v:Value),BindsTo s fd ⟨[v],[]⟩ [("_law_script",v)])/\∀base:Heap,K.In base->base.Ns mainGlobals mg->gQ l.prog w K mg base xV 21 fa fd ["_law_script"] (spT K 1 (D8 63)):=
 S9 (z:=⟨l.prog,w,K,mg,ak,bu,oZ,w5,rR,o7,rS,rT,iD,lU,xg,o8,jw⟩) mC B3 B4 qp zP qu lY mF lG iE iF iG gF gZ dm nW vK IE xJ xK qw u6 xM pZ nY u9 vc p5 qx p6 lZ l5 l6 l7 l8 vd Xi N Vg
def walk {q:Program}{loose:BBB}{XP:(Str->BBP)->Heap->Prop}{YP:World->Heap->Prop}{d:DefRec}{K:Params->PySem.W.Frag}(hn:l.most=some 63) (hdf:d.params.defaults=[])
  (hY:∀(w:World) (h:Heap),YP w h->(K w.params).In h)
  (F:∀(w:World) (mg:AAF) (fa:Addr) (h:Heap),(K w.params).In h->h.Ns mainGlobals mg->mg d.name=some (.ref fa)->
   ∃fd:FuncData,(∀(s:Shared) (u:Value),BindsTo s fd ⟨[u],[]⟩ [("_law_script",u)])/\∀base:Heap,(K w.params).In base->base.Ns mainGlobals mg->gQ l.prog w (K w.params) mg base xV 21 fa fd ["_law_script"] (spT (K w.params) 1 (D8 63))):
  PySem.W.WalkO q loose XP YP l.row.toRowW d [] (fun f vs=>PySem.call f vs):=
 L2.Qq (n:=63) (k:=21) (x:="_law_script") (CX:=fun _=>xV) (sp:=fun w=>spT (K w.params) 1 (D8 63)) hn (by decide) hdf ⟨rfl,by decide,by decide,rfl⟩ hY F (fun w H a ns hl hO hS=>VC hl hO hS) fun _ _ _ _ _ z=>z
end K11
open PySem PySem.W PyProof.Rows
noncomputable def PySem.W.Fast.tw8544587362944477329:Nat->Stmt:=K11.top
theorem PySem.W.Fast.te8544587362944477329:K11.top=PySem.W.Fast.tw8544587362944477329:=rfl
def K11.sc:Scope:=PySem.Challenge.pw_surewatch_k11_texts_that_write_none.main.scope
noncomputable def PySem.W.Fast.tw2366013627583741021:Scope:=K11.sc
theorem PySem.W.Fast.te2366013627583741021:K11.sc=PySem.W.Fast.tw2366013627583741021:=rfl
def K11.pw:Program:={main:={body:=[K11.top 0,K11.top 1,K11.top 2,K11.top 3,K11.top 4,K11.top 5,K11.top 6,K11.top 7,K11.top 8,K11.top 9,K11.top 10,K11.top 11,K11.top 12,K11.top 13,K11.top 14,K11.top 15,K11.top 16,K11.top 17,K11.top 18,K11.top 19,K11.top 20,K11.top 21,K11.top 22,K11.top 23,K11.top 24,K11.top 25,K11.top 26,K11.top 27,K11.top 28,K11.top 29,K11.top 30,K11.top 31,K11.top 32,K11.top 33,K11.top 34,K11.top 35,K11.top 36,K11.top 37,K11.top 38,K11.top 39,K11.top 40,K11.top 41,K11.top 42,K11.top 43,K11.top 44,K11.top 45,K11.top 46,K11.top 47,K11.top 48,K11.top 49,K11.top 50,K11.top 51,K11.top 52,K11.top 53,K11.top 54,K11.top 55],scope:=K11.sc,futureAnnotations:=false,file:="/claim/cut.py",more:=[]},modules:=[],parses:=[],absent:=[],harvested:=[],given:={argv:=[],stdin:=[],environ:=some [([76,67,95,65,76,76],[67,46,85,84,70,45,56])]}}
def K11.rw:OpenLaw:={prog:=K11.pw,name:=(PySem.Str.ofString "law"),about:=[(PySem.Str.ofString "read_saying")],foot:=19,most:=some 63,bound:=none,writes:=false}
def PySem.W.Fast.tw13299764161334450085:=0
def PySem.W.Fast.tw14954999152661534227:=0
def PySem.W.Fast.tw12359705002350966990:=0
def PySem.W.Fast.tw4874494512798226829:=0
def PySem.W.Fast.tw7597019992100705312:=0
def PySem.W.Fast.tw16275662401356077760:=0
def PySem.W.Fast.tw12795760503084163490:=0
def PySem.W.Fast.tw13720325508488000861:=0
def PySem.W.Fast.tw10345129062973511264:=0
def PySem.W.Fast.tw3004167929077856114:=0
def PySem.W.Fast.tw14576994122719580563:=0
def PySem.W.Fast.tw8205130122933325065:=0
def PySem.W.Fast.tw17777673808899872848:=0
def PySem.W.Fast.tw3420481961775886960:=0
def PySem.W.Fast.tw12903703803130980901:=0
def PySem.W.Fast.tw12586806693039036024:=0
def PySem.W.Fast.tw13993636258372661251:=0
def PySem.W.Fast.tw11359891633052833151:=0
def PySem.W.Fast.tw5911827018140187699:=0
def PySem.W.Fast.tw8307486812148773561:=0
def PySem.W.Fast.tw17002884191208634364:=0
def PySem.W.Fast.tw10312476475919206396:=0
def PySem.W.Fast.tw7582600611689776847:=0
def PySem.W.Fast.tw6660013997163581274:=0
def PySem.W.Fast.tw3497668450274845292:=0
def PySem.W.Fast.tw9069342965691613827:=0
def PySem.W.Fast.tw5139811637137117416:=0
def PySem.W.Fast.tw12503295028228149393:=0
def PySem.W.Fast.tw6476603849271391919:=0
def PySem.W.Fast.tw18069981122169179738:=0
def PySem.W.Fast.tw14581529013649563974:=0
def PySem.W.Fast.tw6865999349557719138:=0
def PySem.W.Fast.tw17668646884758130809:=0
def PySem.W.Fast.tw2700010078849254717:=0
def PySem.W.Fast.tw7160635562910442475:=0
def PySem.W.Fast.tw6596416144381994894:=0
def PySem.W.Fast.tw297968509344193478:=0
def PySem.W.Fast.tw1663803941772272545:=0
def PySem.W.Fast.tw14709563773565085485:=0
def PySem.W.Fast.tw16495286063385843934:=0
def PySem.W.Fast.tw18216078037299816916:=0
def PySem.W.Fast.tw10842840219344593527:=0
def PySem.W.Fast.tw2738725694934248966:=0
def PySem.W.Fast.tw1351539864266003566:=0
def PySem.W.Fast.tw460665169958701108:=0
def PySem.W.Fast.tw11665651244896333725:=0
def PySem.W.Fast.tw11235118260091169188:=0
def PySem.W.Fast.tw8934335391021367409:=0
def PySem.W.Fast.tw1145744320235782614:=0
def PySem.W.Fast.tw4285577188338709846:=0
def PySem.W.Fast.tw1811788675110835227:=0
def PySem.W.Fast.tw12615779876050228156:=0
def PySem.W.Fast.tw5779806256770918653:=0
def PySem.W.Fast.tw14645395934675990409:=0
def PySem.W.Fast.tw16494576148020537422:=0
def PySem.W.Fast.tw5579211819145902743:=0
def PySem.W.Fast.tw5585147946307537649:=0
def PySem.W.Fast.tw764107257186110047:=0
def PySem.W.Fast.tw8854453926938595843:=0
def PySem.W.Fast.tw7379243215291112631:=0
def PySem.W.Fast.tw8255291604528403933:=0
def PySem.W.Fast.tw17981313273000949940:=0
def PySem.W.Fast.tw2144728304506044833:=0
def PySem.W.Fast.tw11578491343195219325:=0
def PySem.W.Fast.tw13753370742033610258:=0
def PySem.W.Fast.tw17473165836006009150:=0
def PySem.W.Fast.tw1038260130770989274:=0
def PySem.W.Fast.tw14097454407557377523:=0
def PySem.W.Fast.tw14399509018142532503:=0
def PySem.W.Fast.tw986005197611615605:=0
def PySem.W.Fast.tw10325394862241302170:=0
def PySem.W.Fast.tw3488877679596562178:=0
def PySem.W.Fast.tw15359249607897143164:=0
def PySem.W.Fast.tw14252388366214975127:=0
def PySem.W.Fast.tw6954665911621366943:=0
def PySem.W.Fast.tw11481936079314326160:=0
def PySem.W.Fast.tw4768280037072323132:=0
def PySem.W.Fast.tw16522873635435312818:=0
def PySem.W.Fast.tw17998034710079571999:=0
def PySem.W.Fast.tw11833156837581025487:=0
def PySem.W.Fast.tw7022036756448472704:=0
def PySem.W.Fast.tw3428079063577391035:=0
def PySem.W.Fast.tw9376931140871509716:=0
def PySem.W.Fast.tw4532401994393888623:=0
def PySem.W.Fast.tw5394807751074332703:=0
set_option maxRecDepth 100000 in
set_option maxHeartbeats 0 in
def K11.holds:K11.rw.Holds:=by
 w_on;o_law;k_head;(case hw=>w_witness2)
 k_fill
 refine K11.walk (l:=K11.rw) rfl rfl (fun w h Y=>PySem.W.kIn_of Y) ?F
 case F=>
  intro w mg fa h KX G hmg;refine' K11.all_mk ?mC ?_ ?_ ?_ ?_ ?_ ?_ ?_ ?_ ?_ ?_ ?_ ?_ ?_ ?_ ?_ ?_ ?_ ?_ ?_ ?_ ?_ ?_ ?_ ?_ ?_ ?_ ?_ ?_ ?_ ?_ ?_ ?_ ?_ ?_ ?_ ?_ ?NB hmg
  (case mC=>refine' L2.VE KX G ?a ?b ?c;(case a=>k_is);(case b=>k_is);(case c=>k_is))
  (case NB=>refine⟨abx KX G ?_,abx KX G ?_,abx KX G ?_,abx KX G ?_,abx KX G ?_,abx KX G ?_,abx KX G ?_,abx KX G ?_,abx KX G ?_,abx KX G ?_,abx KX G ?_,⟨_,aaF KX G (by k_is)⟩,⟨_,aaF KX G (by k_is)⟩,⟨_,aaF KX G (by k_is),L2.DY (by k_is) (by decide) (by(repeat refine⟨⟨rfl,⟨_,rfl⟩,_,rfl⟩,?_⟩);trivial)⟩,⟨_,aaF KX G (by k_is),L2.DY (by k_is) (by decide) (by(repeat refine⟨⟨rfl,⟨_,rfl⟩,_,rfl⟩,?_⟩);trivial)⟩,⟨_,aaF KX G (by k_is),L2.Q0 (by k_is) (by decide) (by(repeat refine⟨⟨_,rfl⟩,?_⟩);trivial)⟩,⟨_,aaF KX G (by k_is)⟩,⟨_,aaF KX G (by k_is)⟩,⟨_,aaF KX G (by k_is)⟩,⟨_,aaF KX G (by k_is),L2.DY (by k_is) (by decide) (by(repeat refine⟨⟨rfl,⟨_,rfl⟩,_,rfl⟩,?_⟩);trivial)⟩,⟨_,aaF KX G (by k_is)⟩,⟨?_,?_,?_,?_⟩,?_,?_,?_,?_,aaF KX G (by k_is),aaF KX G (by k_is),aaF KX G (by k_is),aaF KX G (by k_is),aaF KX G (by k_is),aaF KX G (by k_is),aaF KX G (by k_is),aaF KX G (by k_is),aaF KX G (by k_is),aaF KX G (by k_is),aaF KX G (by k_is),aaF KX G (by k_is),⟨_,by k_is,rfl,by decide,by k_is,by k_is⟩,⟨by k_is,by k_is,by k_is,by k_is⟩,by kernel_rfl,by kernel_rfl,by kernel_rfl,by kernel_rfl,by k_is,(by unfold L2.fX;k_is),⟨_,L2.Ju (by k_is),by decide⟩,⟨_,L2.Ju (by k_is),by decide⟩,(fun _=>L2.adV (m:="__init__") (qn:="NoText.__init__") (st:=K11.qg 2 0) (L2.VW (by k_is) (by k_is) (by k_is) (by k_is) (by k_is) (by kernel_rfl) (by kernel_rfl) PySem.F.excBase_ValueError (by decide)) (aaF KX G (by k_is)) (by k_is) ⟨by k_is,rfl,by decide,rfl,by k_is,fun _=>rfl⟩ (by unfold L2.fX;k_is) L2.sI rfl (by first | exact Or.inl rfl | exact Or.inr (Or.inl rfl) | exact Or.inr (Or.inr rfl)) (by first | exact Or.inl rfl | exact Or.inr (Or.inl rfl) | exact Or.inr (Or.inr rfl)) (by intro _ _ _ _ _ _ us hl;rcases us with _ | ⟨_,_ | ⟨_,_ | ⟨_,_ | ⟨_,_⟩⟩⟩⟩ <;> first | rfl | cases hl))⟩ <;> k_is)
  iterate 5 (refine' L2.TU KX G ?a ?l ?c ?k;(case a=>k_is);(case l=>k_is);(case c=>k_is);(case k=>k_is))
  iterate 9 (refine' L2.VD ?a ?l ?c ?k ?y;(case a=>k_is);(case l=>k_is);(case c=>k_is);(case k=>k_is);(case y=>k_is))
  iterate 22 (refine' L2.TU KX G ?a ?l ?c ?k;(case a=>k_is);(case l=>k_is);(case c=>k_is);(case k=>k_is))
theorem PySem.Challenge.cw_surewatch_k11_texts_that_write_none_holds : PySem.Challenge.rw_surewatch_k11_texts_that_write_none.Holds :=
 K11.holds
