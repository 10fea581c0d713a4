/-
  Part 1 of 21 of what the proof leans on: each part below says what it proves, and of what; no condition besides.
-/
import Derived.Orders
import Derived.Below
import Derived.KernelRfl
import Derived.Test.YtkmolglahmjfdaaGreatDoorProg
import Derived.WalkKit
import Derived.WalkSpells
import Derived.WalkLawsBesides
import Derived.Deep.QuietTactic
import Derived.Deep.RegionWith
import Derived.Deep.DrawnRows
import Derived.BigQuiet
import Derived.Lib.Hide
import Derived.Laws.StructEq
import Derived.Maps.AppendAt
import Derived.Deep.AppendLies
import Derived.OwnWalk
import Derived.Lib.BufSteps
import Derived.Lib.Replace
import Derived.Lib.ReplaceLaws
import Derived.Lib.ItoaNum
import Derived.Lib.Join
set_option maxHeartbeats 1000000
set_option linter.unusedVariables false
set_option linter.unusedSimpArgs false
namespace Go.Proofs.YtkmolglahmjfdaaGreatDoor
open Go Go.RowKit
set_option linter.defProp false
theorem zjW{p:Prop}(h:p):Hid p:=Lib.hid h
def zhh:=@Array.getElem?_eq_some_iff
def zhi:=@List.all_eq_true
def zhj:=@List.mem_range
def zhk:=@List.map_congr_left
def zhl:=@Nat.lt_or_ge
def zhm:=@Array.getElem?_eq_none
def zhn:=@List.mem_filterMap
def zho:=@Array.mem_of_getElem?
def zhp:=@Bool.and_eq_true
def zhq:=@List.any_eq_true
def zhr:=@decide_eq_true_eq
def zhs:=@Bool.or_eq_true
def zht:=@Array.getElem?_eq_getElem
def zhu:=@List.mem_map
def zhv:=@List.mem_filter
def zhw:=@Nat.le_refl
def zhx:=@List.contains_iff_mem
def zhy:=@Bool.not_false
def zhz:=@Bool.not_true
def zhA:=@Bool.false_eq_true
def zhB:=@Ne.symm
def zhC:=@Option.bind_some
def zhD:=@Bool.not_eq_true'
def zhE:=@Go.RowKit.Below.refl
def zhF:=@Nat.le_trans
def zhG:=@List.map_cons
def zhH:=@List.mem_cons
def zhI:=@List.mem_append_left
def zhJ:=@List.map_append
def zhK:=@List.append_assoc
def zhL:=@List.nodup_append
def zhM:=@List.mem_append_right
def zhN:=@List.mem_append
def zhO:=@Bool.false_ne_true
def zhP:=@List.mem_of_getElem?
def zhQ:=@List.nil_append
def zhR:=@List.cons_append
def zhS:=@List.length_cons
def zhT:=@Nat.add_assoc
def zhU:=@List.append_nil
def zhV:=@Nat.zero_add
def zhW:=@Go.ByteArray.toList_eq
def zhX:=@Go.RowKit.Below.heap_alloc
def zhY:=@Array.getElem?_modify
def zhZ:=@Nat.lt_of_lt_of_le
def zh0:=@Bool.eq_iff_iff
def zh1:=@decide_eq_true
def zh2:=@decide_eq_false
def zh3:=@Bool.or_false
def zh4:=@List.take_succ_cons
def zh5:=@Nat.add_mul
def zh6:=@List.length_append
def zh7:=@List.cons.injEq
def zh8:=@List.cons.inj
def zh9:=@List.append_cancel_left
def zia:=@List.mem_cons_of_mem
def zib:=@List.mem_singleton
def zic:=@Go.Lib.join_cons
def zid:=@List.length_nil
def zie:=@Nat.succ_mul
def zif:=@List.length_map
def zig:=@List.takeWhile_append_dropWhile
def zih:=@Option.some.injEq
def zii:=@Prod.mk.injEq
def zij:=@List.dropWhile_cons
def zik:=@Option.map_some
def zil:=@List.takeWhile_cons
def zim:=@List.foldl_cons
def zin:=@List.isEmpty_cons
def zio:=@Nat.zero_le
def zip:=@List.mem_of_find?_eq_some
def ziq:=@Int.toNat_natCast
def zir:=@List.flatMap_cons
def zis:=@List.isEmpty_eq_false_iff
def zit:=@List.take_append_drop
def ziu:=@List.take_add_one
def ziv:=@List.getD_eq_getElem?_getD
def ziw:=@List.getElem?_eq_getElem
def zix:=@Bool.or_eq_false_iff
def ziy:=@Bool.and_eq_false_iff
def ziz:=@Bool.not_eq_false'
def ziA:=@List.any_eq_false
def ziB:=@decide_eq_false_iff_not
def ziC:=@List.length_pos_iff
def ziD:=@List.getElem?_append_left
def ziE:=@List.getElem?_append_right
def ziF:=@Option.some.inj
def ziG:=@Bool.true_and
def ziH:=@Bool.not_eq_true
def ziI:=@List.getElem?_eq_some_iff
def ziJ:=@List.getElem?_take
def ziK:=@Option.isSome_none
def ziL:=@List.getElem?_toArray
def ziM:=@List.eq_nil_of_length_eq_zero
def ziN:=@Go.World.ownsRow.cells
def ziO:=@Go.WideShapes.add_plain
def ziP:=@List.mem_flatMap
def ziQ:=@List.flatMap_append
def ziR:=@Go.Sem.run_bind
def ziS:=@Go.Sem.run_pure
def ziT:=@Go.Result.andThen_ok
def ziU:=@List.map_toArray
def ziV:=@List.map_nil
def ziW:=@Go.World.grownBy.refl
def ziX:=@List.drop_eq_getElem_cons
def ziY:=@List.all_cons
def ziZ:=@Nat.mul_one
def zi0:=@Nat.add_zero
def zi1:=@Go.World.cell?_setCell_same
def zi2:=@Go.World.cell?_setCell_other
def zi3:=@Go.Addr.mk.injEq
def zi4:=@Go.World.frozen?_setCell
def zi5:=@Go.World.block_lt_of_cell?
def zi6:=@Go.Lib.hid
def zi7:=@Array.getElem?_append_left
def zi8:=@List.take_of_length_le
def zi9:=@Go.RowKit.Below.heap_setCell
def zja:=@Bool.false_and
def zjb:=@Bool.and_false
def zjc:=@List.getElem?_cons_zero
def zjd:=@List.length_drop
def zje:=@Nat.sub_self
def zjf:=@List.getElem?_map
def zjg:=@List.size_toArray
def zjh:=@Go.MapKept.run_getObj_map
def zji:=@Go.MapKept.run_findKey
def zjj:=@Go.MapKept.run_setObj_map
def zjk:=@List.not_mem_nil
def zjl:=@Option.bind_none
def zjm:=@Go.RowKit.Below.setCell
def zjn:=@Nat.le_of_lt
def zjo:=@Nat.le_of_eq
def zjp:=@Go.Lib.OthersKept.refl
def zjq:=@List.getElem?_cons_succ
def zjr:=@List.drop_eq_nil_of_le
def zjs:=@Array.length_toList
def zjt:=@List.length_take
def zju:=@List.length_replicate
def zjv:=@List.getElem?_replicate_of_lt
def zjw:=@Go.IntKind.wrap_i64
def zjx:=@UInt8.lt_iff_toNat_lt
def zjy:=@Int.add_zero
def zjz:=@List.pairwise_singleton
def zjA:=@Int.zero_add
def zjB:=@Int.mul_assoc
def zjC:=@Int.zero_mul
def zjD:=@Int.add_mul
def zjE:=@List.filter_cons_of_neg
def zjF:=@List.filter_cons_of_pos
def zjG:=@List.setIfInBounds_toArray
def zjH:=@List.set_cons_zero
def zjI:=@List.set_cons_succ
def zjJ:=@Nat.lt_succ_self
def zjK:=@List.mem_of_mem_take
def zjL:=@Array.toList_push
def zjM:=@Array.getElem?_toList
def zjN:=@List.ext_getElem?
def zjO:=@List.pairwise_iff_getElem
def zjP:=@Array.mem_toList_iff
def zjQ:=@List.getElem?_set
def zjR:=@List.filter_append
def zjS:=@List.filter_nil
def zjT:=@List.length_filter_le
def zjU:=@List.filter_eq_self
def zjV:=@Classical.choose_spec
namespace Reg
def yR(o:Oper):List Nat:=(o.after.toList.filter fun e=>Region.binds .any e).map (·.on)
def slot(a:Act)(t:Tmp):Value:=a.tmps.getD t undef
def Rm(ops:Array Oper):List Tmp:=ops.toList.filterMap (·.dst)
def At(see:Nat→List Tmp)(fact:Nat→List Value→World→Prop)(i:Nat)(a:Act)(w:World):Prop:=fact i ((see i).map (slot a)) w
def O2(ops:Array Oper)(see deps olds:Nat→List Nat)(i:Nat)(o:Oper):Bool:=((olds i).all fun t=>(List.range ops.size).all fun k=>match ops[k]? with|some ok=>ok.dst !=some t||(yR ok).contains i|none=>true)&&((yR o).all fun j=>decide (j<i))&&((deps i).all fun j=>(yR o).any fun k=>j==k||(deps k).contains j)&&((List.range ops.size).all fun k=>match(ops[k]?).bind (·.dst)with|some d=>!(see i).contains d||k==i||(deps i).contains k|none=>true)
def ok(ops:Array Oper)(see deps olds:Nat→List Nat):Bool:=(List.range ops.size).all fun i=>match ops[i]? with|some o=>O2 ops see deps olds i o|none=>true
section
variable {P : Program} {ops : Array Oper} {Q : Exit → Act → World → Prop} {see deps olds : Nat → List Nat} {fact : Nat → List Value → World → Prop}
theorem Yq(h:ok ops see deps olds=true){i:Nat}{o:Oper}(hi:ops[i]?=some o):O2 ops see deps olds i o=true:=by have hlt:i<ops.size:=(zhh.1 hi).1;have:=zhi.1 h i (zhj.2 hlt);simpa[hi]using this
structure Inv (ops : Array Oper) (see : Nat → List Nat) (fact : Nat → List Value → World → Prop) (B : Nat) (a0 : Act) (w0 : World) (listed : Array Bool) (a : Act) (w : World) : Prop where
 defers : a.defers = a0.defers
 size : a.tmps.size = a0.tmps.size
 old : ∀ t, (∀ k o, ops[k]? = some o → o.dst = some t → listed.getD k true = false) → slot a t = slot a0 t
 below : Below B w0 w
 down : ∀ i o, ops[i]? = some o → listed.getD i true = true → ∀ j ∈ yR o, listed.getD j true = true
 facts : ∀ i, i < ops.size → listed.getD i true = true → At see fact i a w
def zb0(P:Program)(ops:Array Oper)(Q:Exit→Act→World→Prop)(see deps olds:Nat→List Nat)(fact:Nat→List Value→World→Prop)(B:Nat)(a0:Act)(w0:World)(i:Nat)(o:Oper):Prop:=∀(a:Act)(w:World),a.tmps.size=a0.tmps.size→(∀t,t∉Rm ops→slot a t=slot a0 t)→(∀t∈olds i,slot a t=slot a0 t)→Below B w0 w→(∀j∈deps i,At see fact j a w)→wpOp P ops Q i (fun a' w'=>∃v,a'=a.put o.dst v∧At see fact i a' w'∧Below B w w'∧∀j,j≠i→j<ops.size→At see fact j a w→At see fact j a w') a w
theorem Ze(a:Act)(dst:Option Tmp)(v:Value)(t:Tmp)(h:dst≠some t):slot (a.put dst v) t=slot a t:=by cases dst with|none=>rfl|some d=>have hne:d≠t:=fun e=>h (by rw[e]);simp[slot,Act.put,Array.getElem?_setIfInBounds_ne hne]
theorem zS(a:Act)(d:Tmp)(v:Value)(h:d<a.tmps.size):slot (a.put (some d) v) d=v:=by simp[slot,Act.put,h]
theorem UU(a:Act)(dst:Option Tmp)(v:Value):(a.put dst v).tmps.size=a.tmps.size:=by cases dst<;>simp[Act.put]
theorem YN(a:Act)(dst:Option Tmp)(v:Value):(a.put dst v).defers=a.defers:=by cases dst<;>rfl
theorem zev{i:Nat}{a:Act}{w:World}{dst:Option Tmp}{v:Value}(h:∀d,dst=some d→d∉see i)(hf:At see fact i a w):At see fact i (a.put dst v) w:=by unfold At at*;have:(see i).map (slot (a.put dst v))=(see i).map (slot a):=zhk fun t ht=>Ze a dst v t (fun e=>h t e ht);rw[this];exact hf
theorem WV{listed:Array Bool}{j:Nat}(h:listed.getD j true=false):j<listed.size:=by rcases zhl j listed.size with h'|h';·{exact h'};simp[zhm h']at h
theorem QE{listed:Array Bool}{i j:Nat}(h:(listed.setIfInBounds i true).getD j true=true):j=i∨listed.getD j true=true:=by by_cases e:j=i;·{exact .inl e};right;rw[getD_set_ne true (fun e'=>e e'.symm)]at h;exact h
theorem O3{t:Tmp}(h:t∉Rm ops){k:Nat}{o:Oper}(hk:ops[k]?=some o):o.dst≠some t:=fun hd=>h (zhn.2 ⟨o,by have:=zho hk;simpa using this,hd⟩)
theorem Inv.rest{B:Nat}{a0:Act}{w0:World}{listed:Array Bool}{a:Act}{w:World}(h:Inv ops see fact B a0 w0 listed a w)(t:Tmp)(ht:t∉Rm ops):slot a t=slot a0 t:=h.old t fun _ _ hk hd=>absurd hd (O3 ht hk)
theorem WW(hok:ok ops see deps olds=true){listed:Array Bool}(down:∀i o,ops[i]?=some o→listed.getD i true=true→∀j∈yR o,listed.getD j true=true):∀(n i:Nat)(o:Oper),i≤n→ops[i]?=some o→(∀j∈yR o,listed.getD j true=true)→∀j∈deps i,listed.getD j true=true:=by intro n;induction n with|zero=>intro i o hi ho hd j hj;have h:=Yq hok ho;simp only[O2,zhp,zhi,zhq,zhr]at h;obtain⟨k,hk,_⟩:=h.1.2 j hj;have:=h.1.1.2 k hk;omega|succ n ih=>intro i o hi ho hd j hj;have h:=Yq hok ho;simp only[O2,zhp,zhi,zhq,zhr]at h;obtain⟨k,hk,hjk⟩:=h.1.2 j hj;have hki:=h.1.1.2 k hk;rcases zhs _ _▸hjk with e|e;·{have:j=k:=by{simpa using e};subst this;exact hd j hk};have hko:k<ops.size:=by{have:=(zhh.1 ho).1;omega};exact ih k ops[k] (by omega) (zht hko) (down k ops[k] (zht hko) (hd k hk)) j (by simpa using e)
theorem O4(hok:ok ops see deps olds=true){B:Nat}{a0:Act}{w0:World}(hstep:∀i o,ops[i]?=some o→zb0 P ops Q see deps olds fact B a0 w0 i o)(hend:∀a w,a.defers=a0.defers→a.tmps.size=a0.tmps.size→(∀t,t∉Rm ops→slot a t=slot a0 t)→Below B w0 w→(∀i,i<ops.size→At see fact i a w)→Q .normal a w):∀(fuel:Nat)(listed:Array Bool)(a:Act)(w:World),listed.size=ops.size→(listed.toList.countP fun b=>!b)≤fuel→Inv ops see fact B a0 w0 listed a w→wpAny P .any ops Q fuel listed a w:=by have final:∀(listed:Array Bool)(a:Act)(w:World),listed.size=ops.size→Inv ops see fact B a0 w0 listed a w→Region.ready .any ops listed=[]→Q .normal a w:=by{intro listed a w hsz hI hr;have all:∀(n i:Nat),i<n→i<ops.size→listed.getD i true=true:=by{intro n;induction n with|zero=>intro i hi;omega|succ n ih=>intro i hi ho;cases hl:listed.getD i true with|true=>rfl|false=>have hmem:i∈Region.ready .any ops listed:=by{refine mem_ready.2 ⟨hl,ops[i],zht ho,fun e he hb=>?_⟩;have hdir:e.on∈yR ops[i]:=zhu.2 ⟨e,zhv.2 ⟨by simpa using he,hb⟩,rfl⟩;have h:=Yq hok (zht ho);simp only[O2,zhp,zhi,zhr]at h;have hlt:=h.1.1.2 _ hdir;have:=ih e.on (by omega) (by omega);have hs:e.on<listed.size:=by{omega};simp[hs]at this⊢;exact this};rw[hr]at hmem;cases hmem};exact hend a w hI.defers hI.size hI.rest hI.below fun i hi=>hI.facts i hi (all (i+1) i (by omega) hi)};intro fuel;induction fuel with|zero=>intro listed a w hsz hc hI;have hnil:Region.ready .any ops listed=[]:=by{rcases hr:Region.ready .any ops listed with _|⟨x,xs⟩;·{rfl};exfalso;have hx:x∈Region.ready .any ops listed:=by{rw[hr];simp};have h0:=(mem_ready.1 hx).1;have hlt:=WV h0;have:false∈listed.toList:=by{have:listed[x]=false:=by{simpa[hlt]using h0};exact this▸(by{simp}:listed[x]∈listed.toList)};have hp:0<listed.toList.countP fun b=>!b:=List.countP_pos_iff.2 ⟨false,this,rfl⟩;omega};exact⟨hnil,final listed a w hsz hI hnil⟩|succ fuel ih=>intro listed a w hsz hc hI;refine⟨final listed a w hsz hI,fun i hi=>?_⟩;obtain⟨h0,o,ho,hall⟩:=mem_ready.1 hi;have hilt:i<ops.size:=(zhh.1 ho).1;have hdir:∀j∈yR o,listed.getD j true=true:=by{intro j hj;obtain⟨e,he,rfl⟩:=zhu.1 hj;obtain⟨he1,he2⟩:=zhv.1 he;have:=hall e (by simpa using he1) he2;rcases zhl e.on listed.size with h'|h';·{simp[h']at this⊢;exact this};simp[zhm h']at this};have hdeps:=WW hok hI.down i i o (zhw _) ho hdir;have hdepslt:∀j∈deps i,j<ops.size:=by{intro j hj;have key:∀(n i:Nat)(o:Oper),i≤n→ops[i]?=some o→∀j∈deps i,j<i:=by{intro n;induction n with|zero=>intro i o hi ho j hj;have h:=Yq hok ho;simp only[O2,zhp,zhi,zhq,zhr]at h;obtain⟨k,hk,_⟩:=h.1.2 j hj;have:=h.1.1.2 k hk;omega|succ n ihn=>intro i o hi ho j hj;have h:=Yq hok ho;simp only[O2,zhp,zhi,zhq,zhr]at h;obtain⟨k,hk,hjk⟩:=h.1.2 j hj;have hki:=h.1.1.2 k hk;rcases zhs _ _▸hjk with e|e;·{have:j=k:=by{simpa using e};omega};have hko:k<ops.size:=by{have:=(zhh.1 ho).1;omega};have:=ihn k ops[k] (by omega) (zht hko) j (by simpa using e);omega};have:=key i i o (zhw _) ho j hj;omega};have hOld:∀t∈olds i,slot a t=slot a0 t:=by{intro t ht;refine hI.old t fun k ok hk hd=>?_;have h:=Yq hok ho;simp only[O2,zhp,zhi]at h;have hkk:=h.1.1.1 t ht k (zhj.2 (zhh.1 hk).1);simp only[hk,hd,bne_self_eq_false,Bool.false_or,zhx]at hkk;cases hl:listed.getD k true with|false=>rfl|true=>have:=hI.down k ok hk hl i hkk;rw[this]at h0;cases h0};refine wpOp_mono ?_ (hstep i o ho a w hI.size hI.rest hOld hI.below fun j hj=>hI.facts j (hdepslt j hj) (hdeps j hj));rintro a' w'⟨v,rfl,hfi,hbw,hkeep⟩;have hnl:∀j,j<ops.size→listed.getD j true=true→i∉deps j:=by{intro j hj hlj hmem;have:=WW hok hI.down j j ops[j] (zhw _) (zht hj) (hI.down j ops[j] (zht hj) hlj) i hmem;rw[this]at h0;cases h0};refine ih _ _ _ (by simpa using hsz) ?_ ⟨?_,?_,?_,?_,?_,?_⟩;·{have hls:i<listed.size:=WV h0;have hv:listed[i]=false:=by{simpa[hls]using h0};have hset:(listed.setIfInBounds i true).toList=listed.toList.set i true:=by{simp};rw[hset,List.countP_set (by simpa using hls)];have h1:listed.toList[i]=false:=by{simpa using hv};simp only[h1,zhy,if_true,zhz,zhA,if_false];omega};·{rw[YN];exact hI.defers};·{rw[UU];exact hI.size};·{intro t ht;have hne:o.dst≠some t:=fun hd=>by{have:=ht i o ho hd;have hls:i<listed.size:=WV h0;simp[hls]at this};rw[Ze _ _ _ _ hne];refine hI.old t fun k ok hk hd=>?_;have:=ht k ok hk hd;by_cases e:i=k;·{subst e;exact h0};rwa[getD_set_ne true e]at this};·{exact hI.below.trans hbw};·{intro j oj hoj hlj k hk;rcases QE hlj with rfl|hl;·{rw[ho]at hoj;cases hoj;have hki:k≠j:=by{have h:=Yq hok ho;simp only[O2,zhp,zhi,zhr]at h;have:=h.1.1.2 k hk;omega};rw[getD_set_ne true (zhB hki)];exact hdir k hk};have:=hI.down j oj hoj hl k hk;by_cases e:i=k;·{subst e;rw[this]at h0;cases h0};rw[getD_set_ne true e];exact this};intro j hj hlj;rcases QE hlj with rfl|hl;·{exact hfi};have hji:j≠i:=by{rintro rfl;rw[hl]at h0;cases h0};have hfj:=hkeep j hji hj (hI.facts j hj hl);refine zev (fun d hd hmem=>?_) hfj;have h:=Yq hok (zht hj);simp only[O2,zhp,zhi]at h;have:=h.2 i (zhj.2 hilt);simp only[ho,zhC,hd]at this;simp only[zhs,zhD,beq_iff_eq,zhx]at this;rcases this with(h1|h1)|h1;·{simp[hmem]at h1};·{exact hji h1.symm};exact hnl j hj hl h1
theorem WX{id:Nat}{a:Act}{w:World}(hm:P.follows .mixedOrders=true)(see deps olds:Nat→List Nat)(fact:Nat→List Value→World→Prop)(hok:ok ops see deps olds=true)(B:Nat)(hstep:∀i o,ops[i]?=some o→zb0 P ops Q see deps olds fact B a w i o)(hend:∀a' w',a'.defers=a.defers→a'.tmps.size=a.tmps.size→(∀t,t∉Rm ops→slot a' t=slot a t)→Below B w w'→(∀i,i<ops.size→At see fact i a' w')→Q .normal a' w'):(Code.region id ops true).wp P Q a w:=by refine wp_region_any hm ?_;refine O4 hok (B:=B) (a0:=a) (w0:=w) hstep hend ops.size _ a _ (by simp) ?_ ⟨rfl,rfl,fun _ _=>rfl,(zhE _ _).drew,?_,?_⟩;·{refine zhF List.countP_le_length ?_;simp};·{intro i o hi hl;have hlt:i<ops.size:=(zhh.1 hi).1;simp[hlt]at hl};intro i hi hl;simp[hi]at hl
end
end Reg
namespace Reg
def putAll(a:Act):List (Tmp×Value)→Act|[]=>a|x::l=>putAll (a.put (some x.1) x.2) l
theorem Y4(l:List (Tmp×Value)):∀a:Act,(putAll a l).tmps.size=a.tmps.size:=by induction l with|nil=>intro a;rfl|cons x l ih=>intro a;rw[putAll,ih,UU]
theorem UV(l:List (Tmp×Value)):∀a:Act,(putAll a l).defers=a.defers:=by induction l with|nil=>intro a;rfl|cons x l ih=>intro a;rw[putAll,ih,YN]
theorem xL(l:List (Tmp×Value))(t:Tmp):∀a:Act,t∉l.map (·.1)→slot (putAll a l) t=slot a t:=by induction l with|nil=>intro a _;rfl|cons x l ih=>intro a h;simp only[zhG,zhH,not_or]at h;rw[putAll,ih _ h.2,Ze];intro e;injection e with e;exact h.1 e.symm
theorem Yr(l:List (Tmp×Value))(t:Tmp)(v:Value):∀a:Act,t<a.tmps.size→(l.map (·.1)).Nodup→(t,v)∈l→slot (putAll a l) t=v:=by induction l with|nil=>intro a _ _ h;(cases h)|cons x l ih=>intro a ht hn h;simp only[zhG,List.nodup_cons]at hn;rw[putAll];rcases zhH.1 h with rfl|h;·{rw[xL _ _ _ hn.1,zS _ _ _ ht]};exact ih _ (by rw[UU];exact ht) hn.2 h
def fin(a:Act)(vals:List (Tmp×Value))(free:List Tmp)(g:Tmp→Value):Act:=putAll a (vals++free.map fun t=>(t,g t))
def fr(a:Act)(vals late:List (Tmp×Value))(free:List Tmp)(early:Nat→Bool)(i:Nat)(g:Tmp→Value):Act:=if early i then fin a vals free g else fin a (vals++late) free g
def Xg(ops:Array Oper)(late:List (Tmp×Value))(early:Nat→Bool)(i:Nat):List Tmp:=match ops[i]? with|some o=>if early i then(o.looksAt ops).filter fun t=>(late.map (·.1)).contains t else[]|none=>[]
def zew(ops:Array Oper)(n:Nat)(vals late:List (Tmp×Value))(free:List Tmp)(sf:Nat→List Tmp)(early:Nat→Bool):Bool:=(((vals++late).map (·.1)++free).all fun t=>decide (t<n)&&(Rm ops).contains t)&&((Rm ops).all fun t=>((vals++late).map (·.1)++free).contains t)&&decide (((vals++late).map (·.1)++free).Nodup)&&decide ((Rm ops).Nodup)&&((List.range ops.size).all fun i=>match ops[i]? with|none=>true|some o=>((yR o).all fun j=>decide (j<i))&&((Xg ops late early i).all fun t=>(List.range ops.size).all fun k=>match ops[k]? with|some ok=>ok.dst !=some t||(yR ok).contains i|none=>true)&&((o.looksAt ops).all fun t=>!(Rm ops).contains t||(Xg ops late early i).contains t||(yR o).any fun j=>((ops[j]?).bind (·.dst))==some t)&&((sf i).all fun t=>free.contains t&&(o.dst==some t||(yR o).any fun j=>((ops[j]?).bind (·.dst))==some t)))
def Xh(ops:Array Oper)(sf:Nat→List Tmp)(i:Nat):List Tmp:=(((ops[i]?).bind (·.dst)).toList)++sf i
def Us(ops:Array Oper)(i:Nat):List Nat:=((ops[i]?).map yR).getD []
def Ys(ops:Array Oper)(vals:List (Tmp×Value))(p:Nat→List Value→World→Prop)(i:Nat)(vs:List Value)(w:World):Prop:=match(ops[i]?).bind (·.dst)with|some d=>(∀v,(d,v)∈vals→vs.head?=some v)∧p i vs.tail w|none=>p i vs w
section
variable {P : Program} {ops : Array Oper} {Q : Exit → Act → World → Prop}
theorem TU(o:Oper)(a a':Act)(hsz:a.tmps.size=a'.tmps.size)(h:∀t∈o.looksAt ops,slot a t=slot a' t):Region.wanted o (yielded ops a.tmps)=Region.wanted o (yielded ops a'.tmps):=by unfold Region.wanted;cases hg:o.guard with|none=>rfl|some gw=>obtain⟨g,want⟩:=gw;have hy:yielded ops a.tmps g=yielded ops a'.tmps g:=by{unfold yielded;cases ht:(ops[g]?).bind (·.dst)with|none=>rfl|some t=>have:=h t (by simp[Oper.looksAt,hg,ht]);have e:a.tmps[t]?=a'.tmps[t]?:=by{rcases zhl t a.tmps.size with hlt|hge;·{have hlt':t<a'.tmps.size:=hsz▸hlt;simp only[slot,Array.getD_eq_getD_getElem?,zht hlt,zht hlt',Option.getD_some]at this;rw[zht hlt,zht hlt',this]};rw[zhm hge,zhm (show a'.tmps.size≤t from hsz▸hge)]};simp only[zhC,e]};simp only[hy]
theorem PO(o:Oper)(hs:∀cs b,o.op≠ .select cs b)(a a':Act)(h:∀t∈o.looksAt ops,slot a t=slot a' t):execOp a.eval o=execOp a'.eval o:=execOp_congr o hs fun x hx=>by cases x with|tmp t=>exact h t (zhI _ (zhn.2 ⟨.tmp t,by simpa using hx,rfl⟩))|_=>rfl
def zf1(P:Program)(ops:Array Oper)(vals:List (Tmp×Value))(sf:Nat→List Tmp)(p:Nat→List Value→World→Prop)(B:Nat)(F:Act)(i:Nat)(o:Oper)(w:World):Prop:=if Region.wanted o (yielded ops F.tmps)=true then Oper.wp P o F w (fun a' w'=>∃v,a'=F.put o.dst v∧(∀d u,o.dst=some d→(d,u)∈vals→v=u)∧p i ((sf i).map (slot a')) w'∧Below B w w'∧∀j,j≠i→j<ops.size→p j ((sf j).map (slot F)) w→p j ((sf j).map (slot F)) w') (fun _ _ _=>False)else(∀d u,o.dst=some d→(d,u)∈vals→undef=u)∧p i ((sf i).map (slot (F.put o.dst undef))) w
theorem Ut{o:Oper}{a F:Act}{K K':Act→World→Prop}{r:Result Next}(h:∀v w,K' (F.put o.dst v) w→K (a.put o.dst v) w)(hnd:∀d w,¬K' (({F with defers:=d::F.defers}:Act).put o.dst undef) w)(hh:o.upon P F K' (fun _ _ _=>False) r):o.upon P a K Q r:=by cases r with|ok n w=>(cases n with|value v=>exact h _ _ hh|skip=>exact h _ _ hh|defer d=>exact absurd hh (hnd d w)|enter f args=>refine Calls.mono hh ?_;intro e w' he;(cases e with|returned v=>exact h _ _ he|panicked c=>exact(he:False).elim|outgrown=>obtain⟨_,_,hf⟩:=he;exact hf.elim)|row row args=>refine Rows.mono hh ?_;intro u w' he;exact h _ _ he|_=>exact(hh:False).elim)|halt x w=>cases x<;>exact(hh:False).elim
theorem UW(a:Act)(vals late:List (Tmp×Value))(free:List Tmp)(early:Nat→Bool)(i:Nat)(g:Tmp→Value):(fr a vals late free early i g).tmps.size=a.tmps.size:=by unfold fr fin;split<;>rw[Y4]
theorem UX{id:Nat}{a:Act}{w:World}(hm:P.follows .mixedOrders=true)(hs:Region.noSelect ops=true)(vals late:List (Tmp×Value))(free:List Tmp)(sf:Nat→List Tmp)(early:Nat→Bool)(p:Nat→List Value→World→Prop)(n:Nat)(hn:a.tmps.size=n)(hok:zew ops n vals late free sf early=true)(B:Nat)(hstep:∀i o,ops[i]?=some o→∀(g:Tmp→Value)(w':World),Below B w w'→(∀j∈yR o,p j ((sf j).map (slot (fr a vals late free early i g))) w')→zf1 P ops (vals++late) sf p B (fr a vals late free early i g) i o w')(hend:∀(g:Tmp→Value)(w':World),Below B w w'→(∀i,i<ops.size→p i ((sf i).map (slot (fin a (vals++late) free g))) w')→Q .normal (fin a (vals++late) free g) w'):(Code.region id ops true).wp P Q a w:=by have hok':=hok;simp only[zew,zhp,zhi,zhr,zhx]at hok;obtain⟨⟨⟨⟨hk1,hk2⟩,hnod⟩,hdn⟩,hop⟩:=hok;have hkeys:∀(l:List (Tmp×Value))(g:Tmp→Value),(l++free.map fun t=>(t,g t)).map (·.1)=l.map (·.1)++free:=fun l g=>by{simp[List.map_map,Function.comp_def]};have hopi:∀i o,ops[i]?=some o→(∀j∈yR o,j<i)∧(∀t∈o.looksAt ops,t∈Rm ops→t∈Xg ops late early i∨∃j∈yR o,(ops[j]?).bind (·.dst)=some t)∧(∀t∈sf i,t∈free∧(o.dst=some t∨∃j∈yR o,(ops[j]?).bind (·.dst)=some t)):=by{intro i o hi;have:=hop i (zhj.2 (zhh.1 hi).1);simp only[hi,zhp,zhi,zhr,zhs,zhD,zhq,beq_iff_eq]at this;refine⟨this.1.1.1,fun t ht hd=>?_,fun t ht=>⟨by simpa using(this.2 t ht).1,(this.2 t ht).2⟩⟩;rcases this.1.2 t ht with(h|h)|h;·{simp[hd]at h};·{exact .inl (by simpa using h)};exact .inr h};have hnod1:(vals.map (·.1)++free).Nodup:=by{have h:=hnod;simp only[zhJ,zhK]at h;have h1:=zhL.1 h;have h2:=zhL.1 h1.2.1;exact zhL.2 ⟨h1.1,h2.2.1,fun x hx y hy=>h1.2.2 x hx y (zhM _ hy)⟩};have hlatefree:∀t,t∈late.map (·.1)→t∉vals.map (·.1)++free:=by{intro t ht hm;have h:=hnod;simp only[zhJ,zhK]at h;have h1:=zhL.1 h;have h2:=zhL.1 h1.2.1;rcases zhN.1 hm with hv|hf;·{exact h1.2.2 t hv t (zhI _ ht) rfl};exact h2.2.2 t ht t hf rfl};have hslot:∀(i:Nat)(a':Act),a'.tmps.size=a.tmps.size→(∀t,t∉Rm ops→slot a' t=slot a t)→∀t,(t∉Rm ops∨t∈free∨(∃v,(t,v)∈vals∧slot a' t=v)∨(early i=false∧∃v,(t,v)∈late∧slot a' t=v)∨(early i=true∧t∈late.map (·.1)∧slot a' t=slot a t))→slot a' t=slot (fr a vals late free early i (slot a')) t:=by{intro i a' hsz hrest t ht;have hfree':t∈free→∀l,(l.map (·.1)++free).Nodup→slot (fin a l free (slot a')) t=slot a' t:=by{intro hf l hl;rw[fin,Yr _ t (slot a' t) a (by rw[hn];exact(hk1 t (zhM _ hf)).1) (by rw[hkeys];exact hl) (zhM _ (zhu.2 ⟨t,hf,rfl⟩))]};have hval':∀v,(t,v)∈vals++late→∀l,(t,v)∈l→(l.map (·.1)++free).Nodup→slot (fin a l free (slot a')) t=v:=by{intro v hv l hl hnn;rw[fin,Yr _ t v a (by rw[hn];exact(hk1 t (zhI _ (zhu.2 ⟨_,hv,rfl⟩))).1) (by rw[hkeys];exact hnn) (zhI _ hl)]};unfold fr;rcases ht with ht|ht|⟨v,hv,hs⟩|⟨he,v,hv,hs⟩|⟨he,ht,hs⟩;·{have no:t∉(vals++late).map (·.1)++free:=fun hm=>ht (hk1 t hm).2;have no1:t∉vals.map (·.1)++free:=fun hm=>no (by simp only[zhJ,zhK];rcases zhN.1 hm with h|h;·{exact zhI _ h};exact zhM _ (zhM _ h));split;·{rw[hrest t ht,fin,xL _ _ _ (by rw[hkeys];exact no1)]};rw[hrest t ht,fin,xL _ _ _ (by rw[hkeys];exact no)]};·{split;·{exact(hfree' ht _ hnod1).symm};exact(hfree' ht _ hnod).symm};·{split;·{rw[hval' v (zhI _ hv) vals hv hnod1,hs]};rw[hval' v (zhI _ hv) _ (zhI _ hv) hnod,hs]};·{rw[if_neg (by rw[he];exact zhO),hval' v (zhM _ hv) _ (zhM _ hv) hnod,hs]};rw[if_pos he,hs,fin,xL _ _ _ (by rw[hkeys];exact hlatefree t ht)]};have hslotE:∀(a':Act),a'.tmps.size=a.tmps.size→(∀t,t∉Rm ops→slot a' t=slot a t)→∀t,(t∉Rm ops∨t∈free∨∃v,(t,v)∈vals++late∧slot a' t=v)→slot a' t=slot (fin a (vals++late) free (slot a')) t:=by{intro a' hsz hrest t ht;rcases ht with ht|ht|⟨v,hv,hs⟩;·{rw[hrest t ht,fin,xL];rw[hkeys];intro hm;exact ht (hk1 t hm).2};·{rw[fin,Yr _ t (slot a' t) a (by rw[hn];exact(hk1 t (zhM _ ht)).1) (by rw[hkeys];exact hnod) (zhM _ (zhu.2 ⟨t,ht,rfl⟩))]};rw[hs,fin,Yr _ t v a (by rw[hn];exact(hk1 t (zhI _ (zhu.2 ⟨_,hv,rfl⟩))).1) (by rw[hkeys];exact hnod) (zhI _ hv)]};have hallOk:ok ops (Xh ops sf) (Us ops) (Xg ops late early)=true:=by{refine zhi.2 fun i hi=>?_;have hlt:=zhj.1 hi;rw[zht hlt];obtain⟨h1,h2,h3⟩:=hopi i ops[i] (zht hlt);simp only[O2,zhp,zhi,zhr,zhq,zhs,beq_iff_eq];have hold:∀t∈Xg ops late early i,∀k∈List.range ops.size,(match ops[k]? with|some ok=>ok.dst !=some t||(yR ok).contains i|none=>true)=true:=by{have:=hop i (zhj.2 hlt);rw[zht hlt]at this;simp only[zhp,zhi]at this;exact this.1.1.2};refine⟨⟨⟨hold,h1⟩,fun j hj=>⟨j,by simpa[Us,hlt]using hj,.inl rfl⟩⟩,fun k hk=>?_⟩;have hklt:=zhj.1 hk;rw[zht hklt];cases hd:ops[k].dst with|none=>simp[hd]|some d=>simp only[zhC,hd,zhs,zhD,beq_iff_eq,zhx];by_cases hm:d∈Xh ops sf i;·{have uniq:∀j,(ops[j]?).bind (·.dst)=some d→j=k:=by{intro j hj;cases hoj:ops[j]? with|none=>rw[hoj]at hj;(cases hj)|some oj=>rw[hoj]at hj;have hjlt:j<ops.size:=(zhh.1 hoj).1;have key:∀(l:List Oper)(x y:Nat)(ox oy:Oper),(l.filterMap (·.dst)).Nodup→l[x]?=some ox→l[y]?=some oy→ox.dst=some d→oy.dst=some d→x=y:=by{intro l;induction l with|nil=>intro x y ox oy _ hx;simp at hx|cons z l ih=>intro x y ox oy hnn hx hy hdx hdy;have hl:(l.filterMap (·.dst)).Nodup:=by{cases hz:z.dst with|none=>simpa[List.filterMap_cons,hz]using hnn|some dz=>rw[List.filterMap_cons_some (h:=hz)]at hnn;exact(List.nodup_cons.1 hnn).2};have hz0:z.dst=some d→d∉l.filterMap (·.dst):=fun hz=>by{rw[List.filterMap_cons_some (h:=hz)]at hnn;exact(List.nodup_cons.1 hnn).1};cases x with|zero=>(cases y with|zero=>rfl|succ y=>simp at hx hy;subst hx;exact absurd (zhn.2 ⟨oy,zhP hy,hdy⟩) (hz0 hdx))|succ x=>cases y with|zero=>simp at hx hy;subst hy;exact absurd (zhn.2 ⟨ox,zhP hx,hdx⟩) (hz0 hdy)|succ y=>simp at hx hy;rw[ih x y ox oy hl hx hy hdx hdy]};exact key ops.toList j k oj ops[k] hdn (by simpa using hoj) (by simp[hklt]) (by simpa using hj) hd};unfold Xh at hm;rw[zht hlt]at hm;rcases zhN.1 hm with hm|hm;·{left;right;have:ops[i].dst=some d:=by{simpa using hm};exact(uniq i (by rw[zht hlt];simpa using this)).symm};rcases(h3 d hm).2 with h|⟨j,hj,hjd⟩;·{left;right;exact(uniq i (by rw[zht hlt];simpa using h)).symm};right;have:=uniq j hjd;subst this;simpa[Us,hlt]using hj};left;left;simpa using hm};have hfree:∀(d:Tmp)(v:Value),(d,v)∈vals++late→d∉free:=by{intro d v hv hf;have:=(zhL.1 hnod).2.2 d (zhu.2 ⟨_,hv,rfl⟩) d hf;exact this rfl};refine WX hm (Xh ops sf) (Us ops) (Xg ops late early) (Ys ops (vals++late) p) hallOk B ?_ ?_;·{intro i o hi a' w' hsz hrest hold hB hdeps;obtain⟨h1,h2,h3⟩:=hopi i o hi;have hilt:i<ops.size:=(zhh.1 hi).1;have hdepsi:Us ops i=yR o:=by{simp[Us,hi]};have toP:∀j,At (Xh ops sf) (Ys ops (vals++late) p) j a' w'→p j ((sf j).map (slot a')) w':=by{intro j hj;unfold At Ys Xh at hj;cases hd:(ops[j]?).bind (·.dst)with|none=>simpa[hd]using hj|some d=>simp only[hd]at hj;simpa using hj.2};have exact_of:∀j∈yR o,∀t v,(ops[j]?).bind (·.dst)=some t→(t,v)∈vals++late→slot a' t=v:=by{intro j hj t v hd hv;have:=hdeps j (by rw[hdepsi];exact hj);unfold At Ys Xh at this;simp only[hd]at this;simpa using this.1 v hv};have agree:∀t∈o.looksAt ops,slot a' t=slot (fr a vals late free early i (slot a')) t:=by{intro t ht;refine hslot i a' hsz hrest t ?_;by_cases hd:t∈Rm ops;·{right;rcases h2 t ht hd with ho|⟨j,hj,hjd⟩;·{right;right;right;have hs:=hold t ho;unfold Xg at ho;rw[hi]at ho;simp only at ho;cases he:early i with|false=>rw[he]at ho;simp at ho|true=>rw[he]at ho;simp only[if_true,zhv,zhx]at ho;exact⟨rfl,ho.2,hs⟩};have hmem:t∈(vals++late).map (·.1)++free:=hk2 t hd;rcases zhN.1 hmem with hv|hf;·{obtain⟨⟨t',v⟩,hv2,rfl⟩:=zhu.1 hv;have hs:=exact_of j hj _ v hjd hv2;rcases zhN.1 hv2 with h|h;·{exact .inr (.inl ⟨v,h,hs⟩)};cases he:early i with|false=>exact .inr (.inr (.inl ⟨rfl,v,h,hs⟩))|true=>exfalso;have hol:t'∈Xg ops late early i:=by{unfold Xg;rw[hi];simp only[he,if_true,zhv,zhx];exact⟨ht,zhu.2 ⟨_,h,rfl⟩⟩};have hjlt:j<ops.size:=by{have:=h1 j hj;omega};have:=hop i (zhj.2 hilt);rw[hi]at this;simp only[zhp,zhi]at this;have hw:=this.1.1.2 t' hol j (zhj.2 hjlt);rw[zht hjlt]at hw hjd;simp only[zhC]at hjd;simp only[hjd,bne_self_eq_false,Bool.false_or,zhx]at hw;have a1:=(hopi j ops[j] (zht hjlt)).1 i hw;have a2:=h1 j hj;omega};exact .inl hf};exact .inl hd};have agreeF:∀j,(sf j).map (slot (fr a vals late free early i (slot a')))=(sf j).map (slot a')∨j≥ops.size:=by{intro j;rcases zhl j ops.size with hj|hj;·{left;refine zhk fun t ht=>?_;obtain⟨_,_,h3⟩:=hopi j ops[j] (zht hj);exact(hslot i a' hsz hrest t (.inr (.inl (h3 t ht).1))).symm};exact .inr hj};have agreeL:∀j,j<ops.size→(sf j).map (slot (fr a vals late free early i (slot a')))=(sf j).map (slot a'):=fun j hj=>(agreeF j).resolve_right (by omega);have hD:=hstep i o hi (slot a') w' hB (fun j hj=>by have hjlt:j<ops.size:=by{have:=h1 j hj;omega};rw[agreeL j hjlt];exact toP j (hdeps j (by rw[hdepsi];exact hj)));have finish:∀(v:Value)(w'':World),(∀d u,o.dst=some d→(d,u)∈vals++late→v=u)→p i ((sf i).map (slot ((fr a vals late free early i (slot a')).put o.dst v))) w''→Below B w' w''→(∀j,j≠i→j<ops.size→p j ((sf j).map (slot (fr a vals late free early i (slot a')))) w'→p j ((sf j).map (slot (fr a vals late free early i (slot a')))) w'')→∃v',a'.put o.dst v=a'.put o.dst v'∧At (Xh ops sf) (Ys ops (vals++late) p) i (a'.put o.dst v) w''∧Below B w' w''∧∀j,j≠i→j<ops.size→At (Xh ops sf) (Ys ops (vals++late) p) j a' w'→At (Xh ops sf) (Ys ops (vals++late) p) j a' w'':=by{intro v w'' hex hp hb hkeep;have hput:(sf i).map (slot (a'.put o.dst v))=(sf i).map (slot ((fr a vals late free early i (slot a')).put o.dst v)):=by{refine zhk fun t ht=>?_;by_cases hd:o.dst=some t;·{have htlt:t<n:=(hk1 t (zhM _ (h3 t ht).1)).1;rw[hd,zS _ _ _ (by rw[hsz,hn];exact htlt),zS _ _ _ (by rw[UW,hn];exact htlt)]};rw[Ze _ _ _ _ hd,Ze _ _ _ _ hd];exact hslot i a' hsz hrest t (.inr (.inl (h3 t ht).1))};refine⟨v,rfl,?_,hb,fun j hji hj hat=>?_⟩;·{unfold At Ys Xh;simp only[hi,zhC];cases hd:o.dst with|none=>rw[hd]at hp hput;simp only[Option.toList_none,zhQ];rw[hput];exact hp|some d=>rw[hd]at hp hput;simp only[Option.toList_some,zhR,zhQ,zhG,List.head?_cons,List.tail_cons];refine⟨fun u hu=>?_,by rw[hput];exact hp⟩;have hdlt:d<n:=(hk1 d (zhI _ (zhu.2 ⟨_,hu,rfl⟩))).1;rw[zS _ _ _ (by rw[hsz,hn];exact hdlt),hex d u hd hu]};have hpj:=toP j hat;have hnew:=hkeep j hji hj (by rw[agreeL j hj];exact hpj);rw[agreeL j hj]at hnew;unfold At Ys Xh at hat⊢;cases hd:(ops[j]?).bind (·.dst)with|none=>simp only[hd,Option.toList_none,zhQ]at hat⊢;exact hnew|some d=>simp only[hd]at hat⊢;exact⟨hat.1,by simpa using hnew⟩};have hsel:∀cs b,o.op≠ .select cs b:=fun cs b=>Region.noSelect_spec hs i o cs b hi;unfold wpOp;simp only[hi];unfold zf1 at hD;rw[←TU o a' (fr a vals late free early i (slot a')) (by rw[UW,hsz]) agree]at hD;split;·{rename_i hw;rw[if_pos hw]at hD;left;unfold Oper.wp at hD⊢;rw[←PO o hsel a' _ agree]at hD;refine Ut (F:=fr a vals late free early i (slot a')) ?_ ?_ hD;·{rintro v w''⟨v',he,hex,hp,hb,hkeep⟩;cases hd:o.dst with|none=>rw[hd]at he hp hex;have:=finish v w'' (by rw[hd];exact fun d u h=>by cases h) (by rw[hd];exact hp) hb hkeep;rw[hd]at this;exact this|some d=>rw[hd]at he hp;have hdlt:d<n:=(hk1 d (hk2 d (zhn.2 ⟨o,by have:=zho hi;simpa using this,hd⟩))).1;have hvv:v=v':=by{have h1:slot ((fr a vals late free early i (slot a')).put (some d) v) d=slot ((fr a vals late free early i (slot a')).put (some d) v') d:=congrArg (fun x=>slot x d) he;rwa[zS _ _ _ (by rw[UW,hn];exact hdlt),zS _ _ _ (by rw[UW,hn];exact hdlt)]at h1};subst hvv;have:=finish v w'' hex (by rw[hd];exact hp) hb hkeep;rw[hd]at this;exact this};rintro d w''⟨v,he,_⟩;have h1:=congrArg (fun x=>x.defers.length) he;simp only[YN,zhS]at h1;omega};rename_i hw;rw[if_neg (by simpa using hw)]at hD;exact finish undef w' hD.1 hD.2 (zhE _ _) (fun _ _ _ h=>h)};intro a' w' hdf hsz hrest hB hall;have hfin:a'=fin a (vals++late) free (slot a'):=by{have ht:a'.tmps=(fin a (vals++late) free (slot a')).tmps:=by{refine Array.ext (by rw[fin,Y4,hsz]) fun t h1 h2=>?_;have hs:=hslotE a' hsz hrest t (by by_cases hd:t∈Rm ops;·{right;have hmem:t∈(vals++late).map (·.1)++free:=hk2 t hd;rcases zhN.1 hmem with hv|hf;·{right;obtain⟨⟨t',v⟩,hv2,rfl⟩:=zhu.1 hv;obtain⟨o,ho,hod⟩:=zhn.1 hd;obtain⟨i,hi,hoi⟩:=List.mem_iff_getElem.1 ho;have hi':i<ops.size:=by{simpa using hi};have:=hall i hi';unfold At Ys Xh at this;have hio:ops[i]?=some o:=by{rw[zht hi'];simpa using hoi};simp only[hio,zhC,hod]at this;exact⟨v,hv2,by simpa using this.1 v hv2⟩};exact .inl hf};exact .inl hd);simpa[slot,h1,h2]using hs};have hd:a'.defers=(fin a (vals++late) free (slot a')).defers:=by{rw[hdf,fin,UV]};obtain⟨x,y⟩:=a';simp only at ht hd;cases hF:fin a (vals++late) free (slot ⟨x,y⟩)with|mk x' y'=>rw[hF]at ht hd;simp only at ht hd;rw[ht,hd]};have hq:=hend (slot a') w' hB (fun i hi=>by have:=hall i hi;rw[←hfin];unfold At Ys Xh at this;cases hd:(ops[i]?).bind (·.dst)with|none=>simpa[hd]using this|some d=>simp only[hd]at this;simpa using this.2);rw[←hfin]at hq;exact hq
def zfR(f:Nat→Oper→Prop):Nat→List Oper→Prop|_,[]=>True|i,o::l=>f i o∧zfR f (i+1) l
theorem O5{f:Nat→Oper→Prop}:∀(l:List Oper)(k i:Nat)(o:Oper),zfR f k l→l[i]?=some o→f (k+i) o|[],_,_,_,_,h=>by simp at h|x::l,k,0,o,h,he=>by simp at he;subst he;exact h.1|x::l,k,i+1,o,h,he=>by have:=O5 l (k+1) i o h.2 (by simpa using he);rwa[zhT,Nat.add_comm 1 i]at this
theorem zaa(F:Act)(d:Tmp)(v:Value)(h:d<F.tmps.size)(e:F.put (some d) v=F):slot F d=v:=by rw[←e,zS _ _ _ h]
def UY(P:Program)(ops:Array Oper)(E F:Act)(o:Oper)(w:World):Prop:=if Region.wanted o (yielded ops E.tmps)=true then Oper.wp P o E w (fun a' w'=>∃v,a'=E.put o.dst v∧F.put o.dst v=F∧Below w.heap.size w w') (fun _ _ _=>False)else F.put o.dst undef=F
theorem Ug{id:Nat}{a:Act}{w:World}(hm:P.follows .mixedOrders=true)(hs:Region.noSelect ops=true)(vals late:List (Tmp×Value))(early:Nat→Bool)(n:Nat)(hn:a.tmps.size=n)(hok:zew ops n vals late [] (fun _=>[]) early=true)(hstep:∀E F:Act,E=putAll a vals→F=putAll a (vals++late)→∀w',Below w.heap.size w w'→zfR (fun i o=>UY P ops (if early i then E else F) F o w') 0 ops.toList)(hend:∀w',Below w.heap.size w w'→Q .normal (putAll a (vals++late)) w'):(Code.region id ops true).wp P Q a w:=by have hfin:∀g l,fin a l [] g=putAll a l:=fun g l=>by{simp[fin]};have hok':=hok;simp only[zew,zhp,zhi,zhr,zhx,zhU]at hok;obtain⟨⟨⟨⟨hk1,hk2⟩,hnod⟩,hdn⟩,hop⟩:=hok;refine UX hm hs vals late [] (fun _=>[]) early (fun _ _ _=>True) n hn hok' w.heap.size ?_ ?_;·{intro i o hi g w' hB _;have hD:=O5 ops.toList 0 i o (hstep _ _ rfl rfl w' hB) (by simpa using hi);have hfr:fr a vals late [] early i g=if early i then putAll a vals else putAll a (vals++late):=by{unfold fr;rw[hfin,hfin]};rw[hfr];rw[zhV]at hD;have hex:∀(v:Value),(putAll a (vals++late)).put o.dst v=putAll a (vals++late)→∀d u,o.dst=some d→(d,u)∈vals++late→v=u:=by{intro v hv d u hd hu;have hdlt:d<n:=(hk1 d (zhu.2 ⟨_,hu,rfl⟩)).1;rw[hd]at hv;have h1:=zaa _ d v (by rw[Y4,hn];exact hdlt) hv;rw[←h1,Yr (vals++late) d u a (by rw[hn];exact hdlt) hnod hu]};generalize(if early i=true then putAll a vals else putAll a (vals++late))=E at hD⊢;unfold UY at hD;unfold zf1;split;·{rename_i hw;rw[if_pos hw]at hD;unfold Oper.wp at hD⊢;refine Ut (F:=E) ?_ ?_ hD;·{rintro v w''⟨v',he,hF,hb⟩;refine⟨v',he,hex v' hF,trivial,hb.mono (by have:=hB.size;omega),fun _ _ _ h=>h⟩};rintro d w''⟨v,he,_⟩;have h1:=congrArg (fun x=>x.defers.length) he;simp only[YN,zhS]at h1;omega};rename_i hw;rw[if_neg hw]at hD;exact⟨hex undef hD,trivial⟩};intro g w' hB _;rw[hfin];exact hend w' hB
theorem wp_region_vals{id:Nat}{a:Act}{w:World}(hm:P.follows .mixedOrders=true)(hs:Region.noSelect ops=true)(vals:List (Tmp×Value))(n:Nat)(hn:a.tmps.size=n)(hok:zew ops n vals [] [] (fun _=>[]) (fun _=>false)=true)(hstep:∀F:Act,F=putAll a vals→∀w',Below w.heap.size w w'→zfR (fun _ o=>UY P ops F F o w') 0 ops.toList)(hend:∀w',Below w.heap.size w w'→Q .normal (putAll a vals) w'):(Code.region id ops true).wp P Q a w:=by refine Ug hm hs vals [] (fun _=>false) n hn hok ?_ ?_;·{intro E F _ hF w' hB;rw[zhU]at hF;exact hstep F hF w' hB};intro w' hB;rw[zhU];exact hend w' hB
theorem doesV_val{E F:Act}{o:Oper}{w:World}{v:Value}(hr:(execOp E.eval o).run P w= .ok (.value v) w)(hw:Region.wanted o (yielded ops E.tmps)=true)(hF:F.put o.dst v=F):UY P ops E F o w:=by unfold UY;rw[if_pos hw];unfold Oper.wp;rw[hr];exact⟨v,rfl,hF,zhE _ _⟩
theorem doesV_skip{E F:Act}{o:Oper}{w:World}(hw:Region.wanted o (yielded ops E.tmps)=false)(hF:F.put o.dst undef=F):UY P ops E F o w:=by unfold UY;rw[if_neg (by rw[hw];exact zhO)];exact hF
theorem doesV_call{E F:Act}{o:Oper}{w:World}{v:Value}{f:FuncId}{args:Array Value}(hc:Calls P f args w fun e w'=>e= .returned v∧Below w.heap.size w w')(hr:(execOp E.eval o).run P w= .ok (.enter f args) w)(hw:Region.wanted o (yielded ops E.tmps)=true)(hF:F.put o.dst v=F):UY P ops E F o w:=by unfold UY;rw[if_pos hw];unfold Oper.wp;rw[hr];refine Calls.mono hc ?_;rintro e w'⟨rfl,hb⟩;exact⟨v,rfl,hF,hb⟩
end
end Reg
structure Val where
 k : Int
 n : Int
 s : ByteArray
abbrev emp:ByteArray:=⟨#[]⟩
abbrev Val.v(a:Val):Value:= .agg #[.int .i64 a.k,.int .i64 a.n,.string a.s]
def Val.eq(a b:Val):Bool:=decide (a.k=b.k)&&(decide (a.n=b.n)&&decide (a.s.toList=b.s.toList))
theorem zL{a b:ByteArray}(h:a.toList=b.toList):a=b:=by rw[zhW,zhW]at h;obtain⟨⟨x⟩⟩:=a;obtain⟨⟨y⟩⟩:=b;simp at h;rw[h]
theorem Val.eq_iff{a b:Val}:a.eq b=true↔a=b:=by obtain⟨k,n,s⟩:=a;obtain⟨k',n',s'⟩:=b;simp only[Val.eq,zhp,zhr,Val.mk.injEq];constructor;·{rintro⟨h1,h2,h3⟩;exact⟨h1,h2,zL h3⟩};rintro⟨h1,h2,h3⟩;exact⟨h1,h2,by rw[h3]⟩
theorem Val.eq_self(a:Val):a.eq a=true:=Val.eq_iff.2 rfl
theorem Val.eq_false{a b:Val}(h:a≠b):a.eq b=false:=by cases e:a.eq b;·{rfl};exact absurd (Val.eq_iff.1 e) h
def tt:Val:=⟨1,1,emp⟩
def ff:Val:=⟨1,0,emp⟩
def nl:Val:=⟨0,0,emp⟩
def tv(b:Bool):Val:=if b then tt else ff
def iv(n:Int):Val:=⟨2,n,emp⟩
theorem UZ(w:World)(k n k' n':Int)(s s':ByteArray):(Op.equalIn 10000 66 (.agg #[.int .i64 k,.int .i64 n,.string s]) (.agg #[.int .i64 k',.int .i64 n',.string s'])).run Tryz.prog w= .ok (Val.eq ⟨k,n,s⟩ ⟨k',n',s'⟩) w:=by simp[go_sem,Tryz.underlying66,Tryz.underlying3,Tryz.underlying9];by_cases h1:k=k'<;>by_cases h2:n=n'<;>by_cases h3:s.toList=s'.toList<;>simp[Val.eq,h1,h2,h3]
theorem O6(w:World)(k n k' n':Int)(s s':ByteArray):(binOp .eql 66 (.agg #[.int .i64 k,.int .i64 n,.string s]) (.agg #[.int .i64 k',.int .i64 n',.string s'])).run Tryz.prog w= .ok (.bool (Val.eq ⟨k,n,s⟩ ⟨k',n',s'⟩)) w:=by rw[run_eql_struct,UZ];rfl
theorem O7(w:World)(k n k' n':Int)(s s':ByteArray):(binOp .neq 66 (.agg #[.int .i64 k,.int .i64 n,.string s]) (.agg #[.int .i64 k',.int .i64 n',.string s'])).run Tryz.prog w= .ok (.bool !(Val.eq ⟨k,n,s⟩ ⟨k',n',s'⟩)) w:=by rw[run_neq_struct,UZ];rfl
theorem mixed:Tryz.prog.follows .mixedOrders=true:=by kernel_rfl
def Bx(w:World)(b:Nat)(a:Val):Prop:=w.heap[b]?=some (.cells #[.int .i64 a.k,.int .i64 a.n,.string a.s] 66 (0,0))
theorem Bx.cell0{w:World}{b:Nat}{a:Val}(h:Bx w b a):w.cell? ⟨b,0,none⟩=some (.int .i64 a.k):=by unfold Bx at h;simp[World.cell?,h]
theorem Bx.cell1{w:World}{b:Nat}{a:Val}(h:Bx w b a):w.cell? ⟨b,1,none⟩=some (.int .i64 a.n):=by unfold Bx at h;simp[World.cell?,h]
theorem Bx.cell2{w:World}{b:Nat}{a:Val}(h:Bx w b a):w.cell? ⟨b,2,none⟩=some (.string a.s):=by unfold Bx at h;simp[World.cell?,h]
theorem Bx.lt{w:World}{b:Nat}{a:Val}(h:Bx w b a):b<w.heap.size:=by rcases zhl b w.heap.size with hlt|hge;·{exact hlt};unfold Bx at h;rw[zhm hge]at h;cases h
theorem Bx.below{w w':World}{b B:Nat}{a:Val}(h:Bx w b a)(hb:Below B w w')(hlt:b<B):Bx w' b a:=(hb.block b hlt).trans h
theorem Bx.after{w w':World}{b:Nat}{a:Val}(h:Bx w b a)(hb:Below w.heap.size w w'):Bx w' b a:=h.below hb h.lt
theorem Bx.new(w:World)(a:Val):Bx (w.alloc (.cells #[.int .i64 a.k,.int .i64 a.n,.string a.s] 66)) w.heap.size a:=by show(w.heap.push _)[w.heap.size]?=_;simp
theorem Bx.alloc{w:World}{b:Nat}{a:Val}(h:Bx w b a)(o:Obj):Bx (w.alloc o) b a:=(zhX w o b h.lt).trans h
theorem Bx.load{w:World}{b:Nat}{a:Val}(h:Bx w b a):(Instr.loadAt 66 (.pointer (some ⟨b,0,none⟩))).run Tryz.prog w= .ok a.v w:=by have h0:=h.cell0;have h1:=h.cell1;have h2:=h.cell2;go_simp
theorem zd{P:Program}{F:Act}{w:World}{x:Operand}{o:Oper}(ho:o.op= .move x):(execOp F.eval o).run P w= .ok (.value (F.eval x)) w:=by simp[execOp,ho]
theorem O8{P:Program}{F:Act}{w:World}{x:Operand}{o:Oper}(ho:o.op= .assign x):(execOp F.eval o).run P w= .ok (.value (F.eval x)) w:=by simp[execOp,ho]
theorem zz{P:Program}{F:Act}{w:World}{t:Tmp}{x y:Operand}{o:Oper}(b:Bool)(ho:o.op= .pick (.tmp t) x y)(ht:Reg.slot F t= .bool b):(execOp F.eval o).run P w= .ok (.value (if b then F.eval x else F.eval y)) w:=by have e:F.eval (.tmp t)= .bool b:=ht;simp only[execOp,ho,e];cases b<;>simp[asBool]
theorem zZ{F:Act}{w:World}{f:FuncId}{args:Array Operand}{ats:Array TypeId}{vs:Array Value}{o:Oper}(hE:∀args w,(callFunc f args).run Tryz.prog w= .ok (.enter f args) w)(ho:o.op= .call {callee:= .value (.func f),args:=args,argTypes:=ats})(hv:args.map F.eval=vs):(execOp F.eval o).run Tryz.prog w= .ok (.enter f vs) w:=by have h:=hE (args.map F.eval) w;subst hv;simp[execOp,ho,resolve,go_sem,h]
theorem Bx.frozen{w:World}{b:Nat}{a:Val}(h:Bx w b a)(i:Nat):w.frozen? ⟨b,i,none⟩=false:=by unfold Bx at h;simp[World.frozen?,h]
theorem Bx.new1(w:World)(a:Val)(o:Obj):Bx ((w.alloc o).alloc (.cells #[.int .i64 a.k,.int .i64 a.n,.string a.s] 66)) (w.heap.size+1) a:=by have:=Bx.new (w.alloc o) a;simpa using this
def zgK(w:World)(b:Nat)(a:Val):World:=((w.setCell ⟨b,0,none⟩ (.int .i64 a.k)).setCell ⟨b,1,none⟩ (.int .i64 a.n)).setCell ⟨b,2,none⟩ (.string a.s)
theorem Bx.put{w:World}{b:Nat}{x:Val}(h:Bx w b x)(a:Val):Bx (zgK w b a) b a:=by unfold Bx at h;simp[Bx,zgK,World.setCell,zhY,h]
theorem Y5{fn:Func}{R:Ending→World→Prop}{F:Act}{w:World}{t:Tmp}{b:Nat}{a:Val}(hres:fn.results=#[.cell t 66])(ht:Reg.slot F t= .pointer (some ⟨b,0,none⟩))(hb:Bx w b a)(hd:F.defers=[])(hR:R (.returned a.v) w):bodyPost Tryz.prog fn R .ret F w:=by have h0:=hb.cell0;have h1:=hb.cell1;have h2:=hb.cell2;refine bodyPost_ret (v:=a.v) ?_ hd hR;have ht':F.tmps[t]?.getD undef= .pointer (some ⟨b,0,none⟩):=by{simpa[Reg.slot]using ht};simp[results,hres,ht',go_sem,h0,h1,h2]
theorem zb(w:World)(o:Obj):Below w.heap.size w (w.alloc o):=(zhE _ _).alloc (zhw _) _
theorem zk(w:World)(o o':Obj):Below w.heap.size w ((w.alloc o).alloc o'):=(zb _ _).alloc (by simp) _
def Sl(w:World)(A:Option Addr)(vs:List Val):Prop:=vs=[]∨∃b off,A=some ⟨b,off,none⟩∧b<w.heap.size∧∀i(a:Val),vs[i]?=some a→w.cell? ⟨b,off+i*3,none⟩=some (.int .i64 a.k)∧w.cell? ⟨b,off+i*3+1,none⟩=some (.int .i64 a.n)∧w.cell? ⟨b,off+i*3+2,none⟩=some (.string a.s)
theorem Sl.after{w w':World}{A:Option Addr}{vs:List Val}(h:Sl w A vs)(hb:Below w.heap.size w w'):Sl w' A vs:=by rcases h with h|⟨b,off,hA,hlt,h⟩;·{exact .inl h};refine .inr ⟨b,off,hA,zhZ hlt hb.size,fun i a ha=>?_⟩;obtain⟨h0,h1,h2⟩:=h i a ha;exact⟨(hb.cell hlt).trans h0,(hb.cell hlt).trans h1,(hb.cell hlt).trans h2⟩
theorem Xi{P:Program}{F:Act}{w:World}{t:Tmp}{ty:TypeId}{o:Oper}(b:Bool)(ho:o.op= .unOp .not ty (.tmp t))(ht:Reg.slot F t= .bool b):(execOp F.eval o).run P w= .ok (.value (.bool !b)) w:=by have e1:F.eval (.tmp t)= .bool b:=ht;simp[execOp,ho,e1,Op.unary]
def XM(x:Val):Bool:=if x.k==0 then x.n==0&&x.s.toList.isEmpty else if x.k==1 then(x.n==0||x.n==1)&&x.s.toList.isEmpty else if x.k==2 then x.s.toList.isEmpty else if x.k==3 then x.n==0&&decide (x.s.size≤1000)else false
def Zf(x:Val):Prop:=(x.k=0∧x.n=0∧x.s=emp)∨(x.k=1∧(x.n=0∨x.n=1)∧x.s=emp)∨(x.k=2∧x.s=emp)∨(x.k=3∧x.n=0∧x.s.size≤1000)
def rmB(x:Val):Bool:=if x.k==0||x.k==1 then x.s.toList.isEmpty&&decide (0≤x.n)&&decide (x.n≤x.k)else if x.k==2 then x.s.toList.isEmpty else x.k==3&&x.n==0&&decide (x.s.size≤1000)
theorem WY{s:ByteArray}(h:s.toList.isEmpty=true):s=emp:=by rw[zhW]at h;obtain⟨⟨l⟩⟩:=s;simp at h;rw[h]
theorem zab(x:Val)(h:rmB x=true):Zf x:=by unfold rmB at h;unfold Zf;by_cases h01:x.k=0∨x.k=1;·{have e:(x.k==0||x.k==1)=true:=by{simpa using h01};rw[e]at h;simp only[if_true,zhp,zhr]at h;have hs:=WY h.1.1;rcases h01 with hk|hk;·{exact .inl ⟨hk,by omega,hs⟩};exact .inr (.inl ⟨hk,by omega,hs⟩)};have e:(x.k==0||x.k==1)=false:=by{simpa using h01};rw[e]at h;simp only[zhA,if_false]at h;by_cases h2:x.k=2;·{have e2:(x.k==2)=true:=by{simpa using h2};rw[e2]at h;exact .inr (.inr (.inl ⟨h2,WY h⟩))};have e2:(x.k==2)=false:=by{simpa using h2};rw[e2]at h;simp only[zhA,if_false,zhp,beq_iff_eq,zhr]at h;exact .inr (.inr (.inr ⟨h.1.1,h.1.2,h.2⟩))
theorem Rx(x:Val)(h:Zf x):rmB x=true:=by rcases h with⟨hk,hn,hs⟩|⟨hk,hn,hs⟩|⟨hk,hs⟩|⟨hk,hn,hs⟩;·{simp[rmB,hk,hn,hs]};·{rcases hn with hn|hn<;>simp[rmB,hk,hn,hs]};·{simp[rmB,hk,hs]};simp[rmB,hk,hn,hs]
theorem zex(x:Val):rmB x=true↔Zf x:=⟨zab x,Rx x⟩
theorem TV(x:Val)(h:Zf x):XM x=true:=by rcases h with⟨hk,hn,hs⟩|⟨hk,hn,hs⟩|⟨hk,hs⟩|⟨hk,hn,hs⟩;·{simp[XM,hk,hn,hs]};·{rcases hn with hn|hn<;>simp[XM,hk,hn,hs]};·{simp[XM,hk,hs]};simp[XM,hk,hn,hs]
theorem yS(x:Val)(h:XM x=true):Zf x:=by unfold XM at h;by_cases h0:x.k=0;·{simp only[h0,beq_self_eq_true,if_true,zhp,beq_iff_eq]at h;exact .inl ⟨h0,h.1,WY h.2⟩};by_cases h1:x.k=1;·{simp[h1]at h;exact .inr (.inl ⟨h1,h.1,WY (by simpa using h.2)⟩)};by_cases h2:x.k=2;·{simp[h2]at h;exact .inr (.inr (.inl ⟨h2,WY (by simpa using h)⟩))};by_cases h3:x.k=3;·{simp[h3]at h;exact .inr (.inr (.inr ⟨h3,h⟩))};simp[h0,h1,h2,h3]at h
theorem O9(x:Val):XM x=true↔Zf x:=⟨yS x,TV x⟩
theorem zey(x:Val):XM x=rmB x:=by rw[zh0,O9,zex]
theorem zac(x:Val)(w:World)(h:(x.k==0)=true):Calls Tryz.prog 86 #[x.v] w fun e w'=>e= .returned (.bool (x.n==0&&x.s.toList.isEmpty))∧Below w.heap.size w w':=by cases hn:x.n==0;all_goals go_enter Tryz.func86,Tryz.ntmps86;go_wp2;go_ret;exact⟨rfl,zb _ _⟩
theorem zad(x:Val)(w:World)(h0:(x.k==0)=false)(h:(x.k==1)=true):Calls Tryz.prog 86 #[x.v] w fun e w'=>e= .returned (.bool ((x.n==0||x.n==1)&&x.s.toList.isEmpty))∧Below w.heap.size w w':=by cases hn:x.n==0;·{cases hn1:x.n==1;all_goals go_enter Tryz.func86,Tryz.ntmps86;go_wp2;go_ret;exact⟨rfl,zb _ _⟩};go_enter Tryz.func86,Tryz.ntmps86;go_wp2;go_ret;exact⟨rfl,zb _ _⟩
theorem zcF(x:Val)(w:World)(h0:(x.k==0)=false)(h1:(x.k==1)=false)(h:(x.k==2)=true):Calls Tryz.prog 86 #[x.v] w fun e w'=>e= .returned (.bool x.s.toList.isEmpty)∧Below w.heap.size w w':=by go_enter Tryz.func86,Tryz.ntmps86;go_wp2;go_ret;exact⟨rfl,zb _ _⟩
theorem zae(x:Val)(w:World)(h0:(x.k==0)=false)(h1:(x.k==1)=false)(h2:(x.k==2)=false)(h:(x.k==3)=true)(hs:x.s.size≤maxLen):Calls Tryz.prog 86 #[x.v] w fun e w'=>e= .returned (.bool (x.n==0&&decide (x.s.size≤1000)))∧Below w.heap.size w w':=by unfold maxLen at hs;cases hn:x.n==0;·{go_enter Tryz.func86,Tryz.ntmps86;go_wp2;go_ret;exact⟨rfl,zb _ _⟩};by_cases hz:x.s.size≤1000;·{have hz':decide (x.s.size≤1000)=true:=zh1 hz;have hz2:decide ((x.s.size:Int)≤1000)=true:=zh1 (by omega);go_enter Tryz.func86,Tryz.ntmps86;go_wp2;go_ret;exact⟨by rw[hz'];rfl,zb _ _⟩};have hz':decide (x.s.size≤1000)=false:=zh2 hz;have hz2:decide ((x.s.size:Int)≤1000)=false:=zh2 (by omega);go_enter Tryz.func86,Tryz.ntmps86;go_wp2;go_ret;exact⟨by rw[hz'];rfl,zb _ _⟩
theorem Na(x:Val)(w:World)(h0:(x.k==0)=false)(h1:(x.k==1)=false)(h2:(x.k==2)=false)(h3:(x.k==3)=false):Calls Tryz.prog 86 #[x.v] w fun e w'=>e= .returned (.bool false)∧Below w.heap.size w w':=by go_enter Tryz.func86,Tryz.ntmps86;go_wp2;go_ret;exact⟨rfl,zb _ _⟩
theorem zcG(x:Val)(w:World)(hs:x.s.size≤maxLen):Calls Tryz.prog 86 #[x.v] w fun e w'=>e= .returned (.bool (XM x))∧Below w.heap.size w w':=by unfold XM;cases h0:x.k==0;·{cases h1:x.k==1;·{cases h2:x.k==2;·{cases h3:x.k==3;·{exact Na x w h0 h1 h2 h3};exact zae x w h0 h1 h2 h3 hs};exact zcF x w h0 h1 h2};exact zad x w h0 h1};exact zac x w h0
theorem QF(x:Val)(w:World)(h:(x.k==0)=true∨((x.k==0)=false∧(x.k==1)=true)):Calls Tryz.prog 116 #[x.v] w fun e w'=>e= .returned (.bool (x.s.toList.isEmpty&&decide (0≤x.n)&&decide (x.n≤x.k)))∧Below w.heap.size w w':=by rcases h with h|⟨h0,h⟩;all_goals cases hs:x.s.toList.isEmpty;·{go_enter Tryz.func116,Tryz.ntmps116;go_wp2;go_ret;exact⟨rfl,zb _ _⟩};cases hn:decide (0≤x.n);·{go_enter Tryz.func116,Tryz.ntmps116;go_wp2;go_ret;exact⟨rfl,zb _ _⟩};go_enter Tryz.func116,Tryz.ntmps116;go_wp2;go_ret;exact⟨rfl,zb _ _⟩
theorem zaf(x:Val)(w:World)(h0:(x.k==0)=false)(h1:(x.k==1)=false)(h:(x.k==2)=true):Calls Tryz.prog 116 #[x.v] w fun e w'=>e= .returned (.bool x.s.toList.isEmpty)∧Below w.heap.size w w':=by go_enter Tryz.func116,Tryz.ntmps116;go_wp2;go_ret;exact⟨rfl,zb _ _⟩
theorem Nb(x:Val)(w:World)(h0:(x.k==0)=false)(h1:(x.k==1)=false)(h2:(x.k==2)=false)(hs:x.s.size≤maxLen):Calls Tryz.prog 116 #[x.v] w fun e w'=>e= .returned (.bool (x.k==3&&x.n==0&&decide (x.s.size≤1000)))∧Below w.heap.size w w':=by unfold maxLen at hs;cases h3:x.k==3;·{go_enter Tryz.func116,Tryz.ntmps116;go_wp2;go_ret;exact⟨rfl,zb _ _⟩};cases hn:x.n==0;·{go_enter Tryz.func116,Tryz.ntmps116;go_wp2;go_ret;exact⟨rfl,zb _ _⟩};by_cases hz:x.s.size≤1000;·{have hz':decide (x.s.size≤1000)=true:=zh1 hz;have hz2:decide ((x.s.size:Int)≤1000)=true:=zh1 (by omega);go_enter Tryz.func116,Tryz.ntmps116;go_wp2;go_ret;exact⟨by rw[hz'];rfl,zb _ _⟩};have hz':decide (x.s.size≤1000)=false:=zh2 hz;have hz2:decide ((x.s.size:Int)≤1000)=false:=zh2 (by omega);go_enter Tryz.func116,Tryz.ntmps116;go_wp2;go_ret;exact⟨by rw[hz'];rfl,zb _ _⟩
theorem zb1(x:Val)(w:World)(hs:x.s.size≤maxLen):Calls Tryz.prog 116 #[x.v] w fun e w'=>e= .returned (.bool (rmB x))∧Below w.heap.size w w':=by unfold rmB;cases h0:x.k==0;·{cases h1:x.k==1;·{simp only[zh3,zhA,if_false];cases h2:x.k==2;·{simp only[zhA,if_false];exact Nb x w h0 h1 h2 hs};simp only[if_true];exact zaf x w h0 h1 h2};simp only[Bool.or_true,if_true];exact QF x w (.inr ⟨h0,h1⟩)};simp only[Bool.true_or,if_true];exact QF x w (.inl h0)
open Go
def xh(c:UInt8)(new:List UInt8):List UInt8→List UInt8|[]=>[]|b::l=>if b=c then new++xh c new l else b::xh c new l
theorem Nc(c:UInt8):Lib.index [] [c]=-1:=rfl
theorem PP(c:UInt8)(l:List UInt8):Lib.index (c::l) [c]=0:=by simp[Lib.index]
theorem WZ(b c:UInt8)(l:List UInt8)(h:b≠c):Lib.index (b::l) [c]=if Lib.index l [c]==-1 then -1 else Lib.index l [c]+1:=by rw[Lib.index];have:([c].isPrefixOf (b::l))=false:=by{simp[List.isPrefixOf];exact fun e=>h e.symm};rw[this];rfl
theorem TW(c:UInt8)(new:List UInt8):∀k,Lib.replaceK [c] new k []=[]|0=>rfl|k+1=>by rw[Lib.replaceK,Nc];rfl
theorem U0(c:UInt8)(new l:List UInt8)(k:Nat):Lib.replaceK [c] new (k+1) (c::l)=new++Lib.replaceK [c] new k l:=by rw[Lib.replaceK_hit [c] new k (c::l) 0 (PP c l)];simp
theorem Uh(b c:UInt8)(new l:List UInt8)(h:b≠c):∀k,Lib.replaceK [c] new k (b::l)=b::Lib.replaceK [c] new k l|0=>rfl|k+1=>by have hge:=Lib.index_ge l [c];by_cases hm:Lib.index l [c]=-1;·{have e1:Lib.index (b::l) [c]=-1:=by{rw[WZ b c l h,hm];rfl};rw[Lib.replaceK,Lib.replaceK,e1,hm];rfl};have hne:(Lib.index l [c]==-1)=false:=by{simpa using hm};obtain⟨i,hi⟩:∃i:Nat,Lib.index l [c]=i:=⟨(Lib.index l [c]).toNat,by omega⟩;have e1:Lib.index (b::l) [c]=((i+1:Nat):Int):=by{rw[WZ b c l h,hne,hi];simp};rw[Lib.replaceK_hit [c] new k (b::l) (i+1) e1,Lib.replaceK_hit [c] new k l i hi];have e:i+1+[c].length=(i+[c].length)+1:=by{simp};rw[e,List.drop_succ_cons,zh4];simp
theorem ZR(c:UInt8)(new:List UInt8):∀(s:List UInt8)(k:Nat),s.count c≤k→Lib.replaceK [c] new k s=xh c new s|[],k,_=>TW c new k|b::l,k,h=>by by_cases e:b=c;·{subst e;rw[List.count_cons_self]at h;obtain⟨k,rfl⟩:∃j,k=j+1:=⟨k-1,by omega⟩;rw[U0,ZR b new l k (by omega),xh,if_pos rfl]};rw[List.count_cons_of_ne e]at h;rw[Uh b c new l e,ZR c new l k h,xh,if_neg e]
theorem W0(c:UInt8)(new s:List UInt8)(h:[c]≠new):Lib.replaceAll s [c] new=xh c new s:=by have hne:([c]==new)=false:=by{simpa using h};unfold Lib.replaceAll Lib.replace;rw[hne];simp only[zhA,if_false];refine ZR c new s _ ?_;unfold Lib.replaceNum;rw[if_pos (.inl (by decide)),Lib.count_one];exact zhw _
theorem W1(c:UInt8)(new:List UInt8):∀s:List UInt8,(xh c new s).length≤s.length*(new.length+1)|[]=>by simp[xh]|b::l=>by have ih:=W1 c new l;rw[xh,zhS,zh5,Nat.one_mul];by_cases e:b=c;·{rw[if_pos e,zh6];omega};rw[if_neg e,zhS];omega
theorem U1(c:UInt8):∀s t:List UInt8,xh c [c,c] s=xh c [c,c] t→s=t|[],[],_=>rfl|[],b::l,h=>by rw[xh,xh]at h;by_cases e:b=c;·{rw[if_pos e]at h;simp at h};rw[if_neg e]at h;simp at h|b::l,[],h=>by rw[xh,xh]at h;by_cases e:b=c;·{rw[if_pos e]at h;simp at h};rw[if_neg e]at h;simp at h|a::l,b::r,h=>by rw[xh,xh]at h;by_cases e1:a=c<;>by_cases e2:b=c;·{rw[if_pos e1,if_pos e2]at h;simp only[zhR,zhQ,zh7,true_and]at h;rw[U1 c l r h,e1,e2]};·{rw[if_pos e1,if_neg e2]at h;simp only[zhR,zhQ,zh7]at h;exact absurd h.1.symm e2};·{rw[if_neg e1,if_pos e2]at h;simp only[zhR,zhQ,zh7]at h;exact absurd h.1 e1};rw[if_neg e1,if_neg e2]at h;simp only[zh7]at h;rw[U1 c l r h.2,h.1]
open Go
def num(l:List UInt8):Nat:=l.foldl (fun a c=>a*10+(c.toNat-48)) 0
theorem zag(l:List UInt8)(c:UInt8):num (l++[c])=num l*10+(c.toNat-48):=by simp[num]
theorem Yt(k:Nat)(h:k<10):(UInt8.ofNat (48+k)).toNat=48+k:=by rw[UInt8.toNat_ofNat'];omega
theorem Ry(u:Nat):num (Lib.decDigits u)=u:=by induction u using Nat.strongRecOn with|_ u ih=>rw[Lib.decDigits];by_cases h:u<10;·{rw[dif_pos h];simp[num];omega};rw[dif_neg h,zag,ih (u/10) (by omega),Yt (u%10) (by omega)];omega
theorem Nf{u v:Nat}(h:Lib.decDigits u=Lib.decDigits v):u=v:=by rw[←Ry u,h,Ry]
theorem ZS(u:Nat):∃c l,Lib.decDigits u=c::l∧48≤c.toNat∧c.toNat≤57:=by induction u using Nat.strongRecOn with|_ u ih=>rw[Lib.decDigits];by_cases h:u<10;·{rw[dif_pos h];exact⟨_,[],rfl,by rw[Yt u h];omega,by rw[Yt u h];omega⟩};rw[dif_neg h];obtain⟨c,l,hl,h1,h2⟩:=ih (u/10) (by omega);exact⟨c,l++_,by rw[hl];rfl,h1,h2⟩
theorem zah{a b:Int}(h:Lib.itoa a=Lib.itoa b):a=b:=by unfold Lib.itoa at h;by_cases ha:a<0<;>by_cases hb:b<0;·{rw[if_pos ha,if_pos hb]at h;have:=Nf (zh8 h).2;omega};·{rw[if_pos ha,if_neg hb]at h;obtain⟨c,l,hl,h1,h2⟩:=ZS b.toNat;rw[hl]at h;have:=congrArg UInt8.toNat (zh8 h).1;simp at this;omega};·{rw[if_neg ha,if_pos hb]at h;obtain⟨c,l,hl,h1,h2⟩:=ZS a.toNat;rw[hl]at h;have:=congrArg UInt8.toNat (zh8 h).1;simp at this;omega};rw[if_neg ha,if_neg hb]at h;have:=Nf h;omega
theorem Ng(a:Int):∃c l,Lib.itoa a=c::l∧45≤c.toNat∧c.toNat≤57:=by unfold Lib.itoa;by_cases ha:a<0;·{rw[if_pos ha];exact⟨45,_,rfl,by decide,by decide⟩};rw[if_neg ha];obtain⟨c,l,hl,h1,h2⟩:=ZS a.toNat;exact⟨c,l,hl,by omega,h2⟩
def zB(x:Val):List UInt8:=if x.k==0 then[110,117,108,108]else if x.k==1 then(if x.n==0 then[102,97,108,115,101]else[116,114,117,101])else if x.k==2 then Lib.itoa x.n else if x.k==3 then[39]++xh 39 [39,39] x.s.data.toList++[39]else[63]
theorem ZF(x:Val)(h:Zf x):∃c l,zB x=c::l∧((x.k=0∧c.toNat=110)∨(x.k=1∧x.n=0∧c.toNat=102)∨(x.k=1∧x.n=1∧c.toNat=116)∨(x.k=2∧45≤c.toNat∧c.toNat≤57)∨(x.k=3∧c.toNat=39)):=by unfold zB;rcases h with⟨hk,_⟩|⟨hk,hn|hn,_⟩|⟨hk,_⟩|⟨hk,_⟩;·{exact⟨110,_,by rw[hk];rfl,.inl ⟨hk,by decide⟩⟩};·{exact⟨102,_,by rw[hk,hn];rfl,.inr (.inl ⟨hk,hn,by decide⟩)⟩};·{exact⟨116,_,by rw[hk,hn];rfl,.inr (.inr (.inl ⟨hk,hn,by decide⟩))⟩};·{obtain⟨c,l,hl,h1,h2⟩:=Ng x.n;exact⟨c,l,by rw[hk];exact hl,.inr (.inr (.inr (.inl ⟨hk,h1,h2⟩)))⟩};exact⟨39,_,by rw[hk];rfl,.inr (.inr (.inr (.inr ⟨hk,by decide⟩)))⟩
theorem zai{x y:Val}(hx:Zf x)(hy:Zf y)(h:zB x=zB y):x=y:=by obtain⟨c,l,ex,hc⟩:=ZF x hx;obtain⟨d,r,ey,hd⟩:=ZF y hy;have hcd:c=d:=by{rw[ex,ey]at h;exact(zh8 h).1};subst hcd;obtain⟨k,n,s⟩:=x;obtain⟨k',n',s'⟩:=y;simp only at hc hd;have hkk:k=k'∧(k=1→n=n'):=by{rcases hc with hc|hc|hc|hc|hc<;>rcases hd with hd|hd|hd|hd|hd<;>omega};obtain⟨rfl,h1⟩:=hkk;rcases hx with⟨hk,hn,hs⟩|⟨hk,hn,hs⟩|⟨hk,hs⟩|⟨hk,hn,hs⟩<;>simp only at hk;·{rcases hy with⟨_,hn',hs'⟩|⟨hk',_⟩|⟨hk',_⟩|⟨hk',_⟩;·{simp only at hn hs hn' hs';rw[hn,hs,hn',hs']};all_goals(simp only at hk';omega)};·{rcases hy with⟨hk',_⟩|⟨_,hn',hs'⟩|⟨hk',_⟩|⟨hk',_⟩;·{simp only at hk';omega};·{simp only at hs hs';rw[h1 hk,hs,hs']};all_goals(simp only at hk';omega)};·{rcases hy with⟨hk',_⟩|⟨hk',_⟩|⟨_,hs'⟩|⟨hk',_⟩;·{simp only at hk';omega};·{simp only at hk';omega};·{simp only at hs hs';have:Lib.itoa n=Lib.itoa n':=by{unfold zB at h;rw[hk]at h;exact h};rw[zah this,hs,hs']};simp only at hk';omega};rcases hy with⟨hk',_⟩|⟨hk',_⟩|⟨hk',_⟩|⟨_,hn',hs'⟩;·{simp only at hk';omega};·{simp only at hk';omega};·{simp only at hk';omega};simp only at hn hn';have h':[39]++xh 39 [39,39] s.data.toList++[39]=[39]++xh 39 [39,39] s'.data.toList++[39]:=by{unfold zB at h;rw[hk]at h;exact h};have h2:xh 39 [39,39] s.data.toList=xh 39 [39,39] s'.data.toList:=zh9 (List.append_cancel_right h');have h3:=U1 39 _ _ h2;have hss:s=s':=by{obtain⟨⟨a⟩⟩:=s;obtain⟨⟨b⟩⟩:=s';simp at h3;rw[h3]};rw[hn,hn',hss]
def zb2(r:List UInt8):Prop:=r=[]∨∃l,r=44::l
theorem QG:∀(a b r s:List UInt8),(∀c∈a,c≠44)→(∀c∈b,c≠44)→zb2 r→zb2 s→a++r=b++s→a=b∧r=s|[],[],r,s,_,_,_,_,h=>⟨rfl,h⟩|[],c::b,r,s,_,hb,hr,_,h=>by exfalso;rcases hr with rfl|⟨l,rfl⟩;·{simp at h};simp at h;exact hb c (by simp) h.1.symm|c::a,[],r,s,ha,_,_,hs,h=>by exfalso;rcases hs with rfl|⟨l,rfl⟩;·{simp at h};simp at h;exact ha c (by simp) h.1|c::a,d::b,r,s,ha,hb,hr,hs,h=>by simp only[zhR,zh7]at h;obtain⟨h1,h2⟩:=QG a b r s (fun x hx=>ha x (zia _ hx)) (fun x hx=>hb x (zia _ hx)) hr hs h.2;exact⟨by rw[h.1,h1],h2⟩
theorem Nh{r:List UInt8}(hr:zb2 r)(l:List UInt8):r≠39::l:=by rcases hr with rfl|⟨l',rfl⟩<;>simp
theorem Rz:∀(a b r s:List UInt8),zb2 r→zb2 s→xh 39 [39,39] a++39::r=xh 39 [39,39] b++39::s→a=b∧r=s|[],[],r,s,_,_,h=>by simp[xh]at h;exact⟨rfl,h⟩|[],c::b,r,s,hr,_,h=>by exfalso;rw[xh,xh]at h;by_cases e:c=39;·{rw[if_pos e]at h;simp only[zhQ,zhR,zh7,true_and]at h;exact Nh hr _ h};rw[if_neg e]at h;simp only[zhQ,zhR,zh7]at h;exact e h.1.symm|c::a,[],r,s,_,hs,h=>by exfalso;rw[xh,xh]at h;by_cases e:c=39;·{rw[if_pos e]at h;simp only[zhQ,zhR,zh7,true_and]at h;exact Nh hs _ h.symm};rw[if_neg e]at h;simp only[zhQ,zhR,zh7]at h;exact e h.1|c::a,d::b,r,s,hr,hs,h=>by rw[xh,xh]at h;by_cases e1:c=39<;>by_cases e2:d=39;·{rw[if_pos e1,if_pos e2]at h;simp only[zhQ,zhR,zh7,true_and]at h;obtain⟨h1,h2⟩:=Rz a b r s hr hs h;exact⟨by rw[h1,e1,e2],h2⟩};·{rw[if_pos e1,if_neg e2]at h;simp only[zhQ,zhR,zh7]at h;exact absurd h.1.symm e2};·{rw[if_neg e1,if_pos e2]at h;simp only[zhQ,zhR,zh7]at h;exact absurd h.1 e1};rw[if_neg e1,if_neg e2]at h;simp only[zhR,zh7]at h;obtain⟨h1,h2⟩:=Rz a b r s hr hs h.2;exact⟨by rw[h.1,h1],h2⟩
theorem U2(u:Nat):∀c∈Lib.decDigits u,48≤c.toNat∧c.toNat≤57:=by induction u using Nat.strongRecOn with|_ u ih=>rw[Lib.decDigits];by_cases h:u<10;·{rw[dif_pos h];intro c hc;simp only[zib]at hc;subst hc;rw[Yt u h];omega};rw[dif_neg h];intro c hc;rcases zhN.1 hc with hc|hc;·{exact ih (u/10) (by omega) c hc};simp only[zib]at hc;subst hc;rw[Yt (u%10) (by omega)];omega
theorem TX(a:Int):∀c∈Lib.itoa a,c≠44:=by have hd:∀u,∀c∈Lib.decDigits u,c≠44:=fun u c hc e=>by{have:=U2 u c hc;rw[e]at this;exact absurd this (by decide)};unfold Lib.itoa;intro c hc;by_cases ha:a<0;·{rw[if_pos ha]at hc;rcases zhH.1 hc with rfl|hc;·{decide};exact hd _ c hc};rw[if_neg ha]at hc;exact hd _ c hc
theorem QH{x y:Val}(hx:Zf x)(hy:Zf y){r s:List UInt8}(hr:zb2 r)(hs:zb2 s)(h:zB x++r=zB y++s):x=y∧r=s:=by have key:zB x=zB y∧r=s:=by{obtain⟨c,l,ex,hc⟩:=ZF x hx;obtain⟨d,l',ey,hd⟩:=ZF y hy;have hcd:c=d:=by{have h':=h;rw[ex,ey]at h';exact(zh8 h').1};subst hcd;clear ex ey;have hkk:x.k=y.k∧(x.k=1→x.n=y.n):=by{rcases hc with hc|hc|hc|hc|hc<;>rcases hd with hd|hd|hd|hd|hd<;>omega};obtain⟨hk,hn⟩:=hkk;have hk':x.k=0∨x.k=1∨x.k=2∨x.k=3:=by{rcases hc with hc|hc|hc|hc|hc<;>omega};rcases hk' with h0|h0|h0|h0;·{have e:zB x=zB y:=by{unfold zB;rw[←hk,h0];rfl};rw[e]at h;exact⟨e,zh9 h⟩};·{have e:zB x=zB y:=by{unfold zB;rw[←hk,h0,hn h0];rfl};rw[e]at h;exact⟨e,zh9 h⟩};·{have ex:zB x=Lib.itoa x.n:=by{unfold zB;rw[h0];rfl};have ey:zB y=Lib.itoa y.n:=by{unfold zB;rw[←hk,h0];rfl};rw[ex,ey]at h⊢;exact QG _ _ r s (TX _) (TX _) hr hs h};have ex:zB x=[39]++xh 39 [39,39] x.s.data.toList++[39]:=by{unfold zB;rw[h0];rfl};have ey:zB y=[39]++xh 39 [39,39] y.s.data.toList++[39]:=by{unfold zB;rw[←hk,h0];rfl};rw[ex,ey]at h⊢;simp only[zhK,zhR,zhQ,zh7,true_and]at h;obtain⟨h1,h2⟩:=Rz _ _ r s hr hs h;rw[h1];exact⟨rfl,h2⟩};exact⟨zai hx hy key.1,key.2⟩
def xM(l:List Val):List UInt8:=Lib.join (l.map zB) [44,32]
def Xf(l:List Val):List UInt8:=[40]++xM l++[41]
theorem Xj(l:List (List UInt8)):zb2 (Lib.joinTail [44,32] l):=by cases l with|nil=>exact .inl rfl|cons x r=>exact .inr ⟨_,rfl⟩
theorem tail_cons(x:List UInt8)(r:List (List UInt8)):Lib.joinTail [44,32] (x::r)=44::32::(x++Lib.joinTail [44,32] r):=by simp[Lib.joinTail]
theorem QI:∀a b:List Val,(∀x∈a,Zf x)→(∀x∈b,Zf x)→Lib.joinTail [44,32] (a.map zB)=Lib.joinTail [44,32] (b.map zB)→a=b|[],[],_,_,_=>rfl|[],y::b,_,_,h=>by rw[zhG,tail_cons]at h;(cases h)|x::a,[],_,_,h=>by rw[zhG,tail_cons]at h;(cases h)|x::a,y::b,ha,hb,h=>by rw[zhG,zhG,tail_cons,tail_cons]at h;simp only[zh7,true_and]at h;obtain⟨h1,h2⟩:=QH (ha x (by simp)) (hb y (by simp)) (Xj _) (Xj _) h;rw[h1,QI a b (fun z hz=>ha z (zia _ hz)) (fun z hz=>hb z (zia _ hz)) h2]
theorem Yu(x:Val)(a:List Val):xM (x::a)=zB x++Lib.joinTail [44,32] (a.map zB):=by unfold xM;rw[zhG,zic]
theorem zaj:∀a b:List Val,(∀x∈a,Zf x)→(∀x∈b,Zf x)→xM a=xM b→a=b|[],[],_,_,_=>rfl|[],y::b,_,hb,h=>by rw[Yu]at h;obtain⟨c,l,e,_⟩:=ZF y (hb y (by simp));rw[e]at h;(cases h)|x::a,[],ha,_,h=>by rw[Yu]at h;obtain⟨c,l,e,_⟩:=ZF x (ha x (by simp));rw[e]at h;(cases h)|x::a,y::b,ha,hb,h=>by rw[Yu,Yu]at h;obtain⟨h1,h2⟩:=QH (ha x (by simp)) (hb y (by simp)) (Xj _) (Xj _) h;rw[h1,QI a b (fun z hz=>ha z (zia _ hz)) (fun z hz=>hb z (zia _ hz)) h2]
theorem zak{a b:List Val}(ha:∀x∈a,Zf x)(hb:∀x∈b,Zf x)(h:Xf a=Xf b):a=b:=by unfold Xf at h;exact zaj a b ha hb (zh9 (List.append_cancel_right h))
theorem RA(c:UInt8):∀l:List UInt8,(xh c [c,c] l).length≤2*l.length|[]=>zhw _|b::l=>by rw[xh];have:=RA c l;split<;>simp<;>omega
theorem RB(u:Nat)(k:Nat)(h:u<10^(k+1)):(Lib.decDigits u).length≤k+1:=by induction k generalizing u with|zero=>rw[Lib.decDigits,dif_pos (by simpa using h)];simp|succ k ih=>rw[Lib.decDigits];by_cases h10:u<10;·{rw[dif_pos h10];simp};rw[dif_neg h10];have:u/10<10^(k+1):=by{rw[Nat.pow_succ]at h;exact(Nat.div_lt_iff_lt_mul (by decide)).2 h};have:=ih (u/10) this;simp;omega
theorem ZT(a:Int)(h:-9223372036854775808≤a∧a≤9223372036854775807):(Lib.itoa a).length≤21:=by unfold Lib.itoa;split;·{rw[zhS];exact Nat.succ_le_succ (RB _ 19 (by omega))};exact zhF (RB _ 19 (by omega)) (by decide)
theorem Wy(x:Val)(hn:-9223372036854775808≤x.n∧x.n≤9223372036854775807)(hs:x.s.size≤2000):(zB x).length≤5000:=by unfold zB;split;·{simp};split;·{split<;>simp};split;·{have:=ZT x.n hn;omega};split;·{have h1:=RA 39 x.s.data.toList;have h2:x.s.data.toList.length=x.s.size:=rfl;simp only[zh6,zhS,zid];omega};simp
theorem QJ(B:Nat):∀l:List (List UInt8),(∀x∈l,x.length≤B)→(Lib.joinTail [44,32] l).length≤l.length*(B+2)|[],_=>by simp[Lib.joinTail]|x::l,h=>by rw[tail_cons];have h1:=QJ B l (fun z hz=>h z (zia _ hz));have h2:=h x (by simp);rw[zhS,zhS,zh6,zhS,zie];omega
theorem zal(a:List Val)(B:Nat)(h:∀x∈a,(zB x).length≤B):(xM a).length≤a.length*(B+2):=by cases a with|nil=>simp[xM,Lib.join]|cons x a=>rw[Yu,zh6,zhS,zie];have h1:=QJ B (a.map zB) (fun z hz=>by obtain⟨q,hq,rfl⟩:=zhu.1 hz;exact h q (zia _ hq));have h2:=h x (by simp);rw[zif]at h1;omega
end Go.Proofs.YtkmolglahmjfdaaGreatDoor
