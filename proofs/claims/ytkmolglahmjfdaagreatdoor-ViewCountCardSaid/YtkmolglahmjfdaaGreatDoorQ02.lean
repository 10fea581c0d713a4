/-
  Part 2 of 21 of what the proof leans on: each part below says what it proves, and of what; no condition besides.
-/
import Derived.Test.YtkmolglahmjfdaaGreatDoorQ01
import Derived.Lib.AtoiAll
import Derived.Lib.Bytealg
set_option linter.unusedVariables false
set_option linter.unusedSimpArgs false
namespace Go.Proofs.YtkmolglahmjfdaaGreatDoor
open Go
structure Tk where
 k : Int
 t : ByteArray
 v : Val
def Tk.eq(a b:Tk):Bool:=decide (a.k=b.k)&&(decide (a.t.toList=b.t.toList)&&a.v.eq b.v)
theorem Tk.eq_iff{a b:Tk}:a.eq b=true↔a=b:=by obtain⟨k,t,v⟩:=a;obtain⟨k',t',v'⟩:=b;simp only[Tk.eq,zhp,zhr,Tk.mk.injEq,Val.eq_iff];constructor;·{rintro⟨h1,h2,h3⟩;exact⟨h1,zL h2,h3⟩};rintro⟨h1,h2,h3⟩;exact⟨h1,by rw[h2],h3⟩
abbrev ba(l:List UInt8):ByteArray:=⟨l.toArray⟩
theorem Ni(s:ByteArray):ba s.data.toList=s:=by obtain⟨⟨l⟩⟩:=s;rfl
def tk0:Tk:=⟨0,emp,nl⟩
def xU(n:Int):Tk:=⟨1,emp,iv n⟩
def OX(l:List UInt8):Tk:=⟨1,emp,⟨3,0,ba l⟩⟩
def OY(l:List UInt8):Tk:=⟨2,ba l,nl⟩
def zen(l:List UInt8):Tk:=⟨0,ba l,nl⟩
def zeo:List UInt8:=[40,41,91,93,44,61,60,43,45,42,63]
def cls(b:UInt8):Int:=if b.toNat=32 then 1 else if 97≤b.toNat∧b.toNat≤122 then 2 else if 48≤b.toNat∧b.toNat≤57 then 3 else if b.toNat=95 then 4 else if b.toNat=39 then 5 else if b.toNat=45 then 6 else if 0≤Lib.indexByte zeo b then 7 else 0
theorem zcH{b:UInt8}:cls b=1↔b.toNat=32:=by unfold cls;(repeat' split);all_goals(first|omega|simp_all)
theorem zf2{b:UInt8}:cls b=2↔97≤b.toNat∧b.toNat≤122:=by unfold cls;(repeat' split);all_goals(first|omega|simp_all)
theorem zcI{b:UInt8}:cls b=3↔48≤b.toNat∧b.toNat≤57:=by unfold cls;(repeat' split);all_goals(first|omega|simp_all)
theorem zez{b:UInt8}:cls b=5↔b.toNat=39:=by unfold cls;(repeat' split);all_goals(first|omega|simp_all)
theorem Xk:∀(l:List UInt8)(c:UInt8),0≤Lib.indexByte l c↔c∈l|[],c=>by simp[Lib.indexByte]|b::l,c=>by have ih:=Xk l c;have hge:=Lib.indexByte_ge l c;rw[Lib.indexByte];by_cases h:b=c;·{subst h;simp};have hb:(b==c)=false:=by{simpa using h};rw[hb];simp only[zhA,if_false,zhH];by_cases hm:Lib.indexByte l c=-1;·{have:c∉l:=fun hc=>by{have:=ih.2 hc;omega};rw[hm];have hcb:¬c=b:=fun e=>h e.symm;simp[this,hcb]};have hne:(Lib.indexByte l c==-1)=false:=by{simpa using hm};rw[hne];have hc:c∈l:=ih.1 (by omega);simp[hc];omega
theorem Nj{b:UInt8}{n:Nat}(h:b.toNat=n):b=UInt8.ofNat n:=by rw[←h];simp
def TS(cs:List Int)(b:UInt8):Bool:=cs.contains (cls b)
abbrev dig:UInt8→Bool:=TS [3]
abbrev inn:UInt8→Bool:=TS [2,3,4]
abbrev blk:UInt8→Bool:=TS [1]
theorem RC{b:UInt8}:dig b=true↔48≤b.toNat∧b.toNat≤57:=by rw[←zcI];simp[dig,TS]
theorem Nk{b:UInt8}:blk b=true↔b.toNat=32:=by rw[←zcH];simp[blk,TS]
theorem zcJ{b:UInt8}:inn b=true↔cls b=2∨cls b=3∨cls b=4:=by simp[inn,TS]
def XK(w:List UInt8):Option Tk:=match Lib.atoiAll w with| .ok v=>if Lib.itoa v=w then some (xU v)else none|_=>none
def yF:Bool→List UInt8→Option (List UInt8×List UInt8)|false,[]=>none|true,[]=>some ([],[])|false,c::r=>if c=39 then yF true r else(yF false r).map fun p=>(c::p.1,p.2)|true,c::r=>if c=39 then(yF false r).map fun p=>(39::p.1,p.2)else some ([],c::r)
def ZG:List UInt8→Option (Tk×List UInt8)|[]=>none|c::r=>if cls c=2 then some (zen ((c::r).takeWhile inn),(c::r).dropWhile inn)else if cls c=3 then(XK ((c::r).takeWhile dig)).map fun t=>(t,(c::r).dropWhile dig)else if cls c=5 then(yF false r).map fun p=>(OX p.1,p.2)else if cls c=6 then(if r.takeWhile dig=[]then some (OY [c],r)else(XK (c::r.takeWhile dig)).map fun t=>(t,r.dropWhile dig))else if cls c=7 then some (OY [c],r)else none
def Wj(l:List UInt8):Bool:=match l with|[]=>false|c::r=>decide ((c::r).length≤30)&&(decide (cls c=2)&&(c::r).all inn)
def Wl(l:List UInt8):Bool:=match l with|[c]=>decide (c∈zeo)|_=>false
def YR(t:Tk):Bool:=if t.k==0 then Wj t.t.data.toList&&t.v.eq nl else if t.k==1 then t.t.toList.isEmpty&&((t.v.k==2||t.v.k==3)&&XM t.v)else if t.k==2 then Wl t.t.data.toList&&t.v.eq nl else false
def zam:Nat→List UInt8→Option (List Tk)|0,_=>some []|_+1,[]=>some []|n+1,c::r=>if cls c=1 then zam n r else match ZG (c::r)with|none=>none|some (t,q)=>if YR t then(zam n q).map (t::·)else none
def Yo(l:List UInt8):Option (List Tk):=zam l.length l
def yM(t:Tk):List UInt8:=if t.k==1 then zB t.v else t.t.data.toList
def yT(l:List Tk):List UInt8:=Lib.join (l.map yM) [32]
theorem XN(p:UInt8→Bool)(l:List UInt8):(l.dropWhile p).length≤l.length:=by have:=congrArg List.length (zig (p:=p) (l:=l));rw[zh6]at this;omega
theorem QK:∀(l:List UInt8)(b:Bool)(u r:List UInt8),yF b l=some (u,r)→r.length≤l.length|[],false,u,r,h=>by simp[yF]at h|[],true,u,r,h=>by simp[yF]at h;simp[h.2]|c::l,false,u,r,h=>by rw[yF]at h;split at h;·{have:=QK l true u r h;simp;omega};(cases e:yF false l with|none=>rw[e]at h;(cases h)|some p=>rw[e]at h;simp at h;have:=QK l false p.1 p.2 e;rw[h.2]at this;simp;omega)|c::l,true,u,r,h=>by rw[yF]at h;split at h;·{cases e:yF false l with|none=>rw[e]at h;(cases h)|some p=>rw[e]at h;simp at h;have:=QK l false p.1 p.2 e;rw[h.2]at this;simp;omega};simp at h;rw[←h.2];simp
theorem Uu{l:List UInt8}{t:Tk}{r:List UInt8}(h:ZG l=some (t,r)):r.length<l.length:=by cases l with|nil=>(cases h)|cons c l=>rw[ZG]at h;split at h;·{rename_i hc;have hi:inn c=true:=zcJ.2 (.inl hc);simp only[zih,zii]at h;rw[←h.2,zij,hi];have:=XN inn l;simp;omega};split at h;·{rename_i hc;have hi:dig c=true:=RC.2 (zcI.1 hc);cases e:XK ((c::l).takeWhile dig)with|none=>rw[e]at h;(cases h)|some q=>rw[e]at h;simp only[zik,zih,zii]at h;rw[←h.2,zij,hi];have:=XN dig l;simp;omega};split at h;·{cases e:yF false l with|none=>rw[e]at h;(cases h)|some q=>rw[e]at h;simp only[zik,zih,zii]at h;have:=QK l false q.1 q.2 e;rw[←h.2];simp;omega};split at h;·{split at h;·{simp only[zih,zii]at h;rw[←h.2];simp};cases e:XK (c::l.takeWhile dig)with|none=>rw[e]at h;(cases h)|some q=>rw[e]at h;simp only[zik,zih,zii]at h;have:=XN dig l;rw[←h.2];simp;omega};split at h;·{simp only[zih,zii]at h;rw[←h.2];simp};cases h
theorem Nl:∀(n:Nat)(l:List UInt8),l.length≤n→zam n l=zam l.length l:=by intro n;induction n using Nat.strongRecOn with|_ n ih=>intro l hl;cases l with|nil=>(cases n<;>rfl)|cons c r=>cases n with|zero=>simp at hl|succ n=>rw[zhS]at hl⊢;rw[zam,zam];split;·{exact ih n (by omega) r (by omega)};cases e:ZG (c::r)with|none=>rfl|some p=>obtain⟨t,q⟩:=p;have hq:=Uu e;rw[zhS]at hq;simp only;split;·{rw[ih n (by omega) q (by omega),ih r.length (by omega) q (by omega)]};rfl
theorem W5:Yo []=some []:=rfl
theorem ZH{c:UInt8}{r:List UInt8}(h:cls c=1):Yo (c::r)=Yo r:=by unfold Yo;rw[zhS,zam,if_pos h]
theorem XO{c:UInt8}{r:List UInt8}(h:cls c≠1):Yo (c::r)=match ZG (c::r)with|none=>none|some (t,q)=>if YR t then(Yo q).map (t::·)else none:=by unfold Yo;rw[zhS,zam,if_neg h];cases e:ZG (c::r)with|none=>rfl|some p=>obtain⟨t,q⟩:=p;have hq:=Uu e;rw[zhS]at hq;simp only;rw[Nl r.length q (by omega)]
theorem U3:∀l:List UInt8,Yo (l.dropWhile blk)=Yo l|[]=>rfl|c::r=>by rw[zij];cases h:blk c;·{rfl};rw[ZH (zcH.2 (Nk.1 h))];exact U3 r
theorem TY(l:List UInt8):l.dropWhile blk=[]∨∃c r,l.dropWhile blk=c::r∧cls c≠1:=by cases e:l.dropWhile blk with|nil=>exact .inl rfl|cons c r=>refine .inr ⟨c,r,rfl,fun h=>?_⟩;have:=List.head_dropWhile_not blk (by{rw[e];simp}:l.dropWhile blk≠[]);simp only[e,List.head_cons]at this;rw[Nk.2 (zcH.1 h)]at this;cases this
theorem Wz(p:UInt8→Bool)(hp:p 32=false)(x:List UInt8):∀l:List UInt8,(l++32::x).takeWhile p=l.takeWhile p∧(l++32::x).dropWhile p=l.dropWhile p++32::x|[]=>by simp[hp]|c::l=>by obtain⟨h1,h2⟩:=Wz p hp x l;rw[zhR,zil,zil,zij,zij];cases p c;·{exact⟨rfl,rfl⟩};simp only[if_true];exact⟨by rw[h1],h2⟩
theorem U4(x:List UInt8):∀(l:List UInt8)(b:Bool)(u r:List UInt8),yF b l=some (u,r)→yF b (l++32::x)=some (u,r++32::x)|[],false,u,r,h=>by simp[yF]at h|[],true,u,r,h=>by simp[yF]at h;rw[h.1,h.2];rfl|c::l,false,u,r,h=>by rw[yF]at h;rw[zhR,yF];split at h;·{rename_i hc;rw[if_pos hc];exact U4 x l true u r h};rename_i hc;rw[if_neg hc];(cases e:yF false l with|none=>rw[e]at h;(cases h)|some p=>rw[e]at h;simp at h;rw[U4 x l false p.1 p.2 e];simp[h.1,h.2])|c::l,true,u,r,h=>by rw[yF]at h;rw[zhR,yF];split at h;·{rename_i hc;rw[if_pos hc];cases e:yF false l with|none=>rw[e]at h;(cases h)|some p=>rw[e]at h;simp at h;rw[U4 x l false p.1 p.2 e];simp[h.1,h.2]};rename_i hc;rw[if_neg hc];simp at h;rw[h.1.symm,←h.2];simp
theorem zcK(x:List UInt8){l:List UInt8}{t:Tk}{r:List UInt8}(h:ZG l=some (t,r)):ZG (l++32::x)=some (t,r++32::x):=by have hi:inn 32=false:=by{decide};have hd:dig 32=false:=by{decide};cases l with|nil=>(cases h)|cons c l=>obtain⟨i1,i2⟩:=Wz inn hi x (c::l);obtain⟨d1,d2⟩:=Wz dig hd x (c::l);obtain⟨e1,e2⟩:=Wz dig hd x l;rw[zhR]at i1 i2 d1 d2⊢;rw[ZG]at h⊢;rw[i1,i2,d1,d2,e1,e2];split at h;·{rename_i hc;rw[if_pos hc];simp only[zih,zii]at h⊢;exact⟨h.1,by rw[h.2]⟩};rename_i hc;rw[if_neg hc];split at h;·{rename_i hc;rw[if_pos hc];cases e:XK ((c::l).takeWhile dig)with|none=>rw[e]at h;(cases h)|some q=>rw[e]at h;simp only[zik,zih,zii]at h⊢;exact⟨h.1,by rw[h.2]⟩};rename_i hc;rw[if_neg hc];split at h;·{rename_i hc;rw[if_pos hc];cases e:yF false l with|none=>rw[e]at h;(cases h)|some q=>rw[e]at h;simp only[zik,zih,zii]at h;rw[U4 x l false q.1 q.2 e];simp only[zik,zih,zii];exact⟨h.1,by rw[h.2]⟩};rename_i hc;rw[if_neg hc];split at h;·{rename_i hc;rw[if_pos hc];split at h;·{rename_i he;rw[if_pos he];simp only[zih,zii]at h⊢;exact⟨h.1,by rw[h.2]⟩};rename_i he;rw[if_neg he];cases e:XK (c::l.takeWhile dig)with|none=>rw[e]at h;(cases h)|some q=>rw[e]at h;simp only[zik,zih,zii]at h⊢;exact⟨h.1,by rw[h.2]⟩};rename_i hc;rw[if_neg hc];split at h;·{rename_i hc;rw[if_pos hc];simp only[zih,zii]at h⊢;exact⟨h.1,by rw[h.2]⟩};cases h
theorem RD(x:List UInt8):∀(n:Nat)(s:List UInt8)(a:List Tk),s.length≤n→Yo s=some a→Yo (s++32::x)=(Yo x).map (a++·)|n,[],a,_,h=>by rw[W5]at h;simp only[zih]at h;rw[←h,zhQ,ZH (by decide)];(cases Yo x<;>rfl)|0,c::s,a,hn,_=>by simp at hn|n+1,c::s,a,hn,h=>by rw[zhS]at hn;by_cases hc:cls c=1;·{rw[ZH hc]at h;rw[zhR,ZH hc];exact RD x n s a (by omega) h};rw[XO hc]at h;rw[zhR,XO hc];cases e:ZG (c::s)with|none=>rw[e]at h;(cases h)|some p=>obtain⟨t,q⟩:=p;have hq:=Uu e;rw[zhS]at hq;have e2:=zcK x e;rw[zhR]at e2;rw[e]at h;rw[e2];simp only at h⊢;split at h;·{rename_i hm;rw[if_pos hm];cases e3:Yo q with|none=>rw[e3]at h;(cases h)|some b=>rw[e3]at h;simp only[zik,zih]at h;rw[RD x n q b (by omega) e3,←h];cases Yo x<;>simp};cases h
theorem Nm:∀(l:List UInt8)(a:Nat),a≤l.foldl (fun a c=>a*10+(c.toNat-48)) a|[],a=>zhw _|c::l,a=>by rw[zim];have:=Nm l (a*10+(c.toNat-48));omega
theorem Uv:∀(l:List UInt8)(a:Nat),(∀c∈l,48≤c.toNat∧c.toNat≤57)→l.foldl (fun a c=>a*10+(c.toNat-48)) a<18446744073709551616→Lib.parseUint10 a l= .ok (l.foldl (fun a c=>a*10+(c.toNat-48)) a)|[],a,_,_=>rfl|c::l,a,h,hlt=>by rw[zim]at hlt;have:=Nm l (a*10+(c.toNat-48));rw[Lib.parseUint10,if_pos (h c (by simp)),if_neg (by omega),if_neg (by omega),Uv l _ (fun d hd=>h d (zia _ hd)) hlt,zim]
theorem TZ(u:Nat)(h:u<18446744073709551616):Lib.parseMag (Lib.decDigits u)= .ok u:=by obtain⟨c,l,hl,_⟩:=ZS u;unfold Lib.parseMag;rw[if_neg (by rw[hl];simp)];have hn:=Ry u;unfold num at hn;rw[Uv (Lib.decDigits u) 0 (U2 u) (by rw[hn];exact h),hn]
theorem W6(v:Int)(h:-9223372036854775808≤v∧v≤9223372036854775807):Lib.atoiAll (Lib.itoa v)= .ok v:=by unfold Lib.itoa;by_cases hv:v<0;·{rw[if_pos hv];have hp:=TZ v.natAbs (by omega);unfold Lib.atoiAll;simp only;rw[if_pos (.inr (by decide)),hp];simp only;rw[if_neg (by rintro⟨h1,_⟩;exact h1 (by decide)),if_neg (by rintro⟨_,h2⟩;omega),if_pos (by decide)];congr 1;omega};rw[if_neg hv];have hp:=TZ v.toNat (by omega);obtain⟨c,l,hl,h1,h2⟩:=ZS v.toNat;rw[hl]at hp⊢;unfold Lib.atoiAll;simp only;rw[if_neg (by omega),hp];simp only;rw[if_neg (by rintro⟨_,h2⟩;omega),if_neg (by rintro⟨h1,_⟩;omega),if_neg (by omega)];congr 1;omega
theorem zan(v:Int)(h:-9223372036854775808≤v∧v≤9223372036854775807):XK (Lib.itoa v)=some (xU v):=by unfold XK;rw[W6 v h];simp
theorem RE:∀s:List UInt8,yF false (xh 39 [39,39] s++[39])=some (s,[])|[]=>rfl|c::s=>by rw[xh];split;·{rename_i hc;subst hc;show yF false (39::39::(xh 39 [39,39] s++[39]))=_;rw[yF,if_pos rfl,yF,if_pos rfl,RE s];rfl};rename_i hc;rw[zhR,yF,if_neg hc,RE s];rfl
def T64(t:Tk):Prop:=-9223372036854775808≤t.v.n∧t.v.n≤9223372036854775807
theorem WA(p:UInt8→Bool):∀l:List UInt8,(∀c∈l,p c=true)→l.takeWhile p=l∧l.dropWhile p=[]|[],_=>⟨rfl,rfl⟩|c::l,h=>by obtain⟨h1,h2⟩:=WA p l (fun d hd=>h d (zia _ hd));rw[zil,zij,h c (by simp)];exact⟨by simp only[if_true];rw[h1],h2⟩
theorem zcL:∀c∈zeo,cls c=6∨cls c=7:=by decide
theorem Nn(t:Tk)(hm:YR t=true)(h6:T64 t):ZG (yM t)=some (t,[]):=by obtain⟨k,s,v⟩:=t;unfold T64 at h6;unfold YR at hm;unfold yM;simp only at*;by_cases h0:k=0;·{subst h0;simp only[beq_self_eq_true,if_true,zhp,Val.eq_iff]at hm;obtain⟨hw,rfl⟩:=hm;rw[if_neg (by decide)];unfold Wj at hw;split at hw;·{cases hw};rename_i c r e;simp only[zhp,zhr,zhi]at hw;obtain⟨h1,h2⟩:=WA inn (c::r) hw.2.2;rw[e,ZG,if_pos hw.2.1,h1,h2,←e];unfold zen;rw[Ni]};have k0:(k==0)=false:=by{simpa using h0};rw[k0]at hm;simp only[zhA,if_false]at hm;by_cases h1:k=1;·{subst h1;simp only[beq_self_eq_true,if_true,zhp,zhs,beq_iff_eq]at hm⊢;obtain⟨he,hk,hv⟩:=hm;have hs:=WY he;subst hs;obtain⟨vk,vn,vs⟩:=v;have hval:=yS _ hv;simp only at*;rcases hk with rfl|rfl;·{rcases hval with⟨hk,_⟩|⟨hk,_⟩|⟨_,hs⟩|⟨hk,_⟩;·{simp at hk};·{simp at hk};·{simp only at hs;subst hs;have ht:zB ⟨2,vn,emp⟩=Lib.itoa vn:=rfl;have hnum:=zan vn h6;rw[ht];unfold Lib.itoa at hnum⊢;by_cases hneg:vn<0;·{rw[if_pos hneg]at hnum⊢;obtain⟨a1,a2⟩:=WA dig (Lib.decDigits vn.natAbs) (fun c hc=>RC.2 (U2 _ c hc));obtain⟨c,l,hl,_⟩:=ZS vn.natAbs;rw[ZG,if_neg (by decide),if_neg (by decide),if_neg (by decide),if_pos (by decide),a1,a2,if_neg (by rw[hl];simp),hnum];rfl};rw[if_neg hneg]at hnum⊢;obtain⟨a1,a2⟩:=WA dig (Lib.decDigits vn.toNat) (fun c hc=>RC.2 (U2 _ c hc));obtain⟨c,l,hl,hc1,hc2⟩:=ZS vn.toNat;rw[hl]at a1 a2 hnum⊢;rw[ZG,if_neg (by rw[zf2];omega),if_pos (zcI.2 ⟨hc1,hc2⟩),a1,a2,hnum];rfl};simp at hk};rcases hval with⟨hk,_⟩|⟨hk,_⟩|⟨hk,_⟩|⟨_,hn,hs⟩;·{simp at hk};·{simp at hk};·{simp at hk};simp only at hn;subst hn;have ht:zB ⟨3,0,vs⟩=39::(xh 39 [39,39] vs.data.toList++[39]):=rfl;rw[ht,ZG,if_neg (by decide),if_neg (by decide),if_pos (by decide),RE];simp only[zik];unfold OX;rw[Ni]};have k1:(k==1)=false:=by{simpa using h1};rw[k1]at hm⊢;simp only[zhA,if_false]at hm⊢;by_cases h2:k=2;·{subst h2;simp only[beq_self_eq_true,if_true,zhp,Val.eq_iff]at hm;obtain⟨hw,rfl⟩:=hm;unfold Wl at hw;split at hw;·{rename_i c e;simp only[zhr]at hw;have hc:=zcL c hw;rw[e,ZG];have e2:OY [c]=⟨2,s,nl⟩:=by{unfold OY;rw[←e,Ni]};rcases hc with hc|hc;·{rw[if_neg (by omega),if_neg (by omega),if_neg (by omega),if_pos hc,List.takeWhile_nil,if_pos rfl,e2]};rw[if_neg (by omega),if_neg (by omega),if_neg (by omega),if_neg (by omega),if_pos hc,e2]};cases hw};have k2:(k==2)=false:=by{simpa using h2};rw[k2]at hm;cases hm
theorem Np(t:Tk)(hm:YR t=true)(h6:T64 t):Yo (yM t)=some [t]:=by have h:=Nn t hm h6;cases e:yM t with|nil=>rw[e]at h;(cases h)|cons c r=>rw[e]at h;have hc:cls c≠1:=by{intro hc;rw[ZG,if_neg (by omega),if_neg (by omega),if_neg (by omega),if_neg (by omega),if_neg (by omega)]at h;cases h};rw[XO hc,h];simp only;rw[if_pos hm,W5];rfl
theorem Uw(t:Tk)(l:List Tk)(h:l≠[]):yT (t::l)=yM t++32::yT l:=by cases l with|nil=>exact absurd rfl h|cons u l=>unfold yT;rw[zhG,zhG,zic,zic];simp[Lib.joinTail]
theorem T0(t:Tk):yT [t]=yM t:=by unfold yT;rw[zhG,zic];simp[Lib.joinTail]
theorem T3:∀l:List Tk,(∀t∈l,YR t=true)→(∀t∈l,T64 t)→Yo (yT l)=some l|[],_,_=>rfl|[t],hm,h6=>by rw[T0];exact Np t (hm t (by simp)) (h6 t (by simp))|t::u::l,hm,h6=>by rw[Uw t (u::l) (by simp),RD _ _ _ [t] (zhw _) (Np t (hm t (by simp)) (h6 t (by simp))),T3 (u::l) (fun x hx=>hm x (zia _ hx)) (fun x hx=>h6 x (zia _ hx))];rfl
theorem zeA(t:Tk)(hm:YR t=true)(h6:T64 t):yM t≠[]:=by intro e;have h:=Nn t hm h6;rw[e]at h;cases h
theorem RF{w:List UInt8}{v:Int}(e:Lib.atoiAll w= .ok v):-9223372036854775808≤v∧v≤9223372036854775807:=by unfold Lib.atoiAll at e;split at e;·{cases e};simp only at e;split at e;·{cases e};·{cases e};split at e;·{cases e};split at e;·{cases e};rename_i u _ h1 h2;injection e with e;subst e;split<;>omega
theorem zb3{w:List UInt8}{t:Tk}(h:XK w=some t):T64 t:=by unfold XK at h;split at h;·{rename_i v e;split at h;·{simp only[zih]at h;subst h;exact RF e};cases h};cases h
theorem zb4{l:List UInt8}{t:Tk}{r:List UInt8}(h:ZG l=some (t,r)):T64 t:=by cases l with|nil=>(cases h)|cons c l=>rw[ZG]at h;split at h;·{simp only[zih,zii]at h;rw[←h.1];exact⟨(by{decide}:(-9223372036854775808:Int)≤0),(by{decide}:(0:Int)≤9223372036854775807)⟩};split at h;·{cases e:XK ((c::l).takeWhile dig)with|none=>rw[e]at h;(cases h)|some q=>rw[e]at h;simp only[zik,zih,zii]at h;rw[←h.1];exact zb3 e};split at h;·{cases e:yF false l with|none=>rw[e]at h;(cases h)|some q=>rw[e]at h;simp only[zik,zih,zii]at h;rw[←h.1];exact⟨(by{decide}:(-9223372036854775808:Int)≤0),(by{decide}:(0:Int)≤9223372036854775807)⟩};split at h;·{split at h;·{simp only[zih,zii]at h;rw[←h.1];exact⟨(by{decide}:(-9223372036854775808:Int)≤0),(by{decide}:(0:Int)≤9223372036854775807)⟩};cases e:XK (c::l.takeWhile dig)with|none=>rw[e]at h;(cases h)|some q=>rw[e]at h;simp only[zik,zih,zii]at h;rw[←h.1];exact zb3 e};split at h;·{simp only[zih,zii]at h;rw[←h.1];exact⟨(by{decide}:(-9223372036854775808:Int)≤0),(by{decide}:(0:Int)≤9223372036854775807)⟩};cases h
theorem U5:∀(n:Nat)(s:List UInt8)(a:List Tk),s.length≤n→Yo s=some a→∀t∈a,YR t=true∧T64 t|n,[],a,_,h,t,ht=>by rw[W5]at h;simp only[zih]at h;rw[←h]at ht;(cases ht)|0,c::s,a,hn,_,t,ht=>by simp at hn|n+1,c::s,a,hn,h,t,ht=>by rw[zhS]at hn;by_cases hc:cls c=1;·{rw[ZH hc]at h;exact U5 n s a (by omega) h t ht};rw[XO hc]at h;cases e:ZG (c::s)with|none=>rw[e]at h;(cases h)|some p=>obtain⟨u,q⟩:=p;have hq:=Uu e;rw[zhS]at hq;rw[e]at h;simp only at h;split at h;·{rename_i hm;cases e3:Yo q with|none=>rw[e3]at h;(cases h)|some b=>rw[e3]at h;simp only[zik,zih]at h;rw[←h]at ht;rcases zhH.1 ht with rfl|ht;·{exact⟨hm,zb4 e⟩};exact U5 n q b (by omega) e3 t ht};cases h
open Go
structure Nd where
 op : Int
 n : Int
 v : Val
def Nd.eq(a b:Nd):Bool:=decide (a.op=b.op)&&(decide (a.n=b.n)&&a.v.eq b.v)
theorem Nd.eq_iff{a b:Nd}:a.eq b=true↔a=b:=by obtain⟨o,n,v⟩:=a;obtain⟨o',n',v'⟩:=b;simp only[Nd.eq,zhp,zhr,Nd.mk.injEq,Val.eq_iff]
open Go
set_option maxRecDepth 100000
def xG:List UInt8:=[116,97,98,108,101]
def zC:List UInt8:=[99,104,101,99,107]
def ZI:List UInt8:=[118,105,101,119]
def xO:List UInt8:=[102,114,111,109]
def zV:List UInt8:=[106,111,105,110]
def Ux:List UInt8:=[111,110]
def zw:List UInt8:=[119,104,101,114,101]
def zF:List UInt8:=[112,105,99,107]
def zh:List UInt8:=[103,114,111,117,112]
def Yv:List UInt8:=[98,111,111,108]
def W7:List UInt8:=[105,110,116]
def Yw:List UInt8:=[116,101,120,116]
def zj:List UInt8:=[110,117,108,108]
def zm:List UInt8:=[117,110,105,113,117,101]
def yb:List UInt8:=[114,101,102]
def zP:List UInt8:=[114,101,115,116,114,105,99,116]
def yi:List UInt8:=[99,97,115,99,97,100,101]
def yj:List UInt8:=[115,101,116,110,117,108,108]
def Zg:List UInt8:=[99,111,117,110,116]
def W8:List UInt8:=[115,117,109]
def W9:List UInt8:=[109,105,110]
def Va:List UInt8:=[109,97,120]
def Zt:List UInt8:=[116,114,117,101]
def xi:List UInt8:=[102,97,108,115,101]
def Ui:List UInt8:=[97,110,100]
def LZ:List UInt8:=[111,114]
def Uj:List UInt8:=[110,111,116]
def QL:List UInt8:=[40]
def TT:List UInt8:=[41]
def T4:List UInt8:=[91]
def Vb:List UInt8:=[93]
def Yx:List UInt8:=[44]
def X4:List UInt8:=[61]
def zb5:List UInt8:=[60]
def zb6:List UInt8:=[43]
def zb7:List UInt8:=[45]
def zb8:List UInt8:=[42]
def WB:List UInt8:=[63]
def kws:List (List UInt8):=[xG,zC,ZI,xO,zV,Ux,zw,zF,zh,Yv,W7,Yw,zj,zm,yb,zP,yi,yj,Zg,W8,W9,Va,Zt,xi,Ui,LZ,Uj]
def isW(s:List UInt8)(t:Tk):Bool:=(t.k !=1)&&(t.t.data.toList==s)
def Xl(l:List UInt8):Bool:=Wj l&&!kws.contains l
structure Cl where
 name : ByteArray
 kind : Int
 nul : Bool
 uni : Bool
 ref : ByteArray
 act : Int
structure Tb where
 name : ByteArray
 cols : List Cl
 checks : List (List Nd)
structure Ag where
 fn : Int
 col : Int
structure Vw where
 name : ByteArray
 frm : ByteArray
 wth : ByteArray
 on0 : Int
 on1 : Int
 whr : List Nd
 pick : List Int
 grp : Bool
 aggs : List Ag
structure Df where
 k : Int
 t : Tb
 v : Vw
def tb0:Tb:=⟨emp,[],[]⟩
def vw0:Vw:=⟨emp,emp,emp,0,0,[],[],false,[]⟩
def yI:List Tk→Option (ByteArray×List Tk)|[]=>none|t::r=>if t.k==0&&Xl t.t.data.toList then some (t.t,r)else none
def Yl:List Tk→Option (Int×List Tk)|[]=>none|t::r=>if t.k==1&&(t.v.k==2&&(decide (0≤t.v.n)&&decide (t.v.n≤99)))then some (t.v.n,r)else none
def zT(s:List UInt8):List Tk→Option (List Tk)|[]=>none|t::r=>if isW s t then some r else none
def zg(s:List UInt8):List Tk→Bool×List Tk|[]=>(false,[])|t::r=>if isW s t then(true,r)else(false,t::r)
def Uk:List (List UInt8)→Int→Tk→Option Int|[],_,_=>none|s::ws,i,t=>if isW s t then some i else Uk ws (i+1) t
def YS(ws:List (List UInt8)):List Tk→Option (Int×List Tk)|[]=>none|t::r=>(Uk ws 0 t).map fun i=>(i,r)
def zeB:List (List UInt8):=[zb6,zb7,zb8,X4,zb5,Ui,LZ,Uj]
def ZJ(n:Nat):List UInt8:=99::Lib.itoa (n:Int)
def Uy(l:List UInt8):Option Nat:=(List.range 100).find? fun n=>l==ZJ n
def Ym:List Tk→Option (Nd×List Tk)|[]=>none|t::r=>if isW zj t then(if(zg WB r).1 then some (⟨10,0,nl⟩,(zg WB r).2)else some (⟨1,0,nl⟩,r))else if isW Zt t then some (⟨1,0,tt⟩,r)else if isW xi t then some (⟨1,0,ff⟩,r)else match Uk zeB 2 t with|some i=>some (⟨i,0,nl⟩,r)|none=>if t.k==1 then some (⟨1,0,t.v⟩,r)else if t.k==0 then(Uy t.t.data.toList).map fun(n:Nat)=>((⟨0,(n:Int),nl⟩:Nd),r)else none
def Y6:Nat→List Tk→Option (List Nd×List Tk)|0,_=>none|_+1,[]=>none|n+1,t::r=>if isW Vb t then some ([],r)else(Ym (t::r)).bind fun p=>(Y6 n p.2).map fun q=>(p.1::q.1,q.2)
def Yy(l:List Tk):Option (List Nd×List Tk):=(zT T4 l).bind fun r=>(Y6 (r.length+1) r).bind fun p=>if p.1.length≤100 then some p else none
def zQ(l:List Tk):Option (Cl×List Tk):=(yI l).bind fun a=>(YS [Yv,W7,Yw] a.2).bind fun k=>if(zg yb (zg zm (zg zj k.2).2).2).1 then(yI (zg yb (zg zm (zg zj k.2).2).2).2).bind fun b=>(YS [zP,yi,yj] b.2).map fun c=>(⟨a.1,k.1+1,(zg zj k.2).1,(zg zm (zg zj k.2).2).1,b.1,c.1⟩,c.2)else some (⟨a.1,k.1+1,(zg zj k.2).1,(zg zm (zg zj k.2).2).1,emp,0⟩,(zg zm (zg zj k.2).2).2)
def Rn{α:Type}(p:List Tk→Option (α×List Tk)):Nat→List Tk→Option (List α×List Tk)|0,_=>none|n+1,l=>(p l).bind fun a=>if(zg Yx a.2).1 then(Rn p n (zg Yx a.2).2).map fun q=>(a.1::q.1,q.2)else some ([a.1],a.2)
def Uf{α:Type}(p:List Tk→Option (α×List Tk))(l:List Tk):Option (List α×List Tk):=Rn p (l.length+1) l
def xj:Nat→List Tk→Option (List (List Nd)×List Tk)|0,_=>none|n+1,l=>if(zg zC l).1 then(Yy (zg zC l).2).bind fun e=>(xj n e.2).map fun q=>(e.1::q.1,q.2)else some ([],l)
def YZ(l:List Tk):Option (Tb×List Tk):=(yI l).bind fun a=>(zT QL a.2).bind fun r=>(Uf zQ r).bind fun c=>(zT TT c.2).bind fun q=>(xj (q.length+1) q).bind fun k=>if c.1.length≤40∧k.1.length≤40 then some (⟨a.1,c.1,k.1⟩,k.2)else none
def Ul(l:List Tk):Option (Ag×List Tk):=(YS [Zg,W8,W9,Va] l).bind fun f=>if f.1=0 then some (⟨0,0⟩,f.2)else(Yl f.2).map fun c=>(⟨f.1,c.1⟩,c.2)
def Xm(l:List Tk):Option ((ByteArray×Int×Int)×List Tk):=if(zg zV l).1 then(yI (zg zV l).2).bind fun a=>(zT Ux a.2).bind fun r=>(Yl r).bind fun x=>(zT X4 x.2).bind fun q=>(Yl q).map fun y=>((a.1,x.1,y.1),y.2)else some ((emp,0,0),l)
def Yd(l:List Tk):Option (List Nd×List Tk):=if(zg zw l).1 then Yy (zg zw l).2 else some ([],l)
def ZK(l:List Tk):Option (List Int×List Tk):=if l.isEmpty||(zg zh l).1 then some ([],l)else Uf Yl l
def Vc(l:List Tk):Option ((Bool×List Ag)×List Tk):=if(zg zh l).1 then(if(zg zh l).2.isEmpty then some ((true,[]),[])else(Uf Ul (zg zh l).2).map fun a=>((true,a.1),a.2))else some ((false,[]),l)
def Um(l:List Tk):Option (Vw×List Tk):=(yI l).bind fun a=>(zT xO a.2).bind fun r=>(yI r).bind fun b=>(Xm b.2).bind fun j=>(Yd j.2).bind fun e=>(zT zF e.2).bind fun q=>(ZK q).bind fun k=>(Vc k.2).bind fun g=>if k.1.length≤40∧g.1.2.length≤40 then some (⟨a.1,b.1,j.1.1,j.1.2.1,j.1.2.2,e.1,k.1,g.1.1,g.1.2⟩,g.2)else none
def Zh(l:List Tk):Option Df:=(YS [xG,ZI] l).bind fun k=>if k.1=0 then(YZ k.2).bind fun t=>if t.2.isEmpty then some ⟨0,t.1,vw0⟩else none else(Um k.2).bind fun v=>if v.2.isEmpty then some ⟨1,tb0,v.1⟩else none
def tW(l:List UInt8):Tk:=⟨0,ba l,nl⟩
def tN(b:ByteArray):Tk:=⟨0,b,nl⟩
def tS(l:List UInt8):Tk:=⟨2,ba l,nl⟩
def ndT(x:Nd):List Tk:=if x.op=10 then[tW zj,tS WB]else if x.op=1 then(if x.v.eq nl then[tW zj]else if x.v.eq tt then[tW Zt]else if x.v.eq ff then[tW xi]else[⟨1,emp,x.v⟩])else if x.op=0 then[tW (ZJ x.n.toNat)]else if x.op=2 then[tS zb6]else if x.op=3 then[tS zb7]else if x.op=4 then[tS zb8]else if x.op=5 then[tS X4]else if x.op=6 then[tS zb5]else if x.op=7 then[tW Ui]else if x.op=8 then[tW LZ]else[tW Uj]
def ZL(e:List Nd):List Tk:=tS T4::(e.flatMap ndT++[tS Vb])
def Zq{α:Type}(f:α→List Tk):List α→List Tk|[]=>[]|a::r=>f a++(if r.isEmpty then[]else tS Yx::Zq f r)
def U6(k:Int):List UInt8:=if k=1 then Yv else if k=2 then W7 else Yw
def zcM(a:Int):List UInt8:=if a=0 then zP else if a=1 then yi else yj
def fnW(f:Int):List UInt8:=if f=0 then Zg else if f=1 then W8 else if f=2 then W9 else Va
def clT(c:Cl):List Tk:=tN c.name::tW (U6 c.kind)::((if c.nul then[tW zj]else[])++((if c.uni then[tW zm]else[])++(if c.ref.toList.isEmpty then[]else[tW yb,tN c.ref,tW (zcM c.act)])))
def tbT(t:Tb):List Tk:=tN t.name::tS QL::(Zq clT t.cols++tS TT::t.checks.flatMap fun e=>tW zC::ZL e)
def agT(a:Ag):List Tk:=tW (fnW a.fn)::(if a.fn=0 then[]else[xU a.col])
def vwT(v:Vw):List Tk:=tN v.name::tW xO::tN v.frm::((if v.wth.toList.isEmpty then[]else[tW zV,tN v.wth,tW Ux,xU v.on0,tS X4,xU v.on1])++((if v.whr.isEmpty then[]else tW zw::ZL v.whr)++tW zF::(Zq (fun n=>[xU n]) v.pick++(if v.grp then tW zh::Zq agT v.aggs else[]))))
def xC(d:Df):List Tk:=if d.k=0 then tW xG::tbT d.t else tW ZI::vwT d.v
def ZD(n:Int):Bool:=decide (0≤n)&&decide (n≤99)
def Xn(x:Nd):Bool:=if x.op=0 then ZD x.n&&x.v.eq nl else if x.op=1 then decide (x.n=0)&&XM x.v else decide (2≤x.op)&&(decide (x.op≤10)&&(decide (x.n=0)&&x.v.eq nl))
def RG(e:List Nd):Bool:=decide (e.length≤100)&&e.all Xn
def XP(c:Cl):Bool:=Xl c.name.data.toList&&(decide (1≤c.kind)&&(decide (c.kind≤3)&&(if c.ref.toList.isEmpty then decide (c.act=0)else Xl c.ref.data.toList&&(decide (0≤c.act)&&decide (c.act≤2)))))
def Xo(t:Tb):Bool:=Xl t.name.data.toList&&(!t.cols.isEmpty&&(decide (t.cols.length≤40)&&(decide (t.checks.length≤40)&&(t.cols.all XP&&t.checks.all RG))))
def YT(a:Ag):Bool:=if a.fn=0 then decide (a.col=0)else decide (0≤a.fn)&&(decide (a.fn≤3)&&ZD a.col)
def ZM(v:Vw):Bool:=Xl v.name.data.toList&&(Xl v.frm.data.toList&&((if v.wth.toList.isEmpty then decide (v.on0=0)&&decide (v.on1=0)else Xl v.wth.data.toList&&(ZD v.on0&&ZD v.on1))&&(RG v.whr&&(decide (v.pick.length≤40)&&(v.pick.all ZD&&(decide (v.aggs.length≤40)&&(v.aggs.all YT&&(v.grp||v.aggs.isEmpty))))))))
def WC(d:Df):Prop:=(d.k=0∧Xo d.t=true∧d.v=vw0)∨(d.k=1∧d.t=tb0∧ZM d.v=true)
theorem xW{s:List UInt8}{t:Tk}{r:List Tk}(h:isW s t=true):zg s (t::r)=(true,r):=by simp[zg,h]
theorem Zi{s:List UInt8}{t:Tk}{r:List Tk}(h:isW s t=false):zg s (t::r)=(false,t::r):=by simp[zg,h]
theorem ZU{s:List UInt8}{t:Tk}{r:List Tk}(h:isW s t=true):zT s (t::r)=some r:=by simp[zT,h]
theorem Zd{b:ByteArray}(h:Xl b.data.toList=true)(r:List Tk):yI (tN b::r)=some (b,r):=by simp[yI,tN,h]
theorem Yz{n:Int}(h:ZD n=true)(r:List Tk):Yl (xU n::r)=some (n,r):=by unfold ZD at h;simp only[zhp,zhr]at h;simp[Yl,xU,iv,h.1,h.2]
theorem zao{k:Int}(h1:1≤k)(h3:k≤3)(r:List Tk):YS [Yv,W7,Yw] (tW (U6 k)::r)=some (k-1,r):=by have:k=1∨k=2∨k=3:=by{omega};rcases this with rfl|rfl|rfl<;>rfl
theorem zcN{k:Int}(h1:0≤k)(h3:k≤2)(r:List Tk):YS [zP,yi,yj] (tW (zcM k)::r)=some (k,r):=by have:k=0∨k=1∨k=2:=by{omega};rcases this with rfl|rfl|rfl<;>rfl
theorem zb9{k:Int}(h1:0≤k)(h3:k≤3)(r:List Tk):YS [Zg,W8,W9,Va] (tW (fnW k)::r)=some (k,r):=by have:k=0∨k=1∨k=2∨k=3:=by{omega};rcases this with rfl|rfl|rfl|rfl<;>rfl
def zf3(t:Tk):Prop:=t=tS Yx∨t=tS TT
theorem Nq{t:Tk}(h:zf3 t):isW zj t=false∧isW zm t=false∧isW yb t=false:=by rcases h with rfl|rfl<;>exact⟨rfl,rfl,rfl⟩
theorem QM{b:ByteArray}(h:b.toList.isEmpty=true):b=emp:=WY h
theorem T5{c:Cl}(h:XP c=true){t:Tk}(ht:zf3 t)(r:List Tk):zQ (clT c++t::r)=some (c,t::r):=by obtain⟨nm,k,nu,un,rf,ac⟩:=c;unfold XP at h;simp only[zhp,zhr]at h;obtain⟨h1,h2,h3,h4⟩:=h;obtain⟨m1,m2,m3⟩:=Nq ht;have n1:isW zj (tW zm)=false:=rfl;have n2:isW zj (tW yb)=false:=rfl;have n3:isW zm (tW yb)=false:=rfl;have y1:isW zj (tW zj)=true:=rfl;have y2:isW zm (tW zm)=true:=rfl;have y3:isW yb (tW yb)=true:=rfl;have hk:k-1+1=k:=by{omega};unfold zQ clT;simp only[zhR];rw[Zd h1];simp only[zhC];rw[zao h2 h3];simp only[zhC,hk];cases hr:rf.toList.isEmpty;·{rw[hr]at h4;simp only[zhA,if_false,zhp,zhr]at h4;cases nu<;>cases un<;>simp[xW,Zi,n1,n2,n3,y1,y2,y3,Zd h4.1,zcN h4.2.1 h4.2.2]};rw[hr]at h4;simp only[if_true,zhr]at h4;have:=QM hr;subst this;subst h4;cases nu<;>cases un<;>simp[xW,Zi,n1,y1,y2,m1,m2,m3]
theorem Vd{α:Type}{p:List Tk→Option (α×List Tk)}{f:α→List Tk}{V:α→Prop}{E:Tk→Prop}(hc:E (tS Yx))(hp:∀a,V a→∀t r,E t→p (f a++t::r)=some (a,t::r)):∀(l:List α)(n:Nat)(t:Tk)(r:List Tk),l≠[]→(∀a∈l,V a)→E t→isW Yx t=false→l.length≤n→Rn p n (Zq f l++t::r)=some (l,t::r)|[],_,_,_,h,_,_,_,_=>absurd rfl h|a::l,0,t,r,_,_,_,_,hn=>by simp at hn|[a],n+1,t,r,_,hV,ht,hm,_=>by rw[Rn,Zq];simp only[List.isEmpty_nil,if_true,zhU];rw[hp a (hV a (by simp)) t r ht];simp[Zi hm]|a::b::l,n+1,t,r,_,hV,ht,hm,hn=>by have ih:=Vd (p:=p) (f:=f) (V:=V) (E:=E) hc hp (b::l) n t r (by simp) (fun x hx=>hV x (zia _ hx)) ht hm (by simp at hn⊢;omega);rw[Rn,Zq];simp only[zin,zhA,if_false,zhK,zhR];rw[hp a (hV a (by simp)) _ _ hc];have hy:isW Yx (tS Yx)=true:=rfl;simp only[zhC,xW hy,if_true,ih,zik]
theorem ZV{α:Type}{p:List Tk→Option (α×List Tk)}{f:α→List Tk}{V:α→Prop}{E:Tk→Prop}(hc:E (tS Yx))(hp:∀a,V a→∀t r,E t→p (f a++t::r)=some (a,t::r))(hp0:∀a,V a→p (f a)=some (a,[])):∀(l:List α)(n:Nat),l≠[]→(∀a∈l,V a)→l.length≤n→Rn p n (Zq f l)=some (l,[])|[],_,h,_,_=>absurd rfl h|a::l,0,_,_,hn=>by simp at hn|[a],n+1,_,hV,_=>by rw[Rn,Zq];simp only[List.isEmpty_nil,if_true,zhU];rw[hp0 a (hV a (by simp))];simp[zg]|a::b::l,n+1,_,hV,hn=>by have ih:=ZV (p:=p) (f:=f) (V:=V) (E:=E) hc hp hp0 (b::l) n (by simp) (fun x hx=>hV x (zia _ hx)) (by simp at hn⊢;omega);rw[Rn,Zq];simp only[zin,zhA,if_false];rw[hp a (hV a (by simp)) _ _ hc];have hy:isW Yx (tS Yx)=true:=rfl;simp only[zhC,xW hy,if_true,ih,zik]
theorem WD{α:Type}{f:α→List Tk}(hf:∀a,1≤(f a).length):∀l:List α,l.length≤(Zq f l).length|[]=>zio _|a::l=>by have ih:=WD hf l;have h1:=hf a;rw[Zq];cases l with|nil=>simpa using h1|cons b l=>simp only[zin,zhA,if_false,zh6,zhS]at ih⊢;omega
theorem zca:∀n,n<100→Uy (ZJ n)=some n:=by decide+kernel
theorem Ve{l:List UInt8}{n:Nat}(h:Uy l=some n):n<100∧l=ZJ n:=by unfold Uy at h;have h1:=List.find?_some h;have h2:=zip h;exact⟨by simpa using h2,by simpa using h1⟩
theorem RH(x:Nd):∃t r,ndT x=t::r∧isW Vb t=false∧isW WB t=false:=by unfold ndT;(repeat' split);all_goals exact⟨_,_,rfl,rfl,rfl⟩
theorem PQ{x:Nd}(h:Xn x=true){t:Tk}(ht:isW WB t=false)(r:List Tk):Ym (ndT x++t::r)=some (x,t::r):=by obtain⟨op,n,v⟩:=x;unfold Xn at h;simp only at h;unfold ndT;simp only;by_cases h0:op=0;·{subst h0;simp only[if_true,zhp,Val.eq_iff]at h;obtain⟨hn,rfl⟩:=h;unfold ZD at hn;simp only[zhp,zhr]at hn;obtain⟨m,rfl⟩:∃m:Nat,n=m:=⟨n.toNat,by omega⟩;have hm:=zca m (by omega);rw[if_neg (by decide),if_neg (by decide),if_pos rfl];simp only[zhR,zhQ,ziq];have e1:isW zj (tW (ZJ m))=false:=rfl;have e2:isW Zt (tW (ZJ m))=false:=rfl;have e3:isW xi (tW (ZJ m))=false:=rfl;have e4:Uk zeB 2 (tW (ZJ m))=none:=rfl;have e5:(tW (ZJ m)).t.data.toList=ZJ m:=rfl;have e6:((tW (ZJ m)).k==1)=false:=rfl;have e7:((tW (ZJ m)).k==0)=true:=rfl;rw[Ym,e1,e2,e3,e4,e5,e6,e7,hm];rfl};rw[if_neg h0]at h;by_cases h1:op=1;·{subst h1;simp only[if_true,zhp,zhr]at h;obtain⟨rfl,hv⟩:=h;rw[if_neg (by decide),if_pos rfl];split;·{rename_i hv2;have:=Val.eq_iff.1 hv2;subst this;have e1:isW zj (tW zj)=true:=rfl;simp[Ym,e1,Zi ht]};split;·{rename_i hv2;have:=Val.eq_iff.1 hv2;subst this;rfl};split;·{rename_i hv2;have:=Val.eq_iff.1 hv2;subst this;rfl};rfl};rw[if_neg h1]at h;simp only[zhp,zhr,Val.eq_iff]at h;obtain⟨h2,h3,rfl,rfl⟩:=h;have:op=2∨op=3∨op=4∨op=5∨op=6∨op=7∨op=8∨op=9∨op=10:=by{omega};rcases this with rfl|rfl|rfl|rfl|rfl|rfl|rfl|rfl|rfl<;>rfl
theorem Vf(r:List Tk):∀(e:List Nd)(n:Nat),(∀x∈e,Xn x=true)→e.length<n→Y6 n (e.flatMap ndT++tS Vb::r)=some (e,r)|[],0,_,hn=>by simp at hn|[],n+1,_,_=>by have e1:isW Vb (tS Vb)=true:=rfl;simp[Y6,e1]|x::e,0,_,hn=>by simp at hn|x::e,n+1,hV,hn=>by have ih:=Vf r e n (fun y hy=>hV y (zia _ hy)) (by simp at hn;omega);obtain⟨t,q,ht,h1,_⟩:=RH x;have hs:∃u q',e.flatMap ndT++tS Vb::r=u::q'∧isW WB u=false:=by{cases e with|nil=>exact⟨_,_,rfl,rfl⟩|cons y e=>obtain⟨u,q',hu,_,h3⟩:=RH y;exact⟨u,q'++(e.flatMap ndT++tS Vb::r),by rw[zir,hu];simp,h3⟩};obtain⟨u,q',hu,h3⟩:=hs;have hst:=PQ (hV x (by simp)) h3 q';rw[←hu]at hst;rw[zir,zhK];rw[ht]at hst⊢;rw[zhR]at hst⊢;rw[Y6,if_neg (by rw[h1];simp),hst];simp only[zhC];rw[ih];rfl
theorem zcO(x:Nd):1≤(ndT x).length:=by obtain⟨t,r,h,_⟩:=RH x;rw[h];simp
theorem Vg{α β:Type}{f:α→List β}(hf:∀a,1≤(f a).length):∀l:List α,l.length≤(l.flatMap f).length|[]=>zio _|a::l=>by have:=Vg hf l;have h1:=hf a;rw[zir,zh6,zhS];omega
theorem Uz{e:List Nd}(h:RG e=true)(r:List Tk):Yy (ZL e++r)=some (e,r):=by unfold RG at h;simp only[zhp,zhr,zhi]at h;have e1:isW T4 (tS T4)=true:=rfl;unfold Yy ZL;simp only[zhR,zhK,zhQ];rw[ZU e1];simp only[zhC];rw[Vf r e _ h.2 (by have:=Vg zcO e;simp only[zh6,zhS];omega)];simp[h.1]
theorem X5:∀(l:List (List Nd))(n:Nat),(∀e∈l,RG e=true)→l.length<n→xj n (l.flatMap fun e=>tW zC::ZL e)=some (l,[])|[],0,_,hn=>by simp at hn|[],n+1,_,_=>rfl|e::l,0,_,hn=>by simp at hn|e::l,n+1,hV,hn=>by have ih:=X5 l n (fun y hy=>hV y (zia _ hy)) (by simp at hn;omega);have e1:isW zC (tW zC)=true:=rfl;rw[zir,zhR,xj,xW e1];simp only[if_true];rw[Uz (hV e (by simp))];simp only[zhC];rw[ih];rfl
theorem zcP(c:Cl):1≤(clT c).length:=by simp[clT]
theorem RI{t:Tb}(h:Xo t=true):YZ (tbT t)=some (t,[]):=by obtain⟨nm,cols,cks⟩:=t;unfold Xo at h;simp only[zhp,zhr,zhi,zhD,zis]at h;obtain⟨h1,h2,h3,h4,h5,h6⟩:=h;have e1:isW QL (tS QL)=true:=rfl;have e2:isW TT (tS TT)=true:=rfl;unfold YZ tbT;simp only;rw[Zd h1];simp only[zhC];rw[ZU e1];simp only[zhC];unfold Uf;rw[Vd (p:=zQ) (f:=clT) (V:=fun c=>XP c=true) (E:=zf3) (.inl rfl) (fun a ha t r ht=>T5 ha ht r) cols _ _ _ h2 h5 (.inr rfl) rfl (by have:=WD zcP cols;simp only[zh6,zhS];omega)];simp only[zhC];rw[ZU e2];simp only[zhC];rw[X5 cks _ h6 (by have:=Vg (f:=fun e=>tW zC::ZL e) (fun a=>by simp) cks;omega)];simp[h3,h4]
theorem T6{a:Ag}(h:YT a=true)(r:List Tk):Ul (agT a++r)=some (a,r):=by obtain⟨f,c⟩:=a;unfold YT at h;simp only at h;unfold Ul agT;simp only[zhR];by_cases h0:f=0;·{subst h0;simp only[if_true,zhr]at h;subst h;rw[zb9 (by decide) (by decide)];rfl};rw[if_neg h0]at h⊢;simp only[zhp,zhr]at h;rw[zb9 h.1 h.2.1];simp only[zhC,zhR,zhQ];rw[if_neg h0,Yz h.2.2];rfl
theorem zcQ(a:Ag):1≤(agT a).length:=by simp[agT]
theorem PR{v:Vw}(h:(if v.wth.toList.isEmpty then decide (v.on0=0)&&decide (v.on1=0)else Xl v.wth.data.toList&&(ZD v.on0&&ZD v.on1))=true){t:Tk}(ht:isW zV t=false)(r:List Tk):Xm ((if v.wth.toList.isEmpty then[]else[tW zV,tN v.wth,tW Ux,xU v.on0,tS X4,xU v.on1])++t::r)=some ((v.wth,v.on0,v.on1),t::r):=by obtain⟨nm,fr,wt,o0,o1,wh,pk,g,ag⟩:=v;simp only at*;cases hw:wt.toList.isEmpty;·{rw[hw]at h;simp only[zhA,if_false,zhp]at h;have e1:isW zV (tW zV)=true:=rfl;have e2:isW Ux (tW Ux)=true:=rfl;have e3:isW X4 (tS X4)=true:=rfl;unfold Xm;simp only[zhA,if_false,zhR,zhQ];rw[xW e1];simp only[if_true];rw[Zd h.1];simp only[zhC];rw[ZU e2];simp only[zhC];rw[Yz h.2.1];simp only[zhC];rw[ZU e3];simp only[zhC];rw[Yz h.2.2];rfl};rw[hw]at h;simp only[if_true,zhp,zhr]at h;have:=QM hw;subst this;obtain⟨rfl,rfl⟩:=h;unfold Xm;simp[Zi ht]
theorem RJ{e:List Nd}(h:RG e=true)(r:List Tk):Yd ((if e.isEmpty then[]else tW zw::ZL e)++tW zF::r)=some (e,tW zF::r):=by unfold Yd;cases e with|nil=>have e1:isW zw (tW zF)=false:=rfl;simp[Zi e1]|cons x e=>have e1:isW zw (tW zw)=true:=rfl;simp only[zin,zhA,if_false,zhR];rw[xW e1];simp only[if_true];exact Uz h _
def zf4(t:Tk):Prop:=t=tS Yx∨t=tW zh
def QN(g:Bool)(ag:List Ag):List Tk:=if g then tW zh::Zq agT ag else[]
theorem RK{pk:List Int}(h:∀n∈pk,ZD n=true)(g:Bool)(ag:List Ag):ZK (Zq (fun n=>[xU n]) pk++QN g ag)=some (pk,QN g ag):=by have hp:∀a,ZD a=true→∀t r,zf4 t→Yl ([xU a]++t::r)=some (a,t::r):=fun a ha t r _=>Yz ha _;have hp0:∀a,ZD a=true→Yl [xU a]=some (a,[]):=fun a ha=>Yz ha [];have hl:pk.length≤(Zq (fun n=>[xU n]) pk).length:=WD (fun _=>by simp) pk;have eg:isW zh (tW zh)=true:=rfl;cases pk with|nil=>unfold ZK QN Zq;cases g;·{rfl};simp only[if_true,zhQ];rw[xW eg];simp|cons n pk=>have hh:∃q,Zq (fun n=>[xU n]) (n::pk)=xU n::q:=⟨_,rfl⟩;obtain⟨q,hq⟩:=hh;have em:isW zh (xU n)=false:=rfl;have h0:(((xU n::q)++QN g ag).isEmpty||(zg zh ((xU n::q)++QN g ag)).1)=false:=by{rw[zhR,Zi em];rfl};unfold ZK;rw[hq,h0];simp only[zhA,if_false];rw[←hq];unfold Uf QN;cases g;·{simp only[zhA,if_false,zhU];exact ZV (p:=Yl) (f:=fun n=>[xU n]) (V:=fun n=>ZD n=true) (E:=zf4) (.inl rfl) hp hp0 (n::pk) _ (by simp) h (by omega)};simp only[if_true];exact Vd (p:=Yl) (f:=fun n=>[xU n]) (V:=fun n=>ZD n=true) (E:=zf4) (.inl rfl) hp (n::pk) _ _ _ (by simp) h (.inr rfl) rfl (by simp only[zh6,zhS]at hl⊢;omega)
theorem PS{g:Bool}{ag:List Ag}(h:∀a∈ag,YT a=true)(hg:(g||ag.isEmpty)=true):Vc (QN g ag)=some ((g,ag),[]):=by have eg:isW zh (tW zh)=true:=rfl;unfold Vc QN;cases g;·{simp only[Bool.false_or,List.isEmpty_iff]at hg;subst hg;rfl};simp only[if_true];rw[xW eg];cases ag with|nil=>rfl|cons a ag=>have hh:∃t q,Zq agT (a::ag)=t::q:=⟨_,_,rfl⟩;obtain⟨t,q,hq⟩:=hh;have hl:=WD zcQ (a::ag);simp only[if_true];rw[hq];simp only[zin,zhA,if_false];rw[←hq];unfold Uf;rw[ZV (p:=Ul) (f:=agT) (V:=fun a=>YT a=true) (E:=fun _=>True) trivial (fun a ha t r _=>T6 ha _) (fun a ha=>by have:=T6 ha [];rwa[zhU]at this) (a::ag) _ (by simp) h (by omega)];rfl
theorem PT{v:Vw}(h:ZM v=true):Um (vwT v)=some (v,[]):=by unfold ZM at h;simp only[zhp,zhr,zhi]at h;obtain⟨h1,h2,h3,h4,h5,h6,h7,h8,h9⟩:=h;have e1:isW xO (tW xO)=true:=rfl;have e2:isW zF (tW zF)=true:=rfl;unfold Um vwT;rw[Zd h1];simp only[zhC];rw[ZU e1];simp only[zhC];rw[Zd h2];simp only[zhC];have hx:∃t r,(if v.whr.isEmpty then[]else tW zw::ZL v.whr)++tW zF::(Zq (fun n=>[xU n]) v.pick++QN v.grp v.aggs)=t::r∧isW zV t=false:=by{cases v.whr with|nil=>exact⟨_,_,rfl,rfl⟩|cons x e=>exact⟨_,_,rfl,rfl⟩};obtain⟨t,r,hx,ht⟩:=hx;have hg:(if v.grp=true then tW zh::Zq agT v.aggs else[])=QN v.grp v.aggs:=rfl;rw[hg,hx,PR h3 ht,←hx];simp only[zhC];rw[RJ h4];simp only[zhC];rw[ZU e2];simp only[zhC];rw[RK h6];simp only[zhC];rw[PS h8 (by simpa using h9)];simp[h5,h7]
theorem PU{d:Df}(h:WC d):Zh (xC d)=some d:=by obtain⟨k,t,v⟩:=d;rcases h with⟨rfl,h1,rfl⟩|⟨rfl,rfl,h1⟩;·{have e:YS [xG,ZI] (tW xG::tbT t)=some (0,tbT t):=rfl;unfold Zh xC;simp only[if_true];rw[e];simp only[zhC,if_true];rw[RI h1];rfl};have e:YS [xG,ZI] (tW ZI::vwT v)=some (1,vwT v):=rfl;unfold Zh xC;have n1:¬(1:Int)=0:=by{decide};simp only[if_neg n1];rw[e];simp only[zhC,if_neg n1];rw[PT h1];rfl
open Go
structure En where
 n : ByteArray
 tb : Bool
 ks : List Int
 ns : List Bool
def YU(d:Df):ByteArray:=if d.k=0 then d.t.name else d.v.name
def zJ(g:List En)(n:ByteArray):Option En:=g.find? fun e=>decide (e.n=n)
def ksE(g:List En)(n:ByteArray):List Int:=match zJ g n with|some e=>e.ks|none=>[]
def zG(g:List En)(v:Vw):List Int:=ksE g v.frm++(if v.wth.toList.isEmpty then[]else ksE g v.wth)
def zfS(all:List Int)(a:Ag):Int:=if 2≤a.fn then all.getD a.col.toNat 0 else 2
def xE(g:List En)(d:Df):List Int:=if d.k=0 then d.t.cols.map (·.kind)else d.v.pick.map (fun n=>(zG g d.v).getD n.toNat 0)++d.v.aggs.map (zfS (zG g d.v))
def Vh(d:Df):List Bool:=if d.k=0 then d.t.cols.map (·.nul)else List.replicate (d.v.pick.length+d.v.aggs.length) true
def enD(g:List En)(d:Df):En:=⟨YU d,decide (d.k=0),xE g d,Vh d⟩
def X6:List En→List Df→List En|g,[]=>g|g,d::r=>X6 (g++[enD g d]) r
def Y0:List Cl→Bool|[]=>false|c::r=>r.any (fun x=>decide (x.name=c.name))||Y0 r
def Nr:List Cl→Bool|[]=>true|c::_=>c.nul||(decide (c.kind=1)||!c.ref.toList.isEmpty)
def Vi(t:Tb):Bool:=Y0 t.cols||Nr t.cols
def zgL(g:List En)(t:Tb)(r:ByteArray):Option Int:=if r=t.name then t.cols.head?.map (·.kind)else(zJ g r).bind fun e=>if e.tb then e.ks.head? else none
def UA(g:List En)(t:Tb)(c:Cl):Bool:=!c.ref.toList.isEmpty&&match zgL g t c.ref with|none=>true|some k=>decide (c.kind≠k)||(decide (c.act=2)&&!c.nul)
def Ye(ty:List Nd→List Int→Int×Int)(e:List Nd)(cols:List Int):Bool:=decide ((ty e cols).2=0)&&decide ((ty e cols).1<2)
def Y7(g:List En)(v:Vw):Bool:=!v.wth.toList.isEmpty&&(decide (v.on0≥(ksE g v.frm).length)||(decide ((ksE g v.frm).length+v.on1≥(zG g v).length)||decide ((zG g v).getD v.on0.toNat 0≠(zG g v).getD ((ksE g v.frm).length+v.on1.toNat) 0)))
def Vj(all:List Int)(a:Ag):Bool:=decide (a.fn≠0)&&(decide (a.col≥all.length)||(decide (a.fn=1)&&decide (all.getD a.col.toNat 0≠2)))
def Y8(ty:List Nd→List Int→Int×Int)(g:List En)(v:Vw):Bool:=(zJ g v.frm).isNone||((!v.wth.toList.isEmpty&&(zJ g v.wth).isNone)||(Y7 g v||((!v.whr.isEmpty&&!Ye ty v.whr (zG g v))||(v.pick.any (fun n=>decide (n≥(zG g v).length))||(v.aggs.any (Vj (zG g v))||((!v.grp&&!v.aggs.isEmpty)||(decide (v.pick.length+v.aggs.length=0)||decide (40<v.pick.length+v.aggs.length))))))))
def yl(ok:Df→Bool)(ty:List Nd→List Int→Int×Int)(g:List En)(d:Df):Int:=if ok d=false then 1 else if 20≤g.length then 95 else if(zJ g (YU d)).isSome then 90 else if d.k=0 then(if Vi d.t then 91 else if d.t.cols.any (UA g d.t)then 92 else if d.t.checks.any (fun e=>!Ye ty e (d.t.cols.map (·.kind)))then 93 else 0)else if Y8 ty g d.v then 94 else 0
def QO(ok:Df→Bool)(ty:List Nd→List Int→Int×Int):List En→List Df→Bool|_,[]=>true|g,d::r=>decide (yl ok ty g d=0)&&QO ok ty (g++[enD g d]) r
def X7(ok:Df→Bool)(ty:List Nd→List Int→Int×Int)(c:List Df):Bool:=QO ok ty [] c
variable {ok : Df → Bool} {ty : List Nd → List Int → Int × Int}
theorem U7:∀(c:List Df)(g:List En),(X6 g c).length=g.length+c.length|[],_=>rfl|d::c,g=>by rw[X6,U7 c];simp only[zh6,zhS,zid];omega
theorem QP:∀(a b:List Df)(g:List En),X6 g (a++b)=X6 (X6 g a) b|[],_,_=>rfl|d::a,b,g=>by rw[zhR,X6,X6,QP a b]
theorem WE:∀(a b:List Df)(g:List En),QO ok ty g (a++b)=(QO ok ty g a&&QO ok ty (X6 g a) b)|[],_,_=>rfl|d::a,b,g=>by rw[zhR,QO,QO,X6,WE a b,Bool.and_assoc]
theorem zap{c:List Df}(h:X7 ok ty c=true)(k:Nat):X7 ok ty (c.take k)=true:=by unfold X7 at*;rw[←zit k c,WE,zhp]at h;exact h.1
theorem Ns{c:List Df}(h:X7 ok ty c=true){k:Nat}{d:Df}(hd:c[k]?=some d):yl ok ty (X6 [] (c.take k)) d=0:=by have h1:=zap h (k+1);unfold X7 at h1;rw[ziu,hd,WE,zhp]at h1;have:=h1.2;simp only[Option.toList_some,QO,Bool.and_true,zhr]at this;exact this
theorem zcR{c:List Df}{d:Df}:X7 ok ty (c++[d])=(X7 ok ty c&&decide (yl ok ty (X6 [] c) d=0)):=by unfold X7;rw[WE];simp[QO]
structure zgM (ok : Df → Bool) (ty : List Nd → List Int → Int × Int) (g : List En) (d : Df) : Prop where
 ok : ok d = true
 len : g.length < 20
 new : zJ g (YU d) = none
 tab : d.k = 0 → Vi d.t = false ∧ d.t.cols.any (UA g d.t) = false ∧ d.t.checks.any (fun e => !Ye ty e (d.t.cols.map (·.kind))) = false
 view : d.k ≠ 0 → Y8 ty g d.v = false
theorem XQ{g:List En}{d:Df}:yl ok ty g d=0↔zgM ok ty g d:=by constructor;·{intro h;unfold yl at h;split at h;·{cases h};rename_i h1;split at h;·{cases h};rename_i h2;split at h;·{cases h};rename_i h3;refine⟨by simpa using h1,by omega,by simpa using h3,fun hk=>?_,fun hk=>?_⟩;·{rw[if_pos hk]at h;split at h;·{cases h};rename_i h4;split at h;·{cases h};rename_i h5;split at h;·{cases h};rename_i h6;exact⟨by simpa using h4,by simpa using h5,by simpa using h6⟩};rw[if_neg hk]at h;split at h;·{cases h};rename_i h4;simpa using h4};rintro⟨h1,h2,h3,h4,h5⟩;unfold yl;rw[if_neg (by simp[h1]),if_neg (by omega),if_neg (by simp[h3])];by_cases hk:d.k=0;·{obtain⟨a,b,c⟩:=h4 hk;rw[if_pos hk,a,b,c];rfl};rw[if_neg hk,h5 hk];rfl
theorem Nt(g h:List En)(n:ByteArray):zJ (g++h) n=match zJ g n with|some e=>some e|none=>zJ h n:=by unfold zJ;rw[List.find?_append];cases g.find? fun e=>decide (e.n=n)<;>rfl
structure YV (e : En) : Prop where
 ne : 1 ≤ e.ks.length
 le : e.ks.length ≤ 40
 kd : ∀ k ∈ e.ks, 1 ≤ k ∧ k ≤ 3
 nl : e.ns.length = e.ks.length
theorem QQ{g:List En}(h:∀e∈g,YV e)(n:ByteArray):∀k∈ksE g n,1≤k∧k≤3:=by intro k hk;unfold ksE at hk;split at hk;·{rename_i e he;exact(h e (zip he)).kd k hk};cases hk
theorem YB{g:List En}(h:∀e∈g,YV e)(v:Vw):∀k∈zG g v,1≤k∧k≤3:=by intro k hk;unfold zG at hk;rcases zhN.1 hk with hk|hk;·{exact QQ h _ k hk};split at hk;·{cases hk};exact QQ h _ k hk
theorem Vk{l:List Int}(h:∀k∈l,1≤k∧k≤3){n:Int}(h0:0≤n)(hn:n<l.length):1≤l.getD n.toNat 0∧l.getD n.toNat 0≤3:=by have hlt:n.toNat<l.length:=by{omega};rw[ziv,ziw hlt];exact h _ (List.getElem_mem hlt)
structure zaq (ty : List Nd → List Int → Int × Int) (g : List En) (v : Vw) : Prop where
 frm : (zJ g v.frm).isSome = true
 wth : v.wth.toList.isEmpty = false → (zJ g v.wth).isSome = true
 join : Y7 g v = false
 whr : v.whr.isEmpty = false → Ye ty v.whr (zG g v) = true
 pick : ∀ n ∈ v.pick, n < (zG g v).length
 aggs : ∀ a ∈ v.aggs, Vj (zG g v) a = false
 grp : v.grp = false → v.aggs = []
 few : 1 ≤ v.pick.length + v.aggs.length ∧ v.pick.length + v.aggs.length ≤ 40
theorem Vl{g:List En}{v:Vw}:Y8 ty g v=false↔zaq ty g v:=by unfold Y8;simp only[zix,ziy,ziz,ziA,zhr,ziB,Option.isNone_eq_false_iff];constructor;·{rintro⟨h1,h2,h3,h4,h5,h6,h7,h8,h9⟩;refine⟨by simpa using h1,fun hw=>?_,h3,fun hw=>?_,fun n hn=>by have:=h5 n hn;omega,fun a ha=>by simpa using h6 a ha,fun hg=>?_,by omega⟩;·{rcases h2 with h|h;·{rw[hw]at h;cases h};simpa using h};·{rcases h4 with h|h;·{rw[hw]at h;cases h};exact h};rcases h7 with h|h;·{rw[hg]at h;cases h};simpa using h};rintro⟨h1,h2,h3,h4,h5,h6,h7,h8⟩;refine⟨by simpa using h1,?_,h3,?_,fun n hn=>by have:=h5 n hn;omega,fun a ha=>by simpa using h6 a ha,?_,by omega,by omega⟩;·{cases hw:v.wth.toList.isEmpty;·{right;simpa using h2 hw};left;rfl};·{cases hw:v.whr.isEmpty;·{right;exact h4 hw};left;rfl};cases hg:v.grp;·{right;rw[h7 hg];rfl};left;rfl
theorem Nu{d:Df}(h:WC d)(hk:d.k=0):Xo d.t=true:=by rcases h with⟨_,h,_⟩|⟨h,_⟩;·{exact h};omega
theorem Nv{d:Df}(h:WC d)(hk:d.k≠0):d.k=1∧ZM d.v=true:=by rcases h with⟨h,_⟩|⟨h,_,h2⟩;·{exact absurd h hk};exact⟨h,h2⟩
theorem UB(g:List En)(d:Df):(xE g d).length=(Vh d).length:=by unfold xE Vh;split<;>simp
theorem zar{g:List En}{d:Df}(hm:WC d)(hf:zgM ok ty g d)(hg:∀e∈g,YV e):YV (enD g d):=by by_cases hk:d.k=0;·{have ht:=Nu hm hk;unfold Xo at ht;simp only[zhp,zhi,zhr,zhD,zis]at ht;obtain⟨_,h2,h3,_,h5,_⟩:=ht;have e:xE g d=d.t.cols.map (·.kind):=by{unfold xE;rw[if_pos hk]};refine⟨?_,?_,?_,(UB g d).symm⟩;·{show 1≤(xE g d).length;rw[e,zif];exact ziC.2 h2};·{show(xE g d).length≤40;rw[e,zif];exact h3};intro k hk';have hk':k∈xE g d:=hk';rw[e]at hk';obtain⟨c,hc,rfl⟩:=zhu.1 hk';have:=h5 c hc;unfold XP at this;simp only[zhp,zhr]at this;exact⟨this.2.1,this.2.2.1⟩};obtain⟨_,hv⟩:=Nv hm hk;have hb:=Vl.1 (hf.view hk);unfold ZM at hv;simp only[zhp,zhi,zhr]at hv;obtain⟨_,_,_,_,_,h6,_,h8,_⟩:=hv;have e:xE g d=d.v.pick.map (fun n=>(zG g d.v).getD n.toNat 0)++d.v.aggs.map (zfS (zG g d.v)):=by{unfold xE;rw[if_neg hk]};have hj:=YB hg d.v;refine⟨?_,?_,?_,(UB g d).symm⟩;·{show 1≤(xE g d).length;rw[e,zh6,zif,zif];exact hb.few.1};·{show(xE g d).length≤40;rw[e,zh6,zif,zif];exact hb.few.2};intro k hk';have hk':k∈xE g d:=hk';rw[e]at hk';rcases zhN.1 hk' with h|h;·{obtain⟨n,hn,rfl⟩:=zhu.1 h;have h0:=h6 n hn;unfold ZD at h0;simp only[zhp,zhr]at h0;exact Vk hj h0.1 (hb.pick n hn)};obtain⟨a,ha,rfl⟩:=zhu.1 h;unfold zfS;split;·{rename_i h2;have ham:=h8 a ha;unfold YT at ham;rw[if_neg (by omega)]at ham;unfold ZD at ham;simp only[zhp,zhr]at ham;have hab:=hb.aggs a ha;unfold Vj at hab;rw[ziy]at hab;rcases hab with hab|hab;·{simp at hab;omega};simp only[zix,ziB]at hab;exact Vk hj ham.2.2.1 (by have:=hab.1;omega)};omega
theorem T7(hok:∀d,ok d=true→WC d):∀(c:List Df)(g:List En),QO ok ty g c=true→(∀e∈g,YV e)→∀e∈X6 g c,YV e|[],_,_,hg=>hg|d::c,g,h,hg=>by rw[QO,zhp,zhr]at h;have hf:=XQ.1 h.1;rw[X6];refine T7 hok c _ h.2 fun e he=>?_;rcases zhN.1 he with he|he;·{exact hg e he};obtain rfl:=zib.1 he;exact zar (hok d hf.ok) hf hg
theorem zas(hok:∀d,ok d=true→WC d){c:List Df}(h:X7 ok ty c=true):∀e∈X6 [] c,YV e:=T7 hok c [] h fun e he=>by cases he
theorem zcS(c:List Df)(d:Df):X6 [] (c++[d])=X6 [] c++[enD (X6 [] c) d]:=by rw[QP];rfl
theorem Y9{g:List En}{d:Df}(hk:d.k=0):xE g d=d.t.cols.map (·.kind)∧Vh d=d.t.cols.map (·.nul):=by unfold xE Vh;rw[if_pos hk,if_pos hk];exact⟨rfl,rfl⟩
open Go
def kAt(ks:List Int)(n:Int):Int:=if n<0∨(ks.length:Int)≤n then 0 else ks.getD n.toNat 0
def YW(fk:List Int)(a:Ag):Int:=if a.fn=0 then 2 else if a.fn=1∧kAt fk a.col≠2 then 0 else kAt fk a.col
def YX(v:Vw)(fk:List Int):List Int:=v.pick.map (kAt fk)++v.aggs.map (YW fk)
def X8(g:List En)(v:Vw):Option (List Int):=match zJ g v.frm with|none=>none|some f=>if v.wth.toList.isEmpty then some f.ks else match zJ g v.wth with|none=>none|some e=>if kAt f.ks v.on0=0∨kAt f.ks v.on0≠kAt e.ks v.on1 then none else some (f.ks++e.ks)
def Nw(ty:List Nd→List Int→Int×Int)(v:Vw)(fk:List Int):Bool:=(!v.whr.isEmpty&&!Ye ty v.whr fk)||(!v.aggs.isEmpty&&!v.grp)
def OZ(ks:List Int):Bool:=decide (ks.length=0)||(decide (40<ks.length)||ks.contains 0)
def Yf(ty:List Nd→List Int→Int×Int)(g:List En)(v:Vw):Option En:=match X8 g v with|none=>none|some fk=>if Nw ty v fk then none else if OZ (YX v fk)then none else some ⟨v.name,false,YX v fk,List.replicate (YX v fk).length true⟩
theorem QR{ks:List Int}{n:Int}(h:kAt ks n≠0):0≤n∧n<ks.length∧kAt ks n=ks.getD n.toNat 0:=by unfold kAt at*;split at h;·{exact absurd rfl h};rename_i hn;rw[if_neg hn];exact⟨by omega,by omega,rfl⟩
theorem YC{ks:List Int}{n:Int}(h0:0≤n)(h:n<ks.length):kAt ks n=ks.getD n.toNat 0:=by unfold kAt;rw[if_neg (by omega)]
theorem U8{ks:List Int}(hk:∀k∈ks,1≤k∧k≤3){n:Int}(h0:0≤n)(h:n<ks.length):kAt ks n≠0:=by rw[YC h0 h];have:=Vk hk h0 h;omega
theorem WF{g:List En}{n:ByteArray}{e:En}(h:zJ g n=some e):ksE g n=e.ks:=by unfold ksE;rw[h]
theorem RL{g:List En}{v:Vw}{f:En}(h:zJ g v.frm=some f)(hw:v.wth.toList.isEmpty=true):zG g v=f.ks:=by unfold zG;rw[WF h,if_pos hw,zhU]
theorem Vn{g:List En}{v:Vw}{f e:En}(h:zJ g v.frm=some f)(hw:v.wth.toList.isEmpty=false)(h2:zJ g v.wth=some e):zG g v=f.ks++e.ks:=by unfold zG;rw[WF h,WF h2,if_neg (by simp[hw])]
theorem T8{a b:List Int}{n:Nat}(h:n<a.length):(a++b).getD n 0=a.getD n 0:=by rw[ziv,ziv,ziD h]
theorem UC{a b:List Int}{n:Nat}:(a++b).getD (a.length+n) 0=b.getD n 0:=by rw[ziv,ziv,ziE (by omega),Nat.add_sub_cancel_left]
theorem zcb{g:List En}(hg:∀e∈g,YV e){v:Vw}(hv:ZM v=true){fk:List Int}:X8 g v=some fk↔((zJ g v.frm).isSome=true∧(v.wth.toList.isEmpty=false→(zJ g v.wth).isSome=true)∧Y7 g v=false)∧fk=zG g v:=by unfold ZM at hv;simp only[zhp]at hv;have hon:=hv.2.2.1;unfold X8;cases hf:zJ g v.frm with|none=>simp|some f=>have gf:=hg f (zip hf);cases hw:v.wth.toList.isEmpty with|true=>simp only[if_true];rw[RL hf hw];have hjb:Y7 g v=false:=by{unfold Y7;rw[hw];rfl};constructor;·{intro h;exact⟨⟨rfl,(fun h=>by cases h),hjb⟩,(ziF h).symm⟩};rintro⟨_,rfl⟩;rfl|false=>rw[hw]at hon;simp only[zhA,if_false,zhp,ZD,zhr]at hon⊢;obtain⟨_,⟨o1,_⟩,o2,_⟩:=hon;cases h2:zJ g v.wth with|none=>simp|some e=>have ge:=hg e (zip h2);rw[Vn hf hw h2];have hjb:Y7 g v=false↔(v.on0<f.ks.length∧v.on1<e.ks.length∧kAt f.ks v.on0=kAt e.ks v.on1):=by{unfold Y7;rw[hw,WF hf,Vn hf hw h2];simp only[zhy,ziG,zix,ziB,zh6,Decidable.not_not];constructor;·{rintro⟨a,b,c⟩;have a':v.on0<f.ks.length:=by{omega};have b':v.on1<e.ks.length:=by{omega};rw[T8 (by omega),UC]at c;exact⟨a',b',by rw[YC o1 a',YC o2 b',c]⟩};rintro⟨a,b,c⟩;refine⟨by omega,by omega,?_⟩;rw[T8 (by omega),UC,←YC o1 a,←YC o2 b,c]};simp only[Option.isSome_some,true_and,forall_const,hjb];by_cases hc:kAt f.ks v.on0=0∨kAt f.ks v.on0≠kAt e.ks v.on1;·{rw[if_pos hc];constructor;·{intro h;cases h};rintro⟨⟨a,b,c⟩,_⟩;rcases hc with hc|hc;·{exact absurd hc (U8 gf.kd o1 a)};exact absurd c hc};rw[if_neg hc];have h0:kAt f.ks v.on0≠0:=fun h=>hc (.inl h);have h1:kAt f.ks v.on0=kAt e.ks v.on1:=Decidable.not_not.1 fun h=>hc (.inr h);have a:=QR h0;rw[h1]at h0;have b:=QR h0;constructor;·{intro h;exact⟨⟨a.2.1,b.2.1,h1⟩,(ziF h).symm⟩};rintro⟨_,rfl⟩;rfl
theorem zeC{v:Vw}(hv:ZM v=true){fk:List Int}(hk:∀k∈fk,1≤k∧k≤3):(YX v fk).contains 0=false↔((∀n∈v.pick,n<fk.length)∧∀a∈v.aggs,Vj fk a=false):=by unfold ZM at hv;simp only[zhp,zhi,ZD,zhr]at hv;have hp:=hv.2.2.2.2.2.1;have ha:=hv.2.2.2.2.2.2.2.1;have hone:∀a∈v.aggs,YW fk a≠0↔Vj fk a=false:=by{intro a ham;have hm:=ha a ham;unfold YT at hm;unfold YW Vj;by_cases h0:a.fn=0;·{rw[if_pos h0];simp[h0]};rw[if_neg h0]at hm⊢;simp only[ZD,zhp,zhr]at hm;obtain⟨m1,m2,m3,m4⟩:=hm;simp only[h0,ne_eq,not_false_eq_true,decide_true,ziG,zix,ziB,ziy];constructor;·{intro h;have hk0:kAt fk a.col≠0:=by{intro hz;rw[hz]at h;split at h<;>exact h rfl};have hi:=QR hk0;refine⟨by omega,?_⟩;by_cases h1:a.fn=1;·{right;by_cases h2:kAt fk a.col=2;·{rw[←hi.2.2,h2];simp};rw[if_pos ⟨h1,h2⟩]at h;exact absurd rfl h};left;exact h1};rintro⟨h1,h2⟩;have hl:a.col<fk.length:=by{omega};have hk2:=U8 hk m3 hl;rw[←YC m3 hl]at h2;rw[if_neg];·{exact hk2};rintro⟨h3,h4⟩;rcases h2 with h2|h2;·{exact h2 h3};exact h2 h4};rw[←ziH,zhx];unfold YX;rw[zhN,zhu,zhu];constructor;·{intro h;refine⟨fun n hn=>?_,fun a ham=>(hone a ham).1 fun hz=>h (.inr ⟨a,ham,hz⟩)⟩;exact(QR (fun hz=>h (.inl ⟨n,hn,hz⟩))).2.1};rintro⟨h1,h2⟩(⟨n,hn,hz⟩|⟨a,ham,hz⟩);·{exact U8 hk (hp n hn).1 (h1 n hn) hz};exact(hone a ham).2 (h2 a ham) hz
variable {ty : List Nd → List Int → Int × Int}
theorem Vo{g:List En}{d:Df}(hv:ZM d.v=true)(hk:d.k≠0)(h:zaq ty g d.v)(hg:∀e∈g,YV e):YX d.v (zG g d.v)=xE g d:=by have hj:=YB hg d.v;unfold ZM at hv;simp only[zhp,zhi,ZD,zhr]at hv;have hp:=hv.2.2.2.2.2.1;have ha:=hv.2.2.2.2.2.2.2.1;unfold YX xE;rw[if_neg hk];congr 1;·{exact zhk fun n hn=>YC (hp n hn).1 (h.pick n hn)};refine zhk fun a ham=>?_;have hm:=ha a ham;have hb:=h.aggs a ham;unfold YT at hm;unfold Vj at hb;unfold YW zfS;by_cases h0:a.fn=0;·{have h3:¬2≤a.fn:=by{omega};rw[if_pos h0,if_neg h3]};rw[if_neg h0]at hm⊢;simp only[ZD,zhp,zhr]at hm;obtain⟨m1,m2,m3,m4⟩:=hm;simp only[h0,ne_eq,not_false_eq_true,decide_true,ziG,zix,ziB,ziy]at hb;have hl:a.col<(zG g d.v).length:=by{omega};rw[YC m3 hl];by_cases h1:a.fn=1;·{have h3:¬2≤a.fn:=by{omega};rw[if_neg h3];have h2:(zG g d.v).getD a.col.toNat 0=2:=by{rcases hb.2 with h|h;·{exact absurd h1 h};exact Decidable.not_not.1 h};rw[h2];simp};have h3:2≤a.fn:=by{omega};have h4:¬(a.fn=1∧(zG g d.v).getD a.col.toNat 0≠2):=fun h=>h1 h.1;rw[if_pos h3,if_neg h4]
theorem zeD{g:List En}(hg:∀e∈g,YV e){d:Df}(hv:ZM d.v=true)(hk:d.k≠0):Yf ty g d.v=if Y8 ty g d.v=true then none else some (enD g d):=by have hj:=YB hg d.v;have key:∀e,Yf ty g d.v=some e↔zaq ty g d.v∧e=enD g d:=by{intro e;unfold Yf;constructor;·{intro h;split at h;·{cases h};rename_i fk hfk;obtain⟨⟨a1,a2,a3⟩,rfl⟩:=(zcb hg hv).1 hfk;split at h;·{cases h};rename_i hask;split at h;·{cases h};rename_i hks;unfold Nw at hask;simp only[ziH,zix,ziy,ziz]at hask;unfold OZ at hks;simp only[ziH,zix,ziB]at hks;obtain⟨k1,k2,k3⟩:=hks;have hr:=(zeC hv hj).1 k3;have hl:(YX d.v (zG g d.v)).length=d.v.pick.length+d.v.aggs.length:=by{unfold YX;simp};have hF:zaq ty g d.v:=by{refine⟨a1,a2,a3,fun hw=>?_,hr.1,hr.2,fun hgp=>?_,by omega⟩;·{rcases hask.1 with h|h;·{rw[hw]at h;cases h};exact h};rcases hask.2 with h|h;·{simpa using h};rw[hgp]at h;cases h};refine⟨hF,?_⟩;rw[←ziF h];unfold enD YU Vh;rw[if_neg hk,if_neg hk,←Vo hv hk hF hg,hl];simp[hk]};rintro⟨hF,rfl⟩;rw[(zcb hg hv).2 ⟨⟨hF.frm,hF.wth,hF.join⟩,rfl⟩];have hask:Nw ty d.v (zG g d.v)=false:=by{unfold Nw;simp only[zix,ziy,ziz];refine⟨?_,?_⟩;·{cases hw:d.v.whr.isEmpty;·{right;exact hF.whr hw};left;rfl};cases hgp:d.v.grp;·{left;rw[hF.grp hgp];rfl};right;rfl};have hl:(YX d.v (zG g d.v)).length=d.v.pick.length+d.v.aggs.length:=by{unfold YX;simp};have hks:OZ (YX d.v (zG g d.v))=false:=by{unfold OZ;rw[(zeC hv hj).2 ⟨hF.pick,hF.aggs⟩,hl];have:=hF.few;simp only[zh3,zix,ziB];omega};simp only[hask,hks,zhA,if_false];unfold enD YU Vh;rw[if_neg hk,if_neg hk,←Vo hv hk hF hg,hl];simp[hk]};cases hb:Y8 ty g d.v with|true=>rw[if_pos rfl];(cases hp:Yf ty g d.v with|none=>rfl|some e=>have:=Vl.2 ((key e).1 hp).1;rw[hb]at this;cases this)|false=>rw[if_neg (by simp)];exact(key _).2 ⟨Vl.1 hb,rfl⟩
def Vp(all:List En)(c:Cl):Bool:=if c.ref.toList.isEmpty then true else match zJ all c.ref with|none=>false|some e=>e.tb&&(decide (kAt e.ks 0=c.kind)&&(decide (c.act≠2)||c.nul))
theorem zeE{g:List En}(hg:∀e∈g,YV e){d:Df}(hk:d.k=0)(hm:WC d)(hn:zJ g d.t.name=none){c:Cl}(hc:c∈d.t.cols):Vp (g++[enD g d]) c=!UA g d.t c:=by unfold Vp UA;cases hr:c.ref.toList.isEmpty with|true=>rfl|false=>simp only[zhA,if_false,zhy,ziG];rw[Nt];unfold zgL;by_cases he:c.ref=d.t.name;·{rw[he,hn];have hl:zJ [enD g d] d.t.name=some (enD g d):=by{unfold zJ enD YU;simp[hk]};simp only[hl,if_true];have hne:d.t.cols≠[]:=List.ne_nil_of_mem hc;cases hcs:d.t.cols with|nil=>exact absurd hcs hne|cons x r=>have e1:kAt (enD g d).ks 0=x.kind:=by{show kAt (xE g d) 0=_;rw[(Y9 hk).1,hcs,YC (by omega) (by simp)];rfl};have e2:(enD g d).tb=true:=zh1 hk;rw[e1,e2];simp only[ziG,List.head?_cons,zik];by_cases h1:c.kind=x.kind;·{simp[h1]};simp[h1,zhB h1]};rw[if_neg he];have hl:zJ [enD g d] c.ref=none:=by{unfold zJ enD YU;simp[hk,zhB he]};cases hf:zJ g c.ref with|none=>simp[hl]|some e=>have ge:=hg e (zip hf);simp only[zhC];cases ht:e.tb with|false=>simp|true=>have:∃k r,e.ks=k::r:=by{cases hks:e.ks with|nil=>have:=ge.ne;rw[hks]at this;simp at this|cons k r=>exact⟨k,r,rfl⟩};obtain⟨k,r,hks⟩:=this;have e1:kAt e.ks 0=k:=by{rw[YC (by omega) (by have:=ge.ne;omega),hks];rfl};rw[e1,hks];simp only[if_true,ziG,List.head?_cons];by_cases h1:c.kind=k;·{simp[h1]};simp[h1,zhB h1]
def PV(c:Cl):Bool:=!c.nul&&(decide (c.kind≠1)&&c.ref.toList.isEmpty)
def Zj(cs:List Cl)(k:Nat):Bool:=(cs.take k).any fun x=>decide (x.name=(cs.getD k ⟨emp,0,false,false,emp,0⟩).name)
theorem PW:∀(cs:List Cl),Y0 cs=(List.range cs.length).any (Zj cs):=by intro cs;rw[zh0,zhq];have gen:∀cs:List Cl,Y0 cs=true↔∃(i j:Nat)(x y:Cl),i<j∧cs[i]?=some x∧cs[j]?=some y∧x.name=y.name:=by{intro cs;induction cs with|nil=>simp[Y0]|cons c r ih=>rw[Y0,zhs,ih,zhq];constructor;·{rintro(⟨x,hx,he⟩|⟨i,j,x,y,h1,h2,h3,h4⟩);·{obtain⟨j,hj⟩:=List.getElem?_of_mem hx;exact⟨0,j+1,c,x,by omega,rfl,by simpa using hj,(of_decide_eq_true he).symm⟩};exact⟨i+1,j+1,x,y,by omega,by simpa using h2,by simpa using h3,h4⟩};rintro⟨i,j,x,y,h1,h2,h3,h4⟩;obtain⟨j,rfl⟩:∃j',j=j'+1:=⟨j-1,by omega⟩;cases i with|zero=>left;obtain rfl:c=x:=by{simpa using h2};exact⟨y,zhP (by simpa using h3),zh1 h4.symm⟩|succ i=>right;exact⟨i,j,x,y,by omega,by simpa using h2,by simpa using h3,h4⟩};rw[gen];constructor;·{rintro⟨i,j,x,y,h1,h2,h3,h4⟩;have hj:=(ziI.1 h3).1;refine⟨j,zhj.2 hj,?_⟩;unfold Zj;rw[zhq];refine⟨x,zhP (i:=i) (by rw[ziJ,if_pos h1];exact h2),?_⟩;rw[ziv,h3];exact zh1 h4};rintro⟨j,hj,h⟩;rw[zhj]at hj;unfold Zj at h;rw[zhq]at h;obtain⟨x,hx,he⟩:=h;obtain⟨i,hi⟩:=List.getElem?_of_mem hx;rw[ziJ]at hi;split at hi;·{rename_i hlt;refine⟨i,j,x,cs[j],hlt,hi,ziw hj,?_⟩;rw[ziv,ziw hj]at he;exact of_decide_eq_true he};cases hi
def T9(ty:List Nd→List Int→Int×Int)(all:List En)(t:Tb):Int:=if !PV (t.cols.getD 0 ⟨emp,0,false,false,emp,0⟩)||Y0 t.cols then 91 else if t.cols.any (fun c=>!Vp all c)then 92 else if t.checks.any (fun e=>!Ye ty e (t.cols.map (·.kind)))then 93 else 0
theorem zf5{g:List En}(hg:∀e∈g,YV e){d:Df}(hk:d.k=0)(hm:WC d)(hn:zJ g d.t.name=none):T9 ty (g++[enD g d]) d.t=if Vi d.t then 91 else if d.t.cols.any (UA g d.t)then 92 else if d.t.checks.any (fun e=>!Ye ty e (d.t.cols.map (·.kind)))then 93 else 0:=by unfold T9;have e1:(!PV (d.t.cols.getD 0 ⟨emp,0,false,false,emp,0⟩)||Y0 d.t.cols)=Vi d.t:=by{unfold Vi;have ht:=Nu hm hk;unfold Xo at ht;simp only[zhp,zhD,zis]at ht;cases hc:d.t.cols with|nil=>exact absurd hc ht.2.1|cons x r=>unfold Nr PV;simp only[List.getD_cons_zero];rw[Bool.or_comm];congr 1;by_cases h1:x.kind=1<;>cases x.nul<;>cases x.ref.toList.isEmpty<;>simp[h1]};have e2:(d.t.cols.any fun c=>!Vp (g++[enD g d]) c)=d.t.cols.any (UA g d.t):=by{rw[zh0,zhq,zhq];constructor;·{rintro⟨c,hc,h⟩;rw[zeE hg hk hm hn hc,Bool.not_not]at h;exact⟨c,hc,h⟩};rintro⟨c,hc,h⟩;exact⟨c,hc,by rw[zeE hg hk hm hn hc,Bool.not_not];exact h⟩};rw[e1,e2]
theorem Nx{ok:Df→Bool}{g:List En}(hg:∀e∈g,YV e){d:Df}(hm:WC d)(ho:ok d=true)(hl:g.length<20)(hn:zJ g (YU d)=none)(hk:d.k=0):yl ok ty g d=T9 ty (g++[enD g d]) d.t:=by have hn':zJ g d.t.name=none:=by{unfold YU at hn;rwa[if_pos hk]at hn};unfold yl;rw[if_neg (by simp[ho]),if_neg (by omega),if_neg (by simp[hn]),if_pos hk,zf5 hg hk hm hn']
theorem zat{ok:Df→Bool}{g:List En}(hg:∀e∈g,YV e){d:Df}(hm:WC d)(ho:ok d=true)(hl:g.length<20)(hn:zJ g (YU d)=none)(hk:d.k≠0):(yl ok ty g d=94∧Yf ty g d.v=none)∨(yl ok ty g d=0∧Yf ty g d.v=some (enD g d)):=by rw[zeD hg (Nv hm hk).2 hk];unfold yl;rw[if_neg (by simp[ho]),if_neg (by omega),if_neg (by simp[hn]),if_neg hk];cases Y8 ty g d.v;·{right;simp};left;simp
end Go.Proofs.YtkmolglahmjfdaaGreatDoor
