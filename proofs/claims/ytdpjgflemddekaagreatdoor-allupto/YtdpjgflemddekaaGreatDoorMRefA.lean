/- The document's answer: its small functions that only read. -/
import Derived.Test.YtdpjgflemddekaaGreatDoorRows
import Derived.Test.YtdpjgflemddekaaGreatDoorMBase
import Derived.Deep.QuietTactic
import Derived.BigQuiet
set_option maxHeartbeats 1000000
namespace Go.Proofs.YtdpjgflemddekaaGreatDoor
open Go.RowKit
theorem quiet_same2 {P:Program}{f:FuncId}{args:Array Value}{w:World}{q n:Nat}{v:Value}
 (h:Calls P f args (w.drewN (q+n)) fun e w'=>e=.returned v/\w'=w.drewN (q+n)):Calls P f args (w.drewN (q+n)) fun e w''=>e=.returned v/\∃m,w''=w.drewN (q+m):=
 h.mono fun _ _ ⟨he,hm⟩=>⟨he,n,hm⟩
theorem power_any (n:Int)(w:World)(h:n<=20):
 Calls Tryz.prog 106 #[.int .i64 n] w fun e w'=>e=.returned (.int .i64 (pw n.toNat))/\w'=w:=by
 go_enter Tryz.func106,Tryz.ntmps106
 go_wp2;go_loop [3,4] (fun p i=>∃k:Nat,k<=n.toNat/\i=.int .i64 k/\p=.int .i64 (pw k)) (fun _ i=>n.toNat-(intOf i).toNat)
 case atStart=>exact ⟨0,Nat.zero_le _,rfl,rfl⟩
 case round=>
  obtain ⟨k,hk,rfl,rfl⟩:=hrel;have h1:=pw_pos k;have h2:=pw_le k (by omega);have HS:Hid (pw (k+1)=2*pw k):=pw_succ k;by_cases hlt:(k:Int)<n
  ·go_wp2;go_round
   case rel=>exact ⟨k+1,by omega,by go_num,by rw [HS.out]⟩
   case measure=>simp [intOf];omega
  ·go_wp2;go_ret;have hkn:k=n.toNat:=by omega
   exact ⟨ret_int (by rw [hkn]),rfl⟩
theorem at_any (L:List Ent)(kb:Nat)(lv:Value)(nd ix:Int)(w:World)
 (hn:L.length<=1000000)
 (hL:w.cell? ⟨kb,0,none⟩=some lv) (hr:Lies w Ent.vals 9 lv L) :
 Calls Tryz.prog 82 #[.pointer (some ⟨kb,0,none⟩),.int .i64 nd,.int .i64 ix] w fun e w'=>e=.returned (.int .i64 (atI L nd ix))/\w'=w:=by
 obtain ⟨A,cap,rfl,hA⟩:=hr;go_enter Tryz.func82,Tryz.ntmps82
 go_wp2;go_loop [7] (fun i=>∃k:Nat,k<=L.length/\i=.int .i64 k/\∀j (hj:j<L.length),j<k->cz nd ix L[j]=false) (fun i=>L.length-(intOf i).toNat)
 case atStart=>exact ⟨0,Nat.zero_le _,rfl,fun j hj h=>absurd h (by omega)⟩
 case round=>
  obtain ⟨k,hk,rfl,hno⟩:=hrel;by_cases hlt:k<L.length
  ·obtain ⟨g,rfl,hc⟩:=hA (by omega);have he:=entAt hc k hlt;obtain ⟨h0,h1,_,_,_,_,_,_,_⟩:=he;clear hc hA;go_wp2
   ·go_ret;exact ⟨ret_int (found_at hlt hno (by simp_all [cz])).symm,rfl⟩
   ·exact ⟨⟨k+1,by omega,by go_num,no_step hlt hno (by simp_all [cz])⟩,by simp [intOf];omega⟩
   ·exact ⟨⟨k+1,by omega,by go_num,no_step hlt hno (by simp_all [cz])⟩,by simp [intOf];omega⟩
  ·go_wp2;go_ret;exact ⟨ret_int (found_none hlt hno).symm,rfl⟩
theorem de (T:List Thr)(kb:Nat)(tv:Value)(b:Int)(w:World)
 (hn:T.length<=1000000)
 (hT:w.cell? ⟨kb,1026,none⟩=some tv) (hr:Lies w Thr.vals 6 tv T) :
 Calls Tryz.prog 78 #[.pointer (some ⟨kb,0,none⟩),.int .i64 b] w fun e w'=>e=.returned (.int .i64 (thI T b))/\w'=w:=by
 obtain ⟨A,cap,rfl,hA⟩:=hr;go_enter Tryz.func78,Tryz.ntmps78
 go_wp2;go_loop [5] (fun i=>∃k:Nat,k<=T.length/\i=.int .i64 k/\∀j (hj:j<T.length),j<k->af b T[j]=false) (fun i=>T.length-(intOf i).toNat)
 case atStart=>exact ⟨0,Nat.zero_le _,rfl,fun j hj h=>absurd h (by omega)⟩
 case round=>
  obtain ⟨k,hk,rfl,hno⟩:=hrel;by_cases hlt:k<T.length
  ·obtain ⟨g,rfl,hc⟩:=hA (by omega);have h0:=(thrAt hc k hlt).c0;clear hc hA;go_wp2
   ·go_ret;exact ⟨ret_int (found_at hlt hno (by simp_all [af])).symm,rfl⟩
   ·exact ⟨⟨k+1,by omega,by go_num,no_step hlt hno (by simp_all [af])⟩,by simp [intOf];omega⟩
  ·go_wp2;go_ret;exact ⟨ret_int (found_none hlt hno).symm,rfl⟩
theorem node_any (N:List Liv)(kb:Nat)(nv:Value)(b:Int)(w:World)
 (hn:N.length<=1000000)
 (hN:w.cell? ⟨kb,1025,none⟩=some nv) (hr:Lies w Liv.vals 2 nv N) (hb:∀l∈N,0<=l.bits/\l.bits<=20) :
 Calls Tryz.prog 104 #[.pointer (some ⟨kb,0,none⟩),.int .i64 b] w fun e w'=>e=.returned (.int .i64 (az N b))/\w'=w:=by
 obtain ⟨A,cap,rfl,hA⟩:=hr;go_enter Tryz.func104,Tryz.ntmps104
 go_wp2;go_loop [5] (fun i=>∃k:Nat,k<=N.length/\i=.int .i64 k/\∀j (hj:j<N.length),j<k->aq b N[j]=false) (fun i=>N.length-(intOf i).toNat)
 case atStart=>exact ⟨0,Nat.zero_le _,rfl,fun j hj h=>absurd h (by omega)⟩
 case round=>
  obtain ⟨k,hk,rfl,hno⟩:=hrel;by_cases hlt:k<N.length
  ·obtain ⟨g,rfl,hc⟩:=hA (by omega);obtain ⟨h0,h1⟩:=livAt hc k hlt;have hb0:=(hb N[k] (List.getElem_mem hlt)).1;have hb1:=(hb N[k] (List.getElem_mem hlt)).2;clear hc hA hb;go_wp2_with (go_at_call 106;refine (power_any _ _ (by omega)).mono ?_;rintro e w' ⟨rfl,rfl⟩)
   ·go_ret;exact ⟨ret_int (slots_found hlt hno (by simp_all [aq])).symm,rfl⟩
   ·exact ⟨⟨k+1,by omega,by go_num,no_step hlt hno (by simp_all [aq])⟩,by simp [intOf];omega⟩
  ·go_wp2;go_ret;exact ⟨ret_int (slots_none hlt hno).symm,rfl⟩
theorem still_any (N:List Liv)(kb:Nat)(nv:Value)(b:Int)(w:World)
 (hn:N.length<=1000000)
 (hN:w.cell? ⟨kb,1025,none⟩=some nv) (hr:Lies w Liv.vals 2 nv N) :
 Calls Tryz.prog 80 #[.pointer (some ⟨kb,0,none⟩),.int .i64 b] w fun e w'=>e=.returned (.int .i64 (stillI N b))/\w'=w:=by
 obtain ⟨A,cap,rfl,hA⟩:=hr;go_enter Tryz.func80,Tryz.ntmps80
 go_wp2;go_loop [5] (fun i=>∃k:Nat,k<=N.length/\i=.int .i64 k/\∀j (hj:j<N.length),j<k->aq b N[j]=false) (fun i=>N.length-(intOf i).toNat)
 case atStart=>exact ⟨0,Nat.zero_le _,rfl,fun j hj h=>absurd h (by omega)⟩
 case round=>
  obtain ⟨k,hk,rfl,hno⟩:=hrel;by_cases hlt:k<N.length
  ·obtain ⟨g,rfl,hc⟩:=hA (by omega);obtain ⟨h0,h1⟩:=livAt hc k hlt;clear hc hA;go_wp2
   ·go_ret;exact ⟨ret_int (still_found hlt (by simp_all [aq])).symm,rfl⟩
   ·exact ⟨⟨k+1,by omega,by go_num,no_step hlt hno (by simp_all [aq])⟩,by simp [intOf];omega⟩
  ·go_wp2;go_ret;exact ⟨ret_int (still_none hlt hno).symm,rfl⟩
theorem rend_any (L:List Ent)(kb:Nat)(lv:Value)(i:Nat)(w:World)
 (hn:L.length<=1000000) (hi:i<L.length)
 (hL:w.cell? ⟨kb,0,none⟩=some lv) (hr:Lies w Ent.vals 9 lv L) :
 Calls Tryz.prog 105 #[.pointer (some ⟨kb,0,none⟩),.int .i64 i] w fun e w'=>e=.returned (.int .i64 (endI L i L[i].up))/\∃q,w'=w.drewN q:=by
 obtain ⟨A,cap,rfl,hA⟩:=hr;obtain ⟨g,rfl,hc⟩:=hA (by omega);clear hA;have hu:=(entAt hc i hi).c8;go_enter Tryz.func105,Tryz.ntmps105
 go_wp2;go_loopw [5] (fun n w'=>(∃q,w'=w.drewN q)/\∃k:Nat,i+1<=k/\k<=L.length/\n=.int .i64 k/\∀j (hj:j<L.length),i+1<=j->j<k->below L[i].up L[j]=true) (fun n _=>L.length-(intOf n).toNat)
 case atStart=>exact ⟨⟨0,rfl⟩,i+1,Nat.le_refl _,by omega,by go_num,fun j hj h h'=>absurd h' (by omega)⟩
 case round=>
  obtain ⟨⟨q,rfl⟩,k,hk0,hk,rfl,hyes⟩:=hrel;by_cases hlt:k<L.length
  ·have h8:=(entAt hc k hlt).c8;have hd:decide ((k:Int)<(L.length:Int))=true:=by simp;omega
   clear hc;by_cases hup:L[i].up<L[k].up
   ·go_wp2;go_quiet (fail)
    go_wp2;go_roundw;case rel=>exact ⟨⟨q+nq,rfl⟩,k+1,by omega,by omega,by go_num,fun j hj h1 h2=>if e:j=k then by subst e;simpa [below] using hup else hyes j hj h1 (by omega)⟩
    case measure=>simp [intOf];omega
   ·go_wp2;go_quiet (fail)
    go_wp2;go_ret;exact ⟨ret_int (by rw [endI_eq hk0 hk hyes (fun _=>by simpa [below] using hup)]),q+nq,drewN2 _ _ _⟩
  ·have hd:decide ((k:Int)<(L.length:Int))=false:=by simp;omega
   clear hc;go_wp2;go_quiet (fail)
   go_wp2;go_ret;exact ⟨ret_int (by rw [endI_eq hk0 hk hyes (fun h=>absurd h hlt)]),q+nq,drewN2 _ _ _⟩
theorem find_any (L:List Ent)(N:List Liv)(kb:Nat)(lv nv av:Value)(root:Int)(l:List Int)(w:World)
 (hn:L.length<=1000000) (hm:N.length<=1000000) (hl:l.length<=9000000000000000000)
 (hL:w.cell? ⟨kb,0,none⟩=some lv) (hr:Lies w Ent.vals 9 lv L)
 (hN:w.cell? ⟨kb,1025,none⟩=some nv) (hs:Lies w Liv.vals 2 nv N) (hb:∀l∈N,0<=l.bits/\l.bits<=20)
 (ha:IntsAt w av l) :
 Calls Tryz.prog 81 #[.pointer (some ⟨kb,0,none⟩),.int .i64 root,av] w fun e w'=>e=ans3 (bd L N root l)/\∃q,w'=w.drewN q:=by
 obtain ⟨A,cap,rfl,hA⟩:=ha;by_cases h1:l.length<1
 ·have e:l.length=0:=by omega
  have hf:bd L N root l=none:=if_pos (by omega);rw [hf];go_enter Tryz.func81,Tryz.ntmps81
  go_wp2;go_ret3
  exact ⟨rfl,0,rfl⟩
 by_cases h3:3<l.length
 ·have hf:bd L N root l=none:=if_pos (by omega);rw [hf];go_enter Tryz.func81,Tryz.ntmps81
  go_wp2;go_ret3
  exact ⟨rfl,0,rfl⟩
 obtain ⟨g,o,rfl,hc⟩:=hA (by omega);clear hA;have hf:bd L N root l=goF L N root l:=if_neg (by omega);rw [hf];go_enter Tryz.func81,Tryz.ntmps81
 go_wp2;go_loopw [9,10] (fun nv' iv w'=>(∃q,w'=w.drewN q)/\∃(k:Nat) (nd:Int),k<=l.length/\iv=.int .i64 k/\nv'=.int .i64 nd/\
  ((k=0/\nd=root)\/∃(j:Nat) (x:Int),k=j+1/\l[j]?=some x/\okIx N nd x=true/\goF L N nd (l.drop j)=goF L N root l)) (fun _ iv _=>l.length-(intOf iv).toNat)
 case atStart=>exact ⟨⟨0,rfl⟩,0,root,Nat.zero_le _,rfl,rfl,.inl ⟨rfl,rfl⟩⟩
 case round=>
  obtain ⟨⟨q,rfl⟩,k,nd,hk,rfl,rfl,hst⟩:=hrel;by_cases hlt:k<l.length
  ·have hx:=hc k hlt;rcases hst with ⟨hk0,hnd⟩ | ⟨j,x,hkj,hj,hok,hgo⟩
   ·have HK:Hid (k=0):=hk0;have hkz:¬(0:Int)<(k:Int):=by omega
    have HH0:Hid (goF L N nd (l[k] :: l.drop (k+1))=goF L N root l):=by rw [<- List.drop_eq_getElem_cons hlt,hk0,hnd];rfl
    clear hk0 hnd;have HH:=HH0;by_cases hx0:l[k]<0
    ·have hbad:okIx N nd l[k]=false:=by simp [okIx];omega
     have hd:decide (l[k]<0)=true:=by simpa using hx0
     go_wp2;go_quiet (fail)
     go_wp2;go_ret3
     exact ⟨by rw [<- HH.out,goF_bad hbad];rfl,_,drewN2 _ _ _⟩
    ·have hd:decide (l[k]<0)=false:=by simpa using hx0
     by_cases hsl:l[k]<az N nd
     ·have hok1:okIx N nd l[k]=true:=by simp [okIx];omega
      have hd2:decide (az N nd<=l[k])=false:=by simp;omega
      go_wp2;go_quiet ((go_at_call 104;exact quiet_same2 (node_any N kb nv _ _ hm (by exact hN) (by exact hs) hb)))
      go_wp2;go_roundw;case rel=>exact ⟨⟨_,rfl⟩,k+1,nd,by omega,by go_num,rfl,.inr ⟨k,l[k],rfl,List.getElem?_eq_getElem hlt,hok1,by rw [List.drop_eq_getElem_cons hlt];exact HH.out⟩⟩
      case measure=>simp [intOf];omega
     ·have hbad:okIx N nd l[k]=false:=by simp [okIx];omega
      have hd2:decide (az N nd<=l[k])=true:=by simp;omega
      go_wp2;go_quiet ((go_at_call 104;exact quiet_same2 (node_any N kb nv _ _ hm (by exact hN) (by exact hs) hb)))
      go_wp2;go_ret3
      exact ⟨by rw [<- HH.out,goF_bad hbad];rfl,_,drewN2 _ _ _⟩
   ·subst hkj;have hj':=List.getElem?_eq_some_iff.1 hj;obtain ⟨hjl,rfl⟩:=hj';have hxj:=hc j hjl;have hdj:l.drop j=l[j] :: l[j+1] :: l.drop (j+2):=by rw [List.drop_eq_getElem_cons hjl,List.drop_eq_getElem_cons hlt]
    rcases at_cases L nd l[j] with ⟨hat,hfi⟩ | ⟨p,hp,hat,hfi,_⟩
    ·have HH:Hid (goF L N root l=none):=by
      show _=_;rw [<- hgo,hdj,goF_on hok];simp [nodeIn,hfi]
     clear hdj hgo hj;go_wp2_with fail
     refine (at_any L kb _ nd l[j] _ hn (by exact hL) (by exact hr)).mono ?_;rintro e w1 ⟨rfl,rfl⟩;rw [hat];go_wp2;go_ret3
     exact ⟨by rw [HH.out];rfl,_,rfl⟩
    ·have hr':=hr;obtain ⟨A2,cap2,rfl,hA2⟩:=hr;obtain ⟨g2,rfl,hc2⟩:=hA2 (by omega);obtain ⟨_,_,e2,e3,_,_,_,_,_⟩:=entAt hc2 p hp;clear hc2 hA2;by_cases h2:L[p].ty=2
     ·have HH:Hid (goF L N L[p].base (l[j+1] :: l.drop (j+2))=goF L N root l):=by
       show _=_;rw [<- hgo,hdj,goF_on hok];simp [nodeIn,hfi,h2]
      clear hdj hgo hj;have H2:(L[p].ty != 2)=false:=by simp [h2]
      clear h2;by_cases hx0:l[j+1]<0
      ·have hbad:okIx N L[p].base l[j+1]=false:=by simp [okIx];omega
       have hd:decide (l[j+1]<0)=true:=by simpa using hx0
       go_wp2_with fail
       refine (at_any L kb _ nd l[j] _ hn (by exact hL) (by exact hr')).mono ?_;rintro e w1 ⟨rfl,rfl⟩;rw [hat];go_wp2;go_quiet (fail)
       go_wp2;go_ret3
       exact ⟨by rw [<- HH.out,goF_bad hbad];rfl,_,drewN2 _ _ _⟩
      ·have hd:decide (l[j+1]<0)=false:=by simpa using hx0
       by_cases hsl:l[j+1]<az N L[p].base
       ·have hok1:okIx N L[p].base l[j+1]=true:=by simp [okIx];omega
        have hd2:decide (az N L[p].base<=l[j+1])=false:=by simp;omega
        go_wp2_with fail
        refine (at_any L kb _ nd l[j] _ hn (by exact hL) (by exact hr')).mono ?_;rintro e w1 ⟨rfl,rfl⟩;rw [hat];go_wp2;go_quiet ((go_at_call 104;exact quiet_same2 (node_any N kb nv _ _ hm (by exact hN) (by exact hs) hb)))
        go_wp2;go_roundw;case rel=>exact ⟨⟨_,rfl⟩,j+2,L[p].base,by omega,by go_num,rfl,.inr ⟨j+1,l[j+1],by omega,List.getElem?_eq_getElem hlt,hok1,by rw [List.drop_eq_getElem_cons hlt];exact HH.out⟩⟩
        case measure=>simp [intOf];omega
       ·have hbad:okIx N L[p].base l[j+1]=false:=by simp [okIx];omega
        have hd2:decide (az N L[p].base<=l[j+1])=true:=by simp;omega
        go_wp2_with fail
        refine (at_any L kb _ nd l[j] _ hn (by exact hL) (by exact hr')).mono ?_;rintro e w1 ⟨rfl,rfl⟩;rw [hat];go_wp2;go_quiet ((go_at_call 104;exact quiet_same2 (node_any N kb nv _ _ hm (by exact hN) (by exact hs) hb)))
        go_wp2;go_ret3
        exact ⟨by rw [<- HH.out,goF_bad hbad];rfl,_,drewN2 _ _ _⟩
     ·have HH:Hid (goF L N root l=none):=by
       show _=_;rw [<- hgo,hdj,goF_on hok];simp [nodeIn,hfi,h2]
      clear hdj hgo hj;have H2:(L[p].ty != 2)=true:=by simpa using h2
      clear h2;go_wp2_with fail
      refine (at_any L kb _ nd l[j] _ hn (by exact hL) (by exact hr')).mono ?_;rintro e w1 ⟨rfl,rfl⟩;rw [hat];go_wp2;go_ret3
      exact ⟨by rw [HH.out];rfl,_,rfl⟩
  ·have hkl:k=l.length:=by omega
   rcases hst with ⟨hk0,hnd⟩ | ⟨j,x,hkj,hj,hok,hgo⟩
   ·omega
   ·subst hkj;obtain ⟨hjl,rfl⟩:=List.getElem?_eq_some_iff.1 hj;have hxj:=hc j hjl;have HH:Hid (goF L N root l=some (nd,l[j])):=by
     show _=_;rw [<- hgo,List.drop_eq_getElem_cons hjl,List.drop_eq_nil_of_le (by omega),goF_last hok]
    have hlen:(l.length:Int)-1=(j:Int):=by omega
    clear hgo hj;go_wp2;go_quiet (fail)
    go_wp2;go_ret3
    exact ⟨by rw [HH.out];rfl,_,drewN2 _ _ _⟩
end Go.Proofs.YtdpjgflemddekaaGreatDoor
