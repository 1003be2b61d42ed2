import PyProof.Rows.All
import Wide.All
import OpenK.AllK
import Wide.FinOn
import HandS.ForMost
import HandS.Style
import HandS.IsInst
import HandS.Replace
import HandS.Wide
import HandS.Codes
import HandS.Walk
import HandS.DictComp
import HandS.Conv
import HandS.Nested
import HandS.EndTab
import PyProof.ListStr
import PyProof.StrOps2
import HandS.Ends
import HandS.FStr
import HandS.FStrTup
import HandS.More
import HandS.Set
import HandS.SetKeys
import HandS.SetTxt0
import HandS.Strs
import HandS.Style
import KE.GoesMore
import PyProof.EnumMake
import PyProof.ReprRoads
import PyProof.Rows.SetFrom
import PyProof.Rows.SortShellAny
import PySem.Challenge.RW_likehands_k14_worlds_written
set_option Elab.async false
set_option linter.all false
set_option maxRecDepth 100000
set_option maxHeartbeats 4000000
namespace LH
open PySem PySem.Spec PyProof.Rows L2
/-! ### list(text) -/
section
variable {X : Cx}
def sgns (z : Str) : List V := z.cps.toList.map fun c => V.str ⟨#[c]⟩
theorem sgns_len (z : Str) : (sgns z).length = z.length := by
  unfold sgns
  rw [List.length_map, Array.length_toList]
  rfl
theorem vals_by : ∀ {xs : List V} {us : List Value}, xs.length = us.length → (∀ (j : Nat) (x : V) (u : Value), xs[j]? = some x → us[j]? = some u → RelV x u) → Vals xs us
  | [], [], _, _ => .nil
  | [], _ :: _, h, _ => by cases h
  | _ :: _, [], h, _ => by cases h
  | x :: xs, u :: us, h, q => .cons (q 0 x u rfl rfl) (vals_by (Nat.succ.inj h) fun j y v a b => q (j + 1) y v a b)
theorem vals_sgns {z : Str} {acc : Array Value} (h : ItemsOf (SignAt z) acc z.cps.size) : Vals (sgns z) acc.toList := by
  have hn : acc.size = z.cps.size := h.1
  refine vals_by ?_ fun j x u a b => ?_
  · rw [sgns_len, Array.length_toList, hn]
    rfl
  · rw [Array.getElem?_toList] at b
    obtain ⟨c, t, e1, e2⟩ := h.2 j u b
    unfold sgns at a
    rw [List.getElem?_map, Array.getElem?_toList, e1] at a
    cases a
    subst e2
    exact ⟨_, rfl⟩
theorem call_listS (hc : X.calm = true) : CallR X (.type "list") (fun xs H Q => ∃ z : Str, xs = [.str z] ∧ z.length ≤ sizeLine ∧ ∀ p, H p = none → Q (.ref p) (upd H p (.lst (sgns z)))) := by
  intro pins s σ H xs us Q I r h
  obtain ⟨z, rfl, hz, q⟩ := h
  obtain ⟨u, rfl, rx⟩ := vals1 r
  obtain ⟨t, rfl⟩ := rx
  refine PySem.call_list_str (I.ok.hd hc) z t (fun h' tk acc' c' kp e ha => ?_) hz
  exact ⟨.ref s.heap.objs.size, _, I.laid (t' := tk) kp (Nat.le_refl _) (show ObjOk X.prog X.w _ h' _ (.lst (sgns z)) from ⟨by rw [sgns_len]; exact hz, acc'.toList, c', vals_sgns ha, e⟩), rfl, q _ (I.hok.fresh (Nat.le_refl _))⟩
/-! ### text * number -/
def repS (z : Str) (n : Nat) : Str := ⟨(List.replicate n z.cps.toList).flatten.toArray⟩
theorem foldl_repS (z : Array Nat) : ∀ (n : Nat) (a : Array Nat), (List.replicate n z).foldl (· ++ ·) a = a ++ (List.replicate n z.toList).flatten.toArray
  | 0, a => by simp
  | n + 1, a => by
    rw [List.replicate_succ, List.foldl_cons, foldl_repS z n (a ++ z), List.replicate_succ, List.flatten_cons]
    apply Array.ext'
    simp
theorem repS_eq (z : Str) (n : Nat) : (⟨(List.replicate n z.cps).foldl (· ++ ·) #[]⟩ : Str) = repS z n := by
  rw [foldl_repS]
  unfold repS
  simp
theorem repS_one (z : Str) : repS z 1 = z := by
  unfold repS
  simp
theorem repS_len (z : Str) (n : Nat) : (repS z n).length = n * z.length := by
  show (List.replicate n z.cps.toList).flatten.toArray.size = n * z.cps.size
  rw [List.size_toArray, List.length_flatten, List.map_replicate, List.sum_replicate_nat, Array.length_toList]
theorem op_repS : OpR X (binaryOp .Mult) (fun x y H Q => ∃ (z : Str) (n : Int), x = .str z ∧ y = .int n ∧ 1 ≤ n ∧ n ≤ 1000 ∧ z.length ≤ 1000 ∧ Q (.str (repS z n.toNat)) H) := by
  intro pins s σ H x y v u Q I rx ry h
  obtain ⟨z, n, rfl, rfl, h1, h2, hz, q⟩ := h
  obtain ⟨t, rfl⟩ := rx
  obtain ⟨t', rfl⟩ := ry
  have hlen : z.length * n.toNat ≤ 1000000 := Nat.le_trans (Nat.mul_le_mul hz (show n.toNat ≤ 1000 by omega)) (by decide)
  refine PySem.P.mul_str ?_ (fun _ _ => ?_) (fun _ _ => ?_) ?_
  · rw [decide_eq_false (show ¬ n < -(2 ^ 63 : Int) by omega), decide_eq_false (show ¬ n ≥ 2 ^ 63 by omega)]
    rfl
  · have : (1000 : Int) ≤ (2 ^ 63 - 1) / n := by
      rw [Int.le_ediv_iff_mul_le (by omega)]
      omega
    omega
  · exact decide_eq_false (by
      have e : (1000000 : Nat) ≤ sizeLine := by decide
      omega)
  · rw [if_neg (show ¬ n < 1 by omega)]
    by_cases hc : (n == 1 || z.length == 0) = true
    · rw [if_pos hc]
      have e : repS z n.toNat = z := by
        rw [Bool.or_eq_true] at hc
        rcases hc with hc | hc
        · have : n = 1 := eq_of_beq hc
          subst this
          exact repS_one z
        · have h0 : z.cps.size = 0 := eq_of_beq hc
          have : z.cps = #[] := Array.eq_empty_of_size_eq_zero h0
          unfold repS
          rw [this]
          obtain ⟨a⟩ := z
          have : a = #[] := this
          subst this
          congr 1
          apply Array.ext'
          simp
      rw [e] at q
      exact ⟨.str z, H, I, ⟨_, rfl⟩, q⟩
    · rw [if_neg hc, repS_eq]
      refine ⟨?_, .str _, H, I.tok _, ⟨_, rfl⟩, q⟩
      show (repS z n.toNat).length ≤ sizeLine
      rw [repS_len, Nat.mul_comm]
      exact Nat.le_trans hlen (by decide)
end
/-! ### one sign in a text: its first place -/
theorem idxOf_le {c : Nat} : ∀ {xs : List Nat} {i : Nat}, xs[i]? = some c → xs.idxOf c ≤ i
  | [], i, h => by simp at h
  | x :: xs, i, h => by
    rw [List.idxOf_cons]
    by_cases e : x = c
    · subst e
      simp
    · cases i with
      | zero =>
        simp at h
        exact absurd h e
      | succ i =>
        have := idxOf_le (xs := xs) (i := i) (by simpa using h)
        rw [show (x == c) = false from beq_eq_false_iff_ne.mpr e]
        show xs.idxOf c + 1 ≤ i + 1
        omega
theorem occ_sign {z : Str} {c : Nat} (h : c ∈ z.cps.toList) : ∃ r, Builtin.Str.occurrences z ⟨#[c]⟩ 0 z.length 1 = z.cps.toList.idxOf c :: r := by
  have key : ∀ i, StrLaws.At z ⟨#[c]⟩ z.length i ↔ z.cps.toList[i]? = some c := fun i => StrLaws.subAt_one z c i
  have hi : z.cps.toList.idxOf c < z.cps.toList.length := List.idxOf_lt_length_iff.mpr h
  have e0 : z.cps.toList[z.cps.toList.idxOf c]? = some c := by
    rw [List.getElem?_eq_getElem hi, List.getElem_idxOf]
  rcases StrLaws.occ_head z ⟨#[c]⟩ 1 (Nat.le_refl _) with ⟨_, hn⟩ | ⟨i, r, e, ha, hn⟩
  · exact absurd ((key _).mpr e0) (hn _)
  · refine ⟨r, ?_⟩
    rw [e]
    congr 1
    have a1 : ¬ z.cps.toList.idxOf c < i := fun q => hn _ q ((key _).mpr e0)
    have a2 := idxOf_le ((key i).mp ha)
    omega
theorem find_sign {z : Str} {c : Nat} (h : c ∈ z.cps.toList) : Txt.find z ⟨#[c]⟩ = (z.cps.toList.idxOf c : Nat) := by
  obtain ⟨r, e⟩ := occ_sign h
  unfold Txt.find
  rw [e]
/-! ### texts of signs -/
abbrev sg (c : Nat) : Str := ⟨#[c]⟩
abbrev vs_ (cs : List Nat) : List V := cs.map fun c => V.str (sg c)
theorem join_sg : ∀ cs : List Nat, Txt.join ⟨#[]⟩ (cs.map sg) = ⟨cs.toArray⟩ := fun cs => by
  rw [TL.join_eq]
  induction cs with
  | nil => rfl
  | cons c r ih =>
    cases r with
    | nil => rfl
    | cons d r =>
      show sg c ++ ⟨#[]⟩ ++ Str.join ⟨#[]⟩ ((d :: r).map sg) = _
      rw [ih]
      show (⟨(#[c] ++ #[]) ++ (d :: r).toArray⟩ : Str) = ⟨(c :: d :: r).toArray⟩
      congr 1
      apply Array.ext'
      simp
theorem risingS_sg : ∀ (cs : List Nat) (c : Nat), risingS (sg c) (cs.map sg) = true → (c :: cs).Pairwise (· ≤ ·)
  | [], c, _ => by simp
  | d :: r, c, h => by
    have h : (!ltCps [d] [c] && risingS (sg d) (r.map sg)) = true := h
    rw [Bool.and_eq_true] at h
    have ih := risingS_sg r d h.2
    have hcd : c ≤ d := by
      have := h.1
      simp [ltCps] at this
      exact this
    refine List.Pairwise.cons (fun x hx => ?_) ih
    rcases List.mem_cons.mp hx with rfl | hx
    · exact hcd
    · exact Nat.le_trans hcd (List.rel_of_pairwise_cons ih hx)
theorem sortedS_sg {cs : List Nat} (h : sortedS (cs.map sg) = true) : cs.Pairwise (· ≤ ·) := by
  cases cs with
  | nil => simp
  | cons c r => exact risingS_sg r c h
/-- what a sort of one-sign texts gives -/
theorem perm_sg {cs : List Nat} {ys : List Str} (h : ys.Perm (cs.map sg)) : ∃ ds : List Nat, ys = ds.map sg ∧ ds.Perm cs := by
  let f : Str → Nat := fun z => z.cps.getD 0 0
  have hm := h.map f
  rw [List.map_map, show f ∘ sg = id from rfl, List.map_id] at hm
  refine ⟨ys.map f, ?_, hm⟩
  rw [List.map_map]
  have : ∀ y ∈ ys, (sg ∘ f) y = y := fun y hy => by
    obtain ⟨c, _, rfl⟩ := List.mem_map.mp (h.mem_iff.mp hy)
    rfl
  conv => lhs; rw [← List.map_id ys]
  exact List.map_congr_left fun y hy => (this y hy).symm
structure IsLet (z : Str) : Prop where
  one : 1 ≤ z.length
  five : z.length ≤ 5
  rise : z.cps.toList.Pairwise (· < ·)
  small : ∀ c ∈ z.cps.toList, 97 ≤ c ∧ c ≤ 122
theorem rise_of {cs : List Nat} (h : cs.Pairwise (· ≤ ·)) (n : cs.Nodup) : cs.Pairwise (· < ·) := by
  have := List.Pairwise.and h n
  exact this.imp fun ⟨a, b⟩ => Nat.lt_of_le_of_ne a b
theorem mem_az {c : Nat} (h : c ∈ (List.range 26).map (97 + ·)) : 97 ≤ c ∧ c ≤ 122 := by
  obtain ⟨k, hk, rfl⟩ := List.mem_map.mp h
  have := List.mem_range.mp hk
  omega
theorem cutV_map {f : Nat → V} (cs : List Nat) (lo hi : Option Int) : cutV (cs.map f) lo hi = ((cs.drop (HT.sIx cs.length 0 lo)).take (HT.sIx cs.length cs.length hi - HT.sIx cs.length 0 lo)).map f := by
  unfold cutV
  rw [List.length_map, List.map_take, List.map_drop]
theorem cut_from (cs : List Nat) (g : Nat) : (cs.drop (HT.sIx cs.length 0 (some (g : Int)))).take (HT.sIx cs.length cs.length none - HT.sIx cs.length 0 (some (g : Int))) = cs.drop g := by
  rw [HT.sIx_nat, HT.sIx_none]
  by_cases h : g ≤ cs.length
  · rw [Nat.min_eq_left h, List.take_of_length_le (by rw [List.length_drop] <;> omega)]
  · rw [Nat.min_eq_right (by omega), List.drop_of_length_le (by omega), List.drop_of_length_le (by omega), List.take_nil]
theorem cut_to (cs : List Nat) (g : Nat) : (cs.drop (HT.sIx cs.length 0 none)).take (HT.sIx cs.length cs.length (some (g : Int)) - HT.sIx cs.length 0 none) = cs.take g := by
  rw [HT.sIx_nat, HT.sIx_none, Nat.sub_zero, List.drop_zero]
  by_cases h : g ≤ cs.length
  · rw [Nat.min_eq_left h]
  · rw [Nat.min_eq_right (by omega), List.take_of_length_le (Nat.le_refl _), List.take_of_length_le (by omega)]
theorem seqIx {i : Int} {n : Nat} (h0 : 0 ≤ i) (h1 : i < n) : seqIndex? i n = some i.toNat := by
  unfold seqIndex?
  have e : ¬ i < 0 := by omega
  simp [h0, h1, e]
theorem atI_of {xs : List V} {i : Int} {v : V} (h0 : 0 ≤ i) (h : xs[i.toNat]? = some v) : atI xs i = some v := at_of (j := i.toNat) (by omega) h
theorem erase_perm (ls : List Nat) (k : Nat) (h : k < ls.length) : ls.Perm (ls[k] :: ls.eraseIdx k) := by
  rw [List.eraseIdx_eq_take_drop_succ]
  conv => lhs; rw [← List.take_append_drop k ls, List.drop_eq_getElem_cons h]
  exact List.perm_middle
theorem sgns_az : sgns "abcdefghijklmnopqrstuvwxyz" = vs_ ((List.range 26).map (97 + ·)) := by decide +kernel
/-! ### the rules that speak of the written part, by a K of their own (so that they may stand within a comprehension) -/
section
variable {X : Cx} (K : PySem.W.Frag) (hK : X.K = K)
def rLenK : List V → Hp → VK → Prop := fun xs H Q => ∃ p ys, xs = [.ref p] ∧ (SqL K H p ys ∨ SqT K H p ys) ∧ Q (.int ys.length) H
def rListK : List V → Hp → VK → Prop := fun xs H Q => ∃ p ys, xs = [.ref p] ∧ (SqL K H p ys ∨ SqT K H p ys) ∧ ∀ l, H l = none → Q (.ref l) (upd H l (.lst ys))
def rTupleK : List V → Hp → VK → Prop := fun xs H Q => ∃ p ys, xs = [.ref p] ∧ ((SqL K H p ys ∧ ∀ l, H l = none → Q (.ref l) (upd H l (.tup ys))) ∨ (SqT K H p ys ∧ Q (.ref p) H))
def rJoinK : V → List V → Hp → VK → Prop := fun x xs H Q => ∃ a p, ∃ ys : List Str, x = .str a ∧ xs = [.ref p] ∧ (SqL K H p (ys.map V.str) ∨ SqT K H p (ys.map V.str)) ∧ (ys.map (·.length)).sum + ys.length * a.length ≤ 16777216 ∧ Q (.str (Txt.join a ys)) H
include hK
theorem ix_listK : IxR X (rIxL K) := by subst hK; exact ix_list
theorem ix_tupK : IxR X (rIxT K) := by subst hK; exact ix_tup
theorem sl_listK : SlR X (rSlL K) := by subst hK; exact sl_list
theorem sl_tupK : SlR X (rSlT K) := by subst hK; exact sl_tup
theorem op_in_seqK : OpR X (compareOp .In) (rIn K false) := by subst hK; exact op_in_seq
theorem op_notIn_seqK : OpR X (compareOp .NotIn) (rIn K true) := by subst hK; exact op_notIn_seq
theorem call_lenK : CallR X (.builtin "len") (rLenK K) := by subst hK; exact call_len_seq
theorem call_listK : CallR X (.type "list") (rListK K) := by subst hK; exact call_list_of
theorem call_tupleK : CallR X (.type "tuple") (rTupleK K) := by subst hK; exact call_tuple_of
theorem cr_sumK (hc : X.calm = true) : CallR X (.builtin "sum") (rSum K) := by subst hK; exact cr_sum hc
theorem cr_anyK (hc : X.calm = true) : CallR X (.builtin "any") (rAny K) := by subst hK; exact cr_any hc
theorem cr_allK (hc : X.calm = true) : CallR X (.builtin "all") (rAll K) := by subst hK; exact cr_all hc
theorem cr_sortedK : CallR X (.builtin "sorted") (rSorted K) := by subst hK; exact cr_sorted
theorem cr_sortedSK : CallR X (.builtin "sorted") (rSortedS K) := by subst hK; exact cr_sortedS
theorem call_isiK : CallR X (.builtin "isinstance") (rIsi K) := by subst hK; exact call_isi
theorem mt_joinK : MtR X "str.join" (rJoinK K) := by subst hK; exact mt_join
theorem pi_listK {tg l : Expr} {tl : TE} (hl : PE X l tl) : PI X tg l (iList K tl) := by subst hK; exact pi_list hl
theorem pi_tupK {tg l : Expr} {tl : TE} (hl : PE X l tl) : PI X tg l (iTup K tl) := by subst hK; exact pi_tup hl
theorem pe_revLK {e : Expr} {te : TE} {k : Nat} {p1 p2 p3 pos : Pos} (he : PE X e te) : PE X (.Subscript e (.Slice none none (some (.UnaryOp .USub (.Constant (.int 1) k p1) p2)) p3) pos) (tRevL K te) := by subst hK; exact pe_revL he
theorem pg_tupK {pos : Pos} {es : List Expr} {k : Nat} {t : TGs} {n : Nat} (hc : X.calm = true) (h : PGs X es t) (hn : (assignEach es X.env).length = n := by rfl) (hst : (assignEach es X.env).findIdx? (·.1) = none := by rfl) : PG X (.Tuple es k pos) (gTup K n t) := by subst hK; exact pg_tup hc h hn hst
theorem pe_bm0K {o : Expr} {to : TE} {name : Str} {ap cp : Pos} {T id : String} {r : V → List V → Hp → VK → Prop} (pa : PlainAttrs T) (sl : Slot T name id) (ty : typeOf (.builtin id) = pure (.type "method_descriptor")) (hm : MtR X id r) (ho : PE X o to) (h1 : attributeBase o name X.env (eval o X.env) = eval o X.env := by rfl) (h2 : (ap.endLine == cp.line) = true := by rfl) : PE X (.Call (.Attribute o name ap) [] [] cp) (tBM0 K T r to) := by subst hK; exact pe_bm0 pa sl ty hm ho h1 h2
theorem pe_bmK {o e : Expr} {es : List Expr} {to : TE} {t : TA} {name : Str} {ap cp : Pos} {T id : String} {r : V → List V → Hp → VK → Prop} (pa : PlainAttrs T) (sl : Slot T name id) (ty : typeOf (.builtin id) = pure (.type "method_descriptor")) (hm : MtR X id r) (ho : PE X o to) (ha : PA X (e :: es) t) (h1 : attributeBase o name X.env (eval o X.env) = eval o X.env := by rfl) (h2 : ((backTo cp (starEach (e :: es) X.env)).all (fun x => !x.1) && (backToKw cp (keywordEach [] X.env)).all (fun x => x.1.isSome) && decide ((e :: es).length + ([] : List Keyword).length + (if ([] : List Keyword).isEmpty then 0 else 1) < 30)) = true := by rfl) (h3 : (ap.endLine == cp.line) = true := by rfl) (h4 : starEach (e :: es) X.env = (false, eval e X.env) :: starEach es X.env := by rfl) (h5 : (backTo cp (starEach es X.env)).any (·.1) = false := by rfl) : PE X (.Call (.Attribute o name ap) (e :: es) [] cp) (tBM K T r to t) := by subst hK; exact pe_bm pa sl ty hm ho ha h1 h2 h3 h4 h5
end
/-- a comprehension's turn without a test -/
theorem lcyes {σ : L2.St} {H : Hp} {A B : Hp → Prop} (h : A H) : tYes σ H (fun b H3 => if b = true then A H3 else B H3) := by
  show (if true = true then A H else B H)
  rw [if_pos rfl]
  exact h
theorem vs_snoc (ys : List Nat) (c : Nat) : vs_ ys ++ [V.str (sg c)] = vs_ (ys ++ [c]) := by
  show _ = List.map _ (ys ++ [c])
  rw [List.map_append]
  rfl
theorem vs_erase : ∀ (ls : List Nat) (k : Nat), (vs_ ls).eraseIdx k = vs_ (ls.eraseIdx k)
  | [], _ => rfl
  | _ :: _, 0 => rfl
  | c :: r, k + 1 => by
    show V.str (sg c) :: (vs_ r).eraseIdx k = V.str (sg c) :: vs_ (r.eraseIdx k)
    rw [vs_erase r k]
end LH

namespace LH
open PySem PySem.Spec PyProof.Rows L2
/-! ### sets of texts: set(list), sorted(set) -/
/-- at a stands a set whose members are just the texts l, each once -/
def TSet (P : Program) (w : World) (a : Addr) (l : List Str) (h : Heap) : Prop :=
  l.Nodup ∧ ∃ D : Froz.SD, h.get? a = some (Froz.sObj "set" D) ∧ Froz.TxOk P w D l ∧ Ris D.2.2.place.toList ∧ (w.params.followText "set-order" = true ∨ D.2.2.led = true)
theorem TSet.at {P : Program} {w : World} {a : Addr} {l : List Str} {h h' : Heap} (T : TSet P w a l h) (k : ∀ o, h.get? a = some o → h'.get? a = some o) : TSet P w a l h' :=
  let ⟨n, D, e, r⟩ := T
  ⟨n, D, k _ e, r⟩
theorem tx_ris (x : Int) (v : Value) (D : Froz.SD) (r : Ris D.2.2.place.toList) : Ris (Froz.addTx x v D).2.2.place.toList ∧ (Froz.addTx x v D).2.2.led = D.2.2.led := by
  have r1 := layNew_ris D.2.2 D.1 x v r
  have l1 := layNew_led D.2.2 D.1 x v
  unfold Froz.addTx
  generalize layNew D.2.2 D.1 x v = Z at r1 l1 ⊢
  obtain ⟨es1, t1, wd, gv⟩ := Z
  dsimp only at r1 l1 ⊢
  have r2 : Ris (if t1.plain = true then { t1 with plain := false } else t1 : SetTable).place.toList ∧ (if t1.plain = true then { t1 with plain := false } else t1 : SetTable).led = D.2.2.led := by
    split
    · exact ⟨r1, l1⟩
    · exact ⟨r1, l1⟩
  generalize (if t1.plain = true then { t1 with plain := false } else t1 : SetTable) = t2 at r2 ⊢
  unfold Froz.tailTx
  split
  · exact ⟨relayAll_ris _ _ _, (relayAll_led _ _ _).trans r2.2⟩
  · exact r2
section
variable {P : Program} {w : World} {A : Around} {E : Value → Shared → Prop} {s : Shared}
/-- the add of a text that is in -/
theorem tx_old {a : Addr} {T : String} {D : Froz.SD} {l : List Str} {k : Str} {u : Tok} {Q : Bool → Shared → Prop} (ho : s.heap.get? a = some (Froz.sObj T D)) (F : Froz.TxOk P w D l) (hk : k ∈ l) (hb : l.length < scanBound) (h : Q false s) :
    wpAny (model P w) A (setAddHashed a (.str k u) (hashStr w k)) Q E s := by
  have hkey : (PySem.strKind P w).is k (.str k u) = true := Froz.is_str k u
  have hd : (Froz.sObj T D).data = .set D.1 D.2.1 D.2.2 := rfl
  have hsz : D.1.size < scanBound := by rw [F.sz]; exact hb
  obtain ⟨e, he, hm⟩ := (F.mem k).mp hk
  unfold setAddHashed setAddHashedIn
  refine wpAny_holding (wpAny_bind (wpAny_setState_of ho hd F.fit ?_))
  dsimp only
  rw [byScan_of (knd := PySem.strKind P w) rfl hsz F.el]
  simp only [↓reduceIte]
  unfold setAddByScan
  refine wpAny_bind (wpAny_bind (wpAny_rule (wpAny_bind (wpAny_setScan_of (knd := PySem.strKind P w) (k := k) hkey ho hd F.fit F.el ?_))))
  cases hf : List.findIdx? (fun e => (PySem.strKind P w).is k e.2) D.1.toList with
  | none =>
    have c := List.findIdx?_eq_none_iff.mp hf e he
    rw [hm] at c
    cases c
  | some j => exact wpAny_pure (wpAny_pure h)
/-- the members behind one more -/
def tAdd (l : List Str) (k : Str) : List Str := if k ∈ l then l else k :: l
theorem mem_tAdd {l : List Str} {k x : Str} : x ∈ tAdd l k ↔ x ∈ l ∨ x = k := by
  unfold tAdd
  split
  · rename_i h
    exact ⟨.inl, fun z => z.elim id fun e => e ▸ h⟩
  · rw [List.mem_cons]
    exact Or.comm
theorem tAdd_len (l : List Str) (k : Str) : (tAdd l k).length ≤ l.length + 1 := by
  unfold tAdd
  split
  · omega
  · exact Nat.le_refl _
theorem tx_add {a : Addr} {l : List Str} {k : Str} {u : Tok} {Q : Bool → Shared → Prop} (T : TSet P w a l s.heap) (hb : l.length + 1 < scanBound)
    (h : ∀ (b : Bool) (h' : Heap) (tk : Nat), s.toks ≤ tk → TSet P w a (tAdd l k) h' → (∀ c o, c ≠ a → s.heap.get? c = some o → h'.get? c = some o) → Q b { s with heap := h', toks := tk }) : wpAny (model P w) A (setAdd a (.str k u)) Q E s := by
  obtain ⟨nd, D, ho, F, r, hl⟩ := T
  unfold setAdd
  refine wpAny_holding (wpAny_bind ((PySem.strKind P w).pyHash (k := k) (Froz.is_str _ _) ?_))
  by_cases hk : k ∈ l
  · have e : tAdd l k = l := if_pos hk
    refine tx_old (s := { s with toks := s.toks + 1 }) (l := l) (D := D) ho F hk (by omega) ?_
    exact h false s.heap (s.toks + 1) (Nat.le_succ _) (by rw [e]; exact ⟨nd, D, ho, F, r, hl⟩) fun _ _ _ q => q
  · have e : tAdd l k = k :: l := if_neg hk
    refine Froz.add_x (s := { s with toks := s.toks + 1 }) (l := l) (D := D) ho F hk hb ?_
    obtain ⟨r1, l1⟩ := tx_ris (hashStr w k) (.str k u) D r
    refine h true _ (s.toks + 1) (Nat.le_succ _) ?_ fun c o hc q => Heap.get?_update_of_ne _ (Ne.symm hc) q
    rw [e]
    exact ⟨List.nodup_cons.mpr ⟨hk, nd⟩, _, Froz.get_upd _ ho rfl, Froz.add_ok u F, r1, by rw [l1]; exact hl⟩
end
/-- the members, when the texts were put in one by one -/
def tAll (xs : List Str) : List Str := xs.foldl tAdd []
theorem mem_foldl_tAdd {x : Str} : ∀ (xs l : List Str), x ∈ xs.foldl tAdd l ↔ x ∈ l ∨ x ∈ xs
  | [], l => by simp
  | k :: r, l => by
    rw [List.foldl_cons, mem_foldl_tAdd r, mem_tAdd, List.mem_cons]
    constructor
    · rintro ((q | q) | q)
      · exact .inl q
      · exact .inr (.inl q)
      · exact .inr (.inr q)
    · rintro (q | q | q)
      · exact .inl (.inl q)
      · exact .inl (.inr q)
      · exact .inr q
theorem mem_tAll {x : Str} {xs : List Str} : x ∈ tAll xs ↔ x ∈ xs := by
  unfold tAll
  rw [mem_foldl_tAdd]
  simp
theorem len_foldl_tAdd : ∀ (xs l : List Str), (xs.foldl tAdd l).length ≤ l.length + xs.length
  | [], l => by simp
  | k :: r, l => by
    have a := len_foldl_tAdd r (tAdd l k)
    have b := tAdd_len l k
    rw [List.foldl_cons, List.length_cons]
    omega
theorem tAll_len (xs : List Str) : (tAll xs).length ≤ xs.length := by
  have := len_foldl_tAdd xs []
  rw [List.length_nil, Nat.zero_add] at this
  exact this
theorem tAll_snoc (xs : List Str) (k : Str) : tAll (xs ++ [k]) = tAdd (tAll xs) k := by
  unfold tAll
  rw [List.foldl_append]
  rfl
section
variable {P : Program} {w : World} {A : Around} {R : Result → Shared → Prop} {I : Addr} {fp wr : List Addr} {G : Array GenState → Array GenState → Prop} {n : Nat} {Pv : Nat → Value → Prop} {St : Nat → Shared → Prop}
/-- the loop that puts what is walked into a set of texts -/
theorem tx_loop (W : WalksS P w A.in1 I fp wr G n Pv St) (S : Addr) (hS : S ∉ fp) (xs : List Str) (hn : xs.length = n) (hb : n + 1 < scanBound) (hv : ∀ i v, Pv i v → ∃ x t, xs[i]? = some x ∧ v = .str x t) :
    ∀ (k i : Nat) (s : Shared), n - i = k → i ≤ n → St i s → TSet P w S (tAll (xs.take i)) s.heap → (∀ s', Moved (S :: wr) G s s' → TSet P w S (tAll xs) s'.heap → R (.ok (.ret .none)) s') →
      codeAny (model P w) A (.builtin "set.update.loop" ⟨[.ref S, .ref I], []⟩) R s := by
  have hw : S ∉ wr := fun z => hS (W.sub _ z)
  have up : ∀ b ∈ wr, b ∈ S :: wr := fun b z => List.mem_cons_of_mem _ z
  intro k
  induction k with
  | zero =>
    intro i s hk hi st T hR
    obtain rfl : i = n := by omega
    rw [List.take_of_length_le (Nat.le_of_eq hn)] at T
    refine codeAny_builtin PyProof.Rows.F.entry_set_update_loop ?_
    rw [Around.under_plainId PyProof.Rows.F.plain_set_update_loop _]
    show wpAny _ A.in1 (pyNext (.ref I) >>= _) _ _ s
    refine wpAny_bind (W.done s _ _ st fun s' m => ?_)
    exact wpAny_pure (hR s' (m.mono up) (T.at fun o q => m.heap S o hw q))
  | succ k ih =>
    intro i s hk hi st T hR
    have lt : i < n := by omega
    refine codeAny_builtin PyProof.Rows.F.entry_set_update_loop ?_
    rw [Around.under_plainId PyProof.Rows.F.plain_set_update_loop _]
    show wpAny _ A.in1 (pyNext (.ref I) >>= _) _ _ s
    refine wpAny_bind (W.item i s _ _ lt st fun v s1 hP st1 m1 => ?_)
    obtain ⟨x, t, ex, rfl⟩ := hv i v hP
    have T1 : TSet P w S (tAll (xs.take i)) s1.heap := T.at fun o q => m1.heap S o hw q
    have room : (tAll (xs.take i)).length + 1 < scanBound := by
      have a := tAll_len (xs.take i)
      have b := List.length_take_le i xs
      omega
    show wpAny _ A.in1 (holding [Value.str x t] (setAdd S (.str x t)) >>= _) _ _ s1
    refine wpAny_bind (wpAny_holding (tx_add T1 room fun b h2 tk htk T2 k2 => ?_))
    have e : tAll (xs.take (i + 1)) = tAdd (tAll (xs.take i)) x := by
      rw [List.take_add_one, ex]
      exact tAll_snoc _ _
    rw [← e] at T2
    refine wpAny_pure ⟨plainId_quiet PyProof.Rows.F.plain_set_update_loop _, ih (i + 1) _ (by omega) lt (W.frame _ s1 _ _ st1 htk fun c hc o q => k2 c o (fun z => hS (z ▸ hc)) q) T2 fun s3 m3 T3 => ?_⟩
    exact hR s3 (Moved.trans W.gtrans ((m1.mono up).then_heap htk fun c o hc q => k2 c o (fun z => hc (z ▸ List.mem_cons_self)) q) m3) T3
end
end LH

namespace LH
open PySem PySem.Spec PyProof.Rows L2
/-- as many and the same members, of which one list has none twice -/
theorem perm_sub : ∀ (l m : List Str), l.Nodup → m.length = l.length → (∀ x ∈ l, x ∈ m) → m.Perm l
  | [], m, _, h, _ => by rw [List.length_eq_zero_iff.mp h]
  | x :: r, m, nd, h, hs => by
    obtain ⟨n1, n2⟩ := List.nodup_cons.mp nd
    have hx := hs x List.mem_cons_self
    refine (List.perm_cons_erase hx).trans (List.Perm.cons x (perm_sub r (m.erase x) n2 ?_ fun y hy => ?_))
    · rw [List.length_erase_of_mem hx, h]
      rfl
    · have hne : y ≠ x := fun e => n1 (e ▸ hy)
      exact (List.mem_erase_of_ne hne).mpr (hs y (List.mem_cons_of_mem _ hy))
theorem TSet.perm {l m : List Str} (nd : l.Nodup) (hl : m.length = l.length) (hm : ∀ x, x ∈ l ↔ x ∈ m) : m.Perm l := perm_sub l m nd hl fun x hx => (hm x).mp hx
/-- a new set -/
abbrev set0 (w : World) : Obj := { cls := .type "set", dict := none, data := .set #[] 0 (.fresh 0 0 (!w.params.followText "set-order")) }
section
variable {P : Program} {w : World} {A : Around} {E : Value → Shared → Prop} {s : Shared}
theorem set_made (a : Value) {Q₁ : Value → Shared → Prop} (h : Q₁ (.ref s.heap.objs.size) { s with heap := s.heap.push (set0 w) }) :
    codeAny (model P w) A (.call (.builtin "set.__new__") ⟨[.type "set", a], []⟩) (wants Q₁ E) s := by
  refine codeAny_of_tree ?_
  show wpAny _ A.in1 (checkBuiltinCall "set.__new__" ⟨[.type "set", a], []⟩ >>= fun _ => again (.builtin "set.__new__" ⟨[.type "set", a], []⟩)) _ _ s
  refine wpAny_bind (wpAny_of_eq (PySem.F.newCall_set_1 a) (wpAny_pure ⟨plainId_quiet PySem.F.plain_set_new _, codeAny_builtin PySem.F.entry_set_new ?_⟩))
  rw [Around.under_plainId PySem.F.plain_set_new _]
  unfold Builtin.«set.__new__» Builtin.Frozenset.newClass
  have sb := sub_set_self
  obtain ⟨hp, g, d, tk, os⟩ := s
  dsimp only
  wp_walk
  refine wpAny_askSetting (wpAny_pure ?_)
  dsimp only
  simp only [newObj]
  exact wpAny_bind (wpAny_alloc (wpAny_pure (wpAny_pure h)))
theorem tset_new {h h' : Heap} (e : h'.get? h.objs.size = some (set0 w)) : TSet P w h.objs.size [] h' :=
  ⟨List.nodup_nil, (#[], 0, .fresh 0 0 (!w.params.followText "set-order")), e, Froz.TxOk.nil (by rfl), List.Pairwise.nil, by
    show _ ∨ (!w.params.followText "set-order") = true
    cases w.params.followText "set-order"
    · exact .inr rfl
    · exact .inl rfl⟩
set_option maxHeartbeats 4000000 in
/-- set(xs) of a list of texts -/
theorem call_setT {l : Addr} {items : Array Value} {xs : List Str} {Q : Value → Shared → Prop} (hh : A.handled = none) (hl : s.heap.IsList l items) (hi : StrsAre items.toList xs) (hb : items.size + 1 < scanBound)
    (h : ∀ (h' : Heap) (tk : Nat), TSet P w s.heap.objs.size (tAll xs) h' → (∀ b o, b < s.heap.objs.size → s.heap.get? b = some o → h'.get? b = some o) → Q (.ref s.heap.objs.size) { s with heap := h', toks := tk }) :
    wpAny (model P w) A (call (.type "set") [.ref l]) Q E s := by
  obtain ⟨c, tl, hmro⟩ := PySem.F.called_set.mro
  have hmade := PySem.F.called_set.made
  have hsub := PySem.F.called_set.sub
  refine wpAny_call (codeAny_of_tree ?_)
  show wpAny _ _ (callAny (.type "set") _) _ _ _
  refine wpAny_pure ⟨Code.quiet_builtin _ (by decide +kernel), codeAny_builtin PySem.F.entry_type_call ?_⟩
  rw [Around.under_plain (weight_type_call_type "set" [.ref l] []) rfl]
  have h1 := PySem.F.called_set.notType
  have h2 := PySem.F.called_set.canCreate
  have hct := PySem.F.typeCall_set_1 (.ref l)
  repeat (any_goals (first | assumption | wp_step))
  refine codeAny_mono (set_made (.ref l) (E := E) (Q₁ := fun obj s₁ => obj = .ref s.heap.objs.size ∧ s₁ = { s with heap := s.heap.push (set0 w) }) ⟨rfl, rfl⟩) fun r s₁ hr => ?_
  cases r with
  | error e => exact hr
  | ok fl =>
    cases fl with
    | ret obj =>
      obtain ⟨rfl, rfl⟩ := hr
      have hS : (s.heap.push (set0 w)).get? s.heap.objs.size = some (set0 w) := Heap.get?_push_size _ rfl
      have hT : Shared.TypeIs { s with heap := s.heap.push (set0 w) } (.ref s.heap.objs.size) "set" := ⟨_, hS, rfl⟩
      have hli := PySem.F.called_set.init.lookup
      have hbi := PySem.F.called_set.init.bind (.ref s.heap.objs.size)
      repeat (any_goals (first | assumption | wp_step))
      refine codeAny_mono (codeAny_call_builtin (R := wants (fun r s₂ => r = .none ∧ ∃ h' tk, s₂ = { s with heap := h', toks := tk } ∧ TSet P w s.heap.objs.size (tAll xs) h' ∧
          (∀ b o, b < s.heap.objs.size → s.heap.get? b = some o → h'.get? b = some o)) E) PySem.F.called_set.init.plain PySem.F.entry_set_init (check_set_init_1 hT ?_)) fun r₂ s₂ hr₂ => ?_
      · obtain ⟨ol, hol, hcl, nl, hdl⟩ := hl
        obtain ⟨ocls, odict, odata, oslots⟩ := ol
        simp only at hcl hdl
        subst hcl
        subst hdl
        have hol' : (s.heap.push (set0 w)).get? l = some { cls := .type "list", dict := odict, data := .seq items nl, slots := oslots } := Heap.get?_push_of_some _ hol
        have hsls := PySem.F.sub_list_set
        have hslf := PySem.F.sub_list_frozenset
        have hne : (Value.type "list" == Value.type "dict") = false := by decide
        have hl1 : (s.heap.push (set0 w)).IsList l items := ⟨_, hol', rfl, nl, rfl⟩
        unfold Builtin.«set.__init__» noKeywords Builtin.Frozenset.updateFrom
        generalize hPI : pyIter = PI
        wp_walk
        subst hPI
        refine wpAny_pyIter_list hl1 (wpAny_bind (wpAny_runValue ?_))
        have lS : l < s.heap.objs.size := Heap.lt_size hol
        have eS : (s.heap.push (set0 w)).objs.size = s.heap.objs.size + 1 := Heap.size_push ..
        have neI : l ≠ (s.heap.push (set0 w)).objs.size := by
          rw [eS]
          exact Nat.ne_of_lt (Nat.lt_succ_of_lt lS)
        have out : s.heap.objs.size ∉ [(s.heap.push (set0 w)).objs.size, l] := fun z => by
          rcases List.mem_cons.mp z with z | z
          · rw [eS] at z
            exact absurd z (Nat.ne_of_lt (Nat.lt_succ_self _))
          · exact absurd (List.mem_singleton.mp z) (Nat.ne_of_gt lS)
        have hsz : xs.length = items.size := by rw [← StrsAre.len_eq hi, Array.length_toList]
        have hv : ∀ (i : Nat) (v : Value), items[i]? = some v → ∃ x t, xs[i]? = some x ∧ v = .str x t := fun i v q => by
          have hil : i < xs.length := by
            rw [hsz]
            exact (Array.getElem?_eq_some_iff.mp q).1
          obtain ⟨t, e⟩ := SS.strs_at hi i v (by rw [Array.getElem?_toList]; exact q)
          refine ⟨_, t, ?_, e⟩
          rw [List.getD_eq_getElem?_getD, List.getElem?_eq_getElem hil]
          rfl
        refine tx_loop ((Walks.list (by show A.in1.in1.in1.handled = none; simp [hh]) _ l neI items).toS) s.heap.objs.size out xs hsz hb hv items.size 0 _ (by omega) (Nat.zero_le _) ⟨⟨_, Heap.get?_push_size _ rfl, rfl, rfl⟩, hl1.push _⟩ ?tx1 ?tx2
        case tx1 => exact tset_new (h := s.heap) (Heap.get?_push_of_some _ hS)
        case tx2 =>
          intro s' m T
          obtain ⟨h', g', d', tk', os'⟩ := s'
          obtain rfl : g' = s.gens := m.gens
          obtain rfl : d' = s.drawn := m.drawn
          obtain rfl : os' = s.os := m.os
          refine wpAny_pure (wpAny_pure ⟨rfl, h', tk', rfl, T, fun b o q e => ?_⟩)
          refine m.heap b o (fun z => ?_) (Heap.get?_push_of_some _ (Heap.get?_push_of_some _ e))
          rcases List.mem_cons.mp z with z | z
          · exact absurd z (Nat.ne_of_lt q)
          · have z := List.mem_singleton.mp z
            rw [eS] at z
            exact absurd z (Nat.ne_of_lt (Nat.lt_succ_of_lt q))
      · cases r₂ with
        | error e => exact hr₂
        | ok fl₂ =>
          cases fl₂ with
          | ret r =>
            obtain ⟨rfl, h', tk, rfl, T, hk⟩ := hr₂
            repeat (any_goals (first | assumption | wp_step))
            exact h _ _ T hk
          | _ => exact hr₂.elim
    | _ => exact hr.elim
/-- sorted(found) of a set of texts -/
theorem call_sortedT {a : Addr} {l : List Str} {Q : Value → Shared → Prop} (T : TSet P w a l s.heap) (hh : A.handled = none) (hb : l.length < scanBound)
    (hQ : ∀ s' p (out : Array Value) (c : Nat) (ys : List Str), (∀ b o, s.heap.get? b = some o → s'.heap.get? b = some o) → s'.gens = s.gens → s'.os = s.os → s.heap.objs.size ≤ p →
      s'.heap.get? p = some (seqObj "list" out c) → StrsAre out.toList ys → ys.Perm l → sortedS ys = true → Q (.ref p) s') :
    wpAny (model P w) A (call (.builtin "sorted") [.ref a]) Q E s := by
  obtain ⟨nd, D, ho, F, r, hl⟩ := T
  have hsz : D.1.size < scanBound := by rw [F.sz]; exact hb
  refine Calls.call_function_entry kind_sorted plain_sorted entry_sorted (args_sorted1 _) ?_
  unfold Builtin.«sorted»
  refine wpAny_bind (m := checkCount "sorted" 1 1 _) (wpAny_pure ?_)
  refine wpAny_bind (collect_set (A := A.in1) (es := D.1) (ep := D.2.1) (t := D.2.2) hh ⟨_, ho, rfl, rfl⟩ F.fit hsz r hl fun s1 vs k1 hz g1 o1 pm => ?_)
  have all : ∀ v ∈ vs, ∃ x t, v = Value.str x t := fun v hv => by
    obtain ⟨e, he, rfl⟩ := List.mem_map.mp (pm.mem_iff.mp hv)
    obtain ⟨⟨k, hk, _⟩, _⟩ := F.el e he
    have hk : Value.isStrOf k e.2 = true := hk
    cases q : e.2 with
    | str x t => exact ⟨x, t, rfl⟩
    | _ =>
      rw [q] at hk
      cases hk
  have hS : StrsAre vs (vs.map strOf) := strsAre_map vs all
  have hvl : vs.length ≤ sizeLine := by
    rw [pm.length_eq, List.length_map, Array.length_toList]
    exact fits_of_scanBound hsz
  refine wpAny_bind (wpAny_newList ?_ hvl)
  have hoL : (s1.heap.push (seqObj "list" vs.toArray 0)).get? s1.heap.objs.size = some (seqObj "list" vs.toArray 0) := Heap.get?_push_size _ rfl
  refine wpAny_bind (wpAny_holding (wpAny_call_entry slot_list_sort ⟨_, hoL, rfl⟩ entry_list_sort (list_sort_treeKAny strKind_oneLt hoL hS.keysOf (fun v₁ v₂ rest e => keyKind_strs (by rw [← e]; exact hS)) hvl fun st' hp hs => ⟨_, rfl, ?_⟩) (args_list_sort _)))
  obtain ⟨ys, a1, a2, a3⟩ := sorted_out_str hS hp hs
  obtain ⟨c, hc⟩ := sortedHeap_at (vs := vs) (out := (arrOf st').map (·.2)) hoL
  refine wpAny_pure ⟨_, rfl, hQ _ s1.heap.objs.size _ c ys (fun b u e => ?_) g1 o1 hz hc a1 (a2.trans ?_) a3⟩
  · have q := k1 b u e
    have hlt := Heap.lt_size q
    refine (sortedHeap_old (Nat.ne_of_lt hlt) ?_).trans (Heap.get?_push_of_some _ q)
    exact Nat.lt_of_lt_of_eq (Nat.lt_succ_of_lt hlt) (size_push' ..).symm
  · -- the texts of the entries are just l
    have p1 : (vs.map strOf).Perm (D.1.toList.map fun e => strOf e.2) := by
      have q := pm.map strOf
      rw [List.map_map] at q
      exact q
    have key : ∀ e ∈ D.1.toList, ∀ k : Str, (PySem.strKind P w).is k e.2 = true ↔ strOf e.2 = k := fun e he k => by
      obtain ⟨⟨k0, hk0, _⟩, _⟩ := F.el e he
      have e0 : strOf e.2 = k0 := by
        have hk0 : Value.isStrOf k0 e.2 = true := hk0
        cases q : e.2 with
        | str x t =>
          rw [q] at hk0
          have : (x == k0) = true := by simpa [Value.isStrOf] using hk0
          exact eq_of_beq this
        | _ =>
          rw [q] at hk0
          cases hk0
      constructor
      · intro hk
        rw [e0]
        exact (PySem.strKind P w).inj e.2 k0 k hk0 hk
      · intro hk
        rw [← hk, e0]
        exact hk0
    refine p1.trans (TSet.perm nd ?_ fun x => ?_)
    · rw [List.length_map, Array.length_toList]
      exact F.sz
    · rw [F.mem x, List.mem_map]
      constructor
      · rintro ⟨e, he, q⟩
        exact ⟨e, he, (key e he x).mp q⟩
      · rintro ⟨e, he, q⟩
        exact ⟨e, he, (key e he x).mpr q⟩
end
end LH

namespace LH
open PySem PySem.Spec PyProof.Rows L2
/-- an expression that changes nothing, by its value -/
def tPure (t : TE) : TE := fun σ H Q => ∃ v, t σ H (fun x H' => x = v ∧ H' = H) ∧ Q v H
theorem pe_pure {X : Cx} {e : Expr} {t : TE} (h : PE X e t) : PE X e (tPure t) := by
  refine ⟨fun pins s σ H Q I q => ?_⟩
  obtain ⟨v, h1, h2⟩ := q
  refine thn (h.run pins s σ H _ I h1) fun u s1 ⟨x, H1, I1, r, e1, e2⟩ => ?_
  subst e1
  subst e2
  exact ⟨x, H1, I1, r, h2⟩
/-! ### a new pair at each turn -/
def Itp (n : Nat) (xs ys : Nat → Option V) : It := ⟨fun i _ => i < n, YPair xs ys, fun i _ => i = n⟩
theorem walk_Itp {n : Nat} {xs ys : Nat → Option V} : Walk (Itp n xs ys) n (fun _ => True) (YPair xs ys) := ⟨fun _ _ h _ => h, fun _ _ => rfl, fun _ _ _ _ _ _ y => y⟩
/-- a walk that hands out pairs of its own, as a turn -/
theorem turn_T {P : Program} {w : World} {K : PySem.W.Frag} {elts : List Expr} {kk n : Nat} {tpos : Pos} {xs ys : Nat → Option V} {it : Addr} {fp wr : List Addr} {Pt : Nat → Array Value → Prop} {St : Nat → Heap → Prop} {Mid : Nat → Addr → Heap → Prop}
    (W : ∀ A : Around, A.handled = none → WalksT P w A it fp wr n Pt St Mid) (hit : it ∈ fp) (ob : ∀ i h, St i h → ∀ b ∈ fp, ∃ o, h.get? b = some o ∧ ∀ v, o.data ≠ .cell v)
    (hp : ∀ i vals, Pt i vals → ∃ x y u v, vals = #[u, v] ∧ xs i = some x ∧ ys i = some y ∧ RelV x u ∧ RelV y v)
    (sf : ∀ (A : Around) (i : Nat) (s : Shared) (Q : Value → Shared → Prop) (E : Value → Shared → Prop), St i s.heap → Q (.ref it) s → wpAny (model P w) A (pyIter (.ref it)) Q E s) :
    Turn P w K (.Tuple elts kk tpos) (Itp n xs ys) fp it St where
  mem := hit
  obj := ob
  keep := fun i h h' st k => (W {} rfl).frame i h h' st k
  item := by
    intro X hP hw hK hc i pins s σ H E I hf st hg
    subst hP hw hK
    have W0 := W X.A (I.ok.hd hc)
    refine W0.item i s _ _ hg st fun T vals h1 tk hv hT tup mid k1 => ?_
    obtain ⟨x, y, u, v, rfl, ex, ey, rx, ry⟩ := hp i vals hv
    refine ⟨_, rfl, W0.go elts kk tpos i T _ _ _ mid fun h2 st2 k2 => ?_⟩
    have tup2 : h2.IsTuple T #[u, v] := tup.at fun o q => k2 T o (W0.apart i T h1 mid) q
    have I1 : Inv X pins σ (upd H T (.tup [x, y])) { s with heap := h2, toks := tk } :=
      I.turnedNew (ch := wr) (fun b o hb q => k2 b o hb (k1 b o hb q)) (fun b hb => hf b (W0.sub b hb)) hT ⟨by show 2 ≤ sizeLine; decide, [u, v], .cons rx (.cons ry .nil), tup2⟩
    refine ⟨.ref T, _, I1, rfl, ⟨T, x, y, rfl, I.hok.fresh hT, rfl, ex, ey⟩, st2, fun b hb => ?_⟩
    obtain ⟨o, q, _⟩ := ob i s.heap st b hb
    rw [upd_ne (Nat.ne_of_lt (Nat.lt_of_lt_of_le (Heap.lt_size q) hT))]
    exact (hf b hb).1
  done := by
    intro X hP hw hK hc i pins s σ H E I hf st hg
    subst hP hw hK
    have W0 := W X.A (I.ok.hd hc)
    obtain rfl : i = n := hg
    exact W0.done s _ _ st fun h1 tk k1 => ⟨rfl, I.turnedL (ch := wr) (fun b o hb q => k1 b o hb q) fun b hb => hf b (W0.sub b hb)⟩
  self := sf
/-! ### enumerate(text) -/
def signAt (z : Str) (i : Nat) : Option V := (z.cps[i]?).map fun c => .str ⟨#[c]⟩
def iEnumS (ta : TA) : TI := fun σ H R => ta σ H fun vs H1 => ∃ z : Str, vs = [.str z] ∧ R (Itp z.cps.size (fun i => some (.int (i : Nat))) (signAt z)) H1
theorem pi_enumS {X : Cx} {e : Expr} {ta : TA} {p pos tpos : Pos} {elts : List Expr} {kk : Nat} (hg : Gl X "enumerate") (hm : X.mg "enumerate" = none) (ha : PA X [e] ta) (hs : starEach [e] X.env = [(false, eval e X.env)] := by rfl) :
    PI X (.Tuple elts kk tpos) (.Call (.Name "enumerate" p) [e] [] pos) (iEnumS ta) := by
  refine ⟨fun pins s σ H R I h => ?_⟩
  refine Call_ (ld_blt I hg hm boot_enumerate (PyProof.Rows.callWith_type1 (thn (ha.run pos pins s σ H _ I h) fun us s1 ⟨vs, H1, I1, r1, q1⟩ => ?_) hs rfl))
  obtain ⟨z, ex, q⟩ := q1
  subst ex
  obtain ⟨u, rfl, rx⟩ := vals1 r1
  obtain ⟨t, rfl⟩ := rx
  refine call_enumerate_str fun h1 he hi hsz k1 => wpAny_pyIter_enum he ?_
  have I2 : Inv X pins σ H1 { s1 with heap := h1 } := I1.kept (t' := s1.toks) k1
  have hne : s1.heap.objs.size + 1 ≠ s1.heap.objs.size := Nat.succ_ne_self _
  refine ⟨s1.heap.objs.size + 1, [s1.heap.objs.size + 1, s1.heap.objs.size], _, _, H1, rfl, I2,
    turn_T (St := fun i h => (∃ old, IsEnum h (s1.heap.objs.size + 1) s1.heap.objs.size i old) ∧ h.IsStrIter s1.heap.objs.size (strIterType z) z t i)
      (fun A hA => WalksT.enumerateD (Draws.text (A := A.in1) hA s1.heap.objs.size z t) (s1.heap.objs.size + 1) hne (by simp) (by simp)) (by simp) (fun i h st b hb => ?_) (fun i vals hv => ?_) (fun A i s Q E st hQ => ?_), ⟨⟨.none, he⟩, hi⟩, fun b hb => ?_, q⟩
  · obtain ⟨⟨old, e1⟩, ⟨o, e2, c2, d2⟩⟩ := st
    have e' : b = s1.heap.objs.size + 1 ∨ b = s1.heap.objs.size := by simpa using hb
    rcases e' with y | y
    · rw [y]
      exact ⟨_, e1, fun v q => nomatch q⟩
    · rw [y]
      exact ⟨o, e2, fun v q => by rw [d2] at q; cases q⟩
  · obtain ⟨t', x, ⟨c, u, hc, rfl⟩, rfl⟩ := hv
    refine ⟨.int (i : Nat), .str ⟨#[c]⟩, _, _, rfl, rfl, ?_, ⟨_, rfl⟩, ⟨_, rfl⟩⟩
    unfold signAt
    rw [hc]
    rfl
  · obtain ⟨⟨old, e1⟩, _⟩ := st
    exact wpAny_pyIter_enum e1 hQ
  · have e' : b = s1.heap.objs.size + 1 ∨ b = s1.heap.objs.size := by simpa using hb
    have hle : s1.heap.objs.size ≤ b := by
      rcases e' with y | y
      · rw [y]
        exact Nat.le_add_right _ _
      · rw [y]
        exact Nat.le_refl _
    exact I1.fpOk hle (I1.hok.fresh hle)
/-! ### the set rules -/
/-- the set of the texts l at a -/
def SetT (P : Program) (w : World) (a : Addr) (l : List Str) : HO := .ext (TSet P w a l)
section
variable {X : Cx}
theorem setT_new {P : Program} {w : World} {H : Hp} {h : Heap} {a : Addr} {l : List Str} (T : TSet P w a l h) : ObjOk P w H h a (SetT P w a l) := by
  have ⟨_, D, e, _⟩ := T
  exact ⟨T, ⟨_, e⟩, fun h1 h2 p k => p.at k⟩
/-- set(xs), texts; the set stays nowhere but here -/
def rSetL (P : Program) (w : World) (K : PySem.W.Frag) : List V → Hp → VK → Prop := fun xs H Q => ∃ (a : Addr) (ys : List Str), xs = [.ref a] ∧ SqL K H a (ys.map V.str) ∧ ys.length ≤ 4000 ∧ ∀ p, H p = none → Q (.ref p) (upd H p (SetT P w p (tAll ys)))
theorem cr_setL (hc : X.calm = true) : CallR X (.type "set") (rSetL X.prog X.w X.K) := by
  intro pins s σ H xs us Q I r h
  obtain ⟨a, ys, rfl, hs, hl, q⟩ := h
  obtain ⟨its, rv, pl, _⟩ := I.list hs
  rw [Vals.ref1 r]
  have hlen := rv.length
  rw [List.length_map] at hlen
  refine call_setT (I.ok.hd hc) pl.isList (by simpa using rv.strs) (by rw [List.size_toArray, ← hlen]; unfold scanBound; omega) fun h1 tk T k1 => ?_
  refine ⟨.ref s.heap.objs.size, _, I.laid (t' := tk) (fun b o e => k1 b o (Heap.lt_size e) e) (Nat.le_refl _) (setT_new T), rfl, q _ (I.hok.fresh (Nat.le_refl _))⟩
/-- sorted(found) -/
def rSortT (P : Program) (w : World) : List V → Hp → VK → Prop := fun xs H Q => ∃ (a : Addr) (l : List Str), xs = [.ref a] ∧ H a = some (SetT P w a l) ∧ l.length ≤ 4000 ∧ ∀ ys p, ys.Perm l → sortedS ys = true → H p = none → Q (.ref p) (upd H p (.lst (ys.map V.str)))
theorem cr_sortT (hc : X.calm = true) : CallR X (.builtin "sorted") (rSortT X.prog X.w) := by
  intro pins s σ H vs us Q I r h
  obtain ⟨a, l, rfl, ha, hl, q⟩ := h
  have T : TSet X.prog X.w a l s.heap := (I.hok a _ ha).1
  rw [Vals.ref1 r]
  refine call_sortedT T (I.ok.hd hc) (by unfold scanBound; omega) fun s' p out c ys k g o hp hg hi pm hs => ?_
  have hlen : (ys.map V.str).length ≤ sizeLine := by
    rw [List.length_map, pm.length_eq]
    exact Nat.le_trans hl (by decide)
  have hn : H p = none := I.hok.fresh hp
  have J : Inv X pins σ (upd H p (.lst (ys.map V.str))) { s with heap := s'.heap, gens := s'.gens, drawn := s'.drawn, toks := s'.toks } :=
    I.call (ch := []) (Un.laid k hp hn) (I.hok.laid k hp ⟨hlen, out.toList, c, vals_of_strs hi, hg⟩) (by rw [g]; exact I.bare) (fun _ z => nomatch z)
  have e : s' = { s with heap := s'.heap, gens := s'.gens, drawn := s'.drawn, toks := s'.toks } := by
    cases s'
    cases s
    cases o
    rfl
  rw [e]
  exact ⟨.ref p, _, J, rfl, q ys p pm hs hn⟩
end
section
variable {X : Cx} (P : Program) (w : World) (K : PySem.W.Frag) (hP : X.prog = P) (hw : X.w = w) (hK : X.K = K) (hc : X.calm = true)
include hP hw hc
theorem cr_sortTK : CallR X (.builtin "sorted") (rSortT P w) := by subst hP hw; exact cr_sortT hc
include hK
theorem cr_setLK : CallR X (.type "set") (rSetL P w K) := by subst hP hw hK; exact cr_setL hc
end
/-! ### what is sorted and has no text twice is told by its members -/
theorem sortedS_pw : ∀ {l : List Str}, sortedS l = true → l.Pairwise fun a b => ltCps b.cps.toList a.cps.toList = false := by
  have tr : ∀ a b c : List Nat, ltCps b a = false → ltCps c b = false → ltCps c a = false := fun a b c h1 h2 => by
    rw [ltCps_eq] at h1 h2 ⊢
    have h1 := of_decide_eq_false h1
    have h2 := of_decide_eq_false h2
    exact decide_eq_false fun h => h1 (Std.lt_of_le_of_lt (Std.not_lt.mp h2) h)
  have go : ∀ (l : List Str) (p : Str), risingS p l = true → (p :: l).Pairwise fun a b => ltCps b.cps.toList a.cps.toList = false := by
    intro l
    induction l with
    | nil => intro p _; exact List.pairwise_singleton _ _
    | cons x r ih =>
      intro p h
      have h : (!ltCps x.cps.toList p.cps.toList && risingS x r) = true := h
      rw [Bool.and_eq_true] at h
      have i := ih x h.2
      have h1 : ltCps x.cps.toList p.cps.toList = false := by simpa using h.1
      refine List.Pairwise.cons (fun y hy => ?_) i
      rcases List.mem_cons.mp hy with rfl | hy
      · exact h1
      · exact tr _ _ _ h1 (List.rel_of_pairwise_cons i hy)
  intro l h
  cases l with
  | nil => exact List.Pairwise.nil
  | cons x r => exact go r x h
theorem sorted_one {l m : List Str} (h1 : sortedS l = true) (h2 : sortedS m = true) (p : l.Perm m) : l = m := by
  refine List.Perm.eq_of_pairwise (le := fun a b => ltCps b.cps.toList a.cps.toList = false) (fun a b _ _ q1 q2 => ?_) (sortedS_pw h1) (sortedS_pw h2) p
  rw [ltCps_eq] at q1 q2
  have q1 := of_decide_eq_false q1
  have q2 := of_decide_eq_false q2
  have e : a.cps.toList = b.cps.toList := Std.le_antisymm (Std.not_lt.mp q1) (Std.not_lt.mp q2)
  obtain ⟨⟨a⟩⟩ := a
  obtain ⟨⟨b⟩⟩ := b
  have e : a = b := e
  rw [e]
end LH

namespace LH
open PySem PySem.Spec PyProof.Rows L2
def topS (i : Nat) : Stmt := PySem.Challenge.pw_likehands_k14_worlds_written.main.body.getD i (.Pass ⟨0, 0, 0, 0⟩)
abbrev s_show_world : Stmt := topS 1
abbrev N_show_world : List Str := ["world", "letters", "shape", "rules", "begin", "bad", "lines", "rule", "line"]
theorem sc_show_world : FnScope N_show_world ["world"] (defScope s_show_world) := ⟨rfl, rfl, rfl, by decide +kernel, rfl, by decide +kernel, by decide +kernel⟩
abbrev s_show_rule : Stmt := topS 2
abbrev N_show_rule : List Str := ["rule", "kind", "x", "y", "u", "v", "more", "how", "where", "some"]
theorem sc_show_rule : FnScope N_show_rule ["rule"] (defScope s_show_rule) := ⟨rfl, rfl, rfl, by decide +kernel, rfl, by decide +kernel, by decide +kernel⟩
abbrev s_law_well : Stmt := topS 4
abbrev N_law_well : List Str := ["cell"]
theorem sc_law_well : FnScope N_law_well ["cell"] (defScope s_law_well) := ⟨rfl, rfl, rfl, by decide +kernel, rfl, by decide +kernel, by decide +kernel⟩
abbrev s_law_draw : Stmt := topS 5
abbrev N_law_draw : List Str := ["well", "many", "got", "stirred"]
theorem sc_law_draw : FnScope N_law_draw ["well", "many"] (defScope s_law_draw) := ⟨rfl, rfl, rfl, by decide +kernel, rfl, by decide +kernel, by decide +kernel⟩
abbrev s_law_letters : Stmt := topS 6
abbrev N_law_letters : List Str := ["well", "signs", "k"]
theorem sc_law_letters : FnScope N_law_letters ["well"] (defScope s_law_letters) := ⟨rfl, rfl, rfl, by decide +kernel, rfl, by decide +kernel, by decide +kernel⟩
abbrev s_law_one_of : Stmt := topS 7
abbrev N_law_one_of : List Str := ["well", "letters"]
theorem sc_law_one_of : FnScope N_law_one_of ["well", "letters"] (defScope s_law_one_of) := ⟨rfl, rfl, rfl, by decide +kernel, rfl, by decide +kernel, by decide +kernel⟩
abbrev s_law_some : Stmt := topS 8
abbrev N_law_some : List Str := ["well", "letters", "found", "sign"]
theorem sc_law_some : FnScope N_law_some ["well", "letters"] (defScope s_law_some) := ⟨rfl, rfl, rfl, by decide +kernel, rfl, by decide +kernel, by decide +kernel⟩
abbrev s_law_rule : Stmt := topS 9
abbrev N_law_rule : List Str := ["well", "letters", "shape", "kind", "x", "y", "where", "guard", "letter"]
theorem sc_law_rule : FnScope N_law_rule ["well", "letters", "shape", "kind"] (defScope s_law_rule) := ⟨rfl, rfl, rfl, by decide +kernel, rfl, by decide +kernel, by decide +kernel⟩
abbrev s_law_item : Stmt := topS 10
abbrev N_law_item : List Str := ["well", "letters", "one"]
theorem sc_law_item : FnScope N_law_item ["well", "letters"] (defScope s_law_item) := ⟨rfl, rfl, rfl, by decide +kernel, rfl, by decide +kernel, by decide +kernel⟩
abbrev s_law_pattern : Stmt := topS 11
abbrev N_law_pattern : List Str := ["well", "letters", "branches", "left", "k", "items", "j", "text"]
theorem sc_law_pattern : FnScope N_law_pattern ["well", "letters"] (defScope s_law_pattern) := ⟨rfl, rfl, rfl, by decide +kernel, rfl, by decide +kernel, by decide +kernel⟩
abbrev s_law_world : Stmt := topS 12
abbrev N_law_world : List Str := ["well", "letters", "shape", "many", "rules", "k"]
theorem sc_law_world : FnScope N_law_world ["well"] (defScope s_law_world) := ⟨rfl, rfl, rfl, by decide +kernel, rfl, by decide +kernel, by decide +kernel⟩
abbrev s_law_line : Stmt := topS 13
abbrev N_law_line : List Str := ["rule", "words"]
theorem sc_law_line : FnScope N_law_line ["rule"] (defScope s_law_line) := ⟨rfl, rfl, rfl, by decide +kernel, rfl, by decide +kernel, by decide +kernel⟩
abbrev s_law_text : Stmt := topS 14
abbrev N_law_text : List Str := ["world", "lines", "rule", "line"]
theorem sc_law_text : FnScope N_law_text ["world"] (defScope s_law_text) := ⟨rfl, rfl, rfl, by decide +kernel, rfl, by decide +kernel, by decide +kernel⟩
abbrev s_law_known : Stmt := topS 15
abbrev N_law_known : List Str := ["rules", "lines"]
theorem sc_law_known : FnScope N_law_known [] (defScope s_law_known) := ⟨rfl, rfl, rfl, by decide +kernel, rfl, by decide +kernel, by decide +kernel⟩
abbrev s_law : Stmt := topS 16
abbrev N_law : List Str := ["script", "cell", "world", "text", "found"]
theorem sc_law : FnScope N_law ["script"] (defScope s_law) := ⟨rfl, rfl, rfl, by decide +kernel, rfl, by decide +kernel, by decide +kernel⟩
structure TX (K : PySem.W.Frag) (mg : Str → Option Value) where
  a_show_world : Addr
  fd_show_world : FuncData
  F_show_world : Fun K "show_world" "show_world" s_show_world a_show_world fd_show_world
  b_show_world : Binds K fd_show_world ["world"] []
  g_show_world : mg "show_world" = some (.ref a_show_world)
  a_show_rule : Addr
  fd_show_rule : FuncData
  F_show_rule : Fun K "show_rule" "show_rule" s_show_rule a_show_rule fd_show_rule
  b_show_rule : Binds K fd_show_rule ["rule"] []
  g_show_rule : mg "show_rule" = some (.ref a_show_rule)
  a_law_well : Addr
  fd_law_well : FuncData
  F_law_well : Fun K "_law_well" "_law_well" s_law_well a_law_well fd_law_well
  b_law_well : Binds K fd_law_well ["cell"] []
  g_law_well : mg "_law_well" = some (.ref a_law_well)
  a_law_draw : Addr
  fd_law_draw : FuncData
  F_law_draw : Fun K "_law_draw" "_law_draw" s_law_draw a_law_draw fd_law_draw
  b_law_draw : Binds K fd_law_draw ["well", "many"] []
  g_law_draw : mg "_law_draw" = some (.ref a_law_draw)
  a_law_letters : Addr
  fd_law_letters : FuncData
  F_law_letters : Fun K "_law_letters" "_law_letters" s_law_letters a_law_letters fd_law_letters
  b_law_letters : Binds K fd_law_letters ["well"] []
  g_law_letters : mg "_law_letters" = some (.ref a_law_letters)
  a_law_one_of : Addr
  fd_law_one_of : FuncData
  F_law_one_of : Fun K "_law_one_of" "_law_one_of" s_law_one_of a_law_one_of fd_law_one_of
  b_law_one_of : Binds K fd_law_one_of ["well", "letters"] []
  g_law_one_of : mg "_law_one_of" = some (.ref a_law_one_of)
  a_law_some : Addr
  fd_law_some : FuncData
  F_law_some : Fun K "_law_some" "_law_some" s_law_some a_law_some fd_law_some
  b_law_some : Binds K fd_law_some ["well", "letters"] []
  g_law_some : mg "_law_some" = some (.ref a_law_some)
  a_law_rule : Addr
  fd_law_rule : FuncData
  F_law_rule : Fun K "_law_rule" "_law_rule" s_law_rule a_law_rule fd_law_rule
  b_law_rule : Binds K fd_law_rule ["well", "letters", "shape", "kind"] []
  g_law_rule : mg "_law_rule" = some (.ref a_law_rule)
  a_law_item : Addr
  fd_law_item : FuncData
  F_law_item : Fun K "_law_item" "_law_item" s_law_item a_law_item fd_law_item
  b_law_item : Binds K fd_law_item ["well", "letters"] []
  g_law_item : mg "_law_item" = some (.ref a_law_item)
  a_law_pattern : Addr
  fd_law_pattern : FuncData
  F_law_pattern : Fun K "_law_pattern" "_law_pattern" s_law_pattern a_law_pattern fd_law_pattern
  b_law_pattern : Binds K fd_law_pattern ["well", "letters"] []
  g_law_pattern : mg "_law_pattern" = some (.ref a_law_pattern)
  a_law_world : Addr
  fd_law_world : FuncData
  F_law_world : Fun K "_law_world" "_law_world" s_law_world a_law_world fd_law_world
  b_law_world : Binds K fd_law_world ["well"] []
  g_law_world : mg "_law_world" = some (.ref a_law_world)
  a_law_line : Addr
  fd_law_line : FuncData
  F_law_line : Fun K "_law_line" "_law_line" s_law_line a_law_line fd_law_line
  b_law_line : Binds K fd_law_line ["rule"] []
  g_law_line : mg "_law_line" = some (.ref a_law_line)
  a_law_text : Addr
  fd_law_text : FuncData
  F_law_text : Fun K "_law_text" "_law_text" s_law_text a_law_text fd_law_text
  b_law_text : Binds K fd_law_text ["world"] []
  g_law_text : mg "_law_text" = some (.ref a_law_text)
  a_law_known : Addr
  fd_law_known : FuncData
  F_law_known : Fun K "_law_known" "_law_known" s_law_known a_law_known fd_law_known
  b_law_known : Binds K fd_law_known [] []
  g_law_known : mg "_law_known" = some (.ref a_law_known)
  m_isinstance : mg "isinstance" = none
  m_len : mg "len" = none
  m_min : mg "min" = none
  m_range : mg "range" = none
  m_repr : mg "repr" = none
  m_set : mg "set" = none
  m_sorted : mg "sorted" = none
  m_str : mg "str" = none
  m_tuple : mg "tuple" = none
/-! ### wells -/
def RowAt (H : Hp) (r : Addr) : Prop := ∃ a b : Int, H r = some (.lst [.int a, .int b]) ∧ 0 ≤ b ∧ b < 2147483629
/-- all that was tracked, but for what stands at r, is as it was -/
def Off (r : Addr) (H H' : Hp) : Prop := ∀ b o, b ≠ r → H b = some o → H' b = some o
theorem Off.refl (r : Addr) (H : Hp) : Off r H H := fun _ _ _ h => h
theorem Off.trans {r : Addr} {H H1 H2 : Hp} (a : Off r H H1) (b : Off r H1 H2) : Off r H H2 := fun c o n h => b c o n (a c o n h)
theorem Off.of {r : Addr} {H H' : Hp} (a : Same H H') : Off r H H' := fun c o _ h => a c o h
theorem Off.new {r p : Addr} {H : Hp} {o : HO} (h : H p = none) : Off r H (upd H p o) := fun b x _ e => by
  rw [upd_ne (ne_of_none e h)]
  exact e
theorem Off.put {r : Addr} {H : Hp} {o : HO} : Off r H (upd H r o) := fun b x n e => by
  rw [upd_ne n]
  exact e
theorem Off.mut {r p : Addr} {H H' : Hp} {o : HO} (e : Off r H H') (h : H p = none) : Off r H (upd H' p o) := fun a u n ha => by
  rw [upd_ne (ne_of_none ha h)]
  exact e a u n ha
theorem Off.free {r p : Addr} {H H' : Hp} (e : Off r H H') (hr : r ≠ p) (h : H' p = none) : H p = none := by
  cases q : H p with
  | none => rfl
  | some o =>
    rw [e p o (Ne.symm hr) q] at h
    cases h
theorem RowAt.new {r p : Addr} {H : Hp} {o : HO} (x : RowAt H r) (h : H p = none) : RowAt (upd H p o) r := by
  obtain ⟨a, b, e, q⟩ := x
  exact ⟨a, b, by rw [upd_ne (ne_of_none e h)]; exact e, q⟩
theorem RowAt.upd {r p : Addr} {H : Hp} {o : HO} (x : RowAt H r) (h : r ≠ p) : RowAt (upd H p o) r := by
  obtain ⟨a, b, e, q⟩ := x
  exact ⟨a, b, by rw [upd_ne h]; exact e, q⟩
theorem RowAt.ne {r p : Addr} {H : Hp} (x : RowAt H r) (h : H p = none) : r ≠ p := by
  obtain ⟨a, b, e, q⟩ := x
  exact ne_of_none e h
theorem RowAt.neT {r p : Addr} {H : Hp} {xs : List V} (x : RowAt H r) (h : H p = some (.tup xs)) : p ≠ r := by
  obtain ⟨a, b, e, q⟩ := x
  exact ne_of h e (by intro z; cases z)
theorem same_new {H : Hp} {p : Addr} {o : HO} (h : H p = none) : Same H (upd H p o) := fun b x e => by
  rw [upd_ne (ne_of_none e h)]
  exact e
section
variable {P : Program} {w : World} {K : PySem.W.Frag} {mg : Str → Option Value} {base : Heap}
/-! ### _law_well -/
def sp_law_well : Sp := fun vs H Q _ => ∃ c : Int, vs = [.int c] ∧ ∀ H' p, Same H H' → H p = none → RowAt H' p → Q (.ref p) H'
theorem ok_law_well (T : TX K mg) : FnOk P w K mg base CX0 1 T.a_law_well T.fd_law_well ["cell"] sp_law_well := by
  refine T.F_law_well.ok sc_law_well (fun vs H Q E h => ?_) (fun cdv A outer s H vs Q E hr h => ?_)
  · obtain ⟨c, rfl, _⟩ := h
    rfl
  · obtain ⟨c, rfl, q⟩ := h
    refine ⟨_, (pss_cons (ps_if (pt_cmpR op_ge (pv 0) (pe_op op_pow pe_int pe_int) (nomark _))
        (pss_one (ps_ret (pe_lst (pa_cons (pv 0) (pa_cons (pe_op op_mod (pv 0) pe_int) pa_nil)))))
        pss_nil)
      (pss_one (ps_ret (pe_lst (pa_cons pe_int (pa_cons (pe_op op_mod (pv 0) pe_int) pa_nil)))))), ?_⟩
    have h0 : 0 ≤ c % 2147483629 := Int.emod_nonneg _ (by decide)
    have h1 : c % 2147483629 < 2147483629 := Int.emod_lt_of_pos _ (by decide)
    refine ⟨.int c, rfl, 10, 18, rfl, rfl, ⟨by decide, by decide, by decide⟩, c, 10 ^ 18, rfl, rfl, _, rfl, ite2 (fun e => ?_) (fun e => ?_)⟩
    · refine ⟨.int c, rfl, .int c, rfl, c, 2147483629, rfl, rfl, (by show (0 : Int) < 2147483629; decide), by show 2 ≤ sizeLine; decide, fun p hp => ?_⟩
      exact q _ p (same_new hp) hp ⟨c, _, upd_same, h0, h1⟩
    · refine ⟨.int c, rfl, c, 2147483629, rfl, rfl, (by show (0 : Int) < 2147483629; decide), by show 2 ≤ sizeLine; decide, fun p hp => ?_⟩
      exact q _ p (same_new hp) hp ⟨0, _, upd_same, h0, h1⟩
/-! ### _law_draw -/
def sp_law_draw : Sp := fun vs H Q _ => ∃ (r : Addr) (n : Int), vs = [.ref r, .int n] ∧ RowAt H r ∧ 0 < n ∧ n < 1073741824 ∧ ∀ H' g, Off r H H' → RowAt H' r → 0 ≤ g → g < n → Q (.int g) H'
theorem ok_law_draw (T : TX K mg) : FnOk P w K mg base CX0 1 T.a_law_draw T.fd_law_draw ["well", "many"] sp_law_draw := by
  refine T.F_law_draw.ok sc_law_draw (fun vs H Q E h => ?_) (fun cdv A outer s H vs Q E hr h => ?_)
  · obtain ⟨r, n, rfl, _⟩ := h
    rfl
  · obtain ⟨r, n, rfl, ⟨a, b, hrow, hb0, hb1⟩, hn0, hn1, q⟩ := h
    refine ⟨_, (pss_cons (ps_if (pt_cmpR op_gt (pe_ix (ix_listK K rfl) (pv 0) pe_int (fun _ _ => rfl)) pe_int (nomark _))
        (pss_cons (ps_set (i := 2) sc_law_draw.nd rfl (Or.inl rfl) (pe_op op_mod (pe_ix (ix_listK K rfl) (pv 0) pe_int (fun _ _ => rfl)) (pv 1)))
          (pss_cons (ps_asg (pe_op op_fdiv (pe_ix (ix_listK K rfl) (pv 0) pe_int (fun _ _ => rfl)) (pv 1)) (pg_sub (pv 0) pe_int set_list))
          (pss_one (ps_ret (pv 2)))))
        pss_nil)
      (pss_cons (ps_set (i := 3) sc_law_draw.nd rfl (Or.inl rfl) (pe_op op_mod (pe_op op_add (pe_op op_mul (pe_ix (ix_listK K rfl) (pv 0) pe_int (fun _ _ => rfl)) pe_int) pe_int) pe_int))
      (pss_cons (ps_set (i := 3) sc_law_draw.nd rfl (Or.inl rfl) (pe_op op_mod (pe_op op_mul (pv 3) (pv 3)) pe_int))
      (pss_cons (ps_asg (pe_op op_mod (pe_op op_add (pe_op op_mul (pv 3) pe_int) pe_int) pe_int) (pg_sub (pv 0) pe_int set_list))
      (pss_one (ps_ret (pe_op op_mod (pe_op op_fdiv (pe_ix (ix_listK K rfl) (pv 0) pe_int (fun _ _ => rfl)) pe_int) (pv 1)))))))), ?_⟩
    have sq : SqL K H r [.int a, .int b] := .inl (.inl hrow)
    refine ⟨.ref r, rfl, r, _, 0, .int a, rfl, rfl, sq, atI_nat (j := 0) rfl, a, 0, rfl, rfl, _, rfl, ite2 (fun e => ?_) (fun e => ?_)⟩
    · refine ⟨.ref r, rfl, r, _, 0, .int a, rfl, rfl, sq, atI_nat (j := 0) rfl, .int n, rfl, a, n, rfl, rfl, hn0, ?_⟩
      refine ⟨.ref r, rfl, r, _, 0, .int a, rfl, rfl, sq, atI_nat (j := 0) rfl, .int n, rfl, a, n, rfl, rfl, ⟨hn0, hn1⟩, ?_⟩
      refine ⟨.ref r, rfl, r, _, 0, 0, rfl, rfl, hrow, rfl, ?_⟩
      refine ⟨.int (a % n), rfl, ?_⟩
      exact q _ _ Off.put ⟨a / n, b, upd_same, hb0, hb1⟩ (Int.emod_nonneg _ (by omega)) (Int.emod_lt_of_pos _ hn0)
    · refine ⟨.ref r, rfl, r, _, 1, .int b, rfl, rfl, sq, atI_nat (j := 1) rfl, b, 48271, rfl, rfl, .inl ⟨by omega, by omega⟩, _, _, rfl, rfl, _, _, rfl, rfl, (by show (0 : Int) < 2147483647; decide), ?_⟩
      have s0 : 0 ≤ (b * 48271 + 11) % 2147483647 := Int.emod_nonneg _ (by decide)
      have s1 : (b * 48271 + 11) % 2147483647 < 2147483647 := Int.emod_lt_of_pos _ (by decide)
      refine ⟨.int ((b * 48271 + 11) % 2147483647), rfl, .int ((b * 48271 + 11) % 2147483647), rfl, (b * 48271 + 11) % 2147483647, (b * 48271 + 11) % 2147483647, rfl, rfl, .inl ⟨by omega, by omega⟩, _, _, rfl, rfl, (by show (0 : Int) < 2147483587; decide), ?_⟩
      obtain ⟨S, hS⟩ : ∃ S : Int, S = (b * 48271 + 11) % 2147483647 * ((b * 48271 + 11) % 2147483647) % 2147483587 := ⟨_, rfl⟩
      have t0 : 0 ≤ S := by rw [hS]; exact Int.emod_nonneg _ (by decide)
      have t1 : S < 2147483587 := by rw [hS]; exact Int.emod_lt_of_pos _ (by decide)
      refine ⟨.int S, by rw [hS]; rfl, S, 69621, rfl, rfl, .inl ⟨by omega, by omega⟩, _, _, rfl, rfl, _, _, rfl, rfl, (by show (0 : Int) < 2147483629; decide), ?_⟩
      refine ⟨.ref r, rfl, r, _, 1, 1, rfl, rfl, hrow, rfl, ?_⟩
      have g0 : 0 ≤ (S * 69621 + 40692) % 2147483629 := Int.emod_nonneg _ (by decide)
      have g1 : (S * 69621 + 40692) % 2147483629 < 2147483629 := Int.emod_lt_of_pos _ (by decide)
      refine ⟨.ref r, rfl, r, _, 1, _, rfl, rfl, .inl (.inl upd_same), atI_nat (j := 1) rfl, _, 8, rfl, rfl, ⟨by decide, by decide⟩, .int n, rfl, _, n, rfl, rfl, hn0, ?_⟩
      exact q _ _ Off.put ⟨a, _, upd_same, g0, g1⟩ (Int.emod_nonneg _ (by omega)) (Int.emod_lt_of_pos _ hn0)
end
end LH

namespace LH
open PySem PySem.Spec PyProof.Rows L2
abbrev vi (ns : List Nat) : List V := ns.map fun (n : Nat) => V.int (n : Int)
theorem vi_snoc (ys : List Nat) (c : Nat) : vi ys ++ [V.int (c : Int)] = vi (ys ++ [c]) := by
  show _ = List.map _ (ys ++ [c])
  rw [List.map_append]
  rfl
abbrev vr (as : List Addr) : List V := as.map V.ref
theorem vr_snoc (ys : List Addr) (c : Addr) : vr ys ++ [V.ref c] = vr (ys ++ [c]) := by
  show _ = List.map _ (ys ++ [c])
  rw [List.map_append]
  rfl
/-- tuples stand -/
def Tups (H H' : Hp) : Prop := ∀ b xs, H b = some (.tup xs) → H' b = some (.tup xs)
theorem Tups.refl (H : Hp) : Tups H H := fun _ _ h => h
theorem Tups.trans {H H1 H2 : Hp} (a : Tups H H1) (b : Tups H1 H2) : Tups H H2 := fun c o h => b c o (a c o h)
theorem Tups.same {H H' : Hp} (a : Same H H') : Tups H H' := fun c _ h => a c _ h
theorem Tups.off {r : Addr} {H H' : Hp} (R : RowAt H r) (a : Off r H H') : Tups H H' := fun c _ h => a c _ (R.neT h) h
theorem Tups.new {p : Addr} {H : Hp} {o : HO} (h : H p = none) : Tups H (upd H p o) := Tups.same (same_new h)
theorem Tups.lst {p : Addr} {H : Hp} {xs : List V} {o : HO} (h : H p = some (.lst xs)) : Tups H (upd H p o) := fun c ys e => by
  rw [upd_ne (ne_of e h (by intro z; cases z))]
  exact e
theorem mem_snoc {α : Type} {p : α → Prop} {xs : List α} {x : α} (h : ∀ y ∈ xs, p y) (hx : p x) : ∀ y ∈ xs ++ [x], p y := fun y hy => by
  rcases List.mem_append.mp hy with q | q
  · exact h y q
  · rw [List.mem_singleton.mp q]
    exact hx
theorem tAdd_nodup {l : List Str} {k : Str} (h : l.Nodup) : (tAdd l k).Nodup := by
  unfold tAdd
  split
  · exact h
  · rename_i q
    exact List.nodup_cons.mpr ⟨q, h⟩
theorem tAll_nodup (xs : List Str) : (tAll xs).Nodup := by
  unfold tAll
  have : ∀ (xs l : List Str), l.Nodup → (xs.foldl tAdd l).Nodup := by
    intro xs
    induction xs with
    | nil => intro l h; exact h
    | cons x r ih => intro l h; exact ih _ (tAdd_nodup h)
  exact this xs [] List.nodup_nil
theorem sum_sg (cs : List Nat) : ((cs.map sg).map (·.length)).sum = cs.length := by
  rw [List.map_map, show ((fun x : Str => x.length) ∘ sg) = fun _ => 1 from rfl, List.map_const', List.sum_replicate_nat]
  omega
/-- signs that are sorted and were put into a set -/
theorem sg_sorted {cs : List Nat} {zs : List Str} (p : zs.Perm (tAll (cs.map sg))) (s : sortedS zs = true) : ∃ ds : List Nat, zs = ds.map sg ∧ ds.Pairwise (· < ·) ∧ (∀ c, c ∈ ds ↔ c ∈ cs) ∧ ds.length ≤ cs.length := by
  have hm : ∀ x, x ∈ zs ↔ x ∈ cs.map sg := fun x => p.mem_iff.trans mem_tAll
  let f : Str → Nat := fun z => z.cps.getD 0 0
  have e : zs = (zs.map f).map sg := by
    rw [List.map_map]
    conv => lhs; rw [← List.map_id zs]
    refine List.map_congr_left fun y hy => ?_
    obtain ⟨c, _, rfl⟩ := List.mem_map.mp ((hm y).mp hy)
    rfl
  refine ⟨zs.map f, e, ?_, fun c => ?_, ?_⟩
  · have nd : zs.Nodup := p.symm.nodup (tAll_nodup _)
    have nd2 : (zs.map f).Nodup := by
      rw [e] at nd
      exact (List.pairwise_map.mp nd).imp fun h e => h (congrArg sg e)
    refine rise_of (sortedS_sg ?_) nd2
    rw [← e]
    exact s
  · have q := hm (sg c)
    constructor
    · intro h
      have : sg c ∈ zs := by
        rw [e]
        exact List.mem_map.mpr ⟨c, h, rfl⟩
      obtain ⟨d, hd, ed⟩ := List.mem_map.mp (q.mp this)
      have : d = c := by
        have := congrArg (fun y : Str => y.cps.getD 0 0) ed
        exact this
      exact this ▸ hd
    · intro h
      have := q.mpr (List.mem_map.mpr ⟨c, h, rfl⟩)
      exact List.mem_map.mpr ⟨sg c, this, rfl⟩
  · rw [List.length_map, p.length_eq]
    have := tAll_len (cs.map sg)
    rw [List.length_map] at this
    exact this
theorem let_abc {g : Nat} (h : g < 5) : IsLet (cutS "abcde" none (some (1 + (g : Int)))) := by
  have : g = 0 ∨ g = 1 ∨ g = 2 ∨ g = 3 ∨ g = 4 := by omega
  rcases this with rfl | rfl | rfl | rfl | rfl
  · exact ⟨by decide +kernel, by decide +kernel, by decide +kernel, by decide +kernel⟩
  · exact ⟨by decide +kernel, by decide +kernel, by decide +kernel, by decide +kernel⟩
  · exact ⟨by decide +kernel, by decide +kernel, by decide +kernel, by decide +kernel⟩
  · exact ⟨by decide +kernel, by decide +kernel, by decide +kernel, by decide +kernel⟩
  · exact ⟨by decide +kernel, by decide +kernel, by decide +kernel, by decide +kernel⟩
theorem az_at {g : Nat} (h : g < 26) : ("abcdefghijklmnopqrstuvwxyz" : Str).cps.toList[g]? = some (97 + g) := by
  have e : ("abcdefghijklmnopqrstuvwxyz" : Str).cps.toList = (List.range 26).map (97 + ·) := by decide +kernel
  rw [e, List.getElem?_map, List.getElem?_range h]
  rfl
section
variable {P : Program} {w : World} {K : PySem.W.Frag} {mg : Str → Option Value} {base : Heap}
/-! ### _law_letters -/
def sp_law_letters : Sp := fun vs H Q _ => ∃ r : Addr, vs = [.ref r] ∧ RowAt H r ∧ ∀ H' z, Off r H H' → RowAt H' r → IsLet z → Q (.str z) H'
theorem ok_law_letters (T : TX K mg) : FnOk P w K mg base CX0 2 T.a_law_letters T.fd_law_letters ["well"] sp_law_letters := by
  have G_law_draw : FnOk P w K mg base CX0 1 T.a_law_draw T.fd_law_draw ["well", "many"] sp_law_draw := ok_law_draw T
  refine T.F_law_letters.ok sc_law_letters (fun vs H Q E h => ?_) (fun cdv A outer s H vs Q E hr h => ?_)
  · obtain ⟨r, rfl, _⟩ := h
    rfl
  · obtain ⟨r, rfl, hR, q⟩ := h
    refine ⟨_, (pss_cons (ps_if (pt_cmpR op_eq (pe_call G_law_draw (hr.mono (by decide)) (by rfl) T.g_law_draw T.F_law_draw.kp T.b_law_draw .nil pass0 (pa_cons (pv 0) (pa_cons pe_int pa_nil))) pe_int (nomark _))
        (pss_one (ps_ret (pe_slice sl_str pe_str po_none (po_some (pe_op op_add pe_int (pe_call G_law_draw (hr.mono (by decide)) (by rfl) T.g_law_draw T.F_law_draw.kp T.b_law_draw .nil pass0 (pa_cons (pv 0) (pa_cons pe_int pa_nil))))))))
        pss_nil)
      (pss_cons (ps_set (i := 1) sc_law_letters.nd rfl (Or.inr rfl) pe_str)
      (pss_one (ps_ret (pe_m1 PySem.F.slot_str_join PySem.F.type_str_join (mt_joinK K rfl) pe_str (pe_callB (cr_sortTK P w rfl rfl rfl) (by rfl) T.m_sorted (by decide +kernel) (pa_cons (pe_callTy (cr_setLK P w K rfl rfl rfl rfl) (by rfl) T.m_set (by decide +kernel) (pa_cons (pe_lc (own := [("k", 2)]) (g := gName 2) (tt := tYes) (by rfl) sc_law_letters.nd (pi_range1 (by rfl) T.m_range (pa_cons (pe_op op_add pe_int (pe_call G_law_draw (hr.mono (by decide)) (by rfl) T.g_law_draw T.F_law_draw.kp T.b_law_draw .nil pass0 (pa_cons (pv 0) (pa_cons pe_int pa_nil)))) pa_nil)) (blkOk_by (own := [("k", 2)]) (N := N_law_letters) (by kernel_rfl)) (fun _ _ _ _ _ => (pg_name (i := 2) sc_law_letters.nd rfl (Or.inl rfl))) (fun _ _ _ _ _ => pts_nil) (fun _ _ _ _ _ => (pe_ix ix_str (pv 1) (pe_call G_law_draw (hr.mono (by decide)) (by rfl) T.g_law_draw T.F_law_draw.kp T.b_law_draw .nil pass0 (pa_cons (pv 0) (pa_cons pe_int pa_nil))) (fun _ _ => rfl)))) pa_nil)) pa_nil))))))), ?_⟩
    refine ⟨.ref r, rfl, r, 2, rfl, hR, by decide, by decide, fun H1 g1 o1 R1 _ _ => ⟨rfl, _, rfl, ite2 (fun e => ?_) (fun e => ?_)⟩⟩
    · refine ⟨.ref r, rfl, r, 5, rfl, R1, by decide, by decide, fun H2 g o2 R2 g0 g5 => ?_⟩
      obtain ⟨m, rfl⟩ : ∃ m : Nat, g = (m : Int) := ⟨g.toNat, by omega⟩
      refine ⟨1, (m : Int), rfl, rfl, 1 + (m : Int), rfl, _, rfl, by decide, ?_⟩
      exact q _ _ (o1.trans o2) R2 (let_abc (by omega))
    · refine ⟨⟨_, rfl⟩, .ref r, rfl, r, 5, rfl, R1, by decide, by decide, fun H2 g o2 R2 g0 g5 => ?_⟩
      obtain ⟨m, rfl⟩ : ∃ m : Nat, g = (m : Int) := ⟨g.toNat, by omega⟩
      refine ⟨1, (m : Int), rfl, rfl, 1 + m, rfl, by omega, by omega, fun D nD => ?_⟩
      have o := o1.trans o2
      have fD : H D = none := o.free (R2.ne nD) nD
      have rD : r ≠ D := R2.ne nD
      refine lc_range (lo := 0) (n := (1 + (m : Int)).toNat) (fun i H' => ∃ cs, RowAt H' r ∧ Off r H H' ∧ H' D = some (.lst (vs_ cs)) ∧ cs.length = i ∧ ∀ c ∈ cs, 97 ≤ c ∧ c ≤ 122) ⟨[], R2.new nD, o.mut fD, upd_same, rfl, fun _ h => nomatch h⟩ (fun i H3 hi hW => ?_) (fun H3 hW => ?_)
      · obtain ⟨cs, R3, o3, e3, l3, c3⟩ := hW
        refine ⟨rfl, lcyes ?_⟩
        refine ⟨_, rfl, .ref r, rfl, r, 26, rfl, R3, by decide, by decide, fun H4 g o4 R4 a0 a1 => ?_⟩
        obtain ⟨k, rfl⟩ : ∃ k : Nat, g = (k : Int) := ⟨g.toNat, by omega⟩
        refine ⟨_, (k : Int), 97 + k, rfl, rfl, by decide, atI_nat (az_at (by omega)), vs_ cs, o4 _ _ rD.symm e3, ?_, cs ++ [97 + k], R4.upd rD, (o3.trans o4).mut fD, ?_, ?_, mem_snoc c3 (by omega)⟩
        · rw [List.length_map, l3]
          exact small1000 (by omega)
        · rw [upd_same, vs_snoc]
        · rw [List.length_append, l3]
          rfl
      · obtain ⟨cs, R3, o3, e3, l3, c3⟩ := hW
        have hcl : cs.length ≤ 5 := by omega
        refine ⟨D, cs.map sg, rfl, .inl (.inl (by rw [List.map_map]; exact e3)), by rw [List.length_map]; omega, fun p4 n4 => ?_⟩
        have f4 : H p4 = none := o3.free (R3.ne n4) n4
        have R4 := R3.new (o := SetT P w p4 (tAll (cs.map sg))) n4
        refine ⟨p4, _, rfl, upd_same, ?_, fun zs p5 pm srt n5 => ?_⟩
        · have := tAll_len (cs.map sg)
          rw [List.length_map] at this
          omega
        have f5 : H p5 = none := (o3.mut f4).free (R4.ne n5) n5
        obtain ⟨ds, rfl, dr, dm, dl⟩ := sg_sorted pm srt
        refine ⟨⟨#[]⟩, p5, ds.map sg, rfl, rfl, .inl (.inl (.inl upd_same)), ?_, ?_⟩
        · rw [List.length_map, sum_sg]
          show ds.length + ds.length * 0 ≤ 16777216
          omega
        · rw [join_sg]
          refine q _ _ ((o3.mut f4).mut f5) (R4.new n5) ⟨?_, ?_, dr, fun c hc => c3 c ((dm c).mp hc)⟩
          · show 1 ≤ ds.toArray.size
            rw [List.size_toArray]
            have hc0 : 0 < cs.length := by omega
            have : cs[0] ∈ ds := (dm _).mpr (List.getElem_mem hc0)
            exact List.length_pos_of_mem this
          · show ds.toArray.size ≤ 5
            rw [List.size_toArray]
            omega
/-! ### _law_one_of -/
def sp_law_one_of : Sp := fun vs H Q _ => ∃ (r : Addr) (z : Str), vs = [.ref r, .str z] ∧ RowAt H r ∧ 1 ≤ z.length ∧ z.length ≤ 1000 ∧ ∀ H' c, Off r H H' → RowAt H' r → c ∈ z.cps.toList → Q (.str (sg c)) H'
theorem ok_law_one_of (T : TX K mg) : FnOk P w K mg base CX0 2 T.a_law_one_of T.fd_law_one_of ["well", "letters"] sp_law_one_of := by
  have G_law_draw : FnOk P w K mg base CX0 1 T.a_law_draw T.fd_law_draw ["well", "many"] sp_law_draw := ok_law_draw T
  refine T.F_law_one_of.ok sc_law_one_of (fun vs H Q E h => ?_) (fun cdv A outer s H vs Q E hr h => ?_)
  · obtain ⟨r, z, rfl, _⟩ := h
    rfl
  · obtain ⟨r, z, rfl, hR, h1, h2, q⟩ := h
    refine ⟨_, (pss_one (ps_ret (pe_ix ix_str (pv 1) (pe_call G_law_draw (hr.mono (by decide)) (by rfl) T.g_law_draw T.F_law_draw.kp T.b_law_draw .nil pass0 (pa_cons (pv 0) (pa_cons (pe_callB call_len_str (by rfl) T.m_len (by decide +kernel) (pa_cons (pv 1) pa_nil)) pa_nil))) (fun _ _ => rfl)))), ?_⟩
    have zs : z.length ≤ sizeLine := Nat.le_trans h2 (by decide)
    refine ⟨.str z, rfl, .ref r, rfl, .str z, rfl, z, rfl, zs, r, (z.length : Int), rfl, hR, by omega, by omega, fun H1 g o1 R1 a0 a1 => ?_⟩
    obtain ⟨k, rfl⟩ : ∃ k : Nat, g = (k : Int) := ⟨g.toNat, by omega⟩
    have hk : k < z.cps.toList.length := by
      rw [Array.length_toList]
      have : (k : Int) < (z.cps.size : Nat) := a1
      omega
    exact ⟨z, (k : Int), z.cps.toList[k], rfl, rfl, zs, atI_nat (List.getElem?_eq_getElem hk), q _ _ o1 R1 (List.getElem_mem hk)⟩
/-! ### _law_some -/
def sp_law_some : Sp := fun vs H Q _ => ∃ (r : Addr) (z : Str), vs = [.ref r, .str z] ∧ RowAt H r ∧ IsLet z ∧ ∀ H' (cs : List Nat), Off r H H' → RowAt H' r → cs.Sublist z.cps.toList → 1 ≤ cs.length → Q (.str ⟨cs.toArray⟩) H'
theorem dpAll_str {K : PySem.W.Frag} {H : Hp} : ∀ xs : List Str, DpAll K H (xs.map V.str) (xs.map PyData.str)
  | [] => .nil
  | c :: r => .cons (.str _) (dpAll_str r)
theorem canAll_str : ∀ xs : List Str, (∀ x ∈ xs, PyData.strOk x = true) → PyData.canLayAll0 (xs.map PyData.str) = true
  | [], _ => rfl
  | x :: r, h => by
    have h1 := h x List.mem_cons_self
    have h2 := canAll_str r fun y hy => h y (List.mem_cons_of_mem _ hy)
    simp [PyData.canLayAll0, PyData.canLay0, h1, h2]
theorem depthAll_str : ∀ xs : List Str, PyData.depthAll (xs.map PyData.str) = 0
  | [] => rfl
  | _ :: r => by simp [PyData.depthAll, PyData.depth, depthAll_str r]
theorem shaped_strs (xs : List Str) (h : ∀ x ∈ xs, PyData.strOk x = true) : SeqAt.shaped (.list (xs.map PyData.str)) = true := by
  simp [SeqAt.shaped, PyData.canLay0, PyData.depth, canAll_str xs h, depthAll_str]
theorem strOk_sg {c : Nat} (h : c ≤ 122) : PyData.strOk (sg c) = true := by
  have : c < 0x110000 := by omega
  simp [PyData.strOk, this]
theorem ok_law_some (T : TX K mg) : FnOk P w K mg base CX0 3 T.a_law_some T.fd_law_some ["well", "letters"] sp_law_some := by
  have G_law_draw : FnOk P w K mg base CX0 1 T.a_law_draw T.fd_law_draw ["well", "many"] sp_law_draw := ok_law_draw T
  have G_law_one_of : FnOk P w K mg base CX0 2 T.a_law_one_of T.fd_law_one_of ["well", "letters"] sp_law_one_of := ok_law_one_of T
  refine T.F_law_some.ok sc_law_some (fun vs H Q E h => ?_) (fun cdv A outer s H vs Q E hr h => ?_)
  · obtain ⟨r, z, rfl, _⟩ := h
    rfl
  · obtain ⟨r, z, rfl, hR, hz, q⟩ := h
    refine ⟨_, (pss_cons (ps_setLc (i := 2) (own := [("sign", 3)]) (g := gName 3) (by rfl) sc_law_some.nd rfl rfl (sw_true rfl rfl rfl (by decide +kernel)) (pi_str (pv 1)) (blkOk_by (own := [("sign", 3)]) (N := N_law_some) (by kernel_rfl)) (fun _ _ _ _ _ => (pg_name (i := 3) sc_law_some.nd rfl (Or.inl rfl))) (fun _ _ _ _ _ => (pts_one (pt_cmpR op_eq (pe_call G_law_draw (hr.mono (by decide)) (by rfl) T.g_law_draw T.F_law_draw.kp T.b_law_draw .nil pass0 (pa_cons (pv 0) (pa_cons pe_int pa_nil))) pe_int (nomark _)))) (fun _ _ _ _ _ => (pv 3)))
      (C8.pss_cut (ps_if (pt_cmpR (op_eqD hr.units) (pv 2) (pe_lst pa_nil) (nomark _))
        (pss_one (ps_set (i := 2) sc_law_some.nd rfl (Or.inl rfl) (pe_lst (pa_cons (pe_call G_law_one_of (hr.mono (by decide)) (by rfl) T.g_law_one_of T.F_law_one_of.kp T.b_law_one_of .nil pass0 (pa_cons (pv 0) (pa_cons (pv 1) pa_nil))) pa_nil))))
        pss_nil)
      (pss_one (ps_ret (pe_m1 PySem.F.slot_str_join PySem.F.type_str_join (mt_joinK K rfl) pe_str (pv 2)))))), ?_⟩
    have h5 := hz.five
    have h1 := hz.one
    refine ⟨.str z, rfl, z, rfl, fun D nD => ?_⟩
    have rD : r ≠ D := hR.ne nD
    refine lc_it walk_str (fun i H' => ∃ cs, RowAt H' r ∧ Off r H H' ∧ H' D = some (.lst (vs_ cs)) ∧ cs.Sublist (z.cps.toList.take i)) ⟨[], hR.new nD, Off.new nD, upd_same, List.nil_sublist _⟩ (fun _ _ _ _ => trivial) (fun i x H2 H2' hi hW hY => ?_) (fun H2 hW => ?_)
    · obtain ⟨cs, R2, o2, e2, s2⟩ := hW
      obtain ⟨rfl, c, hc, rfl⟩ := hY
      have hc' : z.cps.toList[i]? = some c := by
        rw [Array.getElem?_toList]
        exact hc
      have et : z.cps.toList.take (i + 1) = z.cps.toList.take i ++ [c] := by
        rw [List.take_add_one, hc']
        rfl
      refine ⟨rfl, .ref r, rfl, r, 2, rfl, R2, by decide, by decide, fun H3 g o3 R3 _ _ => ⟨rfl, _, rfl, ite2 (fun _ => ?_) (fun _ => ?_)⟩⟩
      · refine ⟨.str (sg c), rfl, vs_ cs, o3 _ _ rD.symm e2, ?_, cs ++ [c], R3.upd rD, (o2.trans o3).mut nD, ?_, ?_⟩
        · have := s2.length_le
          have := List.length_take_le i z.cps.toList
          rw [List.length_map]
          have : i < z.length := hi
          exact small1000 (by omega)
        · rw [upd_same, vs_snoc]
        · rw [et]
          exact List.Sublist.append s2 (List.Sublist.refl _)
      · refine ⟨cs, R3, o2.trans o3, o3 _ _ rD.symm e2, ?_⟩
        rw [et]
        exact s2.trans (List.sublist_append_left _ _)
    · obtain ⟨cs, R2, o2, e2, s2⟩ := hW
      rw [List.take_of_length_le (by rw [Array.length_toList]; exact Nat.le_refl _)] at s2
      have hcs : cs.length ≤ 5 := by
        have := s2.length_le
        rw [Array.length_toList] at this
        exact Nat.le_trans this h5
      refine ⟨fun σ' H' => ∃ d ds, σ' = [some (.ref r), some (.str z), some (.ref d), none] ∧ RowAt H' r ∧ Off r H H' ∧ H' d = some (.lst (vs_ ds)) ∧ ds.Sublist z.cps.toList ∧ 1 ≤ ds.length ∧ ds.length ≤ 5, ?_, fun σ' H' hM => ?_⟩
      · refine ⟨.ref D, rfl, by show 0 ≤ sizeLine; decide, fun p3 n3 => ?_⟩
        have f3 : H p3 = none := o2.free (R2.ne n3) n3
        have ev : vs_ cs = (cs.map sg).map V.str := by rw [List.map_map]; rfl
        refine ⟨.list ((cs.map sg).map PyData.str), .list [], .lst (.inl (.inl ((same_new n3) _ _ e2))) (ev ▸ dpAll_str (cs.map sg)), .lst (.inl (.inl upd_same)) .nil, shaped_strs _ (fun x hx => ?_), shaped_strs [] (fun _ h => nomatch h), _, rfl, ite2 (fun e => ?_) (fun e => ?_)⟩
        · obtain ⟨c, hc, rfl⟩ := List.mem_map.mp hx
          exact strOk_sg (hz.small c (s2.subset hc)).2
        · refine ⟨.ref r, rfl, .str z, rfl, r, z, rfl, R2.new n3, h1, by omega, fun H4 c o4 R4 hc => ?_⟩
          refine ⟨by show 1 ≤ sizeLine; decide, fun p5 n5 => ?_⟩
          have o5 := (o2.mut f3).trans o4
          have f5 : H p5 = none := o5.free (R4.ne n5) n5
          exact ⟨p5, [c], rfl, R4.new n5, o5.mut f5, upd_same, List.singleton_sublist.mpr hc, Nat.le_refl 1, (by show 1 ≤ 5; decide)⟩
        · refine ⟨D, cs, rfl, R2.new n3, o2.mut f3, (same_new n3) _ _ e2, s2, ?_, hcs⟩
          cases cs with
          | nil => exact absurd (show PyData.eqv (.list []) (.list []) = true by rfl) e
          | cons c r => exact Nat.succ_le_succ (Nat.zero_le _)
      · obtain ⟨d, ds, rfl, R3, o3, e3, s3, l3, l4⟩ := hM
        refine ⟨⟨_, rfl⟩, .ref d, rfl, ⟨#[]⟩, d, ds.map sg, rfl, rfl, .inl (.inl (.inl (by rw [List.map_map]; exact e3))), ?_, ?_⟩
        · rw [List.length_map, sum_sg]
          show ds.length + ds.length * 0 ≤ 16777216
          omega
        · rw [join_sg]
          exact q _ _ o3 R3 s3 l3
end
end LH

namespace LH
open PySem PySem.Spec PyProof.Rows L2
/-! ### rules -/
structure Grd where
  how : Str
  wh : Str
  sm : List Nat
inductive Rul where
  | one (x y : Nat) (g : Option Grd)
  | two (x y u v : Nat)
  | call (x y : Nat) (im : List Nat)
def GrdAt (H : Hp) (v : V) : Option Grd → Prop
  | none => v = .non
  | some G => ∃ g, v = .ref g ∧ H g = some (.tup [.str G.how, .str G.wh, .str ⟨G.sm.toArray⟩])
def RulAt (H : Hp) (p : Addr) : Rul → Prop
  | .one x y g => ∃ v, H p = some (.tup [.str "one", .str (sg x), .str (sg y), v]) ∧ GrdAt H v g
  | .two x y u v => H p = some (.tup [.str "two", .str (sg x), .str (sg y), .str (sg u), .str (sg v)])
  | .call x y im => H p = some (.tup [.str "call", .str (sg x), .str (sg y), .str ⟨im.toArray⟩])
theorem GrdAt.mono {H H' : Hp} {v : V} {g : Option Grd} (t : Tups H H') (h : GrdAt H v g) : GrdAt H' v g := by
  cases g with
  | none => exact h
  | some G =>
    obtain ⟨g, e, q⟩ := h
    exact ⟨g, e, t _ _ q⟩
theorem RulAt.mono {H H' : Hp} {p : Addr} {R : Rul} (t : Tups H H') (h : RulAt H p R) : RulAt H' p R := by
  cases R with
  | one x y g =>
    obtain ⟨v, e, q⟩ := h
    exact ⟨v, t _ _ e, q.mono t⟩
  | two x y u v => exact t _ _ h
  | call x y im => exact t _ _ h
structure Grd.Ok (G : Grd) (z sh : Str) : Prop where
  how : G.how = "all" ∨ G.how = "some"
  wh : G.wh = "left" ∨ G.wh = "right" ∨ G.wh = "others"
  ring : sh = "ring" → G.wh = "others"
  sm : ∀ c ∈ G.sm, c ∈ z.cps.toList
  one : 1 ≤ G.sm.length ∧ G.sm.length ≤ 100
def Rul.Ok (z sh : Str) : Rul → Prop
  | .one x y g => x ∈ z.cps.toList ∧ y ∈ z.cps.toList ∧ ∀ G, g = some G → G.Ok z sh
  | .two x y u v => x ∈ z.cps.toList ∧ y ∈ z.cps.toList ∧ u ∈ z.cps.toList ∧ v ∈ z.cps.toList
  | .call x y im => x ∈ z.cps.toList ∧ y ∈ z.cps.toList ∧ im.length = z.length ∧ ∀ c ∈ im, c ∈ z.cps.toList
def Rul.Kind (n : Int) : Rul → Prop
  | .one _ _ _ => n ≠ 0 ∧ n ≠ 1
  | .two _ _ _ _ => n = 0
  | .call _ _ _ => n = 1
theorem three_at {g : Int} (h0 : 0 ≤ g) (h1 : g < 3) : ∃ x : Str, atI [V.str "left", V.str "right", V.str "others"] g = some (.str x) ∧ (x = "left" ∨ x = "right" ∨ x = "others") := by
  have : g = 0 ∨ g = 1 ∨ g = 2 := by omega
  rcases this with rfl | rfl | rfl
  · exact ⟨_, rfl, .inl rfl⟩
  · exact ⟨_, rfl, .inr (.inl rfl)⟩
  · exact ⟨_, rfl, .inr (.inr rfl)⟩
theorem two_at {g : Int} {a b : Str} (h0 : 0 ≤ g) (h1 : g < 2) : ∃ x : Str, atI [V.str a, V.str b] g = some (.str x) ∧ (x = a ∨ x = b) := by
  have : g = 0 ∨ g = 1 := by omega
  rcases this with rfl | rfl
  · exact ⟨_, rfl, .inl rfl⟩
  · exact ⟨_, rfl, .inr rfl⟩
section
variable {P : Program} {w : World} {K : PySem.W.Frag} {mg : Str → Option Value} {base : Heap}
def sp_law_rule : Sp := fun vs H Q _ => ∃ (r : Addr) (z sh : Str) (n : Int), vs = [.ref r, .str z, .str sh, .int n] ∧ RowAt H r ∧ IsLet z ∧ ∀ H' p R, Off r H H' → RowAt H' r → RulAt H' p R → R.Ok z sh → R.Kind n → Q (.ref p) H'
theorem ok_law_rule (T : TX K mg) : FnOk P w K mg base CX0 4 T.a_law_rule T.fd_law_rule ["well", "letters", "shape", "kind"] sp_law_rule := by
  have G_law_draw : FnOk P w K mg base CX0 1 T.a_law_draw T.fd_law_draw ["well", "many"] sp_law_draw := ok_law_draw T
  have G_law_one_of : FnOk P w K mg base CX0 2 T.a_law_one_of T.fd_law_one_of ["well", "letters"] sp_law_one_of := ok_law_one_of T
  have G_law_some : FnOk P w K mg base CX0 3 T.a_law_some T.fd_law_some ["well", "letters"] sp_law_some := ok_law_some T
  refine T.F_law_rule.ok sc_law_rule (fun vs H Q E h => ?_) (fun cdv A outer s H vs Q E hr h => ?_)
  · obtain ⟨r, z, sh, n, rfl, _⟩ := h
    rfl
  · obtain ⟨r, z, sh, n, rfl, hR, hz, q⟩ := h
    refine ⟨_, (pss_cons (ps_set (i := 4) sc_law_rule.nd rfl (Or.inl rfl) (pe_call G_law_one_of (hr.mono (by decide)) (by rfl) T.g_law_one_of T.F_law_one_of.kp T.b_law_one_of .nil pass0 (pa_cons (pv 0) (pa_cons (pv 1) pa_nil))))
      (pss_cons (ps_set (i := 5) sc_law_rule.nd rfl (Or.inl rfl) (pe_call G_law_one_of (hr.mono (by decide)) (by rfl) T.g_law_one_of T.F_law_one_of.kp T.b_law_one_of .nil pass0 (pa_cons (pv 0) (pa_cons (pv 1) pa_nil))))
      (pss_cons (ps_if (pt_cmpR op_eq (pv 3) pe_int (nomark _))
        (pss_one (ps_ret (pe_tup (pa_cons pe_str (pa_cons (pv 4) (pa_cons (pv 5) (pa_cons (pe_call G_law_one_of (hr.mono (by decide)) (by rfl) T.g_law_one_of T.F_law_one_of.kp T.b_law_one_of .nil pass0 (pa_cons (pv 0) (pa_cons (pv 1) pa_nil))) (pa_cons (pe_call G_law_one_of (hr.mono (by decide)) (by rfl) T.g_law_one_of T.F_law_one_of.kp T.b_law_one_of .nil pass0 (pa_cons (pv 0) (pa_cons (pv 1) pa_nil))) pa_nil))))))))
        pss_nil)
      (pss_cons (ps_if (pt_cmpR op_eq (pv 3) pe_int (nomark _))
        (pss_one (ps_ret (pe_tup (pa_cons pe_str (pa_cons (pv 4) (pa_cons (pv 5) (pa_cons (pe_m1 PySem.F.slot_str_join PySem.F.type_str_join (mt_joinK K rfl) pe_str (pe_lc (own := [("letter", 8)]) (g := gName 8) (tt := tYes) (by rfl) sc_law_rule.nd (pi_str (pv 1)) (blkOk_by (own := [("letter", 8)]) (N := N_law_rule) (by kernel_rfl)) (fun _ _ _ _ _ => (pg_name (i := 8) sc_law_rule.nd rfl (Or.inl rfl))) (fun _ _ _ _ _ => pts_nil) (fun _ _ _ _ _ => (pe_call G_law_one_of (hr.mono (by decide)) (by rfl) T.g_law_one_of T.F_law_one_of.kp T.b_law_one_of .nil pass0 (pa_cons (pv 0) (pa_cons (pv 1) pa_nil)))))) pa_nil)))))))
        pss_nil)
      (pss_cons (ps_set (i := 6) sc_law_rule.nd rfl (Or.inl rfl) (pe_ix (ix_listK K rfl) (pe_lst (pa_cons pe_str (pa_cons pe_str (pa_cons pe_str pa_nil)))) (pe_call G_law_draw (hr.mono (by decide)) (by rfl) T.g_law_draw T.F_law_draw.kp T.b_law_draw .nil pass0 (pa_cons (pv 0) (pa_cons pe_int pa_nil))) (fun _ _ => rfl)))
      (C8.pss_cut (ps_if (pt_cmpR op_eq (pv 2) pe_str (nomark _))
        (pss_one (ps_set (i := 6) sc_law_rule.nd rfl (Or.inl rfl) pe_str))
        pss_nil)
      (pss_cons (ps_set (i := 7) sc_law_rule.nd rfl (Or.inl rfl) (pe_tup (pa_cons (pe_ix (ix_listK K rfl) (pe_lst (pa_cons pe_str (pa_cons pe_str pa_nil))) (pe_call G_law_draw (hr.mono (by decide)) (by rfl) T.g_law_draw T.F_law_draw.kp T.b_law_draw .nil pass0 (pa_cons (pv 0) (pa_cons pe_int pa_nil))) (fun _ _ => rfl)) (pa_cons (pv 6) (pa_cons (pe_call G_law_some (hr.mono (by decide)) (by rfl) T.g_law_some T.F_law_some.kp T.b_law_some .nil pass0 (pa_cons (pv 0) (pa_cons (pv 1) pa_nil))) pa_nil)))))
      (pss_one (ps_ret (pe_tup (pa_cons pe_str (pa_cons (pv 4) (pa_cons (pv 5) (pa_cons (pe_ix (ix_listK K rfl) (pe_lst (pa_cons pe_non (pa_cons (pv 7) (pa_cons (pv 7) pa_nil)))) (pe_call G_law_draw (hr.mono (by decide)) (by rfl) T.g_law_draw T.F_law_draw.kp T.b_law_draw .nil pass0 (pa_cons (pv 0) (pa_cons pe_int pa_nil))) (fun _ _ => rfl)) pa_nil)))))))))))))), ?_⟩
    have h1 := hz.one
    have h5 := hz.five
    have z2 : z.length ≤ 1000 := by omega
    refine ⟨.ref r, rfl, .str z, rfl, r, z, rfl, hR, h1, z2, fun H1 x o1 R1 hx => ?_⟩
    refine ⟨.ref r, rfl, .str z, rfl, r, z, rfl, R1, h1, z2, fun H2 y o2 R2 hy => ?_⟩
    have oo := o1.trans o2
    refine ⟨.int n, rfl, rfl, _, rfl, ite2 (fun e0 => ?_) (fun e0 => ?_)⟩
    · have e0 : n = 0 := by simpa using e0
      refine ⟨.str (sg x), rfl, .str (sg y), rfl, .ref r, rfl, .str z, rfl, r, z, rfl, R2, h1, z2, fun H3 u o3 R3 hu => ?_⟩
      refine ⟨.ref r, rfl, .str z, rfl, r, z, rfl, R3, h1, z2, fun H4 v o4 R4 hv => ?_⟩
      refine ⟨by show 5 ≤ sizeLine; decide, fun p n5 => ?_⟩
      have o5 := (oo.trans o3).trans o4
      exact q _ p (.two x y u v) (o5.mut (o5.free (R4.ne n5) n5)) (R4.new n5) upd_same ⟨hx, hy, hu, hv⟩ e0
    have n0 : n ≠ 0 := fun e => by simp [e] at e0
    refine ⟨.int n, rfl, rfl, _, rfl, ite2 (fun e1 => ?_) (fun e1 => ?_)⟩
    · have e1 : n = 1 := by simpa using e1
      refine ⟨.str (sg x), rfl, .str (sg y), rfl, ⟨_, rfl⟩, .str z, rfl, z, rfl, fun D nD => ?_⟩
      have rD : r ≠ D := R2.ne nD
      have fD : H D = none := oo.free rD nD
      refine lc_it walk_str (fun i H' => ∃ cs, RowAt H' r ∧ Off r H H' ∧ H' D = some (.lst (vs_ cs)) ∧ cs.length = i ∧ ∀ c ∈ cs, c ∈ z.cps.toList) ⟨[], R2.new nD, oo.mut fD, upd_same, rfl, fun _ h => nomatch h⟩ (fun _ _ _ _ => trivial) (fun i v H3 H3' hi hW hY => ?_) (fun H3 hW => ?_)
      · obtain ⟨cs, R3, o3, e3, l3, c3⟩ := hW
        obtain ⟨rfl, c, hc, rfl⟩ := hY
        refine ⟨rfl, lcyes ?_⟩
        refine ⟨.ref r, rfl, .str z, rfl, r, z, rfl, R3, h1, z2, fun H4 d o4 R4 hd => ?_⟩
        refine ⟨vs_ cs, o4 _ _ rD.symm e3, ?_, cs ++ [d], R4.upd rD, (o3.trans o4).mut fD, ?_, ?_, mem_snoc c3 hd⟩
        · rw [List.length_map, l3]
          have : i < z.length := hi
          exact small1000 (by omega)
        · rw [upd_same, vs_snoc]
        · rw [List.length_append, l3]
          rfl
      · obtain ⟨cs, R3, o3, e3, l3, c3⟩ := hW
        have l3 : cs.length = z.length := l3
        refine ⟨⟨#[]⟩, D, cs.map sg, rfl, rfl, .inl (.inl (.inl (by rw [List.map_map]; exact e3))), ?_, ?_⟩
        · rw [List.length_map, sum_sg]
          show cs.length + cs.length * 0 ≤ 16777216
          omega
        rw [join_sg]
        refine ⟨by show 4 ≤ sizeLine; decide, fun p n5 => ?_⟩
        exact q _ p (.call x y cs) (o3.mut (o3.free (R3.ne n5) n5)) (R3.new n5) upd_same ⟨hx, hy, l3, c3⟩ e1
    have n1 : n ≠ 1 := fun e => by simp [e] at e1
    refine ⟨by show 3 ≤ sizeLine; decide, fun p3 n3 => ?_⟩
    have f3 : H p3 = none := oo.free (R2.ne n3) n3
    refine ⟨.ref r, rfl, r, 3, rfl, R2.new n3, by decide, by decide, fun H4 g o4 R4 g0 g1 => ?_⟩
    obtain ⟨wh, ew, hw⟩ := three_at g0 g1
    have o5 := (oo.mut f3).trans o4
    refine ⟨p3, _, g, .str wh, rfl, rfl, .inl (.inl (o4 _ _ (R2.ne n3).symm upd_same)), ew, ?_⟩
    refine ⟨fun σ' H' => ∃ wh : Str, σ' = [some (.ref r), some (.str z), some (.str sh), some (.int n), some (.str (sg x)), some (.str (sg y)), some (.str wh), none, none] ∧ H' = H4 ∧ (wh = "left" ∨ wh = "right" ∨ wh = "others") ∧ (sh = "ring" → wh = "others"), ?_, fun σ' H' hM => ?_⟩
    · refine ⟨.str sh, rfl, rfl, _, rfl, ite2 (fun e => ?_) (fun e => ?_)⟩
      · exact ⟨"others", rfl, rfl, .inr (.inr rfl), fun _ => rfl⟩
      · exact ⟨wh, rfl, rfl, hw, fun c => absurd (by simp [c]) e⟩
    obtain ⟨wh, rfl, rfl, hw, hring⟩ := hM
    refine ⟨by show 2 ≤ sizeLine; decide, fun p6 n6 => ?_⟩
    have f6 : H p6 = none := o5.free (R4.ne n6) n6
    refine ⟨.ref r, rfl, r, 2, rfl, R4.new n6, by decide, by decide, fun H7 g o7 R7 g0 g1 => ?_⟩
    obtain ⟨how, eh, hh⟩ := two_at (a := "all") (b := "some") g0 g1
    have o8 := (o5.mut f6).trans o7
    refine ⟨p6, _, g, .str how, rfl, rfl, .inl (.inl (o7 _ _ (R4.ne n6).symm upd_same)), eh, .str wh, rfl, ?_⟩
    refine ⟨.ref r, rfl, .str z, rfl, r, z, rfl, R7, hz, fun H9 cs o9 R9 scs lcs => ?_⟩
    have o10 := o8.trans o9
    refine ⟨by show 3 ≤ sizeLine; decide, fun gp ngp => ?_⟩
    have fg : H gp = none := o10.free (R9.ne ngp) ngp
    have R10 := R9.new (o := .tup [.str how, .str wh, .str ⟨cs.toArray⟩]) ngp
    have e10 : (upd H9 gp (.tup [.str how, .str wh, .str ⟨cs.toArray⟩])) gp = some (.tup [.str how, .str wh, .str ⟨cs.toArray⟩]) := upd_same
    have o11 := o10.mut (o := .tup [.str how, .str wh, .str ⟨cs.toArray⟩]) fg
    generalize upd H9 gp (.tup [.str how, .str wh, .str ⟨cs.toArray⟩]) = H10 at R10 e10 o11
    refine ⟨.str (sg x), rfl, .str (sg y), rfl, .ref gp, rfl, .ref gp, rfl, by show 3 ≤ sizeLine; decide, fun p11 n11 => ?_⟩
    have f11 : H p11 = none := o11.free (R10.ne n11) n11
    have R11 := R10.new (o := .lst [.non, .ref gp, .ref gp]) n11
    refine ⟨.ref r, rfl, r, 3, rfl, R11, by decide, by decide, fun H12 g o12 R12 g0 g1 => ?_⟩
    have o13 := (o11.mut f11).trans o12
    have e12 : H12 gp = some (.tup [.str how, .str wh, .str ⟨cs.toArray⟩]) := o12 _ _ (R11.neT ((same_new n11) _ _ e10)) ((same_new n11) _ _ e10)
    have ok : ∀ G, some (⟨how, wh, cs⟩ : Grd) = some G → G.Ok z sh := fun G e => by
      cases e
      exact ⟨hh, hw, hring, fun c hc => scs.subset hc, lcs, Nat.le_trans scs.length_le (by rw [Array.length_toList]; exact Nat.le_trans hz.five (by decide))⟩
    obtain ⟨v, gg, ev, hv, hgg⟩ : ∃ v gg, atI [V.non, V.ref gp, V.ref gp] g = some v ∧ GrdAt H12 v gg ∧ ∀ G, gg = some G → G.Ok z sh := by
      have : g = 0 ∨ g = 1 ∨ g = 2 := by omega
      rcases this with rfl | rfl | rfl
      · exact ⟨.non, none, rfl, rfl, fun _ h => nomatch h⟩
      · exact ⟨.ref gp, some ⟨how, wh, cs⟩, rfl, ⟨gp, rfl, e12⟩, ok⟩
      · exact ⟨.ref gp, some ⟨how, wh, cs⟩, rfl, ⟨gp, rfl, e12⟩, ok⟩
    refine ⟨p11, _, g, v, rfl, rfl, .inl (.inl (o12 _ _ (R10.ne n11).symm upd_same)), ev, by show 4 ≤ sizeLine; decide, fun p n5 => ?_⟩
    exact q _ p (.one x y gg) (o13.mut (o13.free (R12.ne n5) n5)) (R12.new n5) ⟨v, upd_same, hv.mono (Tups.new n5)⟩ ⟨hx, hy, hgg⟩ ⟨n0, n1⟩
end
end LH

namespace LH
open PySem PySem.Spec PyProof.Rows L2
/-! ### repr of what is written with tuples, lists, texts, numbers, in a frame below which no repr is under way -/
def rReprD (K : PySem.W.Frag) : List V → Hp → VK → Prop := fun xs H Q => ∃ (a : Addr) (d : PyData), xs = [.ref a] ∧ Dp K H (.ref a) d ∧ d.showable = true ∧ d.hasDict = false ∧ d.depth ≤ 60 ∧ d.shown.length ≤ sizeLine ∧ Q (.str d.shown) H
theorem cr_reprD {X : Cx} (hg : X.A.guards = some []) (hu : X.A.units + 64 < cLine) : CallR X (.builtin "repr") (rReprD X.K) := by
  intro pins s σ H xs us Q I r h
  obtain ⟨a, d, rfl, hd, sh, nd, dp, sz, q⟩ := h
  obtain ⟨u, rfl, rx⟩ := vals1 r
  obtain ⟨as, rd⟩ := Dp.reads I d _ u hd rx
  cases rx
  refine repr_of_reads' rd sh (fun h => by rw [nd] at h; cases h) hg (by omega) (fun _ _ e => e) (fun h' u tk hk => ?_) sz
  exact ⟨.str d.shown, H, I.kept (t' := tk) hk, ⟨u, rfl⟩, q⟩
/-- a def that is called where no repr is under way: nothing is promised of other places -/
def FnG (P : Program) (w : World) (K : PySem.W.Frag) (mg : Str → Option Value) (base : Heap) (k : Nat) (f : Addr) (fd : FuncData) (ps : List Str) (sp : Sp) : Prop :=
  ∀ (A : Around) (outer : List Env) (s : Shared) (H : Hp) (args : Args) (us : List Value) (vs : List V) (Q : VK) (E : XK), A.guards = some [] → Room k A → Env0 P w K mg base A outer s H → BindsTo s fd args (ps.zip us) → Vals vs us → sp vs H Q E →
    codeAny (model P w) A (.call (.ref f) args) (CR CX0 outer P w H s Q E) s
section
variable {P : Program} {w : World} {K : PySem.W.Frag} {mg : Str → Option Value} {base : Heap}
theorem okG {x qual : Str} {st : Stmt} {f : Addr} {fd : FuncData} {N ps : List Str} {k : Nat} {sp : Sp} (F : Fun K x qual st f fd) (S : FnScope N ps (defScope st)) (len : ∀ vs H Q E, sp vs H Q E → vs.length = ps.length)
    (body : ∀ (cdv : Value) (A : Around) (outer : List Env) (s : Shared) (H : Hp) (vs : List V) (Q : VK) (E : XK), A.guards = some [] → Room k (A.deeper (envOfC qual (defScope st) s.heap.objs.size f cdv)) → sp vs H Q E →
      ∃ t, PSs (cxOf CX0 P w K mg base N qual (defScope st) f cdv A outer s H E).nox (defBody st) t ∧ t { nx := fun _ H' => Q .non H', rt := Q } (start N vs) H) : FnG P w K mg base (k + 1) f fd ps sp := by
  obtain ⟨oc, od, kV, doc, pm, an, cdv, ct, osl, rfl, lk, hcd⟩ := F.ex
  intro A outer s H args us vs Q E hg hr e0 hb rv hsp
  obtain ⟨t, ht, hq⟩ := body cdv A outer s H vs Q E hg (hr.deeper _) hsp
  have up : ∀ b o, base.get? b = some o → s.heap.get? b = some o := fun b o e => (e0.bs b o e).1
  have kin := e0.mod.kin.keeps up
  refine codeAny_call_function hr.depth (kin _ _ lk) rfl S.co S.gen rfl (PySem.W.codeRec_of kin hcd) (hb _ _ _ _ ?_)
  refine wpAny_newFunctionEnv_cells S.kind (fun y hy => ?_) fun env he s1 nw => ?_
  · have hp := S.par y.1 (List.of_mem_zip hy).1
    exact hp.imp id fun h => ⟨h, PySem.W.cellsFrom_some _ _ _ (.inl h)⟩
  · subst he
    refine ⟨(e0.mod.nolimit.keeps up).keeps nw.toInCall.keep, codeAny_func ?_⟩
    have go := ht.nox.run [] s1 (start N vs) H _ (inv_start S hr.hd e0 (len _ _ _ _ hsp) rv nw) hq
    refine wpAny_mono go (fun fl s' hs => ?_) fun _ _ h => h
    match fl, hs with
    | .ret u, hs =>
      obtain ⟨v, σ', H', J, ru, q⟩ := hs
      exact ⟨v, H', J.os, J.bare, J.base, J.hok, ru, q⟩
    | .next, hs =>
      obtain ⟨σ', H', J, q⟩ := hs
      exact ⟨.non, H', J.os, J.bare, J.base, J.hok, rfl, q⟩
    | .brk, hs => exact hs.choose_spec.choose_spec.2.elim
    | .cont, hs => exact hs.choose_spec.choose_spec.2.elim
/-! ### the end -/
/-- the heap as it is told ahead of the law: nothing but the script, and it only where the module itself does not hold it -/
theorem first_hp {s : Shared} {a : Addr} {vs : List Value} {ns : List Int} (KX : K.In s.heap) (ha : s.heap.get? a = some { cls := .type "list", data := .seq vs.toArray }) (hi : IntsAre vs ns) (hl : ns.length ≤ sizeLine) :
    ∃ H : Hp, Only H ∧ SqL K H a (ns.map V.int) ∧ HOk P w H s.heap ∧ ∀ b u, H b = some u → b = a ∧ K.lookup a = none := by
  have rv := vals_ints hi
  cases hk : K.lookup a with
  | some o =>
    have e := KX a o hk
    rw [ha] at e
    cases e
    refine ⟨fun _ => none, fun _ => .inl rfl, .inr ⟨_, vs.toArray, _, hk, rfl, rfl, rfl, ?_, by simpa using rv⟩, (fun b u z => by cases z), (fun b u z => by cases z)⟩
    rw [List.size_toArray, hi.length]
    exact hl
  | none =>
    refine ⟨upd (fun _ => none) a (.frz { cls := .type "list", data := .seq vs.toArray } (.lst (ns.map V.int))), fun b => ?_, .inl (.inr ⟨_, upd_same⟩), fun b u z => ?_, fun b u z => ?_⟩
    · by_cases e : b = a
      · subst e
        exact .inr ⟨_, _, upd_same⟩
      · exact .inl (upd_ne e)
    · by_cases e : b = a
      · subst e
        rw [upd_same] at z
        cases z
        exact ⟨ha, by rw [List.length_map]; exact hl, vs, _, rv, ha⟩
      · rw [upd_ne e] at z
        cases z
    · by_cases e : b = a
      · exact ⟨e, rfl⟩
      · rw [upd_ne e] at z
        cases z
theorem law_callG {mb : Str → Option Value} {k : Nat} {fa a : Addr} {fd : FuncData} {x : Str} {sp : Sp} {s : Shared} {vs : List Value} {ns : List Int}
    (KX : K.In s.heap) (gl : s.heap.Ns mainGlobals mg) (bl : s.heap.Ns builtinsNs mb) (bb : ∀ x : Str, x ≠ "__name__" → mb x = bootBuiltins x) (lim : s.heap.NoLimit) (hg : s.gens = #[])
    (ha : s.heap.get? a = some { cls := .type "list", data := .seq vs.toArray }) (hi : IntsAre vs ns) (hl : ns.length ≤ sizeLine) (hr : Room k callerA)
    (F : ∀ base : Heap, K.In base → base.Ns mainGlobals mg → FnG P w K mg base k fa fd [x] sp) (hb : ∀ (s : Shared) (u : Value), BindsTo s fd ⟨[u], []⟩ [(x, u)])
    (hsp : ∀ H : Hp, Only H → SqL K H a (ns.map V.int) → sp [.ref a] H (fun v _ => v = .bl true) fun _ _ _ => False) :
    codeAny (model P w) callerA (.call (.ref fa) ⟨[.ref a], []⟩) (fun r s' => r = .ok (.ret (.bool true)) ∧ OldK s.heap s'.heap ∧ s'.os = s.os ∧ AllBare s'.gens) s := by
  obtain ⟨H, only, sq, hok, at_⟩ := first_hp (P := P) (w := w) KX ha hi hl
  -- what is no list keeps its place in the base
  have none_of : ∀ {b : Addr}, b ≠ a → H b = none := fun {b} ne => by
    cases e : H b with
    | none => rfl
    | some u => exact absurd (at_ b u e).1 ne
  have spaces : ∀ {b : Addr} {m : Str → Option Value}, s.heap.Ns b m → (hidT s.heap H).Ns b m := fun {b m} h => by
    obtain ⟨o, es, ep, e, d, r⟩ := h
    refine ⟨o, es, ep, hidT_get e (none_of ?_), d, r⟩
    rintro rfl
    rw [ha] at e
    cases e
    cases d
  have kin : K.In (hidT s.heap H) := fun b o e => by
    refine hidT_get (KX b o e) ?_
    cases q : H b with
    | none => rfl
    | some u =>
      obtain ⟨rfl, z⟩ := at_ b u q
      rw [z] at e
      cases e
  have md : Mod K mg (hidT s.heap H) := ⟨kin, spaces gl, ⟨mb, spaces bl, bb⟩, lim.imp fun mc h => ⟨spaces h.1, h.2⟩⟩
  have e0 : Env0 P w K mg (hidT s.heap H) callerA [] s H := ⟨rfl, md, fun b o e => of_hidT e, Nat.le_of_eq (hidT_size _ _), trivial, (fun b z => by cases z), hok, .of_eq hg⟩
  refine codeAny_mono (F _ kin (spaces gl) callerA [] s H ⟨[.ref a], []⟩ [.ref a] [.ref a] _ _ rfl hr e0 (hb s (.ref a)) (.cons rfl .nil) (hsp H only sq)) fun r s' h => ?_
  match r, h with
  | .ok (.ret u), h =>
    obtain ⟨v, H', os, bare, un, hok', rv, rfl⟩ := h
    obtain rfl : u = Value.bool true := rv
    refine ⟨rfl, OldK.of_keep fun b o e => ?_, os, bare⟩
    rcases only b with z | ⟨ob, xs, z⟩
    · exact un.keep b o e z (fun z => by cases z) (fun z => by cases z)
    · have e1 := (hok b _ z).1
      have e2 := (hok' b _ (un.frzs b ob _ z)).1
      rw [e] at e1
      cases e1
      exact e2
  | .ok .next, h => exact False.elim h
  | .ok .brk, h => exact False.elim h
  | .ok .cont, h => exact False.elim h
  | .error e, h => exact False.elim h
end
theorem walk_ofG {l : PySem.W.OpenLaw} {n k : Nat} {q : Program} {loose : List Str} {XP : (Str → Option Value) → Heap → Prop} {YP : World → Heap → Prop} {d : DefRec} {K : Params → PySem.W.Frag} {sp : PySem.W.Frag → Sp} {x : Str}
    (hn : l.most = some n) (hn2 : n ≤ sizeLine) (hdf : d.params.defaults = []) (hr : Room k callerA) (hY : ∀ (w : World) (h : Heap), YP w h → (K w.params).In h)
    (F : ∀ (w : World) (mg : Str → Option Value) (fa : Addr) (h : Heap), (K w.params).In h → h.Ns mainGlobals mg → mg d.name = some (.ref fa) →
      ∃ fd : FuncData, (∀ (s : Shared) (u : Value), BindsTo s fd ⟨[u], []⟩ [(x, u)]) ∧ ∀ base : Heap, (K w.params).In base → base.Ns mainGlobals mg → FnG l.prog w (K w.params) mg base k fa fd [x] (sp (K w.params)))
    (hsp : ∀ (K : PySem.W.Frag) (H : Hp) (a : Addr) (ns : List Int), ns.length ≤ n → Only H → SqL K H a (ns.map V.int) → sp K [.ref a] H (fun v _ => v = .bl true) fun _ _ _ => False) :
    PySem.W.WalkO q loose XP YP l.row.toRowW d [] (fun f vs => PySem.call f vs) := by
  refine Att.attach_call hn hdf fun w s₀ s₁ mg mb fa o pm cd doc a vs ns G Y ho hd hcd hmg hobj hints hlen hg => ?_
  obtain ⟨fd, hb, hF⟩ := F w mg fa _ (hY w _ Y) G.T.g hmg
  exact law_callG (hY w _ Y) G.T.g G.T.b G.T.builtins G.T.nolimit hg hobj hints (Nat.le_trans hlen hn2) hr hF hb fun H hO hS => hsp _ H a ns hlen hO hS
end LH

namespace LH
open PySem PySem.Spec PyProof.Rows L2
/-! ### texts one behind the other -/
abbrev tx (cs : List Nat) : Str := ⟨cs.toArray⟩
theorem sl_app (a b : Str) : (a ++ b).length = a.length + b.length := by
  show (a.cps ++ b.cps).size = _
  rw [Array.size_append]
  rfl
theorem st_app (a b : Str) : (a ++ b).cps.toList = a.cps.toList ++ b.cps.toList := by
  show (a.cps ++ b.cps).toList = _
  rw [Array.toList_append]
theorem st_ext {a b : Str} (h : a.cps.toList = b.cps.toList) : a = b := by
  have := congrArg List.toArray h
  exact congrArg Str.mk this
theorem st_empty : Str.empty.cps.toList = [] := rfl
theorem fit {s : Str} (h : s.length ≤ 1000) : s.length ≤ sizeLine := Nat.le_trans h (by decide)
theorem sl_sg (c : Nat) : (sg c).length = 1 := rfl
theorem tx_len' (cs : List Nat) : (tx cs).length = cs.length := List.size_toArray
theorem sl_empty : Str.empty.length = 0 := rfl
theorem sl1 : ("two " : Str).length = 4 := by decide
theorem sl2 : (" -> " : Str).length = 4 := by decide
theorem sl3 : ("call " : Str).length = 5 := by decide
theorem sl4 : (" by " : Str).length = 4 := by decide
theorem sl5 : ("one " : Str).length = 4 := by decide
theorem sl6 : (" when " : Str).length = 6 := by decide
theorem sl7 : (" " : Str).length = 1 := by decide
theorem sl8 : (" in " : Str).length = 4 := by decide
theorem sl9 : ("\n" : Str).length = 1 := by decide
theorem sl10 : ("letters " : Str).length = 8 := by decide
theorem sl11 : ("begin " : Str).length = 6 := by decide
theorem sl12 : ("bad " : Str).length = 4 := by decide
def showR : Rul → Str
  | .two x y u v => Str.empty ++ "two " ++ sg x ++ sg y ++ " -> " ++ sg u ++ sg v
  | .call x y im => Str.empty ++ "call " ++ sg x ++ " -> " ++ sg y ++ " by " ++ tx im
  | .one x y none => Str.empty ++ "one " ++ sg x ++ " -> " ++ sg y
  | .one x y (some G) => Str.empty ++ "one " ++ sg x ++ " -> " ++ sg y ++ " when " ++ G.how ++ " " ++ G.wh ++ " in " ++ tx G.sm
theorem how_len {G : Grd} {z sh : Str} (h : G.Ok z sh) : G.how.length ≤ 4 := by
  rcases h.how with e | e
  · rw [e]; decide
  · rw [e]; decide
theorem wh_len {G : Grd} {z sh : Str} (h : G.Ok z sh) : G.wh.length ≤ 6 := by
  rcases h.wh with e | e | e
  · rw [e]; decide
  · rw [e]; decide
  · rw [e]; decide
theorem showR_len {R : Rul} {z sh : Str} (ok : R.Ok z sh) (hz : z.length ≤ 5) : (showR R).length ≤ 200 := by
  cases R with
  | two x y u v =>
    unfold showR
    simp only [sl_app, sl_sg, sl_empty, sl1, sl2]
    omega
  | call x y im =>
    have := ok.2.2.1
    unfold showR
    simp only [sl_app, sl_sg, sl_empty, sl2, sl3, sl4, tx_len', List.length_cons, List.length_nil]
    omega
  | one x y g =>
    cases g with
    | none =>
      unfold showR
      simp only [sl_app, sl_sg, sl_empty, sl2, sl5]
      omega
    | some G =>
      have gk := ok.2.2 G rfl
      have h1 := how_len gk
      have h2 := wh_len gk
      have h3 := gk.one.2
      unfold showR
      simp only [sl_app, sl_sg, sl_empty, sl2, sl5, sl6, sl7, sl8, tx_len', List.length_cons, List.length_nil]
      omega
section
variable {P : Program} {w : World} {K : PySem.W.Frag} {mg : Str → Option Value} {base : Heap}
def sp_show_rule : Sp := fun vs H Q _ => ∃ (z sh : Str) (p : Addr) (R : Rul), vs = [.ref p] ∧ RulAt H p R ∧ R.Ok z sh ∧ z.length ≤ 5 ∧ ∀ H', Same H H' → Q (.str (showR R)) H'
theorem ok_show_rule (T : TX K mg) : FnOk P w K mg base CX0 1 T.a_show_rule T.fd_show_rule ["rule"] sp_show_rule := by
  refine T.F_show_rule.ok sc_show_rule (fun vs H Q E h => ?_) (fun cdv A outer s H vs Q E hr h => ?_)
  · obtain ⟨z, sh, p, R, rfl, _⟩ := h
    rfl
  · obtain ⟨z, sh, p, R, rfl, hp, ok, hz, q⟩ := h
    refine ⟨_, (pss_cons (ps_if (pt_cmpR op_eq (pe_ix (ix_tupK K rfl) (pv 0) pe_int (fun _ _ => rfl)) pe_str (nomark _))
        (pss_cons (ps_asg (pv 0) (pg_tupK (n := 5) K rfl (by rfl) (pgs_cons (pg_name (i := 1) sc_show_rule.nd rfl (Or.inl rfl)) (pgs_cons (pg_name (i := 2) sc_show_rule.nd rfl (Or.inl rfl)) (pgs_cons (pg_name (i := 3) sc_show_rule.nd rfl (Or.inl rfl)) (pgs_cons (pg_name (i := 4) sc_show_rule.nd rfl (Or.inl rfl)) (pgs_cons (pg_name (i := 5) sc_show_rule.nd rfl (Or.inl rfl)) pgs_nil)))))))
          (pss_one (ps_ret (pe_joined (.cons pe_str (.cons (pe_fmt (pv 2)) (.cons (pe_fmt (pv 3)) (.cons pe_str (.cons (pe_fmt (pv 4)) (.cons (pe_fmt (pv 5)) .nil))))))))))
        pss_nil)
      (pss_cons (ps_asg (pv 0) (pg_tupK (n := 4) K rfl (by rfl) (pgs_cons (pg_name (i := 1) sc_show_rule.nd rfl (Or.inl rfl)) (pgs_cons (pg_name (i := 2) sc_show_rule.nd rfl (Or.inl rfl)) (pgs_cons (pg_name (i := 3) sc_show_rule.nd rfl (Or.inl rfl)) (pgs_cons (pg_name (i := 6) sc_show_rule.nd rfl (Or.inl rfl)) pgs_nil))))))
      (pss_cons (ps_if (pt_cmpR op_eq (pv 1) pe_str (nomark _))
        (pss_one (ps_ret (pe_joined (.cons pe_str (.cons (pe_fmt (pv 2)) (.cons pe_str (.cons (pe_fmt (pv 3)) (.cons pe_str (.cons (pe_fmt (pv 6)) .nil)))))))))
        pss_nil)
      (pss_cons (ps_if (pt_cmpR op_isN (pv 6) pe_non (nomark _))
        (pss_one (ps_ret (pe_joined (.cons pe_str (.cons (pe_fmt (pv 2)) (.cons pe_str (.cons (pe_fmt (pv 3)) .nil)))))))
        pss_nil)
      (pss_cons (ps_asg (pv 6) (pg_tupK (n := 3) K rfl (by rfl) (pgs_cons (pg_name (i := 7) sc_show_rule.nd rfl (Or.inl rfl)) (pgs_cons (pg_name (i := 8) sc_show_rule.nd rfl (Or.inl rfl)) (pgs_cons (pg_name (i := 9) sc_show_rule.nd rfl (Or.inl rfl)) pgs_nil)))))
      (pss_one (ps_ret (pe_joined (.cons pe_str (.cons (pe_fmt (pv 2)) (.cons pe_str (.cons (pe_fmt (pv 3)) (.cons pe_str (.cons (pe_fmt (pv 7)) (.cons pe_str (.cons (pe_fmt (pv 8)) (.cons pe_str (.cons (pe_fmt (pv 9)) .nil)))))))))))))))))), ?_⟩
    have sgl : ∀ c : Nat, (sg c).length ≤ sizeLine := fun c => by rw [sl_sg]; decide
    cases R with
    | two x y u v =>
      have hp : H p = some (.tup [.str "two", .str (sg x), .str (sg y), .str (sg u), .str (sg v)]) := hp
      have sq : SqT K H p [.str "two", .str (sg x), .str (sg y), .str (sg u), .str (sg v)] := .inl (.inl hp)
      refine ⟨.ref p, rfl, p, _, 0, .str "two", rfl, rfl, sq, atI_nat (j := 0) rfl, rfl, _, rfl, iteT ?_⟩
      refine ⟨.ref p, rfl, p, _, rfl, sq, rfl, .str "two", _, rfl, .str (sg x), _, rfl, .str (sg y), _, rfl, .str (sg u), _, rfl, .str (sg v), [], rfl, rfl, ?_⟩
      refine ⟨_, rfl, ?_, .str (sg x), rfl, .inl ⟨_, rfl, sgl _, _, rfl, ?_, .str (sg y), rfl, .inl ⟨_, rfl, sgl _, _, rfl, ?_, _, rfl, ?_, .str (sg u), rfl, .inl ⟨_, rfl, sgl _, _, rfl, ?_, .str (sg v), rfl, .inl ⟨_, rfl, sgl _, _, rfl, ?_, q _ fun _ _ e => e⟩⟩⟩⟩⟩
      all_goals
        refine fit ?_
        simp only [sl_app, sl_sg, sl_empty, sl1, sl2]
        omega
    | call x y im =>
      have hp : H p = some (.tup [.str "call", .str (sg x), .str (sg y), .str (tx im)]) := hp
      have sq : SqT K H p [.str "call", .str (sg x), .str (sg y), .str (tx im)] := .inl (.inl hp)
      have il := ok.2.2.1
      refine ⟨.ref p, rfl, p, _, 0, .str "call", rfl, rfl, sq, atI_nat (j := 0) rfl, rfl, _, rfl, iteF ?_⟩
      refine ⟨.ref p, rfl, p, _, rfl, sq, rfl, .str "call", _, rfl, .str (sg x), _, rfl, .str (sg y), _, rfl, .str (tx im), [], rfl, rfl, ?_⟩
      refine ⟨.str "call", rfl, rfl, _, rfl, iteT ?_⟩
      refine ⟨_, rfl, ?_, .str (sg x), rfl, .inl ⟨_, rfl, sgl _, _, rfl, ?_, _, rfl, ?_, .str (sg y), rfl, .inl ⟨_, rfl, sgl _, _, rfl, ?_, _, rfl, ?_, .str (tx im), rfl, .inl ⟨_, rfl, ?_, _, rfl, ?_, q _ fun _ _ e => e⟩⟩⟩⟩
      all_goals
        refine fit ?_
        simp only [sl_app, sl_sg, sl_empty, sl2, sl3, sl4, tx_len', List.length_cons, List.length_nil]
        omega
    | one x y g =>
      obtain ⟨v, hp, hg⟩ := hp
      have sq : SqT K H p [.str "one", .str (sg x), .str (sg y), v] := .inl (.inl hp)
      refine ⟨.ref p, rfl, p, _, 0, .str "one", rfl, rfl, sq, atI_nat (j := 0) rfl, rfl, _, rfl, iteF ?_⟩
      refine ⟨.ref p, rfl, p, _, rfl, sq, rfl, .str "one", _, rfl, .str (sg x), _, rfl, .str (sg y), _, rfl, v, [], rfl, rfl, ?_⟩
      refine ⟨.str "one", rfl, rfl, _, rfl, iteF ?_⟩
      refine ⟨v, rfl, rfl, _, rfl, ?_⟩
      cases g with
      | none =>
        obtain rfl : v = .non := hg
        refine iteT ?_
        refine ⟨_, rfl, ?_, .str (sg x), rfl, .inl ⟨_, rfl, sgl _, _, rfl, ?_, _, rfl, ?_, .str (sg y), rfl, .inl ⟨_, rfl, sgl _, _, rfl, ?_, q _ fun _ _ e => e⟩⟩⟩
        all_goals
          refine fit ?_
          simp only [sl_app, sl_sg, sl_empty, sl2, sl5]
          omega
      | some G =>
        obtain ⟨gp, rfl, eg⟩ := hg
        have gk := ok.2.2 G rfl
        have h1 := how_len gk
        have h2 := wh_len gk
        have h3 := gk.one.2
        refine iteF ?_
        refine ⟨.ref gp, rfl, gp, [.str G.how, .str G.wh, .str (tx G.sm)], rfl, .inl (.inl eg), rfl, .str G.how, _, rfl, .str G.wh, _, rfl, .str (tx G.sm), [], rfl, rfl, ?_⟩
        refine ⟨_, rfl, ?_, .str (sg x), rfl, .inl ⟨_, rfl, sgl _, _, rfl, ?_, _, rfl, ?_, .str (sg y), rfl, .inl ⟨_, rfl, sgl _, _, rfl, ?_, _, rfl, ?_, .str G.how, rfl, .inl ⟨_, rfl, ?_, _, rfl, ?_, _, rfl, ?_, .str G.wh, rfl, .inl ⟨_, rfl, ?_, _, rfl, ?_, _, rfl, ?_, .str (tx G.sm), rfl, .inl ⟨_, rfl, ?_, _, rfl, ?_, q _ fun _ _ e => e⟩⟩⟩⟩⟩⟩
        all_goals
          refine fit ?_
          try simp only [sl_app, sl_sg, sl_empty, sl2, sl5, sl6, sl7, sl8, tx_len', List.length_cons, List.length_nil]
          omega
end
end LH

namespace LH
open PySem PySem.Spec PyProof.Rows L2
theorem e_call : ("call " : Str) = "call" ++ " " := by decide
theorem e_to : (" -> " : Str) = " " ++ "->" ++ " " := by decide
theorem e_by : (" by " : Str) = " " ++ "by" ++ " " := by decide
theorem e_one : ("one " : Str) = "one" ++ " " := by decide
theorem e_when : (" when " : Str) = " " ++ "when" ++ " " := by decide
theorem e_in : (" in " : Str) = " " ++ "in" ++ " " := by decide
theorem line_two (x y u v : Nat) : ("two " : Str) ++ sg x ++ sg y ++ " -> " ++ sg u ++ sg v = showR (.two x y u v) := by
  unfold showR
  refine st_ext ?_
  simp only [st_app, st_empty, List.nil_append]
theorem line_call (x y : Nat) (im : List Nat) : Txt.join " " ["call", sg x, "->", sg y, "by", tx im] = showR (.call x y im) := by
  rw [TL.join_eq]
  show ("call" : Str) ++ " " ++ (sg x ++ " " ++ ("->" ++ " " ++ (sg y ++ " " ++ ("by" ++ " " ++ tx im)))) = _
  unfold showR
  rw [e_call, e_to, e_by]
  refine st_ext ?_
  simp only [st_app, st_empty, List.nil_append, List.append_assoc]
theorem line_one (x y : Nat) : Txt.join " " ["one", sg x, "->", sg y] = showR (.one x y none) := by
  rw [TL.join_eq]
  show ("one" : Str) ++ " " ++ (sg x ++ " " ++ ("->" ++ " " ++ sg y)) = _
  unfold showR
  rw [e_one, e_to]
  refine st_ext ?_
  simp only [st_app, st_empty, List.nil_append, List.append_assoc]
theorem line_grd (x y : Nat) (G : Grd) : Txt.join " " ["one", sg x, "->", sg y, "when", G.how, G.wh, "in", tx G.sm] = showR (.one x y (some G)) := by
  rw [TL.join_eq]
  show ("one" : Str) ++ " " ++ (sg x ++ " " ++ ("->" ++ " " ++ (sg y ++ " " ++ ("when" ++ " " ++ (G.how ++ " " ++ (G.wh ++ " " ++ ("in" ++ " " ++ tx G.sm))))))) = _
  unfold showR
  rw [e_one, e_to, e_when, e_in]
  refine st_ext ?_
  simp only [st_app, st_empty, List.nil_append, List.append_assoc]
theorem fit2 {a b : Str} (h : a.length + b.length ≤ 1000) : a.length + b.length ≤ sizeLine := Nat.le_trans h (by decide)
section
variable {P : Program} {w : World} {K : PySem.W.Frag} {mg : Str → Option Value} {base : Heap}
theorem ok_law_line (T : TX K mg) : FnOk P w K mg base CX0 1 T.a_law_line T.fd_law_line ["rule"] sp_show_rule := by
  refine T.F_law_line.ok sc_law_line (fun vs H Q E h => ?_) (fun cdv A outer s H vs Q E hr h => ?_)
  · obtain ⟨z, sh, p, R, rfl, _⟩ := h
    rfl
  · obtain ⟨z, sh, p, R, rfl, hp, ok, hz, q⟩ := h
    refine ⟨_, (pss_cons (ps_if (pt_cmpR op_eq (pe_ix (ix_tupK K rfl) (pv 0) pe_int (fun _ _ => rfl)) pe_str (nomark _))
        (pss_one (ps_ret (pe_op op_add_str (pe_op op_add_str (pe_op op_add_str (pe_op op_add_str (pe_op op_add_str pe_str (pe_ix (ix_tupK K rfl) (pv 0) pe_int (fun _ _ => rfl))) (pe_ix (ix_tupK K rfl) (pv 0) pe_int (fun _ _ => rfl))) pe_str) (pe_ix (ix_tupK K rfl) (pv 0) pe_int (fun _ _ => rfl))) (pe_ix (ix_tupK K rfl) (pv 0) pe_int (fun _ _ => rfl)))))
        pss_nil)
      (pss_cons (ps_if (pt_cmpR op_eq (pe_ix (ix_tupK K rfl) (pv 0) pe_int (fun _ _ => rfl)) pe_str (nomark _))
        (pss_one (ps_ret (pe_m1 PySem.F.slot_str_join PySem.F.type_str_join (mt_joinK K rfl) pe_str (pe_lst (pa_cons pe_str (pa_cons (pe_ix (ix_tupK K rfl) (pv 0) pe_int (fun _ _ => rfl)) (pa_cons pe_str (pa_cons (pe_ix (ix_tupK K rfl) (pv 0) pe_int (fun _ _ => rfl)) (pa_cons pe_str (pa_cons (pe_ix (ix_tupK K rfl) (pv 0) pe_int (fun _ _ => rfl)) pa_nil))))))))))
        pss_nil)
      (pss_cons (ps_set (i := 1) sc_law_line.nd rfl (Or.inl rfl) (pe_lst (pa_cons pe_str (pa_cons (pe_ix (ix_tupK K rfl) (pv 0) pe_int (fun _ _ => rfl)) (pa_cons pe_str (pa_cons (pe_ix (ix_tupK K rfl) (pv 0) pe_int (fun _ _ => rfl)) pa_nil))))))
      (C8.pss_cut (ps_if (pt_cmpR op_notN (pe_ix (ix_tupK K rfl) (pv 0) pe_int (fun _ _ => rfl)) pe_non (nomark _))
        (pss_one (ps_set (i := 1) sc_law_line.nd rfl (Or.inl rfl) (pe_op op_cat (pv 1) (pe_lst (pa_cons pe_str (pa_cons (pe_ix (ix_tupK K rfl) (pe_ix (ix_tupK K rfl) (pv 0) pe_int (fun _ _ => rfl)) pe_int (fun _ _ => rfl)) (pa_cons (pe_ix (ix_tupK K rfl) (pe_ix (ix_tupK K rfl) (pv 0) pe_int (fun _ _ => rfl)) pe_int (fun _ _ => rfl)) (pa_cons pe_str (pa_cons (pe_ix (ix_tupK K rfl) (pe_ix (ix_tupK K rfl) (pv 0) pe_int (fun _ _ => rfl)) pe_int (fun _ _ => rfl)) pa_nil)))))))))
        pss_nil)
      (pss_one (ps_ret (pe_m1 PySem.F.slot_str_join PySem.F.type_str_join (mt_joinK K rfl) pe_str (pv 1)))))))), ?_⟩
    cases R with
    | two x y u v =>
      have hp : H p = some (.tup [.str "two", .str (sg x), .str (sg y), .str (sg u), .str (sg v)]) := hp
      have sq : SqT K H p [.str "two", .str (sg x), .str (sg y), .str (sg u), .str (sg v)] := .inl (.inl hp)
      refine ⟨.ref p, rfl, p, _, 0, .str "two", rfl, rfl, sq, atI_nat (j := 0) rfl, rfl, _, rfl, iteT ?_⟩
      refine ⟨.ref p, rfl, p, _, 1, .str (sg x), rfl, rfl, sq, atI_nat (j := 1) rfl, _, _, rfl, rfl, ?_, .ref p, rfl, p, _, 2, .str (sg y), rfl, rfl, sq, atI_nat (j := 2) rfl, _, _, rfl, rfl, ?_, _, _, rfl, rfl, ?_, .ref p, rfl, p, _, 3, .str (sg u), rfl, rfl, sq, atI_nat (j := 3) rfl, _, _, rfl, rfl, ?_, .ref p, rfl, p, _, 4, .str (sg v), rfl, rfl, sq, atI_nat (j := 4) rfl, _, _, rfl, rfl, ?_, ?_⟩
      case _ => exact fit2 (by simp only [sl_app, sl_sg, sl1, sl2]; omega)
      case _ => exact fit2 (by simp only [sl_app, sl_sg, sl1, sl2]; omega)
      case _ => exact fit2 (by simp only [sl_app, sl_sg, sl1, sl2]; omega)
      case _ => exact fit2 (by simp only [sl_app, sl_sg, sl1, sl2]; omega)
      case _ => exact fit2 (by simp only [sl_app, sl_sg, sl1, sl2]; omega)
      rw [line_two]
      exact q _ fun _ _ e => e
    | call x y im =>
      have hp : H p = some (.tup [.str "call", .str (sg x), .str (sg y), .str (tx im)]) := hp
      have sq : SqT K H p [.str "call", .str (sg x), .str (sg y), .str (tx im)] := .inl (.inl hp)
      have il := ok.2.2.1
      refine ⟨.ref p, rfl, p, _, 0, .str "call", rfl, rfl, sq, atI_nat (j := 0) rfl, rfl, _, rfl, iteF ?_⟩
      refine ⟨.ref p, rfl, p, _, 0, .str "call", rfl, rfl, sq, atI_nat (j := 0) rfl, rfl, _, rfl, iteT ?_⟩
      refine ⟨⟨_, rfl⟩, .ref p, rfl, p, _, 1, .str (sg x), rfl, rfl, sq, atI_nat (j := 1) rfl, .ref p, rfl, p, _, 2, .str (sg y), rfl, rfl, sq, atI_nat (j := 2) rfl, .ref p, rfl, p, _, 3, .str (tx im), rfl, rfl, sq, atI_nat (j := 3) rfl, by show 6 ≤ sizeLine; decide, fun l nl => ?_⟩
      refine ⟨" ", l, ["call", sg x, "->", sg y, "by", tx im], rfl, rfl, .inl (.inl (.inl upd_same)), ?_, ?_⟩
      · show 4 + (1 + (2 + (1 + (2 + ((tx im).length + 0))))) + 6 * 1 ≤ 16777216
        rw [tx_len']
        omega
      rw [line_call]
      exact q _ (same_new nl)
    | one x y g =>
      obtain ⟨v, hp, hg⟩ := hp
      have sq : ∀ {H' : Hp}, Same H H' → SqT K H' p [.str "one", .str (sg x), .str (sg y), v] := fun s => .inl (.inl (s _ _ hp))
      have s0 : Same H H := fun _ _ e => e
      refine ⟨.ref p, rfl, p, _, 0, .str "one", rfl, rfl, sq s0, atI_nat (j := 0) rfl, rfl, _, rfl, iteF ?_⟩
      refine ⟨.ref p, rfl, p, _, 0, .str "one", rfl, rfl, sq s0, atI_nat (j := 0) rfl, rfl, _, rfl, iteF ?_⟩
      refine ⟨.ref p, rfl, p, _, 1, .str (sg x), rfl, rfl, sq s0, atI_nat (j := 1) rfl, .ref p, rfl, p, _, 2, .str (sg y), rfl, rfl, sq s0, atI_nat (j := 2) rfl, by show 4 ≤ sizeLine; decide, fun l nl => ?_⟩
      have s1 := same_new (o := .lst [.str "one", .str (sg x), .str "->", .str (sg y)]) nl
      have e1 : (upd H l (.lst [.str "one", .str (sg x), .str "->", .str (sg y)])) l = some (.lst [.str "one", .str (sg x), .str "->", .str (sg y)]) := upd_same
      generalize upd H l (.lst [.str "one", .str (sg x), .str "->", .str (sg y)]) = H1 at s1 e1
      cases g with
      | none =>
        obtain rfl : v = .non := hg
        refine ⟨fun σ H' => σ = [some (.ref p), some (.ref l)] ∧ H' = H1, ?_, ?_⟩
        · exact ⟨.ref p, rfl, p, _, 3, .non, rfl, rfl, sq s1, atI_nat (j := 3) rfl, rfl, _, rfl, iteF ⟨rfl, rfl⟩⟩
        · rintro σ H' ⟨rfl, rfl⟩
          refine ⟨⟨_, rfl⟩, .ref l, rfl, " ", l, ["one", sg x, "->", sg y], rfl, rfl, .inl (.inl (.inl e1)), by show 3 + (1 + (2 + (1 + 0))) + 4 * 1 ≤ 16777216; omega, ?_⟩
          rw [line_one]
          exact q _ s1
      | some G =>
        obtain ⟨gp, rfl, eg⟩ := hg
        have gk := ok.2.2 G rfl
        have h1 := how_len gk
        have h2 := wh_len gk
        have h3 := gk.one.2
        have sg_ : SqT K H1 gp [.str G.how, .str G.wh, .str (tx G.sm)] := .inl (.inl (s1 _ _ eg))
        refine ⟨fun σ H' => ∃ l2, σ = [some (.ref p), some (.ref l2)] ∧ Same H H' ∧ H' l2 = some (.lst ([.str "one", .str (sg x), .str "->", .str (sg y)] ++ [.str "when", .str G.how, .str G.wh, .str "in", .str (tx G.sm)])), ?_, ?_⟩
        · refine ⟨.ref p, rfl, p, _, 3, .ref gp, rfl, rfl, sq s1, atI_nat (j := 3) rfl, rfl, _, rfl, iteT ?_⟩
          refine ⟨.ref l, rfl, .ref p, rfl, p, _, 3, .ref gp, rfl, rfl, sq s1, atI_nat (j := 3) rfl, gp, _, 0, .str G.how, rfl, rfl, sg_, atI_nat (j := 0) rfl, .ref p, rfl, p, _, 3, .ref gp, rfl, rfl, sq s1, atI_nat (j := 3) rfl, gp, _, 1, .str G.wh, rfl, rfl, sg_, atI_nat (j := 1) rfl, .ref p, rfl, p, _, 3, .ref gp, rfl, rfl, sq s1, atI_nat (j := 3) rfl, gp, _, 2, .str (tx G.sm), rfl, rfl, sg_, atI_nat (j := 2) rfl, by show 5 ≤ sizeLine; decide, fun l2 n2 => ?_⟩
          refine ⟨l, l2, _, _, rfl, rfl, (same_new n2) _ _ e1, upd_same, by show 9 ≤ sizeLine; decide, fun l3 n3 => ⟨l3, rfl, (s1.trans (same_new n2)).trans (same_new n3), upd_same⟩⟩
        · rintro σ H' ⟨l2, rfl, s2, e2⟩
          refine ⟨⟨_, rfl⟩, .ref l2, rfl, " ", l2, ["one", sg x, "->", sg y, "when", G.how, G.wh, "in", tx G.sm], rfl, rfl, .inl (.inl (.inl e2)), ?_, ?_⟩
          · show 3 + (1 + (2 + (1 + (4 + (G.how.length + (G.wh.length + (2 + ((tx G.sm).length + 0)))))))) + 9 * 1 ≤ 16777216
            have h4 : (tx G.sm).length = G.sm.length := tx_len' _
            rw [h4]
            omega
          rw [line_grd]
          exact q _ s2
end
end LH

namespace LH
open PySem PySem.Spec PyProof.Rows L2
structure Wd where
  z : Str
  sh : Str
  rs : List Rul
  b : Str
  d : Str
structure Wd.Ok (W : Wd) : Prop where
  let_ : IsLet W.z
  sh : W.sh = "row" ∨ W.sh = "ring"
  many : W.rs.length ≤ 8
  rs : ∀ R ∈ W.rs, R.Ok W.z W.sh
  b : W.b.length ≤ 30
  d : W.d.length ≤ 30
  bs : ∀ c ∈ W.b.cps.toList, c ≤ 124
  ds : ∀ c ∈ W.d.cps.toList, c ≤ 124
def WdAt (H : Hp) (a : Addr) (W : Wd) : Prop := ∃ (r : Addr) (ps : List Addr), H a = some (.tup [.str W.z, .str W.sh, .ref r, .str W.b, .str W.d]) ∧ H r = some (.tup (vr ps)) ∧ ps.length = W.rs.length ∧ ∀ (i : Nat) (p : Addr) (R : Rul), ps[i]? = some p → W.rs[i]? = some R → RulAt H p R
theorem WdAt.mono {H H' : Hp} {a : Addr} {W : Wd} (t : Tups H H') (h : WdAt H a W) : WdAt H' a W := by
  obtain ⟨r, ps, e1, e2, l, q⟩ := h
  exact ⟨r, ps, t _ _ e1, t _ _ e2, l, fun i p R x y => (q i p R x y).mono t⟩
def linesW (W : Wd) : List Str := [("letters " : Str) ++ W.z, W.sh] ++ W.rs.map showR ++ [("begin " : Str) ++ W.b, ("bad " : Str) ++ W.d]
def nl_ (y : Str) : Str := y ++ "\n"
def textW (W : Wd) : Str := Txt.join ⟨#[]⟩ ((linesW W).map nl_)
theorem sh_len {W : Wd} (ok : W.Ok) : W.sh.length ≤ 4 := by
  rcases ok.sh with e | e
  · rw [e]; decide
  · rw [e]; decide
theorem lines_len {W : Wd} (ok : W.Ok) : (linesW W).length ≤ 12 := by
  have := ok.many
  unfold linesW
  rw [List.length_append, List.length_append, List.length_map]
  show 2 + W.rs.length + 2 ≤ 12
  omega
theorem line_len {W : Wd} (ok : W.Ok) {y : Str} (h : y ∈ linesW W) : y.length ≤ 200 := by
  have h5 := ok.let_.five
  have h4 := sh_len ok
  have hb := ok.b
  have hd := ok.d
  unfold linesW at h
  rcases List.mem_append.mp h with h | h
  · rcases List.mem_append.mp h with h | h
    · rcases List.mem_cons.mp h with rfl | h
      · rw [sl_app, sl10]
        omega
      · rw [List.mem_singleton.mp h]
        omega
    · obtain ⟨R, hR, rfl⟩ := List.mem_map.mp h
      exact showR_len (ok.rs R hR) h5
  · rcases List.mem_cons.mp h with rfl | h
    · rw [sl_app, sl11]
      omega
    · rw [List.mem_singleton.mp h, sl_app, sl12]
      omega
theorem sum_le {l : List Nat} {n : Nat} (h : ∀ x ∈ l, x ≤ n) : l.sum ≤ l.length * n := by
  induction l with
  | nil => simp
  | cons a r ih =>
    have h1 := h a List.mem_cons_self
    have h2 := ih fun x hx => h x (List.mem_cons_of_mem _ hx)
    rw [List.sum_cons, List.length_cons, Nat.succ_mul]
    omega
theorem str_at {zs : List Str} {i : Nat} {x : V} (h : (zs.map V.str)[i]? = some x) : ∃ y, zs[i]? = some y ∧ x = .str y := by
  rw [List.getElem?_map] at h
  cases e : zs[i]? with
  | none =>
    rw [e] at h
    cases h
  | some y =>
    rw [e] at h
    cases h
    exact ⟨y, rfl, rfl⟩
theorem ref_at {zs : List Addr} {i : Nat} {x : V} (h : (vr zs)[i]? = some x) : ∃ y, zs[i]? = some y ∧ x = .ref y := by
  rw [List.getElem?_map] at h
  cases e : zs[i]? with
  | none =>
    rw [e] at h
    cases h
  | some y =>
    rw [e] at h
    cases h
    exact ⟨y, rfl, rfl⟩
theorem mapF_snoc {α : Type} {zs : List α} {i : Nat} {y : α} (F : α → Str) (h : zs[i]? = some y) : ((zs.take i).map F).map V.str ++ [V.str (F y)] = ((zs.take (i + 1)).map F).map V.str := by
  rw [List.take_add_one, h]
  simp
theorem mapF_snoc2 {α : Type} {zs : List α} {i : Nat} {y : α} (X : List Str) (F : α → Str) (h : zs[i]? = some y) : (X ++ (zs.take i).map F).map V.str ++ [V.str (F y)] = (X ++ (zs.take (i + 1)).map F).map V.str := by
  rw [List.take_add_one, h]
  simp
theorem take_len' {α : Type} (i : Nat) (cs : List α) : (cs.take i).length ≤ cs.length := by
  rw [List.length_take]
  omega
theorem text_fits {W : Wd} (ok : W.Ok) : (((linesW W).map nl_).map (·.length)).sum + ((linesW W).map nl_).length * (⟨#[]⟩ : Str).length ≤ 16777216 := by
  have h1 : ∀ x ∈ (((linesW W).map nl_).map (·.length)), x ≤ 201 := fun x hx => by
    obtain ⟨y, hy, rfl⟩ := List.mem_map.mp hx
    obtain ⟨u, hu, rfl⟩ := List.mem_map.mp hy
    have := line_len ok hu
    show (u ++ "\n").length ≤ 201
    rw [sl_app, sl9]
    omega
  have h2 := sum_le h1
  have h3 := lines_len ok
  rw [List.length_map, List.length_map] at h2
  show _ + _ * 0 ≤ 16777216
  omega
section
variable {P : Program} {w : World} {K : PySem.W.Frag} {mg : Str → Option Value} {base : Heap}
def sp_show_world : Sp := fun vs H Q _ => ∃ (a : Addr) (W : Wd), vs = [.ref a] ∧ WdAt H a W ∧ W.Ok ∧ ∀ H', Same H H' → Q (.str (textW W)) H'
theorem ok_show_world (T : TX K mg) : FnOk P w K mg base CX0 2 T.a_show_world T.fd_show_world ["world"] sp_show_world := by
  have G_show_rule : FnOk P w K mg base CX0 1 T.a_show_rule T.fd_show_rule ["rule"] sp_show_rule := ok_show_rule T
  refine T.F_show_world.ok sc_show_world (fun vs H Q E h => ?_) (fun cdv A outer s H vs Q E hr h => ?_)
  · obtain ⟨a, W, rfl, _⟩ := h
    rfl
  · obtain ⟨a, W, rfl, hW, ok, q⟩ := h
    refine ⟨_, (pss_cons (ps_asg (pv 0) (pg_tupK (n := 5) K rfl (by rfl) (pgs_cons (pg_name (i := 1) sc_show_world.nd rfl (Or.inl rfl)) (pgs_cons (pg_name (i := 2) sc_show_world.nd rfl (Or.inl rfl)) (pgs_cons (pg_name (i := 3) sc_show_world.nd rfl (Or.inl rfl)) (pgs_cons (pg_name (i := 4) sc_show_world.nd rfl (Or.inl rfl)) (pgs_cons (pg_name (i := 5) sc_show_world.nd rfl (Or.inl rfl)) pgs_nil)))))))
      (pss_cons (ps_set (i := 6) sc_show_world.nd rfl (Or.inl rfl) (pe_lst (pa_cons (pe_op op_add_str pe_str (pv 1)) (pa_cons (pv 2) pa_nil))))
      (pss_cons (ps_aug (i := 6) sc_show_world.nd rfl (Or.inl rfl) (pe_lc (own := [("rule", 7)]) (g := gName 7) (tt := tYes) (by rfl) sc_show_world.nd (pi_tupK K rfl (pv 3)) (blkOk_by (own := [("rule", 7)]) (N := N_show_world) (by kernel_rfl)) (fun _ _ _ _ _ => (pg_name (i := 7) sc_show_world.nd rfl (Or.inl rfl))) (fun _ _ _ _ _ => pts_nil) (fun _ _ _ _ _ => (pe_call G_show_rule (hr.mono (by decide)) (by rfl) T.g_show_rule T.F_show_rule.kp T.b_show_rule .nil pass0 (pa_cons (pv 7) pa_nil)))) iop_ext)
      (pss_cons (ps_aug (i := 6) sc_show_world.nd rfl (Or.inl rfl) (pe_lst (pa_cons (pe_op op_add_str pe_str (pv 4)) (pa_cons (pe_op op_add_str pe_str (pv 5)) pa_nil))) iop_ext)
      (pss_one (ps_ret (pe_m1 PySem.F.slot_str_join PySem.F.type_str_join (mt_joinK K rfl) pe_str (pe_lc (own := [("line", 8)]) (g := gName 8) (tt := tYes) (by rfl) sc_show_world.nd (pi_listK K rfl (pv 6)) (blkOk_by (own := [("line", 8)]) (N := N_show_world) (by kernel_rfl)) (fun _ _ _ _ _ => (pg_name (i := 8) sc_show_world.nd rfl (Or.inl rfl))) (fun _ _ _ _ _ => pts_nil) (fun _ _ _ _ _ => (pe_op op_add_str (pv 8) pe_str)))))))))), ?_⟩
    obtain ⟨r, ps, ea, er, pl, hps⟩ := hW
    have h5 := ok.let_.five
    have hb := ok.b
    have hd := ok.d
    have hm := ok.many
    refine ⟨.ref a, rfl, a, _, rfl, .inl (.inl ea), rfl, .str W.z, _, rfl, .str W.sh, _, rfl, .ref r, _, rfl, .str W.b, _, rfl, .str W.d, [], rfl, rfl, ?_⟩
    refine ⟨.str W.z, rfl, _, _, rfl, rfl, fit2 (by rw [sl10]; omega), .str W.sh, rfl, by show 2 ≤ sizeLine; decide, fun l nl => ?_⟩
    have s1 := same_new (o := .lst [.str ("letters " ++ W.z), .str W.sh]) nl
    have e1 : (upd H l (.lst [.str ("letters " ++ W.z), .str W.sh])) l = some (.lst ([("letters " : Str) ++ W.z, W.sh].map V.str)) := upd_same
    generalize upd H l (.lst [.str ("letters " ++ W.z), .str W.sh]) = H1 at s1 e1
    refine ⟨.ref l, rfl, .ref r, rfl, r, rfl, ⟨_, .inl (.inl (s1 _ _ er))⟩, fun D nD => ?_⟩
    have fD : H D = none := Same.free s1 nD
    refine lc_it (walk_tup (K := K) (a := r) (xs := vr ps)) (fun i H' => Same H1 H' ∧ H' D = some (.lst (((W.rs.take i).map showR).map V.str))) ⟨same_new nD, upd_same⟩ (fun i H' _ hW => .inl (.inl (hW.1 _ _ (s1 _ _ er)))) (fun i x H2 H2' hi hW hY => ?_) (fun H2 hW => ?_)
    · obtain ⟨s2, e2⟩ := hW
      obtain ⟨rfl, hx⟩ := hY
      obtain ⟨p, hp, rfl⟩ := ref_at hx
      have hi2 : i < W.rs.length := by
        rw [← pl]
        exact (List.getElem?_eq_some_iff.mp hp).1
      have hR : W.rs[i]? = some W.rs[i] := List.getElem?_eq_getElem hi2
      refine ⟨rfl, lcyes ?_⟩
      refine ⟨.ref p, rfl, W.z, W.sh, p, W.rs[i], rfl, (hps i p _ hp hR).mono (Tups.same (s1.trans s2)), ok.rs _ (List.getElem_mem hi2), h5, fun H3 s3 => ⟨_, s3 _ _ e2, ?_, ?_, ?_⟩⟩
      · rw [List.length_map, List.length_map]
        have := take_len' i W.rs
        exact small1000 (by omega)
      · intro b o e
        rw [upd_ne (ne_of_none e nD)]
        exact s3 _ _ (s2 b o e)
      · rw [upd_same, mapF_snoc showR hR]
    · obtain ⟨s2, e2⟩ := hW
      rw [List.length_map, pl, List.take_of_length_le (Nat.le_refl _)] at e2
      have l2 := s2 _ _ e1
      refine ⟨l, D, _, _, rfl, rfl, l2, e2, ?_, ?_⟩
      · rw [List.length_map, List.length_map, List.length_map]
        exact Nat.le_of_lt (small1000 (by show 2 + W.rs.length ≤ 1000; omega))
      have s3 : Same H (upd H2 l (.lst ([("letters " : Str) ++ W.z, W.sh].map V.str ++ (W.rs.map showR).map V.str))) := fun b o e => by
        rw [upd_ne (ne_of_none e nl)]
        exact s2 _ _ (s1 b o e)
      have e3 : (upd H2 l (.lst ([("letters " : Str) ++ W.z, W.sh].map V.str ++ (W.rs.map showR).map V.str))) l = some (.lst ([("letters " : Str) ++ W.z, W.sh].map V.str ++ (W.rs.map showR).map V.str)) := upd_same
      generalize upd H2 l (.lst ([("letters " : Str) ++ W.z, W.sh].map V.str ++ (W.rs.map showR).map V.str)) = H3 at s3 e3
      refine ⟨.ref l, rfl, .str W.b, rfl, _, _, rfl, rfl, fit2 (by rw [sl11]; omega), .str W.d, rfl, _, _, rfl, rfl, fit2 (by rw [sl12]; omega), by show 2 ≤ sizeLine; decide, fun l4 n4 => ?_⟩
      refine ⟨l, l4, _, _, rfl, rfl, (same_new n4) _ _ e3, upd_same, ?_, ?_⟩
      · rw [List.length_append, List.length_map, List.length_map, List.length_map]
        exact Nat.le_of_lt (small1000 (by show 2 + W.rs.length + 2 ≤ 1000; omega))
      have ee : ([("letters " : Str) ++ W.z, W.sh].map V.str ++ (W.rs.map showR).map V.str) ++ [V.str (("begin " : Str) ++ W.b), V.str (("bad " : Str) ++ W.d)] = (linesW W).map V.str := by
        unfold linesW
        rw [List.map_append, List.map_append]
        rfl
      rw [ee]
      have s5 : ∀ G4 : Hp, Same H3 G4 → Same H (upd G4 l (.lst ((linesW W).map V.str))) := fun G4 g b o e => by
        rw [upd_ne (ne_of_none e nl)]
        exact g _ _ (s3 b o e)
      have s5 := s5 _ (same_new (o := .lst [V.str (("begin " : Str) ++ W.b), V.str (("bad " : Str) ++ W.d)]) n4)
      have e5 : (upd (upd H3 l4 (.lst [V.str (("begin " : Str) ++ W.b), V.str (("bad " : Str) ++ W.d)])) l (.lst ((linesW W).map V.str))) l = some (.lst ((linesW W).map V.str)) := upd_same
      generalize upd (upd H3 l4 (.lst [V.str (("begin " : Str) ++ W.b), V.str (("bad " : Str) ++ W.d)])) l (.lst ((linesW W).map V.str)) = H5 at s5 e5
      refine ⟨⟨_, rfl⟩, .ref l, rfl, l, rfl, ⟨_, .inl (.inl e5)⟩, fun D nD => ?_⟩
      have lD : l ≠ D := ne_of_none e5 nD
      refine lc_it (walk_list (K := K) (a := l) (xs := (linesW W).map V.str)) (fun i H' => H' = upd H5 D (.lst ((((linesW W).take i).map nl_).map V.str))) rfl (fun i H' _ hW => ?_) (fun i x H6 H6' hi hW hY => ?_) (fun H6 hW => ?_)
      · subst hW
        exact .inl (.inl (by rw [upd_ne lD]; exact e5))
      · subst hW
        obtain ⟨rfl, hx⟩ := hY
        obtain ⟨y, hy, rfl⟩ := str_at hx
        have := line_len ok (List.mem_of_getElem? hy)
        refine ⟨rfl, lcyes ⟨.str y, rfl, _, _, rfl, rfl, fit2 (by rw [sl9]; omega), _, upd_same, ?_, ?_⟩⟩
        · rw [List.length_map, List.length_map]
          have h1 := take_len' i (linesW W)
          have h2 := lines_len ok
          exact small1000 (by omega)
        · rw [upd_upd]
          exact congrArg (fun l => upd H5 D (HO.lst l)) (mapF_snoc nl_ hy)
      · subst hW
        rw [List.length_map, List.take_of_length_le (Nat.le_refl _)]
        exact ⟨⟨#[]⟩, D, (linesW W).map nl_, rfl, rfl, .inl (.inl (.inl upd_same)), text_fits ok, q _ (s5.trans (same_new nD))⟩
theorem ok_law_text (T : TX K mg) : FnOk P w K mg base CX0 2 T.a_law_text T.fd_law_text ["world"] sp_show_world := by
  have G_law_line : FnOk P w K mg base CX0 1 T.a_law_line T.fd_law_line ["rule"] sp_show_rule := ok_law_line T
  refine T.F_law_text.ok sc_law_text (fun vs H Q E h => ?_) (fun cdv A outer s H vs Q E hr h => ?_)
  · obtain ⟨a, W, rfl, _⟩ := h
    rfl
  · obtain ⟨a, W, rfl, hW, ok, q⟩ := h
    refine ⟨_, (pss_cons (ps_set (i := 1) sc_law_text.nd rfl (Or.inl rfl) (pe_lst (pa_cons (pe_op op_add_str pe_str (pe_ix (ix_tupK K rfl) (pv 0) pe_int (fun _ _ => rfl))) (pa_cons (pe_ix (ix_tupK K rfl) (pv 0) pe_int (fun _ _ => rfl)) pa_nil))))
      (pss_cons (ps_for PassesOwn.never rfl (pi_tupK K rfl (pe_ix (ix_tupK K rfl) (pv 0) pe_int (fun _ _ => rfl))) (pg_name (i := 2) sc_law_text.nd rfl (Or.inl rfl))
        (pss_one (ps_expr (pe_bmK K rfl PySem.F.plainAttrs_list PySem.F.slot_list_append PySem.F.type_list_append mt_append (pv 1) (pa_cons (pe_call G_law_line (hr.mono (by decide)) (by rfl) T.g_law_line T.F_law_line.kp T.b_law_line .nil pass0 (pa_cons (pv 2) pa_nil)) pa_nil)))))
      (pss_cons (ps_set (i := 1) sc_law_text.nd rfl (Or.inl rfl) (pe_op op_cat (pv 1) (pe_lst (pa_cons (pe_op op_add_str pe_str (pe_ix (ix_tupK K rfl) (pv 0) pe_int (fun _ _ => rfl))) (pa_cons (pe_op op_add_str pe_str (pe_ix (ix_tupK K rfl) (pv 0) pe_int (fun _ _ => rfl))) pa_nil)))))
      (pss_one (ps_ret (pe_m1 PySem.F.slot_str_join PySem.F.type_str_join (mt_joinK K rfl) pe_str (pe_lc (own := [("line", 3)]) (g := gName 3) (tt := tYes) (by rfl) sc_law_text.nd (pi_listK K rfl (pv 1)) (blkOk_by (own := [("line", 3)]) (N := N_law_text) (by kernel_rfl)) (fun _ _ _ _ _ => (pg_name (i := 3) sc_law_text.nd rfl (Or.inl rfl))) (fun _ _ _ _ _ => pts_nil) (fun _ _ _ _ _ => (pe_op op_add_str (pv 3) pe_str))))))))), ?_⟩
    obtain ⟨r, ps, ea, er, pl, hps⟩ := hW
    have h5 := ok.let_.five
    have hb := ok.b
    have hd := ok.d
    have hm := ok.many
    have sq : ∀ {H' : Hp}, Same H H' → SqT K H' a [.str W.z, .str W.sh, .ref r, .str W.b, .str W.d] := fun s => .inl (.inl (s _ _ ea))
    have s0 : Same H H := fun _ _ e => e
    refine ⟨.ref a, rfl, a, _, 0, .str W.z, rfl, rfl, sq s0, atI_nat (j := 0) rfl, _, _, rfl, rfl, fit2 (by rw [sl10]; omega), .ref a, rfl, a, _, 1, .str W.sh, rfl, rfl, sq s0, atI_nat (j := 1) rfl, by show 2 ≤ sizeLine; decide, fun l nl => ?_⟩
    have s1 := same_new (o := .lst [.str ("letters " ++ W.z), .str W.sh]) nl
    have e1 : (upd H l (.lst [.str ("letters " ++ W.z), .str W.sh])) l = some (.lst (([("letters " : Str) ++ W.z, W.sh] ++ (W.rs.take 0).map showR).map V.str)) := upd_same
    generalize upd H l (.lst [.str ("letters " ++ W.z), .str W.sh]) = H1 at s1 e1
    refine ⟨.ref a, rfl, a, _, 2, .ref r, rfl, rfl, sq s1, atI_nat (j := 2) rfl, r, rfl, ⟨_, .inl (.inl (s1 _ _ er))⟩, ?_⟩
    refine for_it (walk_tup (K := K) (a := r) (xs := vr ps)) (fun i σ H' => Same H H' ∧ H' l = some (.lst (([("letters " : Str) ++ W.z, W.sh] ++ (W.rs.take i).map showR).map V.str)) ∧ ∃ y2, σ = [some (.ref a), some (.ref l), y2, none]) ⟨s1, e1, none, rfl⟩ (fun i σ H' _ hW => .inl (.inl (hW.1 _ _ er))) (fun i x σ H2 H2' hi hW hY => ?_) (fun σ H2 hW => ?_)
    · obtain ⟨s2, e2, y2, rfl⟩ := hW
      obtain ⟨rfl, hx⟩ := hY
      obtain ⟨p, hp, rfl⟩ := ref_at hx
      have hi2 : i < W.rs.length := by
        rw [← pl]
        exact (List.getElem?_eq_some_iff.mp hp).1
      have hR : W.rs[i]? = some W.rs[i] := List.getElem?_eq_getElem hi2
      refine ⟨.ref l, rfl, .inl ⟨rfl, _, .inl (.inl e2)⟩, .ref p, rfl, W.z, W.sh, p, W.rs[i], rfl, (hps i p _ hp hR).mono (Tups.same s2), ok.rs _ (List.getElem_mem hi2), h5, fun H3 s3 => ?_⟩
      refine ⟨l, _, .str (showR W.rs[i]), rfl, rfl, s3 _ _ e2, ?_, ?_, ?_, _, rfl⟩
      · rw [List.length_map, List.length_append, List.length_map]
        have := take_len' i W.rs
        exact small1000 (by show 2 + _ ≤ 1000; omega)
      · intro b o e
        rw [upd_ne (ne_of_none e nl)]
        exact s3 _ _ (s2 b o e)
      · rw [upd_same]
        exact congrArg (fun l => some (HO.lst l)) (mapF_snoc2 _ showR hR)
    · obtain ⟨s2, e2, y2, rfl⟩ := hW
      rw [List.length_map, pl, List.take_of_length_le (Nat.le_refl _)] at e2
      refine ⟨.ref l, rfl, .ref a, rfl, a, _, 3, .str W.b, rfl, rfl, sq s2, atI_nat (j := 3) rfl, _, _, rfl, rfl, fit2 (by rw [sl11]; omega), .ref a, rfl, a, _, 4, .str W.d, rfl, rfl, sq s2, atI_nat (j := 4) rfl, _, _, rfl, rfl, fit2 (by rw [sl12]; omega), by show 2 ≤ sizeLine; decide, fun l4 n4 => ?_⟩
      refine ⟨l, l4, _, _, rfl, rfl, (same_new n4) _ _ e2, upd_same, ?_, fun l5 n5 => ?_⟩
      · rw [List.length_map, List.length_append, List.length_map]
        exact Nat.le_of_lt (small1000 (by show 2 + W.rs.length + 2 ≤ 1000; omega))
      have ee : ([("letters " : Str) ++ W.z, W.sh] ++ W.rs.map showR).map V.str ++ [V.str (("begin " : Str) ++ W.b), V.str (("bad " : Str) ++ W.d)] = (linesW W).map V.str := by
        unfold linesW
        rw [List.map_append, List.map_append]
        rfl
      rw [ee]
      have s5 := (s2.trans (same_new (o := .lst [V.str (("begin " : Str) ++ W.b), V.str (("bad " : Str) ++ W.d)]) n4)).trans (same_new (o := .lst ((linesW W).map V.str)) n5)
      have e5 : (upd (upd H2 l4 (.lst [V.str (("begin " : Str) ++ W.b), V.str (("bad " : Str) ++ W.d)])) l5 (.lst ((linesW W).map V.str))) l5 = some (.lst ((linesW W).map V.str)) := upd_same
      generalize upd (upd H2 l4 (.lst [V.str (("begin " : Str) ++ W.b), V.str (("bad " : Str) ++ W.d)])) l5 (.lst ((linesW W).map V.str)) = H5 at s5 e5
      refine ⟨⟨_, rfl⟩, .ref l5, rfl, l5, rfl, ⟨_, .inl (.inl e5)⟩, fun D nD => ?_⟩
      have lD : l5 ≠ D := ne_of_none e5 nD
      refine lc_it (walk_list (K := K) (a := l5) (xs := (linesW W).map V.str)) (fun i H' => H' = upd H5 D (.lst ((((linesW W).take i).map nl_).map V.str))) rfl (fun i H' _ hW => ?_) (fun i x H6 H6' hi hW hY => ?_) (fun H6 hW => ?_)
      · subst hW
        exact .inl (.inl (by rw [upd_ne lD]; exact e5))
      · subst hW
        obtain ⟨rfl, hx⟩ := hY
        obtain ⟨y, hy, rfl⟩ := str_at hx
        have := line_len ok (List.mem_of_getElem? hy)
        refine ⟨rfl, lcyes ⟨.str y, rfl, _, _, rfl, rfl, fit2 (by rw [sl9]; omega), _, upd_same, ?_, ?_⟩⟩
        · rw [List.length_map, List.length_map]
          have h1 := take_len' i (linesW W)
          have h2 := lines_len ok
          exact small1000 (by omega)
        · rw [upd_upd]
          exact congrArg (fun l => upd H5 D (HO.lst l)) (mapF_snoc nl_ hy)
      · subst hW
        rw [List.length_map, List.take_of_length_le (Nat.le_refl _)]
        exact ⟨⟨#[]⟩, D, (linesW W).map nl_, rfl, rfl, .inl (.inl (.inl upd_same)), text_fits ok, q _ (s5.trans (same_new nD))⟩
end
end LH

namespace LH
open PySem PySem.Spec PyProof.Rows L2
/-- a short text of small signs -/
def Sml (n : Nat) (y : Str) : Prop := y.length ≤ n ∧ ∀ c ∈ y.cps.toList, c ≤ 124
theorem Sml.app {n m : Nat} {a b : Str} (x : Sml n a) (y : Sml m b) : Sml (n + m) (a ++ b) := by
  refine ⟨by rw [sl_app]; exact Nat.add_le_add x.1 y.1, fun c hc => ?_⟩
  rw [st_app] at hc
  rcases List.mem_append.mp hc with h | h
  · exact x.2 c h
  · exact y.2 c h
theorem Sml.mono {n m : Nat} {a : Str} (x : Sml n a) (h : n ≤ m) : Sml m a := ⟨Nat.le_trans x.1 h, x.2⟩
theorem Sml.join {s : Str} {k n : Nat} (hs : Sml k s) : ∀ {parts : List Str}, (∀ p ∈ parts, Sml n p) → Sml (parts.length * (n + k)) (Txt.join s parts) := fun {parts} h => by
  rw [TL.join_eq]
  induction parts with
  | nil => exact ⟨by show (0 : Nat) ≤ _; exact Nat.zero_le _, fun c hc => by cases hc⟩
  | cons p r ih =>
    cases r with
    | nil =>
      show Sml _ p
      exact (h p List.mem_cons_self).mono (by rw [List.length_cons, List.length_nil]; omega)
    | cons p2 r2 =>
      show Sml _ (p ++ s ++ Str.join s (p2 :: r2))
      have h1 := ((h p List.mem_cons_self).app hs).app (ih fun x hx => h x (List.mem_cons_of_mem _ hx))
      refine h1.mono ?_
      rw [List.length_cons (a := p), Nat.succ_mul]
      omega
theorem Sml.sg {c : Nat} {z : Str} (hz : IsLet z) (h : c ∈ z.cps.toList) : Sml 1 (sg c) := by
  refine ⟨by rw [sl_sg]; exact Nat.le_refl _, fun d hd => ?_⟩
  have : d = c := List.mem_singleton.mp hd
  have := (hz.small c h).2
  omega
theorem Sml.dec {n : Nat} {y : Str} (h1 : y.length ≤ n) (h2 : y.cps.toList.all (fun c => decide (c ≤ 124)) = true) : Sml n y := ⟨h1, fun c hc => of_decide_eq_true (List.all_eq_true.mp h2 c hc)⟩
section
variable {P : Program} {w : World} {K : PySem.W.Frag} {mg : Str → Option Value} {base : Heap}
def sp_text (n : Nat) : Sp := fun vs H Q _ => ∃ (r : Addr) (z : Str), vs = [.ref r, .str z] ∧ RowAt H r ∧ IsLet z ∧ ∀ H' (y : Str), Off r H H' → RowAt H' r → Sml n y → Q (.str y) H'
theorem ok_law_item (T : TX K mg) : FnOk P w K mg base CX0 4 T.a_law_item T.fd_law_item ["well", "letters"] (sp_text 7) := by
  have G_law_draw : FnOk P w K mg base CX0 1 T.a_law_draw T.fd_law_draw ["well", "many"] sp_law_draw := ok_law_draw T
  have G_law_one_of : FnOk P w K mg base CX0 2 T.a_law_one_of T.fd_law_one_of ["well", "letters"] sp_law_one_of := ok_law_one_of T
  have G_law_some : FnOk P w K mg base CX0 3 T.a_law_some T.fd_law_some ["well", "letters"] sp_law_some := ok_law_some T
  refine T.F_law_item.ok sc_law_item (fun vs H Q E h => ?_) (fun cdv A outer s H vs Q E hr h => ?_)
  · obtain ⟨r, z, rfl, _⟩ := h
    rfl
  · obtain ⟨r, z, rfl, hR, hz, q⟩ := h
    refine ⟨_, (pss_cons (ps_set (i := 2) sc_law_item.nd rfl (Or.inl rfl) (pe_call G_law_one_of (hr.mono (by decide)) (by rfl) T.g_law_one_of T.F_law_one_of.kp T.b_law_one_of .nil pass0 (pa_cons (pv 0) (pa_cons (pv 1) pa_nil))))
      (pss_one (ps_ret (pe_ix (ix_listK K rfl) (pe_lst (pa_cons (pv 2) (pa_cons (pv 2) (pa_cons pe_str (pa_cons (pe_op op_add_str (pe_op op_add_str pe_str (pe_call G_law_some (hr.mono (by decide)) (by rfl) T.g_law_some T.F_law_some.kp T.b_law_some .nil pass0 (pa_cons (pv 0) (pa_cons (pv 1) pa_nil)))) pe_str) pa_nil))))) (pe_call G_law_draw (hr.mono (by decide)) (by rfl) T.g_law_draw T.F_law_draw.kp T.b_law_draw .nil pass0 (pa_cons (pv 0) (pa_cons pe_int pa_nil))) (fun _ _ => rfl))))), ?_⟩
    have h1 := hz.one
    have h5 := hz.five
    refine ⟨.ref r, rfl, .str z, rfl, r, z, rfl, hR, h1, by omega, fun H1 c o1 R1 hc => ?_⟩
    refine ⟨.str (sg c), rfl, .str (sg c), rfl, .ref r, rfl, .str z, rfl, r, z, rfl, R1, hz, fun H2 cs o2 R2 sc lc => ?_⟩
    have lcs : cs.length ≤ 5 := Nat.le_trans sc.length_le (by rw [Array.length_toList]; exact h5)
    have l1 : (tx cs).length = cs.length := tx_len' cs
    have lb : ("[" : Str).length = 1 := by decide
    have le : ("]" : Str).length = 1 := by decide
    have sm : Sml 7 (("[" : Str) ++ tx cs ++ "]") := by
      have a1 : Sml 1 ("[" : Str) := Sml.dec (by decide) (by decide)
      have a2 : Sml 5 (tx cs) := ⟨by rw [l1]; exact lcs, fun d hd => by
        have := (hz.small d (sc.subset hd)).2
        omega⟩
      have a3 : Sml 1 ("]" : Str) := Sml.dec (by decide) (by decide)
      exact ((a1.app a2).app a3)
    refine ⟨_, _, rfl, rfl, fit2 (by rw [lb, l1]; omega), _, _, rfl, rfl, fit2 (by rw [sl_app, lb, le, l1]; omega), by show 4 ≤ sizeLine; decide, fun l nl => ?_⟩
    refine ⟨.ref r, rfl, r, 4, rfl, R2.new nl, by decide, by decide, fun H4 g o4 R4 g0 g1 => ?_⟩
    have e4 := o4 _ _ (R2.ne nl).symm (upd_same (H := H2) (a := l) (o := .lst [.str (sg c), .str (sg c), .str ".", .str (("[" : Str) ++ tx cs ++ "]")]))
    have off : Off r H H4 := (o1.trans o2).trans ((Off.new nl).trans o4)
    have sc1 := (Sml.sg hz hc).mono (show 1 ≤ 7 by decide)
    have : g = 0 ∨ g = 1 ∨ g = 2 ∨ g = 3 := by omega
    rcases this with rfl | rfl | rfl | rfl
    · exact ⟨l, _, 0, _, rfl, rfl, .inl (.inl e4), rfl, q _ _ off R4 sc1⟩
    · exact ⟨l, _, 1, _, rfl, rfl, .inl (.inl e4), rfl, q _ _ off R4 sc1⟩
    · exact ⟨l, _, 2, _, rfl, rfl, .inl (.inl e4), rfl, q _ _ off R4 (Sml.dec (by decide) (by decide))⟩
    · exact ⟨l, _, 3, _, rfl, rfl, .inl (.inl e4), rfl, q _ _ off R4 sm⟩
end
end LH

namespace LH
open PySem PySem.Spec PyProof.Rows L2
theorem Sml.sum {n : Nat} {l : List Str} (h : ∀ y ∈ l, Sml n y) : (l.map (·.length)).sum ≤ l.length * n := by
  have := sum_le (l := l.map (·.length)) (n := n) fun x hx => by
    obtain ⟨y, hy, rfl⟩ := List.mem_map.mp hx
    exact (h y hy).1
  rwa [List.length_map] at this
theorem Sml.snoc {n : Nat} {l : List Str} {y : Str} (h : ∀ x ∈ l, Sml n x) (hy : Sml n y) : ∀ x ∈ l ++ [y], Sml n x := fun x hx => by
  rcases List.mem_append.mp hx with z | z
  · exact h x z
  · rw [List.mem_singleton.mp z]
    exact hy
theorem Sml.ins {n k : Nat} {l : List Str} {y : Str} (h : ∀ x ∈ l, Sml n x) (hy : Sml n y) : ∀ x ∈ l.take k ++ [y] ++ l.drop k, Sml n x := fun x hx => by
  rcases List.mem_append.mp hx with z | z
  · rcases List.mem_append.mp z with z | z
    · exact h x (List.mem_of_mem_take z)
    · rw [List.mem_singleton.mp z]
      exact hy
  · exact h x (List.mem_of_mem_drop z)
theorem five_at {g : Int} (h0 : 0 ≤ g) (h1 : g < 5) : ∃ m : Int, atI [V.int 1, V.int 1, V.int 2, V.int 3, V.int 8] g = some (.int m) ∧ 0 ≤ m ∧ m ≤ 8 := by
  have : g = 0 ∨ g = 1 ∨ g = 2 ∨ g = 3 ∨ g = 4 := by omega
  rcases this with rfl | rfl | rfl | rfl | rfl
  · exact ⟨1, rfl, by decide, by decide⟩
  · exact ⟨1, rfl, by decide, by decide⟩
  · exact ⟨2, rfl, by decide, by decide⟩
  · exact ⟨3, rfl, by decide, by decide⟩
  · exact ⟨8, rfl, by decide, by decide⟩
theorem four_at {g v : Int} (h0 : 0 ≤ g) (h1 : g < 4) (v0 : 0 ≤ v) (v1 : v < 8) : ∃ m : Int, atI [V.int 0, V.int 1, V.int 2, V.int v] g = some (.int m) ∧ 0 ≤ m ∧ m ≤ 7 := by
  have : g = 0 ∨ g = 1 ∨ g = 2 ∨ g = 3 := by omega
  rcases this with rfl | rfl | rfl | rfl
  · exact ⟨0, rfl, by decide, by decide⟩
  · exact ⟨1, rfl, by decide, by decide⟩
  · exact ⟨2, rfl, by decide, by decide⟩
  · exact ⟨v, rfl, v0, by omega⟩
theorem mark_at {g : Int} (h0 : 0 ≤ g) (h1 : g < 4) : ∃ y : Str, atI [V.str "", V.str "", V.str "*", V.str "+"] g = some (.str y) ∧ Sml 1 y := by
  have : g = 0 ∨ g = 1 ∨ g = 2 ∨ g = 3 := by omega
  rcases this with rfl | rfl | rfl | rfl
  · exact ⟨"", rfl, Sml.dec (by decide) (by decide)⟩
  · exact ⟨"", rfl, Sml.dec (by decide) (by decide)⟩
  · exact ⟨"*", rfl, Sml.dec (by decide) (by decide)⟩
  · exact ⟨"+", rfl, Sml.dec (by decide) (by decide)⟩
theorem plus_at {g : Int} (h0 : 0 ≤ g) (h1 : g < 2) : ∃ y : Str, atI [V.str "", V.str "+"] g = some (.str y) ∧ Sml 1 y := by
  have : g = 0 ∨ g = 1 := by omega
  rcases this with rfl | rfl
  · exact ⟨"", rfl, Sml.dec (by decide) (by decide)⟩
  · exact ⟨"+", rfl, Sml.dec (by decide) (by decide)⟩
section
variable {P : Program} {w : World} {K : PySem.W.Frag} {mg : Str → Option Value} {base : Heap}
theorem ok_law_pattern (T : TX K mg) : FnOk P w K mg base CX0 5 T.a_law_pattern T.fd_law_pattern ["well", "letters"] (sp_text 30) := by
  have G_law_draw : FnOk P w K mg base CX0 1 T.a_law_draw T.fd_law_draw ["well", "many"] sp_law_draw := ok_law_draw T
  have G_law_one_of : FnOk P w K mg base CX0 2 T.a_law_one_of T.fd_law_one_of ["well", "letters"] sp_law_one_of := ok_law_one_of T
  have G_law_item : FnOk P w K mg base CX0 4 T.a_law_item T.fd_law_item ["well", "letters"] (sp_text 7) := ok_law_item T
  refine T.F_law_pattern.ok sc_law_pattern (fun vs H Q E h => ?_) (fun cdv A outer s H vs Q E hr h => ?_)
  · obtain ⟨r, z, rfl, _⟩ := h
    rfl
  · obtain ⟨r, z, rfl, hR, hz, q⟩ := h
    refine ⟨_, (pss_cons (ps_set (i := 2) sc_law_pattern.nd rfl (Or.inl rfl) (pe_lst pa_nil))
      (pss_cons (ps_set (i := 3) sc_law_pattern.nd rfl (Or.inl rfl) pe_int)
      (pss_cons (ps_for PassesOwn.never rfl (pi_range1 (by rfl) T.m_range (pa_cons (pe_ix (ix_listK K rfl) (pe_lst (pa_cons pe_int (pa_cons pe_int (pa_cons pe_int (pa_cons pe_int (pa_cons pe_int pa_nil)))))) (pe_call G_law_draw (hr.mono (by decide)) (by rfl) T.g_law_draw T.F_law_draw.kp T.b_law_draw .nil pass0 (pa_cons (pv 0) (pa_cons pe_int pa_nil))) (fun _ _ => rfl)) pa_nil)) (pg_name (i := 4) sc_law_pattern.nd rfl (Or.inl rfl))
        (pss_cons (ps_set (i := 5) sc_law_pattern.nd rfl (Or.inl rfl) (pe_lst pa_nil))
          (pss_cons (ps_for PassesOwn.never rfl (pi_range1 (by rfl) T.m_range (pa_cons (pe_callB (call_min2 rfl) (by rfl) T.m_min (by decide +kernel) (pa_cons (pe_op op_sub (pv 3) pe_int) (pa_cons (pe_ix (ix_listK K rfl) (pe_lst (pa_cons pe_int (pa_cons pe_int (pa_cons pe_int (pa_cons (pe_call G_law_draw (hr.mono (by decide)) (by rfl) T.g_law_draw T.F_law_draw.kp T.b_law_draw .nil pass0 (pa_cons (pv 0) (pa_cons pe_int pa_nil))) pa_nil))))) (pe_call G_law_draw (hr.mono (by decide)) (by rfl) T.g_law_draw T.F_law_draw.kp T.b_law_draw .nil pass0 (pa_cons (pv 0) (pa_cons pe_int pa_nil))) (fun _ _ => rfl)) pa_nil))) pa_nil)) (pg_name (i := 6) sc_law_pattern.nd rfl (Or.inl rfl))
            (pss_one (ps_expr (pe_bmK K rfl PySem.F.plainAttrs_list PySem.F.slot_list_append PySem.F.type_list_append mt_append (pv 5) (pa_cons (pe_op op_add_str (pe_call G_law_item (hr.mono (by decide)) (by rfl) T.g_law_item T.F_law_item.kp T.b_law_item .nil pass0 (pa_cons (pv 0) (pa_cons (pv 1) pa_nil))) (pe_ix (ix_listK K rfl) (pe_lst (pa_cons pe_str (pa_cons pe_str (pa_cons pe_str (pa_cons pe_str pa_nil))))) (pe_call G_law_draw (hr.mono (by decide)) (by rfl) T.g_law_draw T.F_law_draw.kp T.b_law_draw .nil pass0 (pa_cons (pv 0) (pa_cons pe_int pa_nil))) (fun _ _ => rfl))) pa_nil)))))
          (pss_cons (ps_expr (pe_bmK K rfl PySem.F.plainAttrs_list PySem.F.slot_list_insert PySem.F.type_list_insert mt_insert (pv 5) (pa_cons (pe_call G_law_draw (hr.mono (by decide)) (by rfl) T.g_law_draw T.F_law_draw.kp T.b_law_draw .nil pass0 (pa_cons (pv 0) (pa_cons (pe_op op_add (pe_callB (call_lenK K rfl) (by rfl) T.m_len (by decide +kernel) (pa_cons (pv 5) pa_nil)) pe_int) pa_nil))) (pa_cons (pe_op op_add_str (pe_call G_law_item (hr.mono (by decide)) (by rfl) T.g_law_item T.F_law_item.kp T.b_law_item .nil pass0 (pa_cons (pv 0) (pa_cons (pv 1) pa_nil))) (pe_ix (ix_listK K rfl) (pe_lst (pa_cons pe_str (pa_cons pe_str pa_nil))) (pe_call G_law_draw (hr.mono (by decide)) (by rfl) T.g_law_draw T.F_law_draw.kp T.b_law_draw .nil pass0 (pa_cons (pv 0) (pa_cons pe_int pa_nil))) (fun _ _ => rfl))) pa_nil))))
          (C8.pss_cut (ps_if (pt_cmpR op_gt (pv 3) pe_int (nomark _))
            (pss_one (ps_expr (pe_bmK K rfl PySem.F.plainAttrs_list PySem.F.slot_list_append PySem.F.type_list_append mt_append (pv 2) (pa_cons (pe_m1 PySem.F.slot_str_join PySem.F.type_str_join (mt_joinK K rfl) pe_str (pv 5)) pa_nil))))
            pss_nil)
          (pss_one (ps_set (i := 3) sc_law_pattern.nd rfl (Or.inl rfl) (pe_op op_sub (pv 3) (pe_callB (call_lenK K rfl) (by rfl) T.m_len (by decide +kernel) (pa_cons (pv 5) pa_nil))))))))))
      (pss_cons (ps_set (i := 7) sc_law_pattern.nd rfl (Or.inl rfl) (pe_m1 PySem.F.slot_str_join PySem.F.type_str_join (mt_joinK K rfl) pe_str (pv 2)))
      (pss_cons (ps_if (pt_cmpR op_gt (pe_callB call_len_str (by rfl) T.m_len (by decide +kernel) (pa_cons (pv 7) pa_nil)) pe_int (nomark _))
        (pss_one (ps_ret (pe_call G_law_one_of (hr.mono (by decide)) (by rfl) T.g_law_one_of T.F_law_one_of.kp T.b_law_one_of .nil pass0 (pa_cons (pv 0) (pa_cons (pv 1) pa_nil)))))
        pss_nil)
      (pss_one (ps_ret (pv 7)))))))), ?_⟩
    have h1 := hz.one
    have h5 := hz.five
    refine ⟨by show 0 ≤ sizeLine; decide, fun lb nb => ?_⟩
    have rb : lb ≠ r := (hR.ne nb).symm
    refine ⟨by show 5 ≤ sizeLine; decide, fun p n => ?_⟩
    have R0 := (hR.new (o := .lst []) nb).new (o := .lst [.int 1, .int 1, .int 2, .int 3, .int 8]) n
    refine ⟨.ref r, rfl, r, 5, rfl, R0, by decide, by decide, fun H1 g o1 R1 g0 g1 => ?_⟩
    obtain ⟨m, em, m0, m8⟩ := five_at g0 g1
    have ep := o1 _ _ ((hR.new (o := .lst []) nb).ne n).symm upd_same
    refine ⟨p, _, g, .int m, rfl, rfl, .inl (.inl ep), em, m, rfl, by omega, by omega, ?_⟩
    have off1 : Off r H H1 := ((Off.new nb).trans (Off.new n)).trans o1
    have eb1 : H1 lb = some (.lst (([] : List Str).map V.str)) := o1 _ _ rb ((same_new n) _ _ upd_same)
    refine for_it (walk_range (lo := 0) (n := m.toNat)) (fun k σ H' => Off r H H' ∧ RowAt H' r ∧ ∃ (bs : List Str) (lf : Int) (y4 y5 y6 : Option V), H' lb = some (.lst (bs.map V.str)) ∧ bs.length ≤ k ∧ (∀ y ∈ bs, Sml 64 y) ∧ lf ≤ 8 ∧ 8 - 8 * (k : Int) ≤ lf ∧ σ = [some (.ref r), some (.str z), some (.ref lb), some (.int lf), y4, y5, y6, none]) ⟨off1, R1, [], 8, none, none, none, eb1, Nat.le_refl _, (fun y h => by cases h), by decide, by decide, rfl⟩ (fun _ _ _ _ _ => trivial) (fun k v σ H2 H2' hk hW hY => ?_) (fun σ H2 hW => ?_)
    · obtain ⟨o2, R2, bs, lf, y4, y5, y6, eb2, bl, bsm, lf8, lfk, rfl⟩ := hW
      obtain ⟨rfl, rfl⟩ := hY
      have hk8 : k < 8 := by omega
      refine ⟨by show 0 ≤ sizeLine; decide, fun li ni => ?_⟩
      have ri : li ≠ r := (R2.ne ni).symm
      have bi : lb ≠ li := ne_of_none eb2 ni
      have fi : H li = none := o2.free ri.symm ni
      have R3 := R2.new (o := .lst []) ni
      have o3 : Off r H (upd H2' li (.lst [])) := o2.trans (Off.new ni)
      have eb3 : (upd H2' li (.lst [])) lb = some (.lst (bs.map V.str)) := (same_new ni) _ _ eb2
      have ei3 : (upd H2' li (.lst [])) li = some (.lst (([] : List Str).map V.str)) := upd_same
      generalize upd H2' li (.lst []) = H3 at R3 o3 eb3 ei3
      refine ⟨.int lf, rfl, _, _, rfl, rfl, .ref r, rfl, r, 8, rfl, R3, by decide, by decide, fun H4 g4 o4 R4 a0 a1 => ?_⟩
      refine ⟨by show 4 ≤ sizeLine; decide, fun p5 n5 => ?_⟩
      refine ⟨.ref r, rfl, r, 4, rfl, R4.new n5, by decide, by decide, fun H6 g6 o6 R6 b0 b1 => ?_⟩
      obtain ⟨v, ev, v0, v7⟩ := four_at b0 b1 a0 a1
      refine ⟨p5, _, g6, .int v, rfl, rfl, .inl (.inl (o6 _ _ (R4.ne n5).symm upd_same)), ev, _, _, rfl, ?_⟩
      have o36 : Off r H3 H6 := o4.trans ((Off.new n5).trans o6)
      have eb6 := o36 _ _ rb eb3
      have ei6 := o36 _ _ ri ei3
      have off6 := o3.trans o36
      generalize hmn : (if v < lf - 1 then v else lf - 1) = mn
      have mn1 : mn ≤ 7 := by rw [← hmn]; split <;> omega
      have mn2 : -100 ≤ mn := by rw [← hmn]; split <;> omega
      refine ⟨mn, rfl, by omega, by omega, ?_⟩
      refine for_it (walk_range (lo := 0) (n := mn.toNat)) (fun j σ H' => Off r H H' ∧ RowAt H' r ∧ ∃ (is : List Str) (y6 : Option V), H' lb = some (.lst (bs.map V.str)) ∧ H' li = some (.lst (is.map V.str)) ∧ is.length = j ∧ (∀ y ∈ is, Sml 8 y) ∧ σ = [some (.ref r), some (.str z), some (.ref lb), some (.int lf), some (.int ((0 : Int) + (k : Nat))), some (.ref li), y6, none]) ⟨off6, R6, [], _, eb6, ei6, rfl, (fun y h => by cases h), rfl⟩ (fun _ _ _ _ _ => trivial) (fun j u σ H7 H7' hj hW hY => ?_) (fun σ H7 hW => ?_)
      · obtain ⟨o7, R7, is, y6, eb7, ei7, il, ism, rfl⟩ := hW
        obtain ⟨rfl, rfl⟩ := hY
        refine ⟨.ref li, rfl, .inl ⟨rfl, _, .inl (.inl ei7)⟩, .ref r, rfl, .str z, rfl, r, z, rfl, R7, hz, fun H8 y o8 R8 sy => ?_⟩
        refine ⟨by show 4 ≤ sizeLine; decide, fun p9 n9 => ?_⟩
        refine ⟨.ref r, rfl, r, 4, rfl, R8.new n9, by decide, by decide, fun H10 g10 o10 R10 c0 c1 => ?_⟩
        obtain ⟨t, et, st⟩ := mark_at c0 c1
        have y1 := sy.1
        have t1 := st.1
        have o710 : Off r H7' H10 := o8.trans ((Off.new n9).trans o10)
        refine ⟨p9, _, g10, .str t, rfl, rfl, .inl (.inl (o10 _ _ (R8.ne n9).symm upd_same)), et, _, _, rfl, rfl, fit2 (by omega), ?_⟩
        refine ⟨li, _, .str (y ++ t), rfl, rfl, o710 _ _ ri ei7, ?_, (o7.trans o710).mut fi, R10.upd ri.symm, is ++ [y ++ t], _, ?_, ?_, ?_, Sml.snoc ism (sy.app st), rfl⟩
        · rw [List.length_map]
          exact small1000 (by omega)
        · rw [upd_ne bi]
          exact o710 _ _ rb eb7
        · rw [upd_same, List.map_append]
          rfl
        · rw [List.length_append, il]
          rfl
      · obtain ⟨o7, R7, is, y6, eb7, ei7, il, ism, rfl⟩ := hW
        have il7 : is.length ≤ 7 := by omega
        refine ⟨.ref li, rfl, .inl ⟨rfl, _, .inl (.inl ei7)⟩, .ref r, rfl, .ref li, rfl, li, _, rfl, .inl (.inl (.inl ei7)), _, _, rfl, rfl, r, _, rfl, R7, ?_, ?_, fun H8 g8 o8 R8 d0 d1 => ?_⟩
        · rw [List.length_map]
          omega
        · rw [List.length_map]
          omega
        rw [List.length_map] at d1
        refine ⟨.ref r, rfl, .str z, rfl, r, z, rfl, R8, hz, fun H9 y o9 R9 sy => ?_⟩
        refine ⟨by show 2 ≤ sizeLine; decide, fun p10 n10 => ?_⟩
        refine ⟨.ref r, rfl, r, 2, rfl, R9.new n10, by decide, by decide, fun H11 g11 o11 R11 c0 c1 => ?_⟩
        obtain ⟨t, et, st⟩ := plus_at c0 c1
        have y1 := sy.1
        have t1 := st.1
        have o711 : Off r H7 H11 := (o8.trans o9).trans ((Off.new n10).trans o11)
        refine ⟨p10, _, g11, .str t, rfl, rfl, .inl (.inl (o11 _ _ (R9.ne n10).symm upd_same)), et, _, _, rfl, rfl, fit2 (by omega), ?_⟩
        refine ⟨li, _, g8, .str (y ++ t), rfl, rfl, o711 _ _ ri ei7, ?_, d0, by omega, ?_⟩
        · rw [List.length_map]
          exact small1000 (by omega)
        have ee : (is.map V.str).take g8.toNat ++ [V.str (y ++ t)] ++ (is.map V.str).drop g8.toNat = (is.take g8.toNat ++ [y ++ t] ++ is.drop g8.toNat).map V.str := by
          rw [List.map_append, List.map_append, List.map_take, List.map_drop]
          rfl
        rw [ee]
        have sm12 : ∀ x ∈ is.take g8.toNat ++ [y ++ t] ++ is.drop g8.toNat, Sml 8 x := Sml.ins ism (sy.app st)
        have l12 : (is.take g8.toNat ++ [y ++ t] ++ is.drop g8.toNat).length = is.length + 1 := by
          rw [List.length_append, List.length_append, List.length_take, List.length_drop]
          show min g8.toNat is.length + 1 + _ = _
          omega
        generalize is.take g8.toNat ++ [y ++ t] ++ is.drop g8.toNat = it at sm12 l12
        have o12 : Off r H (upd H11 li (.lst (it.map V.str))) := (o7.trans o711).mut fi
        have R12 := R11.upd (o := .lst (it.map V.str)) ri.symm
        have eb12 : (upd H11 li (.lst (it.map V.str))) lb = some (.lst (bs.map V.str)) := by
          rw [upd_ne bi]
          exact o711 _ _ rb eb7
        have ei12 : (upd H11 li (.lst (it.map V.str))) li = some (.lst (it.map V.str)) := upd_same
        generalize upd H11 li (.lst (it.map V.str)) = H12 at o12 R12 eb12 ei12
        refine ⟨fun σ H' => Off r H H' ∧ RowAt H' r ∧ H' li = some (.lst (it.map V.str)) ∧ ∃ (bs2 : List Str) (y6 : Option V), H' lb = some (.lst (bs2.map V.str)) ∧ bs2.length ≤ k + 1 ∧ (∀ y ∈ bs2, Sml 64 y) ∧ σ = [some (.ref r), some (.str z), some (.ref lb), some (.int lf), some (.int ((0 : Int) + (k : Nat))), some (.ref li), y6, none], ?_, ?_⟩
        · refine ⟨.int lf, rfl, _, _, rfl, rfl, _, rfl, ite2 (fun e => ?_) (fun e => ?_)⟩
          · refine ⟨.ref lb, rfl, .inl ⟨rfl, _, .inl (.inl eb12)⟩, ⟨_, rfl⟩, .ref li, rfl, ⟨#[]⟩, li, it, rfl, rfl, .inl (.inl (.inl ei12)), ?_, ?_⟩
            · have := Sml.sum sm12
              show _ + _ * 0 ≤ 16777216
              omega
            have sj : Sml 64 (Txt.join ⟨#[]⟩ it) := ((Sml.join (k := 0) (Sml.dec (by decide) (by decide)) sm12).mono (by omega))
            refine ⟨lb, _, .str (Txt.join ⟨#[]⟩ it), rfl, rfl, eb12, ?_, o12.mut nb, R12.upd rb.symm, ?_, bs ++ [Txt.join ⟨#[]⟩ it], _, ?_, ?_, Sml.snoc bsm sj, rfl⟩
            · rw [List.length_map]
              exact small1000 (by omega)
            · rw [upd_ne bi.symm]
              exact ei12
            · rw [upd_same, List.map_append]
              rfl
            · rw [List.length_append]
              show bs.length + 1 ≤ k + 1
              omega
          · exact ⟨o12, R12, ei12, bs, _, eb12, by omega, bsm, rfl⟩
        · rintro σ H13 ⟨o13, R13, ei13, bs2, y6', eb13, bl2, bsm2, rfl⟩
          refine ⟨.int lf, rfl, .ref li, rfl, li, _, rfl, .inl (.inl (.inl ei13)), _, _, rfl, rfl, o13, R13, bs2, lf - (it.map V.str).length, _, _, _, eb13, bl2, bsm2, ?_, ?_, rfl⟩
          · rw [List.length_map]
            omega
          · rw [List.length_map]
            omega
    · obtain ⟨o2, R2, bs, lf, y4, y5, y6, eb2, bl, bsm, lf8, lfk, rfl⟩ := hW
      have bl8 : bs.length ≤ 8 := by omega
      have bar : ("|" : Str).length = 1 := by decide
      refine ⟨⟨_, rfl⟩, .ref lb, rfl, "|", lb, bs, rfl, rfl, .inl (.inl (.inl eb2)), ?_, ?_⟩
      · have := Sml.sum bsm
        rw [bar]
        omega
      have sj : Sml 1000 (Txt.join "|" bs) := (Sml.join (k := 1) (Sml.dec (by decide) (by decide)) bsm).mono (by omega)
      have sj1 := sj.1
      refine ⟨.str (Txt.join "|" bs), rfl, Txt.join "|" bs, rfl, fit sj1, _, _, rfl, rfl, _, rfl, ite2 (fun e => ?_) (fun e => ?_)⟩
      · refine ⟨.ref r, rfl, .str z, rfl, r, z, rfl, R2, h1, by omega, fun H3 c o3 R3 hc => ?_⟩
        exact q _ _ (o2.trans o3) R3 ((Sml.sg hz hc).mono (by decide))
      · refine ⟨_, rfl, q _ _ o2 R2 ⟨?_, sj.2⟩⟩
        have := of_decide_eq_false (Bool.eq_false_iff.mpr e)
        omega
end
end LH

namespace LH
open PySem PySem.Spec PyProof.Rows L2
def RulsAt (H : Hp) (ps : List Addr) (rs : List Rul) : Prop := ps.length = rs.length ∧ ∀ (i : Nat) (p : Addr) (R : Rul), ps[i]? = some p → rs[i]? = some R → RulAt H p R
theorem RulsAt.mono {H H' : Hp} {ps : List Addr} {rs : List Rul} (t : Tups H H') (h : RulsAt H ps rs) : RulsAt H' ps rs := ⟨h.1, fun i p R x y => (h.2 i p R x y).mono t⟩
theorem RulsAt.snoc {H : Hp} {ps : List Addr} {rs : List Rul} {p : Addr} {R : Rul} (h : RulsAt H ps rs) (hp : RulAt H p R) : RulsAt H (ps ++ [p]) (rs ++ [R]) := by
  refine ⟨by rw [List.length_append, List.length_append, h.1]; rfl, fun i a b x y => ?_⟩
  by_cases hi : i < ps.length
  · rw [List.getElem?_append_left hi] at x
    rw [List.getElem?_append_left (by rw [← h.1]; exact hi)] at y
    exact h.2 i a b x y
  · rw [List.getElem?_append_right (by omega)] at x
    rw [List.getElem?_append_right (by rw [← h.1]; omega), ← h.1] at y
    have h0 : i - ps.length = 0 := by
      have := (List.getElem?_eq_some_iff.mp x).1
      have e : ([p] : List Addr).length = 1 := rfl
      omega
    rw [h0] at x y
    cases x
    cases y
    exact hp
theorem RulsAt.cons {H : Hp} {ps : List Addr} {rs : List Rul} {p : Addr} {R : Rul} (hp : RulAt H p R) (h : RulsAt H ps rs) : RulsAt H (p :: ps) (R :: rs) := by
  refine ⟨by rw [List.length_cons, List.length_cons, h.1], fun i a b x y => ?_⟩
  cases i with
  | zero =>
    cases x
    cases y
    exact hp
  | succ i => exact h.2 i a b x y
theorem RulsAt.nil {H : Hp} : RulsAt H [] [] := ⟨rfl, fun i p R x => by simp at x⟩
theorem six_at {g v : Int} (h0 : 0 ≤ g) (h1 : g < 6) (v0 : 0 ≤ v) (v1 : v < 9) : ∃ m : Int, atI [V.int 0, V.int 1, V.int 2, V.int 3, V.int 8, V.int v] g = some (.int m) ∧ 0 ≤ m ∧ m ≤ 8 := by
  have : g = 0 ∨ g = 1 ∨ g = 2 ∨ g = 3 ∨ g = 4 ∨ g = 5 := by omega
  rcases this with rfl | rfl | rfl | rfl | rfl | rfl
  · exact ⟨0, rfl, by decide, by decide⟩
  · exact ⟨1, rfl, by decide, by decide⟩
  · exact ⟨2, rfl, by decide, by decide⟩
  · exact ⟨3, rfl, by decide, by decide⟩
  · exact ⟨8, rfl, by decide, by decide⟩
  · exact ⟨v, rfl, v0, by omega⟩
def W0 : Wd := ⟨"abc", "row", [.one 97 98 none, .one 98 99 (some ⟨"all", "left", [97, 98]⟩), .two 97 98 98 97, .call 99 97 [97, 98, 98], .one 99 99 (some ⟨"some", "others", [99]⟩)], "a+|.[ab]*c", ".*cc.*"⟩
theorem W0_ok : W0.Ok := by
  refine ⟨⟨by decide, by decide, by decide, by decide⟩, .inl rfl, by decide, fun R hR => ?_, by decide, by decide, by decide, by decide⟩
  have : R = .one 97 98 none ∨ R = .one 98 99 (some ⟨"all", "left", [97, 98]⟩) ∨ R = .two 97 98 98 97 ∨ R = .call 99 97 [97, 98, 98] ∨ R = .one 99 99 (some ⟨"some", "others", [99]⟩) := by
    simpa [W0] using hR
  rcases this with rfl | rfl | rfl | rfl | rfl
  · exact ⟨by decide, by decide, fun G e => nomatch e⟩
  · refine ⟨by decide, by decide, fun G e => ?_⟩
    cases e
    exact ⟨by decide, by decide, fun c => absurd c (by decide), by decide, by decide⟩
  · exact ⟨by decide, by decide, by decide, by decide⟩
  · exact ⟨by decide, by decide, by decide, by decide⟩
  · refine ⟨by decide, by decide, fun G e => ?_⟩
    cases e
    exact ⟨by decide, by decide, fun c => absurd c (by decide), by decide, by decide⟩
def L0 : List Str := ["letters abc", "row", "one a -> b", "one b -> c when all left in ab", "two ab -> ba", "call c -> a by abb", "one c -> c when some others in c", "begin a+|.[ab]*c", "bad .*cc.*", ""]
theorem text0 : textW W0 = Txt.join "\n" L0 := by decide +kernel
section
variable {P : Program} {w : World} {K : PySem.W.Frag} {mg : Str → Option Value} {base : Heap}
def sp_law_world : Sp := fun vs H Q _ => ∃ r : Addr, vs = [.ref r] ∧ RowAt H r ∧ ∀ H' a W, Off r H H' → RowAt H' r → WdAt H' a W → W.Ok → Q (.ref a) H'
theorem ok_law_world (T : TX K mg) : FnOk P w K mg base CX0 6 T.a_law_world T.fd_law_world ["well"] sp_law_world := by
  have G_law_draw : FnOk P w K mg base CX0 1 T.a_law_draw T.fd_law_draw ["well", "many"] sp_law_draw := ok_law_draw T
  have G_law_letters : FnOk P w K mg base CX0 2 T.a_law_letters T.fd_law_letters ["well"] sp_law_letters := ok_law_letters T
  have G_law_rule : FnOk P w K mg base CX0 4 T.a_law_rule T.fd_law_rule ["well", "letters", "shape", "kind"] sp_law_rule := ok_law_rule T
  have G_law_pattern : FnOk P w K mg base CX0 5 T.a_law_pattern T.fd_law_pattern ["well", "letters"] (sp_text 30) := ok_law_pattern T
  refine T.F_law_world.ok sc_law_world (fun vs H Q E h => ?_) (fun cdv A outer s H vs Q E hr h => ?_)
  · obtain ⟨r, rfl, _⟩ := h
    rfl
  · obtain ⟨r, rfl, hR, q⟩ := h
    refine ⟨_, (pss_cons (ps_set (i := 1) sc_law_world.nd rfl (Or.inr rfl) (pe_call G_law_letters (hr.mono (by decide)) (by rfl) T.g_law_letters T.F_law_letters.kp T.b_law_letters .nil pass0 (pa_cons (pv 0) pa_nil)))
      (pss_cons (ps_set (i := 2) sc_law_world.nd rfl (Or.inr rfl) (pe_ix (ix_listK K rfl) (pe_lst (pa_cons pe_str (pa_cons pe_str pa_nil))) (pe_call G_law_draw (hr.mono (by decide)) (by rfl) T.g_law_draw T.F_law_draw.kp T.b_law_draw .nil pass0 (pa_cons (pv 0) (pa_cons pe_int pa_nil))) (fun _ _ => rfl)))
      (pss_cons (ps_set (i := 3) sc_law_world.nd rfl (Or.inl rfl) (pe_ix (ix_listK K rfl) (pe_lst (pa_cons pe_int (pa_cons pe_int (pa_cons pe_int (pa_cons pe_int (pa_cons pe_int (pa_cons (pe_call G_law_draw (hr.mono (by decide)) (by rfl) T.g_law_draw T.F_law_draw.kp T.b_law_draw .nil pass0 (pa_cons (pv 0) (pa_cons pe_int pa_nil))) pa_nil))))))) (pe_call G_law_draw (hr.mono (by decide)) (by rfl) T.g_law_draw T.F_law_draw.kp T.b_law_draw .nil pass0 (pa_cons (pv 0) (pa_cons pe_int pa_nil))) (fun _ _ => rfl)))
      (pss_cons (ps_set (i := 4) sc_law_world.nd rfl (Or.inl rfl) (pe_callTy (call_tupleK K rfl) (by rfl) T.m_tuple (by decide +kernel) (pa_cons (pe_lc (own := [("k", 5)]) (g := gName 5) (tt := tYes) (by rfl) sc_law_world.nd (pi_range1 (by rfl) T.m_range (pa_cons (pv 3) pa_nil)) (blkOk_by (own := [("k", 5)]) (N := N_law_world) (by kernel_rfl)) (fun _ _ _ _ _ => (pg_name (i := 5) sc_law_world.nd rfl (Or.inl rfl))) (fun _ _ _ _ _ => pts_nil) (fun _ _ _ _ _ => (pe_call G_law_rule (hr.mono (by decide)) (by rfl) T.g_law_rule T.F_law_rule.kp T.b_law_rule .nil pass0 (pa_cons (pv 0) (pa_cons (pv 1) (pa_cons (pv 2) (pa_cons (pe_call G_law_draw (hr.mono (by decide)) (by rfl) T.g_law_draw T.F_law_draw.kp T.b_law_draw .nil pass0 (pa_cons (pv 0) (pa_cons pe_int pa_nil))) pa_nil))))))) pa_nil)))
      (pss_one (ps_ret (pe_tup (pa_cons (pv 1) (pa_cons (pv 2) (pa_cons (pv 4) (pa_cons (pe_call G_law_pattern (hr.mono (by decide)) (by rfl) T.g_law_pattern T.F_law_pattern.kp T.b_law_pattern .nil pass0 (pa_cons (pv 0) (pa_cons (pv 1) pa_nil))) (pa_cons (pe_call G_law_pattern (hr.mono (by decide)) (by rfl) T.g_law_pattern T.F_law_pattern.kp T.b_law_pattern .nil pass0 (pa_cons (pv 0) (pa_cons (pv 1) pa_nil))) pa_nil)))))))))))), ?_⟩
    refine ⟨.ref r, rfl, r, rfl, hR, fun H1 z o1 R1 hz => ?_⟩
    refine ⟨by show 2 ≤ sizeLine; decide, fun p2 n2 => ?_⟩
    refine ⟨.ref r, rfl, r, 2, rfl, R1.new n2, by decide, by decide, fun H3 g o3 R3 g0 g1 => ?_⟩
    obtain ⟨sh, esh, hsh⟩ := two_at (a := "row") (b := "ring") g0 g1
    refine ⟨p2, _, g, .str sh, rfl, rfl, .inl (.inl (o3 _ _ (R1.ne n2).symm upd_same)), esh, ?_⟩
    refine ⟨.ref r, rfl, r, 9, rfl, R3, by decide, by decide, fun H4 g4 o4 R4 a0 a1 => ?_⟩
    refine ⟨by show 6 ≤ sizeLine; decide, fun p5 n5 => ?_⟩
    refine ⟨.ref r, rfl, r, 6, rfl, R4.new n5, by decide, by decide, fun H6 g6 o6 R6 b0 b1 => ?_⟩
    obtain ⟨m, em, m0, m8⟩ := six_at b0 b1 a0 a1
    refine ⟨p5, _, g6, .int m, rfl, rfl, .inl (.inl (o6 _ _ (R4.ne n5).symm upd_same)), em, ?_⟩
    have off6 : Off r H H6 := (o1.trans ((Off.new n2).trans o3)).trans (o4.trans ((Off.new n5).trans o6))
    refine ⟨.int m, rfl, m, rfl, by omega, by omega, fun D nD => ?_⟩
    have rD : r ≠ D := R6.ne nD
    have fD : H D = none := off6.free rD nD
    refine lc_it (walk_range (lo := 0) (n := m.toNat)) (fun i H' => Off r H H' ∧ RowAt H' r ∧ ∃ ps rs, H' D = some (.lst (vr ps)) ∧ ps.length = i ∧ RulsAt H' ps rs ∧ ∀ R ∈ rs, R.Ok z sh) ⟨off6.trans (Off.new nD), R6.new nD, [], [], upd_same, rfl, RulsAt.nil, fun R h => by cases h⟩ (fun _ _ _ _ => trivial) (fun i v H7 H7' hi hW hY => ?_) (fun H7 hW => ?_)
    · obtain ⟨o7, R7, ps, rs, e7, l7, ru, rok⟩ := hW
      obtain ⟨rfl, rfl⟩ := hY
      refine ⟨rfl, lcyes ?_⟩
      refine ⟨.ref r, rfl, .str z, rfl, .str sh, rfl, .ref r, rfl, r, 4, rfl, R7, by decide, by decide, fun H8 kd o8 R8 k0 k1 => ?_⟩
      refine ⟨r, z, sh, kd, rfl, R8, hz, fun H9 p9 R o9 R9 hp ok9 _ => ?_⟩
      have e9 := o9 _ _ rD.symm (o8 _ _ rD.symm e7)
      have tp : Tups H7' (upd H9 D (.lst (vr ps ++ [V.ref p9]))) := (Tups.off R7 (o8.trans o9)).trans (Tups.lst e9)
      refine ⟨_, e9, ?_, ((o7.trans o8).trans o9).mut fD, R9.upd rD, ps ++ [p9], rs ++ [R], ?_, ?_, (ru.mono tp).snoc (hp.mono (Tups.lst e9)), mem_snoc rok ok9⟩
      · rw [List.length_map]
        exact small1000 (by omega)
      · rw [upd_same, vr_snoc]
      · rw [List.length_append, l7]
        rfl
    · obtain ⟨o7, R7, ps, rs, e7, l7, ru, rok⟩ := hW
      refine ⟨D, vr ps, rfl, .inl ⟨.inl (.inl e7), fun l nl => ?_⟩⟩
      have R8 := R7.new (o := .tup (vr ps)) nl
      have t8 : Tups H7 (upd H7 l (.tup (vr ps))) := Tups.new nl
      have o8 : Off r H (upd H7 l (.tup (vr ps))) := o7.trans (Off.new nl)
      have e8 : (upd H7 l (.tup (vr ps))) l = some (.tup (vr ps)) := upd_same
      generalize upd H7 l (.tup (vr ps)) = H8 at R8 t8 o8 e8
      refine ⟨.str z, rfl, .str sh, rfl, .ref l, rfl, .ref r, rfl, .str z, rfl, r, z, rfl, R8, hz, fun H9 b o9 R9 sb => ?_⟩
      refine ⟨.ref r, rfl, .str z, rfl, r, z, rfl, R9, hz, fun H10 d o10 R10 sd => ?_⟩
      refine ⟨by show 5 ≤ sizeLine; decide, fun a na => ?_⟩
      have t11 : Tups H8 (upd H10 a (.tup [.str z, .str sh, .ref l, .str b, .str d])) := ((Tups.off R8 o9).trans (Tups.off R9 o10)).trans (Tups.new na)
      refine q _ a ⟨z, sh, rs, b, d⟩ ((o8.trans (o9.trans o10)).trans (Off.new na)) (R10.new na) ⟨l, ps, upd_same, t11 _ _ e8, ru.1, (ru.mono (t8.trans t11)).2⟩ ⟨hz, hsh, ?_, rok, sb.1, sd.1, sb.2, sd.2⟩
      show rs.length ≤ 8
      rw [← ru.1, l7]
      omega
def sp_law_known : Sp := fun vs H Q _ => vs = [] ∧ ∀ H', Q (.bl true) H'
theorem ok_law_known (T : TX K mg) : FnOk P w K mg base CX0 3 T.a_law_known T.fd_law_known [] sp_law_known := by
  have G_show_world : FnOk P w K mg base CX0 2 T.a_show_world T.fd_show_world ["world"] sp_show_world := ok_show_world T
  refine T.F_law_known.ok sc_law_known (fun vs H Q E h => ?_) (fun cdv A outer s H vs Q E hr h => ?_)
  · obtain ⟨rfl, _⟩ := h
    rfl
  · obtain ⟨rfl, q⟩ := h
    refine ⟨_, (pss_cons (ps_set (i := 0) sc_law_known.nd rfl (Or.inl rfl) (pe_tup (pa_cons (pe_tup (pa_cons pe_str (pa_cons pe_str (pa_cons pe_str (pa_cons pe_non pa_nil))))) (pa_cons (pe_tup (pa_cons pe_str (pa_cons pe_str (pa_cons pe_str (pa_cons (pe_tup (pa_cons pe_str (pa_cons pe_str (pa_cons pe_str pa_nil)))) pa_nil))))) (pa_cons (pe_tup (pa_cons pe_str (pa_cons pe_str (pa_cons pe_str (pa_cons pe_str (pa_cons pe_str pa_nil)))))) pa_nil)))))
      (pss_cons (ps_set (i := 0) sc_law_known.nd rfl (Or.inl rfl) (pe_op op_catT (pv 0) (pe_tup (pa_cons (pe_tup (pa_cons pe_str (pa_cons pe_str (pa_cons pe_str (pa_cons pe_str pa_nil))))) (pa_cons (pe_tup (pa_cons pe_str (pa_cons pe_str (pa_cons pe_str (pa_cons (pe_tup (pa_cons pe_str (pa_cons pe_str (pa_cons pe_str pa_nil)))) pa_nil))))) pa_nil)))))
      (pss_cons (ps_set (i := 1) sc_law_known.nd rfl (Or.inl rfl) (pe_lst (pa_cons pe_str (pa_cons pe_str (pa_cons pe_str (pa_cons pe_str (pa_cons pe_str (pa_cons pe_str pa_nil))))))))
      (pss_cons (ps_set (i := 1) sc_law_known.nd rfl (Or.inl rfl) (pe_op op_cat (pv 1) (pe_lst (pa_cons pe_str (pa_cons pe_str (pa_cons pe_str (pa_cons pe_str pa_nil)))))))
      (pss_one (ps_ret (pe_cmpR op_eq (pe_call G_show_world (hr.mono (by decide)) (by rfl) T.g_show_world T.F_show_world.kp T.b_show_world .nil pass0 (pa_cons (pe_tup (pa_cons pe_str (pa_cons pe_str (pa_cons (pv 0) (pa_cons pe_str (pa_cons pe_str pa_nil)))))) pa_nil)) (pe_m1 PySem.F.slot_str_join PySem.F.type_str_join (mt_joinK K rfl) pe_str (pv 1)) (nomark _)))))))), ?_⟩
    refine ⟨by show 4 ≤ sizeLine; decide, fun a1 n1 => ⟨by show 3 ≤ sizeLine; decide, fun g1 m1 => ⟨by show 4 ≤ sizeLine; decide, fun a2 n2 => ⟨by show 5 ≤ sizeLine; decide, fun a3 n3 => ⟨by show 3 ≤ sizeLine; decide, fun r1 k1 => ?_⟩⟩⟩⟩⟩
    refine ⟨.ref r1, rfl, by show 4 ≤ sizeLine; decide, fun a4 n4 => ⟨by show 3 ≤ sizeLine; decide, fun g2 m2 => ⟨by show 4 ≤ sizeLine; decide, fun a5 n5 => ⟨by show 2 ≤ sizeLine; decide, fun r2 k2 => ?_⟩⟩⟩⟩
    have c9 := same_new (o := .tup [.ref a4, .ref a5]) k2
    have c8 := (same_new (o := .tup [.str "one", .str (sg 99), .str (sg 99), .ref g2]) n5).trans c9
    have c7 := (same_new (o := .tup [.str "some", .str "others", .str (tx [99])]) m2).trans c8
    have c6 := (same_new (o := .tup [.str "call", .str (sg 99), .str (sg 97), .str (tx [97, 98, 98])]) n4).trans c7
    have c5 := (same_new (o := .tup [.ref a1, .ref a2, .ref a3]) k1).trans c6
    have c4 := (same_new (o := .tup [.str "two", .str (sg 97), .str (sg 98), .str (sg 98), .str (sg 97)]) n3).trans c5
    have c3 := (same_new (o := .tup [.str "one", .str (sg 98), .str (sg 99), .ref g1]) n2).trans c4
    have c2 := (same_new (o := .tup [.str "all", .str "left", .str (tx [97, 98])]) m1).trans c3
    have f1 := c2 a1 _ (upd_same (o := .tup [.str "one", .str (sg 97), .str (sg 98), .non]))
    have fg1 := c3 g1 _ upd_same
    have f2 := c4 a2 _ upd_same
    have f3 := c5 a3 _ upd_same
    have fr1 := c6 r1 _ upd_same
    have f4 := c7 a4 _ upd_same
    have fg2 := c8 g2 _ upd_same
    have f5 := c9 a5 _ upd_same
    refine ⟨r1, r2, [.ref a1, .ref a2, .ref a3], [.ref a4, .ref a5], rfl, rfl, .inl (.inl fr1), .inl (.inl upd_same), by simp, by show 5 ≤ sizeLine; decide, ⟨fun h => by simp at h, fun _ r3 k3 => ?_⟩⟩
    refine ⟨by show 6 ≤ sizeLine; decide, fun l1 q1 => ?_⟩
    refine ⟨.ref l1, rfl, by show 4 ≤ sizeLine; decide, fun l2 q2 => ?_⟩
    refine ⟨l1, l2, _, _, rfl, rfl, (same_new q2) _ _ upd_same, upd_same, by show 10 ≤ sizeLine; decide, fun l3 q3 => ?_⟩
    refine ⟨.ref r3, rfl, by show 5 ≤ sizeLine; decide, fun a na => ?_⟩
    have e1 := same_new (o := .tup [.str "abc", .str "row", .ref r3, .str "a+|.[ab]*c", .str ".*cc.*"]) na
    have e2 := (same_new (o := .lst (L0.map V.str)) q3).trans e1
    have e3 := (same_new (o := .lst [.str "one c -> c when some others in c", .str "begin a+|.[ab]*c", .str "bad .*cc.*", .str ""]) q2).trans e2
    have e4 := (same_new (o := .lst [.str "letters abc", .str "row", .str "one a -> b", .str "one b -> c when all left in ab", .str "two ab -> ba", .str "call c -> a by abb"]) q1).trans e3
    have e5 := (same_new (o := .tup ([.ref a1, .ref a2, .ref a3] ++ [.ref a4, .ref a5])) k3).trans e4
    have fr3 := e4 r3 _ upd_same
    have fl3 := e1 l3 _ upd_same
    refine ⟨a, W0, rfl, ⟨r3, [a1, a2, a3, a4, a5], upd_same, fr3, rfl, ?_⟩, W0_ok, fun H' s' => ?_⟩
    · have ra : RulsAt _ [a1, a2, a3, a4, a5] W0.rs := .cons (R := .one 97 98 none) ⟨.non, e5 _ _ f1, rfl⟩ (.cons (R := .one 98 99 (some ⟨"all", "left", [97, 98]⟩)) ⟨.ref g1, e5 _ _ f2, g1, rfl, e5 _ _ fg1⟩ (.cons (R := .two 97 98 98 97) (e5 _ _ f3) (.cons (R := .call 99 97 [97, 98, 98]) (e5 _ _ f4) (.cons (R := .one 99 99 (some ⟨"some", "others", [99]⟩)) ⟨.ref g2, e5 _ _ f5, g2, rfl, e5 _ _ fg2⟩ .nil))))
      exact ra.2
    · refine ⟨⟨_, rfl⟩, .ref l3, rfl, "\n", l3, L0, rfl, rfl, .inl (.inl (.inl (s' _ _ fl3))), by decide +kernel, rfl, ?_⟩
      rw [text0, decide_eq_true rfl]
      exact q _
end
end LH

namespace LH
open PySem PySem.Spec PyProof.Rows L2
/-! ### what repr is asked of -/
structure Pl (n k : Nat) (d : PyData) : Prop where
  sh : d.showable = true
  nd : d.hasDict = false
  dp : d.depth ≤ k
  sz : d.shown.length ≤ n
theorem Pl.mono {n k m j : Nat} {d : PyData} (h : Pl n k d) (a : n ≤ m) (b : k ≤ j) : Pl m j d := ⟨h.sh, h.nd, Nat.le_trans h.dp b, Nat.le_trans h.sz a⟩
theorem Pl.str {x : Str} {m : Nat} (h : Sml m x) : Pl (10 * m + 2) 0 (.str x) := by
  refine ⟨rfl, rfl, Nat.le_refl _, ?_⟩
  have h1 := StrLaws.reprText_len x fun c hc => Nat.lt_of_le_of_lt (h.2 c hc) (by decide)
  have h2 := h.1
  show (reprText x).length ≤ _
  omega
theorem Pl.non : Pl 4 0 .none := ⟨rfl, rfl, Nat.le_refl _, by decide⟩
theorem Pl.tup {n k : Nat} : ∀ {ds : List PyData}, (∀ d ∈ ds, Pl n k d) → Pl (ds.length * (n + 2) + 2) (k + 1) (.tuple ds) := fun {ds} h => by
  have all : PyData.showableAll ds = true ∧ PyData.hasDictAll ds = false ∧ PyData.depthAll ds ≤ k ∧ piled (PyData.shownAll ds) ≤ ds.length * (n + 2) := by
    induction ds with
    | nil => exact ⟨rfl, rfl, Nat.zero_le _, Nat.zero_le _⟩
    | cons d r ih =>
      obtain ⟨a1, a2, a3, a4⟩ := ih fun x hx => h x (List.mem_cons_of_mem _ hx)
      have hd := h d List.mem_cons_self
      refine ⟨?_, ?_, ?_, ?_⟩
      · show (PyData.showable d && PyData.showableAll r) = true
        rw [hd.sh, a1]
        rfl
      · show (PyData.hasDict d || PyData.hasDictAll r) = false
        rw [hd.nd, a2]
        rfl
      · show max (PyData.depth d) (PyData.depthAll r) ≤ k
        have := hd.dp
        omega
      · have h1 := hd.sz
        show ((PyData.shown d :: PyData.shownAll r).map fun t => t.length + 2).sum ≤ _
        rw [List.map_cons, List.sum_cons, List.length_cons, Nat.succ_mul]
        have h2 : ((PyData.shownAll r).map fun t => t.length + 2).sum ≤ r.length * (n + 2) := a4
        omega
  obtain ⟨a1, a2, a3, a4⟩ := all
  refine ⟨a1, a2, ?_, ?_⟩
  · show PyData.depthAll ds + 1 ≤ k + 1
    omega
  · have := fmt_text (PyData.shownAll ds)
    show (tupleText (PyData.shownAll ds)).length ≤ _
    omega
def dG : Option Grd → PyData
  | none => .none
  | some G => .tuple [.str G.how, .str G.wh, .str (tx G.sm)]
def dR : Rul → PyData
  | .one x y g => .tuple [.str "one", .str (sg x), .str (sg y), dG g]
  | .two x y u v => .tuple [.str "two", .str (sg x), .str (sg y), .str (sg u), .str (sg v)]
  | .call x y im => .tuple [.str "call", .str (sg x), .str (sg y), .str (tx im)]
def dW (W : Wd) : PyData := .tuple [.str W.z, .str W.sh, .tuple (W.rs.map dR), .str W.b, .str W.d]
theorem dR_at {K : PySem.W.Frag} {H : Hp} {p : Addr} {R : Rul} (h : RulAt H p R) : Dp K H (.ref p) (dR R) := by
  cases R with
  | two x y u v => exact .tup (.inl (.inl h)) (.cons (.str _) (.cons (.str _) (.cons (.str _) (.cons (.str _) (.cons (.str _) .nil)))))
  | call x y im => exact .tup (.inl (.inl h)) (.cons (.str _) (.cons (.str _) (.cons (.str _) (.cons (.str _) .nil))))
  | one x y g =>
    obtain ⟨v, e, hg⟩ := h
    refine .tup (.inl (.inl e)) (.cons (.str _) (.cons (.str _) (.cons (.str _) (.cons ?_ .nil))))
    cases g with
    | none =>
      cases hg
      exact .non
    | some G =>
      obtain ⟨gp, rfl, eg⟩ := hg
      exact .tup (.inl (.inl eg)) (.cons (.str _) (.cons (.str _) (.cons (.str _) .nil)))
theorem dRs_at {K : PySem.W.Frag} {H : Hp} : ∀ {ps : List Addr} {rs : List Rul}, RulsAt H ps rs → DpAll K H (vr ps) (rs.map dR)
  | [], [], _ => .nil
  | [], _ :: _, h => nomatch h.1
  | _ :: _, [], h => nomatch h.1
  | p :: ps, R :: rs, h => .cons (dR_at (h.2 0 p R rfl rfl)) (dRs_at ⟨Nat.succ.inj h.1, fun i a b x y => h.2 (i + 1) a b x y⟩)
theorem dW_at {K : PySem.W.Frag} {H : Hp} {a : Addr} {W : Wd} (h : WdAt H a W) : Dp K H (.ref a) (dW W) := by
  obtain ⟨r, ps, e1, e2, l, q⟩ := h
  exact .tup (.inl (.inl e1)) (.cons (.str _) (.cons (.str _) (.cons (.tup (.inl (.inl e2)) (dRs_at ⟨l, q⟩)) (.cons (.str _) (.cons (.str _) .nil)))))
theorem Sml.tx {z : Str} (hz : IsLet z) {cs : List Nat} (hl : cs.length ≤ 100) (h : ∀ c ∈ cs, c ∈ z.cps.toList) : Sml 100 (tx cs) := ⟨by rw [tx_len']; exact hl, fun c hc => by
  have := (hz.small c (h c hc)).2
  omega⟩
theorem dR_pl {z sh : Str} {R : Rul} (hz : IsLet z) (ok : R.Ok z sh) : Pl 16000 3 (dR R) := by
  have h5 := hz.five
  have S : ∀ {m : Nat} {x : Str}, m ≤ 100 → Sml m x → Pl 3100 1 (.str x) := fun {m x} hm h => (Pl.str h).mono (by omega) (by decide)
  have S1 : ∀ {c : Nat}, c ∈ z.cps.toList → Pl 3100 1 (.str (sg c)) := fun {c} h => S (by decide) (Sml.sg hz h)
  cases R with
  | two x y u v =>
    refine (Pl.tup (n := 3100) (k := 1) (ds := [.str "two", .str (sg x), .str (sg y), .str (sg u), .str (sg v)]) fun d hd => ?_).mono (by show 5 * (3100 + 2) + 2 ≤ 16000; decide) (by decide)
    simp only [List.mem_cons, List.not_mem_nil, or_false] at hd
    rcases hd with rfl | rfl | rfl | rfl | rfl
    · exact S (m := 3) (by decide) (Sml.dec (by decide) (by decide))
    · exact S1 ok.1
    · exact S1 ok.2.1
    · exact S1 ok.2.2.1
    · exact S1 ok.2.2.2
  | call x y im =>
    refine (Pl.tup (n := 3100) (k := 1) (ds := [.str "call", .str (sg x), .str (sg y), .str (tx im)]) fun d hd => ?_).mono (by show 4 * (3100 + 2) + 2 ≤ 16000; decide) (by decide)
    simp only [List.mem_cons, List.not_mem_nil, or_false] at hd
    rcases hd with rfl | rfl | rfl | rfl
    · exact S (m := 4) (by decide) (Sml.dec (by decide) (by decide))
    · exact S1 ok.1
    · exact S1 ok.2.1
    · exact S (m := 100) (by decide) (Sml.tx hz (by rw [ok.2.2.1]; omega) ok.2.2.2)
  | one x y g =>
    refine (Pl.tup (n := 3100) (k := 1) (ds := [.str "one", .str (sg x), .str (sg y), dG g]) fun d hd => ?_).mono (by show 4 * (3100 + 2) + 2 ≤ 16000; decide) (by decide)
    simp only [List.mem_cons, List.not_mem_nil, or_false] at hd
    rcases hd with rfl | rfl | rfl | rfl
    · exact S (m := 3) (by decide) (Sml.dec (by decide) (by decide))
    · exact S1 ok.1
    · exact S1 ok.2.1
    · cases g with
      | none => exact Pl.non.mono (by decide) (by decide)
      | some G =>
        have gk := ok.2.2 G rfl
        have S0 : ∀ {x : Str}, Sml 100 x → Pl 1002 0 (.str x) := fun {x} h => Pl.str h
        refine (Pl.tup (n := 1002) (k := 0) (ds := [.str G.how, .str G.wh, .str (tx G.sm)]) fun d hd => ?_).mono (by show 3 * (1002 + 2) + 2 ≤ 3100; decide) (by decide)
        simp only [List.mem_cons, List.not_mem_nil, or_false] at hd
        rcases hd with rfl | rfl | rfl
        · rcases gk.how with e | e
          · rw [e]; exact S0 (Sml.dec (by decide) (by decide))
          · rw [e]; exact S0 (Sml.dec (by decide) (by decide))
        · rcases gk.wh with e | e | e
          · rw [e]; exact S0 (Sml.dec (by decide) (by decide))
          · rw [e]; exact S0 (Sml.dec (by decide) (by decide))
          · rw [e]; exact S0 (Sml.dec (by decide) (by decide))
        · exact S0 (Sml.tx hz gk.one.2 gk.sm)
theorem dW_pl {W : Wd} (ok : W.Ok) : Pl 1000000 5 (dW W) := by
  have hz := ok.let_
  have h5 := hz.five
  have hm := ok.many
  have S : ∀ {x : Str}, Sml 100 x → Pl 150000 4 (.str x) := fun {x} h => (Pl.str h).mono (by decide) (by decide)
  refine (Pl.tup (n := 150000) (k := 4) (ds := [.str W.z, .str W.sh, .tuple (W.rs.map dR), .str W.b, .str W.d]) fun d hd => ?_).mono (by show 5 * (150000 + 2) + 2 ≤ 1000000; decide) (by decide)
  simp only [List.mem_cons, List.not_mem_nil, or_false] at hd
  rcases hd with rfl | rfl | rfl | rfl | rfl
  · exact S ⟨by omega, fun c hc => by have := (hz.small c hc).2; omega⟩
  · rcases ok.sh with e | e
    · rw [e]; exact S (Sml.dec (by decide) (by decide))
    · rw [e]; exact S (Sml.dec (by decide) (by decide))
  · refine (Pl.tup (n := 16000) (k := 3) (ds := W.rs.map dR) fun d hd => ?_).mono ?_ (by decide)
    · obtain ⟨R, hR, rfl⟩ := List.mem_map.mp hd
      exact dR_pl hz (ok.rs R hR)
    · rw [List.length_map]
      omega
  · exact S ⟨Nat.le_trans ok.b (by decide), ok.bs⟩
  · exact S ⟨Nat.le_trans ok.d (by decide), ok.ds⟩
section
variable {P : Program} {w : World} {K : PySem.W.Frag} {mg : Str → Option Value} {base : Heap}
def sp_law (K : PySem.W.Frag) : Sp := fun vs H Q _ => ∃ (a : Addr) (ns : List Int), vs = [.ref a] ∧ SqL K H a (ns.map V.int) ∧ ns.length ≤ 63 ∧ ∀ H', Q (.bl true) H'
theorem ints_at {ns : List Int} {i : Nat} {x : V} {lo hi : Option Int} (h : ([V.int 0, V.int 5] ++ cutV (ns.map V.int) lo hi)[i]? = some x) : ∃ c, x = .int c := by
  have hm := List.mem_of_getElem? h
  rcases List.mem_append.mp hm with z | z
  · rcases List.mem_cons.mp z with z | z
    · exact ⟨0, z⟩
    · exact ⟨5, List.mem_singleton.mp z⟩
  · unfold cutV at z
    obtain ⟨c, _, rfl⟩ := List.mem_map.mp (List.mem_of_mem_drop (List.mem_of_mem_take z))
    exact ⟨c, rfl⟩
theorem ok_law {f : Addr} {fd : FuncData} (F : Fun K "law" "law" s_law f fd) (T : TX K mg) : FnG P w K mg base 7 f fd ["script"] (sp_law K) := by
  have G_law_well : FnOk P w K mg base CX0 1 T.a_law_well T.fd_law_well ["cell"] sp_law_well := ok_law_well T
  have G_law_world : FnOk P w K mg base CX0 6 T.a_law_world T.fd_law_world ["well"] sp_law_world := ok_law_world T
  have G_show_world : FnOk P w K mg base CX0 2 T.a_show_world T.fd_show_world ["world"] sp_show_world := ok_show_world T
  have G_law_text : FnOk P w K mg base CX0 2 T.a_law_text T.fd_law_text ["world"] sp_show_world := ok_law_text T
  have G_law_known : FnOk P w K mg base CX0 3 T.a_law_known T.fd_law_known [] sp_law_known := ok_law_known T
  refine okG F sc_law (fun vs H Q E h => ?_) (fun cdv A outer s H vs Q E hgd hr h => ?_)
  · obtain ⟨a, ns, rfl, _⟩ := h
    rfl
  · obtain ⟨a, ns, rfl, hS, hlen, q⟩ := h
    refine ⟨_, (pss_cons (ps_for PassesOwn.never rfl (pi_listK K rfl (pe_op op_cat (pe_lst (pa_cons pe_int (pa_cons pe_int pa_nil))) (pe_slice (sl_listK K rfl) (pv 0) po_none (po_some pe_int)))) (pg_name (i := 1) sc_law.nd rfl (Or.inl rfl))
        (pss_cons (ps_set (i := 2) sc_law.nd rfl (Or.inl rfl) (pe_call G_law_world (hr.mono (by decide)) (by rfl) T.g_law_world T.F_law_world.kp T.b_law_world .nil pass0 (pa_cons (pe_call G_law_well (hr.mono (by decide)) (by rfl) T.g_law_well T.F_law_well.kp T.b_law_well .nil pass0 (pa_cons (pv 1) pa_nil)) pa_nil)))
          (pss_cons (ps_set (i := 3) sc_law.nd rfl (Or.inl rfl) (pe_callB (cr_reprD hgd hr.units) (by rfl) T.m_repr (by decide +kernel) (pa_cons (pv 2) pa_nil)))
          (pss_cons (ps_set (i := 4) sc_law.nd rfl (Or.inl rfl) (pe_call G_show_world (hr.mono (by decide)) (by rfl) T.g_show_world T.F_show_world.kp T.b_show_world .nil pass0 (pa_cons (pv 2) pa_nil)))
          (pss_one (ps_if (PW.pt (pw_or (pt_not (pt_val (pe_callB (call_isiK K rfl) (by rfl) T.m_isinstance (by decide +kernel) (pa_cons (pv 4) (pa_cons (pe_bltn (v := .ty "str") (by rfl) T.m_str (by decide +kernel) rfl) pa_nil))))) (pw_or (pt_cmpR op_ne (pv 4) (pe_call G_law_text (hr.mono (by decide)) (by rfl) T.g_law_text T.F_law_text.kp T.b_law_text .nil pass0 (pa_cons (pv 2) pa_nil)) (nomark _)) (pw_or1 (pt_cmpR op_ne (pe_callB (cr_reprD hgd hr.units) (by rfl) T.m_repr (by decide +kernel) (pa_cons (pv 2) pa_nil)) (pv 3) (nomark _))))))
            (pss_one (ps_ret pe_bl))
            pss_nil))))))
      (pss_one (ps_ret (pe_call0 G_law_known (hr.mono (by decide)) (by rfl) T.g_law_known T.F_law_known.kp T.b_law_known .nil pass0)))), ?_⟩
    refine ⟨by show 2 ≤ sizeLine; decide, fun p1 n1 => ?_⟩
    refine ⟨.ref a, rfl, 38, rfl, a, _, rfl, (same_new n1).seq hS, fun p2 n2 => ?_⟩
    refine ⟨p1, p2, [.int 0, .int 5], _, rfl, rfl, ?_, upd_same, ?_, fun p3 n3 => ?_⟩
    · exact (same_new n2) _ _ upd_same
    · have := cutV_length (ns.map V.int) none (some 38)
      rw [List.length_map] at this
      exact Nat.le_trans (show 2 + (cutV (ns.map V.int) none (some 38)).length ≤ 100 by omega) (by decide)
    refine ⟨p3, rfl, ⟨_, .inl (.inl upd_same)⟩, ?_⟩
    refine for_it (walk_list (K := K) (a := p3) (xs := [V.int 0, V.int 5] ++ cutV (ns.map V.int) none (some 38))) (fun i σ H' => H' p3 = some (.lst ([V.int 0, V.int 5] ++ cutV (ns.map V.int) none (some 38))) ∧ ∃ y1 y2 y3 y4, σ = [some (.ref a), y1, y2, y3, y4]) ⟨upd_same, none, none, none, none, rfl⟩ (fun i σ H' _ hP => .inl (.inl hP.1)) (fun i x σ H0 H0' hi hW hY => ?_) (fun σ H1 hW => ?_)
    · obtain ⟨h3, y1, y2, y3, y4, rfl⟩ := hW
      obtain ⟨rfl, hx⟩ := hY
      obtain ⟨c, rfl⟩ := ints_at hx
      refine ⟨.int c, rfl, c, rfl, fun H1 r s1 nr R1 => ?_⟩
      refine ⟨r, rfl, R1, fun H2 wa W o2 R2 hW ok => ?_⟩
      have pl := dW_pl ok
      have zz : (dW W).shown.length ≤ sizeLine := Nat.le_trans pl.sz (by decide)
      have d60 : (dW W).depth ≤ 60 := Nat.le_trans pl.dp (by decide)
      have h32 := o2 _ _ (ne_of_none h3 nr) (s1 _ _ h3)
      refine ⟨.ref wa, rfl, wa, dW W, rfl, dW_at hW, pl.sh, pl.nd, d60, zz, ?_⟩
      refine ⟨.ref wa, rfl, wa, W, rfl, hW, ok, fun H3 s3 => ?_⟩
      have hW3 := hW.mono (Tups.same s3)
      refine ⟨.str (textW W), rfl, .str (textW W), .ty "str", .type "str", .type "str", true, rfl, .ty _, .base (.str _), kit_ty (by decide +kernel), true, rfl, iteF ?_⟩
      refine ⟨.str (textW W), rfl, .ref wa, rfl, wa, W, rfl, hW3, ok, fun H4 s4 => ⟨rfl, false, by rw [decide_eq_true rfl]; rfl, iteF ?_⟩⟩
      refine ⟨.ref wa, rfl, wa, dW W, rfl, dW_at (hW3.mono (Tups.same s4)), pl.sh, pl.nd, d60, zz, .str (dW W).shown, rfl, rfl, false, by rw [decide_eq_true rfl]; rfl, iteF ?_⟩
      exact ⟨s4 _ _ (s3 _ _ h32), _, _, _, _, rfl⟩
    · obtain ⟨h3, y1, y2, y3, y4, rfl⟩ := hW
      exact ⟨rfl, fun H' => q _⟩
end
end LH

namespace LH
open PySem PySem.Spec PyProof.Rows L2
theorem all_mk {l : PySem.W.OpenLaw} {w : World} {K : PySem.W.Frag} {h : Heap} {mg : Str → Option Value} {fa : Addr} (X : K.In h) (G : h.Ns mainGlobals mg) (hfa : mg "law" = some (.ref fa))
    {f_show_world : Addr} {od_show_world an_show_world : Option Addr} {sl_show_world : Array (Option Value)} {oc_show_world kV_show_world dc_show_world pm_show_world cd_show_world ct_show_world : Value}
    (a_show_world : PySem.W.nsIn K mainGlobals "show_world" = some (some (.ref f_show_world))) (l_show_world : K.lookup f_show_world = some ⟨oc_show_world, od_show_world, .func (PySem.W.fnOf "show_world" "show_world" (defArgs s_show_world) (defBody s_show_world) (defScope s_show_world) .none kV_show_world dc_show_world pm_show_world an_show_world cd_show_world ct_show_world), sl_show_world⟩) (c_show_world : PySem.W.codeIn K cd_show_world "show_world" = true) (k_show_world : PySem.W.keepIn K (.ref f_show_world) = true)
    {f_show_rule : Addr} {od_show_rule an_show_rule : Option Addr} {sl_show_rule : Array (Option Value)} {oc_show_rule kV_show_rule dc_show_rule pm_show_rule cd_show_rule ct_show_rule : Value}
    (a_show_rule : PySem.W.nsIn K mainGlobals "show_rule" = some (some (.ref f_show_rule))) (l_show_rule : K.lookup f_show_rule = some ⟨oc_show_rule, od_show_rule, .func (PySem.W.fnOf "show_rule" "show_rule" (defArgs s_show_rule) (defBody s_show_rule) (defScope s_show_rule) .none kV_show_rule dc_show_rule pm_show_rule an_show_rule cd_show_rule ct_show_rule), sl_show_rule⟩) (c_show_rule : PySem.W.codeIn K cd_show_rule "show_rule" = true) (k_show_rule : PySem.W.keepIn K (.ref f_show_rule) = true)
    {f_law_well : Addr} {od_law_well an_law_well : Option Addr} {sl_law_well : Array (Option Value)} {oc_law_well kV_law_well dc_law_well pm_law_well cd_law_well ct_law_well : Value}
    (a_law_well : PySem.W.nsIn K mainGlobals "_law_well" = some (some (.ref f_law_well))) (l_law_well : K.lookup f_law_well = some ⟨oc_law_well, od_law_well, .func (PySem.W.fnOf "_law_well" "_law_well" (defArgs s_law_well) (defBody s_law_well) (defScope s_law_well) .none kV_law_well dc_law_well pm_law_well an_law_well cd_law_well ct_law_well), sl_law_well⟩) (c_law_well : PySem.W.codeIn K cd_law_well "_law_well" = true) (k_law_well : PySem.W.keepIn K (.ref f_law_well) = true)
    {f_law_draw : Addr} {od_law_draw an_law_draw : Option Addr} {sl_law_draw : Array (Option Value)} {oc_law_draw kV_law_draw dc_law_draw pm_law_draw cd_law_draw ct_law_draw : Value}
    (a_law_draw : PySem.W.nsIn K mainGlobals "_law_draw" = some (some (.ref f_law_draw))) (l_law_draw : K.lookup f_law_draw = some ⟨oc_law_draw, od_law_draw, .func (PySem.W.fnOf "_law_draw" "_law_draw" (defArgs s_law_draw) (defBody s_law_draw) (defScope s_law_draw) .none kV_law_draw dc_law_draw pm_law_draw an_law_draw cd_law_draw ct_law_draw), sl_law_draw⟩) (c_law_draw : PySem.W.codeIn K cd_law_draw "_law_draw" = true) (k_law_draw : PySem.W.keepIn K (.ref f_law_draw) = true)
    {f_law_letters : Addr} {od_law_letters an_law_letters : Option Addr} {sl_law_letters : Array (Option Value)} {oc_law_letters kV_law_letters dc_law_letters pm_law_letters cd_law_letters ct_law_letters : Value}
    (a_law_letters : PySem.W.nsIn K mainGlobals "_law_letters" = some (some (.ref f_law_letters))) (l_law_letters : K.lookup f_law_letters = some ⟨oc_law_letters, od_law_letters, .func (PySem.W.fnOf "_law_letters" "_law_letters" (defArgs s_law_letters) (defBody s_law_letters) (defScope s_law_letters) .none kV_law_letters dc_law_letters pm_law_letters an_law_letters cd_law_letters ct_law_letters), sl_law_letters⟩) (c_law_letters : PySem.W.codeIn K cd_law_letters "_law_letters" = true) (k_law_letters : PySem.W.keepIn K (.ref f_law_letters) = true)
    {f_law_one_of : Addr} {od_law_one_of an_law_one_of : Option Addr} {sl_law_one_of : Array (Option Value)} {oc_law_one_of kV_law_one_of dc_law_one_of pm_law_one_of cd_law_one_of ct_law_one_of : Value}
    (a_law_one_of : PySem.W.nsIn K mainGlobals "_law_one_of" = some (some (.ref f_law_one_of))) (l_law_one_of : K.lookup f_law_one_of = some ⟨oc_law_one_of, od_law_one_of, .func (PySem.W.fnOf "_law_one_of" "_law_one_of" (defArgs s_law_one_of) (defBody s_law_one_of) (defScope s_law_one_of) .none kV_law_one_of dc_law_one_of pm_law_one_of an_law_one_of cd_law_one_of ct_law_one_of), sl_law_one_of⟩) (c_law_one_of : PySem.W.codeIn K cd_law_one_of "_law_one_of" = true) (k_law_one_of : PySem.W.keepIn K (.ref f_law_one_of) = true)
    {f_law_some : Addr} {od_law_some an_law_some : Option Addr} {sl_law_some : Array (Option Value)} {oc_law_some kV_law_some dc_law_some pm_law_some cd_law_some ct_law_some : Value}
    (a_law_some : PySem.W.nsIn K mainGlobals "_law_some" = some (some (.ref f_law_some))) (l_law_some : K.lookup f_law_some = some ⟨oc_law_some, od_law_some, .func (PySem.W.fnOf "_law_some" "_law_some" (defArgs s_law_some) (defBody s_law_some) (defScope s_law_some) .none kV_law_some dc_law_some pm_law_some an_law_some cd_law_some ct_law_some), sl_law_some⟩) (c_law_some : PySem.W.codeIn K cd_law_some "_law_some" = true) (k_law_some : PySem.W.keepIn K (.ref f_law_some) = true)
    {f_law_rule : Addr} {od_law_rule an_law_rule : Option Addr} {sl_law_rule : Array (Option Value)} {oc_law_rule kV_law_rule dc_law_rule pm_law_rule cd_law_rule ct_law_rule : Value}
    (a_law_rule : PySem.W.nsIn K mainGlobals "_law_rule" = some (some (.ref f_law_rule))) (l_law_rule : K.lookup f_law_rule = some ⟨oc_law_rule, od_law_rule, .func (PySem.W.fnOf "_law_rule" "_law_rule" (defArgs s_law_rule) (defBody s_law_rule) (defScope s_law_rule) .none kV_law_rule dc_law_rule pm_law_rule an_law_rule cd_law_rule ct_law_rule), sl_law_rule⟩) (c_law_rule : PySem.W.codeIn K cd_law_rule "_law_rule" = true) (k_law_rule : PySem.W.keepIn K (.ref f_law_rule) = true)
    {f_law_item : Addr} {od_law_item an_law_item : Option Addr} {sl_law_item : Array (Option Value)} {oc_law_item kV_law_item dc_law_item pm_law_item cd_law_item ct_law_item : Value}
    (a_law_item : PySem.W.nsIn K mainGlobals "_law_item" = some (some (.ref f_law_item))) (l_law_item : K.lookup f_law_item = some ⟨oc_law_item, od_law_item, .func (PySem.W.fnOf "_law_item" "_law_item" (defArgs s_law_item) (defBody s_law_item) (defScope s_law_item) .none kV_law_item dc_law_item pm_law_item an_law_item cd_law_item ct_law_item), sl_law_item⟩) (c_law_item : PySem.W.codeIn K cd_law_item "_law_item" = true) (k_law_item : PySem.W.keepIn K (.ref f_law_item) = true)
    {f_law_pattern : Addr} {od_law_pattern an_law_pattern : Option Addr} {sl_law_pattern : Array (Option Value)} {oc_law_pattern kV_law_pattern dc_law_pattern pm_law_pattern cd_law_pattern ct_law_pattern : Value}
    (a_law_pattern : PySem.W.nsIn K mainGlobals "_law_pattern" = some (some (.ref f_law_pattern))) (l_law_pattern : K.lookup f_law_pattern = some ⟨oc_law_pattern, od_law_pattern, .func (PySem.W.fnOf "_law_pattern" "_law_pattern" (defArgs s_law_pattern) (defBody s_law_pattern) (defScope s_law_pattern) .none kV_law_pattern dc_law_pattern pm_law_pattern an_law_pattern cd_law_pattern ct_law_pattern), sl_law_pattern⟩) (c_law_pattern : PySem.W.codeIn K cd_law_pattern "_law_pattern" = true) (k_law_pattern : PySem.W.keepIn K (.ref f_law_pattern) = true)
    {f_law_world : Addr} {od_law_world an_law_world : Option Addr} {sl_law_world : Array (Option Value)} {oc_law_world kV_law_world dc_law_world pm_law_world cd_law_world ct_law_world : Value}
    (a_law_world : PySem.W.nsIn K mainGlobals "_law_world" = some (some (.ref f_law_world))) (l_law_world : K.lookup f_law_world = some ⟨oc_law_world, od_law_world, .func (PySem.W.fnOf "_law_world" "_law_world" (defArgs s_law_world) (defBody s_law_world) (defScope s_law_world) .none kV_law_world dc_law_world pm_law_world an_law_world cd_law_world ct_law_world), sl_law_world⟩) (c_law_world : PySem.W.codeIn K cd_law_world "_law_world" = true) (k_law_world : PySem.W.keepIn K (.ref f_law_world) = true)
    {f_law_line : Addr} {od_law_line an_law_line : Option Addr} {sl_law_line : Array (Option Value)} {oc_law_line kV_law_line dc_law_line pm_law_line cd_law_line ct_law_line : Value}
    (a_law_line : PySem.W.nsIn K mainGlobals "_law_line" = some (some (.ref f_law_line))) (l_law_line : K.lookup f_law_line = some ⟨oc_law_line, od_law_line, .func (PySem.W.fnOf "_law_line" "_law_line" (defArgs s_law_line) (defBody s_law_line) (defScope s_law_line) .none kV_law_line dc_law_line pm_law_line an_law_line cd_law_line ct_law_line), sl_law_line⟩) (c_law_line : PySem.W.codeIn K cd_law_line "_law_line" = true) (k_law_line : PySem.W.keepIn K (.ref f_law_line) = true)
    {f_law_text : Addr} {od_law_text an_law_text : Option Addr} {sl_law_text : Array (Option Value)} {oc_law_text kV_law_text dc_law_text pm_law_text cd_law_text ct_law_text : Value}
    (a_law_text : PySem.W.nsIn K mainGlobals "_law_text" = some (some (.ref f_law_text))) (l_law_text : K.lookup f_law_text = some ⟨oc_law_text, od_law_text, .func (PySem.W.fnOf "_law_text" "_law_text" (defArgs s_law_text) (defBody s_law_text) (defScope s_law_text) .none kV_law_text dc_law_text pm_law_text an_law_text cd_law_text ct_law_text), sl_law_text⟩) (c_law_text : PySem.W.codeIn K cd_law_text "_law_text" = true) (k_law_text : PySem.W.keepIn K (.ref f_law_text) = true)
    {f_law_known : Addr} {od_law_known an_law_known : Option Addr} {sl_law_known : Array (Option Value)} {oc_law_known kV_law_known dc_law_known pm_law_known cd_law_known ct_law_known : Value}
    (a_law_known : PySem.W.nsIn K mainGlobals "_law_known" = some (some (.ref f_law_known))) (l_law_known : K.lookup f_law_known = some ⟨oc_law_known, od_law_known, .func (PySem.W.fnOf "_law_known" "_law_known" (defArgs s_law_known) (defBody s_law_known) (defScope s_law_known) .none kV_law_known dc_law_known pm_law_known an_law_known cd_law_known ct_law_known), sl_law_known⟩) (c_law_known : PySem.W.codeIn K cd_law_known "_law_known" = true) (k_law_known : PySem.W.keepIn K (.ref f_law_known) = true)
    {f_law : Addr} {od_law an_law : Option Addr} {sl_law : Array (Option Value)} {oc_law kV_law dc_law pm_law cd_law ct_law : Value}
    (a_law : PySem.W.nsIn K mainGlobals "law" = some (some (.ref f_law))) (l_law : K.lookup f_law = some ⟨oc_law, od_law, .func (PySem.W.fnOf "law" "law" (defArgs s_law) (defBody s_law) (defScope s_law) .none kV_law dc_law pm_law an_law cd_law ct_law), sl_law⟩) (c_law : PySem.W.codeIn K cd_law "law" = true) (k_law : PySem.W.keepIn K (.ref f_law) = true)
    (z_isinstance : PySem.W.nsIn K mainGlobals "isinstance" = some none)
    (z_len : PySem.W.nsIn K mainGlobals "len" = some none)
    (z_min : PySem.W.nsIn K mainGlobals "min" = some none)
    (z_range : PySem.W.nsIn K mainGlobals "range" = some none)
    (z_repr : PySem.W.nsIn K mainGlobals "repr" = some none)
    (z_set : PySem.W.nsIn K mainGlobals "set" = some none)
    (z_sorted : PySem.W.nsIn K mainGlobals "sorted" = some none)
    (z_str : PySem.W.nsIn K mainGlobals "str" = some none)
    (z_tuple : PySem.W.nsIn K mainGlobals "tuple" = some none)
    : ∃ fd : FuncData, (∀ (s : Shared) (v : Value), BindsTo s fd ⟨[v], []⟩ [("script", v)]) ∧ ∀ base : Heap, K.In base → base.Ns mainGlobals mg → FnG l.prog w K mg base 7 fa fd ["script"] (sp_law K) := by
  have e := hfa.symm.trans (PySem.W.mg_of X G a_law)
  cases e
  have F_show_world := fun_mk (st := s_show_world) l_show_world c_show_world k_show_world
  have F_show_rule := fun_mk (st := s_show_rule) l_show_rule c_show_rule k_show_rule
  have F_law_well := fun_mk (st := s_law_well) l_law_well c_law_well k_law_well
  have F_law_draw := fun_mk (st := s_law_draw) l_law_draw c_law_draw k_law_draw
  have F_law_letters := fun_mk (st := s_law_letters) l_law_letters c_law_letters k_law_letters
  have F_law_one_of := fun_mk (st := s_law_one_of) l_law_one_of c_law_one_of k_law_one_of
  have F_law_some := fun_mk (st := s_law_some) l_law_some c_law_some k_law_some
  have F_law_rule := fun_mk (st := s_law_rule) l_law_rule c_law_rule k_law_rule
  have F_law_item := fun_mk (st := s_law_item) l_law_item c_law_item k_law_item
  have F_law_pattern := fun_mk (st := s_law_pattern) l_law_pattern c_law_pattern k_law_pattern
  have F_law_world := fun_mk (st := s_law_world) l_law_world c_law_world k_law_world
  have F_law_line := fun_mk (st := s_law_line) l_law_line c_law_line k_law_line
  have F_law_text := fun_mk (st := s_law_text) l_law_text c_law_text k_law_text
  have F_law_known := fun_mk (st := s_law_known) l_law_known c_law_known k_law_known
  have F_law := fun_mk (st := s_law) l_law c_law k_law
  let T : TX K mg := {
    a_show_world := f_show_world, fd_show_world := _, F_show_world := F_show_world, b_show_world := F_show_world.binds (ps := ["world"]) (fun _ _ _ _ _ _ us hl => match us, hl with | [_], _ => rfl), g_show_world := PySem.W.mg_of X G a_show_world,
    a_show_rule := f_show_rule, fd_show_rule := _, F_show_rule := F_show_rule, b_show_rule := F_show_rule.binds (ps := ["rule"]) (fun _ _ _ _ _ _ us hl => match us, hl with | [_], _ => rfl), g_show_rule := PySem.W.mg_of X G a_show_rule,
    a_law_well := f_law_well, fd_law_well := _, F_law_well := F_law_well, b_law_well := F_law_well.binds (ps := ["cell"]) (fun _ _ _ _ _ _ us hl => match us, hl with | [_], _ => rfl), g_law_well := PySem.W.mg_of X G a_law_well,
    a_law_draw := f_law_draw, fd_law_draw := _, F_law_draw := F_law_draw, b_law_draw := F_law_draw.binds (ps := ["well", "many"]) (fun _ _ _ _ _ _ us hl => match us, hl with | [_, _], _ => rfl), g_law_draw := PySem.W.mg_of X G a_law_draw,
    a_law_letters := f_law_letters, fd_law_letters := _, F_law_letters := F_law_letters, b_law_letters := F_law_letters.binds (ps := ["well"]) (fun _ _ _ _ _ _ us hl => match us, hl with | [_], _ => rfl), g_law_letters := PySem.W.mg_of X G a_law_letters,
    a_law_one_of := f_law_one_of, fd_law_one_of := _, F_law_one_of := F_law_one_of, b_law_one_of := F_law_one_of.binds (ps := ["well", "letters"]) (fun _ _ _ _ _ _ us hl => match us, hl with | [_, _], _ => rfl), g_law_one_of := PySem.W.mg_of X G a_law_one_of,
    a_law_some := f_law_some, fd_law_some := _, F_law_some := F_law_some, b_law_some := F_law_some.binds (ps := ["well", "letters"]) (fun _ _ _ _ _ _ us hl => match us, hl with | [_, _], _ => rfl), g_law_some := PySem.W.mg_of X G a_law_some,
    a_law_rule := f_law_rule, fd_law_rule := _, F_law_rule := F_law_rule, b_law_rule := F_law_rule.binds (ps := ["well", "letters", "shape", "kind"]) (fun _ _ _ _ _ _ us hl => match us, hl with | [_, _, _, _], _ => rfl), g_law_rule := PySem.W.mg_of X G a_law_rule,
    a_law_item := f_law_item, fd_law_item := _, F_law_item := F_law_item, b_law_item := F_law_item.binds (ps := ["well", "letters"]) (fun _ _ _ _ _ _ us hl => match us, hl with | [_, _], _ => rfl), g_law_item := PySem.W.mg_of X G a_law_item,
    a_law_pattern := f_law_pattern, fd_law_pattern := _, F_law_pattern := F_law_pattern, b_law_pattern := F_law_pattern.binds (ps := ["well", "letters"]) (fun _ _ _ _ _ _ us hl => match us, hl with | [_, _], _ => rfl), g_law_pattern := PySem.W.mg_of X G a_law_pattern,
    a_law_world := f_law_world, fd_law_world := _, F_law_world := F_law_world, b_law_world := F_law_world.binds (ps := ["well"]) (fun _ _ _ _ _ _ us hl => match us, hl with | [_], _ => rfl), g_law_world := PySem.W.mg_of X G a_law_world,
    a_law_line := f_law_line, fd_law_line := _, F_law_line := F_law_line, b_law_line := F_law_line.binds (ps := ["rule"]) (fun _ _ _ _ _ _ us hl => match us, hl with | [_], _ => rfl), g_law_line := PySem.W.mg_of X G a_law_line,
    a_law_text := f_law_text, fd_law_text := _, F_law_text := F_law_text, b_law_text := F_law_text.binds (ps := ["world"]) (fun _ _ _ _ _ _ us hl => match us, hl with | [_], _ => rfl), g_law_text := PySem.W.mg_of X G a_law_text,
    a_law_known := f_law_known, fd_law_known := _, F_law_known := F_law_known, b_law_known := F_law_known.binds (ps := []) (fun _ _ _ _ _ _ us hl => match us, hl with | [], _ => rfl), g_law_known := PySem.W.mg_of X G a_law_known,
    m_isinstance := PySem.W.mg_none_of X G z_isinstance,
    m_len := PySem.W.mg_none_of X G z_len,
    m_min := PySem.W.mg_none_of X G z_min,
    m_range := PySem.W.mg_none_of X G z_range,
    m_repr := PySem.W.mg_none_of X G z_repr,
    m_set := PySem.W.mg_none_of X G z_set,
    m_sorted := PySem.W.mg_none_of X G z_sorted,
    m_str := PySem.W.mg_none_of X G z_str,
    m_tuple := PySem.W.mg_none_of X G z_tuple }
  exact ⟨_, fun s v => .of_eq rfl, fun base _ _ => ok_law F_law T⟩
end LH
open PySem PySem.W PyProof.Rows
set_option maxHeartbeats 0 in
theorem PySem.Challenge.cw_likehands_k14_worlds_written_holds : PySem.Challenge.rw_likehands_k14_worlds_written.Holds := by
  w_on; o_law; k_head; (case hw => w_witness2)
  k_fill
  refine LH.walk_ofG (l := PySem.Challenge.rw_likehands_k14_worlds_written) (n := 63) (k := 7) (x := "script") (sp := LH.sp_law) rfl (by decide) rfl ⟨rfl, by decide, by decide⟩ (fun w h Y => PySem.W.kIn_of Y) ?F (fun _ _ a ns hl _ hS => ⟨a, ns, rfl, hS, hl, fun _ => rfl⟩)
  case F =>
    intro w mg fa h KX G hmg
    refine' LH.all_mk KX G hmg ?a_show_world ?l_show_world ?c_show_world ?k_show_world ?a_show_rule ?l_show_rule ?c_show_rule ?k_show_rule ?a_law_well ?l_law_well ?c_law_well ?k_law_well ?a_law_draw ?l_law_draw ?c_law_draw ?k_law_draw ?a_law_letters ?l_law_letters ?c_law_letters ?k_law_letters ?a_law_one_of ?l_law_one_of ?c_law_one_of ?k_law_one_of ?a_law_some ?l_law_some ?c_law_some ?k_law_some ?a_law_rule ?l_law_rule ?c_law_rule ?k_law_rule ?a_law_item ?l_law_item ?c_law_item ?k_law_item ?a_law_pattern ?l_law_pattern ?c_law_pattern ?k_law_pattern ?a_law_world ?l_law_world ?c_law_world ?k_law_world ?a_law_line ?l_law_line ?c_law_line ?k_law_line ?a_law_text ?l_law_text ?c_law_text ?k_law_text ?a_law_known ?l_law_known ?c_law_known ?k_law_known ?a_law ?l_law ?c_law ?k_law ?z_isinstance ?z_len ?z_min ?z_range ?z_repr ?z_set ?z_sorted ?z_str ?z_tuple
    (case a_show_world => k_is)
    (case l_show_world => k_is)
    (case c_show_world => k_is)
    (case k_show_world => k_is)
    (case a_show_rule => k_is)
    (case l_show_rule => k_is)
    (case c_show_rule => k_is)
    (case k_show_rule => k_is)
    (case a_law_well => k_is)
    (case l_law_well => k_is)
    (case c_law_well => k_is)
    (case k_law_well => k_is)
    (case a_law_draw => k_is)
    (case l_law_draw => k_is)
    (case c_law_draw => k_is)
    (case k_law_draw => k_is)
    (case a_law_letters => k_is)
    (case l_law_letters => k_is)
    (case c_law_letters => k_is)
    (case k_law_letters => k_is)
    (case a_law_one_of => k_is)
    (case l_law_one_of => k_is)
    (case c_law_one_of => k_is)
    (case k_law_one_of => k_is)
    (case a_law_some => k_is)
    (case l_law_some => k_is)
    (case c_law_some => k_is)
    (case k_law_some => k_is)
    (case a_law_rule => k_is)
    (case l_law_rule => k_is)
    (case c_law_rule => k_is)
    (case k_law_rule => k_is)
    (case a_law_item => k_is)
    (case l_law_item => k_is)
    (case c_law_item => k_is)
    (case k_law_item => k_is)
    (case a_law_pattern => k_is)
    (case l_law_pattern => k_is)
    (case c_law_pattern => k_is)
    (case k_law_pattern => k_is)
    (case a_law_world => k_is)
    (case l_law_world => k_is)
    (case c_law_world => k_is)
    (case k_law_world => k_is)
    (case a_law_line => k_is)
    (case l_law_line => k_is)
    (case c_law_line => k_is)
    (case k_law_line => k_is)
    (case a_law_text => k_is)
    (case l_law_text => k_is)
    (case c_law_text => k_is)
    (case k_law_text => k_is)
    (case a_law_known => k_is)
    (case l_law_known => k_is)
    (case c_law_known => k_is)
    (case k_law_known => k_is)
    (case a_law => k_is)
    (case l_law => k_is)
    (case c_law => k_is)
    (case k_law => k_is)
    (case z_isinstance => k_is)
    (case z_len => k_is)
    (case z_min => k_is)
    (case z_range => k_is)
    (case z_repr => k_is)
    (case z_set => k_is)
    (case z_sorted => k_is)
    (case z_str => k_is)
    (case z_tuple => k_is)